/- What the statements of this claim stand on: of Q20, what they name -/
import Derived.Test.YtagciepnhjbopaaGreatDoorE42

namespace Go.Proofs.YtagciepnhjbopaaGreatDoor
open Go.RowKit En

theorem maxQ_lt {a b : Rat} (h : a < b) : maxQ a b = b := if_pos h

theorem maxQ_nlt {a b : Rat} (h : ¬ a < b) : maxQ a b = a := if_neg h

theorem meet_c (L M : Nat) (r s t u : Rat) (_hL : L ≤ 30000) (_hM : M ≤ 30000) (_hr : nq r ≤ 9999) (_hs : nq s ≤ 9999) (_ht : nq t ≤ 9999) (_hu : nq u ≤ 9999) (h : ¬ minQ (maxQ r s) (maxQ t u) < maxQ (minQ r s) (minQ t u)) : Cp 65 [.vv L r s, .vv M t u] (.tup [(true, [.sem (.rat (maxQ (minQ r s) (minQ t u))), .sem (.rat (minQ (maxQ r s) (maxQ t u)))]), (false, [.lit (.bool true)])]) := by
  have a1 := nq_minQ r s
  have a2 := nq_maxQ r s
  have a3 := nq_minQ t u
  have a4 := nq_maxQ t u
  by_cases h1 : minQ r s < minQ t u
  · rw [maxQ_lt h1] at h ⊢
    by_cases h2 : maxQ t u < maxQ r s
    · rw [minQ_t h2] at h ⊢
      have k := (cp_of (wk tI1_ok (ds := [none, some true, some true, some false]) (fuel := 40) (obs := [L + L ≤ 65535, M + M ≤ 65535, L + L ≤ 65535, M + M ≤ 65535, decide (cmpQ (minQ r s) (minQ t u) < (0 : Int)) = true, L + L ≤ 65535, M + M ≤ 65535, decide (cmpQ (maxQ r s) (maxQ t u) > (0 : Int)) = true, M + M ≤ 65535, M + M ≤ 65535, decide (cmpQ (minQ t u) (maxQ t u) > (0 : Int)) = false, M + M ≤ 65535, M + M ≤ 65535, nq (minQ t u) ≤ 65535, nq (maxQ t u) ≤ 65535]) (r := AV.tup [(true, [Seg.sem (Kn.rat (minQ (minQ t u) (maxQ t u))), Seg.sem (Kn.rat (maxQ (minQ t u) (maxQ t u)))]), (false, [Seg.lit (Value.bool true)])]) Tryz.func65 rfl (by kernel_rfl) ⟨by omega, by omega, by omega, by omega, lt_d h1, by omega, by omega, gt_d h2, by omega, by omega, ngt_d h, by omega, by omega, by omega, by omega, trivial⟩) : Cp 65 [.vv L r s, .vv M t u] _)
      rw [minQ_f h, maxQ_f h] at k
      exact k
    · rw [minQ_f h2] at h ⊢
      have k := (cp_of (wk tI1_ok (ds := [none, some true, some false, some false]) (fuel := 40) (obs := [L + L ≤ 65535, M + M ≤ 65535, L + L ≤ 65535, M + M ≤ 65535, decide (cmpQ (minQ r s) (minQ t u) < (0 : Int)) = true, L + L ≤ 65535, M + M ≤ 65535, decide (cmpQ (maxQ r s) (maxQ t u) > (0 : Int)) = false, M + M ≤ 65535, L + L ≤ 65535, decide (cmpQ (minQ t u) (maxQ r s) > (0 : Int)) = false, M + M ≤ 65535, L + L ≤ 65535, nq (minQ t u) ≤ 65535, nq (maxQ r s) ≤ 65535]) (r := AV.tup [(true, [Seg.sem (Kn.rat (minQ (minQ t u) (maxQ r s))), Seg.sem (Kn.rat (maxQ (minQ t u) (maxQ r s)))]), (false, [Seg.lit (Value.bool true)])]) Tryz.func65 rfl (by kernel_rfl) ⟨by omega, by omega, by omega, by omega, lt_d h1, by omega, by omega, ngt_d h2, by omega, by omega, ngt_d h, by omega, by omega, by omega, by omega, trivial⟩) : Cp 65 [.vv L r s, .vv M t u] _)
      rw [minQ_f h, maxQ_f h] at k
      exact k
  · rw [maxQ_nlt h1] at h ⊢
    by_cases h2 : maxQ t u < maxQ r s
    · rw [minQ_t h2] at h ⊢
      have k := (cp_of (wk tI1_ok (ds := [none, some false, some true, some false]) (fuel := 40) (obs := [L + L ≤ 65535, M + M ≤ 65535, L + L ≤ 65535, M + M ≤ 65535, decide (cmpQ (minQ r s) (minQ t u) < (0 : Int)) = false, L + L ≤ 65535, M + M ≤ 65535, decide (cmpQ (maxQ r s) (maxQ t u) > (0 : Int)) = true, L + L ≤ 65535, M + M ≤ 65535, decide (cmpQ (minQ r s) (maxQ t u) > (0 : Int)) = false, L + L ≤ 65535, M + M ≤ 65535, nq (minQ r s) ≤ 65535, nq (maxQ t u) ≤ 65535]) (r := AV.tup [(true, [Seg.sem (Kn.rat (minQ (minQ r s) (maxQ t u))), Seg.sem (Kn.rat (maxQ (minQ r s) (maxQ t u)))]), (false, [Seg.lit (Value.bool true)])]) Tryz.func65 rfl (by kernel_rfl) ⟨by omega, by omega, by omega, by omega, nlt_d h1, by omega, by omega, gt_d h2, by omega, by omega, ngt_d h, by omega, by omega, by omega, by omega, trivial⟩) : Cp 65 [.vv L r s, .vv M t u] _)
      rw [minQ_f h, maxQ_f h] at k
      exact k
    · rw [minQ_f h2] at h ⊢
      have k := (cp_of (wk tI1_ok (ds := [none, some false, some false, some false]) (fuel := 40) (obs := [L + L ≤ 65535, M + M ≤ 65535, L + L ≤ 65535, M + M ≤ 65535, decide (cmpQ (minQ r s) (minQ t u) < (0 : Int)) = false, L + L ≤ 65535, M + M ≤ 65535, decide (cmpQ (maxQ r s) (maxQ t u) > (0 : Int)) = false, L + L ≤ 65535, L + L ≤ 65535, decide (cmpQ (minQ r s) (maxQ r s) > (0 : Int)) = false, L + L ≤ 65535, L + L ≤ 65535, nq (minQ r s) ≤ 65535, nq (maxQ r s) ≤ 65535]) (r := AV.tup [(true, [Seg.sem (Kn.rat (minQ (minQ r s) (maxQ r s))), Seg.sem (Kn.rat (maxQ (minQ r s) (maxQ r s)))]), (false, [Seg.lit (Value.bool true)])]) Tryz.func65 rfl (by kernel_rfl) ⟨by omega, by omega, by omega, by omega, nlt_d h1, by omega, by omega, ngt_d h2, by omega, by omega, ngt_d h, by omega, by omega, by omega, by omega, trivial⟩) : Cp 65 [.vv L r s, .vv M t u] _)
      rw [minQ_f h, maxQ_f h] at k
      exact k

theorem meet_0 (L M : Nat) (r s t u : Rat) (_hL : L ≤ 30000) (_hM : M ≤ 30000) (_hr : nq r ≤ 9999) (_hs : nq s ≤ 9999) (_ht : nq t ≤ 9999) (_hu : nq u ≤ 9999) (h : minQ (maxQ r s) (maxQ t u) < maxQ (minQ r s) (minQ t u)) : Cp 65 [.vv L r s, .vv M t u] (.tup [(true, zI), (false, [.lit (.bool false)])]) := by
  have a1 := nq_minQ r s
  have a2 := nq_maxQ r s
  have a3 := nq_minQ t u
  have a4 := nq_maxQ t u
  by_cases h1 : minQ r s < minQ t u
  · rw [maxQ_lt h1] at h
    by_cases h2 : maxQ t u < maxQ r s
    · rw [minQ_t h2] at h
      exact cp_of (wk tI1_ok (ds := [none, some true, some true, some true]) (fuel := 40) (obs := [L + L ≤ 65535, M + M ≤ 65535, L + L ≤ 65535, M + M ≤ 65535, decide (cmpQ (minQ r s) (minQ t u) < (0 : Int)) = true, L + L ≤ 65535, M + M ≤ 65535, decide (cmpQ (maxQ r s) (maxQ t u) > (0 : Int)) = true, M + M ≤ 65535, M + M ≤ 65535, decide (cmpQ (minQ t u) (maxQ t u) > (0 : Int)) = true]) (r := AV.tup [(true, [Seg.lit (Value.bool false), Seg.lit (Value.slice none 0 0), Seg.lit (Value.slice none 0 0), Seg.lit (Value.bool false), Seg.lit (Value.slice none 0 0), Seg.lit (Value.slice none 0 0)]), (false, [Seg.lit (Value.bool false)])]) Tryz.func65 rfl (by kernel_rfl) ⟨by omega, by omega, by omega, by omega, lt_d h1, by omega, by omega, gt_d h2, by omega, by omega, gt_d h, trivial⟩)
    · rw [minQ_f h2] at h
      exact cp_of (wk tI1_ok (ds := [none, some true, some false, some true]) (fuel := 40) (obs := [L + L ≤ 65535, M + M ≤ 65535, L + L ≤ 65535, M + M ≤ 65535, decide (cmpQ (minQ r s) (minQ t u) < (0 : Int)) = true, L + L ≤ 65535, M + M ≤ 65535, decide (cmpQ (maxQ r s) (maxQ t u) > (0 : Int)) = false, M + M ≤ 65535, L + L ≤ 65535, decide (cmpQ (minQ t u) (maxQ r s) > (0 : Int)) = true]) (r := AV.tup [(true, [Seg.lit (Value.bool false), Seg.lit (Value.slice none 0 0), Seg.lit (Value.slice none 0 0), Seg.lit (Value.bool false), Seg.lit (Value.slice none 0 0), Seg.lit (Value.slice none 0 0)]), (false, [Seg.lit (Value.bool false)])]) Tryz.func65 rfl (by kernel_rfl) ⟨by omega, by omega, by omega, by omega, lt_d h1, by omega, by omega, ngt_d h2, by omega, by omega, gt_d h, trivial⟩)
  · rw [maxQ_nlt h1] at h
    by_cases h2 : maxQ t u < maxQ r s
    · rw [minQ_t h2] at h
      exact cp_of (wk tI1_ok (ds := [none, some false, some true, some true]) (fuel := 40) (obs := [L + L ≤ 65535, M + M ≤ 65535, L + L ≤ 65535, M + M ≤ 65535, decide (cmpQ (minQ r s) (minQ t u) < (0 : Int)) = false, L + L ≤ 65535, M + M ≤ 65535, decide (cmpQ (maxQ r s) (maxQ t u) > (0 : Int)) = true, L + L ≤ 65535, M + M ≤ 65535, decide (cmpQ (minQ r s) (maxQ t u) > (0 : Int)) = true]) (r := AV.tup [(true, [Seg.lit (Value.bool false), Seg.lit (Value.slice none 0 0), Seg.lit (Value.slice none 0 0), Seg.lit (Value.bool false), Seg.lit (Value.slice none 0 0), Seg.lit (Value.slice none 0 0)]), (false, [Seg.lit (Value.bool false)])]) Tryz.func65 rfl (by kernel_rfl) ⟨by omega, by omega, by omega, by omega, nlt_d h1, by omega, by omega, gt_d h2, by omega, by omega, gt_d h, trivial⟩)
    · rw [minQ_f h2] at h
      exact cp_of (wk tI1_ok (ds := [none, some false, some false, some true]) (fuel := 40) (obs := [L + L ≤ 65535, M + M ≤ 65535, L + L ≤ 65535, M + M ≤ 65535, decide (cmpQ (minQ r s) (minQ t u) < (0 : Int)) = false, L + L ≤ 65535, M + M ≤ 65535, decide (cmpQ (maxQ r s) (maxQ t u) > (0 : Int)) = false, L + L ≤ 65535, L + L ≤ 65535, decide (cmpQ (minQ r s) (maxQ r s) > (0 : Int)) = true]) (r := AV.tup [(true, [Seg.lit (Value.bool false), Seg.lit (Value.slice none 0 0), Seg.lit (Value.slice none 0 0), Seg.lit (Value.bool false), Seg.lit (Value.slice none 0 0), Seg.lit (Value.slice none 0 0)]), (false, [Seg.lit (Value.bool false)])]) Tryz.func65 rfl (by kernel_rfl) ⟨by omega, by omega, by omega, by omega, nlt_d h1, by omega, by omega, ngt_d h2, by omega, by omega, gt_d h, trivial⟩)

abbrev k_meet : List Pa → Option (List Prop × Av)
  | [.vv L r s, .vv M t u] => some ([L ≤ 30000, M ≤ 30000, nq r ≤ 9999, nq s ≤ 9999, nq t ≤ 9999, nq u ≤ 9999, ¬ minQ (maxQ r s) (maxQ t u) < maxQ (minQ r s) (minQ t u)], .tup [(true, [.sem (.rat (maxQ (minQ r s) (minQ t u))), .sem (.rat (minQ (maxQ r s) (maxQ t u)))]), (false, [.lit (.bool true)])])
  | _ => none

theorem e_meet (args : List Av) (obs : List Prop) (r : Av) : ent [.vv, .vv] k_meet args = some (obs, r) → (∀ p ∈ obs, p) → Cn 65 args r :=
  ent_ok (fun ps obs r h ho => by
    unfold k_meet at h
    split at h
    · cases h; exact meet_c _ _ _ _ _ _ (ho _ (by simp)) (ho _ (by simp)) (ho _ (by simp)) (ho _ (by simp)) (ho _ (by simp)) (ho _ (by simp)) (ho _ (by simp))
    · cases h) args obs r

abbrev k_meet0 : List Pa → Option (List Prop × Av)
  | [.vv L r s, .vv M t u] => some ([L ≤ 30000, M ≤ 30000, nq r ≤ 9999, nq s ≤ 9999, nq t ≤ 9999, nq u ≤ 9999, minQ (maxQ r s) (maxQ t u) < maxQ (minQ r s) (minQ t u)], .tup [(true, zI), (false, [.lit (.bool false)])])
  | _ => none

theorem e_meet0 (args : List Av) (obs : List Prop) (r : Av) : ent [.vv, .vv] k_meet0 args = some (obs, r) → (∀ p ∈ obs, p) → Cn 65 args r :=
  ent_ok (fun ps obs r h ho => by
    unfold k_meet0 at h
    split at h
    · cases h; exact meet_0 _ _ _ _ _ _ (ho _ (by simp)) (ho _ (by simp)) (ho _ (by simp)) (ho _ (by simp)) (ho _ (by simp)) (ho _ (by simp)) (ho _ (by simp))
    · cases h) args obs r

noncomputable def tM4 : List Ent := (65, ent [.vv, .vv] k_meet) :: (14, k_small) :: tG4

theorem tM4_ok : EntsOk tM4 := ⟨e_meet, e_small, tG4_ok⟩

noncomputable def tM4z : List Ent := [(65, ent [.vv, .vv] k_meet0)]

theorem tM4z_ok : EntsOk tM4z := ⟨e_meet0, trivial⟩

theorem meet_ctn {r s t u y : Rat} (h : ¬ minQ (maxQ r s) (maxQ t u) < maxQ (minQ r s) (minQ t u)) : ctn (maxQ (minQ r s) (minQ t u)) (minQ (maxQ r s) (maxQ t u)) y = (ctn r s y && ctn t u y) := by
  rw [Bool.eq_iff_iff, Bool.and_eq_true, ctn_iff, ctn_iff, ctn_iff]
  unfold Btw
  rw [minQ_f h, maxQ_f h]
  generalize minQ r s = a at *
  generalize maxQ r s = b at *
  generalize minQ t u = c at *
  generalize maxQ t u = d at *
  unfold minQ maxQ at *
  grind

theorem meet_no {r s t u y : Rat} (_h : minQ (maxQ r s) (maxQ t u) < maxQ (minQ r s) (minQ t u)) : (ctn r s y && ctn t u y) = false := by
  rw [← Bool.not_eq_true, Bool.and_eq_true, ctn_iff, ctn_iff]
  unfold Btw
  generalize minQ r s = a at *
  generalize maxQ r s = b at *
  generalize minQ t u = c at *
  generalize maxQ t u = d at *
  unfold minQ maxQ at *
  grind

theorem hull_ctn {r s t u y : Rat} (h : ctn r s y = true ∨ ctn t u y = true) : ctn (min4 r s t u) (max4 r s t u) y = true := by
  rw [ctn_iff, ctn_iff] at h
  rw [ctn_iff]
  obtain ⟨h1, h2⟩ := btw_hull r s t u
  have h3 : Btw (min4 r s t u) (max4 r s t u) t ∧ Btw (min4 r s t u) (max4 r s t u) u := by
    unfold Btw
    rw [m4_lo, m4_hi]
    unfold min4 max4 minQ maxQ
    grind
  rcases h with h | h
  · exact btw_trans h1 h2 h
  · exact btw_trans h3.1 h3.2 h

abbrev mY (x y1 y2 : Rat) : List (Seg Kn) := [.sem (.rrat 4 x), .sem (.rat y1), .sem (.rat y2)]

def iMt (r s t u x y1 y2 : Rat) : Hint Kn := ⟨3, fun k => [(.slot 4, .av (.ptr 0 0)), (.slot 5, .av (.ptr 1 0)), (.slot 36, .av (.sl 24 0 3 3)), (.slot 37, .av (avI 3)), (.slot 38, .av (avI k)), (.obj 0, .ob ⟨55, ivSegs 4 r s⟩), (.obj 1, .ob ⟨55, ivSegs 4 t u⟩), (.obj 24, .ob ⟨26, mY x y1 y2⟩)]⟩

def hMt (r s t u x y1 y2 : Rat) : Nat → Option (Hint Kn)
  | 27 => some (iMt r s t u x y1 y2)
  | _ => none

theorem meets_r0 (r s t u x y1 y2 : Rat) (_hr : nq r ≤ 9) (_hs : nq s ≤ 9) (_ht : nq t ≤ 9) (_hu : nq u ≤ 9) (_hy : nq y1 ≤ 400) (_hy' : nq y2 ≤ 400) : ∃ fuel ds obs, roundObs Dn (mkTb3 tM4 tM4z (hMt r s t u x y1 y2)) Tryz.prog Tryz.f13.ntmps fuel (loopAt Tryz.f13 0) (iMt r s t u x y1 y2) 27 0 ds = some obs ∧ ∀ p ∈ obs, p := by
  have a1 := nq_minQ r s
  have a2 := nq_maxQ r s
  have a3 := nq_minQ t u
  have a4 := nq_maxQ t u
  have a5 := nq_maxQ (minQ r s) (minQ t u)
  have a6 := nq_minQ (maxQ r s) (maxQ t u)
  have a7 := nq_min4 r s t u
  have a8 := nq_max4 r s t u
  have e1 := @meet_ctn r s t u x
  have e2 := @meet_no r s t u x
  have e3 := @hull_ctn r s t u x
  by_cases hm : minQ (maxQ r s) (maxQ t u) < maxQ (minQ r s) (minQ t u)
  · have e2 := e2 hm
    cases ca : ctn r s x
    · cases cb : ctn t u x
      · rw [ca, cb] at e2
        exact ⟨40, [none, some false, none, none, some false, none, none, none, some false, none, some false, none, none, none, none, none, none, none, none, none, none, none, none], [4 + 4 ≤ 30000, 4 + 4 ≤ 30000, nq r ≤ 9999, nq s ≤ 9999, nq t ≤ 9999, nq u ≤ 9999, minQ (maxQ r s) (maxQ t u) < maxQ (minQ r s) (minQ t u), 4 + 4 ≤ 30000, 4 ≤ 65535, ctn r s x = false, 4 + 4 ≤ 30000, 4 ≤ 65535, ctn r s x = false, 4 + 4 ≤ 30000, 4 ≤ 65535, ctn t u x = false, @Ct.av Kn (AV.ptr 0 0) = @Ct.av Kn (AV.ptr 0 0), @Ct.av Kn (AV.ptr 1 0) = @Ct.av Kn (AV.ptr 1 0), @Ct.av Kn (AV.sl 24 0 3 3) = @Ct.av Kn (AV.sl 24 0 3 3), @Ct.av Kn (AV.val false [Seg.lit (Value.int IntKind.i64 (3 : Int))]) = @Ct.av Kn (AV.val false [Seg.lit (Value.int IntKind.i64 (3 : Int))]), @Ct.av Kn (AV.val false [Seg.lit (Value.int IntKind.i64 (IntKind.wrap IntKind.i64 ((↑0 : Int) + (1 : Int))))]) = @Ct.av Kn (AV.val false [Seg.lit (Value.int IntKind.i64 (↑1 : Int))]), @Ct.ob Kn { T := 55, ss := [Seg.sem (Kn.rrat 4 r), Seg.sem (Kn.rrat 4 s)] } = @Ct.ob Kn { T := 55, ss := [Seg.sem (Kn.rrat 4 r), Seg.sem (Kn.rrat 4 s)] }, @Ct.ob Kn { T := 55, ss := [Seg.sem (Kn.rrat 4 t), Seg.sem (Kn.rrat 4 u)] } = @Ct.ob Kn { T := 55, ss := [Seg.sem (Kn.rrat 4 t), Seg.sem (Kn.rrat 4 u)] }, @Ct.ob Kn { T := 26, ss := [Seg.sem (Kn.rrat 4 x), Seg.sem (Kn.rat y1), Seg.sem (Kn.rat y2)] } = @Ct.ob Kn { T := 26, ss := [Seg.sem (Kn.rrat 4 x), Seg.sem (Kn.rat y1), Seg.sem (Kn.rat y2)] }], (by kernel_rfl), allp (by (repeat' (first | exact trivial | refine And.intro ?_ ?_)); all_goals first | rfl | assumption | omega)⟩
      · rw [ca, cb] at e2
        have e3 := e3 (Or.inr cb)
        exact ⟨40, [none, some false, none, none, some false, none, none, none, some false, none, some true, none, none, none, none, none, none, none, none, none, none, some true, none, none, none], [4 + 4 ≤ 30000, 4 + 4 ≤ 30000, nq r ≤ 9999, nq s ≤ 9999, nq t ≤ 9999, nq u ≤ 9999, minQ (maxQ r s) (maxQ t u) < maxQ (minQ r s) (minQ t u), 4 + 4 ≤ 30000, 4 ≤ 65535, ctn r s x = false, 4 + 4 ≤ 30000, 4 ≤ 65535, ctn r s x = false, 4 + 4 ≤ 30000, 4 ≤ 65535, ctn t u x = true, 4 + 4 ≤ 30000, 4 + 4 = 4 + 4, nq r ≤ 9999, nq s ≤ 9999, nq t ≤ 9999, nq u ≤ 9999, nq (min4 r s t u) + nq (max4 r s t u) ≤ 30000, 4 ≤ 65535, ctn (min4 r s t u) (max4 r s t u) x = true, @Ct.av Kn (AV.ptr 0 0) = @Ct.av Kn (AV.ptr 0 0), @Ct.av Kn (AV.ptr 1 0) = @Ct.av Kn (AV.ptr 1 0), @Ct.av Kn (AV.sl 24 0 3 3) = @Ct.av Kn (AV.sl 24 0 3 3), @Ct.av Kn (AV.val false [Seg.lit (Value.int IntKind.i64 (3 : Int))]) = @Ct.av Kn (AV.val false [Seg.lit (Value.int IntKind.i64 (3 : Int))]), @Ct.av Kn (AV.val false [Seg.lit (Value.int IntKind.i64 (IntKind.wrap IntKind.i64 ((↑0 : Int) + (1 : Int))))]) = @Ct.av Kn (AV.val false [Seg.lit (Value.int IntKind.i64 (↑1 : Int))]), @Ct.ob Kn { T := 55, ss := [Seg.sem (Kn.rrat 4 r), Seg.sem (Kn.rrat 4 s)] } = @Ct.ob Kn { T := 55, ss := [Seg.sem (Kn.rrat 4 r), Seg.sem (Kn.rrat 4 s)] }, @Ct.ob Kn { T := 55, ss := [Seg.sem (Kn.rrat 4 t), Seg.sem (Kn.rrat 4 u)] } = @Ct.ob Kn { T := 55, ss := [Seg.sem (Kn.rrat 4 t), Seg.sem (Kn.rrat 4 u)] }, @Ct.ob Kn { T := 26, ss := [Seg.sem (Kn.rrat 4 x), Seg.sem (Kn.rat y1), Seg.sem (Kn.rat y2)] } = @Ct.ob Kn { T := 26, ss := [Seg.sem (Kn.rrat 4 x), Seg.sem (Kn.rat y1), Seg.sem (Kn.rat y2)] }], (by kernel_rfl), allp (by (repeat' (first | exact trivial | refine And.intro ?_ ?_)); all_goals first | rfl | assumption | omega)⟩
    · cases cb : ctn t u x
      · rw [ca, cb] at e2
        have e3 := e3 (Or.inl ca)
        exact ⟨40, [none, some false, none, none, some true, none, some false, none, none, some true, none, none, none, none, none, none, none, none, none, none, none, some true, none, none, none], [4 + 4 ≤ 30000, 4 + 4 ≤ 30000, nq r ≤ 9999, nq s ≤ 9999, nq t ≤ 9999, nq u ≤ 9999, minQ (maxQ r s) (maxQ t u) < maxQ (minQ r s) (minQ t u), 4 + 4 ≤ 30000, 4 ≤ 65535, ctn r s x = true, 4 + 4 ≤ 30000, 4 ≤ 65535, ctn t u x = false, 4 + 4 ≤ 30000, 4 ≤ 65535, ctn r s x = true, 4 + 4 ≤ 30000, 4 + 4 = 4 + 4, nq r ≤ 9999, nq s ≤ 9999, nq t ≤ 9999, nq u ≤ 9999, nq (min4 r s t u) + nq (max4 r s t u) ≤ 30000, 4 ≤ 65535, ctn (min4 r s t u) (max4 r s t u) x = true, @Ct.av Kn (AV.ptr 0 0) = @Ct.av Kn (AV.ptr 0 0), @Ct.av Kn (AV.ptr 1 0) = @Ct.av Kn (AV.ptr 1 0), @Ct.av Kn (AV.sl 24 0 3 3) = @Ct.av Kn (AV.sl 24 0 3 3), @Ct.av Kn (AV.val false [Seg.lit (Value.int IntKind.i64 (3 : Int))]) = @Ct.av Kn (AV.val false [Seg.lit (Value.int IntKind.i64 (3 : Int))]), @Ct.av Kn (AV.val false [Seg.lit (Value.int IntKind.i64 (IntKind.wrap IntKind.i64 ((↑0 : Int) + (1 : Int))))]) = @Ct.av Kn (AV.val false [Seg.lit (Value.int IntKind.i64 (↑1 : Int))]), @Ct.ob Kn { T := 55, ss := [Seg.sem (Kn.rrat 4 r), Seg.sem (Kn.rrat 4 s)] } = @Ct.ob Kn { T := 55, ss := [Seg.sem (Kn.rrat 4 r), Seg.sem (Kn.rrat 4 s)] }, @Ct.ob Kn { T := 55, ss := [Seg.sem (Kn.rrat 4 t), Seg.sem (Kn.rrat 4 u)] } = @Ct.ob Kn { T := 55, ss := [Seg.sem (Kn.rrat 4 t), Seg.sem (Kn.rrat 4 u)] }, @Ct.ob Kn { T := 26, ss := [Seg.sem (Kn.rrat 4 x), Seg.sem (Kn.rat y1), Seg.sem (Kn.rat y2)] } = @Ct.ob Kn { T := 26, ss := [Seg.sem (Kn.rrat 4 x), Seg.sem (Kn.rat y1), Seg.sem (Kn.rat y2)] }], (by kernel_rfl), allp (by (repeat' (first | exact trivial | refine And.intro ?_ ?_)); all_goals first | rfl | assumption | omega)⟩
      · rw [ca, cb] at e2
        cases e2
  · have e1 := e1 hm
    cases ca : ctn r s x
    · cases cb : ctn t u x
      · rw [ca, cb] at e1
        exact ⟨40, [none, some true, none, none, some false, none, none, none, some false, none, some false, none, none, none, none, none, some false, none, none, none, none, none, none, none], [4 + 4 ≤ 30000, 4 + 4 ≤ 30000, nq r ≤ 9999, nq s ≤ 9999, nq t ≤ 9999, nq u ≤ 9999, ¬minQ (maxQ r s) (maxQ t u) < maxQ (minQ r s) (minQ t u), 4 + 4 ≤ 30000, 4 ≤ 65535, ctn r s x = false, 4 + 4 ≤ 30000, 4 ≤ 65535, ctn r s x = false, 4 + 4 ≤ 30000, 4 ≤ 65535, ctn t u x = false, nq (maxQ (minQ r s) (minQ t u)) + nq (minQ (maxQ r s) (maxQ t u)) ≤ 30000, 4 ≤ 65535, ctn (maxQ (minQ r s) (minQ t u)) (minQ (maxQ r s) (maxQ t u)) x = false, @Ct.av Kn (AV.ptr 0 0) = @Ct.av Kn (AV.ptr 0 0), @Ct.av Kn (AV.ptr 1 0) = @Ct.av Kn (AV.ptr 1 0), @Ct.av Kn (AV.sl 24 0 3 3) = @Ct.av Kn (AV.sl 24 0 3 3), @Ct.av Kn (AV.val false [Seg.lit (Value.int IntKind.i64 (3 : Int))]) = @Ct.av Kn (AV.val false [Seg.lit (Value.int IntKind.i64 (3 : Int))]), @Ct.av Kn (AV.val false [Seg.lit (Value.int IntKind.i64 (IntKind.wrap IntKind.i64 ((↑0 : Int) + (1 : Int))))]) = @Ct.av Kn (AV.val false [Seg.lit (Value.int IntKind.i64 (↑1 : Int))]), @Ct.ob Kn { T := 55, ss := [Seg.sem (Kn.rrat 4 r), Seg.sem (Kn.rrat 4 s)] } = @Ct.ob Kn { T := 55, ss := [Seg.sem (Kn.rrat 4 r), Seg.sem (Kn.rrat 4 s)] }, @Ct.ob Kn { T := 55, ss := [Seg.sem (Kn.rrat 4 t), Seg.sem (Kn.rrat 4 u)] } = @Ct.ob Kn { T := 55, ss := [Seg.sem (Kn.rrat 4 t), Seg.sem (Kn.rrat 4 u)] }, @Ct.ob Kn { T := 26, ss := [Seg.sem (Kn.rrat 4 x), Seg.sem (Kn.rat y1), Seg.sem (Kn.rat y2)] } = @Ct.ob Kn { T := 26, ss := [Seg.sem (Kn.rrat 4 x), Seg.sem (Kn.rat y1), Seg.sem (Kn.rat y2)] }], (by kernel_rfl), allp (by (repeat' (first | exact trivial | refine And.intro ?_ ?_)); all_goals first | rfl | assumption | omega)⟩
      · rw [ca, cb] at e1
        have e3 := e3 (Or.inr cb)
        exact ⟨40, [none, some true, none, none, some false, none, none, none, some false, none, some true, none, none, none, none, none, some false, none, none, none, none, none, some true, none, none, none], [4 + 4 ≤ 30000, 4 + 4 ≤ 30000, nq r ≤ 9999, nq s ≤ 9999, nq t ≤ 9999, nq u ≤ 9999, ¬minQ (maxQ r s) (maxQ t u) < maxQ (minQ r s) (minQ t u), 4 + 4 ≤ 30000, 4 ≤ 65535, ctn r s x = false, 4 + 4 ≤ 30000, 4 ≤ 65535, ctn r s x = false, 4 + 4 ≤ 30000, 4 ≤ 65535, ctn t u x = true, nq (maxQ (minQ r s) (minQ t u)) + nq (minQ (maxQ r s) (maxQ t u)) ≤ 30000, 4 ≤ 65535, ctn (maxQ (minQ r s) (minQ t u)) (minQ (maxQ r s) (maxQ t u)) x = false, 4 + 4 ≤ 30000, 4 + 4 = 4 + 4, nq r ≤ 9999, nq s ≤ 9999, nq t ≤ 9999, nq u ≤ 9999, nq (min4 r s t u) + nq (max4 r s t u) ≤ 30000, 4 ≤ 65535, ctn (min4 r s t u) (max4 r s t u) x = true, @Ct.av Kn (AV.ptr 0 0) = @Ct.av Kn (AV.ptr 0 0), @Ct.av Kn (AV.ptr 1 0) = @Ct.av Kn (AV.ptr 1 0), @Ct.av Kn (AV.sl 24 0 3 3) = @Ct.av Kn (AV.sl 24 0 3 3), @Ct.av Kn (AV.val false [Seg.lit (Value.int IntKind.i64 (3 : Int))]) = @Ct.av Kn (AV.val false [Seg.lit (Value.int IntKind.i64 (3 : Int))]), @Ct.av Kn (AV.val false [Seg.lit (Value.int IntKind.i64 (IntKind.wrap IntKind.i64 ((↑0 : Int) + (1 : Int))))]) = @Ct.av Kn (AV.val false [Seg.lit (Value.int IntKind.i64 (↑1 : Int))]), @Ct.ob Kn { T := 55, ss := [Seg.sem (Kn.rrat 4 r), Seg.sem (Kn.rrat 4 s)] } = @Ct.ob Kn { T := 55, ss := [Seg.sem (Kn.rrat 4 r), Seg.sem (Kn.rrat 4 s)] }, @Ct.ob Kn { T := 55, ss := [Seg.sem (Kn.rrat 4 t), Seg.sem (Kn.rrat 4 u)] } = @Ct.ob Kn { T := 55, ss := [Seg.sem (Kn.rrat 4 t), Seg.sem (Kn.rrat 4 u)] }, @Ct.ob Kn { T := 26, ss := [Seg.sem (Kn.rrat 4 x), Seg.sem (Kn.rat y1), Seg.sem (Kn.rat y2)] } = @Ct.ob Kn { T := 26, ss := [Seg.sem (Kn.rrat 4 x), Seg.sem (Kn.rat y1), Seg.sem (Kn.rat y2)] }], (by kernel_rfl), allp (by (repeat' (first | exact trivial | refine And.intro ?_ ?_)); all_goals first | rfl | assumption | omega)⟩
    · cases cb : ctn t u x
      · rw [ca, cb] at e1
        have e3 := e3 (Or.inl ca)
        exact ⟨40, [none, some true, none, none, some true, none, some false, none, none, some true, none, none, none, none, none, none, some false, none, none, none, none, none, some true, none, none, none], [4 + 4 ≤ 30000, 4 + 4 ≤ 30000, nq r ≤ 9999, nq s ≤ 9999, nq t ≤ 9999, nq u ≤ 9999, ¬minQ (maxQ r s) (maxQ t u) < maxQ (minQ r s) (minQ t u), 4 + 4 ≤ 30000, 4 ≤ 65535, ctn r s x = true, 4 + 4 ≤ 30000, 4 ≤ 65535, ctn t u x = false, 4 + 4 ≤ 30000, 4 ≤ 65535, ctn r s x = true, nq (maxQ (minQ r s) (minQ t u)) + nq (minQ (maxQ r s) (maxQ t u)) ≤ 30000, 4 ≤ 65535, ctn (maxQ (minQ r s) (minQ t u)) (minQ (maxQ r s) (maxQ t u)) x = false, 4 + 4 ≤ 30000, 4 + 4 = 4 + 4, nq r ≤ 9999, nq s ≤ 9999, nq t ≤ 9999, nq u ≤ 9999, nq (min4 r s t u) + nq (max4 r s t u) ≤ 30000, 4 ≤ 65535, ctn (min4 r s t u) (max4 r s t u) x = true, @Ct.av Kn (AV.ptr 0 0) = @Ct.av Kn (AV.ptr 0 0), @Ct.av Kn (AV.ptr 1 0) = @Ct.av Kn (AV.ptr 1 0), @Ct.av Kn (AV.sl 24 0 3 3) = @Ct.av Kn (AV.sl 24 0 3 3), @Ct.av Kn (AV.val false [Seg.lit (Value.int IntKind.i64 (3 : Int))]) = @Ct.av Kn (AV.val false [Seg.lit (Value.int IntKind.i64 (3 : Int))]), @Ct.av Kn (AV.val false [Seg.lit (Value.int IntKind.i64 (IntKind.wrap IntKind.i64 ((↑0 : Int) + (1 : Int))))]) = @Ct.av Kn (AV.val false [Seg.lit (Value.int IntKind.i64 (↑1 : Int))]), @Ct.ob Kn { T := 55, ss := [Seg.sem (Kn.rrat 4 r), Seg.sem (Kn.rrat 4 s)] } = @Ct.ob Kn { T := 55, ss := [Seg.sem (Kn.rrat 4 r), Seg.sem (Kn.rrat 4 s)] }, @Ct.ob Kn { T := 55, ss := [Seg.sem (Kn.rrat 4 t), Seg.sem (Kn.rrat 4 u)] } = @Ct.ob Kn { T := 55, ss := [Seg.sem (Kn.rrat 4 t), Seg.sem (Kn.rrat 4 u)] }, @Ct.ob Kn { T := 26, ss := [Seg.sem (Kn.rrat 4 x), Seg.sem (Kn.rat y1), Seg.sem (Kn.rat y2)] } = @Ct.ob Kn { T := 26, ss := [Seg.sem (Kn.rrat 4 x), Seg.sem (Kn.rat y1), Seg.sem (Kn.rat y2)] }], (by kernel_rfl), allp (by (repeat' (first | exact trivial | refine And.intro ?_ ?_)); all_goals first | rfl | assumption | omega)⟩
      · rw [ca, cb] at e1
        have e3 := e3 (Or.inl ca)
        exact ⟨40, [none, some true, none, none, some true, none, some true, none, none, some true, none, none, none, none, none, none, some true, none, none, none, none, none, some true, none, none, none], [4 + 4 ≤ 30000, 4 + 4 ≤ 30000, nq r ≤ 9999, nq s ≤ 9999, nq t ≤ 9999, nq u ≤ 9999, ¬minQ (maxQ r s) (maxQ t u) < maxQ (minQ r s) (minQ t u), 4 + 4 ≤ 30000, 4 ≤ 65535, ctn r s x = true, 4 + 4 ≤ 30000, 4 ≤ 65535, ctn t u x = true, 4 + 4 ≤ 30000, 4 ≤ 65535, ctn r s x = true, nq (maxQ (minQ r s) (minQ t u)) + nq (minQ (maxQ r s) (maxQ t u)) ≤ 30000, 4 ≤ 65535, ctn (maxQ (minQ r s) (minQ t u)) (minQ (maxQ r s) (maxQ t u)) x = true, 4 + 4 ≤ 30000, 4 + 4 = 4 + 4, nq r ≤ 9999, nq s ≤ 9999, nq t ≤ 9999, nq u ≤ 9999, nq (min4 r s t u) + nq (max4 r s t u) ≤ 30000, 4 ≤ 65535, ctn (min4 r s t u) (max4 r s t u) x = true, @Ct.av Kn (AV.ptr 0 0) = @Ct.av Kn (AV.ptr 0 0), @Ct.av Kn (AV.ptr 1 0) = @Ct.av Kn (AV.ptr 1 0), @Ct.av Kn (AV.sl 24 0 3 3) = @Ct.av Kn (AV.sl 24 0 3 3), @Ct.av Kn (AV.val false [Seg.lit (Value.int IntKind.i64 (3 : Int))]) = @Ct.av Kn (AV.val false [Seg.lit (Value.int IntKind.i64 (3 : Int))]), @Ct.av Kn (AV.val false [Seg.lit (Value.int IntKind.i64 (IntKind.wrap IntKind.i64 ((↑0 : Int) + (1 : Int))))]) = @Ct.av Kn (AV.val false [Seg.lit (Value.int IntKind.i64 (↑1 : Int))]), @Ct.ob Kn { T := 55, ss := [Seg.sem (Kn.rrat 4 r), Seg.sem (Kn.rrat 4 s)] } = @Ct.ob Kn { T := 55, ss := [Seg.sem (Kn.rrat 4 r), Seg.sem (Kn.rrat 4 s)] }, @Ct.ob Kn { T := 55, ss := [Seg.sem (Kn.rrat 4 t), Seg.sem (Kn.rrat 4 u)] } = @Ct.ob Kn { T := 55, ss := [Seg.sem (Kn.rrat 4 t), Seg.sem (Kn.rrat 4 u)] }, @Ct.ob Kn { T := 26, ss := [Seg.sem (Kn.rrat 4 x), Seg.sem (Kn.rat y1), Seg.sem (Kn.rat y2)] } = @Ct.ob Kn { T := 26, ss := [Seg.sem (Kn.rrat 4 x), Seg.sem (Kn.rat y1), Seg.sem (Kn.rat y2)] }], (by kernel_rfl), allp (by (repeat' (first | exact trivial | refine And.intro ?_ ?_)); all_goals first | rfl | assumption | omega)⟩

theorem meets_r1 (r s t u x y1 y2 : Rat) (_hr : nq r ≤ 9) (_hs : nq s ≤ 9) (_ht : nq t ≤ 9) (_hu : nq u ≤ 9) (_hy : nq y1 ≤ 400) (_hy' : nq y2 ≤ 400) (hc : ctn r s y1 = true) : ∃ fuel ds obs, roundObs Dn (mkTb3 tM4 tM4z (hMt r s t u x y1 y2)) Tryz.prog Tryz.f13.ntmps fuel (loopAt Tryz.f13 0) (iMt r s t u x y1 y2) 27 1 ds = some obs ∧ ∀ p ∈ obs, p := by
  have a1 := nq_minQ r s
  have a2 := nq_maxQ r s
  have a3 := nq_minQ t u
  have a4 := nq_maxQ t u
  have a5 := nq_maxQ (minQ r s) (minQ t u)
  have a6 := nq_minQ (maxQ r s) (maxQ t u)
  have a7 := nq_min4 r s t u
  have a8 := nq_max4 r s t u
  have e1 := @meet_ctn r s t u y1
  have e2 := @meet_no r s t u y1
  have e3 := @hull_ctn r s t u y1
  by_cases hm : minQ (maxQ r s) (maxQ t u) < maxQ (minQ r s) (minQ t u)
  · have e2 := e2 hm
    have ca : ctn r s y1 = true := hc
    cases cb : ctn t u y1
    · rw [ca, cb] at e2
      have e3 := e3 (Or.inl ca)
      exact ⟨40, [none, some false, none, none, some true, none, some false, none, none, some true, none, none, none, none, none, none, none, none, none, none, none, some true, none, none, none], [4 + 4 ≤ 30000, 4 + 4 ≤ 30000, nq r ≤ 9999, nq s ≤ 9999, nq t ≤ 9999, nq u ≤ 9999, minQ (maxQ r s) (maxQ t u) < maxQ (minQ r s) (minQ t u), 4 + 4 ≤ 30000, nq y1 ≤ 65535, ctn r s y1 = true, 4 + 4 ≤ 30000, nq y1 ≤ 65535, ctn t u y1 = false, 4 + 4 ≤ 30000, nq y1 ≤ 65535, ctn r s y1 = true, 4 + 4 ≤ 30000, 4 + 4 = 4 + 4, nq r ≤ 9999, nq s ≤ 9999, nq t ≤ 9999, nq u ≤ 9999, nq (min4 r s t u) + nq (max4 r s t u) ≤ 30000, nq y1 ≤ 65535, ctn (min4 r s t u) (max4 r s t u) y1 = true, @Ct.av Kn (AV.ptr 0 0) = @Ct.av Kn (AV.ptr 0 0), @Ct.av Kn (AV.ptr 1 0) = @Ct.av Kn (AV.ptr 1 0), @Ct.av Kn (AV.sl 24 0 3 3) = @Ct.av Kn (AV.sl 24 0 3 3), @Ct.av Kn (AV.val false [Seg.lit (Value.int IntKind.i64 (3 : Int))]) = @Ct.av Kn (AV.val false [Seg.lit (Value.int IntKind.i64 (3 : Int))]), @Ct.av Kn (AV.val false [Seg.lit (Value.int IntKind.i64 (IntKind.wrap IntKind.i64 ((↑1 : Int) + (1 : Int))))]) = @Ct.av Kn (AV.val false [Seg.lit (Value.int IntKind.i64 (↑2 : Int))]), @Ct.ob Kn { T := 55, ss := [Seg.sem (Kn.rrat 4 r), Seg.sem (Kn.rrat 4 s)] } = @Ct.ob Kn { T := 55, ss := [Seg.sem (Kn.rrat 4 r), Seg.sem (Kn.rrat 4 s)] }, @Ct.ob Kn { T := 55, ss := [Seg.sem (Kn.rrat 4 t), Seg.sem (Kn.rrat 4 u)] } = @Ct.ob Kn { T := 55, ss := [Seg.sem (Kn.rrat 4 t), Seg.sem (Kn.rrat 4 u)] }, @Ct.ob Kn { T := 26, ss := [Seg.sem (Kn.rrat 4 x), Seg.sem (Kn.rat y1), Seg.sem (Kn.rat y2)] } = @Ct.ob Kn { T := 26, ss := [Seg.sem (Kn.rrat 4 x), Seg.sem (Kn.rat y1), Seg.sem (Kn.rat y2)] }], (by kernel_rfl), allp (by (repeat' (first | exact trivial | refine And.intro ?_ ?_)); all_goals first | rfl | assumption | omega)⟩
    · rw [ca, cb] at e2
      cases e2
  · have e1 := e1 hm
    have ca : ctn r s y1 = true := hc
    cases cb : ctn t u y1
    · rw [ca, cb] at e1
      have e3 := e3 (Or.inl ca)
      exact ⟨40, [none, some true, none, none, some true, none, some false, none, none, some true, none, none, none, none, none, none, some false, none, none, none, none, none, some true, none, none, none], [4 + 4 ≤ 30000, 4 + 4 ≤ 30000, nq r ≤ 9999, nq s ≤ 9999, nq t ≤ 9999, nq u ≤ 9999, ¬minQ (maxQ r s) (maxQ t u) < maxQ (minQ r s) (minQ t u), 4 + 4 ≤ 30000, nq y1 ≤ 65535, ctn r s y1 = true, 4 + 4 ≤ 30000, nq y1 ≤ 65535, ctn t u y1 = false, 4 + 4 ≤ 30000, nq y1 ≤ 65535, ctn r s y1 = true, nq (maxQ (minQ r s) (minQ t u)) + nq (minQ (maxQ r s) (maxQ t u)) ≤ 30000, nq y1 ≤ 65535, ctn (maxQ (minQ r s) (minQ t u)) (minQ (maxQ r s) (maxQ t u)) y1 = false, 4 + 4 ≤ 30000, 4 + 4 = 4 + 4, nq r ≤ 9999, nq s ≤ 9999, nq t ≤ 9999, nq u ≤ 9999, nq (min4 r s t u) + nq (max4 r s t u) ≤ 30000, nq y1 ≤ 65535, ctn (min4 r s t u) (max4 r s t u) y1 = true, @Ct.av Kn (AV.ptr 0 0) = @Ct.av Kn (AV.ptr 0 0), @Ct.av Kn (AV.ptr 1 0) = @Ct.av Kn (AV.ptr 1 0), @Ct.av Kn (AV.sl 24 0 3 3) = @Ct.av Kn (AV.sl 24 0 3 3), @Ct.av Kn (AV.val false [Seg.lit (Value.int IntKind.i64 (3 : Int))]) = @Ct.av Kn (AV.val false [Seg.lit (Value.int IntKind.i64 (3 : Int))]), @Ct.av Kn (AV.val false [Seg.lit (Value.int IntKind.i64 (IntKind.wrap IntKind.i64 ((↑1 : Int) + (1 : Int))))]) = @Ct.av Kn (AV.val false [Seg.lit (Value.int IntKind.i64 (↑2 : Int))]), @Ct.ob Kn { T := 55, ss := [Seg.sem (Kn.rrat 4 r), Seg.sem (Kn.rrat 4 s)] } = @Ct.ob Kn { T := 55, ss := [Seg.sem (Kn.rrat 4 r), Seg.sem (Kn.rrat 4 s)] }, @Ct.ob Kn { T := 55, ss := [Seg.sem (Kn.rrat 4 t), Seg.sem (Kn.rrat 4 u)] } = @Ct.ob Kn { T := 55, ss := [Seg.sem (Kn.rrat 4 t), Seg.sem (Kn.rrat 4 u)] }, @Ct.ob Kn { T := 26, ss := [Seg.sem (Kn.rrat 4 x), Seg.sem (Kn.rat y1), Seg.sem (Kn.rat y2)] } = @Ct.ob Kn { T := 26, ss := [Seg.sem (Kn.rrat 4 x), Seg.sem (Kn.rat y1), Seg.sem (Kn.rat y2)] }], (by kernel_rfl), allp (by (repeat' (first | exact trivial | refine And.intro ?_ ?_)); all_goals first | rfl | assumption | omega)⟩
    · rw [ca, cb] at e1
      have e3 := e3 (Or.inl ca)
      exact ⟨40, [none, some true, none, none, some true, none, some true, none, none, some true, none, none, none, none, none, none, some true, none, none, none, none, none, some true, none, none, none], [4 + 4 ≤ 30000, 4 + 4 ≤ 30000, nq r ≤ 9999, nq s ≤ 9999, nq t ≤ 9999, nq u ≤ 9999, ¬minQ (maxQ r s) (maxQ t u) < maxQ (minQ r s) (minQ t u), 4 + 4 ≤ 30000, nq y1 ≤ 65535, ctn r s y1 = true, 4 + 4 ≤ 30000, nq y1 ≤ 65535, ctn t u y1 = true, 4 + 4 ≤ 30000, nq y1 ≤ 65535, ctn r s y1 = true, nq (maxQ (minQ r s) (minQ t u)) + nq (minQ (maxQ r s) (maxQ t u)) ≤ 30000, nq y1 ≤ 65535, ctn (maxQ (minQ r s) (minQ t u)) (minQ (maxQ r s) (maxQ t u)) y1 = true, 4 + 4 ≤ 30000, 4 + 4 = 4 + 4, nq r ≤ 9999, nq s ≤ 9999, nq t ≤ 9999, nq u ≤ 9999, nq (min4 r s t u) + nq (max4 r s t u) ≤ 30000, nq y1 ≤ 65535, ctn (min4 r s t u) (max4 r s t u) y1 = true, @Ct.av Kn (AV.ptr 0 0) = @Ct.av Kn (AV.ptr 0 0), @Ct.av Kn (AV.ptr 1 0) = @Ct.av Kn (AV.ptr 1 0), @Ct.av Kn (AV.sl 24 0 3 3) = @Ct.av Kn (AV.sl 24 0 3 3), @Ct.av Kn (AV.val false [Seg.lit (Value.int IntKind.i64 (3 : Int))]) = @Ct.av Kn (AV.val false [Seg.lit (Value.int IntKind.i64 (3 : Int))]), @Ct.av Kn (AV.val false [Seg.lit (Value.int IntKind.i64 (IntKind.wrap IntKind.i64 ((↑1 : Int) + (1 : Int))))]) = @Ct.av Kn (AV.val false [Seg.lit (Value.int IntKind.i64 (↑2 : Int))]), @Ct.ob Kn { T := 55, ss := [Seg.sem (Kn.rrat 4 r), Seg.sem (Kn.rrat 4 s)] } = @Ct.ob Kn { T := 55, ss := [Seg.sem (Kn.rrat 4 r), Seg.sem (Kn.rrat 4 s)] }, @Ct.ob Kn { T := 55, ss := [Seg.sem (Kn.rrat 4 t), Seg.sem (Kn.rrat 4 u)] } = @Ct.ob Kn { T := 55, ss := [Seg.sem (Kn.rrat 4 t), Seg.sem (Kn.rrat 4 u)] }, @Ct.ob Kn { T := 26, ss := [Seg.sem (Kn.rrat 4 x), Seg.sem (Kn.rat y1), Seg.sem (Kn.rat y2)] } = @Ct.ob Kn { T := 26, ss := [Seg.sem (Kn.rrat 4 x), Seg.sem (Kn.rat y1), Seg.sem (Kn.rat y2)] }], (by kernel_rfl), allp (by (repeat' (first | exact trivial | refine And.intro ?_ ?_)); all_goals first | rfl | assumption | omega)⟩

theorem meets_r2 (r s t u x y1 y2 : Rat) (_hr : nq r ≤ 9) (_hs : nq s ≤ 9) (_ht : nq t ≤ 9) (_hu : nq u ≤ 9) (_hy : nq y1 ≤ 400) (_hy' : nq y2 ≤ 400) (hc : ctn t u y2 = true) : ∃ fuel ds obs, roundObs Dn (mkTb3 tM4 tM4z (hMt r s t u x y1 y2)) Tryz.prog Tryz.f13.ntmps fuel (loopAt Tryz.f13 0) (iMt r s t u x y1 y2) 27 2 ds = some obs ∧ ∀ p ∈ obs, p := by
  have a1 := nq_minQ r s
  have a2 := nq_maxQ r s
  have a3 := nq_minQ t u
  have a4 := nq_maxQ t u
  have a5 := nq_maxQ (minQ r s) (minQ t u)
  have a6 := nq_minQ (maxQ r s) (maxQ t u)
  have a7 := nq_min4 r s t u
  have a8 := nq_max4 r s t u
  have e1 := @meet_ctn r s t u y2
  have e2 := @meet_no r s t u y2
  have e3 := @hull_ctn r s t u y2
  by_cases hm : minQ (maxQ r s) (maxQ t u) < maxQ (minQ r s) (minQ t u)
  · have e2 := e2 hm
    cases ca : ctn r s y2
    · have cb : ctn t u y2 = true := hc
      rw [ca, cb] at e2
      have e3 := e3 (Or.inr cb)
      exact ⟨40, [none, some false, none, none, some false, none, none, none, some false, none, some true, none, none, none, none, none, none, none, none, none, none, some true, none, none, none], [4 + 4 ≤ 30000, 4 + 4 ≤ 30000, nq r ≤ 9999, nq s ≤ 9999, nq t ≤ 9999, nq u ≤ 9999, minQ (maxQ r s) (maxQ t u) < maxQ (minQ r s) (minQ t u), 4 + 4 ≤ 30000, nq y2 ≤ 65535, ctn r s y2 = false, 4 + 4 ≤ 30000, nq y2 ≤ 65535, ctn r s y2 = false, 4 + 4 ≤ 30000, nq y2 ≤ 65535, ctn t u y2 = true, 4 + 4 ≤ 30000, 4 + 4 = 4 + 4, nq r ≤ 9999, nq s ≤ 9999, nq t ≤ 9999, nq u ≤ 9999, nq (min4 r s t u) + nq (max4 r s t u) ≤ 30000, nq y2 ≤ 65535, ctn (min4 r s t u) (max4 r s t u) y2 = true, @Ct.av Kn (AV.ptr 0 0) = @Ct.av Kn (AV.ptr 0 0), @Ct.av Kn (AV.ptr 1 0) = @Ct.av Kn (AV.ptr 1 0), @Ct.av Kn (AV.sl 24 0 3 3) = @Ct.av Kn (AV.sl 24 0 3 3), @Ct.av Kn (AV.val false [Seg.lit (Value.int IntKind.i64 (3 : Int))]) = @Ct.av Kn (AV.val false [Seg.lit (Value.int IntKind.i64 (3 : Int))]), @Ct.av Kn (AV.val false [Seg.lit (Value.int IntKind.i64 (IntKind.wrap IntKind.i64 ((↑2 : Int) + (1 : Int))))]) = @Ct.av Kn (AV.val false [Seg.lit (Value.int IntKind.i64 (↑3 : Int))]), @Ct.ob Kn { T := 55, ss := [Seg.sem (Kn.rrat 4 r), Seg.sem (Kn.rrat 4 s)] } = @Ct.ob Kn { T := 55, ss := [Seg.sem (Kn.rrat 4 r), Seg.sem (Kn.rrat 4 s)] }, @Ct.ob Kn { T := 55, ss := [Seg.sem (Kn.rrat 4 t), Seg.sem (Kn.rrat 4 u)] } = @Ct.ob Kn { T := 55, ss := [Seg.sem (Kn.rrat 4 t), Seg.sem (Kn.rrat 4 u)] }, @Ct.ob Kn { T := 26, ss := [Seg.sem (Kn.rrat 4 x), Seg.sem (Kn.rat y1), Seg.sem (Kn.rat y2)] } = @Ct.ob Kn { T := 26, ss := [Seg.sem (Kn.rrat 4 x), Seg.sem (Kn.rat y1), Seg.sem (Kn.rat y2)] }], (by kernel_rfl), allp (by (repeat' (first | exact trivial | refine And.intro ?_ ?_)); all_goals first | rfl | assumption | omega)⟩
    · have cb : ctn t u y2 = true := hc
      rw [ca, cb] at e2
      cases e2
  · have e1 := e1 hm
    cases ca : ctn r s y2
    · have cb : ctn t u y2 = true := hc
      rw [ca, cb] at e1
      have e3 := e3 (Or.inr cb)
      exact ⟨40, [none, some true, none, none, some false, none, none, none, some false, none, some true, none, none, none, none, none, some false, none, none, none, none, none, some true, none, none, none], [4 + 4 ≤ 30000, 4 + 4 ≤ 30000, nq r ≤ 9999, nq s ≤ 9999, nq t ≤ 9999, nq u ≤ 9999, ¬minQ (maxQ r s) (maxQ t u) < maxQ (minQ r s) (minQ t u), 4 + 4 ≤ 30000, nq y2 ≤ 65535, ctn r s y2 = false, 4 + 4 ≤ 30000, nq y2 ≤ 65535, ctn r s y2 = false, 4 + 4 ≤ 30000, nq y2 ≤ 65535, ctn t u y2 = true, nq (maxQ (minQ r s) (minQ t u)) + nq (minQ (maxQ r s) (maxQ t u)) ≤ 30000, nq y2 ≤ 65535, ctn (maxQ (minQ r s) (minQ t u)) (minQ (maxQ r s) (maxQ t u)) y2 = false, 4 + 4 ≤ 30000, 4 + 4 = 4 + 4, nq r ≤ 9999, nq s ≤ 9999, nq t ≤ 9999, nq u ≤ 9999, nq (min4 r s t u) + nq (max4 r s t u) ≤ 30000, nq y2 ≤ 65535, ctn (min4 r s t u) (max4 r s t u) y2 = true, @Ct.av Kn (AV.ptr 0 0) = @Ct.av Kn (AV.ptr 0 0), @Ct.av Kn (AV.ptr 1 0) = @Ct.av Kn (AV.ptr 1 0), @Ct.av Kn (AV.sl 24 0 3 3) = @Ct.av Kn (AV.sl 24 0 3 3), @Ct.av Kn (AV.val false [Seg.lit (Value.int IntKind.i64 (3 : Int))]) = @Ct.av Kn (AV.val false [Seg.lit (Value.int IntKind.i64 (3 : Int))]), @Ct.av Kn (AV.val false [Seg.lit (Value.int IntKind.i64 (IntKind.wrap IntKind.i64 ((↑2 : Int) + (1 : Int))))]) = @Ct.av Kn (AV.val false [Seg.lit (Value.int IntKind.i64 (↑3 : Int))]), @Ct.ob Kn { T := 55, ss := [Seg.sem (Kn.rrat 4 r), Seg.sem (Kn.rrat 4 s)] } = @Ct.ob Kn { T := 55, ss := [Seg.sem (Kn.rrat 4 r), Seg.sem (Kn.rrat 4 s)] }, @Ct.ob Kn { T := 55, ss := [Seg.sem (Kn.rrat 4 t), Seg.sem (Kn.rrat 4 u)] } = @Ct.ob Kn { T := 55, ss := [Seg.sem (Kn.rrat 4 t), Seg.sem (Kn.rrat 4 u)] }, @Ct.ob Kn { T := 26, ss := [Seg.sem (Kn.rrat 4 x), Seg.sem (Kn.rat y1), Seg.sem (Kn.rat y2)] } = @Ct.ob Kn { T := 26, ss := [Seg.sem (Kn.rrat 4 x), Seg.sem (Kn.rat y1), Seg.sem (Kn.rat y2)] }], (by kernel_rfl), allp (by (repeat' (first | exact trivial | refine And.intro ?_ ?_)); all_goals first | rfl | assumption | omega)⟩
    · have cb : ctn t u y2 = true := hc
      rw [ca, cb] at e1
      have e3 := e3 (Or.inl ca)
      exact ⟨40, [none, some true, none, none, some true, none, some true, none, none, some true, none, none, none, none, none, none, some true, none, none, none, none, none, some true, none, none, none], [4 + 4 ≤ 30000, 4 + 4 ≤ 30000, nq r ≤ 9999, nq s ≤ 9999, nq t ≤ 9999, nq u ≤ 9999, ¬minQ (maxQ r s) (maxQ t u) < maxQ (minQ r s) (minQ t u), 4 + 4 ≤ 30000, nq y2 ≤ 65535, ctn r s y2 = true, 4 + 4 ≤ 30000, nq y2 ≤ 65535, ctn t u y2 = true, 4 + 4 ≤ 30000, nq y2 ≤ 65535, ctn r s y2 = true, nq (maxQ (minQ r s) (minQ t u)) + nq (minQ (maxQ r s) (maxQ t u)) ≤ 30000, nq y2 ≤ 65535, ctn (maxQ (minQ r s) (minQ t u)) (minQ (maxQ r s) (maxQ t u)) y2 = true, 4 + 4 ≤ 30000, 4 + 4 = 4 + 4, nq r ≤ 9999, nq s ≤ 9999, nq t ≤ 9999, nq u ≤ 9999, nq (min4 r s t u) + nq (max4 r s t u) ≤ 30000, nq y2 ≤ 65535, ctn (min4 r s t u) (max4 r s t u) y2 = true, @Ct.av Kn (AV.ptr 0 0) = @Ct.av Kn (AV.ptr 0 0), @Ct.av Kn (AV.ptr 1 0) = @Ct.av Kn (AV.ptr 1 0), @Ct.av Kn (AV.sl 24 0 3 3) = @Ct.av Kn (AV.sl 24 0 3 3), @Ct.av Kn (AV.val false [Seg.lit (Value.int IntKind.i64 (3 : Int))]) = @Ct.av Kn (AV.val false [Seg.lit (Value.int IntKind.i64 (3 : Int))]), @Ct.av Kn (AV.val false [Seg.lit (Value.int IntKind.i64 (IntKind.wrap IntKind.i64 ((↑2 : Int) + (1 : Int))))]) = @Ct.av Kn (AV.val false [Seg.lit (Value.int IntKind.i64 (↑3 : Int))]), @Ct.ob Kn { T := 55, ss := [Seg.sem (Kn.rrat 4 r), Seg.sem (Kn.rrat 4 s)] } = @Ct.ob Kn { T := 55, ss := [Seg.sem (Kn.rrat 4 r), Seg.sem (Kn.rrat 4 s)] }, @Ct.ob Kn { T := 55, ss := [Seg.sem (Kn.rrat 4 t), Seg.sem (Kn.rrat 4 u)] } = @Ct.ob Kn { T := 55, ss := [Seg.sem (Kn.rrat 4 t), Seg.sem (Kn.rrat 4 u)] }, @Ct.ob Kn { T := 26, ss := [Seg.sem (Kn.rrat 4 x), Seg.sem (Kn.rat y1), Seg.sem (Kn.rat y2)] } = @Ct.ob Kn { T := 26, ss := [Seg.sem (Kn.rrat 4 x), Seg.sem (Kn.rat y1), Seg.sem (Kn.rat y2)] }], (by kernel_rfl), allp (by (repeat' (first | exact trivial | refine And.intro ?_ ?_)); all_goals first | rfl | assumption | omega)⟩

theorem meets_c (r s t u x : Rat) (n : Int) (hr : nq r ≤ 9) (hs : nq s ≤ 9) (ht : nq t ≤ 9) (hu : nq u ≤ 9) (_n0 : -9223372036854775808 ≤ n) (_n1 : n ≤ 9223372036854775807) : Cn 13 [.val true (ivSegs 4 r s), .val true (ivSegs 4 t u), sv (.rrat 4 x), .val false [.lit (.int .i64 n)]] (avB true) := by
  have e1 := eighth (n % 9) (by omega) (by omega)
  have a1 := nq_at r s n
  have a2 := nq_at t u n
  have hx : Btw r s (atQ r s n) := btw_at e1.1 e1.2
  have hy : Btw t u (atQ t u n) := btw_at e1.1 e1.2
  have hl : LoopOk Dn (mkTb3 tM4 tM4z (hMt r s t u x (atQ r s n) (atQ t u n))) Tryz.prog Tryz.f13.ntmps (loopAt Tryz.f13 0) (iMt r s t u x (atQ r s n) (atQ t u n)) 27 := by
    refine loopOk_of mixed fun k hk => ?_
    have hk : k < 3 := hk
    rcases (by omega : k = 0 ∨ k = 1 ∨ k = 2) with rfl | rfl | rfl
    · exact meets_r0 r s t u x _ _ hr hs ht hu (by omega) (by omega)
    · exact meets_r1 r s t u x _ _ hr hs ht hu (by omega) (by omega) ((ctn_iff _ _ _).2 hx)
    · exact meets_r2 r s t u x _ _ hr hs ht hu (by omega) (by omega) ((ctn_iff _ _ _).2 hy)
  exact (wk3 (hint := (hMt r s t u x (atQ r s n) (atQ t u n))) tM4_ok tM4z_ok (ds := []) (fuel := 40) (obs := [r = r ∧ s = s, t = t ∧ u = u, x = x, 4 + 4 ≤ 30000, nq r ≤ 99, nq s ≤ 99, (-9223372036854775808 : Int) ≤ n, n ≤ (9223372036854775807 : Int), 4 + 4 ≤ 30000, nq t ≤ 99, nq u ≤ 99, (-9223372036854775808 : Int) ≤ n, n ≤ (9223372036854775807 : Int), @Ct.av Kn (AV.ptr 0 0) = @Ct.av Kn (AV.ptr 0 0), @Ct.av Kn (AV.ptr 1 0) = @Ct.av Kn (AV.ptr 1 0), @Ct.av Kn (AV.sl 24 0 3 3) = @Ct.av Kn (AV.sl 24 0 3 3), @Ct.av Kn (AV.val false [Seg.lit (Value.int IntKind.i64 (↑3 : Int))]) = @Ct.av Kn (AV.val false [Seg.lit (Value.int IntKind.i64 (3 : Int))]), @Ct.av Kn (AV.val false [Seg.lit (Value.int IntKind.i64 (0 : Int))]) = @Ct.av Kn (AV.val false [Seg.lit (Value.int IntKind.i64 (↑0 : Int))]), @Ct.ob Kn { T := 55, ss := [Seg.sem (Kn.rrat 4 r), Seg.sem (Kn.rrat 4 s)] } = @Ct.ob Kn { T := 55, ss := [Seg.sem (Kn.rrat 4 r), Seg.sem (Kn.rrat 4 s)] }, @Ct.ob Kn { T := 55, ss := [Seg.sem (Kn.rrat 4 t), Seg.sem (Kn.rrat 4 u)] } = @Ct.ob Kn { T := 55, ss := [Seg.sem (Kn.rrat 4 t), Seg.sem (Kn.rrat 4 u)] }, @Ct.ob Kn { T := 26, ss := [Seg.sem (Kn.rrat 4 x), Seg.sem (Kn.rat (minQ r s + (maxQ r s - minQ r s) * Rat.divInt (n % (9 : Int)) (8 : Int))), Seg.sem (Kn.rat (minQ t u + (maxQ t u - minQ t u) * Rat.divInt (n % (9 : Int)) (8 : Int)))] } = @Ct.ob Kn { T := 26, ss := [Seg.sem (Kn.rrat 4 x), Seg.sem (Kn.rat (minQ r s + (maxQ r s - minQ r s) * Rat.divInt (n % (9 : Int)) (8 : Int))), Seg.sem (Kn.rat (minQ t u + (maxQ t u - minQ t u) * Rat.divInt (n % (9 : Int)) (8 : Int)))] }, LoopOk Dn (mkTb3 tM4 tM4z (hMt r s t u x (atQ r s n) (atQ t u n))) Tryz.prog Tryz.f13.ntmps (loopAt Tryz.f13 0) (iMt r s t u x (atQ r s n) (atQ t u n)) 27]) (r := AV.val false [Seg.lit (Value.bool true)]) Tryz.func13 rfl (by kernel_rfl) (by (repeat' (first | exact hl | exact trivial | refine And.intro ?_ ?_)); all_goals first | rfl | assumption | omega))

theorem rat_small {w : World} {g1 : Bool} {p1 : Option Addr} {n1 c1 : Nat} {X1 : List Nat} {q1 : Option Addr} {m1 d1 : Nat} {Y1 : List Nat} (s1 : Sl w p1 n1 c1 X1) (t1 : Sl w q1 m1 d1 Y1) (h : (decide (n1 ≤ 4) && decide (m1 ≤ 4)) = true) : ∃ r : Rat, nq r ≤ 9 ∧ (sv (.rrat 4 r)).holds Dn none' w (.agg #[.bool g1, .slice p1 n1 c1, .slice q1 m1 d1]) := by
  simp only [Bool.and_eq_true, decide_eq_true_eq] at h
  have h1 : VR w 4 _ (rw' g1 p1 n1 c1 q1 m1 d1) := ⟨_, _, _, _, _, _, _, _, _, rfl, s1, t1, rfl, h.1, h.2⟩
  exact ⟨_, nq_vr h1, sv_of (x := .rrat 4 _) h1 _⟩

theorem meets_b0 (g1 : Bool) (p1 : Option Addr) (n1 c1 : Nat) (q1 : Option Addr) (m1 d1 : Nat) (g2 : Bool) (p2 : Option Addr) (n2 c2 : Nat) (q2 : Option Addr) (m2 d2 : Nat) (g3 : Bool) (p3 : Option Addr) (n3 c3 : Nat) (q3 : Option Addr) (m3 d3 : Nat) (g4 : Bool) (p4 : Option Addr) (n4 c4 : Nat) (q4 : Option Addr) (m4 d4 : Nat) (g5 : Bool) (p5 : Option Addr) (n5 c5 : Nat) (q5 : Option Addr) (m5 d5 : Nat) (z3 : Int) (h0 : ((decide (n1 ≤ 4) && decide (m1 ≤ 4)) && (decide (n2 ≤ 4) && decide (m2 ≤ 4))) = false) : Cn 13 [lits6 g1 p1 n1 c1 q1 m1 d1 g2 p2 n2 c2 q2 m2 d2, lits6 g3 p3 n3 c3 q3 m3 d3 g4 p4 n4 c4 q4 m4 d4, .val true [.lit (.bool g5), .lit (.slice p5 n5 c5), .lit (.slice q5 m5 d5)], .val false [.lit (.int .i64 z3)]] (avB true) :=
  (wk tM4_ok (ds := [none, some false]) (fuel := 40) (obs := [(g1 = g1 ∧ p1 = p1 ∧ c1 = c1 ∧ q1 = q1 ∧ d1 = d1) ∧ g2 = g2 ∧ p2 = p2 ∧ c2 = c2 ∧ q2 = q2 ∧ d2 = d2, (match match decide (n1 ≤ 4) with | false => false | true => decide (m1 ≤ 4) with | false => false | true => decide (n2 ≤ 4) && decide (m2 ≤ 4)) = false]) (r := AV.val false [Seg.lit (Value.bool true)]) Tryz.func13 rfl (by kernel_rfl) ⟨⟨⟨rfl, rfl, rfl, rfl, rfl⟩, rfl, rfl, rfl, rfl, rfl⟩, h0, trivial⟩)

theorem meets_b1 (g1 : Bool) (p1 : Option Addr) (n1 c1 : Nat) (q1 : Option Addr) (m1 d1 : Nat) (g2 : Bool) (p2 : Option Addr) (n2 c2 : Nat) (q2 : Option Addr) (m2 d2 : Nat) (g3 : Bool) (p3 : Option Addr) (n3 c3 : Nat) (q3 : Option Addr) (m3 d3 : Nat) (g4 : Bool) (p4 : Option Addr) (n4 c4 : Nat) (q4 : Option Addr) (m4 d4 : Nat) (g5 : Bool) (p5 : Option Addr) (n5 c5 : Nat) (q5 : Option Addr) (m5 d5 : Nat) (z3 : Int) (h0 : ((decide (n1 ≤ 4) && decide (m1 ≤ 4)) && (decide (n2 ≤ 4) && decide (m2 ≤ 4))) = true) (h1 : ((decide (n3 ≤ 4) && decide (m3 ≤ 4)) && (decide (n4 ≤ 4) && decide (m4 ≤ 4))) = false) : Cn 13 [lits6 g1 p1 n1 c1 q1 m1 d1 g2 p2 n2 c2 q2 m2 d2, lits6 g3 p3 n3 c3 q3 m3 d3 g4 p4 n4 c4 q4 m4 d4, .val true [.lit (.bool g5), .lit (.slice p5 n5 c5), .lit (.slice q5 m5 d5)], .val false [.lit (.int .i64 z3)]] (avB true) :=
  (wk tM4_ok (ds := [none, some true, none, none, some false]) (fuel := 40) (obs := [(g1 = g1 ∧ p1 = p1 ∧ c1 = c1 ∧ q1 = q1 ∧ d1 = d1) ∧ g2 = g2 ∧ p2 = p2 ∧ c2 = c2 ∧ q2 = q2 ∧ d2 = d2, (match match decide (n1 ≤ 4) with | false => false | true => decide (m1 ≤ 4) with | false => false | true => decide (n2 ≤ 4) && decide (m2 ≤ 4)) = true, (g3 = g3 ∧ p3 = p3 ∧ c3 = c3 ∧ q3 = q3 ∧ d3 = d3) ∧ g4 = g4 ∧ p4 = p4 ∧ c4 = c4 ∧ q4 = q4 ∧ d4 = d4, (match match decide (n3 ≤ 4) with | false => false | true => decide (m3 ≤ 4) with | false => false | true => decide (n4 ≤ 4) && decide (m4 ≤ 4)) = false]) (r := AV.val false [Seg.lit (Value.bool true)]) Tryz.func13 rfl (by kernel_rfl) ⟨⟨⟨rfl, rfl, rfl, rfl, rfl⟩, rfl, rfl, rfl, rfl, rfl⟩, h0, ⟨⟨rfl, rfl, rfl, rfl, rfl⟩, rfl, rfl, rfl, rfl, rfl⟩, h1, trivial⟩)

theorem meets_b2 (g1 : Bool) (p1 : Option Addr) (n1 c1 : Nat) (q1 : Option Addr) (m1 d1 : Nat) (g2 : Bool) (p2 : Option Addr) (n2 c2 : Nat) (q2 : Option Addr) (m2 d2 : Nat) (g3 : Bool) (p3 : Option Addr) (n3 c3 : Nat) (q3 : Option Addr) (m3 d3 : Nat) (g4 : Bool) (p4 : Option Addr) (n4 c4 : Nat) (q4 : Option Addr) (m4 d4 : Nat) (g5 : Bool) (p5 : Option Addr) (n5 c5 : Nat) (q5 : Option Addr) (m5 d5 : Nat) (z3 : Int) (h0 : ((decide (n1 ≤ 4) && decide (m1 ≤ 4)) && (decide (n2 ≤ 4) && decide (m2 ≤ 4))) = true) (h1 : ((decide (n3 ≤ 4) && decide (m3 ≤ 4)) && (decide (n4 ≤ 4) && decide (m4 ≤ 4))) = true) (h2 : (decide (n5 ≤ 4) && decide (m5 ≤ 4)) = false) : Cn 13 [lits6 g1 p1 n1 c1 q1 m1 d1 g2 p2 n2 c2 q2 m2 d2, lits6 g3 p3 n3 c3 q3 m3 d3 g4 p4 n4 c4 q4 m4 d4, .val true [.lit (.bool g5), .lit (.slice p5 n5 c5), .lit (.slice q5 m5 d5)], .val false [.lit (.int .i64 z3)]] (avB true) :=
  (wk tM4_ok (ds := [none, some true, none, none, some true, none, none, none, some false]) (fuel := 40) (obs := [(g1 = g1 ∧ p1 = p1 ∧ c1 = c1 ∧ q1 = q1 ∧ d1 = d1) ∧ g2 = g2 ∧ p2 = p2 ∧ c2 = c2 ∧ q2 = q2 ∧ d2 = d2, (match match decide (n1 ≤ 4) with | false => false | true => decide (m1 ≤ 4) with | false => false | true => decide (n2 ≤ 4) && decide (m2 ≤ 4)) = true, (g3 = g3 ∧ p3 = p3 ∧ c3 = c3 ∧ q3 = q3 ∧ d3 = d3) ∧ g4 = g4 ∧ p4 = p4 ∧ c4 = c4 ∧ q4 = q4 ∧ d4 = d4, (match match decide (n3 ≤ 4) with | false => false | true => decide (m3 ≤ 4) with | false => false | true => decide (n4 ≤ 4) && decide (m4 ≤ 4)) = true, g5 = g5 ∧ p5 = p5 ∧ c5 = c5 ∧ q5 = q5 ∧ d5 = d5, (match decide (n5 ≤ 4) with | false => false | true => decide (m5 ≤ 4)) = false]) (r := AV.val false [Seg.lit (Value.bool true)]) Tryz.func13 rfl (by kernel_rfl) ⟨⟨⟨rfl, rfl, rfl, rfl, rfl⟩, rfl, rfl, rfl, rfl, rfl⟩, h0, ⟨⟨rfl, rfl, rfl, rfl, rfl⟩, rfl, rfl, rfl, rfl, rfl⟩, h1, ⟨rfl, rfl, rfl, rfl, rfl⟩, h2, trivial⟩)

theorem meets_any (g1 : Bool) (p1 : Option Addr) (n1 c1 : Nat) (X1 : List Nat) (q1 : Option Addr) (m1 d1 : Nat) (Y1 : List Nat) (g2 : Bool) (p2 : Option Addr) (n2 c2 : Nat) (X2 : List Nat) (q2 : Option Addr) (m2 d2 : Nat) (Y2 : List Nat) (g3 : Bool) (p3 : Option Addr) (n3 c3 : Nat) (X3 : List Nat) (q3 : Option Addr) (m3 d3 : Nat) (Y3 : List Nat) (g4 : Bool) (p4 : Option Addr) (n4 c4 : Nat) (X4 : List Nat) (q4 : Option Addr) (m4 d4 : Nat) (Y4 : List Nat) (g5 : Bool) (p5 : Option Addr) (n5 c5 : Nat) (X5 : List Nat) (q5 : Option Addr) (m5 d5 : Nat) (Y5 : List Nat) (z3 : Int) (w : World) (ht : Tab w) (s1 : Sl w p1 n1 c1 X1) (t1 : Sl w q1 m1 d1 Y1) (s2 : Sl w p2 n2 c2 X2) (t2 : Sl w q2 m2 d2 Y2) (s3 : Sl w p3 n3 c3 X3) (t3 : Sl w q3 m3 d3 Y3) (s4 : Sl w p4 n4 c4 X4) (t4 : Sl w q4 m4 d4 Y4) (s5 : Sl w p5 n5 c5 X5) (t5 : Sl w q5 m5 d5 Y5) (uz3 : -9223372036854775808 ≤ z3 ∧ z3 ≤ 9223372036854775807) :
    Calls Tryz.prog 13 #[.agg #[.bool g1, .slice p1 n1 c1, .slice q1 m1 d1, .bool g2, .slice p2 n2 c2, .slice q2 m2 d2], .agg #[.bool g3, .slice p3 n3 c3, .slice q3 m3 d3, .bool g4, .slice p4 n4 c4, .slice q4 m4 d4], .agg #[.bool g5, .slice p5 n5 c5, .slice q5 m5 d5], .int .i64 z3] w (RB true w) := by
  have hl : avs Dn none' w [lits6 g1 p1 n1 c1 q1 m1 d1 g2 p2 n2 c2 q2 m2 d2, lits6 g3 p3 n3 c3 q3 m3 d3 g4 p4 n4 c4 q4 m4 d4, .val true [.lit (.bool g5), .lit (.slice p5 n5 c5), .lit (.slice q5 m5 d5)], .val false [.lit (.int .i64 z3)]] [.agg #[.bool g1, .slice p1 n1 c1, .slice q1 m1 d1, .bool g2, .slice p2 n2 c2, .slice q2 m2 d2], .agg #[.bool g3, .slice p3 n3 c3, .slice q3 m3 d3, .bool g4, .slice p4 n4 c4, .slice q4 m4 d4], .agg #[.bool g5, .slice p5 n5 c5, .slice q5 m5 d5], .int .i64 z3] := ⟨_, _, rfl, ofV_ok none' w (.agg #[.bool g1, .slice p1 n1 c1, .slice q1 m1 d1, .bool g2, .slice p2 n2 c2, .slice q2 m2 d2]), _, _, rfl, ofV_ok none' w (.agg #[.bool g3, .slice p3 n3 c3, .slice q3 m3 d3, .bool g4, .slice p4 n4 c4, .slice q4 m4 d4]), _, _, rfl, ofV_ok none' w (.agg #[.bool g5, .slice p5 n5 c5, .slice q5 m5 d5]), _, _, rfl, vl_lit _ _, rfl⟩
  cases h0 : ((decide (n1 ≤ 4) && decide (m1 ≤ 4)) && (decide (n2 ≤ 4) && decide (m2 ≤ 4)))
  · exact law_calls (meets_b0 g1 p1 n1 c1 q1 m1 d1 g2 p2 n2 c2 q2 m2 d2 g3 p3 n3 c3 q3 m3 d3 g4 p4 n4 c4 q4 m4 d4 g5 p5 n5 c5 q5 m5 d5 z3 h0) ht hl
  cases h1 : ((decide (n3 ≤ 4) && decide (m3 ≤ 4)) && (decide (n4 ≤ 4) && decide (m4 ≤ 4)))
  · exact law_calls (meets_b1 g1 p1 n1 c1 q1 m1 d1 g2 p2 n2 c2 q2 m2 d2 g3 p3 n3 c3 q3 m3 d3 g4 p4 n4 c4 q4 m4 d4 g5 p5 n5 c5 q5 m5 d5 z3 h0 h1) ht hl
  cases h2 : (decide (n5 ≤ 4) && decide (m5 ≤ 4))
  · exact law_calls (meets_b2 g1 p1 n1 c1 q1 m1 d1 g2 p2 n2 c2 q2 m2 d2 g3 p3 n3 c3 q3 m3 d3 g4 p4 n4 c4 q4 m4 d4 g5 p5 n5 c5 q5 m5 d5 z3 h0 h1 h2) ht hl
  obtain ⟨r, s, kr, ks, e0⟩ := iv_small s1 t1 s2 t2 h0
  obtain ⟨t, u, kt, ku, e1⟩ := iv_small s3 t3 s4 t4 h1
  obtain ⟨x, kx, e2⟩ := rat_small s5 t5 h2
  have hv : avs Dn none' w [.val true (ivSegs 4 r s), .val true (ivSegs 4 t u), sv (.rrat 4 x), .val false [.lit (.int .i64 z3)]] [.agg #[.bool g1, .slice p1 n1 c1, .slice q1 m1 d1, .bool g2, .slice p2 n2 c2, .slice q2 m2 d2], .agg #[.bool g3, .slice p3 n3 c3, .slice q3 m3 d3, .bool g4, .slice p4 n4 c4, .slice q4 m4 d4], .agg #[.bool g5, .slice p5 n5 c5, .slice q5 m5 d5], .int .i64 z3] := ⟨_, _, rfl, e0, _, _, rfl, e1, _, _, rfl, e2, _, _, rfl, vl_lit _ _, rfl⟩
  exact law_calls (meets_c r s t u x z3 kr ks kt ku uz3.1 uz3.2) ht hv

end Go.Proofs.YtagciepnhjbopaaGreatDoor
