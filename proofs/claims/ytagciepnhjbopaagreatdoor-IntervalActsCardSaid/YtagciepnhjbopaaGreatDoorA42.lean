/- What the statements of this claim stand on: of Q20, what they name -/
import Derived.Test.YtagciepnhjbopaaGreatDoorA41

namespace Go.Proofs.YtagciepnhjbopaaGreatDoor
open Go.RowKit En

theorem maxQ_lt {a b : Rat} (h : a < b) : maxQ a b = b := if_pos h

theorem maxQ_nlt {a b : Rat} (h : ¬ a < b) : maxQ a b = a := if_neg h

theorem meet_c (L M : Nat) (r s t u : Rat) (_hL : L ≤ 30000) (_hM : M ≤ 30000) (_hr : nq r ≤ 9999) (_hs : nq s ≤ 9999) (_ht : nq t ≤ 9999) (_hu : nq u ≤ 9999) (h : ¬ minQ (maxQ r s) (maxQ t u) < maxQ (minQ r s) (minQ t u)) : Cp 65 [.vv L r s, .vv M t u] (.tup [(true, [.sem (.rat (maxQ (minQ r s) (minQ t u))), .sem (.rat (minQ (maxQ r s) (maxQ t u)))]), (false, [.lit (.bool true)])]) := by
  have a1 := nq_minQ r s
  have a2 := nq_maxQ r s
  have a3 := nq_minQ t u
  have a4 := nq_maxQ t u
  by_cases h1 : minQ r s < minQ t u
  · rw [maxQ_lt h1] at h ⊢
    by_cases h2 : maxQ t u < maxQ r s
    · rw [minQ_t h2] at h ⊢
      have k := (cp_of (wk tI1_ok (ds := [none, some true, some true, some false]) (fuel := 40) (obs := [L + L ≤ 65535, M + M ≤ 65535, L + L ≤ 65535, M + M ≤ 65535, decide (cmpQ (minQ r s) (minQ t u) < (0 : Int)) = true, L + L ≤ 65535, M + M ≤ 65535, decide (cmpQ (maxQ r s) (maxQ t u) > (0 : Int)) = true, M + M ≤ 65535, M + M ≤ 65535, decide (cmpQ (minQ t u) (maxQ t u) > (0 : Int)) = false, M + M ≤ 65535, M + M ≤ 65535, nq (minQ t u) ≤ 65535, nq (maxQ t u) ≤ 65535]) (r := AV.tup [(true, [Seg.sem (Kn.rat (minQ (minQ t u) (maxQ t u))), Seg.sem (Kn.rat (maxQ (minQ t u) (maxQ t u)))]), (false, [Seg.lit (Value.bool true)])]) Tryz.func65 rfl (by kernel_rfl) ⟨by omega, by omega, by omega, by omega, lt_d h1, by omega, by omega, gt_d h2, by omega, by omega, ngt_d h, by omega, by omega, by omega, by omega, trivial⟩) : Cp 65 [.vv L r s, .vv M t u] _)
      rw [minQ_f h, maxQ_f h] at k
      exact k
    · rw [minQ_f h2] at h ⊢
      have k := (cp_of (wk tI1_ok (ds := [none, some true, some false, some false]) (fuel := 40) (obs := [L + L ≤ 65535, M + M ≤ 65535, L + L ≤ 65535, M + M ≤ 65535, decide (cmpQ (minQ r s) (minQ t u) < (0 : Int)) = true, L + L ≤ 65535, M + M ≤ 65535, decide (cmpQ (maxQ r s) (maxQ t u) > (0 : Int)) = false, M + M ≤ 65535, L + L ≤ 65535, decide (cmpQ (minQ t u) (maxQ r s) > (0 : Int)) = false, M + M ≤ 65535, L + L ≤ 65535, nq (minQ t u) ≤ 65535, nq (maxQ r s) ≤ 65535]) (r := AV.tup [(true, [Seg.sem (Kn.rat (minQ (minQ t u) (maxQ r s))), Seg.sem (Kn.rat (maxQ (minQ t u) (maxQ r s)))]), (false, [Seg.lit (Value.bool true)])]) Tryz.func65 rfl (by kernel_rfl) ⟨by omega, by omega, by omega, by omega, lt_d h1, by omega, by omega, ngt_d h2, by omega, by omega, ngt_d h, by omega, by omega, by omega, by omega, trivial⟩) : Cp 65 [.vv L r s, .vv M t u] _)
      rw [minQ_f h, maxQ_f h] at k
      exact k
  · rw [maxQ_nlt h1] at h ⊢
    by_cases h2 : maxQ t u < maxQ r s
    · rw [minQ_t h2] at h ⊢
      have k := (cp_of (wk tI1_ok (ds := [none, some false, some true, some false]) (fuel := 40) (obs := [L + L ≤ 65535, M + M ≤ 65535, L + L ≤ 65535, M + M ≤ 65535, decide (cmpQ (minQ r s) (minQ t u) < (0 : Int)) = false, L + L ≤ 65535, M + M ≤ 65535, decide (cmpQ (maxQ r s) (maxQ t u) > (0 : Int)) = true, L + L ≤ 65535, M + M ≤ 65535, decide (cmpQ (minQ r s) (maxQ t u) > (0 : Int)) = false, L + L ≤ 65535, M + M ≤ 65535, nq (minQ r s) ≤ 65535, nq (maxQ t u) ≤ 65535]) (r := AV.tup [(true, [Seg.sem (Kn.rat (minQ (minQ r s) (maxQ t u))), Seg.sem (Kn.rat (maxQ (minQ r s) (maxQ t u)))]), (false, [Seg.lit (Value.bool true)])]) Tryz.func65 rfl (by kernel_rfl) ⟨by omega, by omega, by omega, by omega, nlt_d h1, by omega, by omega, gt_d h2, by omega, by omega, ngt_d h, by omega, by omega, by omega, by omega, trivial⟩) : Cp 65 [.vv L r s, .vv M t u] _)
      rw [minQ_f h, maxQ_f h] at k
      exact k
    · rw [minQ_f h2] at h ⊢
      have k := (cp_of (wk tI1_ok (ds := [none, some false, some false, some false]) (fuel := 40) (obs := [L + L ≤ 65535, M + M ≤ 65535, L + L ≤ 65535, M + M ≤ 65535, decide (cmpQ (minQ r s) (minQ t u) < (0 : Int)) = false, L + L ≤ 65535, M + M ≤ 65535, decide (cmpQ (maxQ r s) (maxQ t u) > (0 : Int)) = false, L + L ≤ 65535, L + L ≤ 65535, decide (cmpQ (minQ r s) (maxQ r s) > (0 : Int)) = false, L + L ≤ 65535, L + L ≤ 65535, nq (minQ r s) ≤ 65535, nq (maxQ r s) ≤ 65535]) (r := AV.tup [(true, [Seg.sem (Kn.rat (minQ (minQ r s) (maxQ r s))), Seg.sem (Kn.rat (maxQ (minQ r s) (maxQ r s)))]), (false, [Seg.lit (Value.bool true)])]) Tryz.func65 rfl (by kernel_rfl) ⟨by omega, by omega, by omega, by omega, nlt_d h1, by omega, by omega, ngt_d h2, by omega, by omega, ngt_d h, by omega, by omega, by omega, by omega, trivial⟩) : Cp 65 [.vv L r s, .vv M t u] _)
      rw [minQ_f h, maxQ_f h] at k
      exact k

theorem meet_0 (L M : Nat) (r s t u : Rat) (_hL : L ≤ 30000) (_hM : M ≤ 30000) (_hr : nq r ≤ 9999) (_hs : nq s ≤ 9999) (_ht : nq t ≤ 9999) (_hu : nq u ≤ 9999) (h : minQ (maxQ r s) (maxQ t u) < maxQ (minQ r s) (minQ t u)) : Cp 65 [.vv L r s, .vv M t u] (.tup [(true, zI), (false, [.lit (.bool false)])]) := by
  have a1 := nq_minQ r s
  have a2 := nq_maxQ r s
  have a3 := nq_minQ t u
  have a4 := nq_maxQ t u
  by_cases h1 : minQ r s < minQ t u
  · rw [maxQ_lt h1] at h
    by_cases h2 : maxQ t u < maxQ r s
    · rw [minQ_t h2] at h
      exact cp_of (wk tI1_ok (ds := [none, some true, some true, some true]) (fuel := 40) (obs := [L + L ≤ 65535, M + M ≤ 65535, L + L ≤ 65535, M + M ≤ 65535, decide (cmpQ (minQ r s) (minQ t u) < (0 : Int)) = true, L + L ≤ 65535, M + M ≤ 65535, decide (cmpQ (maxQ r s) (maxQ t u) > (0 : Int)) = true, M + M ≤ 65535, M + M ≤ 65535, decide (cmpQ (minQ t u) (maxQ t u) > (0 : Int)) = true]) (r := AV.tup [(true, [Seg.lit (Value.bool false), Seg.lit (Value.slice none 0 0), Seg.lit (Value.slice none 0 0), Seg.lit (Value.bool false), Seg.lit (Value.slice none 0 0), Seg.lit (Value.slice none 0 0)]), (false, [Seg.lit (Value.bool false)])]) Tryz.func65 rfl (by kernel_rfl) ⟨by omega, by omega, by omega, by omega, lt_d h1, by omega, by omega, gt_d h2, by omega, by omega, gt_d h, trivial⟩)
    · rw [minQ_f h2] at h
      exact cp_of (wk tI1_ok (ds := [none, some true, some false, some true]) (fuel := 40) (obs := [L + L ≤ 65535, M + M ≤ 65535, L + L ≤ 65535, M + M ≤ 65535, decide (cmpQ (minQ r s) (minQ t u) < (0 : Int)) = true, L + L ≤ 65535, M + M ≤ 65535, decide (cmpQ (maxQ r s) (maxQ t u) > (0 : Int)) = false, M + M ≤ 65535, L + L ≤ 65535, decide (cmpQ (minQ t u) (maxQ r s) > (0 : Int)) = true]) (r := AV.tup [(true, [Seg.lit (Value.bool false), Seg.lit (Value.slice none 0 0), Seg.lit (Value.slice none 0 0), Seg.lit (Value.bool false), Seg.lit (Value.slice none 0 0), Seg.lit (Value.slice none 0 0)]), (false, [Seg.lit (Value.bool false)])]) Tryz.func65 rfl (by kernel_rfl) ⟨by omega, by omega, by omega, by omega, lt_d h1, by omega, by omega, ngt_d h2, by omega, by omega, gt_d h, trivial⟩)
  · rw [maxQ_nlt h1] at h
    by_cases h2 : maxQ t u < maxQ r s
    · rw [minQ_t h2] at h
      exact cp_of (wk tI1_ok (ds := [none, some false, some true, some true]) (fuel := 40) (obs := [L + L ≤ 65535, M + M ≤ 65535, L + L ≤ 65535, M + M ≤ 65535, decide (cmpQ (minQ r s) (minQ t u) < (0 : Int)) = false, L + L ≤ 65535, M + M ≤ 65535, decide (cmpQ (maxQ r s) (maxQ t u) > (0 : Int)) = true, L + L ≤ 65535, M + M ≤ 65535, decide (cmpQ (minQ r s) (maxQ t u) > (0 : Int)) = true]) (r := AV.tup [(true, [Seg.lit (Value.bool false), Seg.lit (Value.slice none 0 0), Seg.lit (Value.slice none 0 0), Seg.lit (Value.bool false), Seg.lit (Value.slice none 0 0), Seg.lit (Value.slice none 0 0)]), (false, [Seg.lit (Value.bool false)])]) Tryz.func65 rfl (by kernel_rfl) ⟨by omega, by omega, by omega, by omega, nlt_d h1, by omega, by omega, gt_d h2, by omega, by omega, gt_d h, trivial⟩)
    · rw [minQ_f h2] at h
      exact cp_of (wk tI1_ok (ds := [none, some false, some false, some true]) (fuel := 40) (obs := [L + L ≤ 65535, M + M ≤ 65535, L + L ≤ 65535, M + M ≤ 65535, decide (cmpQ (minQ r s) (minQ t u) < (0 : Int)) = false, L + L ≤ 65535, M + M ≤ 65535, decide (cmpQ (maxQ r s) (maxQ t u) > (0 : Int)) = false, L + L ≤ 65535, L + L ≤ 65535, decide (cmpQ (minQ r s) (maxQ r s) > (0 : Int)) = true]) (r := AV.tup [(true, [Seg.lit (Value.bool false), Seg.lit (Value.slice none 0 0), Seg.lit (Value.slice none 0 0), Seg.lit (Value.bool false), Seg.lit (Value.slice none 0 0), Seg.lit (Value.slice none 0 0)]), (false, [Seg.lit (Value.bool false)])]) Tryz.func65 rfl (by kernel_rfl) ⟨by omega, by omega, by omega, by omega, nlt_d h1, by omega, by omega, ngt_d h2, by omega, by omega, gt_d h, trivial⟩)

abbrev k_meet : List Pa → Option (List Prop × Av)
  | [.vv L r s, .vv M t u] => some ([L ≤ 30000, M ≤ 30000, nq r ≤ 9999, nq s ≤ 9999, nq t ≤ 9999, nq u ≤ 9999, ¬ minQ (maxQ r s) (maxQ t u) < maxQ (minQ r s) (minQ t u)], .tup [(true, [.sem (.rat (maxQ (minQ r s) (minQ t u))), .sem (.rat (minQ (maxQ r s) (maxQ t u)))]), (false, [.lit (.bool true)])])
  | _ => none

theorem e_meet (args : List Av) (obs : List Prop) (r : Av) : ent [.vv, .vv] k_meet args = some (obs, r) → (∀ p ∈ obs, p) → Cn 65 args r :=
  ent_ok (fun ps obs r h ho => by
    unfold k_meet at h
    split at h
    · cases h; exact meet_c _ _ _ _ _ _ (ho _ (by simp)) (ho _ (by simp)) (ho _ (by simp)) (ho _ (by simp)) (ho _ (by simp)) (ho _ (by simp)) (ho _ (by simp))
    · cases h) args obs r

abbrev k_meet0 : List Pa → Option (List Prop × Av)
  | [.vv L r s, .vv M t u] => some ([L ≤ 30000, M ≤ 30000, nq r ≤ 9999, nq s ≤ 9999, nq t ≤ 9999, nq u ≤ 9999, minQ (maxQ r s) (maxQ t u) < maxQ (minQ r s) (minQ t u)], .tup [(true, zI), (false, [.lit (.bool false)])])
  | _ => none

theorem e_meet0 (args : List Av) (obs : List Prop) (r : Av) : ent [.vv, .vv] k_meet0 args = some (obs, r) → (∀ p ∈ obs, p) → Cn 65 args r :=
  ent_ok (fun ps obs r h ho => by
    unfold k_meet0 at h
    split at h
    · cases h; exact meet_0 _ _ _ _ _ _ (ho _ (by simp)) (ho _ (by simp)) (ho _ (by simp)) (ho _ (by simp)) (ho _ (by simp)) (ho _ (by simp)) (ho _ (by simp))
    · cases h) args obs r

noncomputable def tM4 : List Ent := (65, ent [.vv, .vv] k_meet) :: (14, k_small) :: tG4

theorem tM4_ok : EntsOk tM4 := ⟨e_meet, e_small, tG4_ok⟩

theorem rat_small {w : World} {g1 : Bool} {p1 : Option Addr} {n1 c1 : Nat} {X1 : List Nat} {q1 : Option Addr} {m1 d1 : Nat} {Y1 : List Nat} (s1 : Sl w p1 n1 c1 X1) (t1 : Sl w q1 m1 d1 Y1) (h : (decide (n1 ≤ 4) && decide (m1 ≤ 4)) = true) : ∃ r : Rat, nq r ≤ 9 ∧ (sv (.rrat 4 r)).holds Dn none' w (.agg #[.bool g1, .slice p1 n1 c1, .slice q1 m1 d1]) := by
  simp only [Bool.and_eq_true, decide_eq_true_eq] at h
  have h1 : VR w 4 _ (rw' g1 p1 n1 c1 q1 m1 d1) := ⟨_, _, _, _, _, _, _, _, _, rfl, s1, t1, rfl, h.1, h.2⟩
  exact ⟨_, nq_vr h1, sv_of (x := .rrat 4 _) h1 _⟩

end Go.Proofs.YtagciepnhjbopaaGreatDoor
