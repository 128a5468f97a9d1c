/- What the statements of this claim stand on: of Q21, what they name -/
import Derived.Test.YtagciepnhjbopaaGreatDoorA42

namespace Go.Proofs.YtagciepnhjbopaaGreatDoor
open Go.RowKit En

def validI (b c : Bool) (r s : Rat) : Bool := b && c && decide (r ≤ s)

noncomputable def tV1 : List Ent := (19, k_pvalid) :: tYl

theorem tV1_ok : EntsOk tV1 := ⟨e_pvalid, tYl_ok⟩

theorem vvalid_c (L M : Nat) (r s : Rat) (b c : Bool) (hL : L ≤ 65535) (hM : M ≤ 65535) : Cn 68 [.val true [.sem (.vrat L r b), .sem (.vrat M s c)]] (avB (validI b c r s)) := by
  unfold validI
  cases hb : b
  · exact (wk tV1_ok (ds := []) (fuel := 40) (obs := [L ≤ 65535, r = r]) (r := AV.val false [Seg.lit (Value.bool false)]) Tryz.func68 rfl (by kernel_rfl) ⟨hL, rfl, trivial⟩)
  cases hc : c
  · exact (wk tV1_ok (ds := []) (fuel := 40) (obs := [L ≤ 65535, r = r, M ≤ 65535, s = s]) (r := AV.val false [Seg.lit (Value.bool false)]) Tryz.func68 rfl (by kernel_rfl) ⟨hL, rfl, hM, rfl, trivial⟩)
  by_cases h : r ≤ s
  · rw [decide_eq_true h]
    exact (wk tV1_ok (ds := [none, none, none, none, none, none, some true, none, none]) (fuel := 40) (obs := [L ≤ 65535, r = r, M ≤ 65535, s = s, L ≤ 65535, M ≤ 65535, decide (cmpQ r s ≤ (0 : Int)) = true]) (r := AV.val false [Seg.lit (Value.bool true)]) Tryz.func68 rfl (by kernel_rfl) ⟨hL, rfl, hM, rfl, hL, hM, le_d h, trivial⟩)
  · rw [decide_eq_false h]
    exact (wk tV1_ok (ds := [none, none, none, none, none, none, some false, none, none]) (fuel := 40) (obs := [L ≤ 65535, r = r, M ≤ 65535, s = s, L ≤ 65535, M ≤ 65535, decide (cmpQ r s ≤ (0 : Int)) = false]) (r := AV.val false [Seg.lit (Value.bool false)]) Tryz.func68 rfl (by kernel_rfl) ⟨hL, rfl, hM, rfl, hL, hM, nle_d h, trivial⟩)

abbrev k_vvalid : List Av → Option (List Prop × Av)
  | [.val true [.sem (.vrat L r b), .sem (.vrat M s c)]] => some ([L ≤ 65535, M ≤ 65535], avB (validI b c r s))
  | _ => none

theorem e_vvalid (args : List Av) (obs : List Prop) (r : Av) (h : k_vvalid args = some (obs, r)) (ho : ∀ p ∈ obs, p) : Cn 68 args r := by
  unfold k_vvalid at h
  split at h
  · cases h; exact vvalid_c _ _ _ _ _ _ (ho _ (by simp)) (ho _ (by simp))
  · cases h

theorem vwidth_c (L : Nat) (r s : Rat) (_hL : L ≤ 16383) (_hr : nq r ≤ 9999) (_hs : nq s ≤ 9999) : Cp 82 [.vv L r s] (sv (.rat (maxQ r s - minQ r s))) := by
  have h1 := nq_sub s r
  have e : (s - r).abs = maxQ r s - minQ r s := by unfold maxQ minQ Rat.abs; grind
  have h := (cp_of (wk tYl_ok (ds := []) (fuel := 40) (obs := [L ≤ 16383, L ≤ 16383, nq (s - r) ≤ 65535]) (r := AV.val (true) [Seg.sem (Kn.rat (Rat.abs (s - r)))]) Tryz.func82 rfl (by kernel_rfl) (by simp only [AllP, and_true]; (repeat' apply And.intro) <;> omega)) : Cp 82 [.vv L r s] _)
  rw [e] at h
  exact h

abbrev k_vwidth : List Pa → Option (List Prop × Av)
  | [.vv L r s] => some ([L ≤ 16383, nq r ≤ 9999, nq s ≤ 9999], sv (.rat (maxQ r s - minQ r s)))
  | _ => none

theorem e_vwidth (args : List Av) (obs : List Prop) (r : Av) : ent [.vv] k_vwidth args = some (obs, r) → (∀ p ∈ obs, p) → Cn 82 args r :=
  ent_ok (fun ps obs r h ho => by
    unfold k_vwidth at h
    split at h
    · cases h; exact vwidth_c _ _ _ (ho _ (by simp)) (ho _ (by simp)) (ho _ (by simp))
    · cases h) args obs r

theorem vmid_c (L : Nat) (r s : Rat) (_hL : L ≤ 16383) (_hr : nq r ≤ 9999) (_hs : nq s ≤ 9999) : Cp 84 [.vv L r s] (sv (.rat ((r + s) * Rat.divInt 1 2))) := by
  have h1 := nq_add' r s
  have h2 := nq_dI 1 2
  have h3 : nz 1 ≤ 1 := dg_len_le (k := 1) (by rw [pB_one]; decide)
  have h4 : nz 2 ≤ 1 := dg_len_le (k := 1) (by rw [pB_one]; decide)
  exact cp_of (wk tI4_ok (ds := []) (fuel := 40) (obs := [L ≤ 16383, L ≤ 16383, (-9223372036854775808 : Int) ≤ (1 : Int), (1 : Int) ≤ (9223372036854775807 : Int), (-9223372036854775808 : Int) ≤ (2 : Int), (2 : Int) ≤ (9223372036854775807 : Int), nq (r + s) ≤ 65535, 2 ≤ 65535]) (r := AV.val (true) [Seg.sem (Kn.rat ((r + s) * Rat.divInt (1 : Int) (2 : Int)))]) Tryz.func84 rfl (by kernel_rfl) (by simp only [AllP, and_true]; (repeat' apply And.intro) <;> omega))

abbrev k_vmid : List Pa → Option (List Prop × Av)
  | [.vv L r s] => some ([L ≤ 16383, nq r ≤ 9999, nq s ≤ 9999], sv (.rat ((r + s) * Rat.divInt 1 2)))
  | _ => none

theorem e_vmid (args : List Av) (obs : List Prop) (r : Av) : ent [.vv] k_vmid args = some (obs, r) → (∀ p ∈ obs, p) → Cn 84 args r :=
  ent_ok (fun ps obs r h ho => by
    unfold k_vmid at h
    split at h
    · cases h; exact vmid_c _ _ _ (ho _ (by simp)) (ho _ (by simp)) (ho _ (by simp))
    · cases h) args obs r

noncomputable def tRd : List Ent := (46, ent [.r, .l] k_gDown) :: (48, ent [.r, .l] k_gUp) :: tI1

theorem tRd_ok : EntsOk tRd := ⟨e_gDown, e_gUp, tI1_ok⟩

noncomputable def tRdz : List Ent := (46, ent [.r, .l] k_gDownBad) :: tI1

theorem tRdz_ok : EntsOk tRdz := ⟨e_gDownBad, tI1_ok⟩

abbrev rndI (r s : Rat) (k : Nat) : Av := .tup [(true, [.sem (.rat (downQ (minQ r s) k)), .sem (.rat (upQ (maxQ r s) k))]), (false, [.lit (.int .i64 0)])]

theorem vround_c (L : Nat) (r s : Rat) (k : Int) (_hL : L ≤ 8000) (_h0 : 0 ≤ k) (_h1 : k ≤ 256) : Cp 76 [.vv L r s, .l (.int .i64 k)] (rndI r s k.toNat) :=
  cp_of (wk tRd_ok (ds := []) (fuel := 40) (obs := [L + L ≤ 65535, L + L ≤ 65535, (0 : Int) ≤ k, k ≤ (256 : Int), L + L ≤ 16383, (0 : Int) ≤ k, k ≤ (256 : Int)]) (r := AV.tup [(true, [Seg.sem (Kn.rat (downQ (minQ r s) (Int.toNat k))), Seg.sem (Kn.rat (upQ (maxQ r s) (Int.toNat k)))]), (false, [Seg.lit (Value.int IntKind.i64 (0 : Int))])]) Tryz.func76 rfl (by kernel_rfl) (by simp only [AllP, and_true]; (repeat' apply And.intro) <;> omega))

theorem vround_0 (L : Nat) (r s : Rat) (k : Int) (_hL : L ≤ 8000) (h : k < 0 ∨ 256 < k) : Cp 76 [.vv L r s, .l (.int .i64 k)] (.tup [(true, zI), (false, [.lit (.int .i64 1)])]) :=
  cp_of (wk tRdz_ok (ds := []) (fuel := 40) (obs := [L + L ≤ 65535, k < (0 : Int) ∨ (256 : Int) < k]) (r := AV.tup [(true, [Seg.lit (Value.bool false), Seg.lit (Value.slice none 0 0), Seg.lit (Value.slice none 0 0), Seg.lit (Value.bool false), Seg.lit (Value.slice none 0 0), Seg.lit (Value.slice none 0 0)]), (false, [Seg.lit (Value.int IntKind.i64 (1 : Int))])]) Tryz.func76 rfl (by kernel_rfl) ⟨by omega, h, trivial⟩)

abbrev k_vround : List Pa → Option (List Prop × Av)
  | [.vv L r s, .l (.int .i64 k)] => some ([L ≤ 8000, 0 ≤ k, k ≤ 256], rndI r s k.toNat)
  | _ => none

theorem e_vround (args : List Av) (obs : List Prop) (r : Av) : ent [.vv, .l] k_vround args = some (obs, r) → (∀ p ∈ obs, p) → Cn 76 args r :=
  ent_ok (fun ps obs r h ho => by
    unfold k_vround at h
    split at h
    · cases h; exact vround_c _ _ _ _ (ho _ (by simp)) (ho _ (by simp)) (ho _ (by simp))
    · cases h) args obs r

abbrev k_vround0 : List Pa → Option (List Prop × Av)
  | [.vv L _r _s, .l (.int .i64 k)] => some ([L ≤ 8000, k < 0 ∨ 256 < k], .tup [(true, zI), (false, [.lit (.int .i64 1)])])
  | _ => none

theorem e_vround0 (args : List Av) (obs : List Prop) (r : Av) : ent [.vv, .l] k_vround0 args = some (obs, r) → (∀ p ∈ obs, p) → Cn 76 args r :=
  ent_ok (fun ps obs r h ho => by
    unfold k_vround0 at h
    split at h
    · cases h; exact vround_0 _ _ _ _ (ho _ (by simp)) (ho _ (by simp))
    · cases h) args obs r

theorem same_hb {g : Bool} {X Y : List Nat} {r q : Rat} (hX : Dg X) (hY : Dg Y) (hr : mkRat (iv g (val X)) (val Y) = r) : decide (g = decide (q.num < 0) ∧ X = dg q.num.natAbs ∧ Y = dg q.den) = (vq g X.length X Y.length Y && decide (r = q)) := by
  have e := vq_eq hX hY hr
  by_cases hq : r = q
  · subst hq
    rw [decide_eq_true rfl, Bool.and_true, ← e]
  · rw [decide_eq_false hq, Bool.and_false, decide_eq_false_iff_not]
    rintro ⟨rfl, rfl, rfl⟩
    rw [mk_self] at hr
    exact hq hr.symm

def eqR (b : Bool) (r q : Rat) : Bool := b && decide (r = q)

abbrev k_qsameR : List Av → Option (List Prop × Av)
  | [.val true [.sem (.vrat L r b)], .val true [.sem (.rat q)]] => some ([L = L], avB (eqR b r q))
  | _ => none

theorem e_qsameR (args : List Av) (obs : List Prop) (r : Av) (h : k_qsameR args = some (obs, r)) (_ho : ∀ p ∈ obs, p) : Cn 18 args r := by
  unfold k_qsameR at h
  split at h
  · rename_i L r b q
    cases h
    refine leaf ⟨_, Tryz.func18, rfl, rfl⟩ fun w vs ht hv => ?_
    obtain ⟨v, _, rfl, h1, v', _, rfl, h2, rfl⟩ := hv
    obtain ⟨g, p, n, c, X, q', m, d, Y, rfl, s, t, hr, ⟨l, l'⟩, rfl⟩ := sv_to (x := .vrat _ _ _) h1
    obtain ⟨p2, c2, q2, d2, rfl, s2, t2⟩ := sv_to (x := .rat _) h2
    have e := same_hb (q := q) s.dig t.dig hr
    rw [s.len, t.len] at e
    exact (rrsame_g e s s2 t t2).mono fun _ _ h => rb_sv h
  · cases h

noncomputable def tW1 : List Ent := (18, k_qsameR) :: (79, ent [.vv] k_jtrim) :: []

theorem tW1_ok : EntsOk tW1 := ⟨e_qsameR, e_jtrim, trivial⟩

theorem jv_c (L M : Nat) (r s : Rat) (b c : Bool) (_hL : L ≤ 30000) (_hM : M ≤ 30000) : Cn 67 [.val true [.sem (.vrat L r b), .sem (.vrat M s c)], iv2 (minQ r s) (maxQ r s)] (avB (validI b c r s)) := by
  have e1 : validI b c r s = (eqR b r (minQ r s) && eqR c s (maxQ r s)) := by
    unfold validI eqR
    by_cases h : r ≤ s
    · have a1 : r = minQ r s := by unfold minQ; grind
      have a2 : s = maxQ r s := by unfold maxQ; grind
      rw [decide_eq_true h, decide_eq_true a1, decide_eq_true a2, Bool.and_true, Bool.and_true, Bool.and_true]
    · have a1 : ¬ r = minQ r s := by unfold minQ; grind
      rw [decide_eq_false h, decide_eq_false a1, Bool.and_false, Bool.and_false, Bool.false_and]
  rw [e1]
  cases h : eqR b r (minQ r s)
  · exact (wk tW1_ok (ds := [none, some false, none]) (fuel := 40) (obs := [L = L, eqR b r (minQ r s) = false]) (r := AV.val false [Seg.lit (Value.bool false)]) Tryz.func67 rfl (by kernel_rfl) ⟨rfl, h, trivial⟩)
  · exact (wk tW1_ok (ds := [none, some true, none]) (fuel := 40) (obs := [L = L, eqR b r (minQ r s) = true, M = M]) (r := AV.val false [Seg.lit (Value.bool (eqR c s (maxQ r s)))]) Tryz.func67 rfl (by kernel_rfl) ⟨rfl, h, rfl, trivial⟩)

abbrev k_jv : List Av → Option (List Prop × Av)
  | [.val true [.sem (.vrat L r b), .sem (.vrat M s c)], .val true [.sem (.rat x), .sem (.rat y)]] => some ([L ≤ 30000 ∧ M ≤ 30000 ∧ x = minQ r s ∧ y = maxQ r s], avB (validI b c r s))
  | _ => none

theorem e_jv (args : List Av) (obs : List Prop) (r : Av) (h : k_jv args = some (obs, r)) (ho : ∀ p ∈ obs, p) : Cn 67 args r := by
  unfold k_jv at h
  split at h
  · cases h
    obtain ⟨h1, h2, rfl, rfl⟩ := ho _ (List.mem_singleton_self _)
    exact jv_c _ _ _ _ _ _ h1 h2
  · cases h

noncomputable def tW2 : List Ent := (67, k_jv) :: (79, ent [.vv] k_jtrim) :: []

theorem tW2_ok : EntsOk tW2 := ⟨e_jv, e_jtrim, trivial⟩

theorem jvalid_c (L M : Nat) (r s : Rat) (b c : Bool) (hL : L ≤ 30000) (hM : M ≤ 30000) : Cn 69 [.val true [.sem (.vrat L r b), .sem (.vrat M s c)]] (avB (validI b c r s)) :=
  (wk tW2_ok (ds := []) (fuel := 40) (obs := [L + M ≤ 65535, L ≤ 30000 ∧ M ≤ 30000 ∧ minQ r s = minQ r s ∧ maxQ r s = maxQ r s]) (r := AV.val false [Seg.lit (Value.bool (validI b c r s))]) Tryz.func69 rfl (by kernel_rfl) ⟨by omega, ⟨hL, hM, rfl, rfl⟩, trivial⟩)

abbrev k_jvalid : List Av → Option (List Prop × Av)
  | [.val true [.sem (.vrat L r b), .sem (.vrat M s c)]] => some ([L ≤ 30000, M ≤ 30000], avB (validI b c r s))
  | _ => none

theorem e_jvalid (args : List Av) (obs : List Prop) (r : Av) (h : k_jvalid args = some (obs, r)) (ho : ∀ p ∈ obs, p) : Cn 69 args r := by
  unfold k_jvalid at h
  split at h
  · cases h; exact jvalid_c _ _ _ _ _ _ (ho _ (by simp)) (ho _ (by simp))
  · cases h

theorem jinside_c (L M : Nat) (r s t u : Rat) (_hL : L ≤ 30000) (_hM : M ≤ 15000) (ht : nq t ≤ 9999) (hu : nq u ≤ 9999) : Cp 73 [.vv L r s, .vv M t u] (avB (insB t u r s)) := by
  unfold insB
  cases h : ctn t u r
  · exact cp_of (wk tJ3_ok (ds := [none, some false, none, none]) (fuel := 40) (obs := [M + M ≤ 30000, L ≤ 65535, nq t ≤ 9999, nq u ≤ 9999, ctn t u r = false]) (r := AV.val false [Seg.lit (Value.bool false)]) Tryz.func73 rfl (by kernel_rfl) ⟨by omega, by omega, ht, hu, h, trivial⟩)
  · exact cp_of (wk tJ3_ok (ds := [none, some true, none, none, none]) (fuel := 40) (obs := [M + M ≤ 30000, L ≤ 65535, nq t ≤ 9999, nq u ≤ 9999, ctn t u r = true, M + M ≤ 30000, L ≤ 65535, nq t ≤ 9999, nq u ≤ 9999]) (r := AV.val false [Seg.lit (Value.bool (ctn t u s))]) Tryz.func73 rfl (by kernel_rfl) ⟨by omega, by omega, ht, hu, h, by omega, by omega, ht, hu, trivial⟩)

abbrev k_jinside : List Pa → Option (List Prop × Av)
  | [.vv L r s, .vv M t u] => some ([L ≤ 30000, M ≤ 15000, nq t ≤ 9999, nq u ≤ 9999], avB (insB t u r s))
  | _ => none

theorem e_jinside (args : List Av) (obs : List Prop) (r : Av) : ent [.vv, .vv] k_jinside args = some (obs, r) → (∀ p ∈ obs, p) → Cn 73 args r :=
  ent_ok (fun ps obs r h ho => by
    unfold k_jinside at h
    split at h
    · cases h; exact jinside_c _ _ _ _ _ _ (ho _ (by simp)) (ho _ (by simp)) (ho _ (by simp)) (ho _ (by simp))
    · cases h) args obs r

theorem sg_pos {r : Rat} (h : 0 < r) : decide (r.num.sign > 0) = true := by rw [sign_pos.2 h]; rfl

theorem sg_npos {r : Rat} (h : ¬ 0 < r) : decide (r.num.sign > 0) = false := by
  rcases (by grind : r < 0 ∨ r = 0) with h | h
  · rw [sign_neg.2 h]; rfl
  · rw [sign_zero.2 h]; rfl

theorem sg_neg {r : Rat} (h : r < 0) : decide (r.num.sign < 0) = true := by rw [sign_neg.2 h]; rfl

theorem sg_nneg {r : Rat} (h : ¬ r < 0) : decide (r.num.sign < 0) = false := by
  rcases (by grind : 0 < r ∨ r = 0) with h | h
  · rw [sign_pos.2 h]; rfl
  · rw [sign_zero.2 h]; rfl

theorem jsign_c (L : Nat) (r s : Rat) (_hL : L ≤ 30000) (_hr : nq r ≤ 9999) (_hs : nq s ≤ 9999) : Cp 75 [.vv L r s] (avI (sgnI r s)) := by
  have a1 := nq_minQ r s
  have a2 := nq_maxQ r s
  by_cases h : 0 < minQ r s
  · have e : sgnI r s = 1 := by
      have h1 : 0 < r := by unfold minQ at h; grind
      have h2 : 0 < s := by unfold minQ at h; grind
      unfold sgnI
      rw [sign_pos.2 h1, sign_pos.2 h2]; rfl
    rw [e]
    exact cp_of (wk tJ2_ok (ds := [some true, none]) (fuel := 40) (obs := [L + L ≤ 65535, nq (minQ r s) ≤ 262143, decide (Int.sign (Rat.num (minQ r s)) > (0 : Int)) = true]) (r := AV.val false [Seg.lit (Value.int IntKind.i64 (1 : Int))]) Tryz.func75 rfl (by kernel_rfl) ⟨by omega, by omega, sg_pos h, trivial⟩)
  · by_cases h' : maxQ r s < 0
    · have e : sgnI r s = -1 := by
        have h1 : r < 0 := by unfold maxQ at h'; grind
        have h2 : s < 0 := by unfold maxQ at h'; grind
        unfold sgnI
        rw [sign_neg.2 h1, sign_neg.2 h2]; rfl
      rw [e]
      exact cp_of (wk tJ2_ok (ds := [some false, none, some true, none]) (fuel := 40) (obs := [L + L ≤ 65535, nq (minQ r s) ≤ 262143, decide (Int.sign (Rat.num (minQ r s)) > (0 : Int)) = false, nq (maxQ r s) ≤ 262143, decide (Int.sign (Rat.num (maxQ r s)) < (0 : Int)) = true]) (r := AV.val false [Seg.lit (Value.int IntKind.i64 (-1 : Int))]) Tryz.func75 rfl (by kernel_rfl) ⟨by omega, by omega, sg_npos h, by omega, sg_neg h', trivial⟩)
    · have e : sgnI r s = 0 := by
        apply Classical.byContradiction
        intro hne
        rcases sgn_cases hne with ⟨h1, h2⟩ | ⟨h1, h2⟩
        · exact h (by unfold minQ; grind)
        · exact h' (by unfold maxQ; grind)
      rw [e]
      exact cp_of (wk tJ2_ok (ds := [some false, none, some false, none]) (fuel := 40) (obs := [L + L ≤ 65535, nq (minQ r s) ≤ 262143, decide (Int.sign (Rat.num (minQ r s)) > (0 : Int)) = false, nq (maxQ r s) ≤ 262143, decide (Int.sign (Rat.num (maxQ r s)) < (0 : Int)) = false]) (r := AV.val false [Seg.lit (Value.int IntKind.i64 (0 : Int))]) Tryz.func75 rfl (by kernel_rfl) ⟨by omega, by omega, sg_npos h, by omega, sg_nneg h', trivial⟩)

abbrev k_jsign : List Pa → Option (List Prop × Av)
  | [.vv L r s] => some ([L ≤ 30000, nq r ≤ 9999, nq s ≤ 9999], avI (sgnI r s))
  | _ => none

theorem e_jsign (args : List Av) (obs : List Prop) (r : Av) : ent [.vv] k_jsign args = some (obs, r) → (∀ p ∈ obs, p) → Cn 75 args r :=
  ent_ok (fun ps obs r h ho => by
    unfold k_jsign at h
    split at h
    · cases h; exact jsign_c _ _ _ (ho _ (by simp)) (ho _ (by simp)) (ho _ (by simp))
    · cases h) args obs r

theorem jmid_c (L : Nat) (r s : Rat) (_hL : L ≤ 16383) (_hr : nq r ≤ 9999) (_hs : nq s ≤ 9999) : Cp 85 [.vv L r s] (sv (.rat ((r + s) * Rat.divInt 1 2))) := by
  have h1 := nq_add' r s
  have h2 := nq_dI 1 2
  have h3 : nz 1 ≤ 1 := dg_len_le (k := 1) (by rw [pB_one]; decide)
  have h4 : nz 2 ≤ 1 := dg_len_le (k := 1) (by rw [pB_one]; decide)
  exact cp_of (wk tJ3_ok (ds := []) (fuel := 40) (obs := [L ≤ 65535, L ≤ 65535, (-9223372036854775808 : Int) ≤ (1 : Int), (1 : Int) ≤ (9223372036854775807 : Int), (-9223372036854775808 : Int) ≤ (2 : Int), (2 : Int) ≤ (9223372036854775807 : Int), nq (r + s) ≤ 65535, 2 ≤ 65535]) (r := AV.val (true) [Seg.sem (Kn.rat ((r + s) * Rat.divInt (1 : Int) (2 : Int)))]) Tryz.func85 rfl (by kernel_rfl) (by simp only [AllP, and_true]; (repeat' apply And.intro) <;> omega))

abbrev k_jmid : List Pa → Option (List Prop × Av)
  | [.vv L r s] => some ([L ≤ 16383, nq r ≤ 9999, nq s ≤ 9999], sv (.rat ((r + s) * Rat.divInt 1 2)))
  | _ => none

theorem e_jmid (args : List Av) (obs : List Prop) (r : Av) : ent [.vv] k_jmid args = some (obs, r) → (∀ p ∈ obs, p) → Cn 85 args r :=
  ent_ok (fun ps obs r h ho => by
    unfold k_jmid at h
    split at h
    · cases h; exact jmid_c _ _ _ (ho _ (by simp)) (ho _ (by simp)) (ho _ (by simp))
    · cases h) args obs r

theorem jadd_c (L M : Nat) (r s t u : Rat) (_hL : L ≤ 30000) (_hM : M ≤ 30000) (_hr : nq r ≤ 4999) (_hs : nq s ≤ 4999) (_ht : nq t ≤ 4999) (_hu : nq u ≤ 4999) : Cp 87 [.vv L r s, .vv M t u] (iv2 (minQ r s + minQ t u) (maxQ r s + maxQ t u)) := by
  have a1 := nq_minQ r s
  have a2 := nq_maxQ r s
  have a3 := nq_minQ t u
  have a4 := nq_maxQ t u
  exact cp_of (wk tJ3_ok (ds := []) (fuel := 40) (obs := [L + L ≤ 65535, M + M ≤ 65535, nq (minQ r s) ≤ 65535, nq (minQ t u) ≤ 65535, nq (maxQ r s) ≤ 65535, nq (maxQ t u) ≤ 65535]) (r := AV.val (true) [Seg.sem (Kn.rat (minQ r s + minQ t u)), Seg.sem (Kn.rat (maxQ r s + maxQ t u))]) Tryz.func87 rfl (by kernel_rfl) (by simp only [AllP, and_true]; (repeat' apply And.intro) <;> omega))

abbrev k_jadd : List Pa → Option (List Prop × Av)
  | [.vv L r s, .vv M t u] => some ([L ≤ 30000, M ≤ 30000, nq r ≤ 4999, nq s ≤ 4999, nq t ≤ 4999, nq u ≤ 4999], iv2 (minQ r s + minQ t u) (maxQ r s + maxQ t u))
  | _ => none

theorem e_jadd (args : List Av) (obs : List Prop) (r : Av) : ent [.vv, .vv] k_jadd args = some (obs, r) → (∀ p ∈ obs, p) → Cn 87 args r :=
  ent_ok (fun ps obs r h ho => by
    unfold k_jadd at h
    split at h
    · cases h; exact jadd_c _ _ _ _ _ _ (ho _ (by simp)) (ho _ (by simp)) (ho _ (by simp)) (ho _ (by simp)) (ho _ (by simp)) (ho _ (by simp))
    · cases h) args obs r

theorem jneg_c (L : Nat) (r s : Rat) (_hL : L ≤ 30000) (_hr : nq r ≤ 4999) (_hs : nq s ≤ 4999) : Cp 147 [.vv L r s] (iv2 (-(maxQ r s)) (-(minQ r s))) := by
  have a1 := nq_neg r
  have a2 := nq_neg s
  have h := (cp_of (wk tJ3_ok (ds := []) (fuel := 40) (obs := [L ≤ 262143, nq r ≤ 262143, L ≤ 262143, nq s ≤ 262143, nq (-r) ≤ 32767, nq (-s) ≤ 32767]) (r := AV.val (true) [Seg.sem (Kn.rat (minQ (-r) (-s))), Seg.sem (Kn.rat (maxQ (-r) (-s)))]) Tryz.func147 rfl (by kernel_rfl) (by simp only [AllP, and_true]; (repeat' apply And.intro) <;> omega)) : Cp 147 [.vv L r s] _)
  rw [min_neg, max_neg] at h
  exact h

abbrev k_jneg : List Pa → Option (List Prop × Av)
  | [.vv L r s] => some ([L ≤ 30000, nq r ≤ 4999, nq s ≤ 4999], iv2 (-(maxQ r s)) (-(minQ r s)))
  | _ => none

theorem e_jneg (args : List Av) (obs : List Prop) (r : Av) : ent [.vv] k_jneg args = some (obs, r) → (∀ p ∈ obs, p) → Cn 147 args r :=
  ent_ok (fun ps obs r h ho => by
    unfold k_jneg at h
    split at h
    · cases h; exact jneg_c _ _ _ (ho _ (by simp)) (ho _ (by simp)) (ho _ (by simp))
    · cases h) args obs r

noncomputable def tJ4 : List Ent := (147, ent [.vv] k_jneg) :: (87, ent [.vv, .vv] k_jadd) :: (75, ent [.vv] k_jsign) :: tJ3

theorem tJ4_ok : EntsOk tJ4 := ⟨e_jneg, e_jadd, e_jsign, tJ3_ok⟩

theorem jsub_c (L M : Nat) (r s t u : Rat) (_hL : L ≤ 15000) (_hM : M ≤ 15000) (_hr : nq r ≤ 999) (_hs : nq s ≤ 999) (_ht : nq t ≤ 999) (_hu : nq u ≤ 999) : Cp 89 [.vv L r s, .vv M t u] (iv2 (minQ r s - maxQ t u) (maxQ r s - minQ t u)) := by
  have a3 := nq_minQ t u
  have a4 := nq_maxQ t u
  have a5 := nq_neg (minQ t u)
  have a6 := nq_neg (maxQ t u)
  have h := (cp_of (wk tJ4_ok (ds := []) (fuel := 40) (obs := [M + M ≤ 30000, nq t ≤ 4999, nq u ≤ 4999, L + L ≤ 30000, nq (-maxQ t u) + nq (-minQ t u) ≤ 30000, nq r ≤ 4999, nq s ≤ 4999, nq (-maxQ t u) ≤ 4999, nq (-minQ t u) ≤ 4999]) (r := AV.val (true) [Seg.sem (Kn.rat (minQ r s + minQ (-maxQ t u) (-minQ t u))), Seg.sem (Kn.rat (maxQ r s + maxQ (-maxQ t u) (-minQ t u)))]) Tryz.func89 rfl (by kernel_rfl) (by simp only [AllP, and_true]; (repeat' apply And.intro) <;> omega)) : Cp 89 [.vv L r s, .vv M t u] _)
  have e1 : minQ r s + minQ (-(maxQ t u)) (-(minQ t u)) = minQ r s - maxQ t u := by unfold minQ maxQ; grind
  have e2 : maxQ r s + maxQ (-(maxQ t u)) (-(minQ t u)) = maxQ r s - minQ t u := by unfold minQ maxQ; grind
  rw [e1, e2] at h
  exact h

abbrev k_jsub : List Pa → Option (List Prop × Av)
  | [.vv L r s, .vv M t u] => some ([L ≤ 15000, M ≤ 15000, nq r ≤ 999, nq s ≤ 999, nq t ≤ 999, nq u ≤ 999], iv2 (minQ r s - maxQ t u) (maxQ r s - minQ t u))
  | _ => none

theorem e_jsub (args : List Av) (obs : List Prop) (r : Av) : ent [.vv, .vv] k_jsub args = some (obs, r) → (∀ p ∈ obs, p) → Cn 89 args r :=
  ent_ok (fun ps obs r h ho => by
    unfold k_jsub at h
    split at h
    · cases h; exact jsub_c _ _ _ _ _ _ (ho _ (by simp)) (ho _ (by simp)) (ho _ (by simp)) (ho _ (by simp)) (ho _ (by simp)) (ho _ (by simp))
    · cases h) args obs r

theorem jmul_c (L M : Nat) (r s t u : Rat) (_hL : L ≤ 65535) (_hM : M ≤ 65535) (_hr : nq r ≤ 2999) (_hs : nq s ≤ 2999) (_ht : nq t ≤ 2999) (_hu : nq u ≤ 2999) : Cp 91 [.vv L r s, .vv M t u] (mulI r s t u) := by
  have h1 := nq_mul r t
  have h2 := nq_mul r u
  have h3 := nq_mul s t
  have h4 := nq_mul s u
  have h5 := nq_minQ (r * t) (r * u)
  have h6 := nq_minQ (s * t) (s * u)
  have h7 := nq_maxQ (r * t) (r * u)
  have h8 := nq_maxQ (s * t) (s * u)
  exact cp_of (wk tJ3_ok (ds := []) (fuel := 40) (obs := [L ≤ 65535, M ≤ 65535, L ≤ 65535, M ≤ 65535, L ≤ 65535, M ≤ 65535, L ≤ 65535, M ≤ 65535, nq (r * t) ≤ 65535, nq (r * u) ≤ 65535, nq (s * t) ≤ 65535, nq (s * u) ≤ 65535, nq (minQ (r * t) (r * u)) ≤ 65535, nq (minQ (s * t) (s * u)) ≤ 65535, nq (r * t) ≤ 65535, nq (r * u) ≤ 65535, nq (s * t) ≤ 65535, nq (s * u) ≤ 65535, nq (maxQ (r * t) (r * u)) ≤ 65535, nq (maxQ (s * t) (s * u)) ≤ 65535]) (r := AV.val (true) [Seg.sem (Kn.rat (minQ (minQ (r * t) (r * u)) (minQ (s * t) (s * u)))), Seg.sem (Kn.rat (maxQ (maxQ (r * t) (r * u)) (maxQ (s * t) (s * u))))]) Tryz.func91 rfl (by kernel_rfl) (by simp only [AllP, and_true]; (repeat' apply And.intro) <;> omega))

abbrev k_jmul : List Pa → Option (List Prop × Av)
  | [.vv L r s, .vv M t u] => some ([L ≤ 65535, M ≤ 65535, nq r ≤ 2999, nq s ≤ 2999, nq t ≤ 2999, nq u ≤ 2999], mulI r s t u)
  | _ => none

theorem e_jmul (args : List Av) (obs : List Prop) (r : Av) : ent [.vv, .vv] k_jmul args = some (obs, r) → (∀ p ∈ obs, p) → Cn 91 args r :=
  ent_ok (fun ps obs r h ho => by
    unfold k_jmul at h
    split at h
    · cases h; exact jmul_c _ _ _ _ _ _ (ho _ (by simp)) (ho _ (by simp)) (ho _ (by simp)) (ho _ (by simp)) (ho _ (by simp)) (ho _ (by simp))
    · cases h) args obs r

theorem jsquare_c (L : Nat) (r s : Rat) (_hL : L ≤ 15000) (_hr : nq r ≤ 2999) (_hs : nq s ≤ 2999) : Cp 93 [.vv L r s] (iv2 (sqLo r s) (maxQ (r * r) (s * s))) := by
  have h1 := nq_mul r r
  have h2 := nq_mul s s
  unfold sqLo
  by_cases h : sgnI r s = 0
  · rw [if_pos h]
    exact cp_of (wk tJ4_ok (ds := [some true]) (fuel := 40) (obs := [L ≤ 65535, L ≤ 65535, L ≤ 65535, L ≤ 65535, nq (r * r) ≤ 32767, nq (s * s) ≤ 32767, L + L ≤ 30000, nq r ≤ 9999, nq s ≤ 9999, (sgnI r s == (0 : Int)) = true, (-9223372036854775808 : Int) ≤ (0 : Int), (0 : Int) ≤ (9223372036854775807 : Int)]) (r := AV.val (true) [Seg.sem (Kn.rat (↑(0 : Int) : Rat)), Seg.sem (Kn.rat (maxQ (r * r) (s * s)))]) Tryz.func93 rfl (by kernel_rfl) ⟨by omega, by omega, by omega, by omega, by omega, by omega, by omega, by omega, by omega, by simp [h], by decide, by decide, trivial⟩)
  · rw [if_neg h]
    exact cp_of (wk tJ4_ok (ds := [some false]) (fuel := 40) (obs := [L ≤ 65535, L ≤ 65535, L ≤ 65535, L ≤ 65535, nq (r * r) ≤ 32767, nq (s * s) ≤ 32767, L + L ≤ 30000, nq r ≤ 9999, nq s ≤ 9999, (sgnI r s == (0 : Int)) = false]) (r := AV.val (true) [Seg.sem (Kn.rat (minQ (r * r) (s * s))), Seg.sem (Kn.rat (maxQ (r * r) (s * s)))]) Tryz.func93 rfl (by kernel_rfl) ⟨by omega, by omega, by omega, by omega, by omega, by omega, by omega, by omega, by omega, by simp [h], trivial⟩)

abbrev k_jsquare : List Pa → Option (List Prop × Av)
  | [.vv L r s] => some ([L ≤ 15000, nq r ≤ 2999, nq s ≤ 2999], iv2 (sqLo r s) (maxQ (r * r) (s * s)))
  | _ => none

theorem e_jsquare (args : List Av) (obs : List Prop) (r : Av) : ent [.vv] k_jsquare args = some (obs, r) → (∀ p ∈ obs, p) → Cn 93 args r :=
  ent_ok (fun ps obs r h ho => by
    unfold k_jsquare at h
    split at h
    · cases h; exact jsquare_c _ _ _ (ho _ (by simp)) (ho _ (by simp)) (ho _ (by simp))
    · cases h) args obs r

noncomputable def tJ5 : List Ent := (91, ent [.vv, .vv] k_jmul) :: tJ4

theorem tJ5_ok : EntsOk tJ5 := ⟨e_jmul, tJ4_ok⟩

theorem jdiv0_c (L M : Nat) (r s t u : Rat) (_hM : M ≤ 15000) (ht : nq t ≤ 9999) (hu : nq u ≤ 9999) (h : sgnI t u = 0) : Cp 64 [.vv L r s, .vv M t u] (.tup [(true, zI), (false, [.lit (.int .i64 3)])]) :=
  cp_of (wk tJ5_ok (ds := [some true]) (fuel := 40) (obs := [M + M ≤ 30000, nq t ≤ 9999, nq u ≤ 9999, (sgnI t u == (0 : Int)) = true]) (r := AV.tup [(true, [Seg.lit (Value.bool false), Seg.lit (Value.slice none 0 0), Seg.lit (Value.slice none 0 0), Seg.lit (Value.bool false), Seg.lit (Value.slice none 0 0), Seg.lit (Value.slice none 0 0)]), (false, [Seg.lit (Value.int IntKind.i64 (3 : Int))])]) Tryz.func64 rfl (by kernel_rfl) ⟨by omega, ht, hu, by simp [h], trivial⟩)

theorem mm_swap (r s p q : Rat) : min4 (r * minQ p q) (r * maxQ p q) (s * minQ p q) (s * maxQ p q) = min4 (r * p) (r * q) (s * p) (s * q) ∧ max4 (r * minQ p q) (r * maxQ p q) (s * minQ p q) (s * maxQ p q) = max4 (r * p) (r * q) (s * p) (s * q) := by
  by_cases h : q < p
  · rw [minQ_t h, maxQ_t h]
    generalize r * p = a1
    generalize r * q = a2
    generalize s * p = a3
    generalize s * q = a4
    unfold min4 max4 minQ maxQ
    constructor <;> grind
  · rw [minQ_f h, maxQ_f h]
    exact ⟨rfl, rfl⟩

abbrev divI (r s t u : Rat) : Av := .tup [(true, [.sem (.rat (min4 (r * (1 / t)) (r * (1 / u)) (s * (1 / t)) (s * (1 / u)))), .sem (.rat (max4 (r * (1 / t)) (r * (1 / u)) (s * (1 / t)) (s * (1 / u))))]), (false, [.lit (.int .i64 0)])]

theorem jdiv_c (L M : Nat) (r s t u : Rat) (_hL : L ≤ 30000) (_hM : M ≤ 15000) (_hr : nq r ≤ 499) (_hs : nq s ≤ 499) (_ht : nq t ≤ 499) (_hu : nq u ≤ 499) (h : sgnI t u ≠ 0) : Cp 64 [.vv L r s, .vv M t u] (divI r s t u) := by
  have h1 : nq (((1 : Int) : Rat) / t) ≤ nq t + 1 := nq_inv t
  have h2 : nq (((1 : Int) : Rat) / u) ≤ nq u + 1 := nq_inv u
  have h3 := nq_minQ (((1 : Int) : Rat) / t) (((1 : Int) : Rat) / u)
  have h4 := nq_maxQ (((1 : Int) : Rat) / t) (((1 : Int) : Rat) / u)
  have k := (cp_of (wk tJ5_ok (ds := [some false]) (fuel := 40) (obs := [M + M ≤ 30000, nq t ≤ 9999, nq u ≤ 9999, (sgnI t u == (0 : Int)) = false, (-9223372036854775808 : Int) ≤ (1 : Int), (1 : Int) ≤ (9223372036854775807 : Int), 2 ≤ 65535, M ≤ 65535, (-9223372036854775808 : Int) ≤ (1 : Int), (1 : Int) ≤ (9223372036854775807 : Int), 2 ≤ 65535, M ≤ 65535, nq ((↑(1 : Int) : Rat) / t) ≤ 32767, nq ((↑(1 : Int) : Rat) / u) ≤ 32767, L + L ≤ 65535, nq (minQ ((↑(1 : Int) : Rat) / t) ((↑(1 : Int) : Rat) / u)) + nq (maxQ ((↑(1 : Int) : Rat) / t) ((↑(1 : Int) : Rat) / u)) ≤ 65535, nq r ≤ 2999, nq s ≤ 2999, nq (minQ ((↑(1 : Int) : Rat) / t) ((↑(1 : Int) : Rat) / u)) ≤ 2999, nq (maxQ ((↑(1 : Int) : Rat) / t) ((↑(1 : Int) : Rat) / u)) ≤ 2999]) (r := AV.tup [(true, [Seg.sem (Kn.rat (min4 (r * minQ ((↑(1 : Int) : Rat) / t) ((↑(1 : Int) : Rat) / u)) (r * maxQ ((↑(1 : Int) : Rat) / t) ((↑(1 : Int) : Rat) / u)) (s * minQ ((↑(1 : Int) : Rat) / t) ((↑(1 : Int) : Rat) / u)) (s * maxQ ((↑(1 : Int) : Rat) / t) ((↑(1 : Int) : Rat) / u)))), Seg.sem (Kn.rat (max4 (r * minQ ((↑(1 : Int) : Rat) / t) ((↑(1 : Int) : Rat) / u)) (r * maxQ ((↑(1 : Int) : Rat) / t) ((↑(1 : Int) : Rat) / u)) (s * minQ ((↑(1 : Int) : Rat) / t) ((↑(1 : Int) : Rat) / u)) (s * maxQ ((↑(1 : Int) : Rat) / t) ((↑(1 : Int) : Rat) / u))))]), (false, [Seg.lit (Value.int IntKind.i64 (0 : Int))])]) Tryz.func64 rfl (by kernel_rfl) (by simp only [AllP, and_true]; (repeat' apply And.intro) <;> first | omega | simpa using h)) : Cp 64 [.vv L r s, .vv M t u] _)
  rw [(mm_swap r s (((1 : Int) : Rat) / t) (((1 : Int) : Rat) / u)).1, (mm_swap r s (((1 : Int) : Rat) / t) (((1 : Int) : Rat) / u)).2] at k
  exact k

abbrev k_jdiv : List Pa → Option (List Prop × Av)
  | [.vv L r s, .vv M t u] => some ([L ≤ 30000, M ≤ 15000, nq r ≤ 499, nq s ≤ 499, nq t ≤ 499, nq u ≤ 499, sgnI t u ≠ 0], divI r s t u)
  | _ => none

theorem e_jdiv (args : List Av) (obs : List Prop) (r : Av) : ent [.vv, .vv] k_jdiv args = some (obs, r) → (∀ p ∈ obs, p) → Cn 64 args r :=
  ent_ok (fun ps obs r h ho => by
    unfold k_jdiv at h
    split at h
    · cases h; exact jdiv_c _ _ _ _ _ _ (ho _ (by simp)) (ho _ (by simp)) (ho _ (by simp)) (ho _ (by simp)) (ho _ (by simp)) (ho _ (by simp)) (ho _ (by simp))
    · cases h) args obs r

abbrev k_jdiv0 : List Pa → Option (List Prop × Av)
  | [.vv _L _r _s, .vv M t u] => some ([M ≤ 15000, nq t ≤ 9999, nq u ≤ 9999, sgnI t u = 0], .tup [(true, zI), (false, [.lit (.int .i64 3)])])
  | _ => none

theorem e_jdiv0 (args : List Av) (obs : List Prop) (r : Av) : ent [.vv, .vv] k_jdiv0 args = some (obs, r) → (∀ p ∈ obs, p) → Cn 64 args r :=
  ent_ok (fun ps obs r h ho => by
    unfold k_jdiv0 at h
    split at h
    · cases h; exact jdiv0_c _ _ _ _ _ _ (ho _ (by simp)) (ho _ (by simp)) (ho _ (by simp)) (ho _ (by simp))
    · cases h) args obs r

theorem jmeet_c (L M : Nat) (r s t u : Rat) (_hL : L ≤ 30000) (_hM : M ≤ 30000) (_hr : nq r ≤ 4999) (_hs : nq s ≤ 4999) (_ht : nq t ≤ 4999) (_hu : nq u ≤ 4999) (h : ¬ minQ (maxQ r s) (maxQ t u) < maxQ (minQ r s) (minQ t u)) : Cp 66 [.vv L r s, .vv M t u] (.tup [(true, [.sem (.rat (maxQ (minQ r s) (minQ t u))), .sem (.rat (minQ (maxQ r s) (maxQ t u)))]), (false, [.lit (.bool true)])]) := by
  have a1 := nq_minQ r s
  have a2 := nq_maxQ r s
  have a3 := nq_minQ t u
  have a4 := nq_maxQ t u
  have a5 := nq_maxQ (minQ r s) (minQ t u)
  have a6 := nq_minQ (maxQ r s) (maxQ t u)
  exact cp_of (wk tJ3_ok (ds := [none, some false]) (fuel := 40) (obs := [L + L ≤ 65535, M + M ≤ 65535, nq (minQ r s) ≤ 65535, nq (minQ t u) ≤ 65535, nq (maxQ r s) ≤ 65535, nq (maxQ t u) ≤ 65535, nq (minQ (maxQ r s) (maxQ t u)) ≤ 65535, nq (maxQ (minQ r s) (minQ t u)) ≤ 65535, decide (cmpQ (minQ (maxQ r s) (maxQ t u)) (maxQ (minQ r s) (minQ t u)) < (0 : Int)) = false]) (r := AV.tup [(true, [Seg.sem (Kn.rat (maxQ (minQ r s) (minQ t u))), Seg.sem (Kn.rat (minQ (maxQ r s) (maxQ t u)))]), (false, [Seg.lit (Value.bool true)])]) Tryz.func66 rfl (by kernel_rfl) (by simp only [AllP, and_true, decide_eq_false_iff_not]; (repeat' apply And.intro) <;> first | omega | exact fun h' => h ((cmp_lt _ _).1 h')))

theorem jmeet_0 (L M : Nat) (r s t u : Rat) (_hL : L ≤ 30000) (_hM : M ≤ 30000) (_hr : nq r ≤ 4999) (_hs : nq s ≤ 4999) (_ht : nq t ≤ 4999) (_hu : nq u ≤ 4999) (h : minQ (maxQ r s) (maxQ t u) < maxQ (minQ r s) (minQ t u)) : Cp 66 [.vv L r s, .vv M t u] (.tup [(true, zI), (false, [.lit (.bool false)])]) := by
  have a1 := nq_minQ r s
  have a2 := nq_maxQ r s
  have a3 := nq_minQ t u
  have a4 := nq_maxQ t u
  have a5 := nq_maxQ (minQ r s) (minQ t u)
  have a6 := nq_minQ (maxQ r s) (maxQ t u)
  exact cp_of (wk tJ3_ok (ds := [none, some true]) (fuel := 40) (obs := [L + L ≤ 65535, M + M ≤ 65535, nq (minQ r s) ≤ 65535, nq (minQ t u) ≤ 65535, nq (maxQ r s) ≤ 65535, nq (maxQ t u) ≤ 65535, nq (minQ (maxQ r s) (maxQ t u)) ≤ 65535, nq (maxQ (minQ r s) (minQ t u)) ≤ 65535, decide (cmpQ (minQ (maxQ r s) (maxQ t u)) (maxQ (minQ r s) (minQ t u)) < (0 : Int)) = true]) (r := AV.tup [(true, [Seg.lit (Value.bool false), Seg.lit (Value.slice none 0 0), Seg.lit (Value.slice none 0 0), Seg.lit (Value.bool false), Seg.lit (Value.slice none 0 0), Seg.lit (Value.slice none 0 0)]), (false, [Seg.lit (Value.bool false)])]) Tryz.func66 rfl (by kernel_rfl) (by simp only [AllP, and_true, decide_eq_true_eq]; (repeat' apply And.intro) <;> first | omega | exact (cmp_lt _ _).2 h))

abbrev k_jmeet : List Pa → Option (List Prop × Av)
  | [.vv L r s, .vv M t u] => some ([L ≤ 30000, M ≤ 30000, nq r ≤ 4999, nq s ≤ 4999, nq t ≤ 4999, nq u ≤ 4999, ¬ minQ (maxQ r s) (maxQ t u) < maxQ (minQ r s) (minQ t u)], .tup [(true, [.sem (.rat (maxQ (minQ r s) (minQ t u))), .sem (.rat (minQ (maxQ r s) (maxQ t u)))]), (false, [.lit (.bool true)])])
  | _ => none

theorem e_jmeet (args : List Av) (obs : List Prop) (r : Av) : ent [.vv, .vv] k_jmeet args = some (obs, r) → (∀ p ∈ obs, p) → Cn 66 args r :=
  ent_ok (fun ps obs r h ho => by
    unfold k_jmeet at h
    split at h
    · cases h; exact jmeet_c _ _ _ _ _ _ (ho _ (by simp)) (ho _ (by simp)) (ho _ (by simp)) (ho _ (by simp)) (ho _ (by simp)) (ho _ (by simp)) (ho _ (by simp))
    · cases h) args obs r

abbrev k_jmeet0 : List Pa → Option (List Prop × Av)
  | [.vv L r s, .vv M t u] => some ([L ≤ 30000, M ≤ 30000, nq r ≤ 4999, nq s ≤ 4999, nq t ≤ 4999, nq u ≤ 4999, minQ (maxQ r s) (maxQ t u) < maxQ (minQ r s) (minQ t u)], .tup [(true, zI), (false, [.lit (.bool false)])])
  | _ => none

theorem e_jmeet0 (args : List Av) (obs : List Prop) (r : Av) : ent [.vv, .vv] k_jmeet0 args = some (obs, r) → (∀ p ∈ obs, p) → Cn 66 args r :=
  ent_ok (fun ps obs r h ho => by
    unfold k_jmeet0 at h
    split at h
    · cases h; exact jmeet_0 _ _ _ _ _ _ (ho _ (by simp)) (ho _ (by simp)) (ho _ (by simp)) (ho _ (by simp)) (ho _ (by simp)) (ho _ (by simp)) (ho _ (by simp))
    · cases h) args obs r

theorem jhull_c (L M : Nat) (r s t u : Rat) (_hL : L ≤ 30000) (_hM : M ≤ 30000) (_hr : nq r ≤ 4999) (_hs : nq s ≤ 4999) (_ht : nq t ≤ 4999) (_hu : nq u ≤ 4999) : Cp 95 [.vv L r s, .vv M t u] (iv2 (min4 r s t u) (max4 r s t u)) := by
  have a1 := nq_minQ r s
  have a2 := nq_maxQ r s
  have a3 := nq_minQ t u
  have a4 := nq_maxQ t u
  exact cp_of (wk tJ3_ok (ds := []) (fuel := 40) (obs := [L + L ≤ 65535, M + M ≤ 65535, nq (minQ r s) ≤ 65535, nq (minQ t u) ≤ 65535, nq (maxQ r s) ≤ 65535, nq (maxQ t u) ≤ 65535]) (r := AV.val (true) [Seg.sem (Kn.rat (minQ (minQ r s) (minQ t u))), Seg.sem (Kn.rat (maxQ (maxQ r s) (maxQ t u)))]) Tryz.func95 rfl (by kernel_rfl) (by simp only [AllP, and_true]; (repeat' apply And.intro) <;> omega))

abbrev k_jhull : List Pa → Option (List Prop × Av)
  | [.vv L r s, .vv M t u] => some ([L ≤ 30000, M ≤ 30000, nq r ≤ 4999, nq s ≤ 4999, nq t ≤ 4999, nq u ≤ 4999], iv2 (min4 r s t u) (max4 r s t u))
  | _ => none

theorem e_jhull (args : List Av) (obs : List Prop) (r : Av) : ent [.vv, .vv] k_jhull args = some (obs, r) → (∀ p ∈ obs, p) → Cn 95 args r :=
  ent_ok (fun ps obs r h ho => by
    unfold k_jhull at h
    split at h
    · cases h; exact jhull_c _ _ _ _ _ _ (ho _ (by simp)) (ho _ (by simp)) (ho _ (by simp)) (ho _ (by simp)) (ho _ (by simp)) (ho _ (by simp))
    · cases h) args obs r

noncomputable def tJd : List Ent := (47, ent [.r, .l] k_hDown) :: (49, ent [.r, .l] k_hUp) :: tJ2

theorem tJd_ok : EntsOk tJd := ⟨e_hDown, e_hUp, tJ2_ok⟩

noncomputable def tJdz : List Ent := (47, ent [.r, .l] k_hDownBad) :: tJ2

theorem tJdz_ok : EntsOk tJdz := ⟨e_hDownBad, tJ2_ok⟩

theorem jround_c (L : Nat) (r s : Rat) (k : Int) (_hL : L ≤ 8000) (_hr : nq r ≤ 999) (_hs : nq s ≤ 999) (_h0 : 0 ≤ k) (_h1 : k ≤ 256) : Cp 77 [.vv L r s, .l (.int .i64 k)] (rndI r s k.toNat) := by
  have a1 := nq_minQ r s
  have a2 := nq_maxQ r s
  exact cp_of (wk tJd_ok (ds := []) (fuel := 40) (obs := [L + L ≤ 65535, nq (minQ r s) ≤ 4000, (0 : Int) ≤ k, k ≤ (256 : Int), nq (minQ r s) ≤ 4000, nq (maxQ r s) ≤ 4000, (0 : Int) ≤ k, k ≤ (256 : Int), nq (maxQ r s) ≤ 4000]) (r := AV.tup [(true, [Seg.sem (Kn.rat (downQ (minQ r s) (Int.toNat k))), Seg.sem (Kn.rat (upQ (maxQ r s) (Int.toNat k)))]), (false, [Seg.lit (Value.int IntKind.i64 (0 : Int))])]) Tryz.func77 rfl (by kernel_rfl) (by simp only [AllP, and_true]; (repeat' apply And.intro) <;> omega))

theorem jround_0 (L : Nat) (r s : Rat) (k : Int) (_hL : L ≤ 8000) (h : k < 0 ∨ 256 < k) : Cp 77 [.vv L r s, .l (.int .i64 k)] (.tup [(true, zI), (false, [.lit (.int .i64 1)])]) :=
  cp_of (wk tJdz_ok (ds := []) (fuel := 40) (obs := [L + L ≤ 65535, k < (0 : Int) ∨ (256 : Int) < k]) (r := AV.tup [(true, [Seg.lit (Value.bool false), Seg.lit (Value.slice none 0 0), Seg.lit (Value.slice none 0 0), Seg.lit (Value.bool false), Seg.lit (Value.slice none 0 0), Seg.lit (Value.slice none 0 0)]), (false, [Seg.lit (Value.int IntKind.i64 (1 : Int))])]) Tryz.func77 rfl (by kernel_rfl) ⟨by omega, h, trivial⟩)

abbrev k_jround : List Pa → Option (List Prop × Av)
  | [.vv L r s, .l (.int .i64 k)] => some ([L ≤ 8000, nq r ≤ 999, nq s ≤ 999, 0 ≤ k, k ≤ 256], rndI r s k.toNat)
  | _ => none

theorem e_jround (args : List Av) (obs : List Prop) (r : Av) : ent [.vv, .l] k_jround args = some (obs, r) → (∀ p ∈ obs, p) → Cn 77 args r :=
  ent_ok (fun ps obs r h ho => by
    unfold k_jround at h
    split at h
    · cases h; exact jround_c _ _ _ _ (ho _ (by simp)) (ho _ (by simp)) (ho _ (by simp)) (ho _ (by simp)) (ho _ (by simp))
    · cases h) args obs r

abbrev k_jround0 : List Pa → Option (List Prop × Av)
  | [.vv L _r _s, .l (.int .i64 k)] => some ([L ≤ 8000, k < 0 ∨ 256 < k], .tup [(true, zI), (false, [.lit (.int .i64 1)])])
  | _ => none

theorem e_jround0 (args : List Av) (obs : List Prop) (r : Av) : ent [.vv, .l] k_jround0 args = some (obs, r) → (∀ p ∈ obs, p) → Cn 77 args r :=
  ent_ok (fun ps obs r h ho => by
    unfold k_jround0 at h
    split at h
    · cases h; exact jround_0 _ _ _ _ (ho _ (by simp)) (ho _ (by simp))
    · cases h) args obs r

end Go.Proofs.YtagciepnhjbopaaGreatDoor
