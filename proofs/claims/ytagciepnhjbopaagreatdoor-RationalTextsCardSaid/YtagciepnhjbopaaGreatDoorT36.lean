/- What the statements of this claim stand on: of Rr3, Rr4, Q3, what they name -/
import Derived.Test.YtagciepnhjbopaaGreatDoorT34
import Derived.Test.YtagciepnhjbopaaGreatDoorT35

namespace Go.Proofs.YtagciepnhjbopaaGreatDoor
open Go.RowKit

theorem nq_le {r : Rat} {z : Int} {d : Nat} {L : Nat} (hd : d ≠ 0) (hr : mkRat z d = r) (_h1 : nz z ≤ L) (h2 : nz (d : Int) ≤ L + 1) : nq r ≤ 2 * L + 1 := by
  have := nq_mk z hd
  rw [hr] at this
  rw [nz_nat] at h2
  omega

theorem abs_num (r : Rat) : r.abs.num = ((r.num.natAbs : Nat) : Int) := by
  rw [Rat.abs]
  split
  · next h => have := Rat.num_nonneg.2 h; omega
  · next h =>
    have h1 : ¬ 0 ≤ r.num := fun e => h (Rat.num_nonneg.1 e)
    rw [Rat.neg_num]; omega

theorem abs_den (r : Rat) : r.abs.den = r.den := by
  rw [Rat.abs]
  split
  · rfl
  · exact Rat.neg_den r

end Go.Proofs.YtagciepnhjbopaaGreatDoor

namespace Go.Proofs.YtagciepnhjbopaaGreatDoor
open Go.RowKit

theorem nz_word {x : Int} (_h : -9223372036854775808 ≤ x) (_h2 : x ≤ 9223372036854775807) : nz x ≤ 2 := by
  unfold nz
  exact dg_len_le (by
    have : pB 2 = 18446744073709551616 := by decide
    rw [this]; omega)

theorem shift1_v {w : World} {k P : Nat} {u : Value} (hP : 2 ^ k = P) (h : VD w 1 u) (_hk : k ≤ 65536) : Calls Tryz.prog 177 #[u, .int .i64 (k : Int)] w (RV (fun w' => VD w' P) w) := by
  obtain ⟨p, c, rfl, s⟩ := h
  have e : shiftN (val (dg 1)) (k : Int) = P := by rw [val_dg, ← hP]; unfold shiftN; rw [if_neg (by omega), if_neg (by omega)]; simp
  refine (rshift_any p _ c k (dg 1) w s (by rw [dg_one]; decide) (by omega) (by omega)).mono ?_
  rintro e' w' ⟨q, d, rfl, o, f⟩
  rw [e] at o ⊢
  exact ⟨_, rfl, ⟨q, d, rfl, o.sl⟩, f⟩

end Go.Proofs.YtagciepnhjbopaaGreatDoor

namespace Go.Proofs.YtagciepnhjbopaaGreatDoor
open Go.RowKit En

theorem qneg (L : Nat) (q : Rat) (_hL : L ≤ 262143) (_hn : nq q ≤ 262143) : Cp 28 [.r L q] (sv (.rat (-q))) := by
  have h1 : nz q.num ≤ nq q := Nat.le_add_right _ _
  exact cp_of (cn_res (wk tQ2_ok (ds := []) (fuel := 40) (obs := [L ≤ 262143, nz (Rat.num q) ≤ 524287]) (r := AV.val true [Seg.sem (Kn.int (-Rat.num q)), Seg.sem (Kn.nat (Rat.den q))]) Tryz.func28 rfl (by kernel_rfl) (by simp only [AllP, and_true]; omega)) (rat_join (z := -q.num) (x := q.den) (Rat.neg_num q) (Rat.neg_den q)))

theorem qabs (L : Nat) (q : Rat) (_hL : L ≤ 262143) (_hn : nq q ≤ 262143) : Cp 30 [.r L q] (sv (.rat q.abs)) := by
  have h1 : nz q.num ≤ nq q := Nat.le_add_right _ _
  exact cp_of (cn_res (wk tQ2_ok (ds := []) (fuel := 40) (obs := [L ≤ 262143, nz (Rat.num q) ≤ 524287]) (r := AV.val true [Seg.sem (Kn.int (↑(Int.natAbs (Rat.num q)) : Int)), Seg.sem (Kn.nat (Rat.den q))]) Tryz.func30 rfl (by kernel_rfl) (by simp only [AllP, and_true]; omega)) (rat_join (z := ((q.num.natAbs : Nat) : Int)) (x := q.den) (abs_num q) (abs_den q)))

theorem qless (L M : Nat) (q s : Rat) (_hL : L ≤ 65535) (_hM : M ≤ 65535) : Cp 52 [.r L q, .r M s] (avB (decide (cmpQ q s < 0))) :=
  cp_of (wk tQ2_ok (ds := []) (fuel := 40) (obs := [L ≤ 65535, M ≤ 65535]) (r := AV.val false [Seg.lit (Value.bool (decide (cmpQ q s < (0 : Int))))]) Tryz.func52 rfl (by kernel_rfl) (by simp only [AllP, and_true]; omega))

theorem qof (x : Int) (_h1 : -9223372036854775808 ≤ x) (_h2 : x ≤ 9223372036854775807) : Cp 44 [.l (.int .i64 x)] (sv (.rat (x : Rat))) :=
  cp_of (cn_res (wk tQ2_ok (ds := []) (fuel := 40) (obs := [(-9223372036854775808 : Int) ≤ x, x ≤ (9223372036854775807 : Int)]) (r := AV.val true [Seg.sem (Kn.int x), Seg.sem (Kn.nat 1)]) Tryz.func44 rfl (by kernel_rfl) (by simp only [AllP, and_true]; omega)) (rat_join (z := x) (x := 1) rfl rfl))

theorem qfrac (x y : Int) (h1 : -9223372036854775808 ≤ x) (h2 : x ≤ 9223372036854775807) (h3 : -9223372036854775808 ≤ y) (h4 : y ≤ 9223372036854775807) : Cp 39 [.l (.int .i64 x), .l (.int .i64 y)] (sv (.rat (Rat.divInt x y))) := by
  have h5 := nz_word h1 h2
  have h6 := nz_word h3 h4
  exact cp_of (wk tQ2_ok (ds := []) (fuel := 40) (obs := [(-9223372036854775808 : Int) ≤ x, x ≤ (9223372036854775807 : Int), (-9223372036854775808 : Int) ≤ y, y ≤ (9223372036854775807 : Int), nz x ≤ 524286, nz y ≤ 524287]) (r := AV.val true [Seg.sem (Kn.rat (Rat.divInt x y))]) Tryz.func39 rfl (by kernel_rfl) (by simp only [AllP, and_true]; omega))

abbrev k_qneg : List Pa → Option (List Prop × Av)
  | [.r L q] => some ([L ≤ 262143, nq q ≤ 262143], sv (.rat (-q)))
  | _ => none

theorem e_qneg (args : List Av) (obs : List Prop) (r : Av) : ent [.r] k_qneg args = some (obs, r) → (∀ p ∈ obs, p) → Cn 28 args r :=
  ent_ok (fun ps obs r h ho => by
    unfold k_qneg at h
    split at h
    · cases h; exact qneg _ _ (ho _ (by simp)) (ho _ (by simp))
    · cases h) args obs r

abbrev k_qabs : List Pa → Option (List Prop × Av)
  | [.r L q] => some ([L ≤ 262143, nq q ≤ 262143], sv (.rat q.abs))
  | _ => none

theorem e_qabs (args : List Av) (obs : List Prop) (r : Av) : ent [.r] k_qabs args = some (obs, r) → (∀ p ∈ obs, p) → Cn 30 args r :=
  ent_ok (fun ps obs r h ho => by
    unfold k_qabs at h
    split at h
    · cases h; exact qabs _ _ (ho _ (by simp)) (ho _ (by simp))
    · cases h) args obs r

abbrev k_qless : List Pa → Option (List Prop × Av)
  | [.r L q, .r M s] => some ([L ≤ 65535, M ≤ 65535], avB (decide (cmpQ q s < 0)))
  | _ => none

theorem e_qless (args : List Av) (obs : List Prop) (r : Av) : ent [.r, .r] k_qless args = some (obs, r) → (∀ p ∈ obs, p) → Cn 52 args r :=
  ent_ok (fun ps obs r h ho => by
    unfold k_qless at h
    split at h
    · cases h; exact qless _ _ _ _ (ho _ (by simp)) (ho _ (by simp))
    · cases h) args obs r

abbrev k_qof : List Pa → Option (List Prop × Av)
  | [.l (.int .i64 x)] => some ([-9223372036854775808 ≤ x, x ≤ 9223372036854775807], sv (.rat (x : Rat)))
  | _ => none

theorem e_qof (args : List Av) (obs : List Prop) (r : Av) : ent [.l] k_qof args = some (obs, r) → (∀ p ∈ obs, p) → Cn 44 args r :=
  ent_ok (fun ps obs r h ho => by
    unfold k_qof at h
    split at h
    · cases h; exact qof _ (ho _ (by simp)) (ho _ (by simp))
    · cases h) args obs r

abbrev k_qfrac : List Pa → Option (List Prop × Av)
  | [.l (.int .i64 x), .l (.int .i64 y)] => some ([-9223372036854775808 ≤ x, x ≤ 9223372036854775807, -9223372036854775808 ≤ y, y ≤ 9223372036854775807], sv (.rat (Rat.divInt x y)))
  | _ => none

theorem e_qfrac (args : List Av) (obs : List Prop) (r : Av) : ent [.l, .l] k_qfrac args = some (obs, r) → (∀ p ∈ obs, p) → Cn 39 args r :=
  ent_ok (fun ps obs r h ho => by
    unfold k_qfrac at h
    split at h
    · cases h; exact qfrac _ _ (ho _ (by simp)) (ho _ (by simp)) (ho _ (by simp)) (ho _ (by simp))
    · cases h) args obs r

abbrev k_qdiv : List Pa → Option (List Prop × Av)
  | [.r L q, .r M s] => some ([L ≤ 65535, M ≤ 65535, s ≠ 0], .tup [(true, [.sem (.rat (q / s))]), (false, [.lit (.int .i64 0)])])
  | _ => none

theorem e_qdiv (args : List Av) (obs : List Prop) (r : Av) : ent [.r, .r] k_qdiv args = some (obs, r) → (∀ p ∈ obs, p) → Cn 17 args r :=
  ent_ok (fun ps obs r h ho => by
    unfold k_qdiv at h
    split at h
    · cases h; exact qdiv _ _ _ _ (ho _ (by simp)) (ho _ (by simp)) (ho _ (by simp))
    · cases h) args obs r

abbrev k_qdiv0' : List Pa → Option (List Prop × Av)
  | [.r L _q, .r M s] => some ([L ≤ 65535, M ≤ 65535, s = 0], .tup [(true, [.lit (.bool false), .lit (.slice none 0 0), .lit (.slice none 0 0)]), (false, [.lit (.int .i64 3)])])
  | _ => none

theorem e_qdiv0' (args : List Av) (obs : List Prop) (r : Av) : ent [.r, .r] k_qdiv0' args = some (obs, r) → (∀ p ∈ obs, p) → Cn 17 args r :=
  ent_ok (fun ps obs r h ho => by
    unfold k_qdiv0' at h
    split at h
    · cases h; exact qdiv0 _ _ _ _ (ho _ (by simp)) (ho _ (by simp)) (ho _ (by simp))
    · cases h) args obs r

def tQ3 : List Ent := (28, ent [.r] k_qneg) :: (30, ent [.r] k_qabs) :: (52, ent [.r, .r] k_qless) :: (44, ent [.l] k_qof) :: (39, ent [.l, .l] k_qfrac) :: (17, ent [.r, .r] k_qdiv) :: tQ2

theorem tQ3_ok : EntsOk tQ3 := ⟨e_qneg, e_qabs, e_qless, e_qof, e_qfrac, e_qdiv, tQ2_ok⟩

def tQ3z : List Ent := (17, ent [.r, .r] k_qdiv0') :: tQ3

theorem tQ3z_ok : EntsOk tQ3z := ⟨e_qdiv0', tQ3_ok⟩

theorem qsub (L M : Nat) (q s : Rat) (_hL : L ≤ 65535) (_hM : M ≤ 65535) (_hn : nq s ≤ 65535) : Cp 34 [.r L q, .r M s] (sv (.rat (q - s))) := by
  have h1 := nq_neg s
  rw [mk_sub]
  exact cp_of (wk tQ3_ok (ds := []) (fuel := 40) (obs := [M ≤ 262143, nq s ≤ 262143, L ≤ 65535, nq (-s) ≤ 65535]) (r := AV.val true [Seg.sem (Kn.rat (q + -s))]) Tryz.func34 rfl (by kernel_rfl) (by simp only [AllP, and_true]; omega))

theorem qover (L M : Nat) (q s : Rat) (hL : L ≤ 65535) (hM : M ≤ 65535) : Cp 97 [.r L q, .r M s] (sv (.rat (q / s))) := by
  by_cases h0 : s = 0
  · subst h0
    rw [show q / 0 = ((0 : Int) : Rat) by rw [Rat.div_def, Rat.inv_zero, Rat.mul_zero]; rfl]
    exact cp_of (wk tQ3z_ok (ds := [none, some true]) (fuel := 40) (obs := [L ≤ 65535, M ≤ 65535, (0 : Rat) = (0 : Rat), (-9223372036854775808 : Int) ≤ (0 : Int), (0 : Int) ≤ (9223372036854775807 : Int)]) (r := AV.val true [Seg.sem (Kn.rat (↑(0 : Int) : Rat))]) Tryz.func97 rfl (by kernel_rfl) ⟨hL, hM, rfl, by decide, by decide, trivial⟩)
  · exact cp_of (wk tQ3_ok (ds := [some false]) (fuel := 40) (obs := [L ≤ 65535, M ≤ 65535, s ≠ (0 : Rat), false = false]) (r := AV.val true [Seg.sem (Kn.rat (q / s))]) Tryz.func97 rfl (by kernel_rfl) ⟨hL, hM, h0, rfl, trivial⟩)

theorem qmin (L M : Nat) (q s : Rat) (hL : L ≤ 65535) (hM : M ≤ 65535) : Cp 145 [.r L q, .r M s] (sv (.rat (if cmpQ s q < 0 then s else q))) := by
  split
  · rename_i h
    exact cp_of (wk tQ3_ok (ds := [some true]) (fuel := 40) (obs := [M ≤ 65535, L ≤ 65535, decide (cmpQ s q < (0 : Int)) = true, M ≤ 262143]) (r := AV.val true [Seg.sem (Kn.rat s)]) Tryz.func145 rfl (by kernel_rfl) ⟨hM, hL, by simpa using h, by omega, trivial⟩)
  · rename_i h
    exact cp_of (wk tQ3_ok (ds := [some false]) (fuel := 40) (obs := [M ≤ 65535, L ≤ 65535, decide (cmpQ s q < (0 : Int)) = false, L ≤ 262143]) (r := AV.val true [Seg.sem (Kn.rat q)]) Tryz.func145 rfl (by kernel_rfl) ⟨hM, hL, by simpa using h, by omega, trivial⟩)

theorem qmax (L M : Nat) (q s : Rat) (hL : L ≤ 65535) (hM : M ≤ 65535) : Cp 144 [.r L q, .r M s] (sv (.rat (if cmpQ q s < 0 then s else q))) := by
  split
  · rename_i h
    exact cp_of (wk tQ3_ok (ds := [some true]) (fuel := 40) (obs := [L ≤ 65535, M ≤ 65535, decide (cmpQ q s < (0 : Int)) = true, M ≤ 262143]) (r := AV.val true [Seg.sem (Kn.rat s)]) Tryz.func144 rfl (by kernel_rfl) ⟨hL, hM, by simpa using h, by omega, trivial⟩)
  · rename_i h
    exact cp_of (wk tQ3_ok (ds := [some false]) (fuel := 40) (obs := [L ≤ 65535, M ≤ 65535, decide (cmpQ q s < (0 : Int)) = false, L ≤ 262143]) (r := AV.val true [Seg.sem (Kn.rat q)]) Tryz.func144 rfl (by kernel_rfl) ⟨hL, hM, by simpa using h, by omega, trivial⟩)

abbrev k_qsub : List Pa → Option (List Prop × Av)
  | [.r L q, .r M s] => some ([L ≤ 65535, M ≤ 65535, nq s ≤ 65535], sv (.rat (q - s)))
  | _ => none

theorem e_qsub (args : List Av) (obs : List Prop) (r : Av) : ent [.r, .r] k_qsub args = some (obs, r) → (∀ p ∈ obs, p) → Cn 34 args r :=
  ent_ok (fun ps obs r h ho => by
    unfold k_qsub at h
    split at h
    · cases h; exact qsub _ _ _ _ (ho _ (by simp)) (ho _ (by simp)) (ho _ (by simp))
    · cases h) args obs r

abbrev k_qover : List Pa → Option (List Prop × Av)
  | [.r L q, .r M s] => some ([L ≤ 65535, M ≤ 65535], sv (.rat (q / s)))
  | _ => none

theorem e_qover (args : List Av) (obs : List Prop) (r : Av) : ent [.r, .r] k_qover args = some (obs, r) → (∀ p ∈ obs, p) → Cn 97 args r :=
  ent_ok (fun ps obs r h ho => by
    unfold k_qover at h
    split at h
    · cases h; exact qover _ _ _ _ (ho _ (by simp)) (ho _ (by simp))
    · cases h) args obs r

abbrev k_qmin : List Pa → Option (List Prop × Av)
  | [.r L q, .r M s] => some ([L ≤ 65535, M ≤ 65535], sv (.rat (if cmpQ s q < 0 then s else q)))
  | _ => none

theorem e_qmin (args : List Av) (obs : List Prop) (r : Av) : ent [.r, .r] k_qmin args = some (obs, r) → (∀ p ∈ obs, p) → Cn 145 args r :=
  ent_ok (fun ps obs r h ho => by
    unfold k_qmin at h
    split at h
    · cases h; exact qmin _ _ _ _ (ho _ (by simp)) (ho _ (by simp))
    · cases h) args obs r

abbrev k_qmax : List Pa → Option (List Prop × Av)
  | [.r L q, .r M s] => some ([L ≤ 65535, M ≤ 65535], sv (.rat (if cmpQ q s < 0 then s else q)))
  | _ => none

theorem e_qmax (args : List Av) (obs : List Prop) (r : Av) : ent [.r, .r] k_qmax args = some (obs, r) → (∀ p ∈ obs, p) → Cn 144 args r :=
  ent_ok (fun ps obs r h ho => by
    unfold k_qmax at h
    split at h
    · cases h; exact qmax _ _ _ _ (ho _ (by simp)) (ho _ (by simp))
    · cases h) args obs r

def tQ4 : List Ent := (34, ent [.r, .r] k_qsub) :: (97, ent [.r, .r] k_qover) :: (145, ent [.r, .r] k_qmin) :: (144, ent [.r, .r] k_qmax) :: tQ3

theorem tQ4_ok : EntsOk tQ4 := ⟨e_qsub, e_qover, e_qmin, e_qmax, tQ3_ok⟩

end Go.Proofs.YtagciepnhjbopaaGreatDoor
