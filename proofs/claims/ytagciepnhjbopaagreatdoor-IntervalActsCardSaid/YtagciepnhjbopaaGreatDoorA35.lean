/- What the statements of this claim stand on: of RatOrd, Q2, what they name -/
import Derived.Test.YtagciepnhjbopaaGreatDoorA23
import Derived.Test.YtagciepnhjbopaaGreatDoorA24
import Derived.Test.YtagciepnhjbopaaGreatDoorA33
import Derived.Test.YtagciepnhjbopaaGreatDoorA34

namespace Go.Proofs.YtagciepnhjbopaaGreatDoor
theorem sign_cmp (r : Rat) : r.num.sign = cmpQ r 0 := by
  unfold cmpQ
  by_cases h : r < 0
  · rw [if_pos h, Int.sign_eq_neg_one_of_neg (by have := mt Rat.num_nonneg.1 (by grind : ¬ 0 ≤ r); omega)]
  · rw [if_neg h]
    by_cases h' : 0 < r
    · have h1 := Rat.num_nonneg.2 (by grind : 0 ≤ r)
      have h2 : r.num ≠ 0 := fun e => by
        rw [Rat.num_eq_zero] at e
        grind
      rw [if_pos h', Int.sign_eq_one_of_pos (by omega)]
    · rw [if_neg h']
      have : r = 0 := by grind
      rw [this]; rfl

end Go.Proofs.YtagciepnhjbopaaGreatDoor

namespace Go.Proofs.YtagciepnhjbopaaGreatDoor
open Go.RowKit En

theorem nz_pD (d : Nat) : nz ((pD d : Nat) : Int) ≤ (dg d).length + 1 := by rw [nz_nat]; exact pD_le d

theorem add_P (z y : Int) (d e : Nat) : mkRat z d + mkRat y e = Rat.divInt (pZ z d * ((pD e : Nat) : Int) + pZ y e * ((pD d : Nat) : Int)) (((pD d : Nat) : Int) * ((pD e : Nat) : Int)) := by
  rw [← mk_P z d, ← mk_P y e, Rat.mkRat_add_mkRat _ _ (pD_ne _) (pD_ne _)]
  rfl

theorem mul_P (z y : Int) (d e : Nat) : mkRat z d * mkRat y e = Rat.divInt (pZ z d * pZ y e) (((pD d : Nat) : Int) * ((pD e : Nat) : Int)) := by
  rw [← mk_P z d, ← mk_P y e, Rat.mkRat_mul_mkRat]
  rfl

theorem cmp_P (z y : Int) (d e : Nat) : cmpZ (pZ z d * ((pD e : Nat) : Int)) (pZ y e * ((pD d : Nat) : Int)) = cmpQ (mkRat z d) (mkRat y e) :=
  cmp_mk (mk_P z d) (mk_P y e) (pD_ne d) (pD_ne e)

theorem sign_P (z : Int) (d : Nat) : (pZ z d).sign = (mkRat z d).num.sign := sign_of_mk (mk_P z d) (pD_ne d)

theorem pZ_zero (z : Int) (d : Nat) : pZ z d = 0 ↔ mkRat z d = 0 := by
  rw [← mk_P z d, mk_zero_iff _ (pD_ne d)]

theorem div_P (z y : Int) (d e : Nat) (h : mkRat y e ≠ 0) : mkRat z d / mkRat y e = Rat.divInt (pZ z d * ((pD e : Nat) : Int)) (((pD d : Nat) : Int) * pZ y e) := by
  have h1 : pZ y e ≠ 0 := fun h2 => h ((pZ_zero y e).1 h2)
  rw [← mk_P z d, ← mk_P y e, div_mk (pD_ne d) (pD_ne e) h1]

theorem floor_P (z : Int) (d : Nat) : (mkRat z d).floor = pZ z d / ((pD d : Nat) : Int) := by
  rw [← mk_P z d, floor_mk _ (pD_ne d)]

theorem trim_P (z : Int) (d : Nat) : mkRat z d = Rat.divInt (pZ z d) ((pD d : Nat) : Int) := by
  rw [← mk_P z d]; rfl

theorem qtrim (L : Nat) (q : Rat) (_hL : L ≤ 262143) : Cp 26 [.r L q] (sv (.rat q)) := by
  refine cp_opn ⟨_, Tryz.func26, rfl, rfl⟩ ?_
  rintro _ ⟨_, _, rfl, ⟨z, d, rfl, hz, hd, rfl⟩, rfl⟩
  rw [trim_P]
  exact (wk tQ1_ok (ds := []) (fuel := 40) (obs := [L ≤ 524287, List.length (dg d) ≤ L, L ≤ 524286, L + 1 ≤ 524287]) (r := AV.val true [Seg.sem (Kn.rat (Rat.divInt (pZ z d) (↑(pD d) : Int)))]) Tryz.func26 rfl (by kernel_rfl) (by simp only [AllP, and_true]; omega))

theorem qsign (L : Nat) (q : Rat) (_hL : L ≤ 262143) : Cp 22 [.r L q] (avI q.num.sign) := by
  refine cp_opn ⟨_, Tryz.func22, rfl, rfl⟩ ?_
  rintro _ ⟨_, _, rfl, ⟨z, d, rfl, hz, hd, rfl⟩, rfl⟩
  rw [← sign_P]
  exact (wk tQ1_ok (ds := []) (fuel := 40) (obs := [L ≤ 524287, List.length (dg d) ≤ L, L ≤ 524287]) (r := AV.val false [Seg.lit (Value.int IntKind.i64 (Int.sign (pZ z d)))]) Tryz.func22 rfl (by kernel_rfl) (by simp only [AllP, and_true]; omega))

theorem qadd (L M : Nat) (q s : Rat) (_hL : L ≤ 65535) (_hM : M ≤ 65535) : Cp 32 [.r L q, .r M s] (sv (.rat (q + s))) := by
  refine cp_opn ⟨_, Tryz.func32, rfl, rfl⟩ ?_
  rintro _ ⟨_, _, rfl, ⟨z, d, rfl, hz, hd, rfl⟩, _, _, rfl, ⟨y, e, rfl, hy, he, rfl⟩, rfl⟩
  rw [add_P]
  have h1 := nz_mul (pZ z d) ((pD e : Nat) : Int)
  have h2 := nz_mul (pZ y e) ((pD d : Nat) : Int)
  have h3 := nz_add (pZ z d * ((pD e : Nat) : Int)) (pZ y e * ((pD d : Nat) : Int))
  have h4 := nz_mul ((pD d : Nat) : Int) ((pD e : Nat) : Int)
  have h5 := nz_pD d
  have h6 := nz_pD e
  have h7 := pZ_le z d
  have h8 := pZ_le y e
  exact (wk tQ1_ok (ds := []) (fuel := 40) (obs := [L ≤ 524287, List.length (dg d) ≤ L, M ≤ 524287, List.length (dg e) ≤ M, L ≤ 524287, M + 1 ≤ 524287, M ≤ 524287, L + 1 ≤ 524287, nz (pZ z d * (↑(pD e) : Int)) ≤ 524287, nz (pZ y e * (↑(pD d) : Int)) ≤ 524287, L + 1 ≤ 524287, M + 1 ≤ 524287, nz (pZ z d * (↑(pD e) : Int) + pZ y e * (↑(pD d) : Int)) ≤ 524286, nz ((↑(pD d) : Int) * (↑(pD e) : Int)) ≤ 524287]) (r := AV.val true [Seg.sem (Kn.rat (Rat.divInt (pZ z d * (↑(pD e) : Int) + pZ y e * (↑(pD d) : Int)) ((↑(pD d) : Int) * (↑(pD e) : Int))))]) Tryz.func32 rfl (by kernel_rfl) (by simp only [AllP, and_true]; omega))

theorem qcmp (L M : Nat) (q s : Rat) (_hL : L ≤ 65535) (_hM : M ≤ 65535) : Cp 24 [.r L q, .r M s] (avI (cmpQ q s)) := by
  refine cp_opn ⟨_, Tryz.func24, rfl, rfl⟩ ?_
  rintro _ ⟨_, _, rfl, ⟨z, d, rfl, hz, hd, rfl⟩, _, _, rfl, ⟨y, e, rfl, hy, he, rfl⟩, rfl⟩
  rw [← cmp_P]
  have h1 := nz_mul (pZ z d) ((pD e : Nat) : Int)
  have h2 := nz_mul (pZ y e) ((pD d : Nat) : Int)
  have h5 := nz_pD d
  have h6 := nz_pD e
  have h7 := pZ_le z d
  have h8 := pZ_le y e
  exact (wk tQ1_ok (ds := []) (fuel := 40) (obs := [L ≤ 524287, List.length (dg d) ≤ L, M ≤ 524287, List.length (dg e) ≤ M, L ≤ 524287, M + 1 ≤ 524287, M ≤ 524287, L + 1 ≤ 524287, nz (pZ z d * (↑(pD e) : Int)) ≤ 524287, nz (pZ y e * (↑(pD d) : Int)) ≤ 524287]) (r := AV.val false [Seg.lit (Value.int IntKind.i64 (cmpZ (pZ z d * (↑(pD e) : Int)) (pZ y e * (↑(pD d) : Int))))]) Tryz.func24 rfl (by kernel_rfl) (by simp only [AllP, and_true]; omega))

theorem qmul (L M : Nat) (q s : Rat) (_hL : L ≤ 65535) (_hM : M ≤ 65535) : Cp 36 [.r L q, .r M s] (sv (.rat (q * s))) := by
  refine cp_opn ⟨_, Tryz.func36, rfl, rfl⟩ ?_
  rintro _ ⟨_, _, rfl, ⟨z, d, rfl, hz, hd, rfl⟩, _, _, rfl, ⟨y, e, rfl, hy, he, rfl⟩, rfl⟩
  rw [mul_P]
  have h1 := nz_mul (pZ z d) (pZ y e)
  have h4 := nz_mul ((pD d : Nat) : Int) ((pD e : Nat) : Int)
  have h5 := nz_pD d
  have h6 := nz_pD e
  have h7 := pZ_le z d
  have h8 := pZ_le y e
  exact (wk tQ1_ok (ds := []) (fuel := 40) (obs := [L ≤ 524287, List.length (dg d) ≤ L, M ≤ 524287, List.length (dg e) ≤ M, L ≤ 524287, M ≤ 524287, L + 1 ≤ 524287, M + 1 ≤ 524287, nz (pZ z d * pZ y e) ≤ 524286, nz ((↑(pD d) : Int) * (↑(pD e) : Int)) ≤ 524287]) (r := AV.val true [Seg.sem (Kn.rat (Rat.divInt (pZ z d * pZ y e) ((↑(pD d) : Int) * (↑(pD e) : Int))))]) Tryz.func36 rfl (by kernel_rfl) (by simp only [AllP, and_true]; omega))

theorem qdiv (L M : Nat) (q s : Rat) (_hL : L ≤ 65535) (_hM : M ≤ 65535) (h0 : s ≠ 0) : Cp 17 [.r L q, .r M s] (.tup [(true, [.sem (.rat (q / s))]), (false, [.lit (.int .i64 0)])]) := by
  refine cp_opn ⟨_, Tryz.func17, rfl, rfl⟩ ?_
  rintro _ ⟨_, _, rfl, ⟨z, d, rfl, hz, hd, rfl⟩, _, _, rfl, ⟨y, e, rfl, hy, he, rfl⟩, rfl⟩
  rw [div_P _ _ _ _ h0]
  have h1 := nz_mul (pZ z d) ((pD e : Nat) : Int)
  have h4 := nz_mul ((pD d : Nat) : Int) (pZ y e)
  have h5 := nz_pD d
  have h6 := nz_pD e
  have h7 := pZ_le z d
  have h8 := pZ_le y e
  have h9 := sign_ne0 fun h => h0 ((pZ_zero y e).1 h)
  exact (wk tQ1_ok (ds := [some false]) (fuel := 40) (obs := [L ≤ 524287, List.length (dg d) ≤ L, M ≤ 524287, List.length (dg e) ≤ M, M ≤ 524287, (Int.sign (pZ y e) == 0) = false, L ≤ 524287, M + 1 ≤ 524287, L + 1 ≤ 524287, M ≤ 524287, nz (pZ z d * (↑(pD e) : Int)) ≤ 524286, nz ((↑(pD d) : Int) * pZ y e) ≤ 524287]) (r := AV.tup [(true, [Seg.sem (Kn.rat (Rat.divInt (pZ z d * (↑(pD e) : Int)) ((↑(pD d) : Int) * pZ y e)))]), (false, [Seg.lit (Value.int IntKind.i64 0)])]) Tryz.func17 rfl (by kernel_rfl) (by simp only [AllP, and_true]; refine ⟨?_, ?_, ?_, ?_, ?_, h9, ?_⟩ <;> omega))

theorem qdiv0 (L M : Nat) (q s : Rat) (_hL : L ≤ 65535) (_hM : M ≤ 65535) (h0 : s = 0) : Cp 17 [.r L q, .r M s] (.tup [(true, [.lit (.bool false), .lit (.slice none 0 0), .lit (.slice none 0 0)]), (false, [.lit (.int .i64 3)])]) := by
  refine cp_opn ⟨_, Tryz.func17, rfl, rfl⟩ ?_
  rintro _ ⟨_, _, rfl, ⟨z, d, rfl, hz, hd, rfl⟩, _, _, rfl, ⟨y, e, rfl, hy, he, rfl⟩, rfl⟩
  have h9 := sgn0 ((pZ_zero y e).2 h0)
  exact (wk tQ1_ok (ds := [some true]) (fuel := 40) (obs := [L ≤ 524287, List.length (dg d) ≤ L, M ≤ 524287, List.length (dg e) ≤ M, M ≤ 524287, (Int.sign (pZ y e) == 0) = true]) (r := AV.tup [(true, [Seg.lit (Value.bool false), Seg.lit (Value.slice none 0 0), Seg.lit (Value.slice none 0 0)]), (false, [Seg.lit (Value.int IntKind.i64 3)])]) Tryz.func17 rfl (by kernel_rfl) (by simp only [AllP, and_true]; refine ⟨?_, ?_, ?_, ?_, ?_, h9⟩ <;> omega))

theorem qfloor (L : Nat) (q : Rat) (_hL : L ≤ 262143) : Cp 55 [.r L q] (sv (.int q.floor)) := by
  refine cp_opn ⟨_, Tryz.func55, rfl, rfl⟩ ?_
  rintro _ ⟨_, _, rfl, ⟨z, d, rfl, hz, hd, rfl⟩, rfl⟩
  rw [floor_P]
  have h1 := pD_ne d
  exact (wk tQ1_ok (ds := []) (fuel := 40) (obs := [L ≤ 524287, List.length (dg d) ≤ L, L ≤ 524287, L + 1 ≤ 524287, (↑(pD d) : Int) ≠ 0]) (r := AV.val true [Seg.sem (Kn.int (pZ z d / (↑(pD d) : Int)))]) Tryz.func55 rfl (by kernel_rfl) (by simp only [AllP, and_true]; omega))

abbrev k_qtrim : List Pa → Option (List Prop × Av)
  | [.r L q] => some ([L ≤ 262143], sv (.rat q))
  | _ => none

theorem e_qtrim (args : List Av) (obs : List Prop) (r : Av) : ent [.r] k_qtrim args = some (obs, r) → (∀ p ∈ obs, p) → Cn 26 args r :=
  ent_ok (fun ps obs r h ho => by
    unfold k_qtrim at h
    split at h
    · cases h; exact qtrim _ _ (ho _ (by simp))
    · cases h) args obs r

abbrev k_qsign : List Pa → Option (List Prop × Av)
  | [.r L q] => some ([L ≤ 262143], avI q.num.sign)
  | _ => none

theorem e_qsign (args : List Av) (obs : List Prop) (r : Av) : ent [.r] k_qsign args = some (obs, r) → (∀ p ∈ obs, p) → Cn 22 args r :=
  ent_ok (fun ps obs r h ho => by
    unfold k_qsign at h
    split at h
    · cases h; exact qsign _ _ (ho _ (by simp))
    · cases h) args obs r

abbrev k_qadd : List Pa → Option (List Prop × Av)
  | [.r L q, .r M s] => some ([L ≤ 65535, M ≤ 65535], sv (.rat (q + s)))
  | _ => none

theorem e_qadd (args : List Av) (obs : List Prop) (r : Av) : ent [.r, .r] k_qadd args = some (obs, r) → (∀ p ∈ obs, p) → Cn 32 args r :=
  ent_ok (fun ps obs r h ho => by
    unfold k_qadd at h
    split at h
    · cases h; exact qadd _ _ _ _ (ho _ (by simp)) (ho _ (by simp))
    · cases h) args obs r

abbrev k_qcmp : List Pa → Option (List Prop × Av)
  | [.r L q, .r M s] => some ([L ≤ 65535, M ≤ 65535], avI (cmpQ q s))
  | _ => none

theorem e_qcmp (args : List Av) (obs : List Prop) (r : Av) : ent [.r, .r] k_qcmp args = some (obs, r) → (∀ p ∈ obs, p) → Cn 24 args r :=
  ent_ok (fun ps obs r h ho => by
    unfold k_qcmp at h
    split at h
    · cases h; exact qcmp _ _ _ _ (ho _ (by simp)) (ho _ (by simp))
    · cases h) args obs r

abbrev k_qmul : List Pa → Option (List Prop × Av)
  | [.r L q, .r M s] => some ([L ≤ 65535, M ≤ 65535], sv (.rat (q * s)))
  | _ => none

theorem e_qmul (args : List Av) (obs : List Prop) (r : Av) : ent [.r, .r] k_qmul args = some (obs, r) → (∀ p ∈ obs, p) → Cn 36 args r :=
  ent_ok (fun ps obs r h ho => by
    unfold k_qmul at h
    split at h
    · cases h; exact qmul _ _ _ _ (ho _ (by simp)) (ho _ (by simp))
    · cases h) args obs r

abbrev k_qfloor : List Pa → Option (List Prop × Av)
  | [.r L q] => some ([L ≤ 262143], sv (.int q.floor))
  | _ => none

theorem e_qfloor (args : List Av) (obs : List Prop) (r : Av) : ent [.r] k_qfloor args = some (obs, r) → (∀ p ∈ obs, p) → Cn 55 args r :=
  ent_ok (fun ps obs r h ho => by
    unfold k_qfloor at h
    split at h
    · cases h; exact qfloor _ _ (ho _ (by simp))
    · cases h) args obs r

def tQ2 : List Ent := (26, ent [.r] k_qtrim) :: (22, ent [.r] k_qsign) :: (32, ent [.r, .r] k_qadd) :: (24, ent [.r, .r] k_qcmp) :: (36, ent [.r, .r] k_qmul) :: (55, ent [.r] k_qfloor) :: tQ1

theorem tQ2_ok : EntsOk tQ2 := ⟨e_qtrim, e_qsign, e_qadd, e_qcmp, e_qmul, e_qfloor, tQ1_ok⟩

end Go.Proofs.YtagciepnhjbopaaGreatDoor
