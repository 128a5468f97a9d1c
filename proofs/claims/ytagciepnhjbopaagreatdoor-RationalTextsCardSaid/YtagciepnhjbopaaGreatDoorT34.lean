/- What the statements of this claim stand on: of Rat12, Leaf, what they name -/
import Derived.Test.YtagciepnhjbopaaGreatDoorT29
import Derived.Test.YtagciepnhjbopaaGreatDoorT33

namespace Go.Proofs.YtagciepnhjbopaaGreatDoor
open Go.RowKit

theorem vz_nat {w : World} {k : Nat} {p : Option Addr} {c : Nat} (s : Sl w p (dg k).length c (dg k)) : VZ w (k : Int) (iw false p (dg k).length c) := by
  refine ⟨p, c, ?_, ?_⟩
  · rw [Int.natAbs_natCast, decide_eq_false (by omega)]
  · rw [Int.natAbs_natCast]; exact s

theorem pow2_v {w : World} {n : Nat} {k : Nat} (hk : 2 ^ n = k) (hn : n ≤ 65536) : Calls Tryz.prog 176 #[.int .i64 (n : Int)] w (RV (fun w' => VZ w' (k : Int)) w) := by
  subst hk
  refine (pow2_any n w hn).mono ?_
  rintro e w' ⟨q, d, rfl, o, f⟩
  exact ⟨_, rfl, vz_nat o.sl, f⟩

theorem nz_floor (a : Int) (d : Nat) : nz (a / (d : Int)) ≤ nz a := by
  unfold nz
  exact dg_len_mono (Int.natAbs_ediv_le_natAbs _ _)

theorem nz_pow2 {n : Nat} (_h : n ≤ 257) : nz ((2 ^ n : Nat) : Int) ≤ 9 := by
  rw [nz_nat]
  exact dg_pow_len (by omega)

def downQ (r : Rat) (k : Nat) : Rat := mkRat (r * mkRat (2 ^ k : Nat) 1).floor (2 ^ k)

def upQ (r : Rat) (k : Nat) : Rat := -downQ (-r) k

def nearQ (r : Rat) (k : Nat) : Rat := downQ (r + mkRat 1 (2 ^ (k + 1))) k

theorem mk_scale (z : Int) (d P : Nat) : mkRat z d * mkRat (P : Int) 1 = mkRat (z * P) d := by
  rw [Rat.mkRat_mul_mkRat, Nat.mul_one]

end Go.Proofs.YtagciepnhjbopaaGreatDoor

namespace Go.Proofs.YtagciepnhjbopaaGreatDoor
open Go.RowKit En

theorem div_tup {q m : Int} {w : World} {e : Ending} {w' : World} (h : ∃ x y, e = .returned (.tuple #[x, y, .int .i64 0]) ∧ VZ w' q x ∧ VZ w' m y ∧ Fr [] w w') : ∃ u, e = .returned u ∧ (AV.tup [(true, [.sem (.int q)]), (true, [.sem (.int m)]), (false, [.lit (.int .i64 0)])] : Av).holds Dn none' w' u ∧ Fr [] w w' := by
  obtain ⟨x, y, rfl, h1, h2, f⟩ := h
  exact ⟨_, rfl, ⟨[x, y, .int .i64 0], rfl, x, _, rfl, vl_sv (k := .int q) h1, y, _, rfl, vl_sv (k := .int m) h2, _, _, rfl, vl_lit _ _, rfl⟩, f⟩

abbrev k_imul : List Pa → Option (List Prop × Av) := fun | [.i L a, .i M b] => some ([L ≤ 1048575, M ≤ 1048575], sv (.int (a * b))) | _ => none

theorem e_imul (args : List Av) (obs : List Prop) (r : Av) : ent [.i, .i] k_imul args = some (obs, r) → (∀ p ∈ obs, p) → Cn 99 args r :=
  ent_ok (fun ps obs r h ho => by
    unfold k_imul at h
    split at h
    case h_2 => cases h
    rename_i L a M b
    cases h
    refine cp_leaf ⟨_, Tryz.func99, rfl, rfl⟩ fun w vs ht hv => ?_
    obtain ⟨v0, _, rfl, h0, ⟨v1, _, rfl, h1, rfl⟩⟩ := hv
    exact (imul_v h0 h1 (ho _ (by simp)) (ho _ (by simp))).mono fun _ _ h => rv_sv (k := .int _) h) args obs r

abbrev k_iadd : List Pa → Option (List Prop × Av) := fun | [.i L a, .i M b] => some ([L ≤ 1048575, M ≤ 1048575], sv (.int (a + b))) | _ => none

theorem e_iadd (args : List Av) (obs : List Prop) (r : Av) : ent [.i, .i] k_iadd args = some (obs, r) → (∀ p ∈ obs, p) → Cn 166 args r :=
  ent_ok (fun ps obs r h ho => by
    unfold k_iadd at h
    split at h
    case h_2 => cases h
    rename_i L a M b
    cases h
    refine cp_leaf ⟨_, Tryz.func166, rfl, rfl⟩ fun w vs ht hv => ?_
    obtain ⟨v0, _, rfl, h0, ⟨v1, _, rfl, h1, rfl⟩⟩ := hv
    exact (iadd_v h0 h1 (ho _ (by simp)) (ho _ (by simp))).mono fun _ _ h => rv_sv (k := .int _) h) args obs r

abbrev k_icmp : List Pa → Option (List Prop × Av) := fun | [.i L a, .i M b] => some ([L ≤ 1048575, M ≤ 1048575], avI (cmpZ a b)) | _ => none

theorem e_icmp (args : List Av) (obs : List Prop) (r : Av) : ent [.i, .i] k_icmp args = some (obs, r) → (∀ p ∈ obs, p) → Cn 110 args r :=
  ent_ok (fun ps obs r h ho => by
    unfold k_icmp at h
    split at h
    case h_2 => cases h
    rename_i L a M b
    cases h
    refine cp_leaf ⟨_, Tryz.func110, rfl, rfl⟩ fun w vs ht hv => ?_
    obtain ⟨v0, _, rfl, h0, ⟨v1, _, rfl, h1, rfl⟩⟩ := hv
    exact (icmp_v h0 h1 (ho _ (by simp)) (ho _ (by simp))).mono fun _ _ h => rn_sv h) args obs r

abbrev k_ineg : List Pa → Option (List Prop × Av) := fun | [.i L a] => some ([L ≤ 1048575], sv (.int (-a))) | _ => none

theorem e_ineg (args : List Av) (obs : List Prop) (r : Av) : ent [.i] k_ineg args = some (obs, r) → (∀ p ∈ obs, p) → Cn 119 args r :=
  ent_ok (fun ps obs r h ho => by
    unfold k_ineg at h
    split at h
    case h_2 => cases h
    rename_i L a
    cases h
    refine cp_leaf ⟨_, Tryz.func119, rfl, rfl⟩ fun w vs ht hv => ?_
    obtain ⟨v0, _, rfl, h0, rfl⟩ := hv
    exact (ineg_v h0 (ho _ (by simp))).mono fun _ _ h => rv_sv (k := .int _) h) args obs r

abbrev k_iabs : List Pa → Option (List Prop × Av) := fun | [.i L a] => some ([L ≤ 1048575], sv (.int (a.natAbs : Nat))) | _ => none

theorem e_iabs (args : List Av) (obs : List Prop) (r : Av) : ent [.i] k_iabs args = some (obs, r) → (∀ p ∈ obs, p) → Cn 115 args r :=
  ent_ok (fun ps obs r h ho => by
    unfold k_iabs at h
    split at h
    case h_2 => cases h
    rename_i L a
    cases h
    refine cp_leaf ⟨_, Tryz.func115, rfl, rfl⟩ fun w vs ht hv => ?_
    obtain ⟨v0, _, rfl, h0, rfl⟩ := hv
    obtain ⟨g, p, n, c, X, rfl, s, rfl, l⟩ := h0
    exact (iabs_v g p n c X w s (by have : L ≤ 1048575 := (ho _ (by simp)); omega)).mono fun _ _ h => rv_sv (k := .int _) (rv_i h)) args obs r

abbrev k_isign : List Pa → Option (List Prop × Av) := fun | [.i L a] => some ([L ≤ 1048575], avI a.sign) | _ => none

theorem e_isign (args : List Av) (obs : List Prop) (r : Av) : ent [.i] k_isign args = some (obs, r) → (∀ p ∈ obs, p) → Cn 109 args r :=
  ent_ok (fun ps obs r h ho => by
    unfold k_isign at h
    split at h
    case h_2 => cases h
    rename_i L a
    cases h
    refine cp_leaf ⟨_, Tryz.func109, rfl, rfl⟩ fun w vs ht hv => ?_
    obtain ⟨v0, _, rfl, h0, rfl⟩ := hv
    exact (isign_v h0 (ho _ (by simp))).mono fun _ _ h => rn_sv h) args obs r

abbrev k_idiv : List Pa → Option (List Prop × Av) := fun | [.i L a, .i M b] => some ([L ≤ 1048575, M ≤ 1048575, b ≠ 0], .tup [(true, [.sem (.int (a / b))]), (true, [.sem (.int (a % b))]), (false, [.lit (.int .i64 0)])]) | _ => none

theorem e_idiv (args : List Av) (obs : List Prop) (r : Av) : ent [.i, .i] k_idiv args = some (obs, r) → (∀ p ∈ obs, p) → Cn 174 args r :=
  ent_ok (fun ps obs r h ho => by
    unfold k_idiv at h
    split at h
    case h_2 => cases h
    rename_i L a M b
    cases h
    refine cp_leaf ⟨_, Tryz.func174, rfl, rfl⟩ fun w vs ht hv => ?_
    obtain ⟨v0, _, rfl, h0, ⟨v1, _, rfl, h1, rfl⟩⟩ := hv
    exact (idiv_v h0 h1 (ho _ (by simp)) (ho _ (by simp)) (ho _ (by simp))).mono fun _ _ h => div_tup h) args obs r

abbrev k_iof : List Pa → Option (List Prop × Av) := fun | [.l (.int .i64 a)] => some ([-9223372036854775808 ≤ a, a ≤ 9223372036854775807], sv (.int a)) | _ => none

theorem e_iof (args : List Av) (obs : List Prop) (r : Av) : ent [.l] k_iof args = some (obs, r) → (∀ p ∈ obs, p) → Cn 124 args r :=
  ent_ok (fun ps obs r h ho => by
    unfold k_iof at h
    split at h
    case h_2 => cases h
    rename_i a
    cases h
    refine cp_leaf ⟨_, Tryz.func124, rfl, rfl⟩ fun w vs ht hv => ?_
    obtain ⟨v0, _, rfl, h0, rfl⟩ := hv
    have h0 : v0 = _ := h0
    subst h0
    exact (iof_v a w (ho _ (by simp)) (ho _ (by simp))).mono fun _ _ h => rv_sv (k := .int _) h) args obs r

abbrev k_rmul : List Pa → Option (List Prop × Av) := fun | [.i L a, .i M b] => some ([L ≤ 524287, M ≤ 524287], sv (.int (a * b))) | _ => none

theorem e_rmul (args : List Av) (obs : List Prop) (r : Av) : ent [.i, .i] k_rmul args = some (obs, r) → (∀ p ∈ obs, p) → Cn 103 args r :=
  ent_ok (fun ps obs r h ho => by
    unfold k_rmul at h
    split at h
    case h_2 => cases h
    rename_i L a M b
    cases h
    refine cp_leaf ⟨_, Tryz.func103, rfl, rfl⟩ fun w vs ht hv => ?_
    obtain ⟨v0, _, rfl, h0, ⟨v1, _, rfl, h1, rfl⟩⟩ := hv
    exact (rmul_v rfl h0 h1 (ho _ (by simp)) (ho _ (by simp))).mono fun _ _ h => rv_sv (k := .int _) h) args obs r

abbrev k_radd : List Pa → Option (List Prop × Av) := fun | [.i L a, .i M b] => some ([L ≤ 524287, M ≤ 524287], sv (.int (a + b))) | _ => none

theorem e_radd (args : List Av) (obs : List Prop) (r : Av) : ent [.i, .i] k_radd args = some (obs, r) → (∀ p ∈ obs, p) → Cn 118 args r :=
  ent_ok (fun ps obs r h ho => by
    unfold k_radd at h
    split at h
    case h_2 => cases h
    rename_i L a M b
    cases h
    refine cp_leaf ⟨_, Tryz.func118, rfl, rfl⟩ fun w vs ht hv => ?_
    obtain ⟨v0, _, rfl, h0, ⟨v1, _, rfl, h1, rfl⟩⟩ := hv
    exact (radd_v rfl h0 h1 (ho _ (by simp)) (ho _ (by simp))).mono fun _ _ h => rv_sv (k := .int _) h) args obs r

abbrev k_rcmp : List Pa → Option (List Prop × Av) := fun | [.i L a, .i M b] => some ([L ≤ 524287, M ≤ 524287], avI (cmpZ a b)) | _ => none

theorem e_rcmp (args : List Av) (obs : List Prop) (r : Av) : ent [.i, .i] k_rcmp args = some (obs, r) → (∀ p ∈ obs, p) → Cn 111 args r :=
  ent_ok (fun ps obs r h ho => by
    unfold k_rcmp at h
    split at h
    case h_2 => cases h
    rename_i L a M b
    cases h
    refine cp_leaf ⟨_, Tryz.func111, rfl, rfl⟩ fun w vs ht hv => ?_
    obtain ⟨v0, _, rfl, h0, ⟨v1, _, rfl, h1, rfl⟩⟩ := hv
    exact (rcmp_v rfl h0 h1 (ho _ (by simp)) (ho _ (by simp))).mono fun _ _ h => rn_sv h) args obs r

abbrev k_rgcd : List Pa → Option (List Prop × Av) := fun | [.i L a, .i M b] => some ([L ≤ 524287, M ≤ 524287], sv (.int (Nat.gcd a.natAbs b.natAbs : Nat))) | _ => none

theorem e_rgcd (args : List Av) (obs : List Prop) (r : Av) : ent [.i, .i] k_rgcd args = some (obs, r) → (∀ p ∈ obs, p) → Cn 151 args r :=
  ent_ok (fun ps obs r h ho => by
    unfold k_rgcd at h
    split at h
    case h_2 => cases h
    rename_i L a M b
    cases h
    refine cp_leaf ⟨_, Tryz.func151, rfl, rfl⟩ fun w vs ht hv => ?_
    obtain ⟨v0, _, rfl, h0, ⟨v1, _, rfl, h1, rfl⟩⟩ := hv
    exact (rgcd_v h0 h1 (ho _ (by simp)) (ho _ (by simp))).mono fun _ _ h => rv_sv (k := .int _) h) args obs r

abbrev k_rneg : List Pa → Option (List Prop × Av) := fun | [.i L a] => some ([L ≤ 524287], sv (.int (-a))) | _ => none

theorem e_rneg (args : List Av) (obs : List Prop) (r : Av) : ent [.i] k_rneg args = some (obs, r) → (∀ p ∈ obs, p) → Cn 114 args r :=
  ent_ok (fun ps obs r h ho => by
    unfold k_rneg at h
    split at h
    case h_2 => cases h
    rename_i L a
    cases h
    refine cp_leaf ⟨_, Tryz.func114, rfl, rfl⟩ fun w vs ht hv => ?_
    obtain ⟨v0, _, rfl, h0, rfl⟩ := hv
    exact (rneg_v rfl h0 (ho _ (by simp))).mono fun _ _ h => rv_sv (k := .int _) h) args obs r

abbrev k_rabs : List Pa → Option (List Prop × Av) := fun | [.i L a] => some ([L ≤ 524287], sv (.int (a.natAbs : Nat))) | _ => none

theorem e_rabs (args : List Av) (obs : List Prop) (r : Av) : ent [.i] k_rabs args = some (obs, r) → (∀ p ∈ obs, p) → Cn 116 args r :=
  ent_ok (fun ps obs r h ho => by
    unfold k_rabs at h
    split at h
    case h_2 => cases h
    rename_i L a
    cases h
    refine cp_leaf ⟨_, Tryz.func116, rfl, rfl⟩ fun w vs ht hv => ?_
    obtain ⟨v0, _, rfl, h0, rfl⟩ := hv
    exact (rabs_v h0 (ho _ (by simp))).mono fun _ _ h => rv_sv (k := .int _) h) args obs r

abbrev k_rsign : List Pa → Option (List Prop × Av) := fun | [.i L a] => some ([L ≤ 524287], avI a.sign) | _ => none

theorem e_rsign (args : List Av) (obs : List Prop) (r : Av) : ent [.i] k_rsign args = some (obs, r) → (∀ p ∈ obs, p) → Cn 101 args r :=
  ent_ok (fun ps obs r h ho => by
    unfold k_rsign at h
    split at h
    case h_2 => cases h
    rename_i L a
    cases h
    refine cp_leaf ⟨_, Tryz.func101, rfl, rfl⟩ fun w vs ht hv => ?_
    obtain ⟨v0, _, rfl, h0, rfl⟩ := hv
    exact (rsign_v h0 (ho _ (by simp))).mono fun _ _ h => rn_sv h) args obs r

abbrev k_rdiv : List Pa → Option (List Prop × Av) := fun | [.i L a, .i M b] => some ([L ≤ 524287, M ≤ 524287, b ≠ 0], .tup [(true, [.sem (.int (a / b))]), (true, [.sem (.int (a % b))]), (false, [.lit (.int .i64 0)])]) | _ => none

theorem e_rdiv (args : List Av) (obs : List Prop) (r : Av) : ent [.i, .i] k_rdiv args = some (obs, r) → (∀ p ∈ obs, p) → Cn 133 args r :=
  ent_ok (fun ps obs r h ho => by
    unfold k_rdiv at h
    split at h
    case h_2 => cases h
    rename_i L a M b
    cases h
    refine cp_leaf ⟨_, Tryz.func133, rfl, rfl⟩ fun w vs ht hv => ?_
    obtain ⟨v0, _, rfl, h0, ⟨v1, _, rfl, h1, rfl⟩⟩ := hv
    exact (ridiv_v rfl h0 h1 (ho _ (by simp)) (ho _ (by simp)) (ho _ (by simp))).mono fun _ _ h => div_tup h) args obs r

abbrev k_rof : List Pa → Option (List Prop × Av) := fun | [.l (.int .i64 a)] => some ([-9223372036854775808 ≤ a, a ≤ 9223372036854775807], sv (.int a)) | _ => none

theorem e_rof (args : List Av) (obs : List Prop) (r : Av) : ent [.l] k_rof args = some (obs, r) → (∀ p ∈ obs, p) → Cn 60 args r :=
  ent_ok (fun ps obs r h ho => by
    unfold k_rof at h
    split at h
    case h_2 => cases h
    rename_i a
    cases h
    refine cp_leaf ⟨_, Tryz.func60, rfl, rfl⟩ fun w vs ht hv => ?_
    obtain ⟨v0, _, rfl, h0, rfl⟩ := hv
    have h0 : v0 = _ := h0
    subst h0
    exact (riof_v a w (ho _ (by simp)) (ho _ (by simp))).mono fun _ _ h => rv_sv (k := .int _) h) args obs r

abbrev k_rtrim : List Pa → Option (List Prop × Av) := fun | [.n L x] => some ([L ≤ 1048576], sv (.nat x)) | _ => none

theorem e_rtrim (args : List Av) (obs : List Prop) (r : Av) : ent [.n] k_rtrim args = some (obs, r) → (∀ p ∈ obs, p) → Cn 150 args r :=
  ent_ok (fun ps obs r h ho => by
    unfold k_rtrim at h
    split at h
    case h_2 => cases h
    rename_i L x
    cases h
    refine cp_leaf ⟨_, Tryz.func150, rfl, rfl⟩ fun w vs ht hv => ?_
    obtain ⟨v0, _, rfl, h0, rfl⟩ := hv
    obtain ⟨p, n, c, X, rfl, s, rfl, l⟩ := h0
    exact (rtrim_v s (by have : L ≤ 1048576 := (ho _ (by simp)); omega)).mono fun _ _ h => rv_sv (k := .nat _) h) args obs r

abbrev k_fred : List Pa → Option (List Prop × Av) := fun | [.f L q] => some ([L ≤ 524287], sv (.low q)) | _ => none

theorem e_fred (args : List Av) (obs : List Prop) (r : Av) : ent [.f] k_fred args = some (obs, r) → (∀ p ∈ obs, p) → Cn 120 args r :=
  ent_ok (fun ps obs r h ho => by
    unfold k_fred at h
    split at h
    case h_2 => cases h
    rename_i L q
    cases h
    refine cp_leaf ⟨_, Tryz.func120, rfl, rfl⟩ fun w vs ht hv => ?_
    obtain ⟨v0, _, rfl, h0, rfl⟩ := hv
    exact (reduce_v ht h0 (ho _ (by simp))).mono fun _ _ h => rv_sv (k := .low _) h) args obs r

abbrev k_pow2 : List Pa → Option (List Prop × Av) := fun | [.l (.int .i64 a)] => some ([0 ≤ a, a ≤ 65536], sv (.int ((2 ^ a.toNat : Nat) : Int))) | _ => none

theorem e_pow2 (args : List Av) (obs : List Prop) (r : Av) : ent [.l] k_pow2 args = some (obs, r) → (∀ p ∈ obs, p) → Cn 176 args r :=
  ent_ok (fun ps obs r h ho => by
    unfold k_pow2 at h
    split at h
    case h_2 => cases h
    rename_i a
    cases h
    refine cp_leaf ⟨_, Tryz.func176, rfl, rfl⟩ fun w vs ht hv => ?_
    obtain ⟨v0, _, rfl, h0, rfl⟩ := hv
    have h0 : v0 = _ := h0
    subst h0
    obtain ⟨n, rfl⟩ := Int.eq_ofNat_of_zero_le (show 0 ≤ a from (ho _ (by simp)))
    have hn : (n : Int) ≤ 65536 := (ho _ (by simp))
    exact (pow2_v (n := n) rfl (by omega)).mono fun _ _ h => rv_sv (k := .int _) h) args obs r

def leafs : List Ent := [(99, ent [.i, .i] k_imul), (166, ent [.i, .i] k_iadd), (110, ent [.i, .i] k_icmp), (119, ent [.i] k_ineg), (115, ent [.i] k_iabs), (109, ent [.i] k_isign), (174, ent [.i, .i] k_idiv), (124, ent [.l] k_iof), (103, ent [.i, .i] k_rmul), (118, ent [.i, .i] k_radd), (111, ent [.i, .i] k_rcmp), (151, ent [.i, .i] k_rgcd), (114, ent [.i] k_rneg), (116, ent [.i] k_rabs), (101, ent [.i] k_rsign), (133, ent [.i, .i] k_rdiv), (60, ent [.l] k_rof), (150, ent [.n] k_rtrim), (120, ent [.f] k_fred), (176, ent [.l] k_pow2)]

theorem leafs_ok : EntsOk leafs := ⟨e_imul, e_iadd, e_icmp, e_ineg, e_iabs, e_isign, e_idiv, e_iof, e_rmul, e_radd, e_rcmp, e_rgcd, e_rneg, e_rabs, e_rsign, e_rdiv, e_rof, e_rtrim, e_fred, e_pow2, trivial⟩

end Go.Proofs.YtagciepnhjbopaaGreatDoor
