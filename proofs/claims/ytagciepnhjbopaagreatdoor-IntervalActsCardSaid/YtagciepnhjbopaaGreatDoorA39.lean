/- What the statements of this claim stand on: of Rat13, Aw3, Lw3, Leaf2, Q7, Q8, Q9, Q10, Q11, what they name -/
import Derived.Test.YtagciepnhjbopaaGreatDoorA11
import Derived.Test.YtagciepnhjbopaaGreatDoorA28
import Derived.Test.YtagciepnhjbopaaGreatDoorA30
import Derived.Test.YtagciepnhjbopaaGreatDoorA32
import Derived.Test.YtagciepnhjbopaaGreatDoorA35
import Derived.Test.YtagciepnhjbopaaGreatDoorA36
import Derived.Test.YtagciepnhjbopaaGreatDoorA37
import Derived.Test.YtagciepnhjbopaaGreatDoorA38

namespace Go.Proofs.YtagciepnhjbopaaGreatDoor
open Go.RowKit

theorem nq_down (r : Rat) {k : Nat} (_hk : k ≤ 256) : nq (downQ r k) ≤ nq r + 30 := by
  unfold downQ
  have h1 := nq_mk (r * mkRat ((2 ^ k : Nat) : Int) 1).floor (d := 2 ^ k) (Nat.ne_of_gt (Nat.two_pow_pos k))
  have h2 := nz_qfloor (r * mkRat ((2 ^ k : Nat) : Int) 1)
  have h3 := nq_mul r (mkRat ((2 ^ k : Nat) : Int) 1)
  have h4 := nq_unit (k := k) (by omega)
  have h5 := nz_pow2 (n := k) (by omega)
  rw [nz_nat] at h5
  have h6 : nz (r * mkRat ((2 ^ k : Nat) : Int) 1).num ≤ nq (r * mkRat ((2 ^ k : Nat) : Int) 1) := by unfold nq; omega
  omega

end Go.Proofs.YtagciepnhjbopaaGreatDoor

namespace Go.Proofs.YtagciepnhjbopaaGreatDoor
open Go.RowKit

theorem nq_small {r : Rat} (h : r.num.natAbs < 4294967296) (h2 : r.den < 4294967296) : nq r ≤ 2 := by
  unfold nq nz
  have h3 := dg_len_le (n := r.num.natAbs) (k := 1) (by rw [pB_one]; exact h)
  have h4 := dg_len_le (n := r.den) (k := 1) (by rw [pB_one]; exact h2)
  omega

end Go.Proofs.YtagciepnhjbopaaGreatDoor

namespace Go.Proofs.YtagciepnhjbopaaGreatDoor
open Go.RowKit

theorem nq_vr {w : World} {r : Rat} {u : Value} (h : VR w 4 r u) : nq r ≤ 9 := by
  obtain ⟨z1, d1, hd1, hm1, hz1, hy1, p1⟩ := h.parts
  exact nq_le hd1 hm1 hz1 hy1

set_option maxRecDepth 100000 in
set_option maxHeartbeats 1000000 in
theorem smallrat_any (g : Bool) (p q : Option Addr) (n c m d : Nat) (w : World) : Calls Tryz.prog 14 #[rw' g p n c q m d] w (RB (decide (n ≤ 4) && decide (m ≤ 4)) w) := by
  by_cases h1 : n ≤ 4
  · have t1 : decide ((n : Int) ≤ 4) = true := decide_eq_true (by omega)
    by_cases h2 : m ≤ 4
    · have t2 : decide ((m : Int) ≤ 4) = true := decide_eq_true (by omega)
      rw [decide_eq_true h1, decide_eq_true h2]
      go_enter Tryz.func14, Tryz.ntmps14
      go_wp2_with fail
      go_ret
      exact ⟨rfl, (Fr.refl _ _).alloc _⟩
    · have t2 : decide ((m : Int) ≤ 4) = false := decide_eq_false (by omega)
      rw [decide_eq_true h1, decide_eq_false h2]
      go_enter Tryz.func14, Tryz.ntmps14
      go_wp2_with fail
      go_ret
      exact ⟨rfl, (Fr.refl _ _).alloc _⟩
  · have t1 : decide ((n : Int) ≤ 4) = false := decide_eq_false (by omega)
    rw [decide_eq_false h1]
    go_enter Tryz.func14, Tryz.ntmps14
    go_wp2_with fail
    go_ret
    exact ⟨rfl, (Fr.refl _ _).alloc _⟩

end Go.Proofs.YtagciepnhjbopaaGreatDoor

namespace Go.Proofs.YtagciepnhjbopaaGreatDoor
open Go.RowKit En

theorem dg_inj' {x y : Nat} : decide (dg x = dg y) = decide (x = y) := by
  by_cases h : x = y
  · rw [h]; simp
  · rw [decide_eq_false h, decide_eq_false fun e => h (dg_inj e)]

abbrev k_dsame : List Pa → Option (List Prop × Av) := fun | [.cd x, .cd y] => some ([], avB (decide (x = y))) | _ => none

theorem e_dsame (args : List Av) (obs : List Prop) (r : Av) : ent [.cd, .cd] k_dsame args = some (obs, r) → (∀ p ∈ obs, p) → Cn 104 args r :=
  ent_ok (fun ps obs r h ho => by
    unfold k_dsame at h
    split at h
    case h_2 => cases h
    rename_i x y
    cases h
    refine cp_leaf ⟨_, Tryz.func104, rfl, rfl⟩ fun w vs ht hv => ?_
    obtain ⟨v0, _, rfl, h0, ⟨v1, _, rfl, h1, rfl⟩⟩ := hv
    obtain ⟨p, c, rfl, s⟩ := h0
    obtain ⟨p', c', rfl, s'⟩ := h1
    exact (rsame_e (by exact dg_inj') s s').mono fun _ _ h => rb_sv h) args obs r

abbrev k_mmod : List Pa → Option (List Prop × Av) := fun | [.l (.int .i64 x), .l (.int .i64 m)] => some ([1 ≤ m, m ≤ 1000000, -9223372036854775808 ≤ x, x ≤ 9223372036854775807], avI (x % m)) | _ => none

theorem e_mmod (args : List Av) (obs : List Prop) (r : Av) : ent [.l, .l] k_mmod args = some (obs, r) → (∀ p ∈ obs, p) → Cn 40 args r :=
  ent_ok (fun ps obs r h ho => by
    unfold k_mmod at h
    split at h
    case h_2 => cases h
    rename_i x m
    cases h
    refine cp_leaf ⟨_, Tryz.func40, rfl, rfl⟩ fun w vs ht hv => ?_
    obtain ⟨v0, _, rfl, h0, ⟨v1, _, rfl, h1, rfl⟩⟩ := hv
    have h0 : v0 = _ := h0
    subst h0
    have h1 : v1 = _ := h1
    subst h1
    refine (mod_any x m w (ho _ (by simp)) (ho _ (by simp)) (ho _ (by simp)) (ho _ (by simp))).mono ?_
    rintro e w' ⟨rfl, rfl⟩
    exact ⟨_, rfl, vl_lit _ _, Fr.refl _ _⟩) args obs r

abbrev k_shr1 : List Pa → Option (List Prop × Av) := fun | [.cd x, .l (.int .i64 a)] => some ([x = 1, 0 ≤ a, a ≤ 65536], sv (.nat (2 ^ a.toNat))) | _ => none

theorem e_shr1 (args : List Av) (obs : List Prop) (r : Av) : ent [.cd, .l] k_shr1 args = some (obs, r) → (∀ p ∈ obs, p) → Cn 177 args r :=
  ent_ok (fun ps obs r h ho => by
    unfold k_shr1 at h
    split at h
    case h_2 => cases h
    rename_i x a
    cases h
    refine cp_leaf ⟨_, Tryz.func177, rfl, rfl⟩ fun w vs ht hv => ?_
    obtain ⟨v0, _, rfl, h0, ⟨v1, _, rfl, h1, rfl⟩⟩ := hv
    have h1 : v1 = _ := h1
    subst h1
    have hx : x = 1 := (ho _ (by simp))
    subst hx
    obtain ⟨n, rfl⟩ := Int.eq_ofNat_of_zero_le (show 0 ≤ a from (ho _ (by simp)))
    have hn : (n : Int) ≤ 65536 := (ho _ (by simp))
    exact (shift1_v (k := n) rfl h0 (by omega)).mono fun _ _ h => rv_sv (k := .nat _) h) args obs r

abbrev k_small : List Av → Option (List Prop × Av)
  | [.val true [.lit (.bool g), .lit (.slice p n c), .lit (.slice q m d)]] => some ([g = g ∧ p = p ∧ c = c ∧ q = q ∧ d = d], avB (decide (n ≤ 4) && decide (m ≤ 4)))
  | [.val true [.sem (.rrat 4 r)]] => some ([r = r], avB true)
  | _ => none

theorem lits3 {w : World} {x y z v : Value} (h : (AV.val true [.lit x, .lit y, .lit z] : Av).holds Dn none' w v) : v = .agg #[x, y, z] := by
  obtain ⟨cs, ⟨a, b, rfl, h1, a', b', rfl, h2, a3, b3, rfl, h3, rfl⟩, h4, -⟩ := h
  have h1 : a = [x] := h1
  have h2 : a' = [y] := h2
  have h3 : a3 = [z] := h3
  subst h1; subst h2; subst h3
  exact h4

theorem e_small (args : List Av) (obs : List Prop) (r : Av) (h : k_small args = some (obs, r)) (_ho : ∀ p ∈ obs, p) : Cn 14 args r := by
  unfold k_small at h
  split at h
  · cases h
    refine leaf ⟨_, Tryz.func14, rfl, rfl⟩ fun w vs ht hv => ?_
    obtain ⟨v, _, rfl, h1, rfl⟩ := hv
    rw [lits3 h1]
    exact (smallrat_any _ _ _ _ _ _ _ w).mono fun _ _ h => rb_sv h
  · cases h
    refine leaf ⟨_, Tryz.func14, rfl, rfl⟩ fun w vs ht hv => ?_
    obtain ⟨v, _, rfl, h1, rfl⟩ := hv
    obtain ⟨g, p, n, c, X, q, m, d, Y, rfl, s, t, _, l, l'⟩ := sv_to (x := .rrat 4 _) h1
    refine (smallrat_any g p q n c m d w).mono fun _ _ h => rb_sv ?_
    rw [decide_eq_true l, decide_eq_true l'] at h
    exact h
  · cases h

theorem ents_append : ∀ {a b : List Ent}, EntsOk a → EntsOk b → EntsOk (a ++ b)
  | [], _, _, h => h
  | (_, _) :: _, _, ⟨h1, h2⟩, h => ⟨h1, ents_append h2 h⟩

end Go.Proofs.YtagciepnhjbopaaGreatDoor

namespace Go.Proofs.YtagciepnhjbopaaGreatDoor
open Go.RowKit En

theorem ffloor (L : Nat) (q : Rat) (hL : L ≤ 1048575) : Cp 132 [.f L q] (sv (.int q.floor)) := by
  refine cp_opn ⟨_, Tryz.func132, rfl, rfl⟩ ?_
  rintro _ ⟨_, _, rfl, ⟨z, d, rfl, h0, hz, hd, rfl⟩, rfl⟩
  rw [floor_mk _ h0]
  exact (wk leafs_ok (ds := []) (fuel := 40) (obs := [L ≤ 1048575, L ≤ 1048575, iv false d ≠ (0 : Int)]) (r := AV.val true [Seg.sem (Kn.int (z / iv false d))]) Tryz.func132 rfl (by kernel_rfl) ⟨hL, hL, (show (d : Int) ≠ 0 by omega), trivial⟩)

abbrev k_ffloor : List Pa → Option (List Prop × Av)
  | [.f L q] => some ([L ≤ 1048575], sv (.int q.floor))
  | _ => none

theorem e_ffloor (args : List Av) (obs : List Prop) (r : Av) : ent [.f] k_ffloor args = some (obs, r) → (∀ p ∈ obs, p) → Cn 132 args r :=
  ent_ok (fun ps obs r h ho => by
    unfold k_ffloor at h
    split at h
    · cases h; exact ffloor _ _ (ho _ (by simp))
    · cases h) args obs r

def tR1 : List Ent := (132, ent [.f] k_ffloor) :: tP2

theorem tR1_ok : EntsOk tR1 := ⟨e_ffloor, tP2_ok⟩

set_option maxHeartbeats 1000000 in
theorem fdown (L k : Nat) (q : Rat) (_hL : L ≤ 262143) (_hk : k ≤ 256) : Cp 126 [.f L q, .l (.int .i64 k)] (sv (.frac (L + 18) (downQ q k))) := by
  refine cp_opn ⟨_, Tryz.func126, rfl, rfl⟩ ?_
  rintro _ ⟨_, _, rfl, ⟨z, d, rfl, h0, hz, hd, rfl⟩, _, _, rfl, rfl, rfl⟩
  have h1 := nz_pow2 (n := k) (by omega)
  have h2 := nz_mul z ((2 ^ k : Nat) : Int)
  have h3 := nz_floor (z * ((2 ^ k : Nat) : Int)) d
  have e1 : (Rat.divInt (z * ((2 ^ k : Nat) : Int)) (d : Int)).floor = (z * ((2 ^ k : Nat) : Int)) / (d : Int) := by rw [divInt_pos, floor_mk _ h0]
  refine cn_res (wk tR1_ok (ds := []) (fuel := 40) (obs := [(0 : Int) ≤ (↑k : Int), (↑k : Int) ≤ (65536 : Int), L ≤ 1048575, nz (↑((2 : Nat) ^ Int.toNat (↑k : Int)) : Int) ≤ 1048575, (0 : Int) < iv false d, nz (z * (↑((2 : Nat) ^ Int.toNat (↑k : Int)) : Int)) + L ≤ 1048575]) (r := AV.val true [Seg.sem (Kn.int (Rat.floor (Rat.divInt (z * (↑((2 : Nat) ^ Int.toNat (↑k : Int)) : Int)) (iv false d)))), Seg.sem (Kn.int (↑((2 : Nat) ^ Int.toNat (↑k : Int)) : Int))]) Tryz.func126 rfl (by kernel_rfl) ⟨by omega, by omega, by omega, (show nz ((2 ^ k : Nat) : Int) ≤ 1048575 by omega), (show (0 : Int) < (d : Int) by omega), (show nz (z * ((2 ^ k : Nat) : Int)) + L ≤ 1048575 by omega), trivial⟩) (fj2 (L := nz (Rat.divInt (z * ((2 ^ k : Nat) : Int)) (d : Int)).floor) (M := nz ((2 ^ k : Nat) : Int)) (d := 2 ^ k) rfl rfl (Nat.ne_of_gt (Nat.two_pow_pos k)) (by rw [e1]; omega) ?_)
  unfold downQ
  rw [mk_scale]
  rfl

abbrev k_fdown : List Pa → Option (List Prop × Av)
  | [.f L q, .l (.int .i64 (.ofNat k))] => some ([L ≤ 262143, k ≤ 256], sv (.frac (L + 18) (downQ q k)))
  | _ => none

theorem e_fdown (args : List Av) (obs : List Prop) (r : Av) : ent [.f, .l] k_fdown args = some (obs, r) → (∀ p ∈ obs, p) → Cn 126 args r :=
  ent_ok (fun ps obs r h ho => by
    unfold k_fdown at h
    split at h
    · cases h; exact fdown _ _ _ (ho _ (by simp)) (ho _ (by simp))
    · cases h) args obs r

def tR2 : List Ent := (126, ent [.f, .l] k_fdown) :: tR1

theorem tR2_ok : EntsOk tR2 := ⟨e_fdown, tR1_ok⟩

theorem fup (L k : Nat) (q : Rat) (_hL : L ≤ 65535) (_hk : k ≤ 256) : Cp 129 [.f L q, .l (.int .i64 k)] (sv (.frac (2 * (2 * L + 18)) (upQ q k))) :=
  cp_of (wk tR2_ok (ds := []) (fuel := 40) (obs := [L ≤ 262143, 2 * L ≤ 262143, k ≤ 256, 2 * L + 18 ≤ 262143]) (r := AV.val true [Seg.sem (Kn.frac (2 * (2 * L + 18)) (-downQ (-q) k))]) Tryz.func129 rfl (by kernel_rfl) (by simp only [AllP, and_true]; omega))

theorem wrap_succ {k : Nat} (_hk : k ≤ 256) : IntKind.i64.wrap ((k : Int) + 1) = (((k + 1 : Nat)) : Int) := by rw [IntKind.wrap_i64]; omega

theorem fnearest (L k : Nat) (q : Rat) (_hL : L ≤ 32767) (hk : k ≤ 256) : Cp 130 [.f L q, .l (.int .i64 k)] (sv (.frac (3 * L + 100) (nearQ q k))) := by
  have e := wrap_succ hk
  have h1 := nz_pow2 (n := k + 1) (by omega)
  have h2 : nz 1 ≤ 1 := by rw [show (1 : Int) = ((1 : Nat) : Int) from rfl, nz_nat, dg_one]; exact Nat.le_refl _
  have h3 := Nat.two_pow_pos (k + 1)
  have e2 : (IntKind.i64.wrap ((k : Int) + 1)).toNat = k + 1 := by rw [e]; rfl
  unfold nearQ
  refine cp_of (cn_res (wk tR2_ok (ds := []) (fuel := 40) (obs := [(-9223372036854775808 : Int) ≤ (1 : Int), (1 : Int) ≤ (9223372036854775807 : Int), (0 : Int) ≤ IntKind.wrap IntKind.i64 ((↑k : Int) + (1 : Int)), IntKind.wrap IntKind.i64 ((↑k : Int) + (1 : Int)) ≤ (65536 : Int), (0 : Int) < (↑((2 : Nat) ^ Int.toNat (IntKind.wrap IntKind.i64 ((↑k : Int) + (1 : Int)))) : Int), L ≤ 131071, nz (1 : Int) + nz (↑((2 : Nat) ^ Int.toNat (IntKind.wrap IntKind.i64 ((↑k : Int) + (1 : Int)))) : Int) ≤ 131071, 3 * L + 3 * (nz (1 : Int) + nz (↑((2 : Nat) ^ Int.toNat (IntKind.wrap IntKind.i64 ((↑k : Int) + (1 : Int)))) : Int)) + 1 ≤ 262143, k ≤ 256]) (r := AV.val true [Seg.sem (Kn.frac (3 * L + 3 * (nz (1 : Int) + nz (↑((2 : Nat) ^ Int.toNat (IntKind.wrap IntKind.i64 ((↑k : Int) + (1 : Int)))) : Int)) + 1 + 18) (downQ (q + Rat.divInt (1 : Int) (↑((2 : Nat) ^ Int.toNat (IntKind.wrap IntKind.i64 ((↑k : Int) + (1 : Int)))) : Int)) k))]) Tryz.func130 rfl (by kernel_rfl) ?nn) ?_)
  case nn => simp only [AllP, and_true, e2]; omega
  rw [e2]
  exact fun w u h => sv_of (x := .frac _ _) ((sv_to h : VF w _ _ u).mono (by omega)) _

end Go.Proofs.YtagciepnhjbopaaGreatDoor

namespace Go.Proofs.YtagciepnhjbopaaGreatDoor
open Go.RowKit En

abbrev okQ (q : Rat) : Av := .tup [(true, [.sem (.rat q)]), (false, [.lit (.int .i64 0)])]

abbrev noQ (e : Int) : Av := .tup [(true, [.lit (.bool false), .lit (.slice none 0 0), .lit (.slice none 0 0)]), (false, [.lit (.int .i64 e)])]

abbrev fnV (f : FuncId) : Value := .func (.func f) #[] #[]

abbrev k_fup : List Pa → Option (List Prop × Av)
  | [.f L q, .l (.int .i64 (.ofNat k))] => some ([L ≤ 65535, k ≤ 256], sv (.frac (2 * (2 * L + 18)) (upQ q k)))
  | _ => none

theorem e_fup (args : List Av) (obs : List Prop) (r : Av) : ent [.f, .l] k_fup args = some (obs, r) → (∀ p ∈ obs, p) → Cn 129 args r :=
  ent_ok (fun ps obs r h ho => by
    unfold k_fup at h
    split at h
    · cases h; exact fup _ _ _ (ho _ (by simp)) (ho _ (by simp))
    · cases h) args obs r

abbrev k_fnearest : List Pa → Option (List Prop × Av)
  | [.f L q, .l (.int .i64 (.ofNat k))] => some ([L ≤ 32767, k ≤ 256], sv (.frac (3 * L + 100) (nearQ q k)))
  | _ => none

theorem e_fnearest (args : List Av) (obs : List Prop) (r : Av) : ent [.f, .l] k_fnearest args = some (obs, r) → (∀ p ∈ obs, p) → Cn 130 args r :=
  ent_ok (fun ps obs r h ho => by
    unfold k_fnearest at h
    split at h
    · cases h; exact fnearest _ _ _ (ho _ (by simp)) (ho _ (by simp))
    · cases h) args obs r

def tR3 : List Ent := (129, ent [.f, .l] k_fup) :: (130, ent [.f, .l] k_fnearest) :: tR2

theorem tR3_ok : EntsOk tR3 := ⟨e_fup, e_fnearest, tR2_ok⟩

theorem rnd_down (L k : Nat) (q : Rat) (_hL : L ≤ 65535) (_hk : k ≤ 256) : Cp 125 [.r L q, .l (.int .i64 k), .l (fnV 126)] (okQ (downQ q k)) :=
  cp_of (wk tR3_ok (ds := [some false, none, some false]) (fuel := 40) (obs := [false = false, decide ((↑k : Int) > (256 : Int)) = false, L ≤ 262143, 2 * L + 3 ≤ 262143, k ≤ 256, 2 * L + 3 + 18 ≤ 524287]) (r := AV.tup [(true, [Seg.sem (Kn.rat (downQ q k))]), (false, [Seg.lit (Value.int IntKind.i64 (0 : Int))])]) Tryz.func125 rfl (by kernel_rfl) (by simp only [AllP, and_true, true_and, decide_eq_false_iff_not]; omega))

theorem rnd_up (L k : Nat) (q : Rat) (_hL : L ≤ 16383) (_hk : k ≤ 256) : Cp 125 [.r L q, .l (.int .i64 k), .l (fnV 129)] (okQ (upQ q k)) :=
  cp_of (wk tR3_ok (ds := [some false, none, some false]) (fuel := 40) (obs := [false = false, decide ((↑k : Int) > (256 : Int)) = false, L ≤ 262143, 2 * L + 3 ≤ 65535, k ≤ 256, 2 * (2 * (2 * L + 3) + 18) ≤ 524287]) (r := AV.tup [(true, [Seg.sem (Kn.rat (upQ q k))]), (false, [Seg.lit (Value.int IntKind.i64 (0 : Int))])]) Tryz.func125 rfl (by kernel_rfl) (by simp only [AllP, and_true, true_and, decide_eq_false_iff_not]; omega))

theorem rnd_neg (L f : Nat) (q : Rat) (b : Int) (_hb : b < 0) : Cp 125 [.r L q, .l (.int .i64 b), .l (fnV f)] (noQ 1) :=
  cp_of (wk tR3_ok (ds := [some true]) (fuel := 40) (obs := [decide (b < (0 : Int)) = true]) (r := AV.tup [(true, [Seg.lit (Value.bool false), Seg.lit (Value.slice none 0 0), Seg.lit (Value.slice none 0 0)]), (false, [Seg.lit (Value.int IntKind.i64 (1 : Int))])]) Tryz.func125 rfl (by kernel_rfl) (by simp only [AllP, and_true, decide_eq_true_eq]; omega))

theorem rnd_big (L f : Nat) (q : Rat) (b : Int) (_hb : 256 < b) : Cp 125 [.r L q, .l (.int .i64 b), .l (fnV f)] (noQ 1) :=
  cp_of (wk tR3_ok (ds := [some false, none, some true]) (fuel := 40) (obs := [decide (b < (0 : Int)) = false, decide (b > (256 : Int)) = true]) (r := AV.tup [(true, [Seg.lit (Value.bool false), Seg.lit (Value.slice none 0 0), Seg.lit (Value.slice none 0 0)]), (false, [Seg.lit (Value.int IntKind.i64 (1 : Int))])]) Tryz.func125 rfl (by kernel_rfl) (by simp only [AllP, and_true, decide_eq_true_eq, decide_eq_false_iff_not]; omega))

theorem rnd_bad (L f : Nat) (q : Rat) (b : Int) (hb : b < 0 ∨ 256 < b) : Cp 125 [.r L q, .l (.int .i64 b), .l (fnV f)] (noQ 1) := by
  rcases hb with hb | hb
  · exact rnd_neg L f q b hb
  · exact rnd_big L f q b hb

abbrev k_rndb : List Pa → Option (List Prop × Av)
  | [.r _L _q, .l (.int .i64 b), .l (.func (.func _f) ⟨[]⟩ ⟨[]⟩)] => some ([b < 0 ∨ 256 < b], noQ 1)
  | _ => none

theorem e_rndb (args : List Av) (obs : List Prop) (r : Av) : ent [.r, .l, .l] k_rndb args = some (obs, r) → (∀ p ∈ obs, p) → Cn 125 args r :=
  ent_ok (fun ps obs r h ho => by
    unfold k_rndb at h
    split at h
    · cases h; exact rnd_bad _ _ _ _ (ho _ (by simp))
    · cases h) args obs r

def tRb : List Ent := [(125, ent [.r, .l, .l] k_rndb)]

theorem tRb_ok : EntsOk tRb := ⟨e_rndb, trivial⟩

abbrev k_rnd_down : List Pa → Option (List Prop × Av)
  | [.r L q, .l (.int .i64 (.ofNat k)), .l (.func (.func 126) ⟨[]⟩ ⟨[]⟩)] => some ([L ≤ 65535, k ≤ 256], okQ (downQ q k))
  | _ => none

theorem e_rnd_down (args : List Av) (obs : List Prop) (r : Av) : ent [.r, .l, .l] k_rnd_down args = some (obs, r) → (∀ p ∈ obs, p) → Cn 125 args r :=
  ent_ok (fun ps obs r h ho => by
    unfold k_rnd_down at h
    split at h
    · cases h; exact rnd_down _ _ _ (ho _ (by simp)) (ho _ (by simp))
    · cases h) args obs r

def tR_down : List Ent := [(125, ent [.r, .l, .l] k_rnd_down)]

theorem tR_down_ok : EntsOk tR_down := ⟨e_rnd_down, trivial⟩

theorem pDown (L k : Nat) (q : Rat) (_hL : L ≤ 65535) (_hk : k ≤ 256) : Cp 46 [.r L q, .l (.int .i64 k)] (okQ (downQ q k)) :=
  cp_of (wk tR_down_ok (ds := []) (fuel := 40) (obs := [L ≤ 65535, k ≤ 256]) (r := AV.tup [(true, [Seg.sem (Kn.rat (downQ q k))]), (false, [Seg.lit (Value.int IntKind.i64 (0 : Int))])]) Tryz.func46 rfl (by kernel_rfl) (by simp only [AllP, and_true]; omega))

theorem pDownBad (L : Nat) (q : Rat) (b : Int) (hb : b < 0 ∨ 256 < b) : Cp 46 [.r L q, .l (.int .i64 b)] (noQ 1) :=
  cp_of (wk tRb_ok (ds := []) (fuel := 40) (obs := [b < (0 : Int) ∨ (256 : Int) < b]) (r := AV.tup [(true, [Seg.lit (Value.bool false), Seg.lit (Value.slice none 0 0), Seg.lit (Value.slice none 0 0)]), (false, [Seg.lit (Value.int IntKind.i64 (1 : Int))])]) Tryz.func46 rfl (by kernel_rfl) ⟨hb, trivial⟩)

abbrev k_rnd_up : List Pa → Option (List Prop × Av)
  | [.r L q, .l (.int .i64 (.ofNat k)), .l (.func (.func 129) ⟨[]⟩ ⟨[]⟩)] => some ([L ≤ 16383, k ≤ 256], okQ (upQ q k))
  | _ => none

theorem e_rnd_up (args : List Av) (obs : List Prop) (r : Av) : ent [.r, .l, .l] k_rnd_up args = some (obs, r) → (∀ p ∈ obs, p) → Cn 125 args r :=
  ent_ok (fun ps obs r h ho => by
    unfold k_rnd_up at h
    split at h
    · cases h; exact rnd_up _ _ _ (ho _ (by simp)) (ho _ (by simp))
    · cases h) args obs r

def tR_up : List Ent := [(125, ent [.r, .l, .l] k_rnd_up)]

theorem tR_up_ok : EntsOk tR_up := ⟨e_rnd_up, trivial⟩

theorem pUp (L k : Nat) (q : Rat) (_hL : L ≤ 16383) (_hk : k ≤ 256) : Cp 48 [.r L q, .l (.int .i64 k)] (okQ (upQ q k)) :=
  cp_of (wk tR_up_ok (ds := []) (fuel := 40) (obs := [L ≤ 16383, k ≤ 256]) (r := AV.tup [(true, [Seg.sem (Kn.rat (upQ q k))]), (false, [Seg.lit (Value.int IntKind.i64 (0 : Int))])]) Tryz.func48 rfl (by kernel_rfl) (by simp only [AllP, and_true]; omega))

noncomputable def tSl : List Ent := (177, ent [.cd, .l] k_shr1) :: tQ4

theorem tSl_ok : EntsOk tSl := ⟨e_shr1, tQ4_ok⟩

theorem rat_join3 {x y : Nat} {r : Rat} (hz : r.num = (x : Int)) (hx : r.den = y) (w : World) (u : Value) (h : (AV.val true [.lit (.bool false), .sem (.nat x), .sem (.nat y)] : Av).holds Dn none' w u) : (sv (.rat r)).holds Dn none' w u := by
  obtain ⟨cs, h1, h2, -⟩ := h
  obtain ⟨a, b, rfl, h3, h4⟩ := segs_split (a := [Seg.lit (.bool false), Seg.sem (Kn.nat x)]) (b := [Seg.sem (Kn.nat y)]) h1
  have h5 : VZ w (x : Int) (.agg a.toArray) := pZ1_ok (β := none') (ss := [.lit (.bool false), .sem (.nat x)]) rfl ⟨a, h3, rfl, fun h => by cases h⟩
  obtain ⟨vs, e, hl, hp⟩ := is_agg (x := .int (x : Int)) h5
  have e : a = vs := by have e : Value.agg a.toArray = .agg vs.toArray := e; injection e with e; simpa using congrArg Array.toList e
  subst e
  exact rat_join hz hx w u ⟨a ++ b, ⟨a, b, rfl, ⟨⟨hl, hp⟩, h5⟩, h4⟩, h2, fun h => by cases h⟩

theorem two_int (k : Nat) : mkRat ((2 ^ k : Nat) : Int) 1 = (((2 ^ k : Nat) : Int) : Rat) := mk_int _

theorem unit_c (a : Int) (h0 : 0 ≤ a) (h1 : a ≤ 65536) : Cp 131 [.l (.int .i64 a)] (sv (.rat (mkRat ((2 ^ a.toNat : Nat) : Int) 1))) :=
  cp_of (cn_res (wk tSl_ok (ds := []) (fuel := 40) (obs := [1 = 1, (0 : Int) ≤ a, a ≤ (65536 : Int)]) (r := AV.val true [Seg.lit (Value.bool false), Seg.sem (Kn.nat ((2 : Nat) ^ Int.toNat a)), Seg.sem (Kn.nat 1)]) Tryz.func131 rfl (by kernel_rfl) ⟨rfl, h0, h1, trivial⟩) (rat_join3 (x := 2 ^ a.toNat) (y := 1) (by rw [two_int]; rfl) (by rw [two_int]; rfl)))

abbrev k_unit : List Pa → Option (List Prop × Av)
  | [.l (.int .i64 a)] => some ([0 ≤ a, a ≤ 65536], sv (.rat (mkRat ((2 ^ a.toNat : Nat) : Int) 1)))
  | _ => none

theorem e_unit (args : List Av) (obs : List Prop) (r : Av) : ent [.l] k_unit args = some (obs, r) → (∀ p ∈ obs, p) → Cn 131 args r :=
  ent_ok (fun ps obs r h ho => by
    unfold k_unit at h
    split at h
    · cases h; exact unit_c _ (ho _ (by simp)) (ho _ (by simp))
    · cases h) args obs r

noncomputable def tS1 : List Ent := (131, ent [.l] k_unit) :: tSl

theorem tS1_ok : EntsOk tS1 := ⟨e_unit, tSl_ok⟩

theorem over_unit (z : Int) (k : Nat) : mkRat z 1 / mkRat ((2 ^ k : Nat) : Int) 1 = mkRat z (2 ^ k) := by
  have h := Nat.two_pow_pos k
  rw [div_mk (by decide) (by decide) (by omega), Int.natCast_one, Int.one_mul, Int.mul_one]
  rfl

theorem qdown (L k : Nat) (q : Rat) (_hL : L ≤ 16383) (_hk : k ≤ 256) (_hn : nq q ≤ 16383) : Cp 128 [.r L q, .l (.int .i64 k)] (sv (.rat (downQ q k))) := by
  have h1 := nq_unit (k := k) (by omega)
  have h2 := nq_mul q (mkRat ((2 ^ k : Nat) : Int) 1)
  have h3 := nz_qfloor (q * mkRat ((2 ^ k : Nat) : Int) 1)
  have h4 : (dg 1).length = 1 := by rw [dg_one]; rfl
  have h5 : nz (q * mkRat ((2 ^ k : Nat) : Int) 1).num ≤ nq (q * mkRat ((2 ^ k : Nat) : Int) 1) := Nat.le_add_right _ _
  unfold downQ
  rw [← over_unit]
  exact cp_of (wk tS1_ok (ds := []) (fuel := 40) (obs := [(0 : Int) ≤ (↑k : Int), (↑k : Int) ≤ (65536 : Int), L ≤ 65535, nq (mkRat (↑((2 : Nat) ^ Int.toNat (↑k : Int)) : Int) 1) ≤ 65535, nq (q * mkRat (↑((2 : Nat) ^ Int.toNat (↑k : Int)) : Int) 1) ≤ 262143, nz (Rat.floor (q * mkRat (↑((2 : Nat) ^ Int.toNat (↑k : Int)) : Int) 1)) + List.length (dg 1) ≤ 65535, nq (mkRat (↑((2 : Nat) ^ Int.toNat (↑k : Int)) : Int) 1) ≤ 65535]) (r := AV.val true [Seg.sem (Kn.rat (mkRat (Rat.floor (q * mkRat (↑((2 : Nat) ^ Int.toNat (↑k : Int)) : Int) 1)) 1 / mkRat (↑((2 : Nat) ^ Int.toNat (↑k : Int)) : Int) 1))]) Tryz.func128 rfl (by kernel_rfl) ⟨by omega, by omega, by omega, (show nq (mkRat ((2 ^ k : Nat) : Int) 1) ≤ 65535 by omega), (show nq (q * mkRat ((2 ^ k : Nat) : Int) 1) ≤ 262143 by omega), (show nz (q * mkRat ((2 ^ k : Nat) : Int) 1).floor + (dg 1).length ≤ 65535 by omega), (show nq (mkRat ((2 ^ k : Nat) : Int) 1) ≤ 65535 by omega), trivial⟩)

abbrev k_qdown : List Pa → Option (List Prop × Av)
  | [.r L q, .l (.int .i64 (.ofNat k))] => some ([L ≤ 16383, k ≤ 256, nq q ≤ 16383], sv (.rat (downQ q k)))
  | _ => none

theorem e_qdown (args : List Av) (obs : List Prop) (r : Av) : ent [.r, .l] k_qdown args = some (obs, r) → (∀ p ∈ obs, p) → Cn 128 args r :=
  ent_ok (fun ps obs r h ho => by
    unfold k_qdown at h
    split at h
    · cases h; exact qdown _ _ _ (ho _ (by simp)) (ho _ (by simp)) (ho _ (by simp))
    · cases h) args obs r

theorem qbad_no (k : Nat) (_hk : k ≤ 256) : Cp 127 [.l (.int .i64 k)] (avB false) :=
  cp_of (wk tSl_ok (ds := [none, some false, none, some false]) (fuel := 40) (obs := [false = false, decide ((↑k : Int) > (256 : Int)) = false]) (r := AV.val false [Seg.lit (Value.bool false)]) Tryz.func127 rfl (by kernel_rfl) (by simp only [AllP, and_true, true_and, decide_eq_false_iff_not]; omega))

theorem qbad_yes (b : Int) (_hb : b < 0 ∨ 256 < b) : Cp 127 [.l (.int .i64 b)] (avB true) := by
  by_cases h : b < 0
  · exact cp_of (wk tSl_ok (ds := [none, some true]) (fuel := 40) (obs := [decide (b < (0 : Int)) = true]) (r := AV.val false [Seg.lit (Value.bool true)]) Tryz.func127 rfl (by kernel_rfl) (by simp only [AllP, and_true, decide_eq_true_eq]; omega))
  · exact cp_of (wk tSl_ok (ds := [none, some false, none, some true]) (fuel := 40) (obs := [decide (b < (0 : Int)) = false, decide (b > (256 : Int)) = true]) (r := AV.val false [Seg.lit (Value.bool true)]) Tryz.func127 rfl (by kernel_rfl) (by simp only [AllP, and_true, decide_eq_true_eq, decide_eq_false_iff_not]; omega))

abbrev k_qbn : List Pa → Option (List Prop × Av)
  | [.l (.int .i64 (.ofNat k))] => some ([k ≤ 256], avB false)
  | _ => none

theorem e_qbn (args : List Av) (obs : List Prop) (r : Av) : ent [.l] k_qbn args = some (obs, r) → (∀ p ∈ obs, p) → Cn 127 args r :=
  ent_ok (fun ps obs r h ho => by
    unfold k_qbn at h
    split at h
    · cases h; exact qbad_no _ (ho _ (by simp))
    · cases h) args obs r

abbrev k_qby : List Pa → Option (List Prop × Av)
  | [.l (.int .i64 b)] => some ([b < 0 ∨ 256 < b], avB true)
  | _ => none

theorem e_qby (args : List Av) (obs : List Prop) (r : Av) : ent [.l] k_qby args = some (obs, r) → (∀ p ∈ obs, p) → Cn 127 args r :=
  ent_ok (fun ps obs r h ho => by
    unfold k_qby at h
    split at h
    · cases h; exact qbad_yes _ (ho _ (by simp))
    · cases h) args obs r

noncomputable def tSn : List Ent := (127, ent [.l] k_qbn) :: (128, ent [.r, .l] k_qdown) :: tS1

theorem tSn_ok : EntsOk tSn := ⟨e_qbn, e_qdown, tS1_ok⟩

noncomputable def tSy : List Ent := (127, ent [.l] k_qby) :: tS1

theorem tSy_ok : EntsOk tSy := ⟨e_qby, tS1_ok⟩

theorem qDown (L k : Nat) (q : Rat) (_hL : L ≤ 4000) (_hk : k ≤ 256) (_hn : nq q ≤ 4000) : Cp 47 [.r L q, .l (.int .i64 k)] (okQ (downQ q k)) :=
  cp_of (wk tSn_ok (ds := []) (fuel := 40) (obs := [k ≤ 256, L ≤ 16383, k ≤ 256, nq q ≤ 16383]) (r := AV.tup [(true, [Seg.sem (Kn.rat (downQ q k))]), (false, [Seg.lit (Value.int IntKind.i64 (0 : Int))])]) Tryz.func47 rfl (by kernel_rfl) (by simp only [AllP, and_true]; omega))

theorem qUp (L k : Nat) (q : Rat) (_hL : L ≤ 4000) (hk : k ≤ 256) (_hn : nq q ≤ 4000) : Cp 49 [.r L q, .l (.int .i64 k)] (okQ (upQ q k)) := by
  have h1 := nq_neg q
  have h2 := nq_down (-q) hk
  exact cp_of (wk tSn_ok (ds := []) (fuel := 40) (obs := [k ≤ 256, L ≤ 262143, nq q ≤ 262143, nq (-q) ≤ 16383, k ≤ 256, nq (-q) ≤ 16383, nq (downQ (-q) k) ≤ 262143, nq (downQ (-q) k) ≤ 262143]) (r := AV.tup [(true, [Seg.sem (Kn.rat (-downQ (-q) k))]), (false, [Seg.lit (Value.int IntKind.i64 (0 : Int))])]) Tryz.func49 rfl (by kernel_rfl) (by simp only [AllP, and_true]; omega))

end Go.Proofs.YtagciepnhjbopaaGreatDoor

namespace Go.Proofs.YtagciepnhjbopaaGreatDoor
open Go.RowKit En

noncomputable def tD1 : List Ent := [(104, ent [.cd, .cd] k_dsame)]

theorem tD1_ok : EntsOk tD1 := ⟨e_dsame, trivial⟩

theorem isame (a b : Int) : Cp 53 [.cz a, .cz b] (avB (decide (a = b))) := by
  by_cases h : decide (a < 0) = decide (b < 0)
  · rw [show decide (a = b) = decide (a.natAbs = b.natAbs) by
      rw [decide_eq_decide] at h ⊢
      omega]
    exact cp_of (wk tD1_ok (ds := [none, none, none, some true]) (fuel := 40) (obs := [(decide (a < (0 : Int)) == decide (b < (0 : Int))) = true]) (r := AV.val false [Seg.lit (Value.bool (decide (Int.natAbs a = Int.natAbs b)))]) Tryz.func53 rfl (by kernel_rfl) ⟨by rw [h]; simp, trivial⟩)
  · rw [show decide (a = b) = false by
      rw [decide_eq_false_iff_not]
      intro e
      rw [e] at h
      exact h rfl]
    exact cp_of (wk tD1_ok (ds := [none, none, none, some false]) (fuel := 40) (obs := [(decide (a < (0 : Int)) == decide (b < (0 : Int))) = false]) (r := AV.val false [Seg.lit (Value.bool false)]) Tryz.func53 rfl (by kernel_rfl) ⟨by simpa using h, trivial⟩)

abbrev k_isame : List Pa → Option (List Prop × Av)
  | [.cz a, .cz b] => some ([], avB (decide (a = b)))
  | _ => none

theorem e_isame (args : List Av) (obs : List Prop) (r : Av) : ent [.cz, .cz] k_isame args = some (obs, r) → (∀ p ∈ obs, p) → Cn 53 args r :=
  ent_ok (fun ps obs r h ho => by
    unfold k_isame at h
    split at h
    · cases h; exact isame _ _
    · cases h) args obs r

noncomputable def tT0 : List Ent := (53, ent [.cz, .cz] k_isame) :: tD1

theorem tT0_ok : EntsOk tT0 := ⟨e_isame, tD1_ok⟩

theorem rat_eq_iff (q s : Rat) : q = s ↔ q.num = s.num ∧ q.den = s.den := ⟨fun e => by rw [e]; exact ⟨rfl, rfl⟩, fun ⟨h1, h2⟩ => Rat.ext h1 h2⟩

theorem qsame (q s : Rat) : Cp 18 [.cq q, .cq s] (avB (decide (q = s))) := by
  by_cases h : q.num = s.num
  · rw [show decide (q = s) = decide (q.den = s.den) by rw [decide_eq_decide, rat_eq_iff]; exact ⟨fun h => h.2, fun h' => ⟨h, h'⟩⟩]
    exact cp_of (wk tT0_ok (ds := [none, some true]) (fuel := 40) (obs := [decide (Rat.num q = Rat.num s) = true]) (r := AV.val false [Seg.lit (Value.bool (decide (Rat.den q = Rat.den s)))]) Tryz.func18 rfl (by kernel_rfl) ⟨decide_eq_true h, trivial⟩)
  · rw [show decide (q = s) = false by rw [decide_eq_false_iff_not, rat_eq_iff]; exact fun h' => h h'.1]
    exact cp_of (wk tT0_ok (ds := [none, some false]) (fuel := 40) (obs := [decide (Rat.num q = Rat.num s) = false]) (r := AV.val false [Seg.lit (Value.bool false)]) Tryz.func18 rfl (by kernel_rfl) ⟨decide_eq_false h, trivial⟩)

theorem same00 : Cn 18 [.val true [.lit (.bool false), .lit (.slice none 0 0), .lit (.slice none 0 0)], .val true [.lit (.bool false), .lit (.slice none 0 0), .lit (.slice none 0 0)]] (avB true) :=
  (wk tT0_ok (ds := [none, some true, none, some true]) (fuel := 40) (obs := [decide ((↑0 : Int) = (↑0 : Int)) = true, decide (0 = 0) = true]) (r := AV.val false [Seg.lit (Value.bool true)]) Tryz.func18 rfl (by kernel_rfl) ⟨rfl, rfl, trivial⟩)

abbrev k_qsame : List Av → Option (List Prop × Av)
  | [.val true [.sem (.rat q)], .val true [.sem (.rat s)]] => some ([], avB (decide (q = s)))
  | [.val true [.lit (.bool false), .lit (.slice none 0 0), .lit (.slice none 0 0)], .val true [.lit (.bool false), .lit (.slice none 0 0), .lit (.slice none 0 0)]] => some ([], avB true)
  | _ => none

theorem e_qsame (args : List Av) (obs : List Prop) (r : Av) (h : k_qsame args = some (obs, r)) (_ho : ∀ p ∈ obs, p) : Cn 18 args r := by
  unfold k_qsame at h
  split at h
  · cases h
    obtain ⟨h1, h2⟩ := qsame _ _
    exact ⟨h1, fun S w vs hE hS hv => h2 S w vs hE hS (avs_pas (ps := [.cq _, .cq _]) hv)⟩
  · cases h; exact same00
  · cases h

abbrev k_ptrim : List Pa → Option (List Prop × Av)
  | [.r L q] => some ([L ≤ 65535], sv (.rat q))
  | _ => none

theorem e_ptrim (args : List Av) (obs : List Prop) (r : Av) : ent [.r] k_ptrim args = some (obs, r) → (∀ p ∈ obs, p) → Cn 25 args r :=
  ent_ok (fun ps obs r h ho => by
    unfold k_ptrim at h
    split at h
    · cases h; exact ptrim _ _ (ho _ (by simp))
    · cases h) args obs r

abbrev k_pfrac : List Pa → Option (List Prop × Av)
  | [.l (.int .i64 x), .l (.int .i64 y)] => some ([-9223372036854775808 ≤ x, x ≤ 9223372036854775807, -9223372036854775808 ≤ y, y ≤ 9223372036854775807], sv (.rat (Rat.divInt x y)))
  | _ => none

theorem e_pfrac (args : List Av) (obs : List Prop) (r : Av) : ent [.l, .l] k_pfrac args = some (obs, r) → (∀ p ∈ obs, p) → Cn 45 args r :=
  ent_ok (fun ps obs r h ho => by
    unfold k_pfrac at h
    split at h
    · cases h; exact pfrac _ _ (ho _ (by simp)) (ho _ (by simp)) (ho _ (by simp)) (ho _ (by simp))
    · cases h) args obs r

end Go.Proofs.YtagciepnhjbopaaGreatDoor

namespace Go.Proofs.YtagciepnhjbopaaGreatDoor
open Go.RowKit En

theorem gDown (L : Nat) (q : Rat) (b : Int) (hL : L ≤ 65535) (h0 : 0 ≤ b) (_h1 : b ≤ 256) : Cp 46 [.r L q, .l (.int .i64 b)] (okQ (downQ q b.toNat)) := by
  obtain ⟨k, rfl⟩ := Int.eq_ofNat_of_zero_le h0
  exact pDown L k q hL (by omega)

theorem gUp (L : Nat) (q : Rat) (b : Int) (hL : L ≤ 16383) (h0 : 0 ≤ b) (_h1 : b ≤ 256) : Cp 48 [.r L q, .l (.int .i64 b)] (okQ (upQ q b.toNat)) := by
  obtain ⟨k, rfl⟩ := Int.eq_ofNat_of_zero_le h0
  exact pUp L k q hL (by omega)

theorem hDown (L : Nat) (q : Rat) (b : Int) (hL : L ≤ 4000) (h0 : 0 ≤ b) (_h1 : b ≤ 256) (hn : nq q ≤ 4000) : Cp 47 [.r L q, .l (.int .i64 b)] (okQ (downQ q b.toNat)) := by
  obtain ⟨k, rfl⟩ := Int.eq_ofNat_of_zero_le h0
  exact qDown L k q hL (by omega) hn

theorem hUp (L : Nat) (q : Rat) (b : Int) (hL : L ≤ 4000) (h0 : 0 ≤ b) (_h1 : b ≤ 256) (hn : nq q ≤ 4000) : Cp 49 [.r L q, .l (.int .i64 b)] (okQ (upQ q b.toNat)) := by
  obtain ⟨k, rfl⟩ := Int.eq_ofNat_of_zero_le h0
  exact qUp L k q hL (by omega) hn

theorem hDownBad (L : Nat) (q : Rat) (b : Int) (hb : b < 0 ∨ 256 < b) : Cp 47 [.r L q, .l (.int .i64 b)] (noQ 1) :=
  cp_of (wk tSy_ok (ds := []) (fuel := 40) (obs := [b < (0 : Int) ∨ (256 : Int) < b]) (r := AV.tup [(true, [Seg.lit (Value.bool false), Seg.lit (Value.slice none 0 0), Seg.lit (Value.slice none 0 0)]), (false, [Seg.lit (Value.int IntKind.i64 (1 : Int))])]) Tryz.func47 rfl (by kernel_rfl) ⟨hb, trivial⟩)

abbrev k_gDown : List Pa → Option (List Prop × Av)
  | [.r L q, .l (.int .i64 b)] => some ([L ≤ 65535, 0 ≤ b, b ≤ 256], okQ (downQ q b.toNat))
  | _ => none

theorem e_gDown (args : List Av) (obs : List Prop) (r : Av) : ent [.r, .l] k_gDown args = some (obs, r) → (∀ p ∈ obs, p) → Cn 46 args r :=
  ent_ok (fun ps obs r h ho => by
    unfold k_gDown at h
    split at h
    · cases h; exact gDown _ _ _ (ho _ (by simp)) (ho _ (by simp)) (ho _ (by simp))
    · cases h) args obs r

abbrev k_gUp : List Pa → Option (List Prop × Av)
  | [.r L q, .l (.int .i64 b)] => some ([L ≤ 16383, 0 ≤ b, b ≤ 256], okQ (upQ q b.toNat))
  | _ => none

theorem e_gUp (args : List Av) (obs : List Prop) (r : Av) : ent [.r, .l] k_gUp args = some (obs, r) → (∀ p ∈ obs, p) → Cn 48 args r :=
  ent_ok (fun ps obs r h ho => by
    unfold k_gUp at h
    split at h
    · cases h; exact gUp _ _ _ (ho _ (by simp)) (ho _ (by simp)) (ho _ (by simp))
    · cases h) args obs r

abbrev k_hDown : List Pa → Option (List Prop × Av)
  | [.r L q, .l (.int .i64 b)] => some ([L ≤ 4000, 0 ≤ b, b ≤ 256, nq q ≤ 4000], okQ (downQ q b.toNat))
  | _ => none

theorem e_hDown (args : List Av) (obs : List Prop) (r : Av) : ent [.r, .l] k_hDown args = some (obs, r) → (∀ p ∈ obs, p) → Cn 47 args r :=
  ent_ok (fun ps obs r h ho => by
    unfold k_hDown at h
    split at h
    · cases h; exact hDown _ _ _ (ho _ (by simp)) (ho _ (by simp)) (ho _ (by simp)) (ho _ (by simp))
    · cases h) args obs r

abbrev k_hUp : List Pa → Option (List Prop × Av)
  | [.r L q, .l (.int .i64 b)] => some ([L ≤ 4000, 0 ≤ b, b ≤ 256, nq q ≤ 4000], okQ (upQ q b.toNat))
  | _ => none

theorem e_hUp (args : List Av) (obs : List Prop) (r : Av) : ent [.r, .l] k_hUp args = some (obs, r) → (∀ p ∈ obs, p) → Cn 49 args r :=
  ent_ok (fun ps obs r h ho => by
    unfold k_hUp at h
    split at h
    · cases h; exact hUp _ _ _ (ho _ (by simp)) (ho _ (by simp)) (ho _ (by simp)) (ho _ (by simp))
    · cases h) args obs r

abbrev k_gDownBad : List Pa → Option (List Prop × Av)
  | [.r _L _q, .l (.int .i64 b)] => some ([b < 0 ∨ 256 < b], noQ 1)
  | _ => none

theorem e_gDownBad (args : List Av) (obs : List Prop) (r : Av) : ent [.r, .l] k_gDownBad args = some (obs, r) → (∀ p ∈ obs, p) → Cn 46 args r :=
  ent_ok (fun ps obs r h ho => by
    unfold k_gDownBad at h
    split at h
    · cases h; exact pDownBad _ _ _ (ho _ (by simp))
    · cases h) args obs r

abbrev k_hDownBad : List Pa → Option (List Prop × Av)
  | [.r _L _q, .l (.int .i64 b)] => some ([b < 0 ∨ 256 < b], noQ 1)
  | _ => none

theorem e_hDownBad (args : List Av) (obs : List Prop) (r : Av) : ent [.r, .l] k_hDownBad args = some (obs, r) → (∀ p ∈ obs, p) → Cn 47 args r :=
  ent_ok (fun ps obs r h ho => by
    unfold k_hDownBad at h
    split at h
    · cases h; exact hDownBad _ _ _ (ho _ (by simp))
    · cases h) args obs r

theorem hide_none (w : World) : hide (fun _ => False) w = w := by
  have h : (hide (fun _ => False) w).heap = w.heap := by
    unfold hide
    apply Array.ext
    · simp
    · intro i h1 h2; simp
  cases w
  unfold hide at h ⊢
  simp only at h
  simp only [h]

theorem law_calls {f : FuncId} {args : List Av} {b : Bool} (h : Cn f args (avB b)) {w : World} {vs : List Value} (ht : Tab w) (hv : avs Dn none' w args vs) : Calls Tryz.prog f vs.toArray w (RB b w) := by
  refine (h.2 (fun _ => False) w vs (by rw [hide_none]; exact ht) (fun _ h => h.elim) (by rw [hide_none]; exact hv)).mono ?_
  rintro e w' ⟨u, rfl, h1, h2⟩
  rw [hide_none] at h1
  have h1 : u = .bool b := vl_lit_inv (D := Dn) h1
  subst h1
  exact ⟨rfl, h2.os, h2.tape, h2.output, h2.size, fun k h _ => h2.block k h⟩

end Go.Proofs.YtagciepnhjbopaaGreatDoor

namespace Go.Proofs.YtagciepnhjbopaaGreatDoor
open Go.RowKit En

abbrev k_pvalid : List Av → Option (List Prop × Av)
  | [.val true [.sem (.vrat L q b)]] => some ([L ≤ 65535, q = q], avB b)
  | _ => none

theorem e_pvalid (args : List Av) (obs : List Prop) (r : Av) (h : k_pvalid args = some (obs, r)) (ho : ∀ p ∈ obs, p) : Cn 19 args r := by
  unfold k_pvalid at h
  split at h
  case h_2 => cases h
  rename_i L q b
  cases h
  have hL : L ≤ 65535 := ho _ (by simp)
  refine leaf ⟨_, Tryz.func19, rfl, rfl⟩ fun w vs ht hv => ?_
  obtain ⟨v, _, rfl, h1, rfl⟩ := hv
  obtain ⟨g, p, n, c, X, q, m, d, Y, rfl, s, t, -, ⟨l, l'⟩, rfl⟩ := sv_to (x := .vrat L q b) h1
  exact (valid_any s t (by omega) (by omega)).mono fun _ _ h => rb_sv h

abbrev k_smallb : List Av → Option (List Prop × Av)
  | [.val true [.sem (.vrat 4 r b)]] => some ([r = r ∧ b = b], avB true)
  | _ => none

theorem e_smallb (args : List Av) (obs : List Prop) (r : Av) (h : k_smallb args = some (obs, r)) (_ho : ∀ p ∈ obs, p) : Cn 14 args r := by
  unfold k_smallb at h
  split at h
  case h_2 => cases h
  rename_i q b
  cases h
  refine leaf ⟨_, Tryz.func14, rfl, rfl⟩ fun w vs ht hv => ?_
  obtain ⟨v, _, rfl, h1, rfl⟩ := hv
  obtain ⟨g, p, n, c, X, q, m, d, Y, rfl, s, t, _, ⟨l, l'⟩, _⟩ := sv_to (x := .vrat 4 q b) h1
  refine (smallrat_any g p q n c m d w).mono fun _ _ h => rb_sv ?_
  rw [decide_eq_true l, decide_eq_true l'] at h
  exact h

abbrev k_padd : List Pa → Option (List Prop × Av)
  | [.r L q, .r M s] => some ([L ≤ 16383, M ≤ 16383], sv (.rat (q + s)))
  | _ => none

theorem e_padd (args : List Av) (obs : List Prop) (r : Av) : ent [.r, .r] k_padd args = some (obs, r) → (∀ p ∈ obs, p) → Cn 31 args r :=
  ent_ok (fun ps obs r h ho => by
    unfold k_padd at h
    split at h
    · cases h; exact padd _ _ _ _ (ho _ (by simp)) (ho _ (by simp))
    · cases h) args obs r

abbrev k_psub : List Pa → Option (List Prop × Av)
  | [.r L q, .r M s] => some ([L ≤ 16383, M ≤ 16383], sv (.rat (q - s)))
  | _ => none

theorem e_psub (args : List Av) (obs : List Prop) (r : Av) : ent [.r, .r] k_psub args = some (obs, r) → (∀ p ∈ obs, p) → Cn 33 args r :=
  ent_ok (fun ps obs r h ho => by
    unfold k_psub at h
    split at h
    · cases h; exact psub _ _ _ _ (ho _ (by simp)) (ho _ (by simp))
    · cases h) args obs r

abbrev k_pmul : List Pa → Option (List Prop × Av)
  | [.r L q, .r M s] => some ([L ≤ 65535, M ≤ 65535], sv (.rat (q * s)))
  | _ => none

theorem e_pmul (args : List Av) (obs : List Prop) (r : Av) : ent [.r, .r] k_pmul args = some (obs, r) → (∀ p ∈ obs, p) → Cn 35 args r :=
  ent_ok (fun ps obs r h ho => by
    unfold k_pmul at h
    split at h
    · cases h; exact pmul _ _ _ _ (ho _ (by simp)) (ho _ (by simp))
    · cases h) args obs r

abbrev k_pabs : List Pa → Option (List Prop × Av)
  | [.r L q] => some ([L ≤ 65535], sv (.rat q.abs))
  | _ => none

theorem e_pabs (args : List Av) (obs : List Prop) (r : Av) : ent [.r] k_pabs args = some (obs, r) → (∀ p ∈ obs, p) → Cn 29 args r :=
  ent_ok (fun ps obs r h ho => by
    unfold k_pabs at h
    split at h
    · cases h; exact pabs _ _ (ho _ (by simp))
    · cases h) args obs r

abbrev k_pneg : List Pa → Option (List Prop × Av)
  | [.r L q] => some ([L ≤ 65535], sv (.rat (-q)))
  | _ => none

theorem e_pneg (args : List Av) (obs : List Prop) (r : Av) : ent [.r] k_pneg args = some (obs, r) → (∀ p ∈ obs, p) → Cn 27 args r :=
  ent_ok (fun ps obs r h ho => by
    unfold k_pneg at h
    split at h
    · cases h; exact pneg _ _ (ho _ (by simp))
    · cases h) args obs r

abbrev k_psign : List Pa → Option (List Prop × Av)
  | [.r L q] => some ([L ≤ 65535], avI q.num.sign)
  | _ => none

theorem e_psign (args : List Av) (obs : List Prop) (r : Av) : ent [.r] k_psign args = some (obs, r) → (∀ p ∈ obs, p) → Cn 21 args r :=
  ent_ok (fun ps obs r h ho => by
    unfold k_psign at h
    split at h
    · cases h; exact psign _ _ (ho _ (by simp))
    · cases h) args obs r

abbrev k_pcmp : List Pa → Option (List Prop × Av)
  | [.r L q, .r M s] => some ([L ≤ 65535, M ≤ 65535], avI (cmpQ q s))
  | _ => none

theorem e_pcmp (args : List Av) (obs : List Prop) (r : Av) : ent [.r, .r] k_pcmp args = some (obs, r) → (∀ p ∈ obs, p) → Cn 23 args r :=
  ent_ok (fun ps obs r h ho => by
    unfold k_pcmp at h
    split at h
    · cases h; exact pcmp _ _ _ _ (ho _ (by simp)) (ho _ (by simp))
    · cases h) args obs r

abbrev k_pdiv : List Pa → Option (List Prop × Av)
  | [.r L q, .r M s] => some ([L ≤ 65535, M ≤ 65535, s ≠ 0], .tup [(true, [.sem (.rat (q / s))]), (false, [.lit (.int .i64 0)])])
  | _ => none

theorem e_pdiv (args : List Av) (obs : List Prop) (r : Av) : ent [.r, .r] k_pdiv args = some (obs, r) → (∀ p ∈ obs, p) → Cn 16 args r :=
  ent_ok (fun ps obs r h ho => by
    unfold k_pdiv at h
    split at h
    · cases h; exact pdiv _ _ _ _ (ho _ (by simp)) (ho _ (by simp)) (ho _ (by simp))
    · cases h) args obs r

end Go.Proofs.YtagciepnhjbopaaGreatDoor
