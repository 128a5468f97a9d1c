/- What the statements of this claim stand on: of Aw3, Lw3, Leaf2, Q7, Q8, Q9, Q10, what they name -/
import Derived.Test.YtagciepnhjbopaaGreatDoorT12
import Derived.Test.YtagciepnhjbopaaGreatDoorT24
import Derived.Test.YtagciepnhjbopaaGreatDoorT29
import Derived.Test.YtagciepnhjbopaaGreatDoorT31
import Derived.Test.YtagciepnhjbopaaGreatDoorT33
import Derived.Test.YtagciepnhjbopaaGreatDoorT36
import Derived.Test.YtagciepnhjbopaaGreatDoorT37
import Derived.Test.YtagciepnhjbopaaGreatDoorT38

namespace Go.Proofs.YtagciepnhjbopaaGreatDoor
open Go.RowKit

theorem good_digit {s : ByteArray} (h : s.size = 1) (h1 : 48 ≤ by' s 0) (h2 : by' s 0 ≤ 57) : Good s := by
  refine ⟨by omega, fun _ => h, fun j hj => ?_⟩
  have : j = 0 := by omega
  subst this
  exact ⟨h1, h2⟩

theorem pre_good {s : ByteArray} (h : Good s) : pre s = 0 := if_pos h

theorem nP_good {s : ByteArray} (h : Good s) : nP s = pv (by' s) s.size := by
  unfold nP prx
  rw [if_pos h, val_dg]

theorem ipe_good {s : ByteArray} (h : Good s) (hm : ¬ isM s) : ipe s = 0 ∧ zP s = (nP s : Int) := by
  have hb := ibody_no hm
  have h0 : ipe s = 0 := if_pos ⟨by rw [hb]; exact pre_good h, fun q => hm q.1⟩
  refine ⟨h0, ?_⟩
  have h1 : ips s = false := by unfold ips; rw [if_pos h0]; exact decide_eq_false hm
  have h2 : ipx s = prx s := by unfold ipx; rw [if_pos h0, hb]
  unfold zP nP
  rw [h1, h2]
  rfl

theorem nq_small {r : Rat} (h : r.num.natAbs < 4294967296) (h2 : r.den < 4294967296) : nq r ≤ 2 := by
  unfold nq nz
  have h3 := dg_len_le (n := r.num.natAbs) (k := 1) (by rw [pB_one]; exact h)
  have h4 := dg_len_le (n := r.den) (k := 1) (by rw [pB_one]; exact h2)
  omega

end Go.Proofs.YtagciepnhjbopaaGreatDoor

namespace Go.Proofs.YtagciepnhjbopaaGreatDoor
open Go.RowKit

theorem nq_vr {w : World} {r : Rat} {u : Value} (h : VR w 4 r u) : nq r ≤ 9 := by
  obtain ⟨z1, d1, hd1, hm1, hz1, hy1, p1⟩ := h.parts
  exact nq_le hd1 hm1 hz1 hy1

set_option maxRecDepth 100000 in
set_option maxHeartbeats 1000000 in
theorem smallrat_any (g : Bool) (p q : Option Addr) (n c m d : Nat) (w : World) : Calls Tryz.prog 14 #[rw' g p n c q m d] w (RB (decide (n ≤ 4) && decide (m ≤ 4)) w) := by
  by_cases h1 : n ≤ 4
  · have t1 : decide ((n : Int) ≤ 4) = true := decide_eq_true (by omega)
    by_cases h2 : m ≤ 4
    · have t2 : decide ((m : Int) ≤ 4) = true := decide_eq_true (by omega)
      rw [decide_eq_true h1, decide_eq_true h2]
      go_enter Tryz.func14, Tryz.ntmps14
      go_wp2_with fail
      go_ret
      exact ⟨rfl, (Fr.refl _ _).alloc _⟩
    · have t2 : decide ((m : Int) ≤ 4) = false := decide_eq_false (by omega)
      rw [decide_eq_true h1, decide_eq_false h2]
      go_enter Tryz.func14, Tryz.ntmps14
      go_wp2_with fail
      go_ret
      exact ⟨rfl, (Fr.refl _ _).alloc _⟩
  · have t1 : decide ((n : Int) ≤ 4) = false := decide_eq_false (by omega)
    rw [decide_eq_false h1]
    go_enter Tryz.func14, Tryz.ntmps14
    go_wp2_with fail
    go_ret
    exact ⟨rfl, (Fr.refl _ _).alloc _⟩

end Go.Proofs.YtagciepnhjbopaaGreatDoor

namespace Go.Proofs.YtagciepnhjbopaaGreatDoor
open Go.RowKit En

theorem str_sv {s : ByteArray} {w : World} {e : Ending} {w' : World} (h : e = .returned (.string s) ∧ Fr [] w w') : ∃ u, e = .returned u ∧ (AV.val false [.lit (.string s)] : Av).holds Dn none' w' u ∧ Fr [] w w' := ⟨_, h.1, vl_lit _ _, h.2⟩

theorem dg_inj' {x y : Nat} : decide (dg x = dg y) = decide (x = y) := by
  by_cases h : x = y
  · rw [h]; simp
  · rw [decide_eq_false h, decide_eq_false fun e => h (dg_inj e)]

abbrev k_dsame : List Pa → Option (List Prop × Av) := fun | [.cd x, .cd y] => some ([], avB (decide (x = y))) | _ => none

theorem e_dsame (args : List Av) (obs : List Prop) (r : Av) : ent [.cd, .cd] k_dsame args = some (obs, r) → (∀ p ∈ obs, p) → Cn 104 args r :=
  ent_ok (fun ps obs r h ho => by
    unfold k_dsame at h
    split at h
    case h_2 => cases h
    rename_i x y
    cases h
    refine cp_leaf ⟨_, Tryz.func104, rfl, rfl⟩ fun w vs ht hv => ?_
    obtain ⟨v0, _, rfl, h0, ⟨v1, _, rfl, h1, rfl⟩⟩ := hv
    obtain ⟨p, c, rfl, s⟩ := h0
    obtain ⟨p', c', rfl, s'⟩ := h1
    exact (rsame_e (by exact dg_inj') s s').mono fun _ _ h => rb_sv h) args obs r

abbrev k_isone : List Pa → Option (List Prop × Av) := fun | [.cd x] => some ([], avB (decide (x = 1))) | _ => none

theorem e_isone (args : List Av) (obs : List Prop) (r : Av) : ent [.cd] k_isone args = some (obs, r) → (∀ p ∈ obs, p) → Cn 107 args r :=
  ent_ok (fun ps obs r h ho => by
    unfold k_isone at h
    split at h
    case h_2 => cases h
    rename_i x
    cases h
    refine cp_leaf ⟨_, Tryz.func107, rfl, rfl⟩ fun w vs ht hv => ?_
    obtain ⟨v0, _, rfl, h0, rfl⟩ := hv
    exact (isone_v h0).mono fun _ _ h => rb_sv h) args obs r

abbrev k_ifmt : List Pa → Option (List Prop × Av) := fun | [.cz a] => some ([a.natAbs < pB 10], .val false [.lit (.string (itx (decide (a < 0)) a.natAbs))]) | _ => none

theorem e_ifmt (args : List Av) (obs : List Prop) (r : Av) : ent [.cz] k_ifmt args = some (obs, r) → (∀ p ∈ obs, p) → Cn 139 args r :=
  ent_ok (fun ps obs r h ho => by
    unfold k_ifmt at h
    split at h
    case h_2 => cases h
    rename_i a
    cases h
    refine cp_leaf ⟨_, Tryz.func139, rfl, rfl⟩ fun w vs ht hv => ?_
    obtain ⟨v0, _, rfl, h0, rfl⟩ := hv
    exact (ifmt_e rfl h0 (ho _ (by simp))).mono fun _ _ h => str_sv h) args obs r

noncomputable abbrev k_iprs : List Pa → Option (List Prop × Av) := fun | [.l (.string s)] => some ([s.size ≤ 4096, ipe s = 0], .tup [(true, [.sem (.int (zP s))]), (false, [.lit (.int .i64 0)])]) | _ => none

theorem e_iprs (args : List Av) (obs : List Prop) (r : Av) : ent [.l] k_iprs args = some (obs, r) → (∀ p ∈ obs, p) → Cn 135 args r :=
  ent_ok (fun ps obs r h ho => by
    unfold k_iprs at h
    split at h
    case h_2 => cases h
    rename_i s
    cases h
    refine cp_leaf ⟨_, Tryz.func135, rfl, rfl⟩ fun w vs ht hv => ?_
    obtain ⟨v0, _, rfl, h0, rfl⟩ := hv
    have h0 : v0 = _ := h0
    subst h0
    refine (iparse_ok (ho _ (by simp)) (ho _ (by simp)) rfl).mono ?_
    rintro e w' ⟨x, rfl, hx, f⟩
    exact ⟨_, rfl, ⟨[x, .int .i64 0], rfl, x, _, rfl, vl_sv (k := .int _) hx, _, _, rfl, vl_lit _ _, rfl⟩, f⟩) args obs r

noncomputable abbrev k_nprs : List Pa → Option (List Prop × Av) := fun | [.l (.string s)] => some ([s.size ≤ 4096, pre s = 0], .tup [(false, [.sem (.nat (nP s))]), (false, [.lit (.int .i64 0)])]) | _ => none

theorem e_nprs (args : List Av) (obs : List Prop) (r : Av) : ent [.l] k_nprs args = some (obs, r) → (∀ p ∈ obs, p) → Cn 136 args r :=
  ent_ok (fun ps obs r h ho => by
    unfold k_nprs at h
    split at h
    case h_2 => cases h
    rename_i s
    cases h
    refine cp_leaf ⟨_, Tryz.func136, rfl, rfl⟩ fun w vs ht hv => ?_
    obtain ⟨v0, _, rfl, h0, rfl⟩ := hv
    have h0 : v0 = _ := h0
    subst h0
    refine (nparse_ok (ho _ (by simp)) (ho _ (by simp)) rfl).mono ?_
    rintro e w' ⟨x, rfl, hx, f⟩
    exact ⟨_, rfl, ⟨[x, .int .i64 0], rfl, x, _, rfl, vl_sv (k := .nat _) hx, _, _, rfl, vl_lit _ _, rfl⟩, f⟩) args obs r

abbrev k_scut : List Pa → Option (List Prop × Av) := fun | [.l (.string s), .l (.string t)] => some ([t = { data := #[47] }, Lib.indexByte s.data.toList 47 = ((Lib.indexByte s.data.toList 47).toNat : Int), (Lib.indexByte s.data.toList 47).toNat + 1 ≤ s.size, s.size ≤ 8192], .tup [(false, [.lit (.string (s.extract 0 (Lib.indexByte s.data.toList 47).toNat))]), (false, [.lit (.string (s.extract ((Lib.indexByte s.data.toList 47).toNat + 1) s.size))]), (false, [.lit (.bool true)])]) | _ => none

theorem e_scut (args : List Av) (obs : List Prop) (r : Av) : ent [.l, .l] k_scut args = some (obs, r) → (∀ p ∈ obs, p) → Cn 134 args r :=
  ent_ok (fun ps obs r h ho => by
    unfold k_scut at h
    split at h
    case h_2 => cases h
    rename_i s t
    cases h
    refine cp_leaf ⟨_, Tryz.func134, rfl, rfl⟩ fun w vs ht hv => ?_
    obtain ⟨v0, _, rfl, h0, ⟨v1, _, rfl, h1, rfl⟩⟩ := hv
    have h0 : v0 = _ := h0
    subst h0
    have h1 : v1 = _ := h1
    subst h1
    have ht : t = { data := #[47] } := (ho _ (by simp))
    subst ht
    refine (cut_yes s (Lib.indexByte s.data.toList 47).toNat w (ho _ (by simp)) (ho _ (by simp)) (ho _ (by simp))).mono ?_
    rintro e w' ⟨rfl, f⟩
    exact ⟨_, rfl, ⟨[_, _, _], rfl, _, _, rfl, vl_lit _ _, _, _, rfl, vl_lit _ _, _, _, rfl, vl_lit _ _, rfl⟩, f⟩) args obs r

abbrev k_mmod : List Pa → Option (List Prop × Av) := fun | [.l (.int .i64 x), .l (.int .i64 m)] => some ([1 ≤ m, m ≤ 1000000, -9223372036854775808 ≤ x, x ≤ 9223372036854775807], avI (x % m)) | _ => none

theorem e_mmod (args : List Av) (obs : List Prop) (r : Av) : ent [.l, .l] k_mmod args = some (obs, r) → (∀ p ∈ obs, p) → Cn 40 args r :=
  ent_ok (fun ps obs r h ho => by
    unfold k_mmod at h
    split at h
    case h_2 => cases h
    rename_i x m
    cases h
    refine cp_leaf ⟨_, Tryz.func40, rfl, rfl⟩ fun w vs ht hv => ?_
    obtain ⟨v0, _, rfl, h0, ⟨v1, _, rfl, h1, rfl⟩⟩ := hv
    have h0 : v0 = _ := h0
    subst h0
    have h1 : v1 = _ := h1
    subst h1
    refine (mod_any x m w (ho _ (by simp)) (ho _ (by simp)) (ho _ (by simp)) (ho _ (by simp))).mono ?_
    rintro e w' ⟨rfl, rfl⟩
    exact ⟨_, rfl, vl_lit _ _, Fr.refl _ _⟩) args obs r

abbrev k_shr1 : List Pa → Option (List Prop × Av) := fun | [.cd x, .l (.int .i64 a)] => some ([x = 1, 0 ≤ a, a ≤ 65536], sv (.nat (2 ^ a.toNat))) | _ => none

theorem e_shr1 (args : List Av) (obs : List Prop) (r : Av) : ent [.cd, .l] k_shr1 args = some (obs, r) → (∀ p ∈ obs, p) → Cn 177 args r :=
  ent_ok (fun ps obs r h ho => by
    unfold k_shr1 at h
    split at h
    case h_2 => cases h
    rename_i x a
    cases h
    refine cp_leaf ⟨_, Tryz.func177, rfl, rfl⟩ fun w vs ht hv => ?_
    obtain ⟨v0, _, rfl, h0, ⟨v1, _, rfl, h1, rfl⟩⟩ := hv
    have h1 : v1 = _ := h1
    subst h1
    have hx : x = 1 := (ho _ (by simp))
    subst hx
    obtain ⟨n, rfl⟩ := Int.eq_ofNat_of_zero_le (show 0 ≤ a from (ho _ (by simp)))
    have hn : (n : Int) ≤ 65536 := (ho _ (by simp))
    exact (shift1_v (k := n) rfl h0 (by omega)).mono fun _ _ h => rv_sv (k := .nat _) h) args obs r

abbrev k_valid : List Av → Option (List Prop × Av)
  | [.val true [.sem (.int z), .sem (.nat x)]] => some ([x ≠ 0, nz z ≤ 131071, (dg x).length ≤ 131071], avB (decide (x ≠ 0 ∧ Nat.gcd z.natAbs x = 1)))
  | _ => none

theorem e_valid (args : List Av) (obs : List Prop) (r : Av) (h : k_valid args = some (obs, r)) (ho : ∀ p ∈ obs, p) : Cn 19 args r := by
  unfold k_valid at h
  split at h
  case h_2 => cases h
  rename_i z x
  cases h
  refine leaf ⟨_, Tryz.func19, rfl, rfl⟩ fun w vs ht hv => ?_
  obtain ⟨v, _, rfl, ⟨cs, h1, h2, -⟩, rfl⟩ := hv
  obtain ⟨a, b, rfl, ⟨_, p, c, e, s⟩, ⟨⟨hl, _⟩, q, d, e', t⟩⟩ := segs2 h1
  have e : a = [.bool (decide (z < 0)), .slice p (dg z.natAbs).length c] := by injection e with e; simpa using congrArg Array.toList e
  have e' : b = [.slice q (dg x).length d] := by
    match b, hl with
    | [y], _ => have e' : y = _ := e'; rw [e']
  subst e; subst e'
  rw [h2]
  exact (valid_nc (ho _ (by simp)) rfl s t (ho _ (by simp)) (ho _ (by simp))).mono fun _ _ h => rb_sv h

abbrev k_small : List Av → Option (List Prop × Av)
  | [.val true [.lit (.bool g), .lit (.slice p n c), .lit (.slice q m d)]] => some ([g = g ∧ p = p ∧ c = c ∧ q = q ∧ d = d], avB (decide (n ≤ 4) && decide (m ≤ 4)))
  | [.val true [.sem (.rrat 4 r)]] => some ([r = r], avB true)
  | _ => none

theorem lits3 {w : World} {x y z v : Value} (h : (AV.val true [.lit x, .lit y, .lit z] : Av).holds Dn none' w v) : v = .agg #[x, y, z] := by
  obtain ⟨cs, ⟨a, b, rfl, h1, a', b', rfl, h2, a3, b3, rfl, h3, rfl⟩, h4, -⟩ := h
  have h1 : a = [x] := h1
  have h2 : a' = [y] := h2
  have h3 : a3 = [z] := h3
  subst h1; subst h2; subst h3
  exact h4

theorem e_small (args : List Av) (obs : List Prop) (r : Av) (h : k_small args = some (obs, r)) (_ho : ∀ p ∈ obs, p) : Cn 14 args r := by
  unfold k_small at h
  split at h
  · cases h
    refine leaf ⟨_, Tryz.func14, rfl, rfl⟩ fun w vs ht hv => ?_
    obtain ⟨v, _, rfl, h1, rfl⟩ := hv
    rw [lits3 h1]
    exact (smallrat_any _ _ _ _ _ _ _ w).mono fun _ _ h => rb_sv h
  · cases h
    refine leaf ⟨_, Tryz.func14, rfl, rfl⟩ fun w vs ht hv => ?_
    obtain ⟨v, _, rfl, h1, rfl⟩ := hv
    obtain ⟨g, p, n, c, X, q, m, d, Y, rfl, s, t, _, l, l'⟩ := sv_to (x := .rrat 4 _) h1
    refine (smallrat_any g p q n c m d w).mono fun _ _ h => rb_sv ?_
    rw [decide_eq_true l, decide_eq_true l'] at h
    exact h
  · cases h

noncomputable def leafs2 : List Ent := [(104, ent [.cd, .cd] k_dsame), (107, ent [.cd] k_isone), (139, ent [.cz] k_ifmt), (135, ent [.l] k_iprs), (136, ent [.l] k_nprs), (134, ent [.l, .l] k_scut), (40, ent [.l, .l] k_mmod), (177, ent [.cd, .l] k_shr1), (19, k_valid), (14, k_small)]

theorem leafs2_ok : EntsOk leafs2 := ⟨e_dsame, e_isone, e_ifmt, e_iprs, e_nprs, e_scut, e_mmod, e_shr1, e_valid, e_small, trivial⟩

theorem ents_append : ∀ {a b : List Ent}, EntsOk a → EntsOk b → EntsOk (a ++ b)
  | [], _, _, h => h
  | (_, _) :: _, _, ⟨h1, h2⟩, h => ⟨h1, ents_append h2 h⟩

end Go.Proofs.YtagciepnhjbopaaGreatDoor

namespace Go.Proofs.YtagciepnhjbopaaGreatDoor
open Go.RowKit En

theorem ffloor (L : Nat) (q : Rat) (hL : L ≤ 1048575) : Cp 132 [.f L q] (sv (.int q.floor)) := by
  refine cp_opn ⟨_, Tryz.func132, rfl, rfl⟩ ?_
  rintro _ ⟨_, _, rfl, ⟨z, d, rfl, h0, hz, hd, rfl⟩, rfl⟩
  rw [floor_mk _ h0]
  exact (wk leafs_ok (ds := []) (fuel := 40) (obs := [L ≤ 1048575, L ≤ 1048575, iv false d ≠ (0 : Int)]) (r := AV.val true [Seg.sem (Kn.int (z / iv false d))]) Tryz.func132 rfl (by kernel_rfl) ⟨hL, hL, (show (d : Int) ≠ 0 by omega), trivial⟩)

abbrev k_ffloor : List Pa → Option (List Prop × Av)
  | [.f L q] => some ([L ≤ 1048575], sv (.int q.floor))
  | _ => none

theorem e_ffloor (args : List Av) (obs : List Prop) (r : Av) : ent [.f] k_ffloor args = some (obs, r) → (∀ p ∈ obs, p) → Cn 132 args r :=
  ent_ok (fun ps obs r h ho => by
    unfold k_ffloor at h
    split at h
    · cases h; exact ffloor _ _ (ho _ (by simp))
    · cases h) args obs r

def tR1 : List Ent := (132, ent [.f] k_ffloor) :: tP2

theorem tR1_ok : EntsOk tR1 := ⟨e_ffloor, tP2_ok⟩

theorem pfloor (L : Nat) (q : Rat) (_hL : L ≤ 65535) : Cp 54 [.r L q] (sv (.int q.floor)) :=
  cp_of (wk tR1_ok (ds := []) (fuel := 40) (obs := [L ≤ 262143, 2 * L + 3 ≤ 1048575]) (r := AV.val true [Seg.sem (Kn.int (Rat.floor q))]) Tryz.func54 rfl (by kernel_rfl) (by simp only [AllP, and_true]; omega))

set_option maxHeartbeats 1000000 in
theorem fdown (L k : Nat) (q : Rat) (_hL : L ≤ 262143) (_hk : k ≤ 256) : Cp 126 [.f L q, .l (.int .i64 k)] (sv (.frac (L + 18) (downQ q k))) := by
  refine cp_opn ⟨_, Tryz.func126, rfl, rfl⟩ ?_
  rintro _ ⟨_, _, rfl, ⟨z, d, rfl, h0, hz, hd, rfl⟩, _, _, rfl, rfl, rfl⟩
  have h1 := nz_pow2 (n := k) (by omega)
  have h2 := nz_mul z ((2 ^ k : Nat) : Int)
  have h3 := nz_floor (z * ((2 ^ k : Nat) : Int)) d
  have e1 : (Rat.divInt (z * ((2 ^ k : Nat) : Int)) (d : Int)).floor = (z * ((2 ^ k : Nat) : Int)) / (d : Int) := by rw [divInt_pos, floor_mk _ h0]
  refine cn_res (wk tR1_ok (ds := []) (fuel := 40) (obs := [(0 : Int) ≤ (↑k : Int), (↑k : Int) ≤ (65536 : Int), L ≤ 1048575, nz (↑((2 : Nat) ^ Int.toNat (↑k : Int)) : Int) ≤ 1048575, (0 : Int) < iv false d, nz (z * (↑((2 : Nat) ^ Int.toNat (↑k : Int)) : Int)) + L ≤ 1048575]) (r := AV.val true [Seg.sem (Kn.int (Rat.floor (Rat.divInt (z * (↑((2 : Nat) ^ Int.toNat (↑k : Int)) : Int)) (iv false d)))), Seg.sem (Kn.int (↑((2 : Nat) ^ Int.toNat (↑k : Int)) : Int))]) Tryz.func126 rfl (by kernel_rfl) ⟨by omega, by omega, by omega, (show nz ((2 ^ k : Nat) : Int) ≤ 1048575 by omega), (show (0 : Int) < (d : Int) by omega), (show nz (z * ((2 ^ k : Nat) : Int)) + L ≤ 1048575 by omega), trivial⟩) (fj2 (L := nz (Rat.divInt (z * ((2 ^ k : Nat) : Int)) (d : Int)).floor) (M := nz ((2 ^ k : Nat) : Int)) (d := 2 ^ k) rfl rfl (Nat.ne_of_gt (Nat.two_pow_pos k)) (by rw [e1]; omega) ?_)
  unfold downQ
  rw [mk_scale]
  rfl

abbrev k_fdown : List Pa → Option (List Prop × Av)
  | [.f L q, .l (.int .i64 (.ofNat k))] => some ([L ≤ 262143, k ≤ 256], sv (.frac (L + 18) (downQ q k)))
  | _ => none

theorem e_fdown (args : List Av) (obs : List Prop) (r : Av) : ent [.f, .l] k_fdown args = some (obs, r) → (∀ p ∈ obs, p) → Cn 126 args r :=
  ent_ok (fun ps obs r h ho => by
    unfold k_fdown at h
    split at h
    · cases h; exact fdown _ _ _ (ho _ (by simp)) (ho _ (by simp))
    · cases h) args obs r

def tR2 : List Ent := (126, ent [.f, .l] k_fdown) :: tR1

theorem tR2_ok : EntsOk tR2 := ⟨e_fdown, tR1_ok⟩

theorem fup (L k : Nat) (q : Rat) (_hL : L ≤ 65535) (_hk : k ≤ 256) : Cp 129 [.f L q, .l (.int .i64 k)] (sv (.frac (2 * (2 * L + 18)) (upQ q k))) :=
  cp_of (wk tR2_ok (ds := []) (fuel := 40) (obs := [L ≤ 262143, 2 * L ≤ 262143, k ≤ 256, 2 * L + 18 ≤ 262143]) (r := AV.val true [Seg.sem (Kn.frac (2 * (2 * L + 18)) (-downQ (-q) k))]) Tryz.func129 rfl (by kernel_rfl) (by simp only [AllP, and_true]; omega))

theorem wrap_succ {k : Nat} (_hk : k ≤ 256) : IntKind.i64.wrap ((k : Int) + 1) = (((k + 1 : Nat)) : Int) := by rw [IntKind.wrap_i64]; omega

theorem fnearest (L k : Nat) (q : Rat) (_hL : L ≤ 32767) (hk : k ≤ 256) : Cp 130 [.f L q, .l (.int .i64 k)] (sv (.frac (3 * L + 100) (nearQ q k))) := by
  have e := wrap_succ hk
  have h1 := nz_pow2 (n := k + 1) (by omega)
  have h2 : nz 1 ≤ 1 := by rw [show (1 : Int) = ((1 : Nat) : Int) from rfl, nz_nat, dg_one]; exact Nat.le_refl _
  have h3 := Nat.two_pow_pos (k + 1)
  have e2 : (IntKind.i64.wrap ((k : Int) + 1)).toNat = k + 1 := by rw [e]; rfl
  unfold nearQ
  refine cp_of (cn_res (wk tR2_ok (ds := []) (fuel := 40) (obs := [(-9223372036854775808 : Int) ≤ (1 : Int), (1 : Int) ≤ (9223372036854775807 : Int), (0 : Int) ≤ IntKind.wrap IntKind.i64 ((↑k : Int) + (1 : Int)), IntKind.wrap IntKind.i64 ((↑k : Int) + (1 : Int)) ≤ (65536 : Int), (0 : Int) < (↑((2 : Nat) ^ Int.toNat (IntKind.wrap IntKind.i64 ((↑k : Int) + (1 : Int)))) : Int), L ≤ 131071, nz (1 : Int) + nz (↑((2 : Nat) ^ Int.toNat (IntKind.wrap IntKind.i64 ((↑k : Int) + (1 : Int)))) : Int) ≤ 131071, 3 * L + 3 * (nz (1 : Int) + nz (↑((2 : Nat) ^ Int.toNat (IntKind.wrap IntKind.i64 ((↑k : Int) + (1 : Int)))) : Int)) + 1 ≤ 262143, k ≤ 256]) (r := AV.val true [Seg.sem (Kn.frac (3 * L + 3 * (nz (1 : Int) + nz (↑((2 : Nat) ^ Int.toNat (IntKind.wrap IntKind.i64 ((↑k : Int) + (1 : Int)))) : Int)) + 1 + 18) (downQ (q + Rat.divInt (1 : Int) (↑((2 : Nat) ^ Int.toNat (IntKind.wrap IntKind.i64 ((↑k : Int) + (1 : Int)))) : Int)) k))]) Tryz.func130 rfl (by kernel_rfl) ?nn) ?_)
  case nn => simp only [AllP, and_true, e2]; omega
  rw [e2]
  exact fun w u h => sv_of (x := .frac _ _) ((sv_to h : VF w _ _ u).mono (by omega)) _

end Go.Proofs.YtagciepnhjbopaaGreatDoor

namespace Go.Proofs.YtagciepnhjbopaaGreatDoor
open Go.RowKit En

abbrev okQ (q : Rat) : Av := .tup [(true, [.sem (.rat q)]), (false, [.lit (.int .i64 0)])]

abbrev noQ (e : Int) : Av := .tup [(true, [.lit (.bool false), .lit (.slice none 0 0), .lit (.slice none 0 0)]), (false, [.lit (.int .i64 e)])]

abbrev fnV (f : FuncId) : Value := .func (.func f) #[] #[]

abbrev k_fup : List Pa → Option (List Prop × Av)
  | [.f L q, .l (.int .i64 (.ofNat k))] => some ([L ≤ 65535, k ≤ 256], sv (.frac (2 * (2 * L + 18)) (upQ q k)))
  | _ => none

theorem e_fup (args : List Av) (obs : List Prop) (r : Av) : ent [.f, .l] k_fup args = some (obs, r) → (∀ p ∈ obs, p) → Cn 129 args r :=
  ent_ok (fun ps obs r h ho => by
    unfold k_fup at h
    split at h
    · cases h; exact fup _ _ _ (ho _ (by simp)) (ho _ (by simp))
    · cases h) args obs r

abbrev k_fnearest : List Pa → Option (List Prop × Av)
  | [.f L q, .l (.int .i64 (.ofNat k))] => some ([L ≤ 32767, k ≤ 256], sv (.frac (3 * L + 100) (nearQ q k)))
  | _ => none

theorem e_fnearest (args : List Av) (obs : List Prop) (r : Av) : ent [.f, .l] k_fnearest args = some (obs, r) → (∀ p ∈ obs, p) → Cn 130 args r :=
  ent_ok (fun ps obs r h ho => by
    unfold k_fnearest at h
    split at h
    · cases h; exact fnearest _ _ _ (ho _ (by simp)) (ho _ (by simp))
    · cases h) args obs r

def tR3 : List Ent := (129, ent [.f, .l] k_fup) :: (130, ent [.f, .l] k_fnearest) :: tR2

theorem tR3_ok : EntsOk tR3 := ⟨e_fup, e_fnearest, tR2_ok⟩

theorem rnd_down (L k : Nat) (q : Rat) (_hL : L ≤ 65535) (_hk : k ≤ 256) : Cp 125 [.r L q, .l (.int .i64 k), .l (fnV 126)] (okQ (downQ q k)) :=
  cp_of (wk tR3_ok (ds := [some false, none, some false]) (fuel := 40) (obs := [false = false, decide ((↑k : Int) > (256 : Int)) = false, L ≤ 262143, 2 * L + 3 ≤ 262143, k ≤ 256, 2 * L + 3 + 18 ≤ 524287]) (r := AV.tup [(true, [Seg.sem (Kn.rat (downQ q k))]), (false, [Seg.lit (Value.int IntKind.i64 (0 : Int))])]) Tryz.func125 rfl (by kernel_rfl) (by simp only [AllP, and_true, true_and, decide_eq_false_iff_not]; omega))

theorem rnd_up (L k : Nat) (q : Rat) (_hL : L ≤ 16383) (_hk : k ≤ 256) : Cp 125 [.r L q, .l (.int .i64 k), .l (fnV 129)] (okQ (upQ q k)) :=
  cp_of (wk tR3_ok (ds := [some false, none, some false]) (fuel := 40) (obs := [false = false, decide ((↑k : Int) > (256 : Int)) = false, L ≤ 262143, 2 * L + 3 ≤ 65535, k ≤ 256, 2 * (2 * (2 * L + 3) + 18) ≤ 524287]) (r := AV.tup [(true, [Seg.sem (Kn.rat (upQ q k))]), (false, [Seg.lit (Value.int IntKind.i64 (0 : Int))])]) Tryz.func125 rfl (by kernel_rfl) (by simp only [AllP, and_true, true_and, decide_eq_false_iff_not]; omega))

theorem rnd_nearest (L k : Nat) (q : Rat) (_hL : L ≤ 8191) (_hk : k ≤ 256) : Cp 125 [.r L q, .l (.int .i64 k), .l (fnV 130)] (okQ (nearQ q k)) :=
  cp_of (wk tR3_ok (ds := [some false, none, some false]) (fuel := 40) (obs := [false = false, decide ((↑k : Int) > (256 : Int)) = false, L ≤ 262143, 2 * L + 3 ≤ 32767, k ≤ 256, 3 * (2 * L + 3) + 100 ≤ 524287]) (r := AV.tup [(true, [Seg.sem (Kn.rat (nearQ q k))]), (false, [Seg.lit (Value.int IntKind.i64 (0 : Int))])]) Tryz.func125 rfl (by kernel_rfl) (by simp only [AllP, and_true, true_and, decide_eq_false_iff_not]; omega))

abbrev k_rnd_down : List Pa → Option (List Prop × Av)
  | [.r L q, .l (.int .i64 (.ofNat k)), .l (.func (.func 126) ⟨[]⟩ ⟨[]⟩)] => some ([L ≤ 65535, k ≤ 256], okQ (downQ q k))
  | _ => none

theorem e_rnd_down (args : List Av) (obs : List Prop) (r : Av) : ent [.r, .l, .l] k_rnd_down args = some (obs, r) → (∀ p ∈ obs, p) → Cn 125 args r :=
  ent_ok (fun ps obs r h ho => by
    unfold k_rnd_down at h
    split at h
    · cases h; exact rnd_down _ _ _ (ho _ (by simp)) (ho _ (by simp))
    · cases h) args obs r

def tR_down : List Ent := [(125, ent [.r, .l, .l] k_rnd_down)]

theorem tR_down_ok : EntsOk tR_down := ⟨e_rnd_down, trivial⟩

theorem pDown (L k : Nat) (q : Rat) (_hL : L ≤ 65535) (_hk : k ≤ 256) : Cp 46 [.r L q, .l (.int .i64 k)] (okQ (downQ q k)) :=
  cp_of (wk tR_down_ok (ds := []) (fuel := 40) (obs := [L ≤ 65535, k ≤ 256]) (r := AV.tup [(true, [Seg.sem (Kn.rat (downQ q k))]), (false, [Seg.lit (Value.int IntKind.i64 (0 : Int))])]) Tryz.func46 rfl (by kernel_rfl) (by simp only [AllP, and_true]; omega))

abbrev k_rnd_up : List Pa → Option (List Prop × Av)
  | [.r L q, .l (.int .i64 (.ofNat k)), .l (.func (.func 129) ⟨[]⟩ ⟨[]⟩)] => some ([L ≤ 16383, k ≤ 256], okQ (upQ q k))
  | _ => none

theorem e_rnd_up (args : List Av) (obs : List Prop) (r : Av) : ent [.r, .l, .l] k_rnd_up args = some (obs, r) → (∀ p ∈ obs, p) → Cn 125 args r :=
  ent_ok (fun ps obs r h ho => by
    unfold k_rnd_up at h
    split at h
    · cases h; exact rnd_up _ _ _ (ho _ (by simp)) (ho _ (by simp))
    · cases h) args obs r

def tR_up : List Ent := [(125, ent [.r, .l, .l] k_rnd_up)]

theorem tR_up_ok : EntsOk tR_up := ⟨e_rnd_up, trivial⟩

theorem pUp (L k : Nat) (q : Rat) (_hL : L ≤ 16383) (_hk : k ≤ 256) : Cp 48 [.r L q, .l (.int .i64 k)] (okQ (upQ q k)) :=
  cp_of (wk tR_up_ok (ds := []) (fuel := 40) (obs := [L ≤ 16383, k ≤ 256]) (r := AV.tup [(true, [Seg.sem (Kn.rat (upQ q k))]), (false, [Seg.lit (Value.int IntKind.i64 (0 : Int))])]) Tryz.func48 rfl (by kernel_rfl) (by simp only [AllP, and_true]; omega))

abbrev k_rnd_nearest : List Pa → Option (List Prop × Av)
  | [.r L q, .l (.int .i64 (.ofNat k)), .l (.func (.func 130) ⟨[]⟩ ⟨[]⟩)] => some ([L ≤ 8191, k ≤ 256], okQ (nearQ q k))
  | _ => none

theorem e_rnd_nearest (args : List Av) (obs : List Prop) (r : Av) : ent [.r, .l, .l] k_rnd_nearest args = some (obs, r) → (∀ p ∈ obs, p) → Cn 125 args r :=
  ent_ok (fun ps obs r h ho => by
    unfold k_rnd_nearest at h
    split at h
    · cases h; exact rnd_nearest _ _ _ (ho _ (by simp)) (ho _ (by simp))
    · cases h) args obs r

def tR_nearest : List Ent := [(125, ent [.r, .l, .l] k_rnd_nearest)]

theorem tR_nearest_ok : EntsOk tR_nearest := ⟨e_rnd_nearest, trivial⟩

theorem pNearest (L k : Nat) (q : Rat) (_hL : L ≤ 8191) (_hk : k ≤ 256) : Cp 50 [.r L q, .l (.int .i64 k)] (okQ (nearQ q k)) :=
  cp_of (wk tR_nearest_ok (ds := []) (fuel := 40) (obs := [L ≤ 8191, k ≤ 256]) (r := AV.tup [(true, [Seg.sem (Kn.rat (nearQ q k))]), (false, [Seg.lit (Value.int IntKind.i64 (0 : Int))])]) Tryz.func50 rfl (by kernel_rfl) (by simp only [AllP, and_true]; omega))

noncomputable def tS0 : List Ent := leafs2 ++ tQ4

theorem tS0_ok : EntsOk tS0 := ents_append leafs2_ok tQ4_ok

end Go.Proofs.YtagciepnhjbopaaGreatDoor

namespace Go.Proofs.YtagciepnhjbopaaGreatDoor
open Go.RowKit En

noncomputable def tD1 : List Ent := [(104, ent [.cd, .cd] k_dsame)]

theorem tD1_ok : EntsOk tD1 := ⟨e_dsame, trivial⟩

theorem isame (a b : Int) : Cp 53 [.cz a, .cz b] (avB (decide (a = b))) := by
  by_cases h : decide (a < 0) = decide (b < 0)
  · rw [show decide (a = b) = decide (a.natAbs = b.natAbs) by
      rw [decide_eq_decide] at h ⊢
      omega]
    exact cp_of (wk tD1_ok (ds := [none, none, none, some true]) (fuel := 40) (obs := [(decide (a < (0 : Int)) == decide (b < (0 : Int))) = true]) (r := AV.val false [Seg.lit (Value.bool (decide (Int.natAbs a = Int.natAbs b)))]) Tryz.func53 rfl (by kernel_rfl) ⟨by rw [h]; simp, trivial⟩)
  · rw [show decide (a = b) = false by
      rw [decide_eq_false_iff_not]
      intro e
      rw [e] at h
      exact h rfl]
    exact cp_of (wk tD1_ok (ds := [none, none, none, some false]) (fuel := 40) (obs := [(decide (a < (0 : Int)) == decide (b < (0 : Int))) = false]) (r := AV.val false [Seg.lit (Value.bool false)]) Tryz.func53 rfl (by kernel_rfl) ⟨by simpa using h, trivial⟩)

abbrev k_isame : List Pa → Option (List Prop × Av)
  | [.cz a, .cz b] => some ([], avB (decide (a = b)))
  | _ => none

theorem e_isame (args : List Av) (obs : List Prop) (r : Av) : ent [.cz, .cz] k_isame args = some (obs, r) → (∀ p ∈ obs, p) → Cn 53 args r :=
  ent_ok (fun ps obs r h ho => by
    unfold k_isame at h
    split at h
    · cases h; exact isame _ _
    · cases h) args obs r

noncomputable def tT0 : List Ent := (53, ent [.cz, .cz] k_isame) :: tD1

theorem tT0_ok : EntsOk tT0 := ⟨e_isame, tD1_ok⟩

theorem rat_eq_iff (q s : Rat) : q = s ↔ q.num = s.num ∧ q.den = s.den := ⟨fun e => by rw [e]; exact ⟨rfl, rfl⟩, fun ⟨h1, h2⟩ => Rat.ext h1 h2⟩

theorem qsame (q s : Rat) : Cp 18 [.cq q, .cq s] (avB (decide (q = s))) := by
  by_cases h : q.num = s.num
  · rw [show decide (q = s) = decide (q.den = s.den) by rw [decide_eq_decide, rat_eq_iff]; exact ⟨fun h => h.2, fun h' => ⟨h, h'⟩⟩]
    exact cp_of (wk tT0_ok (ds := [none, some true]) (fuel := 40) (obs := [decide (Rat.num q = Rat.num s) = true]) (r := AV.val false [Seg.lit (Value.bool (decide (Rat.den q = Rat.den s)))]) Tryz.func18 rfl (by kernel_rfl) ⟨decide_eq_true h, trivial⟩)
  · rw [show decide (q = s) = false by rw [decide_eq_false_iff_not, rat_eq_iff]; exact fun h' => h h'.1]
    exact cp_of (wk tT0_ok (ds := [none, some false]) (fuel := 40) (obs := [decide (Rat.num q = Rat.num s) = false]) (r := AV.val false [Seg.lit (Value.bool false)]) Tryz.func18 rfl (by kernel_rfl) ⟨decide_eq_false h, trivial⟩)

theorem same00 : Cn 18 [.val true [.lit (.bool false), .lit (.slice none 0 0), .lit (.slice none 0 0)], .val true [.lit (.bool false), .lit (.slice none 0 0), .lit (.slice none 0 0)]] (avB true) :=
  (wk tT0_ok (ds := [none, some true, none, some true]) (fuel := 40) (obs := [decide ((↑0 : Int) = (↑0 : Int)) = true, decide (0 = 0) = true]) (r := AV.val false [Seg.lit (Value.bool true)]) Tryz.func18 rfl (by kernel_rfl) ⟨rfl, rfl, trivial⟩)

abbrev k_qsame : List Av → Option (List Prop × Av)
  | [.val true [.sem (.rat q)], .val true [.sem (.rat s)]] => some ([], avB (decide (q = s)))
  | [.val true [.lit (.bool false), .lit (.slice none 0 0), .lit (.slice none 0 0)], .val true [.lit (.bool false), .lit (.slice none 0 0), .lit (.slice none 0 0)]] => some ([], avB true)
  | _ => none

theorem e_qsame (args : List Av) (obs : List Prop) (r : Av) (h : k_qsame args = some (obs, r)) (_ho : ∀ p ∈ obs, p) : Cn 18 args r := by
  unfold k_qsame at h
  split at h
  · cases h
    obtain ⟨h1, h2⟩ := qsame _ _
    exact ⟨h1, fun S w vs hE hS hv => h2 S w vs hE hS (avs_pas (ps := [.cq _, .cq _]) hv)⟩
  · cases h; exact same00
  · cases h

noncomputable def tU0 : List Ent := leafs2 ++ tP2

theorem tU0_ok : EntsOk tU0 := ents_append leafs2_ok tP2_ok

theorem cat_le {a b : ByteArray} (_h1 : a.size ≤ 9000) (_h2 : b.size ≤ 9000) : catOk a b := by
  show ((a.size + b.size : Nat) : Int) ≤ IntKind.i64.max
  rw [show IntKind.i64.max = 9223372036854775807 by decide]
  omega

theorem pformat (L : Nat) (q : Rat) (_hL : L ≤ 65535) (hn : q.num.natAbs < pB 10) (hd : q.den < pB 10) : Cp 58 [.r L q] (.val false [.lit (.string (qtx q))]) := by
  have h1 := itx_le (decide (q.num < 0)) hn
  have h2 := itx_le false hd
  unfold qtx
  by_cases h : q.den = 1
  · rw [if_pos h]
    exact cp_of (wk tU0_ok (ds := [some true]) (fuel := 40) (obs := [L ≤ 262143, 2 * L + 3 ≤ 524287, Int.natAbs (Rat.num q) < (4294967296 : Nat) ^ 10, decide (Rat.den q = 1) = true]) (r := AV.val false [Seg.lit (Value.string (itx (decide (Rat.num q < (0 : Int))) (Int.natAbs (Rat.num q))))]) Tryz.func58 rfl (by kernel_rfl) ⟨by omega, by omega, hn, decide_eq_true h, trivial⟩)
  · rw [if_neg h]
    exact cp_of (wk tU0_ok (ds := [some false]) (fuel := 40) (obs := [L ≤ 262143, 2 * L + 3 ≤ 524287, Int.natAbs (Rat.num q) < (4294967296 : Nat) ^ 10, decide (Rat.den q = 1) = false, catOk (itx (decide (Rat.num q < (0 : Int))) (Int.natAbs (Rat.num q))) ({ data := #[47] } : ByteArray), Int.natAbs (↑(Rat.den q) : Int) < (4294967296 : Nat) ^ 10, catOk (itx (decide (Rat.num q < (0 : Int))) (Int.natAbs (Rat.num q)) ++ ({ data := #[47] } : ByteArray)) (itx (decide ((↑(Rat.den q) : Int) < (0 : Int))) (Int.natAbs (↑(Rat.den q) : Int)))]) (r := AV.val false [Seg.lit (Value.string (itx (decide (Rat.num q < (0 : Int))) (Int.natAbs (Rat.num q)) ++ ({ data := #[47] } : ByteArray) ++ itx (decide ((↑(Rat.den q) : Int) < (0 : Int))) (Int.natAbs (↑(Rat.den q) : Int))))]) Tryz.func58 rfl (by kernel_rfl) ⟨by omega, by omega, hn, decide_eq_false h, cat_le (by omega) (by decide), hd, cat_le (by rw [ByteArray.size_append]; have h3 : ({ data := #[47] } : ByteArray).size = 1 := rfl; omega) (by exact Nat.le_trans h2 (by decide)), trivial⟩)

noncomputable def tU1 : List Ent := (19, k_valid) :: leafs2 ++ tP2

theorem tU1_ok : EntsOk tU1 := ⟨e_valid, ents_append leafs2_ok tP2_ok⟩

theorem parse24' : Cp 56 [.l (.string { data := #[50, 47, 52] })] (noQ 6) := by
  have e0 : ({ data := #[50, 47, 52] } : ByteArray).extract 0 1 = { data := #[50] } := by decide +kernel
  have e1 : ({ data := #[50, 47, 52] } : ByteArray).extract (1 + 1) 3 = { data := #[52] } := by decide +kernel
  have g2 : Good ({ data := #[50] } : ByteArray) := good_digit rfl (by decide +kernel) (by decide +kernel)
  have g4 : Good ({ data := #[52] } : ByteArray) := good_digit rfl (by decide +kernel) (by decide +kernel)
  obtain ⟨a1, a2⟩ := ipe_good g2 (by decide +kernel)
  have n2 : nP ({ data := #[50] } : ByteArray) = 2 := by rw [nP_good g2]; decide +kernel
  have n4 : nP ({ data := #[52] } : ByteArray) = 4 := by rw [nP_good g4]; decide +kernel
  rw [n2] at a2
  refine cp_of (wk tU1_ok (ds := [none, none, none, none, none, none, none, some false, none, some false]) (fuel := 40) (obs := [({ data := #[47] } : ByteArray) = { data := #[47] }, Lib.indexByte [50, 47, 52] 47 = ((Lib.indexByte [50, 47, 52] 47).toNat : Int), (Lib.indexByte [50, 47, 52] 47).toNat + 1 ≤ 3, 3 ≤ 8192, 1 ≤ 4096, ipe { data := #[50] } = 0, 1 ≤ 4096, pre { data := #[52] } = 0, decide (nP { data := #[52] } = 1) = false, nP { data := #[52] } ≠ 0, nz (zP { data := #[50] }) ≤ 131071, (dg (nP { data := #[52] })).length ≤ 131071, decide (nP { data := #[52] } ≠ 0 ∧ Nat.gcd (zP { data := #[50] }).natAbs (nP { data := #[52] }) = 1) = false]) Tryz.func56 rfl (by kernel_rfl) ⟨rfl, by decide +kernel, by decide +kernel, by decide, by decide, a1, by decide, pre_good g4, ?_, ?_, ?_, ?_, ?_, trivial⟩)
  · rw [n4]; decide
  · rw [n4]; decide
  · rw [a2]; unfold nz; exact Nat.le_trans (dg_len_le (k := 1) (by rw [pB_one]; decide)) (by decide)
  · rw [n4]; exact Nat.le_trans (dg_len_le (k := 1) (by rw [pB_one]; decide)) (by decide)
  · rw [a2, n4]; decide +kernel

abbrev k_pfloor : List Pa → Option (List Prop × Av)
  | [.r L q] => some ([L ≤ 65535], sv (.int q.floor))
  | _ => none

theorem e_pfloor (args : List Av) (obs : List Prop) (r : Av) : ent [.r] k_pfloor args = some (obs, r) → (∀ p ∈ obs, p) → Cn 54 args r :=
  ent_ok (fun ps obs r h ho => by
    unfold k_pfloor at h
    split at h
    · cases h; exact pfloor _ _ (ho _ (by simp))
    · cases h) args obs r

abbrev k_pfrac : List Pa → Option (List Prop × Av)
  | [.l (.int .i64 x), .l (.int .i64 y)] => some ([-9223372036854775808 ≤ x, x ≤ 9223372036854775807, -9223372036854775808 ≤ y, y ≤ 9223372036854775807], sv (.rat (Rat.divInt x y)))
  | _ => none

theorem e_pfrac (args : List Av) (obs : List Prop) (r : Av) : ent [.l, .l] k_pfrac args = some (obs, r) → (∀ p ∈ obs, p) → Cn 45 args r :=
  ent_ok (fun ps obs r h ho => by
    unfold k_pfrac at h
    split at h
    · cases h; exact pfrac _ _ (ho _ (by simp)) (ho _ (by simp)) (ho _ (by simp)) (ho _ (by simp))
    · cases h) args obs r

abbrev k_pDown : List Pa → Option (List Prop × Av)
  | [.r L q, .l (.int .i64 (.ofNat k))] => some ([L ≤ 65535, k ≤ 256], okQ (downQ q k))
  | _ => none

theorem e_pDown (args : List Av) (obs : List Prop) (r : Av) : ent [.r, .l] k_pDown args = some (obs, r) → (∀ p ∈ obs, p) → Cn 46 args r :=
  ent_ok (fun ps obs r h ho => by
    unfold k_pDown at h
    split at h
    · cases h; exact pDown _ _ _ (ho _ (by simp)) (ho _ (by simp))
    · cases h) args obs r

abbrev k_pUp : List Pa → Option (List Prop × Av)
  | [.r L q, .l (.int .i64 (.ofNat k))] => some ([L ≤ 16383, k ≤ 256], okQ (upQ q k))
  | _ => none

theorem e_pUp (args : List Av) (obs : List Prop) (r : Av) : ent [.r, .l] k_pUp args = some (obs, r) → (∀ p ∈ obs, p) → Cn 48 args r :=
  ent_ok (fun ps obs r h ho => by
    unfold k_pUp at h
    split at h
    · cases h; exact pUp _ _ _ (ho _ (by simp)) (ho _ (by simp))
    · cases h) args obs r

abbrev k_pNear : List Pa → Option (List Prop × Av)
  | [.r L q, .l (.int .i64 (.ofNat k))] => some ([L ≤ 8191, k ≤ 256], okQ (nearQ q k))
  | _ => none

theorem e_pNear (args : List Av) (obs : List Prop) (r : Av) : ent [.r, .l] k_pNear args = some (obs, r) → (∀ p ∈ obs, p) → Cn 50 args r :=
  ent_ok (fun ps obs r h ho => by
    unfold k_pNear at h
    split at h
    · cases h; exact pNearest _ _ _ (ho _ (by simp)) (ho _ (by simp))
    · cases h) args obs r

abbrev k_pformat : List Pa → Option (List Prop × Av)
  | [.r L q] => some ([L ≤ 65535, q.num.natAbs < pB 10, q.den < pB 10], .val false [.lit (.string (qtx q))])
  | _ => none

theorem e_pformat (args : List Av) (obs : List Prop) (r : Av) : ent [.r] k_pformat args = some (obs, r) → (∀ p ∈ obs, p) → Cn 58 args r :=
  ent_ok (fun ps obs r h ho => by
    unfold k_pformat at h
    split at h
    · cases h; exact pformat _ _ (ho _ (by simp)) (ho _ (by simp)) (ho _ (by simp))
    · cases h) args obs r

abbrev k_p24 : List Pa → Option (List Prop × Av)
  | [.l (.string { data := ⟨[50, 47, 52]⟩ })] => some ([], noQ 6)
  | _ => none

theorem e_p24 (args : List Av) (obs : List Prop) (r : Av) : ent [.l] k_p24 args = some (obs, r) → (∀ p ∈ obs, p) → Cn 56 args r :=
  ent_ok (fun ps obs r h ho => by
    unfold k_p24 at h
    split at h
    · cases h; exact parse24'
    · cases h) args obs r

noncomputable def tV0 : List Ent := (54, ent [.r] k_pfloor) :: (45, ent [.l, .l] k_pfrac) :: (46, ent [.r, .l] k_pDown) :: (48, ent [.r, .l] k_pUp) :: (50, ent [.r, .l] k_pNear) :: (58, ent [.r] k_pformat) :: (56, ent [.l] k_p24) :: (53, ent [.cz, .cz] k_isame) :: (18, k_qsame) :: tS0

theorem tV0_ok : EntsOk tV0 := ⟨e_pfloor, e_pfrac, e_pDown, e_pUp, e_pNear, e_pformat, e_p24, e_isame, e_qsame, tS0_ok⟩

theorem awake03 : Cp 15 [] (avB true) :=
  cp_of (wk tV0_ok (ds := [none, none, none, none, none, none, none, none, none, some true, none, none, some true, none, none, some true, none, none, some true]) (fuel := 40) (obs := [(-9223372036854775808 : Int) ≤ (1 : Int), (1 : Int) ≤ (9223372036854775807 : Int), (-9223372036854775808 : Int) ≤ (3 : Int), (3 : Int) ≤ (9223372036854775807 : Int), nq (Rat.divInt (1 : Int) (3 : Int)) ≤ 65535, 2 ≤ 256, nq (Rat.divInt (1 : Int) (3 : Int)) ≤ 16383, 2 ≤ 256, (-9223372036854775808 : Int) ≤ (1 : Int), (1 : Int) ≤ (9223372036854775807 : Int), (-9223372036854775808 : Int) ≤ (4 : Int), (4 : Int) ≤ (9223372036854775807 : Int), decide (downQ (Rat.divInt (1 : Int) (3 : Int)) (2) = Rat.divInt (1 : Int) (4 : Int)) = true, (-9223372036854775808 : Int) ≤ (1 : Int), (1 : Int) ≤ (9223372036854775807 : Int), (-9223372036854775808 : Int) ≤ (2 : Int), (2 : Int) ≤ (9223372036854775807 : Int), decide (upQ (Rat.divInt (1 : Int) (3 : Int)) (2) = Rat.divInt (1 : Int) (2 : Int)) = true, (-9223372036854775808 : Int) ≤ (6 : Int), (6 : Int) ≤ (9223372036854775807 : Int), (-9223372036854775808 : Int) ≤ (-4 : Int), (-4 : Int) ≤ (9223372036854775807 : Int), nq (Rat.divInt (6 : Int) (-4 : Int)) ≤ 65535, Int.natAbs (Rat.num (Rat.divInt (6 : Int) (-4 : Int))) < (4294967296 : Nat) ^ 10, Rat.den (Rat.divInt (6 : Int) (-4 : Int)) < (4294967296 : Nat) ^ 10, (ByteArray.toList (qtx (Rat.divInt (6 : Int) (-4 : Int))) == ByteArray.toList ({ data := #[45, 51, 47, 50] } : ByteArray)) = true, (-9223372036854775808 : Int) ≤ (-1 : Int), (-1 : Int) ≤ (9223372036854775807 : Int), (-9223372036854775808 : Int) ≤ (2 : Int), (2 : Int) ≤ (9223372036854775807 : Int), nq (Rat.divInt (-1 : Int) (2 : Int)) ≤ 65535, (-9223372036854775808 : Int) ≤ (-1 : Int), (-1 : Int) ≤ (9223372036854775807 : Int), decide (Rat.floor (Rat.divInt (-1 : Int) (2 : Int)) = (-1 : Int)) = true]) (r := AV.val false [Seg.lit (Value.bool true)]) Tryz.func15 rfl (by kernel_rfl) (by simp only [AllP, and_true]; (repeat' apply And.intro) <;> first | decide | exact Nat.le_trans (nq_small (by decide +kernel) (by decide +kernel)) (by decide) | decide +kernel))

end Go.Proofs.YtagciepnhjbopaaGreatDoor

namespace Go.Proofs.YtagciepnhjbopaaGreatDoor
open Go.RowKit En

abbrev k_awake : List Pa → Option (List Prop × Av)
  | [] => some ([], avB true)
  | _ => none

theorem e_awake (args : List Av) (obs : List Prop) (r : Av) : ent [] k_awake args = some (obs, r) → (∀ p ∈ obs, p) → Cn 15 args r :=
  ent_ok (fun ps obs r h ho => by
    unfold k_awake at h
    split at h
    · cases h; exact awake03
    · cases h) args obs r

theorem hide_none (w : World) : hide (fun _ => False) w = w := by
  have h : (hide (fun _ => False) w).heap = w.heap := by
    unfold hide
    apply Array.ext
    · simp
    · intro i h1 h2; simp
  cases w
  unfold hide at h ⊢
  simp only at h
  simp only [h]

theorem law_calls {f : FuncId} {args : List Av} {b : Bool} (h : Cn f args (avB b)) {w : World} {vs : List Value} (ht : Tab w) (hv : avs Dn none' w args vs) : Calls Tryz.prog f vs.toArray w (RB b w) := by
  refine (h.2 (fun _ => False) w vs (by rw [hide_none]; exact ht) (fun _ h => h.elim) (by rw [hide_none]; exact hv)).mono ?_
  rintro e w' ⟨u, rfl, h1, h2⟩
  rw [hide_none] at h1
  have h1 : u = .bool b := vl_lit_inv (D := Dn) h1
  subst h1
  exact ⟨rfl, h2.os, h2.tape, h2.output, h2.size, fun k h _ => h2.block k h⟩

end Go.Proofs.YtagciepnhjbopaaGreatDoor
