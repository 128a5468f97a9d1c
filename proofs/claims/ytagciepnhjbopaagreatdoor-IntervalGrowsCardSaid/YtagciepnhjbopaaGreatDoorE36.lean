/- What the statements of this claim stand on: of Aw3, Lw3, Leaf2, Q9, Q10, Q11, what they name -/
import Derived.Test.YtagciepnhjbopaaGreatDoorE11
import Derived.Test.YtagciepnhjbopaaGreatDoorE27
import Derived.Test.YtagciepnhjbopaaGreatDoorE28
import Derived.Test.YtagciepnhjbopaaGreatDoorE29
import Derived.Test.YtagciepnhjbopaaGreatDoorE32
import Derived.Test.YtagciepnhjbopaaGreatDoorE33
import Derived.Test.YtagciepnhjbopaaGreatDoorE34
import Derived.Test.YtagciepnhjbopaaGreatDoorE35

namespace Go.Proofs.YtagciepnhjbopaaGreatDoor
open Go.RowKit

theorem nq_small {r : Rat} (h : r.num.natAbs < 4294967296) (h2 : r.den < 4294967296) : nq r ≤ 2 := by
  unfold nq nz
  have h3 := dg_len_le (n := r.num.natAbs) (k := 1) (by rw [pB_one]; exact h)
  have h4 := dg_len_le (n := r.den) (k := 1) (by rw [pB_one]; exact h2)
  omega

end Go.Proofs.YtagciepnhjbopaaGreatDoor

namespace Go.Proofs.YtagciepnhjbopaaGreatDoor
open Go.RowKit

theorem nq_vr {w : World} {r : Rat} {u : Value} (h : VR w 4 r u) : nq r ≤ 9 := by
  obtain ⟨z1, d1, hd1, hm1, hz1, hy1, p1⟩ := h.parts
  exact nq_le hd1 hm1 hz1 hy1

set_option maxRecDepth 100000 in
set_option maxHeartbeats 1000000 in
theorem smallrat_any (g : Bool) (p q : Option Addr) (n c m d : Nat) (w : World) : Calls Tryz.prog 14 #[rw' g p n c q m d] w (RB (decide (n ≤ 4) && decide (m ≤ 4)) w) := by
  by_cases h1 : n ≤ 4
  · have t1 : decide ((n : Int) ≤ 4) = true := decide_eq_true (by omega)
    by_cases h2 : m ≤ 4
    · have t2 : decide ((m : Int) ≤ 4) = true := decide_eq_true (by omega)
      rw [decide_eq_true h1, decide_eq_true h2]
      go_enter Tryz.func14, Tryz.ntmps14
      go_wp2_with fail
      go_ret
      exact ⟨rfl, (Fr.refl _ _).alloc _⟩
    · have t2 : decide ((m : Int) ≤ 4) = false := decide_eq_false (by omega)
      rw [decide_eq_true h1, decide_eq_false h2]
      go_enter Tryz.func14, Tryz.ntmps14
      go_wp2_with fail
      go_ret
      exact ⟨rfl, (Fr.refl _ _).alloc _⟩
  · have t1 : decide ((n : Int) ≤ 4) = false := decide_eq_false (by omega)
    rw [decide_eq_false h1]
    go_enter Tryz.func14, Tryz.ntmps14
    go_wp2_with fail
    go_ret
    exact ⟨rfl, (Fr.refl _ _).alloc _⟩

end Go.Proofs.YtagciepnhjbopaaGreatDoor

namespace Go.Proofs.YtagciepnhjbopaaGreatDoor
open Go.RowKit En

theorem dg_inj' {x y : Nat} : decide (dg x = dg y) = decide (x = y) := by
  by_cases h : x = y
  · rw [h]; simp
  · rw [decide_eq_false h, decide_eq_false fun e => h (dg_inj e)]

abbrev k_dsame : List Pa → Option (List Prop × Av) := fun | [.cd x, .cd y] => some ([], avB (decide (x = y))) | _ => none

theorem e_dsame (args : List Av) (obs : List Prop) (r : Av) : ent [.cd, .cd] k_dsame args = some (obs, r) → (∀ p ∈ obs, p) → Cn 104 args r :=
  ent_ok (fun ps obs r h ho => by
    unfold k_dsame at h
    split at h
    case h_2 => cases h
    rename_i x y
    cases h
    refine cp_leaf ⟨_, Tryz.func104, rfl, rfl⟩ fun w vs ht hv => ?_
    obtain ⟨v0, _, rfl, h0, ⟨v1, _, rfl, h1, rfl⟩⟩ := hv
    obtain ⟨p, c, rfl, s⟩ := h0
    obtain ⟨p', c', rfl, s'⟩ := h1
    exact (rsame_e (by exact dg_inj') s s').mono fun _ _ h => rb_sv h) args obs r

abbrev k_mmod : List Pa → Option (List Prop × Av) := fun | [.l (.int .i64 x), .l (.int .i64 m)] => some ([1 ≤ m, m ≤ 1000000, -9223372036854775808 ≤ x, x ≤ 9223372036854775807], avI (x % m)) | _ => none

theorem e_mmod (args : List Av) (obs : List Prop) (r : Av) : ent [.l, .l] k_mmod args = some (obs, r) → (∀ p ∈ obs, p) → Cn 40 args r :=
  ent_ok (fun ps obs r h ho => by
    unfold k_mmod at h
    split at h
    case h_2 => cases h
    rename_i x m
    cases h
    refine cp_leaf ⟨_, Tryz.func40, rfl, rfl⟩ fun w vs ht hv => ?_
    obtain ⟨v0, _, rfl, h0, ⟨v1, _, rfl, h1, rfl⟩⟩ := hv
    have h0 : v0 = _ := h0
    subst h0
    have h1 : v1 = _ := h1
    subst h1
    refine (mod_any x m w (ho _ (by simp)) (ho _ (by simp)) (ho _ (by simp)) (ho _ (by simp))).mono ?_
    rintro e w' ⟨rfl, rfl⟩
    exact ⟨_, rfl, vl_lit _ _, Fr.refl _ _⟩) args obs r

abbrev k_small : List Av → Option (List Prop × Av)
  | [.val true [.lit (.bool g), .lit (.slice p n c), .lit (.slice q m d)]] => some ([g = g ∧ p = p ∧ c = c ∧ q = q ∧ d = d], avB (decide (n ≤ 4) && decide (m ≤ 4)))
  | [.val true [.sem (.rrat 4 r)]] => some ([r = r], avB true)
  | _ => none

theorem lits3 {w : World} {x y z v : Value} (h : (AV.val true [.lit x, .lit y, .lit z] : Av).holds Dn none' w v) : v = .agg #[x, y, z] := by
  obtain ⟨cs, ⟨a, b, rfl, h1, a', b', rfl, h2, a3, b3, rfl, h3, rfl⟩, h4, -⟩ := h
  have h1 : a = [x] := h1
  have h2 : a' = [y] := h2
  have h3 : a3 = [z] := h3
  subst h1; subst h2; subst h3
  exact h4

theorem e_small (args : List Av) (obs : List Prop) (r : Av) (h : k_small args = some (obs, r)) (_ho : ∀ p ∈ obs, p) : Cn 14 args r := by
  unfold k_small at h
  split at h
  · cases h
    refine leaf ⟨_, Tryz.func14, rfl, rfl⟩ fun w vs ht hv => ?_
    obtain ⟨v, _, rfl, h1, rfl⟩ := hv
    rw [lits3 h1]
    exact (smallrat_any _ _ _ _ _ _ _ w).mono fun _ _ h => rb_sv h
  · cases h
    refine leaf ⟨_, Tryz.func14, rfl, rfl⟩ fun w vs ht hv => ?_
    obtain ⟨v, _, rfl, h1, rfl⟩ := hv
    obtain ⟨g, p, n, c, X, q, m, d, Y, rfl, s, t, _, l, l'⟩ := sv_to (x := .rrat 4 _) h1
    refine (smallrat_any g p q n c m d w).mono fun _ _ h => rb_sv ?_
    rw [decide_eq_true l, decide_eq_true l'] at h
    exact h
  · cases h

theorem ents_append : ∀ {a b : List Ent}, EntsOk a → EntsOk b → EntsOk (a ++ b)
  | [], _, _, h => h
  | (_, _) :: _, _, ⟨h1, h2⟩, h => ⟨h1, ents_append h2 h⟩

end Go.Proofs.YtagciepnhjbopaaGreatDoor

namespace Go.Proofs.YtagciepnhjbopaaGreatDoor
open Go.RowKit En

noncomputable def tD1 : List Ent := [(104, ent [.cd, .cd] k_dsame)]

theorem tD1_ok : EntsOk tD1 := ⟨e_dsame, trivial⟩

theorem isame (a b : Int) : Cp 53 [.cz a, .cz b] (avB (decide (a = b))) := by
  by_cases h : decide (a < 0) = decide (b < 0)
  · rw [show decide (a = b) = decide (a.natAbs = b.natAbs) by
      rw [decide_eq_decide] at h ⊢
      omega]
    exact cp_of (wk tD1_ok (ds := [none, none, none, some true]) (fuel := 40) (obs := [(decide (a < (0 : Int)) == decide (b < (0 : Int))) = true]) (r := AV.val false [Seg.lit (Value.bool (decide (Int.natAbs a = Int.natAbs b)))]) Tryz.func53 rfl (by kernel_rfl) ⟨by rw [h]; simp, trivial⟩)
  · rw [show decide (a = b) = false by
      rw [decide_eq_false_iff_not]
      intro e
      rw [e] at h
      exact h rfl]
    exact cp_of (wk tD1_ok (ds := [none, none, none, some false]) (fuel := 40) (obs := [(decide (a < (0 : Int)) == decide (b < (0 : Int))) = false]) (r := AV.val false [Seg.lit (Value.bool false)]) Tryz.func53 rfl (by kernel_rfl) ⟨by simpa using h, trivial⟩)

abbrev k_isame : List Pa → Option (List Prop × Av)
  | [.cz a, .cz b] => some ([], avB (decide (a = b)))
  | _ => none

theorem e_isame (args : List Av) (obs : List Prop) (r : Av) : ent [.cz, .cz] k_isame args = some (obs, r) → (∀ p ∈ obs, p) → Cn 53 args r :=
  ent_ok (fun ps obs r h ho => by
    unfold k_isame at h
    split at h
    · cases h; exact isame _ _
    · cases h) args obs r

noncomputable def tT0 : List Ent := (53, ent [.cz, .cz] k_isame) :: tD1

theorem tT0_ok : EntsOk tT0 := ⟨e_isame, tD1_ok⟩

theorem rat_eq_iff (q s : Rat) : q = s ↔ q.num = s.num ∧ q.den = s.den := ⟨fun e => by rw [e]; exact ⟨rfl, rfl⟩, fun ⟨h1, h2⟩ => Rat.ext h1 h2⟩

theorem qsame (q s : Rat) : Cp 18 [.cq q, .cq s] (avB (decide (q = s))) := by
  by_cases h : q.num = s.num
  · rw [show decide (q = s) = decide (q.den = s.den) by rw [decide_eq_decide, rat_eq_iff]; exact ⟨fun h => h.2, fun h' => ⟨h, h'⟩⟩]
    exact cp_of (wk tT0_ok (ds := [none, some true]) (fuel := 40) (obs := [decide (Rat.num q = Rat.num s) = true]) (r := AV.val false [Seg.lit (Value.bool (decide (Rat.den q = Rat.den s)))]) Tryz.func18 rfl (by kernel_rfl) ⟨decide_eq_true h, trivial⟩)
  · rw [show decide (q = s) = false by rw [decide_eq_false_iff_not, rat_eq_iff]; exact fun h' => h h'.1]
    exact cp_of (wk tT0_ok (ds := [none, some false]) (fuel := 40) (obs := [decide (Rat.num q = Rat.num s) = false]) (r := AV.val false [Seg.lit (Value.bool false)]) Tryz.func18 rfl (by kernel_rfl) ⟨decide_eq_false h, trivial⟩)

theorem same00 : Cn 18 [.val true [.lit (.bool false), .lit (.slice none 0 0), .lit (.slice none 0 0)], .val true [.lit (.bool false), .lit (.slice none 0 0), .lit (.slice none 0 0)]] (avB true) :=
  (wk tT0_ok (ds := [none, some true, none, some true]) (fuel := 40) (obs := [decide ((↑0 : Int) = (↑0 : Int)) = true, decide (0 = 0) = true]) (r := AV.val false [Seg.lit (Value.bool true)]) Tryz.func18 rfl (by kernel_rfl) ⟨rfl, rfl, trivial⟩)

abbrev k_qsame : List Av → Option (List Prop × Av)
  | [.val true [.sem (.rat q)], .val true [.sem (.rat s)]] => some ([], avB (decide (q = s)))
  | [.val true [.lit (.bool false), .lit (.slice none 0 0), .lit (.slice none 0 0)], .val true [.lit (.bool false), .lit (.slice none 0 0), .lit (.slice none 0 0)]] => some ([], avB true)
  | _ => none

theorem e_qsame (args : List Av) (obs : List Prop) (r : Av) (h : k_qsame args = some (obs, r)) (_ho : ∀ p ∈ obs, p) : Cn 18 args r := by
  unfold k_qsame at h
  split at h
  · cases h
    obtain ⟨h1, h2⟩ := qsame _ _
    exact ⟨h1, fun S w vs hE hS hv => h2 S w vs hE hS (avs_pas (ps := [.cq _, .cq _]) hv)⟩
  · cases h; exact same00
  · cases h

abbrev k_ptrim : List Pa → Option (List Prop × Av)
  | [.r L q] => some ([L ≤ 65535], sv (.rat q))
  | _ => none

theorem e_ptrim (args : List Av) (obs : List Prop) (r : Av) : ent [.r] k_ptrim args = some (obs, r) → (∀ p ∈ obs, p) → Cn 25 args r :=
  ent_ok (fun ps obs r h ho => by
    unfold k_ptrim at h
    split at h
    · cases h; exact ptrim _ _ (ho _ (by simp))
    · cases h) args obs r

abbrev k_pfrac : List Pa → Option (List Prop × Av)
  | [.l (.int .i64 x), .l (.int .i64 y)] => some ([-9223372036854775808 ≤ x, x ≤ 9223372036854775807, -9223372036854775808 ≤ y, y ≤ 9223372036854775807], sv (.rat (Rat.divInt x y)))
  | _ => none

theorem e_pfrac (args : List Av) (obs : List Prop) (r : Av) : ent [.l, .l] k_pfrac args = some (obs, r) → (∀ p ∈ obs, p) → Cn 45 args r :=
  ent_ok (fun ps obs r h ho => by
    unfold k_pfrac at h
    split at h
    · cases h; exact pfrac _ _ (ho _ (by simp)) (ho _ (by simp)) (ho _ (by simp)) (ho _ (by simp))
    · cases h) args obs r

end Go.Proofs.YtagciepnhjbopaaGreatDoor

namespace Go.Proofs.YtagciepnhjbopaaGreatDoor
open Go.RowKit En

theorem hide_none (w : World) : hide (fun _ => False) w = w := by
  have h : (hide (fun _ => False) w).heap = w.heap := by
    unfold hide
    apply Array.ext
    · simp
    · intro i h1 h2; simp
  cases w
  unfold hide at h ⊢
  simp only at h
  simp only [h]

theorem law_calls {f : FuncId} {args : List Av} {b : Bool} (h : Cn f args (avB b)) {w : World} {vs : List Value} (ht : Tab w) (hv : avs Dn none' w args vs) : Calls Tryz.prog f vs.toArray w (RB b w) := by
  refine (h.2 (fun _ => False) w vs (by rw [hide_none]; exact ht) (fun _ h => h.elim) (by rw [hide_none]; exact hv)).mono ?_
  rintro e w' ⟨u, rfl, h1, h2⟩
  rw [hide_none] at h1
  have h1 : u = .bool b := vl_lit_inv (D := Dn) h1
  subst h1
  exact ⟨rfl, h2.os, h2.tape, h2.output, h2.size, fun k h _ => h2.block k h⟩

end Go.Proofs.YtagciepnhjbopaaGreatDoor

namespace Go.Proofs.YtagciepnhjbopaaGreatDoor
open Go.RowKit En

abbrev k_padd : List Pa → Option (List Prop × Av)
  | [.r L q, .r M s] => some ([L ≤ 16383, M ≤ 16383], sv (.rat (q + s)))
  | _ => none

theorem e_padd (args : List Av) (obs : List Prop) (r : Av) : ent [.r, .r] k_padd args = some (obs, r) → (∀ p ∈ obs, p) → Cn 31 args r :=
  ent_ok (fun ps obs r h ho => by
    unfold k_padd at h
    split at h
    · cases h; exact padd _ _ _ _ (ho _ (by simp)) (ho _ (by simp))
    · cases h) args obs r

abbrev k_psub : List Pa → Option (List Prop × Av)
  | [.r L q, .r M s] => some ([L ≤ 16383, M ≤ 16383], sv (.rat (q - s)))
  | _ => none

theorem e_psub (args : List Av) (obs : List Prop) (r : Av) : ent [.r, .r] k_psub args = some (obs, r) → (∀ p ∈ obs, p) → Cn 33 args r :=
  ent_ok (fun ps obs r h ho => by
    unfold k_psub at h
    split at h
    · cases h; exact psub _ _ _ _ (ho _ (by simp)) (ho _ (by simp))
    · cases h) args obs r

abbrev k_pmul : List Pa → Option (List Prop × Av)
  | [.r L q, .r M s] => some ([L ≤ 65535, M ≤ 65535], sv (.rat (q * s)))
  | _ => none

theorem e_pmul (args : List Av) (obs : List Prop) (r : Av) : ent [.r, .r] k_pmul args = some (obs, r) → (∀ p ∈ obs, p) → Cn 35 args r :=
  ent_ok (fun ps obs r h ho => by
    unfold k_pmul at h
    split at h
    · cases h; exact pmul _ _ _ _ (ho _ (by simp)) (ho _ (by simp))
    · cases h) args obs r

abbrev k_pabs : List Pa → Option (List Prop × Av)
  | [.r L q] => some ([L ≤ 65535], sv (.rat q.abs))
  | _ => none

theorem e_pabs (args : List Av) (obs : List Prop) (r : Av) : ent [.r] k_pabs args = some (obs, r) → (∀ p ∈ obs, p) → Cn 29 args r :=
  ent_ok (fun ps obs r h ho => by
    unfold k_pabs at h
    split at h
    · cases h; exact pabs _ _ (ho _ (by simp))
    · cases h) args obs r

abbrev k_pneg : List Pa → Option (List Prop × Av)
  | [.r L q] => some ([L ≤ 65535], sv (.rat (-q)))
  | _ => none

theorem e_pneg (args : List Av) (obs : List Prop) (r : Av) : ent [.r] k_pneg args = some (obs, r) → (∀ p ∈ obs, p) → Cn 27 args r :=
  ent_ok (fun ps obs r h ho => by
    unfold k_pneg at h
    split at h
    · cases h; exact pneg _ _ (ho _ (by simp))
    · cases h) args obs r

abbrev k_psign : List Pa → Option (List Prop × Av)
  | [.r L q] => some ([L ≤ 65535], avI q.num.sign)
  | _ => none

theorem e_psign (args : List Av) (obs : List Prop) (r : Av) : ent [.r] k_psign args = some (obs, r) → (∀ p ∈ obs, p) → Cn 21 args r :=
  ent_ok (fun ps obs r h ho => by
    unfold k_psign at h
    split at h
    · cases h; exact psign _ _ (ho _ (by simp))
    · cases h) args obs r

abbrev k_pcmp : List Pa → Option (List Prop × Av)
  | [.r L q, .r M s] => some ([L ≤ 65535, M ≤ 65535], avI (cmpQ q s))
  | _ => none

theorem e_pcmp (args : List Av) (obs : List Prop) (r : Av) : ent [.r, .r] k_pcmp args = some (obs, r) → (∀ p ∈ obs, p) → Cn 23 args r :=
  ent_ok (fun ps obs r h ho => by
    unfold k_pcmp at h
    split at h
    · cases h; exact pcmp _ _ _ _ (ho _ (by simp)) (ho _ (by simp))
    · cases h) args obs r

abbrev k_pdiv : List Pa → Option (List Prop × Av)
  | [.r L q, .r M s] => some ([L ≤ 65535, M ≤ 65535, s ≠ 0], .tup [(true, [.sem (.rat (q / s))]), (false, [.lit (.int .i64 0)])])
  | _ => none

theorem e_pdiv (args : List Av) (obs : List Prop) (r : Av) : ent [.r, .r] k_pdiv args = some (obs, r) → (∀ p ∈ obs, p) → Cn 16 args r :=
  ent_ok (fun ps obs r h ho => by
    unfold k_pdiv at h
    split at h
    · cases h; exact pdiv _ _ _ _ (ho _ (by simp)) (ho _ (by simp)) (ho _ (by simp))
    · cases h) args obs r

end Go.Proofs.YtagciepnhjbopaaGreatDoor
