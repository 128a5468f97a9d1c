/- What the statements of this claim stand on: of Q11, what they name -/
import Derived.Test.YtnokcaigpnejeaaGreatDoorM39
import Derived.Test.YtnokcaigpnejeaaGreatDoorM41

namespace Go.Proofs.YtnokcaigpnejeaaGreatDoor
open Go.RowKit En

abbrev k_pvalid : List Av → Option (List Prop × Av)
  | [.val true [.sem (.vrat L q b)]] => some ([L ≤ 65535, q = q], avB b)
  | _ => none

theorem e_pvalid (args : List Av) (obs : List Prop) (r : Av) (h : k_pvalid args = some (obs, r)) (ho : ∀ p ∈ obs, p) : Cn 19 args r := by
  unfold k_pvalid at h
  split at h
  case h_2 => cases h
  rename_i L q b
  cases h
  have hL : L ≤ 65535 := ho _ (by simp)
  refine leaf ⟨_, Tryz.func19, rfl, rfl⟩ fun w vs ht hv => ?_
  obtain ⟨v, _, rfl, h1, rfl⟩ := hv
  obtain ⟨g, p, n, c, X, q, m, d, Y, rfl, s, t, -, ⟨l, l'⟩, rfl⟩ := sv_to (x := .vrat L q b) h1
  exact (valid_any s t (by omega) (by omega)).mono fun _ _ h => rb_sv h

abbrev k_qvalid : List Av → Option (List Prop × Av)
  | [.val true [.sem (.vrat L q b)]] => some ([L ≤ 65535, q = q], avB b)
  | _ => none

theorem e_qvalid (args : List Av) (obs : List Prop) (r : Av) (h : k_qvalid args = some (obs, r)) (ho : ∀ p ∈ obs, p) : Cn 20 args r := by
  unfold k_qvalid at h
  split at h
  case h_2 => cases h
  rename_i L q b
  cases h
  have hL : L ≤ 65535 := ho _ (by simp)
  refine leaf ⟨_, Tryz.func20, rfl, rfl⟩ fun w vs ht hv => ?_
  obtain ⟨v, _, rfl, h1, rfl⟩ := hv
  obtain ⟨g, p, n, c, X, q, m, d, Y, rfl, s, t, -, ⟨l, l'⟩, rfl⟩ := sv_to (x := .vrat L q b) h1
  exact (rvalid_v s t l l' hL).mono fun _ _ h => rb_sv h

abbrev k_smallb : List Av → Option (List Prop × Av)
  | [.val true [.sem (.vrat 4 r b)]] => some ([r = r ∧ b = b], avB true)
  | _ => none

theorem e_smallb (args : List Av) (obs : List Prop) (r : Av) (h : k_smallb args = some (obs, r)) (_ho : ∀ p ∈ obs, p) : Cn 14 args r := by
  unfold k_smallb at h
  split at h
  case h_2 => cases h
  rename_i q b
  cases h
  refine leaf ⟨_, Tryz.func14, rfl, rfl⟩ fun w vs ht hv => ?_
  obtain ⟨v, _, rfl, h1, rfl⟩ := hv
  obtain ⟨g, p, n, c, X, q, m, d, Y, rfl, s, t, _, ⟨l, l'⟩, _⟩ := sv_to (x := .vrat 4 q b) h1
  refine (smallrat_any g p q n c m d w).mono fun _ _ h => rb_sv ?_
  rw [decide_eq_true l, decide_eq_true l'] at h
  exact h

abbrev k_padd : List Pa → Option (List Prop × Av)
  | [.r L q, .r M s] => some ([L ≤ 16383, M ≤ 16383], sv (.rat (q + s)))
  | _ => none

theorem e_padd (args : List Av) (obs : List Prop) (r : Av) : ent [.r, .r] k_padd args = some (obs, r) → (∀ p ∈ obs, p) → Cn 31 args r :=
  ent_ok (fun ps obs r h ho => by
    unfold k_padd at h
    split at h
    · cases h; exact padd _ _ _ _ (ho _ (by simp)) (ho _ (by simp))
    · cases h) args obs r

abbrev k_psub : List Pa → Option (List Prop × Av)
  | [.r L q, .r M s] => some ([L ≤ 16383, M ≤ 16383], sv (.rat (q - s)))
  | _ => none

theorem e_psub (args : List Av) (obs : List Prop) (r : Av) : ent [.r, .r] k_psub args = some (obs, r) → (∀ p ∈ obs, p) → Cn 33 args r :=
  ent_ok (fun ps obs r h ho => by
    unfold k_psub at h
    split at h
    · cases h; exact psub _ _ _ _ (ho _ (by simp)) (ho _ (by simp))
    · cases h) args obs r

abbrev k_pmul : List Pa → Option (List Prop × Av)
  | [.r L q, .r M s] => some ([L ≤ 65535, M ≤ 65535], sv (.rat (q * s)))
  | _ => none

theorem e_pmul (args : List Av) (obs : List Prop) (r : Av) : ent [.r, .r] k_pmul args = some (obs, r) → (∀ p ∈ obs, p) → Cn 35 args r :=
  ent_ok (fun ps obs r h ho => by
    unfold k_pmul at h
    split at h
    · cases h; exact pmul _ _ _ _ (ho _ (by simp)) (ho _ (by simp))
    · cases h) args obs r

abbrev k_pabs : List Pa → Option (List Prop × Av)
  | [.r L q] => some ([L ≤ 65535], sv (.rat q.abs))
  | _ => none

theorem e_pabs (args : List Av) (obs : List Prop) (r : Av) : ent [.r] k_pabs args = some (obs, r) → (∀ p ∈ obs, p) → Cn 29 args r :=
  ent_ok (fun ps obs r h ho => by
    unfold k_pabs at h
    split at h
    · cases h; exact pabs _ _ (ho _ (by simp))
    · cases h) args obs r

abbrev k_pneg : List Pa → Option (List Prop × Av)
  | [.r L q] => some ([L ≤ 65535], sv (.rat (-q)))
  | _ => none

theorem e_pneg (args : List Av) (obs : List Prop) (r : Av) : ent [.r] k_pneg args = some (obs, r) → (∀ p ∈ obs, p) → Cn 27 args r :=
  ent_ok (fun ps obs r h ho => by
    unfold k_pneg at h
    split at h
    · cases h; exact pneg _ _ (ho _ (by simp))
    · cases h) args obs r

abbrev k_psign : List Pa → Option (List Prop × Av)
  | [.r L q] => some ([L ≤ 65535], avI q.num.sign)
  | _ => none

theorem e_psign (args : List Av) (obs : List Prop) (r : Av) : ent [.r] k_psign args = some (obs, r) → (∀ p ∈ obs, p) → Cn 21 args r :=
  ent_ok (fun ps obs r h ho => by
    unfold k_psign at h
    split at h
    · cases h; exact psign _ _ (ho _ (by simp))
    · cases h) args obs r

abbrev k_pcmp : List Pa → Option (List Prop × Av)
  | [.r L q, .r M s] => some ([L ≤ 65535, M ≤ 65535], avI (cmpQ q s))
  | _ => none

theorem e_pcmp (args : List Av) (obs : List Prop) (r : Av) : ent [.r, .r] k_pcmp args = some (obs, r) → (∀ p ∈ obs, p) → Cn 23 args r :=
  ent_ok (fun ps obs r h ho => by
    unfold k_pcmp at h
    split at h
    · cases h; exact pcmp _ _ _ _ (ho _ (by simp)) (ho _ (by simp))
    · cases h) args obs r

abbrev k_pdiv : List Pa → Option (List Prop × Av)
  | [.r L q, .r M s] => some ([L ≤ 65535, M ≤ 65535, s ≠ 0], .tup [(true, [.sem (.rat (q / s))]), (false, [.lit (.int .i64 0)])])
  | _ => none

theorem e_pdiv (args : List Av) (obs : List Prop) (r : Av) : ent [.r, .r] k_pdiv args = some (obs, r) → (∀ p ∈ obs, p) → Cn 16 args r :=
  ent_ok (fun ps obs r h ho => by
    unfold k_pdiv at h
    split at h
    · cases h; exact pdiv _ _ _ _ (ho _ (by simp)) (ho _ (by simp)) (ho _ (by simp))
    · cases h) args obs r

abbrev k_pdiv0 : List Pa → Option (List Prop × Av)
  | [.r L _q, .r M s] => some ([L ≤ 65535, M ≤ 65535, s = 0], .tup [(true, [.lit (.bool false), .lit (.slice none 0 0), .lit (.slice none 0 0)]), (false, [.lit (.int .i64 3)])])
  | _ => none

theorem e_pdiv0 (args : List Av) (obs : List Prop) (r : Av) : ent [.r, .r] k_pdiv0 args = some (obs, r) → (∀ p ∈ obs, p) → Cn 16 args r :=
  ent_ok (fun ps obs r h ho => by
    unfold k_pdiv0 at h
    split at h
    · cases h; exact pdiv0 _ _ _ _ (ho _ (by simp)) (ho _ (by simp)) (ho _ (by simp))
    · cases h) args obs r

noncomputable def tY : List Ent := (19, k_pvalid) :: (20, k_qvalid) :: (14, k_smallb) :: (25, ent [.r] k_ptrim) :: (31, ent [.r, .r] k_padd) :: (33, ent [.r, .r] k_psub) :: (35, ent [.r, .r] k_pmul) :: (29, ent [.r] k_pabs) :: (27, ent [.r] k_pneg) :: (21, ent [.r] k_psign) :: (23, ent [.r, .r] k_pcmp) :: (16, ent [.r, .r] k_pdiv) :: tX0

theorem tY_ok : EntsOk tY := ⟨e_pvalid, e_qvalid, e_smallb, e_ptrim, e_padd, e_psub, e_pmul, e_pabs, e_pneg, e_psign, e_pcmp, e_pdiv, tX0_ok⟩

noncomputable def tYz : List Ent := [(16, ent [.r, .r] k_pdiv0), (17, ent [.r, .r] k_qdiv0')]

theorem tYz_ok : EntsOk tYz := ⟨e_pdiv0, e_qdiv0', trivial⟩

theorem nq_abs' (r : Rat) : nq r.abs = nq r := by
  unfold nq nz
  rw [abs_num, abs_den]
  rfl

theorem acts_c (q s : Rat) (b c : Bool) (_hq : nq q ≤ 9) (_hs : nq s ≤ 9) (_h0 : s ≠ 0) : Cn 3 [sv (.vrat 4 q b), sv (.vrat 4 s c)] (avB true) :=
  (wk2 tY_ok tYz_ok (ds := [none, some true, none, none, some true, none, none, none, none, none, none, some true, none, none, none, none, none, some false, none, none, some false, none, none, some false, none, none, none, some true, none, none, some true, none, none, some true, none, none, some true, none, none, some true, none, none, some true, none, none]) (fuel := 40) (obs := [q = q ∧ b = b, true = true, s = s ∧ c = c, true = true, 4 ≤ 65535, 4 ≤ 65535, s ≠ (0 : Rat), 4 ≤ 65535, 4 ≤ 65535, s ≠ (0 : Rat), decide (q / s = q / s) = true, 4 ≤ 65535, q = q, 4 ≤ 65535, q = q, (match b == b with | true => false | false => true) = false, 4 ≤ 65535, 4 ≤ 262143, (match Int.sign (Rat.num q) == Int.sign (Rat.num q) with | true => false | false => true) = false, 4 ≤ 65535, 4 ≤ 65535, 4 ≤ 65535, 4 ≤ 65535, (match cmpQ q s == cmpQ q s with | true => false | false => true) = false, 4 ≤ 65535, 4 ≤ 262143, decide (q = q) = true, 4 ≤ 65535, 4 ≤ 262143, nq q ≤ 262143, decide (-q = -q) = true, 4 ≤ 65535, 4 ≤ 262143, nq q ≤ 262143, decide (Rat.abs q = Rat.abs q) = true, 4 ≤ 16383, 4 ≤ 16383, 4 ≤ 65535, 4 ≤ 65535, decide (q + s = q + s) = true, 4 ≤ 16383, 4 ≤ 16383, 4 ≤ 65535, 4 ≤ 65535, nq s ≤ 65535, decide (q - s = q - s) = true, 4 ≤ 65535, 4 ≤ 65535, 4 ≤ 65535, 4 ≤ 65535, decide (q * s = q * s) = true]) (r := AV.val false [Seg.lit (Value.bool true)]) Tryz.func3 rfl (by kernel_rfl) (by simp only [AllP, and_true, true_and, decide_eq_true_eq]; have h1 := nq_neg q; have h2 := nq_abs' q; have h3 := nq_neg s; (repeat' apply And.intro) <;> first | rfl | assumption | omega | simp))

theorem acts_z (q s : Rat) (b c : Bool) (_hq : nq q ≤ 9) (_hs : nq s ≤ 9) (_h0 : s = 0) : Cn 3 [sv (.vrat 4 q b), sv (.vrat 4 s c)] (avB true) :=
  (wk2 tY_ok tYz_ok (ds := [none, some true, none, none, some true, none, none, some false, some false, none, none, some true, none, none, none, none, none, some false, none, none, some false, none, none, some false, none, none, none, some true, none, none, some true, none, none, some true, none, none, some true, none, none, some true, none, none, some true, none, none]) (fuel := 40) (obs := [q = q ∧ b = b, true = true, s = s ∧ c = c, true = true, 4 ≤ 65535, 4 ≤ 65535, s = (0 : Rat), 4 ≤ 65535, 4 ≤ 65535, s = (0 : Rat), true = true, 4 ≤ 65535, q = q, 4 ≤ 65535, q = q, (match b == b with | true => false | false => true) = false, 4 ≤ 65535, 4 ≤ 262143, (match Int.sign (Rat.num q) == Int.sign (Rat.num q) with | true => false | false => true) = false, 4 ≤ 65535, 4 ≤ 65535, 4 ≤ 65535, 4 ≤ 65535, (match cmpQ q s == cmpQ q s with | true => false | false => true) = false, 4 ≤ 65535, 4 ≤ 262143, decide (q = q) = true, 4 ≤ 65535, 4 ≤ 262143, nq q ≤ 262143, decide (-q = -q) = true, 4 ≤ 65535, 4 ≤ 262143, nq q ≤ 262143, decide (Rat.abs q = Rat.abs q) = true, 4 ≤ 16383, 4 ≤ 16383, 4 ≤ 65535, 4 ≤ 65535, decide (q + s = q + s) = true, 4 ≤ 16383, 4 ≤ 16383, 4 ≤ 65535, 4 ≤ 65535, nq s ≤ 65535, decide (q - s = q - s) = true, 4 ≤ 65535, 4 ≤ 65535, 4 ≤ 65535, 4 ≤ 65535, decide (q * s = q * s) = true]) (r := AV.val false [Seg.lit (Value.bool true)]) Tryz.func3 rfl (by kernel_rfl) (by simp only [AllP, and_true, true_and, decide_eq_true_eq]; have h1 := nq_neg q; have h2 := nq_abs' q; have h3 := nq_neg s; (repeat' apply And.intro) <;> first | rfl | assumption | omega | simp))

theorem acts_A (ga : Bool) (pa : Option Addr) (na ca : Nat) (qa : Option Addr) (ma da : Nat) (gb : Bool) (pb : Option Addr) (nb cb : Nat) (qb : Option Addr) (mb db : Nat) (h : (decide (na ≤ 4) && decide (ma ≤ 4)) = false) : Cn 3 [.val true [.lit (.bool ga), .lit (.slice pa na ca), .lit (.slice qa ma da)], .val true [.lit (.bool gb), .lit (.slice pb nb cb), .lit (.slice qb mb db)]] (avB true) :=
  (wk tX0_ok (ds := [none, some false, none, none, none]) (fuel := 40) (obs := [ga = ga ∧ pa = pa ∧ ca = ca ∧ qa = qa ∧ da = da, (match decide (na ≤ 4) with | false => false | true => decide (ma ≤ 4)) = false]) (r := AV.val false [Seg.lit (Value.bool true)]) Tryz.func3 rfl (by kernel_rfl) ⟨⟨rfl, rfl, rfl, rfl, rfl⟩, h, trivial⟩)

theorem acts_B (ga : Bool) (pa : Option Addr) (na ca : Nat) (qa : Option Addr) (ma da : Nat) (gb : Bool) (pb : Option Addr) (nb cb : Nat) (qb : Option Addr) (mb db : Nat) (h : (decide (na ≤ 4) && decide (ma ≤ 4)) = true) (h' : (decide (nb ≤ 4) && decide (mb ≤ 4)) = false) : Cn 3 [.val true [.lit (.bool ga), .lit (.slice pa na ca), .lit (.slice qa ma da)], .val true [.lit (.bool gb), .lit (.slice pb nb cb), .lit (.slice qb mb db)]] (avB true) :=
  (wk tX0_ok (ds := [none, some true, none, none, some false, none, none]) (fuel := 40) (obs := [ga = ga ∧ pa = pa ∧ ca = ca ∧ qa = qa ∧ da = da, (match decide (na ≤ 4) with | false => false | true => decide (ma ≤ 4)) = true, gb = gb ∧ pb = pb ∧ cb = cb ∧ qb = qb ∧ db = db, (match decide (nb ≤ 4) with | false => false | true => decide (mb ≤ 4)) = false]) (r := AV.val false [Seg.lit (Value.bool true)]) Tryz.func3 rfl (by kernel_rfl) ⟨⟨rfl, rfl, rfl, rfl, rfl⟩, h, ⟨rfl, rfl, rfl, rfl, rfl⟩, h', trivial⟩)

theorem acts_any (ga : Bool) (pa : Option Addr) (na ca : Nat) (Xa : List Nat) (qa : Option Addr) (ma da : Nat) (Ya : List Nat) (gb : Bool) (pb : Option Addr) (nb cb : Nat) (Xb : List Nat) (qb : Option Addr) (mb db : Nat) (Yb : List Nat) (w : World) (ht : Tab w) (sa : Sl w pa na ca Xa) (ta : Sl w qa ma da Ya) (sb : Sl w pb nb cb Xb) (tb : Sl w qb mb db Yb) :
    Calls Tryz.prog 3 #[rw' ga pa na ca qa ma da, rw' gb pb nb cb qb mb db] w (RB true w) := by
  have hl : avs Dn none' w [.val true [.lit (.bool ga), .lit (.slice pa na ca), .lit (.slice qa ma da)], .val true [.lit (.bool gb), .lit (.slice pb nb cb), .lit (.slice qb mb db)]] [rw' ga pa na ca qa ma da, rw' gb pb nb cb qb mb db] := ⟨_, _, rfl, ofV_ok none' w (rw' ga pa na ca qa ma da), _, _, rfl, ofV_ok none' w (rw' gb pb nb cb qb mb db), rfl⟩
  cases ha : (decide (na ≤ 4) && decide (ma ≤ 4))
  · exact law_calls (acts_A _ _ _ _ _ _ _ _ _ _ _ _ _ _ ha) ht hl
  cases hb : (decide (nb ≤ 4) && decide (mb ≤ 4))
  · exact law_calls (acts_B _ _ _ _ _ _ _ _ _ _ _ _ _ _ ha hb) ht hl
  simp only [Bool.and_eq_true, decide_eq_true_eq] at ha hb
  have h1 : VB w 4 _ _ (rw' ga pa na ca qa ma da) := ⟨_, _, _, _, _, _, _, _, _, rfl, sa, ta, rfl, ha, rfl⟩
  have h2 : VB w 4 _ _ (rw' gb pb nb cb qb mb db) := ⟨_, _, _, _, _, _, _, _, _, rfl, sb, tb, rfl, hb, rfl⟩
  have hv : avs Dn none' w [sv (.vrat 4 _ _), sv (.vrat 4 _ _)] [rw' ga pa na ca qa ma da, rw' gb pb nb cb qb mb db] := ⟨_, _, rfl, sv_of (x := .vrat 4 _ _) h1 none', _, _, rfl, sv_of (x := .vrat 4 _ _) h2 none', rfl⟩
  by_cases h0 : mkRat (iv gb (val Xb)) (val Yb) = 0
  · exact law_calls (acts_z _ _ _ _ (nq_vr h1.vr) (nq_vr h2.vr) h0) ht hv
  · exact law_calls (acts_c _ _ _ _ (nq_vr h1.vr) (nq_vr h2.vr) h0) ht hv

end Go.Proofs.YtnokcaigpnejeaaGreatDoor
