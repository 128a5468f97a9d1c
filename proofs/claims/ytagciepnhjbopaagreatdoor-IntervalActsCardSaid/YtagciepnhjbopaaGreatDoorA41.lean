/- What the statements of this claim stand on: of IvN, Q16, Q17, Q18, Q19, what they name -/
import Derived.Test.YtagciepnhjbopaaGreatDoorA40

namespace Go.Proofs.YtagciepnhjbopaaGreatDoor
def ctn (r s x : Rat) : Bool := decide (minQ r s ≤ x) && decide (x ≤ maxQ r s)

def insB (a b p q : Rat) : Bool := ctn a b p && ctn a b q

def eqI (a b c d : Rat) : Bool := decide (a = c) && decide (b = d)

def sgnI (r s : Rat) : Int := if s.num.sign = r.num.sign then r.num.sign else 0

def sqLo (r s : Rat) : Rat := if sgnI r s = 0 then 0 else minQ (r * r) (s * s)

theorem sign_pos {r : Rat} : r.num.sign = 1 ↔ 0 < r := by
  rw [sign_cmp]
  unfold cmpQ
  grind

theorem sign_neg {r : Rat} : r.num.sign = -1 ↔ r < 0 := by
  rw [sign_cmp]
  unfold cmpQ
  grind

theorem sign_zero {r : Rat} : r.num.sign = 0 ↔ r = 0 := by
  rw [sign_cmp]
  unfold cmpQ
  grind

theorem sgn_cases {r s : Rat} (h : sgnI r s ≠ 0) : (0 < r ∧ 0 < s) ∨ (r < 0 ∧ s < 0) := by
  unfold sgnI at h
  split at h
  · rename_i e
    have h1 : r < 0 ∨ r = 0 ∨ 0 < r := by grind
    rcases h1 with h1 | h1 | h1
    · exact Or.inr ⟨h1, sign_neg.1 (e.trans (sign_neg.2 h1))⟩
    · exact absurd (sign_zero.2 h1) h
    · exact Or.inl ⟨h1, sign_pos.1 (e.trans (sign_pos.2 h1))⟩
  · exact absurd rfl h

theorem min_neg (a b : Rat) : minQ (-a) (-b) = -(maxQ a b) := by unfold minQ maxQ; grind

theorem max_neg (a b : Rat) : maxQ (-a) (-b) = -(minQ a b) := by unfold minQ maxQ; grind

end Go.Proofs.YtagciepnhjbopaaGreatDoor

namespace Go.Proofs.YtagciepnhjbopaaGreatDoor
open Go.RowKit En

noncomputable def tYl : List Ent := (25, ent [.r] k_ptrim) :: (31, ent [.r, .r] k_padd) :: (33, ent [.r, .r] k_psub) :: (35, ent [.r, .r] k_pmul) :: (29, ent [.r] k_pabs) :: (27, ent [.r] k_pneg) :: (21, ent [.r] k_psign) :: (23, ent [.r, .r] k_pcmp) :: [(16, ent [.r, .r] k_pdiv)]

theorem tYl_ok : EntsOk tYl := ⟨e_ptrim, e_padd, e_psub, e_pmul, e_pabs, e_pneg, e_psign, e_pcmp, e_pdiv, trivial⟩

theorem minQ_t {a b : Rat} (h : b < a) : minQ a b = b := if_pos h

theorem minQ_f {a b : Rat} (h : ¬ b < a) : minQ a b = a := if_neg h

theorem maxQ_t {a b : Rat} (_h : b < a) : maxQ a b = a := by unfold maxQ; grind

theorem maxQ_f {a b : Rat} (_h : ¬ b < a) : maxQ a b = b := by unfold maxQ; grind

theorem nq_minQ (a b : Rat) : nq (minQ a b) ≤ nq a + nq b := by unfold minQ; split <;> omega

theorem nq_maxQ (a b : Rat) : nq (maxQ a b) ≤ nq a + nq b := by unfold maxQ; split <;> omega

theorem gt_d {x y : Rat} (h : y < x) : decide (cmpQ x y > 0) = true := decide_eq_true ((cmp_gt _ _).2 h)

theorem ngt_d {x y : Rat} (h : ¬ y < x) : decide (cmpQ x y > 0) = false := decide_eq_false fun e => h ((cmp_gt _ _).1 e)

theorem le_d {x y : Rat} (h : x ≤ y) : decide (cmpQ x y ≤ 0) = true := decide_eq_true ((cmp_le _ _).2 h)

theorem nle_d {x y : Rat} (h : ¬ x ≤ y) : decide (cmpQ x y ≤ 0) = false := decide_eq_false fun e => h ((cmp_le _ _).1 e)

abbrev iv2 (a b : Rat) : Av := .val true [.sem (.rat a), .sem (.rat b)]

abbrev rr2 (L : Nat) (a b : Rat) : Av := .tup [(true, [.sem (.rrat L a)]), (true, [.sem (.rrat L b)])]

theorem ends_c (L : Nat) (r s : Rat) (hL : L ≤ 65535) : Cp 143 [.vv L r s] (rr2 L (minQ r s) (maxQ r s)) := by
  by_cases h : s < r
  · rw [minQ_t h, maxQ_t h]
    exact cp_of (wk tYl_ok (ds := [some true]) (fuel := 40) (obs := [L ≤ 65535, L ≤ 65535, decide (cmpQ r s > (0 : Int)) = true]) (r := AV.tup [(true, [Seg.sem (Kn.rrat L s)]), (true, [Seg.sem (Kn.rrat L r)])]) Tryz.func143 rfl (by kernel_rfl) ⟨hL, hL, gt_d h, trivial⟩)
  · rw [minQ_f h, maxQ_f h]
    exact cp_of (wk tYl_ok (ds := [some false]) (fuel := 40) (obs := [L ≤ 65535, L ≤ 65535, decide (cmpQ r s > (0 : Int)) = false]) (r := AV.tup [(true, [Seg.sem (Kn.rrat L r)]), (true, [Seg.sem (Kn.rrat L s)])]) Tryz.func143 rfl (by kernel_rfl) ⟨hL, hL, ngt_d h, trivial⟩)

abbrev k_vends : List Pa → Option (List Prop × Av)
  | [.vv L r s] => some ([L ≤ 65535], rr2 L (minQ r s) (maxQ r s))
  | _ => none

theorem e_vends (args : List Av) (obs : List Prop) (r : Av) : ent [.vv] k_vends args = some (obs, r) → (∀ p ∈ obs, p) → Cn 143 args r :=
  ent_ok (fun ps obs r h ho => by
    unfold k_vends at h
    split at h
    · cases h; exact ends_c _ _ _ (ho _ (by simp))
    · cases h) args obs r

theorem make_c (L M : Nat) (r s : Rat) (hL : L ≤ 65535) (hM : M ≤ 65535) (hr : nq r ≤ 65535) (hs : nq s ≤ 65535) : Cp 80 [.r L r, .r M s] (iv2 (minQ r s) (maxQ r s)) :=
  cp_of (wk4 (hint := (fun _ => none)) (es := tYl) (alts := []) (ls := lSp) tYl_ok trivial lSp_ok (ds := []) (fuel := 40) (obs := [L ≤ 65535, M ≤ 65535, nq r ≤ 65535 ∧ nq s ≤ 65535]) (r := AV.val (true) [Seg.sem (Kn.rat (minQ r s)), Seg.sem (Kn.rat (maxQ r s))]) Tryz.func80 rfl (by kernel_rfl) ⟨hL, hM, ⟨hr, hs⟩, trivial⟩)

abbrev k_vmake : List Pa → Option (List Prop × Av)
  | [.r L r, .r M s] => some ([L ≤ 65535, M ≤ 65535, nq r ≤ 65535, nq s ≤ 65535], iv2 (minQ r s) (maxQ r s))
  | _ => none

theorem e_vmake (args : List Av) (obs : List Prop) (r : Av) : ent [.r, .r] k_vmake args = some (obs, r) → (∀ p ∈ obs, p) → Cn 80 args r :=
  ent_ok (fun ps obs r h ho => by
    unfold k_vmake at h
    split at h
    · cases h; exact make_c _ _ _ _ (ho _ (by simp)) (ho _ (by simp)) (ho _ (by simp)) (ho _ (by simp))
    · cases h) args obs r

noncomputable def tI1 : List Ent := (143, ent [.vv] k_vends) :: (80, ent [.r, .r] k_vmake) :: tYl

theorem tI1_ok : EntsOk tI1 := ⟨e_vends, e_vmake, tYl_ok⟩

theorem itrim_c (L : Nat) (r s : Rat) (hL : L ≤ 65535) (hr : nq r ≤ 65535) (hs : nq s ≤ 65535) : Cp 78 [.vv L r s] (iv2 (minQ r s) (maxQ r s)) :=
  cp_of (wk tI1_ok (ds := []) (fuel := 40) (obs := [L ≤ 65535, L ≤ 65535, nq r ≤ 65535, nq s ≤ 65535]) (r := AV.val (true) [Seg.sem (Kn.rat (minQ r s)), Seg.sem (Kn.rat (maxQ r s))]) Tryz.func78 rfl (by kernel_rfl) ⟨hL, hL, hr, hs, trivial⟩)

abbrev k_vtrim : List Pa → Option (List Prop × Av)
  | [.vv L r s] => some ([L ≤ 65535, nq r ≤ 65535, nq s ≤ 65535], iv2 (minQ r s) (maxQ r s))
  | _ => none

theorem e_vtrim (args : List Av) (obs : List Prop) (r : Av) : ent [.vv] k_vtrim args = some (obs, r) → (∀ p ∈ obs, p) → Cn 78 args r :=
  ent_ok (fun ps obs r h ho => by
    unfold k_vtrim at h
    split at h
    · cases h; exact itrim_c _ _ _ (ho _ (by simp)) (ho _ (by simp)) (ho _ (by simp))
    · cases h) args obs r

noncomputable def tI2 : List Ent := (78, ent [.vv] k_vtrim) :: tI1

theorem tI2_ok : EntsOk tI2 := ⟨e_vtrim, tI1_ok⟩

theorem contains_c (L M : Nat) (r s x : Rat) (_hL : L ≤ 30000) (hM : M ≤ 65535) : Cp 70 [.vv L r s, .r M x] (avB (ctn r s x)) := by
  unfold ctn
  by_cases h : minQ r s ≤ x
  · rw [decide_eq_true h, Bool.true_and]
    by_cases h' : x ≤ maxQ r s
    · rw [decide_eq_true h']
      exact cp_of (wk tI1_ok (ds := [none, some true, none, some true, none]) (fuel := 40) (obs := [L + L ≤ 65535, L + L ≤ 65535, M ≤ 65535, decide (cmpQ (minQ r s) x ≤ (0 : Int)) = true, M ≤ 65535, L + L ≤ 65535, decide (cmpQ x (maxQ r s) ≤ (0 : Int)) = true]) (r := AV.val false [Seg.lit (Value.bool true)]) Tryz.func70 rfl (by kernel_rfl) ⟨by omega, by omega, hM, le_d h, hM, by omega, le_d h', trivial⟩)
    · rw [decide_eq_false h']
      exact cp_of (wk tI1_ok (ds := [none, some true, none, some false, none]) (fuel := 40) (obs := [L + L ≤ 65535, L + L ≤ 65535, M ≤ 65535, decide (cmpQ (minQ r s) x ≤ (0 : Int)) = true, M ≤ 65535, L + L ≤ 65535, decide (cmpQ x (maxQ r s) ≤ (0 : Int)) = false]) (r := AV.val false [Seg.lit (Value.bool false)]) Tryz.func70 rfl (by kernel_rfl) ⟨by omega, by omega, hM, le_d h, hM, by omega, nle_d h', trivial⟩)
  · rw [decide_eq_false h, Bool.false_and]
    exact cp_of (wk tI1_ok (ds := [none, some false, none, none]) (fuel := 40) (obs := [L + L ≤ 65535, L + L ≤ 65535, M ≤ 65535, decide (cmpQ (minQ r s) x ≤ (0 : Int)) = false]) (r := AV.val false [Seg.lit (Value.bool false)]) Tryz.func70 rfl (by kernel_rfl) ⟨by omega, by omega, hM, nle_d h, trivial⟩)

abbrev k_vcontains : List Pa → Option (List Prop × Av)
  | [.vv L r s, .r M x] => some ([L ≤ 30000, M ≤ 65535], avB (ctn r s x))
  | _ => none

theorem e_vcontains (args : List Av) (obs : List Prop) (r : Av) : ent [.vv, .r] k_vcontains args = some (obs, r) → (∀ p ∈ obs, p) → Cn 70 args r :=
  ent_ok (fun ps obs r h ho => by
    unfold k_vcontains at h
    split at h
    · cases h; exact contains_c _ _ _ _ _ (ho _ (by simp)) (ho _ (by simp))
    · cases h) args obs r

noncomputable def tI3 : List Ent := (70, ent [.vv, .r] k_vcontains) :: tI2

theorem tI3_ok : EntsOk tI3 := ⟨e_vcontains, tI2_ok⟩

theorem inside_c (L M : Nat) (r s t u : Rat) (_hL : L ≤ 15000) (_hM : M ≤ 15000) : Cp 72 [.vv L r s, .vv M t u] (avB (insB t u r s)) := by
  unfold insB
  cases h : ctn t u r
  · exact cp_of (wk tI3_ok (ds := [none, some false, none, none]) (fuel := 40) (obs := [M + M ≤ 30000, L ≤ 65535, ctn t u r = false]) (r := AV.val false [Seg.lit (Value.bool false)]) Tryz.func72 rfl (by kernel_rfl) ⟨by omega, by omega, h, trivial⟩)
  · cases h' : ctn t u s
    · exact cp_of (wk tI3_ok (ds := [none, some true, none, some false, none]) (fuel := 40) (obs := [M + M ≤ 30000, L ≤ 65535, ctn t u r = true, M + M ≤ 30000, L ≤ 65535, ctn t u s = false]) (r := AV.val false [Seg.lit (Value.bool false)]) Tryz.func72 rfl (by kernel_rfl) ⟨by omega, by omega, h, by omega, by omega, h', trivial⟩)
    · exact cp_of (wk tI3_ok (ds := [none, some true, none, some true, none]) (fuel := 40) (obs := [M + M ≤ 30000, L ≤ 65535, ctn t u r = true, M + M ≤ 30000, L ≤ 65535, ctn t u s = true]) (r := AV.val false [Seg.lit (Value.bool true)]) Tryz.func72 rfl (by kernel_rfl) ⟨by omega, by omega, h, by omega, by omega, h', trivial⟩)

abbrev k_vinside : List Pa → Option (List Prop × Av)
  | [.vv L r s, .vv M t u] => some ([L ≤ 15000, M ≤ 15000], avB (insB t u r s))
  | _ => none

theorem e_vinside (args : List Av) (obs : List Prop) (r : Av) : ent [.vv, .vv] k_vinside args = some (obs, r) → (∀ p ∈ obs, p) → Cn 72 args r :=
  ent_ok (fun ps obs r h ho => by
    unfold k_vinside at h
    split at h
    · cases h; exact inside_c _ _ _ _ _ _ (ho _ (by simp)) (ho _ (by simp))
    · cases h) args obs r

theorem isign_c (L : Nat) (r s : Rat) (hL : L ≤ 65535) : Cp 74 [.vv L r s] (avI (sgnI r s)) := by
  unfold sgnI
  by_cases h : s.num.sign = r.num.sign
  · rw [if_pos h]
    exact cp_of (wk tYl_ok (ds := [some false]) (fuel := 40) (obs := [L ≤ 65535, L ≤ 65535, (match Int.sign (Rat.num s) == Int.sign (Rat.num r) with | true => false | false => true) = false]) (r := AV.val false [Seg.lit (Value.int IntKind.i64 (Int.sign (Rat.num r)))]) Tryz.func74 rfl (by kernel_rfl) ⟨hL, hL, by simp [h], trivial⟩)
  · rw [if_neg h]
    exact cp_of (wk tYl_ok (ds := [some true]) (fuel := 40) (obs := [L ≤ 65535, L ≤ 65535, (match Int.sign (Rat.num s) == Int.sign (Rat.num r) with | true => false | false => true) = true]) (r := AV.val false [Seg.lit (Value.int IntKind.i64 (0 : Int))]) Tryz.func74 rfl (by kernel_rfl) ⟨hL, hL, show (!(s.num.sign == r.num.sign)) = true from by simp [h], trivial⟩)

abbrev k_vsign : List Pa → Option (List Prop × Av)
  | [.vv L r s] => some ([L ≤ 65535], avI (sgnI r s))
  | _ => none

theorem e_vsign (args : List Av) (obs : List Prop) (r : Av) : ent [.vv] k_vsign args = some (obs, r) → (∀ p ∈ obs, p) → Cn 74 args r :=
  ent_ok (fun ps obs r h ho => by
    unfold k_vsign at h
    split at h
    · cases h; exact isign_c _ _ _ (ho _ (by simp))
    · cases h) args obs r

theorem iadd_c (L M : Nat) (r s t u : Rat) (_hL : L ≤ 8000) (_hM : M ≤ 8000) : Cp 86 [.vv L r s, .vv M t u] (iv2 (minQ r s + minQ t u) (maxQ r s + maxQ t u)) :=
  cp_of (wk tI1_ok (ds := []) (fuel := 40) (obs := [L + L ≤ 65535, M + M ≤ 65535, L + L ≤ 16383, M + M ≤ 16383, L + L ≤ 16383, M + M ≤ 16383]) (r := AV.val (true) [Seg.sem (Kn.rat (minQ r s + minQ t u)), Seg.sem (Kn.rat (maxQ r s + maxQ t u))]) Tryz.func86 rfl (by kernel_rfl) (by simp only [AllP, and_true]; (repeat' apply And.intro) <;> omega))

abbrev k_vadd : List Pa → Option (List Prop × Av)
  | [.vv L r s, .vv M t u] => some ([L ≤ 8000, M ≤ 8000], iv2 (minQ r s + minQ t u) (maxQ r s + maxQ t u))
  | _ => none

theorem e_vadd (args : List Av) (obs : List Prop) (r : Av) : ent [.vv, .vv] k_vadd args = some (obs, r) → (∀ p ∈ obs, p) → Cn 86 args r :=
  ent_ok (fun ps obs r h ho => by
    unfold k_vadd at h
    split at h
    · cases h; exact iadd_c _ _ _ _ _ _ (ho _ (by simp)) (ho _ (by simp))
    · cases h) args obs r

theorem isub_c (L M : Nat) (r s t u : Rat) (_hL : L ≤ 8000) (_hM : M ≤ 8000) : Cp 88 [.vv L r s, .vv M t u] (iv2 (minQ r s - maxQ t u) (maxQ r s - minQ t u)) :=
  cp_of (wk tI1_ok (ds := []) (fuel := 40) (obs := [L + L ≤ 65535, M + M ≤ 65535, L + L ≤ 16383, M + M ≤ 16383, L + L ≤ 16383, M + M ≤ 16383]) (r := AV.val (true) [Seg.sem (Kn.rat (minQ r s - maxQ t u)), Seg.sem (Kn.rat (maxQ r s - minQ t u))]) Tryz.func88 rfl (by kernel_rfl) (by simp only [AllP, and_true]; (repeat' apply And.intro) <;> omega))

abbrev k_vsub : List Pa → Option (List Prop × Av)
  | [.vv L r s, .vv M t u] => some ([L ≤ 8000, M ≤ 8000], iv2 (minQ r s - maxQ t u) (maxQ r s - minQ t u))
  | _ => none

theorem e_vsub (args : List Av) (obs : List Prop) (r : Av) : ent [.vv, .vv] k_vsub args = some (obs, r) → (∀ p ∈ obs, p) → Cn 88 args r :=
  ent_ok (fun ps obs r h ho => by
    unfold k_vsub at h
    split at h
    · cases h; exact isub_c _ _ _ _ _ _ (ho _ (by simp)) (ho _ (by simp))
    · cases h) args obs r

abbrev mulI (r s t u : Rat) : Av := iv2 (min4 (r * t) (r * u) (s * t) (s * u)) (max4 (r * t) (r * u) (s * t) (s * u))

theorem imul_c (L M : Nat) (r s t u : Rat) (_hL : L ≤ 65535) (_hM : M ≤ 65535) (_hr : nq r ≤ 9999) (_hs : nq s ≤ 9999) (_ht : nq t ≤ 9999) (_hu : nq u ≤ 9999) : Cp 90 [.vv L r s, .vv M t u] (mulI r s t u) :=
  cp_of (wk4 (hint := (fun _ => none)) (es := tI1) (alts := []) (ls := lSp) tI1_ok trivial lSp_ok (ds := []) (fuel := 40) (obs := [L ≤ 65535, M ≤ 65535, L ≤ 65535, M ≤ 65535, L ≤ 65535, M ≤ 65535, L ≤ 65535, M ≤ 65535, nq (r * t) ≤ 65535 ∧ nq (r * u) ≤ 65535 ∧ nq (s * t) ≤ 65535 ∧ nq (s * u) ≤ 65535]) (r := AV.val (true) [Seg.sem (Kn.rat (min4 (r * t) (r * u) (s * t) (s * u))), Seg.sem (Kn.rat (max4 (r * t) (r * u) (s * t) (s * u)))]) Tryz.func90 rfl (by kernel_rfl) (by simp only [AllP, and_true]; have h1 := nq_mul r t; have h2 := nq_mul r u; have h3 := nq_mul s t; have h4 := nq_mul s u; (repeat' apply And.intro) <;> omega))

abbrev k_vmul : List Pa → Option (List Prop × Av)
  | [.vv L r s, .vv M t u] => some ([L ≤ 65535, M ≤ 65535, nq r ≤ 9999, nq s ≤ 9999, nq t ≤ 9999, nq u ≤ 9999], mulI r s t u)
  | _ => none

theorem e_vmul (args : List Av) (obs : List Prop) (r : Av) : ent [.vv, .vv] k_vmul args = some (obs, r) → (∀ p ∈ obs, p) → Cn 90 args r :=
  ent_ok (fun ps obs r h ho => by
    unfold k_vmul at h
    split at h
    · cases h; exact imul_c _ _ _ _ _ _ (ho _ (by simp)) (ho _ (by simp)) (ho _ (by simp)) (ho _ (by simp)) (ho _ (by simp)) (ho _ (by simp))
    · cases h) args obs r

noncomputable def tI4 : List Ent := (74, ent [.vv] k_vsign) :: (90, ent [.vv, .vv] k_vmul) :: (72, ent [.vv, .vv] k_vinside) :: (86, ent [.vv, .vv] k_vadd) :: (88, ent [.vv, .vv] k_vsub) :: (43, ent [.l] k_pof) :: (45, ent [.l, .l] k_pfrac) :: tI3

theorem tI4_ok : EntsOk tI4 := ⟨e_vsign, e_vmul, e_vinside, e_vadd, e_vsub, e_pof, e_pfrac, tI3_ok⟩

theorem isquare_c (L : Nat) (r s : Rat) (_hL : L ≤ 30000) (_hr : nq r ≤ 9999) (_hs : nq s ≤ 9999) : Cp 92 [.vv L r s] (iv2 (sqLo r s) (maxQ (r * r) (s * s))) := by
  have h1 := nq_mul r r
  have h2 := nq_mul s s
  unfold sqLo
  by_cases h : sgnI r s = 0
  · rw [if_pos h]
    exact cp_of (wk4 (hint := (fun _ => none)) (es := tI4) (alts := []) (ls := lSp) tI4_ok trivial lSp_ok (ds := [some true]) (fuel := 40) (obs := [L ≤ 65535, L ≤ 65535, L ≤ 65535, L ≤ 65535, nq (r * r) ≤ 65535 ∧ nq (s * s) ≤ 65535, L + L ≤ 65535, (sgnI r s == (0 : Int)) = true, (-9223372036854775808 : Int) ≤ (0 : Int), (0 : Int) ≤ (9223372036854775807 : Int)]) (r := AV.val (true) [Seg.sem (Kn.rat (↑(0 : Int) : Rat)), Seg.sem (Kn.rat (maxQ (r * r) (s * s)))]) Tryz.func92 rfl (by kernel_rfl) ⟨by omega, by omega, by omega, by omega, ⟨by omega, by omega⟩, by omega, by simp [h], by decide, by decide, trivial⟩)
  · rw [if_neg h]
    exact cp_of (wk4 (hint := (fun _ => none)) (es := tI4) (alts := []) (ls := lSp) tI4_ok trivial lSp_ok (ds := [some false]) (fuel := 40) (obs := [L ≤ 65535, L ≤ 65535, L ≤ 65535, L ≤ 65535, nq (r * r) ≤ 65535 ∧ nq (s * s) ≤ 65535, L + L ≤ 65535, (sgnI r s == (0 : Int)) = false]) (r := AV.val (true) [Seg.sem (Kn.rat (minQ (r * r) (s * s))), Seg.sem (Kn.rat (maxQ (r * r) (s * s)))]) Tryz.func92 rfl (by kernel_rfl) ⟨by omega, by omega, by omega, by omega, ⟨by omega, by omega⟩, by omega, by simp [h], trivial⟩)

abbrev k_vsquare : List Pa → Option (List Prop × Av)
  | [.vv L r s] => some ([L ≤ 30000, nq r ≤ 9999, nq s ≤ 9999], iv2 (sqLo r s) (maxQ (r * r) (s * s)))
  | _ => none

theorem e_vsquare (args : List Av) (obs : List Prop) (r : Av) : ent [.vv] k_vsquare args = some (obs, r) → (∀ p ∈ obs, p) → Cn 92 args r :=
  ent_ok (fun ps obs r h ho => by
    unfold k_vsquare at h
    split at h
    · cases h; exact isquare_c _ _ _ (ho _ (by simp)) (ho _ (by simp)) (ho _ (by simp))
    · cases h) args obs r

abbrev zI : List (Seg Kn) := [.lit (.bool false), .lit (.slice none 0 0), .lit (.slice none 0 0), .lit (.bool false), .lit (.slice none 0 0), .lit (.slice none 0 0)]

theorem idiv0_c (L M : Nat) (r s t u : Rat) (_hM : M ≤ 30000) (h : sgnI t u = 0) : Cp 63 [.vv L r s, .vv M t u] (.tup [(true, zI), (false, [.lit (.int .i64 3)])]) :=
  cp_of (wk tI4_ok (ds := [some true]) (fuel := 40) (obs := [M + M ≤ 65535, (sgnI t u == (0 : Int)) = true]) (r := AV.tup [(true, [Seg.lit (Value.bool false), Seg.lit (Value.slice none 0 0), Seg.lit (Value.slice none 0 0), Seg.lit (Value.bool false), Seg.lit (Value.slice none 0 0), Seg.lit (Value.slice none 0 0)]), (false, [Seg.lit (Value.int IntKind.i64 (3 : Int))])]) Tryz.func63 rfl (by kernel_rfl) ⟨by omega, by simp [h], trivial⟩)

theorem sgn_ne {t u : Rat} (h : sgnI t u ≠ 0) : t ≠ 0 ∧ u ≠ 0 := by
  unfold sgnI at h
  constructor
  · rintro rfl
    apply h
    split <;> rfl
  · rintro rfl
    apply h
    split
    · rename_i e; rw [← e]; rfl
    · rfl

theorem nq_dI (a b : Int) : nq (Rat.divInt a b) ≤ nz a + nz b + 1 := by
  have hz : nq 0 ≤ 1 := by
    unfold nq nz
    rw [show (0 : Rat).num = 0 from rfl, show (0 : Rat).den = 1 from rfl, Int.natAbs_zero, dg_zero, dg_one]
    decide
  rcases Int.lt_trichotomy b 0 with h | h | h
  · obtain ⟨D, rfl⟩ : ∃ D : Nat, b = -(D : Int) := ⟨b.natAbs, by omega⟩
    obtain ⟨l1, l2, _⟩ := low_neg (z := a) (D := D) (by omega) rfl
    unfold nq
    rw [l1, l2, nz_neg, nz_neg, nz_nat]
    have h1 := nz_floor' a ((Nat.gcd a.natAbs D : Nat) : Int)
    have h2 := dg_len_mono (Nat.div_le_self D (Nat.gcd a.natAbs D))
    omega
  · rw [h, Rat.divInt_zero]; omega
  · obtain ⟨D, rfl⟩ := Int.eq_ofNat_of_zero_le (Int.le_of_lt h)
    obtain ⟨l1, l2, _⟩ := low_pos (z := a) (D := D) (by omega) rfl
    unfold nq
    rw [l1, l2, nz_nat]
    have h1 := nz_floor' a ((Nat.gcd a.natAbs D : Nat) : Int)
    have h2 := dg_len_mono (Nat.div_le_self D (Nat.gcd a.natAbs D))
    omega

theorem nq_inv (t : Rat) : nq (1 / t) ≤ nq t + 1 := by
  rw [Rat.div_def, Rat.one_mul, Rat.inv_def]
  have h := nq_dI (t.den : Int) t.num
  rw [nz_nat] at h
  unfold nq at *
  omega

theorem idiv_c (L M : Nat) (r s t u : Rat) (_hL : L ≤ 30000) (_hM : M ≤ 30000) (_hr : nq r ≤ 4999) (_hs : nq s ≤ 4999) (_ht : nq t ≤ 4999) (_hu : nq u ≤ 4999) (h : sgnI t u ≠ 0) : Cp 63 [.vv L r s, .vv M t u] (.tup [(true, [.sem (.rat (min4 (r * (1 / t)) (r * (1 / u)) (s * (1 / t)) (s * (1 / u)))), .sem (.rat (max4 (r * (1 / t)) (r * (1 / u)) (s * (1 / t)) (s * (1 / u))))]), (false, [.lit (.int .i64 0)])]) := by
  have h1 : nq (((1 : Int) : Rat) / t) ≤ nq t + 1 := nq_inv t
  have h2 : nq (((1 : Int) : Rat) / u) ≤ nq u + 1 := nq_inv u
  have h3 := sgn_ne h
  exact cp_of (wk tI4_ok (ds := [some false]) (fuel := 40) (obs := [M + M ≤ 65535, (sgnI t u == (0 : Int)) = false, (-9223372036854775808 : Int) ≤ (1 : Int), (1 : Int) ≤ (9223372036854775807 : Int), 2 ≤ 65535, M ≤ 65535, t ≠ (0 : Rat), 2 ≤ 65535, M ≤ 65535, u ≠ (0 : Rat), L + L ≤ 65535, nq ((↑(1 : Int) : Rat) / t) + nq ((↑(1 : Int) : Rat) / u) ≤ 65535, nq r ≤ 9999, nq s ≤ 9999, nq ((↑(1 : Int) : Rat) / t) ≤ 9999, nq ((↑(1 : Int) : Rat) / u) ≤ 9999]) (r := AV.tup [(true, [Seg.sem (Kn.rat (min4 (r * ((↑(1 : Int) : Rat) / t)) (r * ((↑(1 : Int) : Rat) / u)) (s * ((↑(1 : Int) : Rat) / t)) (s * ((↑(1 : Int) : Rat) / u)))), Seg.sem (Kn.rat (max4 (r * ((↑(1 : Int) : Rat) / t)) (r * ((↑(1 : Int) : Rat) / u)) (s * ((↑(1 : Int) : Rat) / t)) (s * ((↑(1 : Int) : Rat) / u))))]), (false, [Seg.lit (Value.int IntKind.i64 (0 : Int))])]) Tryz.func63 rfl (by kernel_rfl) (by simp only [AllP, and_true]; (repeat' apply And.intro) <;> first | omega | exact h3.1 | exact h3.2 | simpa using h))

abbrev k_vdiv : List Pa → Option (List Prop × Av)
  | [.vv L r s, .vv M t u] => some ([L ≤ 30000, M ≤ 30000, nq r ≤ 4999, nq s ≤ 4999, nq t ≤ 4999, nq u ≤ 4999, sgnI t u ≠ 0], .tup [(true, [.sem (.rat (min4 (r * (1 / t)) (r * (1 / u)) (s * (1 / t)) (s * (1 / u)))), .sem (.rat (max4 (r * (1 / t)) (r * (1 / u)) (s * (1 / t)) (s * (1 / u))))]), (false, [.lit (.int .i64 0)])])
  | _ => none

theorem e_vdiv (args : List Av) (obs : List Prop) (r : Av) : ent [.vv, .vv] k_vdiv args = some (obs, r) → (∀ p ∈ obs, p) → Cn 63 args r :=
  ent_ok (fun ps obs r h ho => by
    unfold k_vdiv at h
    split at h
    · cases h; exact idiv_c _ _ _ _ _ _ (ho _ (by simp)) (ho _ (by simp)) (ho _ (by simp)) (ho _ (by simp)) (ho _ (by simp)) (ho _ (by simp)) (ho _ (by simp))
    · cases h) args obs r

abbrev k_vdiv0 : List Pa → Option (List Prop × Av)
  | [.vv _L _r _s, .vv M t u] => some ([M ≤ 30000, sgnI t u = 0], .tup [(true, zI), (false, [.lit (.int .i64 3)])])
  | _ => none

theorem e_vdiv0 (args : List Av) (obs : List Prop) (r : Av) : ent [.vv, .vv] k_vdiv0 args = some (obs, r) → (∀ p ∈ obs, p) → Cn 63 args r :=
  ent_ok (fun ps obs r h ho => by
    unfold k_vdiv0 at h
    split at h
    · cases h; exact idiv0_c _ _ _ _ _ _ (ho _ (by simp)) (ho _ (by simp))
    · cases h) args obs r

end Go.Proofs.YtagciepnhjbopaaGreatDoor

namespace Go.Proofs.YtagciepnhjbopaaGreatDoor
open Go.RowKit En

noncomputable def tXl : List Ent := (18, k_qsame) :: (40, ent [.l, .l] k_mmod) :: tQ4

theorem tXl_ok : EntsOk tXl := ⟨e_qsame, e_mmod, tQ4_ok⟩

theorem min_c (q s : Rat) : (if cmpQ s q < 0 then s else q) = minQ q s := by unfold minQ; simp only [cmp_lt]

theorem max_c (q s : Rat) : (if cmpQ q s < 0 then s else q) = maxQ q s := by unfold maxQ; simp only [cmp_lt]

theorem qminM (L M : Nat) (q s : Rat) (hL : L ≤ 65535) (hM : M ≤ 65535) : Cp 145 [.r L q, .r M s] (sv (.rat (minQ q s))) := min_c q s ▸ qmin L M q s hL hM

theorem qmaxM (L M : Nat) (q s : Rat) (hL : L ≤ 65535) (hM : M ≤ 65535) : Cp 144 [.r L q, .r M s] (sv (.rat (maxQ q s))) := max_c q s ▸ qmax L M q s hL hM

abbrev k_qminM : List Pa → Option (List Prop × Av)
  | [.r L q, .r M s] => some ([L ≤ 65535, M ≤ 65535], sv (.rat (minQ q s)))
  | _ => none

theorem e_qminM (args : List Av) (obs : List Prop) (r : Av) : ent [.r, .r] k_qminM args = some (obs, r) → (∀ p ∈ obs, p) → Cn 145 args r :=
  ent_ok (fun ps obs r h ho => by
    unfold k_qminM at h
    split at h
    · cases h; exact qminM _ _ _ _ (ho _ (by simp)) (ho _ (by simp))
    · cases h) args obs r

abbrev k_qmaxM : List Pa → Option (List Prop × Av)
  | [.r L q, .r M s] => some ([L ≤ 65535, M ≤ 65535], sv (.rat (maxQ q s)))
  | _ => none

theorem e_qmaxM (args : List Av) (obs : List Prop) (r : Av) : ent [.r, .r] k_qmaxM args = some (obs, r) → (∀ p ∈ obs, p) → Cn 144 args r :=
  ent_ok (fun ps obs r h ho => by
    unfold k_qmaxM at h
    split at h
    · cases h; exact qmaxM _ _ _ _ (ho _ (by simp)) (ho _ (by simp))
    · cases h) args obs r

noncomputable def tJ1 : List Ent := (145, ent [.r, .r] k_qminM) :: (144, ent [.r, .r] k_qmaxM) :: tXl

theorem tJ1_ok : EntsOk tJ1 := ⟨e_qminM, e_qmaxM, tXl_ok⟩

theorem jtrim_c (L : Nat) (r s : Rat) (hL : L ≤ 65535) : Cp 79 [.vv L r s] (iv2 (minQ r s) (maxQ r s)) :=
  cp_of (wk tJ1_ok (ds := []) (fuel := 40) (obs := [L ≤ 65535, L ≤ 65535, L ≤ 65535, L ≤ 65535]) (r := AV.val (true) [Seg.sem (Kn.rat (minQ r s)), Seg.sem (Kn.rat (maxQ r s))]) Tryz.func79 rfl (by kernel_rfl) ⟨hL, hL, hL, hL, trivial⟩)

abbrev k_jtrim : List Pa → Option (List Prop × Av)
  | [.vv L r s] => some ([L ≤ 65535], iv2 (minQ r s) (maxQ r s))
  | _ => none

theorem e_jtrim (args : List Av) (obs : List Prop) (r : Av) : ent [.vv] k_jtrim args = some (obs, r) → (∀ p ∈ obs, p) → Cn 79 args r :=
  ent_ok (fun ps obs r h ho => by
    unfold k_jtrim at h
    split at h
    · cases h; exact jtrim_c _ _ _ (ho _ (by simp))
    · cases h) args obs r

noncomputable def tJ2 : List Ent := (79, ent [.vv] k_jtrim) :: tJ1

theorem tJ2_ok : EntsOk tJ2 := ⟨e_jtrim, tJ1_ok⟩

theorem jmake_c (L M : Nat) (r s : Rat) (_hL : L ≤ 32767) (_hM : M ≤ 32767) : Cp 81 [.r L r, .r M s] (iv2 (minQ r s) (maxQ r s)) :=
  cp_of (wk tJ2_ok (ds := []) (fuel := 40) (obs := [L + M ≤ 65535]) (r := AV.val (true) [Seg.sem (Kn.rat (minQ r s)), Seg.sem (Kn.rat (maxQ r s))]) Tryz.func81 rfl (by kernel_rfl) (by simp only [AllP, and_true]; omega))

abbrev k_jmake : List Pa → Option (List Prop × Av)
  | [.r L r, .r M s] => some ([L ≤ 32767, M ≤ 32767], iv2 (minQ r s) (maxQ r s))
  | _ => none

theorem e_jmake (args : List Av) (obs : List Prop) (r : Av) : ent [.r, .r] k_jmake args = some (obs, r) → (∀ p ∈ obs, p) → Cn 81 args r :=
  ent_ok (fun ps obs r h ho => by
    unfold k_jmake at h
    split at h
    · cases h; exact jmake_c _ _ _ _ (ho _ (by simp)) (ho _ (by simp))
    · cases h) args obs r

theorem jsame (a b c d : Rat) : Cn 67 [iv2 a b, iv2 c d] (avB (eqI a b c d)) := by
  unfold eqI
  by_cases h : a = c
  · rw [decide_eq_true h, Bool.true_and]
    exact (wk tXl_ok (ds := [none, some true, none]) (fuel := 40) (obs := [decide (a = c) = true]) (r := AV.val false [Seg.lit (Value.bool (decide (b = d)))]) Tryz.func67 rfl (by kernel_rfl) ⟨decide_eq_true h, trivial⟩)
  · rw [decide_eq_false h, Bool.false_and]
    exact (wk tXl_ok (ds := [none, some false, none]) (fuel := 40) (obs := [decide (a = c) = false]) (r := AV.val false [Seg.lit (Value.bool false)]) Tryz.func67 rfl (by kernel_rfl) ⟨decide_eq_false h, trivial⟩)

theorem jsame0 : Cn 67 [.val true zI, .val true zI] (avB true) := (wk tXl_ok (ds := []) (fuel := 40) (obs := []) (r := AV.val false [Seg.lit (Value.bool true)]) Tryz.func67 rfl (by kernel_rfl) trivial)

abbrev k_jsame : List Av → Option (List Prop × Av)
  | [.val true [.sem (.rat a), .sem (.rat b)], .val true [.sem (.rat c), .sem (.rat d)]] => some ([], avB (eqI a b c d))
  | [.val true [.lit (.bool false), .lit (.slice none 0 0), .lit (.slice none 0 0), .lit (.bool false), .lit (.slice none 0 0), .lit (.slice none 0 0)], .val true [.lit (.bool false), .lit (.slice none 0 0), .lit (.slice none 0 0), .lit (.bool false), .lit (.slice none 0 0), .lit (.slice none 0 0)]] => some ([], avB true)
  | _ => none

theorem e_jsame (args : List Av) (obs : List Prop) (r : Av) (h : k_jsame args = some (obs, r)) (_ho : ∀ p ∈ obs, p) : Cn 67 args r := by
  unfold k_jsame at h
  split at h
  · cases h; exact jsame _ _ _ _
  · cases h; exact jsame0
  · cases h

theorem jcontains_c (L M : Nat) (r s x : Rat) (_hL : L ≤ 30000) (hM : M ≤ 65535) (_hr : nq r ≤ 9999) (_hs : nq s ≤ 9999) : Cp 71 [.vv L r s, .r M x] (avB (ctn r s x)) := by
  have h1 := nq_minQ r s
  have h2 := nq_maxQ r s
  unfold ctn
  by_cases h : minQ r s ≤ x
  · rw [decide_eq_true h, Bool.true_and]
    by_cases h' : x ≤ maxQ r s
    · rw [decide_eq_true h']
      exact cp_of (wk tJ2_ok (ds := [none, some false, none, none, some false, none, none]) (fuel := 40) (obs := [L + L ≤ 65535, M ≤ 65535, nq (minQ r s) ≤ 65535, decide (cmpQ x (minQ r s) < (0 : Int)) = false, nq (maxQ r s) ≤ 65535, M ≤ 65535, decide (cmpQ (maxQ r s) x < (0 : Int)) = false]) (r := AV.val false [Seg.lit (Value.bool true)]) Tryz.func71 rfl (by kernel_rfl) ⟨by omega, hM, by omega, nlt_d (Rat.not_lt.mpr h), by omega, hM, nlt_d (Rat.not_lt.mpr h'), trivial⟩)
    · rw [decide_eq_false h']
      exact cp_of (wk tJ2_ok (ds := [none, some false, none, none, some true, none, none]) (fuel := 40) (obs := [L + L ≤ 65535, M ≤ 65535, nq (minQ r s) ≤ 65535, decide (cmpQ x (minQ r s) < (0 : Int)) = false, nq (maxQ r s) ≤ 65535, M ≤ 65535, decide (cmpQ (maxQ r s) x < (0 : Int)) = true]) (r := AV.val false [Seg.lit (Value.bool false)]) Tryz.func71 rfl (by kernel_rfl) ⟨by omega, hM, by omega, nlt_d (Rat.not_lt.mpr h), by omega, hM, lt_d (Rat.not_le.mp h'), trivial⟩)
  · rw [decide_eq_false h, Bool.false_and]
    exact cp_of (wk tJ2_ok (ds := [none, some true, none, none, none]) (fuel := 40) (obs := [L + L ≤ 65535, M ≤ 65535, nq (minQ r s) ≤ 65535, decide (cmpQ x (minQ r s) < (0 : Int)) = true]) (r := AV.val false [Seg.lit (Value.bool false)]) Tryz.func71 rfl (by kernel_rfl) ⟨by omega, hM, by omega, lt_d (Rat.not_le.mp h), trivial⟩)

abbrev k_jcontains : List Pa → Option (List Prop × Av)
  | [.vv L r s, .r M x] => some ([L ≤ 30000, M ≤ 65535, nq r ≤ 9999, nq s ≤ 9999], avB (ctn r s x))
  | _ => none

theorem e_jcontains (args : List Av) (obs : List Prop) (r : Av) : ent [.vv, .r] k_jcontains args = some (obs, r) → (∀ p ∈ obs, p) → Cn 71 args r :=
  ent_ok (fun ps obs r h ho => by
    unfold k_jcontains at h
    split at h
    · cases h; exact jcontains_c _ _ _ _ _ (ho _ (by simp)) (ho _ (by simp)) (ho _ (by simp)) (ho _ (by simp))
    · cases h) args obs r

theorem jwidth_c (L : Nat) (r s : Rat) (_hL : L ≤ 30000) (_hr : nq r ≤ 9999) (_hs : nq s ≤ 9999) : Cp 83 [.vv L r s] (sv (.rat (maxQ r s - minQ r s))) := by
  have h1 := nq_minQ r s
  have h2 := nq_maxQ r s
  exact cp_of (wk tJ2_ok (ds := []) (fuel := 40) (obs := [L + L ≤ 65535, nq (maxQ r s) ≤ 65535, nq (minQ r s) ≤ 65535, nq (minQ r s) ≤ 65535]) (r := AV.val (true) [Seg.sem (Kn.rat (maxQ r s - minQ r s))]) Tryz.func83 rfl (by kernel_rfl) (by simp only [AllP, and_true]; (repeat' apply And.intro) <;> omega))

abbrev k_jwidth : List Pa → Option (List Prop × Av)
  | [.vv L r s] => some ([L ≤ 30000, nq r ≤ 9999, nq s ≤ 9999], sv (.rat (maxQ r s - minQ r s)))
  | _ => none

theorem e_jwidth (args : List Av) (obs : List Prop) (r : Av) : ent [.vv] k_jwidth args = some (obs, r) → (∀ p ∈ obs, p) → Cn 83 args r :=
  ent_ok (fun ps obs r h ho => by
    unfold k_jwidth at h
    split at h
    · cases h; exact jwidth_c _ _ _ (ho _ (by simp)) (ho _ (by simp)) (ho _ (by simp))
    · cases h) args obs r

noncomputable def tJ3 : List Ent := (81, ent [.r, .r] k_jmake) :: (67, k_jsame) :: (71, ent [.vv, .r] k_jcontains) :: (83, ent [.vv] k_jwidth) :: tJ2

theorem tJ3_ok : EntsOk tJ3 := ⟨e_jmake, e_jsame, e_jcontains, e_jwidth, tJ2_ok⟩

end Go.Proofs.YtagciepnhjbopaaGreatDoor

namespace Go.Proofs.YtagciepnhjbopaaGreatDoor
open Go.RowKit En

abbrev lits6 (g : Bool) (p : Option Addr) (n c : Nat) (q : Option Addr) (m d : Nat) (g' : Bool) (p' : Option Addr) (n' c' : Nat) (q' : Option Addr) (m' d' : Nat) : Av := .val true [.lit (.bool g), .lit (.slice p n c), .lit (.slice q m d), .lit (.bool g'), .lit (.slice p' n' c'), .lit (.slice q' m' d')]

noncomputable def tSm : List Ent := [(14, k_small)]

theorem tSm_ok : EntsOk tSm := ⟨e_small, trivial⟩

theorem smallon_l (g : Bool) (p : Option Addr) (n c : Nat) (q : Option Addr) (m d : Nat) (g' : Bool) (p' : Option Addr) (n' c' : Nat) (q' : Option Addr) (m' d' : Nat) : Cn 61 [lits6 g p n c q m d g' p' n' c' q' m' d'] (avB ((decide (n ≤ 4) && decide (m ≤ 4)) && (decide (n' ≤ 4) && decide (m' ≤ 4)))) := by
  cases h : (decide (n ≤ 4) && decide (m ≤ 4))
  · exact (wk tSm_ok (ds := [none, some false, none, none, none]) (fuel := 40) (obs := [g = g ∧ p = p ∧ c = c ∧ q = q ∧ d = d, (match decide (n ≤ 4) with | false => false | true => decide (m ≤ 4)) = false]) (r := AV.val false [Seg.lit (Value.bool false)]) Tryz.func61 rfl (by kernel_rfl) ⟨⟨rfl, rfl, rfl, rfl, rfl⟩, h, trivial⟩)
  · exact (wk tSm_ok (ds := [none, some true, none, none, none, none]) (fuel := 40) (obs := [g = g ∧ p = p ∧ c = c ∧ q = q ∧ d = d, (match decide (n ≤ 4) with | false => false | true => decide (m ≤ 4)) = true, g' = g' ∧ p' = p' ∧ c' = c' ∧ q' = q' ∧ d' = d']) (r := AV.val false [Seg.lit (Value.bool (match decide (n' ≤ 4) with | false => false | true => decide (m' ≤ 4)))]) Tryz.func61 rfl (by kernel_rfl) ⟨⟨rfl, rfl, rfl, rfl, rfl⟩, h, ⟨rfl, rfl, rfl, rfl, rfl⟩, trivial⟩)

theorem smallon_k (r s : Rat) : Cn 61 [.val true (ivSegs 4 r s)] (avB true) :=
  (wk tSm_ok (ds := []) (fuel := 40) (obs := [r = r, s = s]) (r := AV.val false [Seg.lit (Value.bool true)]) Tryz.func61 rfl (by kernel_rfl) ⟨rfl, rfl, trivial⟩)

abbrev k_smallon : List Av → Option (List Prop × Av)
  | [.val true [.lit (.bool g), .lit (.slice p n c), .lit (.slice q m d), .lit (.bool g'), .lit (.slice p' n' c'), .lit (.slice q' m' d')]] => some ([(g = g ∧ p = p ∧ c = c ∧ q = q ∧ d = d) ∧ g' = g' ∧ p' = p' ∧ c' = c' ∧ q' = q' ∧ d' = d'], avB ((decide (n ≤ 4) && decide (m ≤ 4)) && (decide (n' ≤ 4) && decide (m' ≤ 4))))
  | [.val true [.sem (.rrat 4 r), .sem (.rrat 4 s)]] => some ([r = r ∧ s = s], avB true)
  | _ => none

theorem e_smallon (args : List Av) (obs : List Prop) (r : Av) (h : k_smallon args = some (obs, r)) (_ho : ∀ p ∈ obs, p) : Cn 61 args r := by
  unfold k_smallon at h
  split at h
  · cases h; exact smallon_l _ _ _ _ _ _ _ _ _ _ _ _ _ _
  · cases h; exact smallon_k _ _
  · cases h

noncomputable def tA4 : List Ent := (63, ent [.vv, .vv] k_vdiv) :: (92, ent [.vv] k_vsquare) :: (tI4 ++ tJ3)

theorem tA4_ok : EntsOk tA4 := ⟨e_vdiv, e_vsquare, ents_append tI4_ok tJ3_ok⟩

noncomputable def tA4z : List Ent := [(63, ent [.vv, .vv] k_vdiv0)]

theorem tA4z_ok : EntsOk tA4z := ⟨e_vdiv0, trivial⟩

theorem awake04 : Cp 62 [] (avB true) := by
  exact cp_of (wk2 tA4_ok tA4z_ok (ds := [none, some false, none, none, some true, none, none, some true, none, none]) (fuel := 40) (obs := [(-9223372036854775808 : Int) ≤ (-1 : Int), (-1 : Int) ≤ (9223372036854775807 : Int), (-9223372036854775808 : Int) ≤ (2 : Int), (2 : Int) ≤ (9223372036854775807 : Int), 2 ≤ 32767, 2 ≤ 32767, (-9223372036854775808 : Int) ≤ (3 : Int), (3 : Int) ≤ (9223372036854775807 : Int), (-9223372036854775808 : Int) ≤ (4 : Int), (4 : Int) ≤ (9223372036854775807 : Int), 2 ≤ 32767, 2 ≤ 32767, 4 ≤ 65535, 4 ≤ 65535, 2 ≤ 9999, 2 ≤ 9999, 2 ≤ 9999, 2 ≤ 9999, (-9223372036854775808 : Int) ≤ (-1 : Int), (-1 : Int) ≤ (9223372036854775807 : Int), (-9223372036854775808 : Int) ≤ (2 : Int), (2 : Int) ≤ (9223372036854775807 : Int), 2 ≤ 32767, 2 ≤ 32767, 4 ≤ 30000, 2 ≤ 9999, 2 ≤ 9999, (-9223372036854775808 : Int) ≤ (-1 : Int), (-1 : Int) ≤ (9223372036854775807 : Int), (-9223372036854775808 : Int) ≤ (1 : Int), (1 : Int) ≤ (9223372036854775807 : Int), 2 ≤ 32767, 2 ≤ 32767, 4 ≤ 30000, sgnI (minQ (↑(-1 : Int) : Rat) (↑(1 : Int) : Rat)) (maxQ (↑(-1 : Int) : Rat) (↑(1 : Int) : Rat)) = (0 : Int), (-9223372036854775808 : Int) ≤ (-4 : Int), (-4 : Int) ≤ (9223372036854775807 : Int), (-9223372036854775808 : Int) ≤ (8 : Int), (8 : Int) ≤ (9223372036854775807 : Int), 2 ≤ 32767, 2 ≤ 32767, eqI (min4 (minQ (↑(-1 : Int) : Rat) (↑(2 : Int) : Rat) * minQ (↑(3 : Int) : Rat) (↑(4 : Int) : Rat)) (minQ (↑(-1 : Int) : Rat) (↑(2 : Int) : Rat) * maxQ (↑(3 : Int) : Rat) (↑(4 : Int) : Rat)) (maxQ (↑(-1 : Int) : Rat) (↑(2 : Int) : Rat) * minQ (↑(3 : Int) : Rat) (↑(4 : Int) : Rat)) (maxQ (↑(-1 : Int) : Rat) (↑(2 : Int) : Rat) * maxQ (↑(3 : Int) : Rat) (↑(4 : Int) : Rat))) (max4 (minQ (↑(-1 : Int) : Rat) (↑(2 : Int) : Rat) * minQ (↑(3 : Int) : Rat) (↑(4 : Int) : Rat)) (minQ (↑(-1 : Int) : Rat) (↑(2 : Int) : Rat) * maxQ (↑(3 : Int) : Rat) (↑(4 : Int) : Rat)) (maxQ (↑(-1 : Int) : Rat) (↑(2 : Int) : Rat) * minQ (↑(3 : Int) : Rat) (↑(4 : Int) : Rat)) (maxQ (↑(-1 : Int) : Rat) (↑(2 : Int) : Rat) * maxQ (↑(3 : Int) : Rat) (↑(4 : Int) : Rat))) (minQ (↑(-4 : Int) : Rat) (↑(8 : Int) : Rat)) (maxQ (↑(-4 : Int) : Rat) (↑(8 : Int) : Rat)) = true, (-9223372036854775808 : Int) ≤ (0 : Int), (0 : Int) ≤ (9223372036854775807 : Int), (-9223372036854775808 : Int) ≤ (4 : Int), (4 : Int) ≤ (9223372036854775807 : Int), 1 ≤ 32767, 2 ≤ 32767, eqI (sqLo (minQ (↑(-1 : Int) : Rat) (↑(2 : Int) : Rat)) (maxQ (↑(-1 : Int) : Rat) (↑(2 : Int) : Rat))) (maxQ (minQ (↑(-1 : Int) : Rat) (↑(2 : Int) : Rat) * minQ (↑(-1 : Int) : Rat) (↑(2 : Int) : Rat)) (maxQ (↑(-1 : Int) : Rat) (↑(2 : Int) : Rat) * maxQ (↑(-1 : Int) : Rat) (↑(2 : Int) : Rat))) (minQ (↑(0 : Int) : Rat) (↑(4 : Int) : Rat)) (maxQ (↑(0 : Int) : Rat) (↑(4 : Int) : Rat)) = true]) (r := AV.val false [Seg.lit (Value.bool true)]) Tryz.func62 rfl (by kernel_rfl) (by simp only [AllP, and_true]; (repeat' apply And.intro) <;> first | decide | exact Nat.le_trans (nq_small (by decide +kernel) (by decide +kernel)) (by decide) | decide +kernel))

abbrev k_awake04 : List Pa → Option (List Prop × Av)
  | [] => some ([], avB true)
  | _ => none

theorem e_awake04 (args : List Av) (obs : List Prop) (r : Av) : ent [] k_awake04 args = some (obs, r) → (∀ p ∈ obs, p) → Cn 62 args r :=
  ent_ok (fun ps obs r h ho => by
    unfold k_awake04 at h
    split at h
    · cases h; exact awake04
    · cases h) args obs r

theorem mm_lo (r s : Rat) : minQ (minQ r s) (maxQ r s) = minQ r s := by unfold minQ maxQ; grind

theorem mm_hi (r s : Rat) : maxQ (minQ r s) (maxQ r s) = maxQ r s := by unfold minQ maxQ; grind

theorem nq_eighth (k : Int) (_h0 : 0 ≤ k) (_h8 : k ≤ 8) : nq (Rat.divInt k 8) ≤ 3 := by
  have h := nq_dI k 8
  have h1 : nz k ≤ 1 := dg_len_le (k := 1) (by rw [pB_one]; omega)
  have h2 : nz 8 ≤ 1 := dg_len_le (k := 1) (by rw [pB_one]; decide)
  omega

abbrev atQ (r s : Rat) (n : Int) : Rat := minQ r s + (maxQ r s - minQ r s) * Rat.divInt (n % 9) 8

theorem between_c (L : Nat) (r s : Rat) (n : Int) (_hL : L ≤ 30000) (_hr : nq r ≤ 99) (_hs : nq s ≤ 99) (_h0 : -9223372036854775808 ≤ n) (_h1 : n ≤ 9223372036854775807) : Cp 96 [.vv L r s, .l (.int .i64 n)] (sv (.rat (atQ r s n))) := by
  have a1 := nq_minQ r s
  have a2 := nq_maxQ r s
  have a3 := nq_eighth (n % 9) (by omega) (by omega)
  have a4 := nq_sub (maxQ r s) (minQ r s)
  have a5 := nq_mul (maxQ r s - minQ r s) (Rat.divInt (n % 9) 8)
  have h := (cp_of (wk tJ3_ok (ds := []) (fuel := 40) (obs := [L + L ≤ 65535, nq (minQ r s) + nq (maxQ r s) ≤ 30000, nq (minQ r s) ≤ 9999, nq (maxQ r s) ≤ 9999, (1 : Int) ≤ (9 : Int), (9 : Int) ≤ (1000000 : Int), (-9223372036854775808 : Int) ≤ n, n ≤ (9223372036854775807 : Int), (-9223372036854775808 : Int) ≤ n % (9 : Int), n % (9 : Int) ≤ (9223372036854775807 : Int), (-9223372036854775808 : Int) ≤ (8 : Int), (8 : Int) ≤ (9223372036854775807 : Int), nq (maxQ (minQ r s) (maxQ r s) - minQ (minQ r s) (maxQ r s)) ≤ 65535, nq (Rat.divInt (n % (9 : Int)) (8 : Int)) ≤ 65535, nq (minQ r s) ≤ 65535, nq ((maxQ (minQ r s) (maxQ r s) - minQ (minQ r s) (maxQ r s)) * Rat.divInt (n % (9 : Int)) (8 : Int)) ≤ 65535]) (r := AV.val (true) [Seg.sem (Kn.rat (minQ r s + (maxQ (minQ r s) (maxQ r s) - minQ (minQ r s) (maxQ r s)) * Rat.divInt (n % (9 : Int)) (8 : Int)))]) Tryz.func96 rfl (by kernel_rfl) (by simp only [AllP, and_true]; rw [mm_lo, mm_hi]; (repeat' apply And.intro) <;> omega)) : Cp 96 [.vv L r s, .l (.int .i64 n)] _)
  rw [mm_lo, mm_hi] at h
  exact h

abbrev k_between : List Pa → Option (List Prop × Av)
  | [.vv L r s, .l (.int .i64 n)] => some ([L ≤ 30000, nq r ≤ 99, nq s ≤ 99, -9223372036854775808 ≤ n, n ≤ 9223372036854775807], sv (.rat (atQ r s n)))
  | _ => none

theorem e_between (args : List Av) (obs : List Prop) (r : Av) : ent [.vv, .l] k_between args = some (obs, r) → (∀ p ∈ obs, p) → Cn 96 args r :=
  ent_ok (fun ps obs r h ho => by
    unfold k_between at h
    split at h
    · cases h; exact between_c _ _ _ _ (ho _ (by simp)) (ho _ (by simp)) (ho _ (by simp)) (ho _ (by simp)) (ho _ (by simp))
    · cases h) args obs r

noncomputable def tE4 : List Ent := (96, ent [.vv, .l] k_between) :: (62, ent [] k_awake04) :: (61, k_smallon) :: tA4

theorem tE4_ok : EntsOk tE4 := ⟨e_between, e_awake04, e_smallon, tA4_ok⟩

theorem nq_min4 (a b c d : Rat) : nq (min4 a b c d) ≤ nq a + nq b + nq c + nq d := by
  have h1 := nq_minQ a b
  have h2 := nq_minQ c d
  have h3 := nq_minQ (minQ a b) (minQ c d)
  unfold min4
  omega

theorem nq_max4 (a b c d : Rat) : nq (max4 a b c d) ≤ nq a + nq b + nq c + nq d := by
  have h1 := nq_maxQ a b
  have h2 := nq_maxQ c d
  have h3 := nq_maxQ (maxQ a b) (maxQ c d)
  unfold max4
  omega

end Go.Proofs.YtagciepnhjbopaaGreatDoor

namespace Go.Proofs.YtagciepnhjbopaaGreatDoor
open Go.RowKit En

theorem m4_lo (a b c d : Rat) : minQ (min4 a b c d) (max4 a b c d) = min4 a b c d := by unfold min4 max4 minQ maxQ; grind

theorem m4_hi (a b c d : Rat) : maxQ (min4 a b c d) (max4 a b c d) = max4 a b c d := by unfold min4 max4 minQ maxQ; grind

theorem hull_c (L M : Nat) (r s t u : Rat) (_hL : L ≤ 30000) (hM : M = L) (_hr : nq r ≤ 9999) (_hs : nq s ≤ 9999) (_ht : nq t ≤ 9999) (_hu : nq u ≤ 9999) : Cp 94 [.vv L r s, .vv M t u] (iv2 (min4 r s t u) (max4 r s t u)) := by
  have h1 := nq_min4 r s t u
  have h2 := nq_max4 r s t u
  have h := (cp_of (wk4 (hint := (fun _ => none)) (es := tI4) (alts := []) (ls := lSp) tI4_ok trivial lSp_ok (ds := []) (fuel := 40) (obs := [L = L ∧ M = L ∧ M = L ∧ L ≤ 65535, L + L ≤ 65535, nq (min4 r s t u) ≤ 65535, nq (max4 r s t u) ≤ 65535]) (r := AV.val (true) [Seg.sem (Kn.rat (minQ (min4 r s t u) (max4 r s t u))), Seg.sem (Kn.rat (maxQ (min4 r s t u) (max4 r s t u)))]) Tryz.func94 rfl (by kernel_rfl) ⟨⟨rfl, hM, hM, by omega⟩, by omega, by omega, by omega, trivial⟩) : Cp 94 [.vv L r s, .vv M t u] _)
  rw [m4_lo, m4_hi] at h
  exact h

abbrev k_hull : List Pa → Option (List Prop × Av)
  | [.vv L r s, .vv M t u] => some ([L ≤ 30000, M = L, nq r ≤ 9999, nq s ≤ 9999, nq t ≤ 9999, nq u ≤ 9999], iv2 (min4 r s t u) (max4 r s t u))
  | _ => none

theorem e_hull (args : List Av) (obs : List Prop) (r : Av) : ent [.vv, .vv] k_hull args = some (obs, r) → (∀ p ∈ obs, p) → Cn 94 args r :=
  ent_ok (fun ps obs r h ho => by
    unfold k_hull at h
    split at h
    · cases h; exact hull_c _ _ _ _ _ _ (ho _ (by simp)) (ho _ (by simp)) (ho _ (by simp)) (ho _ (by simp)) (ho _ (by simp)) (ho _ (by simp))
    · cases h) args obs r

noncomputable def tG4 : List Ent := (94, ent [.vv, .vv] k_hull) :: tE4

theorem tG4_ok : EntsOk tG4 := ⟨e_hull, tE4_ok⟩

end Go.Proofs.YtagciepnhjbopaaGreatDoor
