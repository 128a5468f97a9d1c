/- What the statements of this claim stand on: of IvN, Q16, Q17, what they name -/
import Derived.Test.YtagciepnhjbopaaGreatDoorE37

namespace Go.Proofs.YtagciepnhjbopaaGreatDoor
def ctn (r s x : Rat) : Bool := decide (minQ r s ≤ x) && decide (x ≤ maxQ r s)

def insB (a b p q : Rat) : Bool := ctn a b p && ctn a b q

def eqI (a b c d : Rat) : Bool := decide (a = c) && decide (b = d)

def sgnI (r s : Rat) : Int := if s.num.sign = r.num.sign then r.num.sign else 0

def sqLo (r s : Rat) : Rat := if sgnI r s = 0 then 0 else minQ (r * r) (s * s)

theorem ctn_iff (r s x : Rat) : ctn r s x = true ↔ Btw r s x := by
  unfold ctn Btw
  rw [Bool.and_eq_true, decide_eq_true_eq, decide_eq_true_eq]

theorem ctn_of {lo hi z : Rat} (_h1 : lo ≤ z) (_h2 : z ≤ hi) : ctn lo hi z = true := by
  rw [ctn_iff]
  unfold Btw minQ maxQ
  grind

theorem btw_sum {r s t u x y : Rat} (hx : Btw r s x) (hy : Btw t u y) : ctn (minQ r s + minQ t u) (maxQ r s + maxQ t u) (x + y) = true := by
  obtain ⟨h1, h2⟩ := hx
  obtain ⟨h3, h4⟩ := hy
  exact ctn_of (by grind) (by grind)

theorem btw_diff {r s t u x y : Rat} (hx : Btw r s x) (hy : Btw t u y) : ctn (minQ r s - maxQ t u) (maxQ r s - minQ t u) (x - y) = true := by
  obtain ⟨h1, h2⟩ := hx
  obtain ⟨h3, h4⟩ := hy
  exact ctn_of (by grind) (by grind)

theorem btw_mulI {r s t u x y : Rat} (hx : Btw r s x) (hy : Btw t u y) : ctn (min4 (r * t) (r * u) (s * t) (s * u)) (max4 (r * t) (r * u) (s * t) (s * u)) (x * y) = true := by
  obtain ⟨h1, h2⟩ := btw_prod hx hy
  exact ctn_of h1 h2

theorem sign_pos {r : Rat} : r.num.sign = 1 ↔ 0 < r := by
  rw [sign_cmp]
  unfold cmpQ
  grind

theorem sign_neg {r : Rat} : r.num.sign = -1 ↔ r < 0 := by
  rw [sign_cmp]
  unfold cmpQ
  grind

theorem sign_zero {r : Rat} : r.num.sign = 0 ↔ r = 0 := by
  rw [sign_cmp]
  unfold cmpQ
  grind

theorem sgn_cases {r s : Rat} (h : sgnI r s ≠ 0) : (0 < r ∧ 0 < s) ∨ (r < 0 ∧ s < 0) := by
  unfold sgnI at h
  split at h
  · rename_i e
    have h1 : r < 0 ∨ r = 0 ∨ 0 < r := by grind
    rcases h1 with h1 | h1 | h1
    · exact Or.inr ⟨h1, sign_neg.1 (e.trans (sign_neg.2 h1))⟩
    · exact absurd (sign_zero.2 h1) h
    · exact Or.inl ⟨h1, sign_pos.1 (e.trans (sign_pos.2 h1))⟩
  · exact absurd rfl h

theorem mul_mono {a b c d : Rat} (_h1 : 0 ≤ a) (h2 : a ≤ b) (h3 : 0 ≤ c) (h4 : c ≤ d) : a * c ≤ b * d := by
  have k1 := Rat.mul_le_mul_of_nonneg_right h2 h3
  have k2 := Rat.mul_le_mul_of_nonneg_left h4 (show (0 : Rat) ≤ b by grind)
  grind

theorem sq_neg (x : Rat) : (-x) * (-x) = x * x := by rw [Rat.neg_mul, Rat.mul_neg, Rat.neg_neg]

theorem sq_nonneg (x : Rat) : 0 ≤ x * x := by
  rcases (by grind : 0 ≤ x ∨ 0 ≤ -x) with h | h
  · have := mul_mono (Rat.le_refl) h (Rat.le_refl) h; rw [Rat.zero_mul] at this; exact this
  · have := mul_mono (Rat.le_refl) h (Rat.le_refl) h; rw [Rat.zero_mul, sq_neg] at this; exact this

theorem sq_up {r s x : Rat} (h : Btw r s x) : x * x ≤ maxQ (r * r) (s * s) := by
  obtain ⟨h1, h2⟩ := h
  have hr : r * r ≤ maxQ (r * r) (s * s) := by unfold maxQ; grind
  have hs : s * s ≤ maxQ (r * r) (s * s) := by unfold maxQ; grind
  rcases (by grind : 0 ≤ x ∨ 0 ≤ -x) with h | h
  · have k := mul_mono h h2 h h2
    have : maxQ r s = r ∨ maxQ r s = s := by unfold maxQ; grind
    rcases this with e | e <;> rw [e] at k <;> grind
  · have h1' : -x ≤ -(minQ r s) := by grind
    have k := mul_mono h h1' h h1'
    rw [sq_neg, sq_neg] at k
    have : minQ r s = r ∨ minQ r s = s := by unfold minQ; grind
    rcases this with e | e <;> rw [e] at k <;> grind

theorem sq_lo {r s x : Rat} (h : Btw r s x) : sqLo r s ≤ x * x := by
  unfold sqLo
  split
  · exact sq_nonneg x
  · rename_i hn
    obtain ⟨h1, h2⟩ := h
    have hr : minQ (r * r) (s * s) ≤ r * r := by unfold minQ; grind
    have hs : minQ (r * r) (s * s) ≤ s * s := by unfold minQ; grind
    rcases sgn_cases hn with ⟨p1, p2⟩ | ⟨p1, p2⟩
    · have e : minQ r s = r ∨ minQ r s = s := by unfold minQ; grind
      have k := mul_mono (a := minQ r s) (c := minQ r s) (by grind) h1 (by grind) h1
      rcases e with e | e <;> rw [e] at k <;> grind
    · have e : maxQ r s = r ∨ maxQ r s = s := by unfold maxQ; grind
      have h2' : -(maxQ r s) ≤ -x := by grind
      have k := mul_mono (a := -(maxQ r s)) (c := -(maxQ r s)) (by grind) h2' (by grind) h2'
      rw [sq_neg, sq_neg] at k
      rcases e with e | e <;> rw [e] at k <;> grind

theorem btw_sq {r s x : Rat} (h : Btw r s x) : ctn (sqLo r s) (maxQ (r * r) (s * s)) (x * x) = true := ctn_of (sq_lo h) (sq_up h)

theorem inv_mono {a b : Rat} (h1 : 0 < a) (h2 : a ≤ b) : 1 / b ≤ 1 / a := by
  have hb : 0 < b := by grind
  have i1 : 0 < 1 / a := by rw [Rat.div_def, Rat.one_mul]; exact Rat.inv_pos.2 h1
  have i2 : 0 < 1 / b := by rw [Rat.div_def, Rat.one_mul]; exact Rat.inv_pos.2 hb
  have k := Rat.mul_le_mul_of_nonneg_right h2 (show 0 ≤ (1 / a) * (1 / b) by have := Rat.mul_pos i1 i2; grind)
  have e1 : a * (1 / a * (1 / b)) = 1 / b := by
    rw [← Rat.mul_assoc, Rat.mul_comm a, Rat.div_mul_cancel (by grind), Rat.one_mul]
  have e2 : b * (1 / a * (1 / b)) = 1 / a := by
    rw [Rat.mul_comm (1 / a), ← Rat.mul_assoc, Rat.mul_comm b, Rat.div_mul_cancel (by grind), Rat.one_mul]
  rw [e1, e2] at k
  exact k

theorem inv_neg (a : Rat) : 1 / (-a) = -(1 / a) := by
  grind

theorem min_neg (a b : Rat) : minQ (-a) (-b) = -(maxQ a b) := by unfold minQ maxQ; grind

theorem max_neg (a b : Rat) : maxQ (-a) (-b) = -(minQ a b) := by unfold minQ maxQ; grind

theorem btw_inv {t u y : Rat} (h : sgnI t u ≠ 0) (hy : Btw t u y) : Btw (1 / t) (1 / u) (1 / y) := by
  obtain ⟨h1, h2⟩ := hy
  have pos : ∀ {t u y : Rat}, 0 < t → 0 < u → minQ t u ≤ y → y ≤ maxQ t u → Btw (1 / t) (1 / u) (1 / y) := by
    intro t u y p1 p2 h1 h2
    rcases (by grind : t ≤ u ∨ u ≤ t) with c | c
    · have e1 : t ≤ y := by unfold minQ at h1; grind
      have e2 : y ≤ u := by unfold maxQ at h2; grind
      have k1 := inv_mono p1 e1
      have k2 := inv_mono (by grind) e2
      unfold Btw minQ maxQ
      grind
    · have e1 : u ≤ y := by unfold minQ at h1; grind
      have e2 : y ≤ t := by unfold maxQ at h2; grind
      have k1 := inv_mono p2 e1
      have k2 := inv_mono (by grind) e2
      unfold Btw minQ maxQ
      grind
  rcases sgn_cases h with ⟨p1, p2⟩ | ⟨p1, p2⟩
  · exact pos p1 p2 h1 h2
  · have k := pos (t := -t) (u := -u) (y := -y) (by grind) (by grind) (by rw [min_neg]; grind) (by rw [max_neg]; grind)
    rw [inv_neg, inv_neg, inv_neg] at k
    obtain ⟨k1, k2⟩ := k
    rw [min_neg] at k1
    rw [max_neg] at k2
    exact ⟨by grind, by grind⟩

theorem btw_divI {r s t u x y : Rat} (h : sgnI t u ≠ 0) (hx : Btw r s x) (hy : Btw t u y) : ctn (min4 (r * (1 / t)) (r * (1 / u)) (s * (1 / t)) (s * (1 / u))) (max4 (r * (1 / t)) (r * (1 / u)) (s * (1 / t)) (s * (1 / u))) (x / y) = true := by
  have e : x / y = x * (1 / y) := by rw [Rat.div_def, Rat.div_def 1, Rat.one_mul]
  rw [e]
  exact btw_mulI hx (btw_inv h hy)

theorem eighth (k : Int) (h0 : 0 ≤ k) (_h8 : k ≤ 8) : 0 ≤ Rat.divInt k 8 ∧ Rat.divInt k 8 ≤ 1 := by
  obtain ⟨n, rfl⟩ := Int.eq_ofNat_of_zero_le h0
  have : n = 0 ∨ n = 1 ∨ n = 2 ∨ n = 3 ∨ n = 4 ∨ n = 5 ∨ n = 6 ∨ n = 7 ∨ n = 8 := by omega
  rcases this with rfl | rfl | rfl | rfl | rfl | rfl | rfl | rfl | rfl <;> decide +kernel

theorem btw_at {r s f : Rat} (h0 : 0 ≤ f) (h1 : f ≤ 1) : Btw r s (minQ r s + (maxQ r s - minQ r s) * f) := by
  have hd : 0 ≤ maxQ r s - minQ r s := by unfold maxQ minQ; grind
  have k1 := Rat.mul_le_mul_of_nonneg_left h0 hd
  have k2 := Rat.mul_le_mul_of_nonneg_left h1 hd
  rw [Rat.mul_zero] at k1
  rw [Rat.mul_one] at k2
  unfold Btw
  generalize (maxQ r s - minQ r s) * f = p at *
  grind

end Go.Proofs.YtagciepnhjbopaaGreatDoor

namespace Go.Proofs.YtagciepnhjbopaaGreatDoor
open Go.RowKit En

noncomputable def tYl : List Ent := (25, ent [.r] k_ptrim) :: (31, ent [.r, .r] k_padd) :: (33, ent [.r, .r] k_psub) :: (35, ent [.r, .r] k_pmul) :: (29, ent [.r] k_pabs) :: (27, ent [.r] k_pneg) :: (21, ent [.r] k_psign) :: (23, ent [.r, .r] k_pcmp) :: [(16, ent [.r, .r] k_pdiv)]

theorem tYl_ok : EntsOk tYl := ⟨e_ptrim, e_padd, e_psub, e_pmul, e_pabs, e_pneg, e_psign, e_pcmp, e_pdiv, trivial⟩

theorem minQ_t {a b : Rat} (h : b < a) : minQ a b = b := if_pos h

theorem minQ_f {a b : Rat} (h : ¬ b < a) : minQ a b = a := if_neg h

theorem maxQ_t {a b : Rat} (_h : b < a) : maxQ a b = a := by unfold maxQ; grind

theorem maxQ_f {a b : Rat} (_h : ¬ b < a) : maxQ a b = b := by unfold maxQ; grind

theorem nq_minQ (a b : Rat) : nq (minQ a b) ≤ nq a + nq b := by unfold minQ; split <;> omega

theorem nq_maxQ (a b : Rat) : nq (maxQ a b) ≤ nq a + nq b := by unfold maxQ; split <;> omega

theorem gt_d {x y : Rat} (h : y < x) : decide (cmpQ x y > 0) = true := decide_eq_true ((cmp_gt _ _).2 h)

theorem ngt_d {x y : Rat} (h : ¬ y < x) : decide (cmpQ x y > 0) = false := decide_eq_false fun e => h ((cmp_gt _ _).1 e)

theorem le_d {x y : Rat} (h : x ≤ y) : decide (cmpQ x y ≤ 0) = true := decide_eq_true ((cmp_le _ _).2 h)

theorem nle_d {x y : Rat} (h : ¬ x ≤ y) : decide (cmpQ x y ≤ 0) = false := decide_eq_false fun e => h ((cmp_le _ _).1 e)

abbrev iv2 (a b : Rat) : Av := .val true [.sem (.rat a), .sem (.rat b)]

abbrev rr2 (L : Nat) (a b : Rat) : Av := .tup [(true, [.sem (.rrat L a)]), (true, [.sem (.rrat L b)])]

theorem ends_c (L : Nat) (r s : Rat) (hL : L ≤ 65535) : Cp 143 [.vv L r s] (rr2 L (minQ r s) (maxQ r s)) := by
  by_cases h : s < r
  · rw [minQ_t h, maxQ_t h]
    exact cp_of (wk tYl_ok (ds := [some true]) (fuel := 40) (obs := [L ≤ 65535, L ≤ 65535, decide (cmpQ r s > (0 : Int)) = true]) (r := AV.tup [(true, [Seg.sem (Kn.rrat L s)]), (true, [Seg.sem (Kn.rrat L r)])]) Tryz.func143 rfl (by kernel_rfl) ⟨hL, hL, gt_d h, trivial⟩)
  · rw [minQ_f h, maxQ_f h]
    exact cp_of (wk tYl_ok (ds := [some false]) (fuel := 40) (obs := [L ≤ 65535, L ≤ 65535, decide (cmpQ r s > (0 : Int)) = false]) (r := AV.tup [(true, [Seg.sem (Kn.rrat L r)]), (true, [Seg.sem (Kn.rrat L s)])]) Tryz.func143 rfl (by kernel_rfl) ⟨hL, hL, ngt_d h, trivial⟩)

abbrev k_vends : List Pa → Option (List Prop × Av)
  | [.vv L r s] => some ([L ≤ 65535], rr2 L (minQ r s) (maxQ r s))
  | _ => none

theorem e_vends (args : List Av) (obs : List Prop) (r : Av) : ent [.vv] k_vends args = some (obs, r) → (∀ p ∈ obs, p) → Cn 143 args r :=
  ent_ok (fun ps obs r h ho => by
    unfold k_vends at h
    split at h
    · cases h; exact ends_c _ _ _ (ho _ (by simp))
    · cases h) args obs r

theorem make_c (L M : Nat) (r s : Rat) (hL : L ≤ 65535) (hM : M ≤ 65535) (hr : nq r ≤ 65535) (hs : nq s ≤ 65535) : Cp 80 [.r L r, .r M s] (iv2 (minQ r s) (maxQ r s)) :=
  cp_of (wk4 (hint := (fun _ => none)) (es := tYl) (alts := []) (ls := lSp) tYl_ok trivial lSp_ok (ds := []) (fuel := 40) (obs := [L ≤ 65535, M ≤ 65535, nq r ≤ 65535 ∧ nq s ≤ 65535]) (r := AV.val (true) [Seg.sem (Kn.rat (minQ r s)), Seg.sem (Kn.rat (maxQ r s))]) Tryz.func80 rfl (by kernel_rfl) ⟨hL, hM, ⟨hr, hs⟩, trivial⟩)

abbrev k_vmake : List Pa → Option (List Prop × Av)
  | [.r L r, .r M s] => some ([L ≤ 65535, M ≤ 65535, nq r ≤ 65535, nq s ≤ 65535], iv2 (minQ r s) (maxQ r s))
  | _ => none

theorem e_vmake (args : List Av) (obs : List Prop) (r : Av) : ent [.r, .r] k_vmake args = some (obs, r) → (∀ p ∈ obs, p) → Cn 80 args r :=
  ent_ok (fun ps obs r h ho => by
    unfold k_vmake at h
    split at h
    · cases h; exact make_c _ _ _ _ (ho _ (by simp)) (ho _ (by simp)) (ho _ (by simp)) (ho _ (by simp))
    · cases h) args obs r

noncomputable def tI1 : List Ent := (143, ent [.vv] k_vends) :: (80, ent [.r, .r] k_vmake) :: tYl

theorem tI1_ok : EntsOk tI1 := ⟨e_vends, e_vmake, tYl_ok⟩

theorem itrim_c (L : Nat) (r s : Rat) (hL : L ≤ 65535) (hr : nq r ≤ 65535) (hs : nq s ≤ 65535) : Cp 78 [.vv L r s] (iv2 (minQ r s) (maxQ r s)) :=
  cp_of (wk tI1_ok (ds := []) (fuel := 40) (obs := [L ≤ 65535, L ≤ 65535, nq r ≤ 65535, nq s ≤ 65535]) (r := AV.val (true) [Seg.sem (Kn.rat (minQ r s)), Seg.sem (Kn.rat (maxQ r s))]) Tryz.func78 rfl (by kernel_rfl) ⟨hL, hL, hr, hs, trivial⟩)

abbrev k_vtrim : List Pa → Option (List Prop × Av)
  | [.vv L r s] => some ([L ≤ 65535, nq r ≤ 65535, nq s ≤ 65535], iv2 (minQ r s) (maxQ r s))
  | _ => none

theorem e_vtrim (args : List Av) (obs : List Prop) (r : Av) : ent [.vv] k_vtrim args = some (obs, r) → (∀ p ∈ obs, p) → Cn 78 args r :=
  ent_ok (fun ps obs r h ho => by
    unfold k_vtrim at h
    split at h
    · cases h; exact itrim_c _ _ _ (ho _ (by simp)) (ho _ (by simp)) (ho _ (by simp))
    · cases h) args obs r

noncomputable def tI2 : List Ent := (78, ent [.vv] k_vtrim) :: tI1

theorem tI2_ok : EntsOk tI2 := ⟨e_vtrim, tI1_ok⟩

theorem contains_c (L M : Nat) (r s x : Rat) (_hL : L ≤ 30000) (hM : M ≤ 65535) : Cp 70 [.vv L r s, .r M x] (avB (ctn r s x)) := by
  unfold ctn
  by_cases h : minQ r s ≤ x
  · rw [decide_eq_true h, Bool.true_and]
    by_cases h' : x ≤ maxQ r s
    · rw [decide_eq_true h']
      exact cp_of (wk tI1_ok (ds := [none, some true, none, some true, none]) (fuel := 40) (obs := [L + L ≤ 65535, L + L ≤ 65535, M ≤ 65535, decide (cmpQ (minQ r s) x ≤ (0 : Int)) = true, M ≤ 65535, L + L ≤ 65535, decide (cmpQ x (maxQ r s) ≤ (0 : Int)) = true]) (r := AV.val false [Seg.lit (Value.bool true)]) Tryz.func70 rfl (by kernel_rfl) ⟨by omega, by omega, hM, le_d h, hM, by omega, le_d h', trivial⟩)
    · rw [decide_eq_false h']
      exact cp_of (wk tI1_ok (ds := [none, some true, none, some false, none]) (fuel := 40) (obs := [L + L ≤ 65535, L + L ≤ 65535, M ≤ 65535, decide (cmpQ (minQ r s) x ≤ (0 : Int)) = true, M ≤ 65535, L + L ≤ 65535, decide (cmpQ x (maxQ r s) ≤ (0 : Int)) = false]) (r := AV.val false [Seg.lit (Value.bool false)]) Tryz.func70 rfl (by kernel_rfl) ⟨by omega, by omega, hM, le_d h, hM, by omega, nle_d h', trivial⟩)
  · rw [decide_eq_false h, Bool.false_and]
    exact cp_of (wk tI1_ok (ds := [none, some false, none, none]) (fuel := 40) (obs := [L + L ≤ 65535, L + L ≤ 65535, M ≤ 65535, decide (cmpQ (minQ r s) x ≤ (0 : Int)) = false]) (r := AV.val false [Seg.lit (Value.bool false)]) Tryz.func70 rfl (by kernel_rfl) ⟨by omega, by omega, hM, nle_d h, trivial⟩)

abbrev k_vcontains : List Pa → Option (List Prop × Av)
  | [.vv L r s, .r M x] => some ([L ≤ 30000, M ≤ 65535], avB (ctn r s x))
  | _ => none

theorem e_vcontains (args : List Av) (obs : List Prop) (r : Av) : ent [.vv, .r] k_vcontains args = some (obs, r) → (∀ p ∈ obs, p) → Cn 70 args r :=
  ent_ok (fun ps obs r h ho => by
    unfold k_vcontains at h
    split at h
    · cases h; exact contains_c _ _ _ _ _ (ho _ (by simp)) (ho _ (by simp))
    · cases h) args obs r

noncomputable def tI3 : List Ent := (70, ent [.vv, .r] k_vcontains) :: tI2

theorem tI3_ok : EntsOk tI3 := ⟨e_vcontains, tI2_ok⟩

theorem inside_c (L M : Nat) (r s t u : Rat) (_hL : L ≤ 15000) (_hM : M ≤ 15000) : Cp 72 [.vv L r s, .vv M t u] (avB (insB t u r s)) := by
  unfold insB
  cases h : ctn t u r
  · exact cp_of (wk tI3_ok (ds := [none, some false, none, none]) (fuel := 40) (obs := [M + M ≤ 30000, L ≤ 65535, ctn t u r = false]) (r := AV.val false [Seg.lit (Value.bool false)]) Tryz.func72 rfl (by kernel_rfl) ⟨by omega, by omega, h, trivial⟩)
  · cases h' : ctn t u s
    · exact cp_of (wk tI3_ok (ds := [none, some true, none, some false, none]) (fuel := 40) (obs := [M + M ≤ 30000, L ≤ 65535, ctn t u r = true, M + M ≤ 30000, L ≤ 65535, ctn t u s = false]) (r := AV.val false [Seg.lit (Value.bool false)]) Tryz.func72 rfl (by kernel_rfl) ⟨by omega, by omega, h, by omega, by omega, h', trivial⟩)
    · exact cp_of (wk tI3_ok (ds := [none, some true, none, some true, none]) (fuel := 40) (obs := [M + M ≤ 30000, L ≤ 65535, ctn t u r = true, M + M ≤ 30000, L ≤ 65535, ctn t u s = true]) (r := AV.val false [Seg.lit (Value.bool true)]) Tryz.func72 rfl (by kernel_rfl) ⟨by omega, by omega, h, by omega, by omega, h', trivial⟩)

abbrev k_vinside : List Pa → Option (List Prop × Av)
  | [.vv L r s, .vv M t u] => some ([L ≤ 15000, M ≤ 15000], avB (insB t u r s))
  | _ => none

theorem e_vinside (args : List Av) (obs : List Prop) (r : Av) : ent [.vv, .vv] k_vinside args = some (obs, r) → (∀ p ∈ obs, p) → Cn 72 args r :=
  ent_ok (fun ps obs r h ho => by
    unfold k_vinside at h
    split at h
    · cases h; exact inside_c _ _ _ _ _ _ (ho _ (by simp)) (ho _ (by simp))
    · cases h) args obs r

theorem isign_c (L : Nat) (r s : Rat) (hL : L ≤ 65535) : Cp 74 [.vv L r s] (avI (sgnI r s)) := by
  unfold sgnI
  by_cases h : s.num.sign = r.num.sign
  · rw [if_pos h]
    exact cp_of (wk tYl_ok (ds := [some false]) (fuel := 40) (obs := [L ≤ 65535, L ≤ 65535, (match Int.sign (Rat.num s) == Int.sign (Rat.num r) with | true => false | false => true) = false]) (r := AV.val false [Seg.lit (Value.int IntKind.i64 (Int.sign (Rat.num r)))]) Tryz.func74 rfl (by kernel_rfl) ⟨hL, hL, by simp [h], trivial⟩)
  · rw [if_neg h]
    exact cp_of (wk tYl_ok (ds := [some true]) (fuel := 40) (obs := [L ≤ 65535, L ≤ 65535, (match Int.sign (Rat.num s) == Int.sign (Rat.num r) with | true => false | false => true) = true]) (r := AV.val false [Seg.lit (Value.int IntKind.i64 (0 : Int))]) Tryz.func74 rfl (by kernel_rfl) ⟨hL, hL, show (!(s.num.sign == r.num.sign)) = true from by simp [h], trivial⟩)

abbrev k_vsign : List Pa → Option (List Prop × Av)
  | [.vv L r s] => some ([L ≤ 65535], avI (sgnI r s))
  | _ => none

theorem e_vsign (args : List Av) (obs : List Prop) (r : Av) : ent [.vv] k_vsign args = some (obs, r) → (∀ p ∈ obs, p) → Cn 74 args r :=
  ent_ok (fun ps obs r h ho => by
    unfold k_vsign at h
    split at h
    · cases h; exact isign_c _ _ _ (ho _ (by simp))
    · cases h) args obs r

theorem iadd_c (L M : Nat) (r s t u : Rat) (_hL : L ≤ 8000) (_hM : M ≤ 8000) : Cp 86 [.vv L r s, .vv M t u] (iv2 (minQ r s + minQ t u) (maxQ r s + maxQ t u)) :=
  cp_of (wk tI1_ok (ds := []) (fuel := 40) (obs := [L + L ≤ 65535, M + M ≤ 65535, L + L ≤ 16383, M + M ≤ 16383, L + L ≤ 16383, M + M ≤ 16383]) (r := AV.val (true) [Seg.sem (Kn.rat (minQ r s + minQ t u)), Seg.sem (Kn.rat (maxQ r s + maxQ t u))]) Tryz.func86 rfl (by kernel_rfl) (by simp only [AllP, and_true]; (repeat' apply And.intro) <;> omega))

abbrev k_vadd : List Pa → Option (List Prop × Av)
  | [.vv L r s, .vv M t u] => some ([L ≤ 8000, M ≤ 8000], iv2 (minQ r s + minQ t u) (maxQ r s + maxQ t u))
  | _ => none

theorem e_vadd (args : List Av) (obs : List Prop) (r : Av) : ent [.vv, .vv] k_vadd args = some (obs, r) → (∀ p ∈ obs, p) → Cn 86 args r :=
  ent_ok (fun ps obs r h ho => by
    unfold k_vadd at h
    split at h
    · cases h; exact iadd_c _ _ _ _ _ _ (ho _ (by simp)) (ho _ (by simp))
    · cases h) args obs r

theorem isub_c (L M : Nat) (r s t u : Rat) (_hL : L ≤ 8000) (_hM : M ≤ 8000) : Cp 88 [.vv L r s, .vv M t u] (iv2 (minQ r s - maxQ t u) (maxQ r s - minQ t u)) :=
  cp_of (wk tI1_ok (ds := []) (fuel := 40) (obs := [L + L ≤ 65535, M + M ≤ 65535, L + L ≤ 16383, M + M ≤ 16383, L + L ≤ 16383, M + M ≤ 16383]) (r := AV.val (true) [Seg.sem (Kn.rat (minQ r s - maxQ t u)), Seg.sem (Kn.rat (maxQ r s - minQ t u))]) Tryz.func88 rfl (by kernel_rfl) (by simp only [AllP, and_true]; (repeat' apply And.intro) <;> omega))

abbrev k_vsub : List Pa → Option (List Prop × Av)
  | [.vv L r s, .vv M t u] => some ([L ≤ 8000, M ≤ 8000], iv2 (minQ r s - maxQ t u) (maxQ r s - minQ t u))
  | _ => none

theorem e_vsub (args : List Av) (obs : List Prop) (r : Av) : ent [.vv, .vv] k_vsub args = some (obs, r) → (∀ p ∈ obs, p) → Cn 88 args r :=
  ent_ok (fun ps obs r h ho => by
    unfold k_vsub at h
    split at h
    · cases h; exact isub_c _ _ _ _ _ _ (ho _ (by simp)) (ho _ (by simp))
    · cases h) args obs r

abbrev mulI (r s t u : Rat) : Av := iv2 (min4 (r * t) (r * u) (s * t) (s * u)) (max4 (r * t) (r * u) (s * t) (s * u))

theorem imul_c (L M : Nat) (r s t u : Rat) (_hL : L ≤ 65535) (_hM : M ≤ 65535) (_hr : nq r ≤ 9999) (_hs : nq s ≤ 9999) (_ht : nq t ≤ 9999) (_hu : nq u ≤ 9999) : Cp 90 [.vv L r s, .vv M t u] (mulI r s t u) :=
  cp_of (wk4 (hint := (fun _ => none)) (es := tI1) (alts := []) (ls := lSp) tI1_ok trivial lSp_ok (ds := []) (fuel := 40) (obs := [L ≤ 65535, M ≤ 65535, L ≤ 65535, M ≤ 65535, L ≤ 65535, M ≤ 65535, L ≤ 65535, M ≤ 65535, nq (r * t) ≤ 65535 ∧ nq (r * u) ≤ 65535 ∧ nq (s * t) ≤ 65535 ∧ nq (s * u) ≤ 65535]) (r := AV.val (true) [Seg.sem (Kn.rat (min4 (r * t) (r * u) (s * t) (s * u))), Seg.sem (Kn.rat (max4 (r * t) (r * u) (s * t) (s * u)))]) Tryz.func90 rfl (by kernel_rfl) (by simp only [AllP, and_true]; have h1 := nq_mul r t; have h2 := nq_mul r u; have h3 := nq_mul s t; have h4 := nq_mul s u; (repeat' apply And.intro) <;> omega))

abbrev k_vmul : List Pa → Option (List Prop × Av)
  | [.vv L r s, .vv M t u] => some ([L ≤ 65535, M ≤ 65535, nq r ≤ 9999, nq s ≤ 9999, nq t ≤ 9999, nq u ≤ 9999], mulI r s t u)
  | _ => none

theorem e_vmul (args : List Av) (obs : List Prop) (r : Av) : ent [.vv, .vv] k_vmul args = some (obs, r) → (∀ p ∈ obs, p) → Cn 90 args r :=
  ent_ok (fun ps obs r h ho => by
    unfold k_vmul at h
    split at h
    · cases h; exact imul_c _ _ _ _ _ _ (ho _ (by simp)) (ho _ (by simp)) (ho _ (by simp)) (ho _ (by simp)) (ho _ (by simp)) (ho _ (by simp))
    · cases h) args obs r

noncomputable def tI4 : List Ent := (74, ent [.vv] k_vsign) :: (90, ent [.vv, .vv] k_vmul) :: (72, ent [.vv, .vv] k_vinside) :: (86, ent [.vv, .vv] k_vadd) :: (88, ent [.vv, .vv] k_vsub) :: (43, ent [.l] k_pof) :: (45, ent [.l, .l] k_pfrac) :: tI3

theorem tI4_ok : EntsOk tI4 := ⟨e_vsign, e_vmul, e_vinside, e_vadd, e_vsub, e_pof, e_pfrac, tI3_ok⟩

theorem isquare_c (L : Nat) (r s : Rat) (_hL : L ≤ 30000) (_hr : nq r ≤ 9999) (_hs : nq s ≤ 9999) : Cp 92 [.vv L r s] (iv2 (sqLo r s) (maxQ (r * r) (s * s))) := by
  have h1 := nq_mul r r
  have h2 := nq_mul s s
  unfold sqLo
  by_cases h : sgnI r s = 0
  · rw [if_pos h]
    exact cp_of (wk4 (hint := (fun _ => none)) (es := tI4) (alts := []) (ls := lSp) tI4_ok trivial lSp_ok (ds := [some true]) (fuel := 40) (obs := [L ≤ 65535, L ≤ 65535, L ≤ 65535, L ≤ 65535, nq (r * r) ≤ 65535 ∧ nq (s * s) ≤ 65535, L + L ≤ 65535, (sgnI r s == (0 : Int)) = true, (-9223372036854775808 : Int) ≤ (0 : Int), (0 : Int) ≤ (9223372036854775807 : Int)]) (r := AV.val (true) [Seg.sem (Kn.rat (↑(0 : Int) : Rat)), Seg.sem (Kn.rat (maxQ (r * r) (s * s)))]) Tryz.func92 rfl (by kernel_rfl) ⟨by omega, by omega, by omega, by omega, ⟨by omega, by omega⟩, by omega, by simp [h], by decide, by decide, trivial⟩)
  · rw [if_neg h]
    exact cp_of (wk4 (hint := (fun _ => none)) (es := tI4) (alts := []) (ls := lSp) tI4_ok trivial lSp_ok (ds := [some false]) (fuel := 40) (obs := [L ≤ 65535, L ≤ 65535, L ≤ 65535, L ≤ 65535, nq (r * r) ≤ 65535 ∧ nq (s * s) ≤ 65535, L + L ≤ 65535, (sgnI r s == (0 : Int)) = false]) (r := AV.val (true) [Seg.sem (Kn.rat (minQ (r * r) (s * s))), Seg.sem (Kn.rat (maxQ (r * r) (s * s)))]) Tryz.func92 rfl (by kernel_rfl) ⟨by omega, by omega, by omega, by omega, ⟨by omega, by omega⟩, by omega, by simp [h], trivial⟩)

abbrev k_vsquare : List Pa → Option (List Prop × Av)
  | [.vv L r s] => some ([L ≤ 30000, nq r ≤ 9999, nq s ≤ 9999], iv2 (sqLo r s) (maxQ (r * r) (s * s)))
  | _ => none

theorem e_vsquare (args : List Av) (obs : List Prop) (r : Av) : ent [.vv] k_vsquare args = some (obs, r) → (∀ p ∈ obs, p) → Cn 92 args r :=
  ent_ok (fun ps obs r h ho => by
    unfold k_vsquare at h
    split at h
    · cases h; exact isquare_c _ _ _ (ho _ (by simp)) (ho _ (by simp)) (ho _ (by simp))
    · cases h) args obs r

abbrev zI : List (Seg Kn) := [.lit (.bool false), .lit (.slice none 0 0), .lit (.slice none 0 0), .lit (.bool false), .lit (.slice none 0 0), .lit (.slice none 0 0)]

theorem idiv0_c (L M : Nat) (r s t u : Rat) (_hM : M ≤ 30000) (h : sgnI t u = 0) : Cp 63 [.vv L r s, .vv M t u] (.tup [(true, zI), (false, [.lit (.int .i64 3)])]) :=
  cp_of (wk tI4_ok (ds := [some true]) (fuel := 40) (obs := [M + M ≤ 65535, (sgnI t u == (0 : Int)) = true]) (r := AV.tup [(true, [Seg.lit (Value.bool false), Seg.lit (Value.slice none 0 0), Seg.lit (Value.slice none 0 0), Seg.lit (Value.bool false), Seg.lit (Value.slice none 0 0), Seg.lit (Value.slice none 0 0)]), (false, [Seg.lit (Value.int IntKind.i64 (3 : Int))])]) Tryz.func63 rfl (by kernel_rfl) ⟨by omega, by simp [h], trivial⟩)

theorem sgn_ne {t u : Rat} (h : sgnI t u ≠ 0) : t ≠ 0 ∧ u ≠ 0 := by
  unfold sgnI at h
  constructor
  · rintro rfl
    apply h
    split <;> rfl
  · rintro rfl
    apply h
    split
    · rename_i e; rw [← e]; rfl
    · rfl

theorem nq_dI (a b : Int) : nq (Rat.divInt a b) ≤ nz a + nz b + 1 := by
  have hz : nq 0 ≤ 1 := by
    unfold nq nz
    rw [show (0 : Rat).num = 0 from rfl, show (0 : Rat).den = 1 from rfl, Int.natAbs_zero, dg_zero, dg_one]
    decide
  rcases Int.lt_trichotomy b 0 with h | h | h
  · obtain ⟨D, rfl⟩ : ∃ D : Nat, b = -(D : Int) := ⟨b.natAbs, by omega⟩
    obtain ⟨l1, l2, _⟩ := low_neg (z := a) (D := D) (by omega) rfl
    unfold nq
    rw [l1, l2, nz_neg, nz_neg, nz_nat]
    have h1 := nz_floor' a ((Nat.gcd a.natAbs D : Nat) : Int)
    have h2 := dg_len_mono (Nat.div_le_self D (Nat.gcd a.natAbs D))
    omega
  · rw [h, Rat.divInt_zero]; omega
  · obtain ⟨D, rfl⟩ := Int.eq_ofNat_of_zero_le (Int.le_of_lt h)
    obtain ⟨l1, l2, _⟩ := low_pos (z := a) (D := D) (by omega) rfl
    unfold nq
    rw [l1, l2, nz_nat]
    have h1 := nz_floor' a ((Nat.gcd a.natAbs D : Nat) : Int)
    have h2 := dg_len_mono (Nat.div_le_self D (Nat.gcd a.natAbs D))
    omega

theorem nq_inv (t : Rat) : nq (1 / t) ≤ nq t + 1 := by
  rw [Rat.div_def, Rat.one_mul, Rat.inv_def]
  have h := nq_dI (t.den : Int) t.num
  rw [nz_nat] at h
  unfold nq at *
  omega

theorem idiv_c (L M : Nat) (r s t u : Rat) (_hL : L ≤ 30000) (_hM : M ≤ 30000) (_hr : nq r ≤ 4999) (_hs : nq s ≤ 4999) (_ht : nq t ≤ 4999) (_hu : nq u ≤ 4999) (h : sgnI t u ≠ 0) : Cp 63 [.vv L r s, .vv M t u] (.tup [(true, [.sem (.rat (min4 (r * (1 / t)) (r * (1 / u)) (s * (1 / t)) (s * (1 / u)))), .sem (.rat (max4 (r * (1 / t)) (r * (1 / u)) (s * (1 / t)) (s * (1 / u))))]), (false, [.lit (.int .i64 0)])]) := by
  have h1 : nq (((1 : Int) : Rat) / t) ≤ nq t + 1 := nq_inv t
  have h2 : nq (((1 : Int) : Rat) / u) ≤ nq u + 1 := nq_inv u
  have h3 := sgn_ne h
  exact cp_of (wk tI4_ok (ds := [some false]) (fuel := 40) (obs := [M + M ≤ 65535, (sgnI t u == (0 : Int)) = false, (-9223372036854775808 : Int) ≤ (1 : Int), (1 : Int) ≤ (9223372036854775807 : Int), 2 ≤ 65535, M ≤ 65535, t ≠ (0 : Rat), 2 ≤ 65535, M ≤ 65535, u ≠ (0 : Rat), L + L ≤ 65535, nq ((↑(1 : Int) : Rat) / t) + nq ((↑(1 : Int) : Rat) / u) ≤ 65535, nq r ≤ 9999, nq s ≤ 9999, nq ((↑(1 : Int) : Rat) / t) ≤ 9999, nq ((↑(1 : Int) : Rat) / u) ≤ 9999]) (r := AV.tup [(true, [Seg.sem (Kn.rat (min4 (r * ((↑(1 : Int) : Rat) / t)) (r * ((↑(1 : Int) : Rat) / u)) (s * ((↑(1 : Int) : Rat) / t)) (s * ((↑(1 : Int) : Rat) / u)))), Seg.sem (Kn.rat (max4 (r * ((↑(1 : Int) : Rat) / t)) (r * ((↑(1 : Int) : Rat) / u)) (s * ((↑(1 : Int) : Rat) / t)) (s * ((↑(1 : Int) : Rat) / u))))]), (false, [Seg.lit (Value.int IntKind.i64 (0 : Int))])]) Tryz.func63 rfl (by kernel_rfl) (by simp only [AllP, and_true]; (repeat' apply And.intro) <;> first | omega | exact h3.1 | exact h3.2 | simpa using h))

abbrev k_vdiv : List Pa → Option (List Prop × Av)
  | [.vv L r s, .vv M t u] => some ([L ≤ 30000, M ≤ 30000, nq r ≤ 4999, nq s ≤ 4999, nq t ≤ 4999, nq u ≤ 4999, sgnI t u ≠ 0], .tup [(true, [.sem (.rat (min4 (r * (1 / t)) (r * (1 / u)) (s * (1 / t)) (s * (1 / u)))), .sem (.rat (max4 (r * (1 / t)) (r * (1 / u)) (s * (1 / t)) (s * (1 / u))))]), (false, [.lit (.int .i64 0)])])
  | _ => none

theorem e_vdiv (args : List Av) (obs : List Prop) (r : Av) : ent [.vv, .vv] k_vdiv args = some (obs, r) → (∀ p ∈ obs, p) → Cn 63 args r :=
  ent_ok (fun ps obs r h ho => by
    unfold k_vdiv at h
    split at h
    · cases h; exact idiv_c _ _ _ _ _ _ (ho _ (by simp)) (ho _ (by simp)) (ho _ (by simp)) (ho _ (by simp)) (ho _ (by simp)) (ho _ (by simp)) (ho _ (by simp))
    · cases h) args obs r

abbrev k_vdiv0 : List Pa → Option (List Prop × Av)
  | [.vv _L _r _s, .vv M t u] => some ([M ≤ 30000, sgnI t u = 0], .tup [(true, zI), (false, [.lit (.int .i64 3)])])
  | _ => none

theorem e_vdiv0 (args : List Av) (obs : List Prop) (r : Av) : ent [.vv, .vv] k_vdiv0 args = some (obs, r) → (∀ p ∈ obs, p) → Cn 63 args r :=
  ent_ok (fun ps obs r h ho => by
    unfold k_vdiv0 at h
    split at h
    · cases h; exact idiv0_c _ _ _ _ _ _ (ho _ (by simp)) (ho _ (by simp))
    · cases h) args obs r

end Go.Proofs.YtagciepnhjbopaaGreatDoor

namespace Go.Proofs.YtagciepnhjbopaaGreatDoor
open Go.RowKit En

noncomputable def tXl : List Ent := (18, k_qsame) :: (40, ent [.l, .l] k_mmod) :: tQ4

theorem tXl_ok : EntsOk tXl := ⟨e_qsame, e_mmod, tQ4_ok⟩

theorem min_c (q s : Rat) : (if cmpQ s q < 0 then s else q) = minQ q s := by unfold minQ; simp only [cmp_lt]

theorem max_c (q s : Rat) : (if cmpQ q s < 0 then s else q) = maxQ q s := by unfold maxQ; simp only [cmp_lt]

theorem qminM (L M : Nat) (q s : Rat) (hL : L ≤ 65535) (hM : M ≤ 65535) : Cp 145 [.r L q, .r M s] (sv (.rat (minQ q s))) := min_c q s ▸ qmin L M q s hL hM

theorem qmaxM (L M : Nat) (q s : Rat) (hL : L ≤ 65535) (hM : M ≤ 65535) : Cp 144 [.r L q, .r M s] (sv (.rat (maxQ q s))) := max_c q s ▸ qmax L M q s hL hM

abbrev k_qminM : List Pa → Option (List Prop × Av)
  | [.r L q, .r M s] => some ([L ≤ 65535, M ≤ 65535], sv (.rat (minQ q s)))
  | _ => none

theorem e_qminM (args : List Av) (obs : List Prop) (r : Av) : ent [.r, .r] k_qminM args = some (obs, r) → (∀ p ∈ obs, p) → Cn 145 args r :=
  ent_ok (fun ps obs r h ho => by
    unfold k_qminM at h
    split at h
    · cases h; exact qminM _ _ _ _ (ho _ (by simp)) (ho _ (by simp))
    · cases h) args obs r

abbrev k_qmaxM : List Pa → Option (List Prop × Av)
  | [.r L q, .r M s] => some ([L ≤ 65535, M ≤ 65535], sv (.rat (maxQ q s)))
  | _ => none

theorem e_qmaxM (args : List Av) (obs : List Prop) (r : Av) : ent [.r, .r] k_qmaxM args = some (obs, r) → (∀ p ∈ obs, p) → Cn 144 args r :=
  ent_ok (fun ps obs r h ho => by
    unfold k_qmaxM at h
    split at h
    · cases h; exact qmaxM _ _ _ _ (ho _ (by simp)) (ho _ (by simp))
    · cases h) args obs r

noncomputable def tJ1 : List Ent := (145, ent [.r, .r] k_qminM) :: (144, ent [.r, .r] k_qmaxM) :: tXl

theorem tJ1_ok : EntsOk tJ1 := ⟨e_qminM, e_qmaxM, tXl_ok⟩

theorem jtrim_c (L : Nat) (r s : Rat) (hL : L ≤ 65535) : Cp 79 [.vv L r s] (iv2 (minQ r s) (maxQ r s)) :=
  cp_of (wk tJ1_ok (ds := []) (fuel := 40) (obs := [L ≤ 65535, L ≤ 65535, L ≤ 65535, L ≤ 65535]) (r := AV.val (true) [Seg.sem (Kn.rat (minQ r s)), Seg.sem (Kn.rat (maxQ r s))]) Tryz.func79 rfl (by kernel_rfl) ⟨hL, hL, hL, hL, trivial⟩)

abbrev k_jtrim : List Pa → Option (List Prop × Av)
  | [.vv L r s] => some ([L ≤ 65535], iv2 (minQ r s) (maxQ r s))
  | _ => none

theorem e_jtrim (args : List Av) (obs : List Prop) (r : Av) : ent [.vv] k_jtrim args = some (obs, r) → (∀ p ∈ obs, p) → Cn 79 args r :=
  ent_ok (fun ps obs r h ho => by
    unfold k_jtrim at h
    split at h
    · cases h; exact jtrim_c _ _ _ (ho _ (by simp))
    · cases h) args obs r

noncomputable def tJ2 : List Ent := (79, ent [.vv] k_jtrim) :: tJ1

theorem tJ2_ok : EntsOk tJ2 := ⟨e_jtrim, tJ1_ok⟩

theorem jmake_c (L M : Nat) (r s : Rat) (_hL : L ≤ 32767) (_hM : M ≤ 32767) : Cp 81 [.r L r, .r M s] (iv2 (minQ r s) (maxQ r s)) :=
  cp_of (wk tJ2_ok (ds := []) (fuel := 40) (obs := [L + M ≤ 65535]) (r := AV.val (true) [Seg.sem (Kn.rat (minQ r s)), Seg.sem (Kn.rat (maxQ r s))]) Tryz.func81 rfl (by kernel_rfl) (by simp only [AllP, and_true]; omega))

abbrev k_jmake : List Pa → Option (List Prop × Av)
  | [.r L r, .r M s] => some ([L ≤ 32767, M ≤ 32767], iv2 (minQ r s) (maxQ r s))
  | _ => none

theorem e_jmake (args : List Av) (obs : List Prop) (r : Av) : ent [.r, .r] k_jmake args = some (obs, r) → (∀ p ∈ obs, p) → Cn 81 args r :=
  ent_ok (fun ps obs r h ho => by
    unfold k_jmake at h
    split at h
    · cases h; exact jmake_c _ _ _ _ (ho _ (by simp)) (ho _ (by simp))
    · cases h) args obs r

theorem jsame (a b c d : Rat) : Cn 67 [iv2 a b, iv2 c d] (avB (eqI a b c d)) := by
  unfold eqI
  by_cases h : a = c
  · rw [decide_eq_true h, Bool.true_and]
    exact (wk tXl_ok (ds := [none, some true, none]) (fuel := 40) (obs := [decide (a = c) = true]) (r := AV.val false [Seg.lit (Value.bool (decide (b = d)))]) Tryz.func67 rfl (by kernel_rfl) ⟨decide_eq_true h, trivial⟩)
  · rw [decide_eq_false h, Bool.false_and]
    exact (wk tXl_ok (ds := [none, some false, none]) (fuel := 40) (obs := [decide (a = c) = false]) (r := AV.val false [Seg.lit (Value.bool false)]) Tryz.func67 rfl (by kernel_rfl) ⟨decide_eq_false h, trivial⟩)

theorem jsame0 : Cn 67 [.val true zI, .val true zI] (avB true) := (wk tXl_ok (ds := []) (fuel := 40) (obs := []) (r := AV.val false [Seg.lit (Value.bool true)]) Tryz.func67 rfl (by kernel_rfl) trivial)

abbrev k_jsame : List Av → Option (List Prop × Av)
  | [.val true [.sem (.rat a), .sem (.rat b)], .val true [.sem (.rat c), .sem (.rat d)]] => some ([], avB (eqI a b c d))
  | [.val true [.lit (.bool false), .lit (.slice none 0 0), .lit (.slice none 0 0), .lit (.bool false), .lit (.slice none 0 0), .lit (.slice none 0 0)], .val true [.lit (.bool false), .lit (.slice none 0 0), .lit (.slice none 0 0), .lit (.bool false), .lit (.slice none 0 0), .lit (.slice none 0 0)]] => some ([], avB true)
  | _ => none

theorem e_jsame (args : List Av) (obs : List Prop) (r : Av) (h : k_jsame args = some (obs, r)) (_ho : ∀ p ∈ obs, p) : Cn 67 args r := by
  unfold k_jsame at h
  split at h
  · cases h; exact jsame _ _ _ _
  · cases h; exact jsame0
  · cases h

theorem jcontains_c (L M : Nat) (r s x : Rat) (_hL : L ≤ 30000) (hM : M ≤ 65535) (_hr : nq r ≤ 9999) (_hs : nq s ≤ 9999) : Cp 71 [.vv L r s, .r M x] (avB (ctn r s x)) := by
  have h1 := nq_minQ r s
  have h2 := nq_maxQ r s
  unfold ctn
  by_cases h : minQ r s ≤ x
  · rw [decide_eq_true h, Bool.true_and]
    by_cases h' : x ≤ maxQ r s
    · rw [decide_eq_true h']
      exact cp_of (wk tJ2_ok (ds := [none, some false, none, none, some false, none, none]) (fuel := 40) (obs := [L + L ≤ 65535, M ≤ 65535, nq (minQ r s) ≤ 65535, decide (cmpQ x (minQ r s) < (0 : Int)) = false, nq (maxQ r s) ≤ 65535, M ≤ 65535, decide (cmpQ (maxQ r s) x < (0 : Int)) = false]) (r := AV.val false [Seg.lit (Value.bool true)]) Tryz.func71 rfl (by kernel_rfl) ⟨by omega, hM, by omega, nlt_d (Rat.not_lt.mpr h), by omega, hM, nlt_d (Rat.not_lt.mpr h'), trivial⟩)
    · rw [decide_eq_false h']
      exact cp_of (wk tJ2_ok (ds := [none, some false, none, none, some true, none, none]) (fuel := 40) (obs := [L + L ≤ 65535, M ≤ 65535, nq (minQ r s) ≤ 65535, decide (cmpQ x (minQ r s) < (0 : Int)) = false, nq (maxQ r s) ≤ 65535, M ≤ 65535, decide (cmpQ (maxQ r s) x < (0 : Int)) = true]) (r := AV.val false [Seg.lit (Value.bool false)]) Tryz.func71 rfl (by kernel_rfl) ⟨by omega, hM, by omega, nlt_d (Rat.not_lt.mpr h), by omega, hM, lt_d (Rat.not_le.mp h'), trivial⟩)
  · rw [decide_eq_false h, Bool.false_and]
    exact cp_of (wk tJ2_ok (ds := [none, some true, none, none, none]) (fuel := 40) (obs := [L + L ≤ 65535, M ≤ 65535, nq (minQ r s) ≤ 65535, decide (cmpQ x (minQ r s) < (0 : Int)) = true]) (r := AV.val false [Seg.lit (Value.bool false)]) Tryz.func71 rfl (by kernel_rfl) ⟨by omega, hM, by omega, lt_d (Rat.not_le.mp h), trivial⟩)

abbrev k_jcontains : List Pa → Option (List Prop × Av)
  | [.vv L r s, .r M x] => some ([L ≤ 30000, M ≤ 65535, nq r ≤ 9999, nq s ≤ 9999], avB (ctn r s x))
  | _ => none

theorem e_jcontains (args : List Av) (obs : List Prop) (r : Av) : ent [.vv, .r] k_jcontains args = some (obs, r) → (∀ p ∈ obs, p) → Cn 71 args r :=
  ent_ok (fun ps obs r h ho => by
    unfold k_jcontains at h
    split at h
    · cases h; exact jcontains_c _ _ _ _ _ (ho _ (by simp)) (ho _ (by simp)) (ho _ (by simp)) (ho _ (by simp))
    · cases h) args obs r

theorem jwidth_c (L : Nat) (r s : Rat) (_hL : L ≤ 30000) (_hr : nq r ≤ 9999) (_hs : nq s ≤ 9999) : Cp 83 [.vv L r s] (sv (.rat (maxQ r s - minQ r s))) := by
  have h1 := nq_minQ r s
  have h2 := nq_maxQ r s
  exact cp_of (wk tJ2_ok (ds := []) (fuel := 40) (obs := [L + L ≤ 65535, nq (maxQ r s) ≤ 65535, nq (minQ r s) ≤ 65535, nq (minQ r s) ≤ 65535]) (r := AV.val (true) [Seg.sem (Kn.rat (maxQ r s - minQ r s))]) Tryz.func83 rfl (by kernel_rfl) (by simp only [AllP, and_true]; (repeat' apply And.intro) <;> omega))

abbrev k_jwidth : List Pa → Option (List Prop × Av)
  | [.vv L r s] => some ([L ≤ 30000, nq r ≤ 9999, nq s ≤ 9999], sv (.rat (maxQ r s - minQ r s)))
  | _ => none

theorem e_jwidth (args : List Av) (obs : List Prop) (r : Av) : ent [.vv] k_jwidth args = some (obs, r) → (∀ p ∈ obs, p) → Cn 83 args r :=
  ent_ok (fun ps obs r h ho => by
    unfold k_jwidth at h
    split at h
    · cases h; exact jwidth_c _ _ _ (ho _ (by simp)) (ho _ (by simp)) (ho _ (by simp))
    · cases h) args obs r

noncomputable def tJ3 : List Ent := (81, ent [.r, .r] k_jmake) :: (67, k_jsame) :: (71, ent [.vv, .r] k_jcontains) :: (83, ent [.vv] k_jwidth) :: tJ2

theorem tJ3_ok : EntsOk tJ3 := ⟨e_jmake, e_jsame, e_jcontains, e_jwidth, tJ2_ok⟩

end Go.Proofs.YtagciepnhjbopaaGreatDoor
