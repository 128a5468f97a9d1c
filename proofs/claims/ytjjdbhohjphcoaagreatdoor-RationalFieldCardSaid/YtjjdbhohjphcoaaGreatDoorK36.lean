/- What the statements of this claim stand on: of RatOrd, Lw3, what they name -/
import Derived.Test.YtjjdbhohjphcoaaGreatDoorK18
import Derived.Test.YtjjdbhohjphcoaaGreatDoorK33
import Derived.Test.YtjjdbhohjphcoaaGreatDoorK34
import Derived.Test.YtjjdbhohjphcoaaGreatDoorK35

namespace Go.Proofs.YtjjdbhohjphcoaaGreatDoor
theorem cmp_swap (r s : Rat) : cmpQ s r = -cmpQ r s := by
  unfold cmpQ
  by_cases h : r < s <;> by_cases h' : s < r <;> simp [h, h'] <;> grind

theorem cmp_add (r s c : Rat) : cmpQ (r + c) (s + c) = cmpQ r s := by
  have h1 : r + c < s + c ↔ r < s := by constructor <;> intro h <;> grind
  have h2 : s + c < r + c ↔ s < r := by constructor <;> intro h <;> grind
  unfold cmpQ
  simp only [h1, h2]

theorem sign_cmp (r : Rat) : r.num.sign = cmpQ r 0 := by
  unfold cmpQ
  by_cases h : r < 0
  · rw [if_pos h, Int.sign_eq_neg_one_of_neg (by have := mt Rat.num_nonneg.1 (by grind : ¬ 0 ≤ r); omega)]
  · rw [if_neg h]
    by_cases h' : 0 < r
    · have h1 := Rat.num_nonneg.2 (by grind : 0 ≤ r)
      have h2 : r.num ≠ 0 := fun e => by
        rw [Rat.num_eq_zero] at e
        grind
      rw [if_pos h', Int.sign_eq_one_of_pos (by omega)]
    · rw [if_neg h']
      have : r = 0 := by grind
      rw [this]; rfl

theorem sign_sub (r s : Rat) : (r - s).num.sign = cmpQ r s := by
  rw [sign_cmp]
  have h1 : r - s < 0 ↔ r < s := by constructor <;> intro h <;> grind
  have h2 : 0 < r - s ↔ s < r := by constructor <;> intro h <;> grind
  unfold cmpQ
  simp only [h1, h2]

theorem cmp_mul (r s c : Rat) : cmpQ (r * c) (s * c) = cmpQ r s * c.num.sign := by
  rw [sign_cmp]
  unfold cmpQ
  by_cases h : c < 0
  · have k1 : r * c < s * c ↔ s < r := by
      constructor
      · intro q
        apply Classical.byContradiction
        intro hn
        have h1 : r ≤ s := by grind
        have := Rat.mul_le_mul_of_nonneg_right h1 (c := -c) (by grind)
        grind
      · intro q
        have := Rat.mul_lt_mul_of_pos_right q (c := -c) (by grind)
        grind
    have k2 : s * c < r * c ↔ r < s := by
      constructor
      · intro q
        apply Classical.byContradiction
        intro hn
        have h1 : s ≤ r := by grind
        have := Rat.mul_le_mul_of_nonneg_right h1 (c := -c) (by grind)
        grind
      · intro q
        have := Rat.mul_lt_mul_of_pos_right q (c := -c) (by grind)
        grind
    simp only [k1, k2, if_pos h]
    by_cases a : r < s <;> by_cases b : s < r <;> simp [a, b] <;> grind
  · by_cases h' : 0 < c
    · have k1 : r * c < s * c ↔ r < s := by
        constructor
        · intro q
          apply Classical.byContradiction
          intro hn
          have h1 : s ≤ r := by grind
          have := Rat.mul_le_mul_of_nonneg_right h1 (c := c) (by grind)
          grind
        · intro q
          exact Rat.mul_lt_mul_of_pos_right q h'
      have k2 : s * c < r * c ↔ s < r := by
        constructor
        · intro q
          apply Classical.byContradiction
          intro hn
          have h1 : r ≤ s := by grind
          have := Rat.mul_le_mul_of_nonneg_right h1 (c := c) (by grind)
          grind
        · intro q
          exact Rat.mul_lt_mul_of_pos_right q h'
      simp only [k1, k2, if_neg h, if_pos h']
      omega
    · have : c = 0 := by grind
      subst this
      simp [Rat.mul_zero]

theorem cmp_bd (r s : Rat) : -1 ≤ cmpQ r s ∧ cmpQ r s ≤ 1 := by
  unfold cmpQ
  split
  · decide
  · split <;> decide

end Go.Proofs.YtjjdbhohjphcoaaGreatDoor

namespace Go.Proofs.YtjjdbhohjphcoaaGreatDoor
open Go.RowKit

theorem add_e {w : World} {L M : Nat} {r s q : Rat} {u u' : Value} (hq : r + s = q) (ht : Tab w) (h : VR w L r u) (h' : VR w M s u') (hL : L ≤ 65535) (hM : M ≤ 65535) : Calls Tryz.prog 31 #[u, u'] w (RV (fun w' => VQ w' q) w) := hq ▸ add_v ht h h' hL hM

theorem sub_e {w : World} {L M : Nat} {r s q : Rat} {u u' : Value} (hq : r - s = q) (ht : Tab w) (h : VR w L r u) (h' : VR w M s u') (hL : L ≤ 65535) (hM : M ≤ 65535) : Calls Tryz.prog 33 #[u, u'] w (RV (fun w' => VQ w' q) w) := hq ▸ sub_v ht h h' hL hM

theorem mul_e {w : World} {L M : Nat} {r s q : Rat} {u u' : Value} (hq : r * s = q) (ht : Tab w) (h : VR w L r u) (h' : VR w M s u') (hL : L ≤ 65535) (hM : M ≤ 65535) : Calls Tryz.prog 35 #[u, u'] w (RV (fun w' => VQ w' q) w) := hq ▸ mul_v ht h h' hL hM

theorem cmp_e {w : World} {L M : Nat} {r s : Rat} {c : Int} {u u' : Value} (hc : cmpQ r s = c) (ht : Tab w) (h : VR w L r u) (h' : VR w M s u') (hL : L ≤ 65535) (hM : M ≤ 65535) : Calls Tryz.prog 23 #[u, u'] w (RN c w) := hc ▸ cmp_v ht h h' hL hM

theorem sign_e {w : World} {L : Nat} {r : Rat} {c : Int} {u : Value} (hc : r.num.sign = c) (h : VR w L r u) (hL : L ≤ 65535) : Calls Tryz.prog 21 #[u] w (RN c w) := hc ▸ sign_v h hL

theorem div_e {w : World} {L M : Nat} {r s q : Rat} {u u' : Value} (hq : r / s = q) (ht : Tab w) (h : VR w L r u) (h' : VR w M s u') (hL : L ≤ 65535) (hM : M ≤ 65535) (h0 : s ≠ 0) : Calls Tryz.prog 16 #[u, u'] w (RM q w) := hq ▸ div_v ht h h' hL hM h0

theorem div_e0 {w : World} {L M : Nat} {r s : Rat} {u u' : Value} (h0 : s = 0) (ht : Tab w) (h : VR w L r u) (h' : VR w M s u') (hL : L ≤ 65535) (hM : M ≤ 65535) : Calls Tryz.prog 16 #[u, u'] w fun e w' => e = .returned (.tuple #[rw' false none 0 0 none 0 0, .int .i64 3]) ∧ Fr [] w w' := by
  subst h0; exact div_0 ht h h' hL hM

theorem same_e {w : World} {r s : Rat} {u u' : Value} (hs : r = s) (h : VQ w r u) (h' : VQ w s u') : Calls Tryz.prog 18 #[u, u'] w (RB true w) := by
  subst hs; exact same_q h h'

theorem nq_vr {w : World} {r : Rat} {u : Value} (h : VR w 4 r u) : nq r ≤ 9 := by
  obtain ⟨z1, d1, hd1, hm1, hz1, hy1, p1⟩ := h.parts
  exact nq_le hd1 hm1 hz1 hy1

set_option maxRecDepth 100000 in
set_option maxHeartbeats 1000000 in
theorem smallrat_any (g : Bool) (p q : Option Addr) (n c m d : Nat) (w : World) : Calls Tryz.prog 14 #[rw' g p n c q m d] w (RB (decide (n ≤ 4) && decide (m ≤ 4)) w) := by
  by_cases h1 : n ≤ 4
  · have t1 : decide ((n : Int) ≤ 4) = true := decide_eq_true (by omega)
    by_cases h2 : m ≤ 4
    · have t2 : decide ((m : Int) ≤ 4) = true := decide_eq_true (by omega)
      rw [decide_eq_true h1, decide_eq_true h2]
      go_enter Tryz.func14, Tryz.ntmps14
      go_wp2_with fail
      go_ret
      exact ⟨rfl, (Fr.refl _ _).alloc _⟩
    · have t2 : decide ((m : Int) ≤ 4) = false := decide_eq_false (by omega)
      rw [decide_eq_true h1, decide_eq_false h2]
      go_enter Tryz.func14, Tryz.ntmps14
      go_wp2_with fail
      go_ret
      exact ⟨rfl, (Fr.refl _ _).alloc _⟩
  · have t1 : decide ((n : Int) ≤ 4) = false := decide_eq_false (by omega)
    rw [decide_eq_false h1]
    go_enter Tryz.func14, Tryz.ntmps14
    go_wp2_with fail
    go_ret
    exact ⟨rfl, (Fr.refl _ _).alloc _⟩

theorem smallrat_e {g : Bool} {p q : Option Addr} {n c m d : Nat} {b : Bool} (hb : (decide (n ≤ 4) && decide (m ≤ 4)) = b) (w : World) : Calls Tryz.prog 14 #[rw' g p n c q m d] w (RB b w) := hb ▸ smallrat_any g p q n c m d w

theorem vr_small {w : World} {r : Rat} {g : Bool} {p q : Option Addr} {n c m d : Nat} (h : VR w 4 r (rw' g p n c q m d)) : (decide (n ≤ 4) && decide (m ≤ 4)) = true := by
  obtain ⟨_, _, _, _, _, _, _, _, _, e, _, _, _, l, l'⟩ := h
  cases e
  simp [l, l']

end Go.Proofs.YtjjdbhohjphcoaaGreatDoor
