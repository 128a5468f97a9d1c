/- The highest 64 bits of two numbers, and what the steps on them say of the numbers. No program. -/
import Derived.Test.YtfjhdhmneknmkaaNum
import Derived.Test.YtfjhdhmneknmkaaGcdNum
namespace Go.Proofs.Ytfjhdhmneknmkaa

/-- The 64 bits that 'window' reads. -/
def win (xs : List Nat) (n up : Nat) : Nat := (gd xs (n - 1) * 4294967296 + gd xs (n - 2)) * 2 ^ up + gd xs (n - 3) / 2 ^ (32 - up)
/-- What stands behind them. -/
def wlo (xs : List Nat) (n up : Nat) : Nat := val (xs.take (n - 3)) + pB (n - 3) * (gd xs (n - 3) % 2 ^ (32 - up))

theorem two_up {up : Nat} (h : up ≤ 31) : 2 ^ up * 2 ^ (32 - up) = 4294967296 := by rw [← Nat.pow_add, Nat.add_sub_cancel' (by omega)]

theorem win_val {xs : List Nat} {n up : Nat} (hl : xs.length = n) (hn : 3 ≤ n) (hup : up ≤ 31) :
    val xs = win xs n up * (pB (n - 3) * 2 ^ (32 - up)) + wlo xs n up := by
  obtain ⟨k, rfl⟩ : ∃ k, n = k + 3 := ⟨n - 3, by omega⟩
  have e1 := val_take_succ xs (k + 2)
  have e2 := val_take_succ xs (k + 1)
  have e3 := val_take_succ xs k
  rw [List.take_of_length_le (by omega)] at e1
  rw [e2, e3] at e1
  simp only [pB_succ] at e1
  clear e2 e3
  unfold win wlo
  rw [show k + 3 - 1 = k + 2 from rfl, show k + 3 - 2 = k + 1 from rfl, show k + 3 - 3 = k from rfl]
  have hP := two_up hup
  have hd := Nat.div_add_mod (gd xs k) (2 ^ (32 - up))
  generalize gd xs k / 2 ^ (32 - up) = q at *
  generalize gd xs k % 2 ^ (32 - up) = r at *
  rw [e1, ← hd]
  generalize 2 ^ up = U at *
  generalize 2 ^ (32 - up) = V at *
  generalize pB k = B at *
  generalize gd xs (k + 1) = d1 at *
  generalize gd xs (k + 2) = d2 at *
  generalize val (xs.take k) = lo at *
  rw [← hP]
  clear hP hd e1
  grind

theorem wlo_lt {xs : List Nat} {n up : Nat} (hd : Dg xs) (hl : xs.length = n) (hn : 3 ≤ n) : wlo xs n up < pB (n - 3) * 2 ^ (32 - up) := by
  have h1 := val_lt (hd.take (n - 3))
  rw [List.length_take, Nat.min_eq_left (by omega)] at h1
  have h2 := Nat.mod_lt (gd xs (n - 3)) (Nat.two_pow_pos (32 - up))
  have h3 : pB (n - 3) * (gd xs (n - 3) % 2 ^ (32 - up) + 1) ≤ pB (n - 3) * 2 ^ (32 - up) := Nat.mul_le_mul_left _ h2
  unfold wlo
  rw [Nat.mul_add, Nat.mul_one] at h3
  omega

theorem win_lt {xs : List Nat} {n up : Nat} (hd : Dg xs) (hup : up ≤ 31) (htop : gd xs (n - 1) * 2 ^ up < 4294967296) : win xs n up < 18446744073709551616 := by
  have d2 := hd.at (n - 2)
  have d3 := hd.at (n - 3)
  have hP := two_up hup
  have h1 : gd xs (n - 1) < 2 ^ (32 - up) := by
    apply Nat.lt_of_mul_lt_mul_right (a := 2 ^ up)
    rw [Nat.mul_comm (2 ^ (32 - up)), hP]
    exact htop
  have hq : (gd xs (n - 1) + 1) * 2 ^ up ≤ 4294967296 := by
    have h2 : (gd xs (n - 1) + 1) * 2 ^ up ≤ 2 ^ (32 - up) * 2 ^ up := Nat.mul_le_mul_right _ h1
    rw [Nat.mul_comm (2 ^ (32 - up)), hP] at h2
    exact h2
  have hF : gd xs (n - 3) / 2 ^ (32 - up) < 2 ^ up := by
    rw [Nat.div_lt_iff_lt_mul (Nat.two_pow_pos _), hP]
    exact d3
  have h3 : (gd xs (n - 1) * 4294967296 + gd xs (n - 2) + 1) * 2 ^ up ≤ ((gd xs (n - 1) + 1) * 4294967296) * 2 ^ up := Nat.mul_le_mul_right _ (by omega)
  rw [Nat.mul_right_comm] at h3
  have h4 : (gd xs (n - 1) + 1) * 2 ^ up * 4294967296 ≤ 4294967296 * 4294967296 := Nat.mul_le_mul_right _ hq
  rw [Nat.add_mul _ 1, Nat.one_mul] at h3
  unfold win
  omega

theorem win_pos {xs : List Nat} {n up : Nat} (h : gd xs (n - 1) ≠ 0) : 0 < win xs n up := by
  unfold win
  have h1 : 0 < gd xs (n - 1) * 4294967296 + gd xs (n - 2) := by omega
  have h2 := Nat.mul_pos h1 (Nat.two_pow_pos up)
  generalize (gd xs (n - 1) * 4294967296 + gd xs (n - 2)) * 2 ^ up = z at *
  exact Nat.lt_of_lt_of_le h2 (Nat.le_add_right _ _)

theorem win_le {xs ys : List Nat} {n up : Nat} (hx : xs.length = n) (hy : ys.length = n) (dx : Dg xs) (hn : 3 ≤ n) (hup : up ≤ 31) (h : val ys ≤ val xs) : win ys n up ≤ win xs n up := by
  rw [win_val hx hn hup, win_val hy hn hup] at h
  have h1 := wlo_lt (up := up) dx hx hn
  have hS : 0 < pB (n - 3) * 2 ^ (32 - up) := Nat.mul_pos (pB_pos _) (Nat.two_pow_pos _)
  generalize pB (n - 3) * 2 ^ (32 - up) = S at *
  apply Nat.le_of_lt_succ
  apply Nat.lt_of_mul_lt_mul_right (a := S)
  rw [Nat.succ_mul]
  omega

theorem top_le {xs ys : List Nat} {n : Nat} (hx : xs.length = n) (hy : ys.length = n) (dx : Dg xs) (hn : 1 ≤ n) (h : val ys ≤ val xs) : gd ys (n - 1) ≤ gd xs (n - 1) := by
  have e1 := val_take_succ xs (n - 1)
  have e2 := val_take_succ ys (n - 1)
  rw [List.take_of_length_le (by omega)] at e1 e2
  have h1 := val_lt (dx.take (n - 1))
  rw [List.length_take, Nat.min_eq_left (by omega)] at h1
  generalize pB (n - 1) = S at *
  apply Nat.le_of_lt_succ
  apply Nat.lt_of_mul_lt_mul_left (a := S)
  rw [Nat.mul_succ]
  omega

/-- What 'simulate' found: cofactors that make smaller numbers of X and Y with the same greatest common divisor. -/
structure Cof (odd : Bool) (u0 u1 v0 v1 X Y : Nat) : Prop where
  b0 : u0 < 4294967296
  b1 : u1 < 4294967296
  b2 : v0 < 4294967296
  b3 : v1 < 4294967296
  n0 : 1 ≤ v0
  n1 : 1 ≤ v1
  ho : odd = true → v0 * Y ≤ u0 * X ∧ u1 * X ≤ v1 * Y ∧ v1 * Y - u1 * X ≤ u0 * X - v0 * Y ∧ u0 * v1 = u1 * v0 + 1
  he : odd = false → u0 * X ≤ v0 * Y ∧ v1 * Y ≤ u1 * X ∧ u1 * X - v1 * Y ≤ v0 * Y - u0 * X ∧ u1 * v0 = u0 * v1 + 1

/-- The cofactors of the step before: those for which Collins's condition held. -/
def Prev (P Q : Nat) (odd : Bool) (u0 u1 v0 v1 : Nat) : Prop := v0 = 0 ∨ ∃ p q, St P Q (!odd) u0 u1 v0 v1 p q ∧ v1 ≤ q ∧ v0 + v1 ≤ p - q

theorem St.d_pos {P Q : Nat} {par : Bool} {a b c d p q : Nat} (h : St P Q par a b c d p q) : 1 ≤ d := by
  cases par
  · have := h.even rfl
    apply Nat.pos_of_ne_zero
    intro e
    rw [e] at this
    omega
  · have h1 := h.odd rfl
    have : 1 ≤ c := by
      apply Nat.pos_of_ne_zero
      intro e
      rw [e] at h1
      omega
    have := h.cd
    omega
theorem St.p_pos {P Q : Nat} {par : Bool} {a b c d p q : Nat} (h : St P Q par a b c d p q) (hP : 0 < P) : 1 ≤ p := by
  apply Nat.pos_of_ne_zero
  intro e
  have h1 := h.hp
  have h2 := h.qp
  have : q = 0 := by omega
  rw [e, this] at h1
  omega
theorem St.a_le {P Q : Nat} {par : Bool} {a b c d p q : Nat} (h : St P Q par a b c d p q) : a ≤ d := by
  have := h.d_pos
  have := h.cd
  rcases h.ac with h5 | ⟨_, rfl, rfl, rfl, rfl⟩ <;> omega

theorem Prev.cof {P Q S xl yl : Nat} {odd : Bool} {u0 u1 v0 v1 : Nat} (h : Prev P Q odd u0 u1 v0 v1) (hv : v0 ≠ 0) (hP : P < 18446744073709551616) (hx : xl < S) (hy : yl < S) :
    Cof odd u0 u1 v0 v1 (P * S + xl) (Q * S + yl) := by
  rcases h with h | ⟨p, q, h, h1, h2⟩
  · exact absurd h hv
  · have hs := h.small h1
    have hd : v1 < 4294967296 := by
      apply Nat.lt_of_not_le
      intro h3
      have := Nat.mul_le_mul h3 h3
      omega
    have h3 := h.bd
    have h4 := h.cd
    have h5 := h.a_le
    have h6 := h.d_pos
    refine ⟨by omega, by omega, by omega, hd, by omega, h6, ?_, ?_⟩
    · rintro rfl
      obtain ⟨e1, e2, e3⟩ := St.even_ok h hx hy h1 h2
      exact ⟨e1, e2, e3, h.even rfl⟩
    · rintro rfl
      obtain ⟨e1, e2, e3⟩ := St.odd_ok h hx hy h1 h2
      exact ⟨e1, e2, e3, h.odd rfl⟩

/-- One step of Euclid on the windows. -/
theorem Prev.step {P Q : Nat} {odd : Bool} {u1 v1 u v p q : Nat} (h : St P Q odd u1 u v1 v p q) (h1 : v ≤ q) (h2 : v1 + v ≤ p - q) : Prev P Q (!odd) u1 u v1 v := by
  right
  rw [Bool.not_not]
  exact ⟨p, q, h, h1, h2⟩

/-- What the cofactors make: X' and Y'. -/
theorem Cof.down {odd : Bool} {u0 u1 v0 v1 X Y : Nat} (h : Cof odd u0 u1 v0 v1 X Y) (hY : 0 < Y) :
    ∃ X' Y', (odd = true → u0 * X = v0 * Y + X' ∧ v1 * Y = u1 * X + Y') ∧ (odd = false → v0 * Y = u0 * X + X' ∧ u1 * X = v1 * Y + Y') ∧ Y' ≤ X' ∧ X' ≤ X ∧ X' + Y' < X + Y ∧ Nat.gcd X' Y' = Nat.gcd X Y := by
  have p0 := h.n0
  have p1 := h.n1
  cases odd
  · obtain ⟨e1, e2, e3, e4⟩ := h.he rfl
    obtain ⟨b1, b2⟩ := back_odd (a := u0) (b := u1) (c := v0) (d := v1) e4 e1 e2
    obtain ⟨X', hX⟩ : ∃ X', X' = v0 * Y - u0 * X := ⟨_, rfl⟩
    obtain ⟨Y', hY'⟩ : ∃ Y', Y' = u1 * X - v1 * Y := ⟨_, rfl⟩
    rw [← hX, ← hY'] at b1 b2 e3
    have g : Nat.gcd X' Y' = Nat.gcd X Y := gcd_back b1 b2 (fun k k1 k2 => ⟨by rw [hX]; exact Nat.dvd_sub (Nat.dvd_mul_left_of_dvd k2 _) (Nat.dvd_mul_left_of_dvd k1 _), by rw [hY']; exact Nat.dvd_sub (Nat.dvd_mul_left_of_dvd k1 _) (Nat.dvd_mul_left_of_dvd k2 _)⟩)
    have m1 : 1 * X' ≤ v1 * X' := Nat.mul_le_mul_right _ p1
    have m2 : 1 * Y' ≤ v0 * Y' := Nat.mul_le_mul_right _ p0
    exact ⟨X', Y', (by intro q; cases q), fun _ => ⟨by omega, by omega⟩, e3, by omega, by omega, g⟩
  · obtain ⟨e1, e2, e3, e4⟩ := h.ho rfl
    obtain ⟨b1, b2⟩ := back_even (a := u0) (b := u1) (c := v0) (d := v1) e4 e1 e2
    obtain ⟨X', hX⟩ : ∃ X', X' = u0 * X - v0 * Y := ⟨_, rfl⟩
    obtain ⟨Y', hY'⟩ : ∃ Y', Y' = v1 * Y - u1 * X := ⟨_, rfl⟩
    rw [← hX, ← hY'] at b1 b2 e3
    have g : Nat.gcd X' Y' = Nat.gcd X Y := gcd_back b1 b2 (fun k k1 k2 => ⟨by rw [hX]; exact Nat.dvd_sub (Nat.dvd_mul_left_of_dvd k1 _) (Nat.dvd_mul_left_of_dvd k2 _), by rw [hY']; exact Nat.dvd_sub (Nat.dvd_mul_left_of_dvd k2 _) (Nat.dvd_mul_left_of_dvd k1 _)⟩)
    have m1 : 1 * X' ≤ v1 * X' := Nat.mul_le_mul_right _ p1
    have m2 : 1 * Y' ≤ v0 * Y' := Nat.mul_le_mul_right _ p0
    exact ⟨X', Y', fun _ => ⟨by omega, by omega⟩, (by intro q; cases q), e3, by omega, by omega, g⟩

end Go.Proofs.Ytfjhdhmneknmkaa
