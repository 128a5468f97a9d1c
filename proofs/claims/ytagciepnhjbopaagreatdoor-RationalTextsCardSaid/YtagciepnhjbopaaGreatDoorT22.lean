/- What the statements of this claim stand on: of Gcd, what they name -/
import Derived.Deep.DeepCutAuto
import Derived.Deep.RegionWith
import Derived.Laws.CopyOwn
import Derived.Outline
import Derived.Test.YtagciepnhjbopaaGreatDoorT04
import Derived.Test.YtagciepnhjbopaaGreatDoorT10
import Derived.Test.YtagciepnhjbopaaGreatDoorT12
import Derived.Test.YtagciepnhjbopaaGreatDoorT14
import Derived.Test.YtagciepnhjbopaaGreatDoorT21

namespace Go.Proofs.YtagciepnhjbopaaGreatDoor
structure St (P Q : Nat) (par : Bool) (a b c d p q : Nat) : Prop where
  hp : P = d * p + c * q
  hq : Q = b * p + a * q
  even : par = false → a * d = b * c + 1
  odd : par = true → b * c = a * d + 1
  bd : b ≤ d
  ac : a ≤ c ∨ (par = false ∧ a = 1 ∧ b = 0 ∧ c = 0 ∧ d = 1)
  cd : c ≤ d
  qp : q ≤ p

theorem St.start {P Q : Nat} (h : Q ≤ P) : St P Q false 1 0 0 1 P Q :=
  ⟨by omega, by omega, fun _ => rfl, (by intro h; cases h), by omega, Or.inr ⟨rfl, rfl, rfl, rfl, rfl⟩, by omega, h⟩

theorem St.step {P Q : Nat} {par : Bool} {a b c d p q : Nat} (h : St P Q par a b c d p q) (hq : 0 < q) :
    St P Q (!par) b (a + p / q * b) d (c + p / q * d) q (p % q) := by
  have h1 : p = p / q * q + p % q := by rw [Nat.mul_comm]; exact (Nat.div_add_mod p q).symm
  have h2 := Nat.mod_lt p hq
  have ht : 1 ≤ p / q := (Nat.le_div_iff_mul_le hq).2 (by have := h.qp; omega)
  have ep := h.hp
  have eq := h.hq
  have bd := h.bd
  have cd := h.cd
  generalize p / q = t at *
  generalize p % q = r at *
  have h3 : t * b ≤ t * d := Nat.mul_le_mul_left _ bd
  have h4 : 1 * d ≤ t * d := Nat.mul_le_mul_right _ ht
  refine ⟨by rw [ep, h1]; grind, by rw [eq, h1]; grind, ?_, ?_, ?_, Or.inl bd, by omega, by omega⟩
  · intro e
    have e' : par = true := by cases par <;> simp_all
    have := h.odd e'
    grind
  · intro e
    have e' : par = false := by cases par <;> simp_all
    have := h.even e'
    grind
  · rcases h.ac with h5 | ⟨_, rfl, rfl, rfl, rfl⟩
    · omega
    · omega

theorem St.small {P Q : Nat} {par : Bool} {a b c d p q : Nat} (h : St P Q par a b c d p q) (hc : d ≤ q) : d * d ≤ P := by
  have h1 : d * d ≤ d * p := Nat.mul_le_mul_left _ (Nat.le_trans hc h.qp)
  have := h.hp
  omega

theorem St.le {P Q : Nat} {par : Bool} {a b c d p q : Nat} (h : St P Q par a b c d p q) (hp : 1 ≤ p) : d ≤ P := by
  have h1 : d * 1 ≤ d * p := Nat.mul_le_mul_left _ hp
  have := h.hp
  omega

theorem St.even_ok {P Q : Nat} {a b c d p q S xl yl : Nat} (h : St P Q false a b c d p q) (hx : xl < S) (hy : yl < S) (h1 : d ≤ q) (h2 : c + d ≤ p - q) :
    c * (Q * S + yl) ≤ a * (P * S + xl) ∧ b * (P * S + xl) ≤ d * (Q * S + yl) ∧ d * (Q * S + yl) - b * (P * S + xl) ≤ a * (P * S + xl) - c * (Q * S + yl) := by
  have det := h.even rfl
  have eP := h.hp
  have eQ := h.hq
  have qp := h.qp
  
  have e1 : a * P = p + c * Q := by rw [eP, eQ]; grind
  have e2 : d * Q = q + b * P := by rw [eP, eQ]; grind
  have b1 : c * yl ≤ c * S := Nat.mul_le_mul_left _ (Nat.le_of_lt hy)
  have b2 : b * xl ≤ b * S := Nat.mul_le_mul_left _ (Nat.le_of_lt hx)
  have b3 : d * yl ≤ d * S := Nat.mul_le_mul_left _ (Nat.le_of_lt hy)
  have b4 : (c + d) * S ≤ (p - q) * S := Nat.mul_le_mul_right _ h2
  have b5 : d * S ≤ q * S := Nat.mul_le_mul_right _ h1
  have b6 : b * S ≤ d * S := Nat.mul_le_mul_right _ h.bd
  have e3 : a * (P * S + xl) = p * S + c * (Q * S) + a * xl := by
    have : a * (P * S + xl) = (a * P) * S + a * xl := by grind
    rw [this, e1]; grind
  have e4 : d * (Q * S + yl) = q * S + b * (P * S) + d * yl := by
    have : d * (Q * S + yl) = (d * Q) * S + d * yl := by grind
    rw [this, e2]; grind
  have e5 : c * (Q * S + yl) = c * (Q * S) + c * yl := by grind
  have e6 : b * (P * S + xl) = b * (P * S) + b * xl := by grind
  have e7 : (p - q) * S = p * S - q * S := Nat.sub_mul _ _ _
  have e8 : (c + d) * S = c * S + d * S := Nat.add_mul _ _ _
  have b7 : q * S ≤ p * S := Nat.mul_le_mul_right _ qp
  rw [e3, e4, e5, e6]
  generalize p * S = t1 at *
  generalize q * S = t2 at *
  generalize c * (Q * S) = t3 at *
  generalize b * (P * S) = t4 at *
  generalize a * xl = t5 at *
  generalize c * yl = t6 at *
  generalize d * yl = t7 at *
  generalize b * xl = t8 at *
  generalize c * S = t9 at *
  generalize d * S = t10 at *
  generalize b * S = t11 at *
  omega

theorem St.odd_ok {P Q : Nat} {a b c d p q S xl yl : Nat} (h : St P Q true a b c d p q) (hx : xl < S) (hy : yl < S) (h1 : d ≤ q) (h2 : c + d ≤ p - q) :
    a * (P * S + xl) ≤ c * (Q * S + yl) ∧ d * (Q * S + yl) ≤ b * (P * S + xl) ∧ b * (P * S + xl) - d * (Q * S + yl) ≤ c * (Q * S + yl) - a * (P * S + xl) := by
  have det := h.odd rfl
  have eP := h.hp
  have eQ := h.hq
  have qp := h.qp
  have ac : a ≤ c := by rcases h.ac with h5 | ⟨h5, _⟩
                        · exact h5
                        · cases h5
  have e1 : c * Q = p + a * P := by rw [eP, eQ]; grind
  have e2 : b * P = q + d * Q := by rw [eP, eQ]; grind
  have b1 : a * xl ≤ a * S := Nat.mul_le_mul_left _ (Nat.le_of_lt hx)
  have b2 : d * yl ≤ d * S := Nat.mul_le_mul_left _ (Nat.le_of_lt hy)
  have b3 : b * xl ≤ b * S := Nat.mul_le_mul_left _ (Nat.le_of_lt hx)
  have b4 : (c + d) * S ≤ (p - q) * S := Nat.mul_le_mul_right _ h2
  have b5 : d * S ≤ q * S := Nat.mul_le_mul_right _ h1
  have b6 : b * S ≤ d * S := Nat.mul_le_mul_right _ h.bd
  have b8 : a * S ≤ c * S := Nat.mul_le_mul_right _ ac
  have e3 : c * (Q * S + yl) = p * S + a * (P * S) + c * yl := by
    have : c * (Q * S + yl) = (c * Q) * S + c * yl := by grind
    rw [this, e1]; grind
  have e4 : b * (P * S + xl) = q * S + d * (Q * S) + b * xl := by
    have : b * (P * S + xl) = (b * P) * S + b * xl := by grind
    rw [this, e2]; grind
  have e5 : a * (P * S + xl) = a * (P * S) + a * xl := by grind
  have e6 : d * (Q * S + yl) = d * (Q * S) + d * yl := by grind
  have e7 : (p - q) * S = p * S - q * S := Nat.sub_mul _ _ _
  have e8 : (c + d) * S = c * S + d * S := Nat.add_mul _ _ _
  have b7 : q * S ≤ p * S := Nat.mul_le_mul_right _ qp
  rw [e3, e4, e5, e6]
  generalize p * S = t1 at *
  generalize q * S = t2 at *
  generalize a * (P * S) = t3 at *
  generalize d * (Q * S) = t4 at *
  generalize c * yl = t5 at *
  generalize a * xl = t6 at *
  generalize b * xl = t7 at *
  generalize d * yl = t8 at *
  generalize c * S = t9 at *
  generalize d * S = t10 at *
  generalize b * S = t11 at *
  generalize a * S = t12 at *
  omega

theorem back_even {a b c d x y : Nat} (_det : a * d = b * c + 1) (_h1 : c * y ≤ a * x) (_h2 : b * x ≤ d * y) : x = d * (a * x - c * y) + c * (d * y - b * x) ∧ y = b * (a * x - c * y) + a * (d * y - b * x) := by
  obtain ⟨X, hX⟩ : ∃ X, a * x = c * y + X := ⟨a * x - c * y, by omega⟩
  obtain ⟨Y, hY⟩ : ∃ Y, d * y = b * x + Y := ⟨d * y - b * x, by omega⟩
  rw [hX, hY, Nat.add_sub_cancel_left, Nat.add_sub_cancel_left]
  constructor
  · have : d * (a * x) + c * (d * y) = d * (c * y + X) + c * (b * x + Y) := by rw [hX, hY]
    grind
  · have : b * (a * x) + a * (d * y) = b * (c * y + X) + a * (b * x + Y) := by rw [hX, hY]
    grind

theorem back_odd {a b c d x y : Nat} (_det : b * c = a * d + 1) (_h1 : a * x ≤ c * y) (_h2 : d * y ≤ b * x) : x = d * (c * y - a * x) + c * (b * x - d * y) ∧ y = b * (c * y - a * x) + a * (b * x - d * y) := by
  obtain ⟨X, hX⟩ : ∃ X, c * y = a * x + X := ⟨c * y - a * x, by omega⟩
  obtain ⟨Y, hY⟩ : ∃ Y, b * x = d * y + Y := ⟨b * x - d * y, by omega⟩
  rw [hX, hY, Nat.add_sub_cancel_left, Nat.add_sub_cancel_left]
  constructor
  · have : d * (c * y) + c * (b * x) = d * (a * x + X) + c * (d * y + Y) := by rw [hX, hY]
    grind
  · have : b * (c * y) + a * (b * x) = b * (a * x + X) + a * (d * y + Y) := by rw [hX, hY]
    grind

theorem gcd_back {a b c d x y X Y : Nat} (hx : x = d * X + c * Y) (hy : y = b * X + a * Y) (hX : ∀ k, k ∣ x → k ∣ y → k ∣ X ∧ k ∣ Y) : Nat.gcd X Y = Nat.gcd x y := by
  apply Nat.dvd_antisymm
  · apply Nat.dvd_gcd
    · rw [hx]; exact Nat.dvd_add (Nat.dvd_mul_left_of_dvd (Nat.gcd_dvd_left _ _) _) (Nat.dvd_mul_left_of_dvd (Nat.gcd_dvd_right _ _) _)
    · rw [hy]; exact Nat.dvd_add (Nat.dvd_mul_left_of_dvd (Nat.gcd_dvd_left _ _) _) (Nat.dvd_mul_left_of_dvd (Nat.gcd_dvd_right _ _) _)
  · have h := hX _ (Nat.gcd_dvd_left x y) (Nat.gcd_dvd_right x y)
    exact Nat.dvd_gcd h.1 h.2

theorem diff_step {Z G A X Y T Pc Mc Bw al ga x y plus minus D Pc' Mc' Bw' : Nat}
    (h : Z + ga * Y + T * Pc = al * X + T * (Mc + Bw)) (hp : plus = al * x + Pc) (hm : minus = ga * y + Mc)
    (hpc : plus = G + A * Pc') (hmc : ∃ M, minus = M + A * Mc' ∧ D + M + Bw = G + A * Bw') :
    (Z + T * D) + ga * (Y + T * y) + (A * T) * Pc' = al * (X + T * x) + (A * T) * (Mc' + Bw') := by
  obtain ⟨M, h1, h2⟩ := hmc
  have e1 : al * x + Pc = G + A * Pc' := by rw [← hp, hpc]
  have e2 : ga * y + Mc = M + A * Mc' := by rw [← hm, h1]
  have e3 : T * (al * x) + T * Pc = T * G + T * (A * Pc') := by rw [← Nat.mul_add, ← Nat.mul_add, e1]
  have e4 : T * (ga * y) + T * Mc = T * M + T * (A * Mc') := by rw [← Nat.mul_add, ← Nat.mul_add, e2]
  have e5 : T * D + T * M + T * Bw = T * G + T * (A * Bw') := by rw [← Nat.mul_add, ← Nat.mul_add, ← Nat.mul_add, h2]
  have e6 : ga * (Y + T * y) = ga * Y + T * (ga * y) := by grind
  have e7 : al * (X + T * x) = al * X + T * (al * x) := by grind
  have e8 : (A * T) * Pc' = T * (A * Pc') := by grind
  have e9 : (A * T) * (Mc' + Bw') = T * (A * Mc') + T * (A * Bw') := by grind
  have e10 : T * (Mc + Bw) = T * Mc + T * Bw := Nat.mul_add _ _ _
  rw [e6, e7, e8, e9]
  rw [e10] at h
  omega

theorem diff_end {Z T Pc K X U V : Nat} (_h : Z + V + T * Pc = U + T * K) (_hX : U = V + X) (hZ : Z < T) (hXT : X < T) : Z = X := by
  have h1 : Z + T * Pc = X + T * K := by omega
  have e1 : (Z + T * Pc) % T = Z := by rw [Nat.add_mul_mod_self_left, Nat.mod_eq_of_lt hZ]
  have e2 : (X + T * K) % T = X := by rw [Nat.add_mul_mod_self_left, Nat.mod_eq_of_lt hXT]
  rw [← e1, h1, e2]

def win (xs : List Nat) (n up : Nat) : Nat := (gd xs (n - 1) * 4294967296 + gd xs (n - 2)) * 2 ^ up + gd xs (n - 3) / 2 ^ (32 - up)

def wlo (xs : List Nat) (n up : Nat) : Nat := val (xs.take (n - 3)) + pB (n - 3) * (gd xs (n - 3) % 2 ^ (32 - up))

theorem two_up {up : Nat} (_h : up ≤ 31) : 2 ^ up * 2 ^ (32 - up) = 4294967296 := by rw [← Nat.pow_add, Nat.add_sub_cancel' (by omega)]

theorem win_val {xs : List Nat} {n up : Nat} (_hl : xs.length = n) (_hn : 3 ≤ n) (hup : up ≤ 31) :
    val xs = win xs n up * (pB (n - 3) * 2 ^ (32 - up)) + wlo xs n up := by
  obtain ⟨k, rfl⟩ : ∃ k, n = k + 3 := ⟨n - 3, by omega⟩
  have e1 := val_take_succ xs (k + 2)
  have e2 := val_take_succ xs (k + 1)
  have e3 := val_take_succ xs k
  rw [List.take_of_length_le (by omega)] at e1
  rw [e2, e3] at e1
  simp only [pB_succ] at e1
  clear e2 e3
  unfold win wlo
  rw [show k + 3 - 1 = k + 2 from rfl, show k + 3 - 2 = k + 1 from rfl, show k + 3 - 3 = k from rfl]
  have hP := two_up hup
  have hd := Nat.div_add_mod (gd xs k) (2 ^ (32 - up))
  generalize gd xs k / 2 ^ (32 - up) = q at *
  generalize gd xs k % 2 ^ (32 - up) = r at *
  rw [e1, ← hd]
  generalize 2 ^ up = U at *
  generalize 2 ^ (32 - up) = V at *
  generalize pB k = B at *
  generalize gd xs (k + 1) = d1 at *
  generalize gd xs (k + 2) = d2 at *
  generalize val (xs.take k) = lo at *
  rw [← hP]
  clear hP hd e1
  grind

theorem wlo_lt {xs : List Nat} {n up : Nat} (hd : Dg xs) (_hl : xs.length = n) (_hn : 3 ≤ n) : wlo xs n up < pB (n - 3) * 2 ^ (32 - up) := by
  have h1 := val_lt (hd.take (n - 3))
  rw [List.length_take, Nat.min_eq_left (by omega)] at h1
  have h2 := Nat.mod_lt (gd xs (n - 3)) (Nat.two_pow_pos (32 - up))
  have h3 : pB (n - 3) * (gd xs (n - 3) % 2 ^ (32 - up) + 1) ≤ pB (n - 3) * 2 ^ (32 - up) := Nat.mul_le_mul_left _ h2
  unfold wlo
  rw [Nat.mul_add, Nat.mul_one] at h3
  omega

theorem win_lt {xs : List Nat} {n up : Nat} (hd : Dg xs) (hup : up ≤ 31) (htop : gd xs (n - 1) * 2 ^ up < 4294967296) : win xs n up < 18446744073709551616 := by
  have d2 := hd.at (n - 2)
  have d3 := hd.at (n - 3)
  have hP := two_up hup
  have h1 : gd xs (n - 1) < 2 ^ (32 - up) := by
    apply Nat.lt_of_mul_lt_mul_right (a := 2 ^ up)
    rw [Nat.mul_comm (2 ^ (32 - up)), hP]
    exact htop
  have hq : (gd xs (n - 1) + 1) * 2 ^ up ≤ 4294967296 := by
    have h2 : (gd xs (n - 1) + 1) * 2 ^ up ≤ 2 ^ (32 - up) * 2 ^ up := Nat.mul_le_mul_right _ h1
    rw [Nat.mul_comm (2 ^ (32 - up)), hP] at h2
    exact h2
  have hF : gd xs (n - 3) / 2 ^ (32 - up) < 2 ^ up := by
    rw [Nat.div_lt_iff_lt_mul (Nat.two_pow_pos _), hP]
    exact d3
  have h3 : (gd xs (n - 1) * 4294967296 + gd xs (n - 2) + 1) * 2 ^ up ≤ ((gd xs (n - 1) + 1) * 4294967296) * 2 ^ up := Nat.mul_le_mul_right _ (by omega)
  rw [Nat.mul_right_comm] at h3
  have h4 : (gd xs (n - 1) + 1) * 2 ^ up * 4294967296 ≤ 4294967296 * 4294967296 := Nat.mul_le_mul_right _ hq
  rw [Nat.add_mul _ 1, Nat.one_mul] at h3
  unfold win
  omega

theorem win_pos {xs : List Nat} {n up : Nat} (_h : gd xs (n - 1) ≠ 0) : 0 < win xs n up := by
  unfold win
  have h1 : 0 < gd xs (n - 1) * 4294967296 + gd xs (n - 2) := by omega
  have h2 := Nat.mul_pos h1 (Nat.two_pow_pos up)
  generalize (gd xs (n - 1) * 4294967296 + gd xs (n - 2)) * 2 ^ up = z at *
  exact Nat.lt_of_lt_of_le h2 (Nat.le_add_right _ _)

theorem win_le {xs ys : List Nat} {n up : Nat} (hx : xs.length = n) (hy : ys.length = n) (dx : Dg xs) (hn : 3 ≤ n) (hup : up ≤ 31) (h : val ys ≤ val xs) : win ys n up ≤ win xs n up := by
  rw [win_val hx hn hup, win_val hy hn hup] at h
  have h1 := wlo_lt (up := up) dx hx hn
  have hS : 0 < pB (n - 3) * 2 ^ (32 - up) := Nat.mul_pos (pB_pos _) (Nat.two_pow_pos _)
  generalize pB (n - 3) * 2 ^ (32 - up) = S at *
  apply Nat.le_of_lt_succ
  apply Nat.lt_of_mul_lt_mul_right (a := S)
  rw [Nat.succ_mul]
  omega

theorem top_le {xs ys : List Nat} {n : Nat} (_hx : xs.length = n) (_hy : ys.length = n) (dx : Dg xs) (_hn : 1 ≤ n) (_h : val ys ≤ val xs) : gd ys (n - 1) ≤ gd xs (n - 1) := by
  have e1 := val_take_succ xs (n - 1)
  have e2 := val_take_succ ys (n - 1)
  rw [List.take_of_length_le (by omega)] at e1 e2
  have h1 := val_lt (dx.take (n - 1))
  rw [List.length_take, Nat.min_eq_left (by omega)] at h1
  generalize pB (n - 1) = S at *
  apply Nat.le_of_lt_succ
  apply Nat.lt_of_mul_lt_mul_left (a := S)
  rw [Nat.mul_succ]
  omega

structure Cof (odd : Bool) (u0 u1 v0 v1 X Y : Nat) : Prop where
  b0 : u0 < 4294967296
  b1 : u1 < 4294967296
  b2 : v0 < 4294967296
  b3 : v1 < 4294967296
  n0 : 1 ≤ v0
  n1 : 1 ≤ v1
  ho : odd = true → v0 * Y ≤ u0 * X ∧ u1 * X ≤ v1 * Y ∧ v1 * Y - u1 * X ≤ u0 * X - v0 * Y ∧ u0 * v1 = u1 * v0 + 1
  he : odd = false → u0 * X ≤ v0 * Y ∧ v1 * Y ≤ u1 * X ∧ u1 * X - v1 * Y ≤ v0 * Y - u0 * X ∧ u1 * v0 = u0 * v1 + 1

def Prev (P Q : Nat) (odd : Bool) (u0 u1 v0 v1 : Nat) : Prop := v0 = 0 ∨ ∃ p q, St P Q (!odd) u0 u1 v0 v1 p q ∧ v1 ≤ q ∧ v0 + v1 ≤ p - q

theorem St.d_pos {P Q : Nat} {par : Bool} {a b c d p q : Nat} (h : St P Q par a b c d p q) : 1 ≤ d := by
  cases par
  · have := h.even rfl
    apply Nat.pos_of_ne_zero
    intro e
    rw [e] at this
    omega
  · have h1 := h.odd rfl
    have : 1 ≤ c := by
      apply Nat.pos_of_ne_zero
      intro e
      rw [e] at h1
      omega
    have := h.cd
    omega

theorem St.p_pos {P Q : Nat} {par : Bool} {a b c d p q : Nat} (h : St P Q par a b c d p q) (_hP : 0 < P) : 1 ≤ p := by
  apply Nat.pos_of_ne_zero
  intro e
  have h1 := h.hp
  have h2 := h.qp
  have : q = 0 := by omega
  rw [e, this] at h1
  omega

theorem St.a_le {P Q : Nat} {par : Bool} {a b c d p q : Nat} (h : St P Q par a b c d p q) : a ≤ d := by
  have := h.d_pos
  have := h.cd
  rcases h.ac with h5 | ⟨_, rfl, rfl, rfl, rfl⟩ <;> omega

theorem Prev.cof {P Q S xl yl : Nat} {odd : Bool} {u0 u1 v0 v1 : Nat} (h : Prev P Q odd u0 u1 v0 v1) (hv : v0 ≠ 0) (_hP : P < 18446744073709551616) (hx : xl < S) (hy : yl < S) :
    Cof odd u0 u1 v0 v1 (P * S + xl) (Q * S + yl) := by
  rcases h with h | ⟨p, q, h, h1, h2⟩
  · exact absurd h hv
  · have hs := h.small h1
    have hd : v1 < 4294967296 := by
      apply Nat.lt_of_not_le
      intro h3
      have := Nat.mul_le_mul h3 h3
      omega
    have h3 := h.bd
    have h4 := h.cd
    have h5 := h.a_le
    have h6 := h.d_pos
    refine ⟨by omega, by omega, by omega, hd, by omega, h6, ?_, ?_⟩
    · rintro rfl
      obtain ⟨e1, e2, e3⟩ := St.even_ok h hx hy h1 h2
      exact ⟨e1, e2, e3, h.even rfl⟩
    · rintro rfl
      obtain ⟨e1, e2, e3⟩ := St.odd_ok h hx hy h1 h2
      exact ⟨e1, e2, e3, h.odd rfl⟩

theorem Prev.step {P Q : Nat} {odd : Bool} {u1 v1 u v p q : Nat} (h : St P Q odd u1 u v1 v p q) (h1 : v ≤ q) (h2 : v1 + v ≤ p - q) : Prev P Q (!odd) u1 u v1 v := by
  right
  rw [Bool.not_not]
  exact ⟨p, q, h, h1, h2⟩

theorem Cof.down {odd : Bool} {u0 u1 v0 v1 X Y : Nat} (h : Cof odd u0 u1 v0 v1 X Y) (_hY : 0 < Y) :
    ∃ X' Y', (odd = true → u0 * X = v0 * Y + X' ∧ v1 * Y = u1 * X + Y') ∧ (odd = false → v0 * Y = u0 * X + X' ∧ u1 * X = v1 * Y + Y') ∧ Y' ≤ X' ∧ X' ≤ X ∧ X' + Y' < X + Y ∧ Nat.gcd X' Y' = Nat.gcd X Y := by
  have p0 := h.n0
  have p1 := h.n1
  cases odd
  · obtain ⟨e1, e2, e3, e4⟩ := h.he rfl
    obtain ⟨b1, b2⟩ := back_odd (a := u0) (b := u1) (c := v0) (d := v1) e4 e1 e2
    obtain ⟨X', hX⟩ : ∃ X', X' = v0 * Y - u0 * X := ⟨_, rfl⟩
    obtain ⟨Y', hY'⟩ : ∃ Y', Y' = u1 * X - v1 * Y := ⟨_, rfl⟩
    rw [← hX, ← hY'] at b1 b2 e3
    have g : Nat.gcd X' Y' = Nat.gcd X Y := gcd_back b1 b2 (fun k k1 k2 => ⟨by rw [hX]; exact Nat.dvd_sub (Nat.dvd_mul_left_of_dvd k2 _) (Nat.dvd_mul_left_of_dvd k1 _), by rw [hY']; exact Nat.dvd_sub (Nat.dvd_mul_left_of_dvd k1 _) (Nat.dvd_mul_left_of_dvd k2 _)⟩)
    have m1 : 1 * X' ≤ v1 * X' := Nat.mul_le_mul_right _ p1
    have m2 : 1 * Y' ≤ v0 * Y' := Nat.mul_le_mul_right _ p0
    exact ⟨X', Y', (by intro q; cases q), fun _ => ⟨by omega, by omega⟩, e3, by omega, by omega, g⟩
  · obtain ⟨e1, e2, e3, e4⟩ := h.ho rfl
    obtain ⟨b1, b2⟩ := back_even (a := u0) (b := u1) (c := v0) (d := v1) e4 e1 e2
    obtain ⟨X', hX⟩ : ∃ X', X' = u0 * X - v0 * Y := ⟨_, rfl⟩
    obtain ⟨Y', hY'⟩ : ∃ Y', Y' = v1 * Y - u1 * X := ⟨_, rfl⟩
    rw [← hX, ← hY'] at b1 b2 e3
    have g : Nat.gcd X' Y' = Nat.gcd X Y := gcd_back b1 b2 (fun k k1 k2 => ⟨by rw [hX]; exact Nat.dvd_sub (Nat.dvd_mul_left_of_dvd k1 _) (Nat.dvd_mul_left_of_dvd k2 _), by rw [hY']; exact Nat.dvd_sub (Nat.dvd_mul_left_of_dvd k2 _) (Nat.dvd_mul_left_of_dvd k1 _)⟩)
    have m1 : 1 * X' ≤ v1 * X' := Nat.mul_le_mul_right _ p1
    have m2 : 1 * Y' ≤ v0 * Y' := Nat.mul_le_mul_right _ p0
    exact ⟨X', Y', fun _ => ⟨by omega, by omega⟩, (by intro q; cases q), e3, by omega, by omega, g⟩

open Go.RowKit

set_option maxRecDepth 100000 in
set_option maxHeartbeats 1000000 in
theorem gcdWords_any (x y : Nat) (w : World) (hx : x < 18446744073709551616) (hy : y < 18446744073709551616) :
    Calls Tryz.prog 160 #[.int .u64 x, .int .u64 y] w fun e w' => e = .returned (.int .u64 (Nat.gcd x y : Nat)) ∧ Fr [] w w' := by
  go_enter Tryz.func160, Tryz.ntmps160
  go_wp2
  go_loopw [0, 1] (fun s t wr => ∃ a b : Nat, s = .int .u64 a ∧ t = .int .u64 b ∧ a < 18446744073709551616 ∧ b < 18446744073709551616 ∧ Nat.gcd a b = Nat.gcd x y ∧ Fr [] w wr) (fun _ t _ => (intOf t).toNat)
  case atStart => exact ⟨x, y, rfl, rfl, hx, hy, rfl, Fr.refl _ _⟩
  case round =>
    obtain ⟨a, b, rfl, rfl, ha, hb, hg, hf⟩ := hrel
    have HG := Lib.hid hg
    clear hg
    by_cases hz : b = 0
    · subst hz
      have he : Nat.gcd x y = a := by rw [← HG.out, Nat.gcd_zero_right]
      have HE := Lib.hid he
      clear he
      go_wp2
      go_ret
      rw [HE.out]
      exact ⟨rfl, hf⟩
    · have hne : ((b : Int) != 0) = true := bne_iff_ne.2 (by omega)
      have hne2 : ((b : Int) == 0) = false := beq_eq_false_iff_ne.2 (by omega)
      have ht : Int.tmod (a : Int) (b : Int) = ((a % b : Nat) : Int) := rfl
      have hl := Nat.mod_lt a (show 0 < b by omega)
      have hN : Hid (Nat.gcd b (a % b) = Nat.gcd x y) := by
        show _ = _
        rw [← HG.out, Nat.gcd_comm b, ← Nat.gcd_rec, Nat.gcd_comm]
      have HT := Lib.hid ht
      clear ht
      go_wp2
      go_quiet (fail)
      go_wp2
      go_roundw
      case rel => exact ⟨b, a % b, rfl, congrArg (Value.int .u64) (by first | exact HT.out | omega), hb, by omega, hN.out, hf.drewN _⟩
      case measure => simp [intOf]; omega

set_option maxRecDepth 100000 in
set_option maxHeartbeats 1000000 in
theorem window_any (p : Option Addr) (l c n up : Nat) (xs : List Nat) (w : World) (h : Sl w p l c xs) (hl : l ≤ 1099511627776) (_hn3 : 3 ≤ n) (_hn : n ≤ 1099511627776) (_hup : up ≤ 31) (htop : gd xs (n - 1) * 2 ^ up < 4294967296) :
    Calls Tryz.prog 191 #[.slice p l c, .int .i64 n, .int .i64 up] w fun e w' => e = .returned (.int .u64 (((gd xs (n - 1) * 4294967296 + gd xs (n - 2)) * 2 ^ up + gd xs (n - 3) / 2 ^ (32 - up) : Nat) : Int)) ∧ Fr [] w w' := by
  have d1 := h.dig.at (n - 1)
  have d2 := h.dig.at (n - 2)
  have d3 := h.dig.at (n - 3)
  have w1 : IntKind.i64.wrap ((n : Int) - 1) = (n : Int) - 1 := IntWalk.i64_in _ (by omega)
  have w2 : IntKind.i64.wrap ((n : Int) - 2) = (n : Int) - 2 := IntWalk.i64_in _ (by omega)
  have w3 : IntKind.i64.wrap ((n : Int) - 3) = (n : Int) - 3 := IntWalk.i64_in _ (by omega)
  have w4 : IntKind.i64.wrap (32 - (up : Int)) = ((32 - up : Nat) : Int) := by rw [IntWalk.i64_in _ (by omega)]; omega
  have b1 : (0 : Int) ≤ (n : Int) - 1 := by omega
  have b2 : (0 : Int) ≤ (n : Int) - 2 := by omega
  have b3 : (0 : Int) ≤ (n : Int) - 3 := by omega
  have t1 : ((n : Int) - 1).toNat = n - 1 := by omega
  have t2 : ((n : Int) - 2).toNat = n - 2 := by omega
  have t3 : ((n : Int) - 3).toNat = n - 3 := by omega
  have hP : 2 ^ up * 2 ^ (32 - up) = 4294967296 := by rw [← Nat.pow_add, Nat.add_sub_cancel' (by omega)]
  have hq : (gd xs (n - 1) + 1) * 2 ^ up ≤ 4294967296 := by
    have h1 : gd xs (n - 1) < 2 ^ (32 - up) := by
      apply Nat.lt_of_mul_lt_mul_right (a := 2 ^ up)
      rw [Nat.mul_comm (2 ^ (32 - up)), hP]
      exact htop
    have h2 : (gd xs (n - 1) + 1) * 2 ^ up ≤ 2 ^ (32 - up) * 2 ^ up := Nat.mul_le_mul_right _ h1
    rw [Nat.mul_comm (2 ^ (32 - up)), hP] at h2
    exact h2
  have hF : gd xs (n - 3) / 2 ^ (32 - up) < 2 ^ up := by
    rw [Nat.div_lt_iff_lt_mul (Nat.two_pow_pos _), hP]
    exact d3
  have hS : (gd xs (n - 1) * 4294967296 + gd xs (n - 2)) * 2 ^ up + 2 ^ up ≤ 18446744073709551616 := by
    have h1 : (gd xs (n - 1) * 4294967296 + gd xs (n - 2) + 1) * 2 ^ up ≤ ((gd xs (n - 1) + 1) * 4294967296) * 2 ^ up := Nat.mul_le_mul_right _ (by omega)
    rw [Nat.mul_right_comm] at h1
    have h2 : (gd xs (n - 1) + 1) * 2 ^ up * 4294967296 ≤ 4294967296 * 4294967296 := Nat.mul_le_mul_right _ hq
    rw [Nat.add_mul _ 1, Nat.one_mul] at h1
    omega
  have x1 : IntKind.u64.wrap ((gd xs (n - 1) : Nat) * 4294967296) = (gd xs (n - 1) : Nat) * 4294967296 := wrap_u64_lt (by omega) (by omega)
  have x2 : bits .or .u64 ((gd xs (n - 1) : Nat) * 4294967296) (gd xs (n - 2) : Nat) = (gd xs (n - 1) : Nat) * 4294967296 + (gd xs (n - 2) : Nat) := or64i _ _ (gd xs (n - 1)) 32 (by omega) (by omega) (by omega) (by omega)
  have e3 : ((gd xs (n - 1) : Int) * 4294967296 + (gd xs (n - 2) : Nat)) * 2 ^ up = (((gd xs (n - 1) * 4294967296 + gd xs (n - 2)) * 2 ^ up : Nat) : Int) := by simp
  have x3 : IntKind.u64.wrap (((gd xs (n - 1) : Int) * 4294967296 + (gd xs (n - 2) : Nat)) * 2 ^ up) = ((gd xs (n - 1) : Int) * 4294967296 + (gd xs (n - 2) : Nat)) * 2 ^ up := wrap_u64_lt (by rw [e3]; omega) (by rw [e3]; have := Nat.two_pow_pos up; omega)
  have e4 : ((gd xs (n - 3) : Nat) : Int) / 2 ^ (32 - up) = ((gd xs (n - 3) / 2 ^ (32 - up) : Nat) : Int) := by simp
  have x4 : bits .or .u64 (((gd xs (n - 1) : Int) * 4294967296 + (gd xs (n - 2) : Nat)) * 2 ^ up) (((gd xs (n - 3) : Nat) : Int) / 2 ^ (32 - up)) = (((gd xs (n - 1) * 4294967296 + gd xs (n - 2)) * 2 ^ up + gd xs (n - 3) / 2 ^ (32 - up) : Nat) : Int) := by
    rw [e3, e4]
    clear e3 e4 x3
    generalize gd xs (n - 3) / 2 ^ (32 - up) = f at *
    rw [or64i _ _ (gd xs (n - 1) * 4294967296 + gd xs (n - 2)) up rfl (by omega) (by omega) (by omega)]
    omega
  have X4 := Lib.hid x4
  clear e3 e4 hS hF hq hP x4
  go_enter Tryz.func191, Tryz.ntmps191
  go_wp2
  go_quiet ((go_at_call 195; exact ((digit_any p l c _ xs _ (h.kept ((Fr.refl _ _).drewN _)) hl (by omega) (by omega)).mono fun _ _ hh => ⟨hh.1, _, hh.2.symm⟩)))
  go_wp2
  go_ret
  exact ⟨ret_int X4.out, (Fr.refl _ _).drewN _⟩

open Go.RowKit

theorem Bx.set3 {w : World} {b : Nat} {T : TypeId} {v0 v1 v2 : Value} (h : Bx w b T #[v0, v1, v2]) (u0 u1 u2 : Value) : Bx (((w.setCell ⟨b, 0, none⟩ u0).setCell ⟨b, 1, none⟩ u1).setCell ⟨b, 2, none⟩ u2) b T #[u0, u1, u2] := by
  have h' : w.heap[b]? = some (.cells #[v0, v1, v2] T (0, 0)) := h
  unfold Bx
  simp [World.setCell, Array.getElem?_modify, h']

theorem set3_fr (w : World) (b : Nat) (u0 u1 u2 : Value) : Fr [b] w (((w.setCell ⟨b, 0, none⟩ u0).setCell ⟨b, 1, none⟩ u1).setCell ⟨b, 2, none⟩ u2) :=
  (set2_fr w b u0 u1).trans ((Fr.refl [b] _).setCell ⟨b, 2, none⟩ _ (fun _ => List.mem_singleton.2 rfl)) (by simp)

theorem Bx.keep {S : List Nat} {w w' : World} {b : Nat} {T : TypeId} {vs : Array Value} (h : Bx w b T vs) (f : Fr S w w') (hs : b ∉ S) : Bx w' b T vs := (f.block b h.lt hs).trans h

def Nx (A G P M B D B' : Nat) : Prop := D < 4294967296 ∧ B' ≤ 1 ∧ D + (G + M) % 4294967296 + B = (A + P) % 4294967296 + 4294967296 * B'

theorem next_word (A P G M B : Nat) (hB : B ≤ 1) : ∃ D B' : Nat, Nx A G P M B D B' ∧
    IntKind.u64.wrap (IntKind.u64.wrap (((A : Int) + P) % 4294967296 - ((G : Int) + M) % 4294967296) - B) / 9223372036854775808 = B' ∧ IntKind.u64.wrap (IntKind.u64.wrap (((A : Int) + P) % 4294967296 - ((G : Int) + M) % 4294967296) - B) % 4294967296 = D := by
  obtain ⟨x, hx⟩ : ∃ x, x = (A + P) % 4294967296 := ⟨_, rfl⟩
  obtain ⟨y, hy⟩ : ∃ y, y = (G + M) % 4294967296 := ⟨_, rfl⟩
  have e1 : ((A : Int) + P) % 4294967296 = x := by omega
  have e2 : ((G : Int) + M) % 4294967296 = y := by omega
  obtain ⟨D, B', h1, h2, h3, h4, h5⟩ := sub_word x y B (by omega) (by omega) hB
  rw [e1, e2]
  exact ⟨D, B', ⟨h1, h2, by rw [← hx, ← hy]; exact h5⟩, h3, h4⟩

set_option maxRecDepth 100000 in
set_option maxHeartbeats 2000000 in
theorem next_any (b A G P M B : Nat) (w : World) (hb : Bx w b 148 #[.int .u64 P, .int .u64 M, .int .u64 B]) (_hA : A + P < 18446744073709551616) (_hG : G + M < 18446744073709551616) (hB : B ≤ 1) :
    Calls Tryz.prog 192 #[.pointer (some ⟨b, 0, none⟩), .int .u64 A, .int .u64 G] w fun e w' => ∃ D B', e = .returned (.int .u32 (D : Nat)) ∧ Nx A G P M B D B' ∧ Bx w' b 148 #[.int .u64 ((A + P) / 4294967296 : Nat), .int .u64 ((G + M) / 4294967296 : Nat), .int .u64 (B' : Nat)] ∧ Fr [b] w w' := by
  have c0 := hb.cell (j := 0) rfl
  have c1 := hb.cell (j := 1) rfl
  have c2 := hb.cell (j := 2) rfl
  have z0 := hb.free 0
  have z1 := hb.free 1
  have z2 := hb.free 2
  obtain ⟨D, B', hN, e1, e2⟩ := next_word A P G M B hB
  have E1 := Lib.hid e1
  have E2 := Lib.hid e2
  have HS := Lib.hid (hb.set3 (.int .u64 ((A + P) / 4294967296 : Nat)) (.int .u64 ((G + M) / 4294967296 : Nat)) (.int .u64 (B' : Nat)))
  have E3 : Hid (((A : Int) + P) / 4294967296 = (((A + P) / 4294967296 : Nat) : Int)) := by show _ = _; omega
  have E4 : Hid (((G : Int) + M) / 4294967296 = (((G + M) / 4294967296 : Nat) : Int)) := by show _ = _; omega
  clear e1 e2
  go_enter Tryz.func192, Tryz.ntmps192
  go_wp2_with fail
  go_ret
  rw [E1.out, E2.out, E3.out, E4.out]
  exact ⟨D, B', rfl, hN, HS.out, set3_fr _ _ _ _ _⟩

open Go.RowKit

structure Df (al ga : Nat) (U V Z : List Nat) (k P M B : Nat) : Prop where
  len : Z.length = k
  dig : Dg Z
  p : P < 4294967296
  m : M < 4294967296
  b : B ≤ 1
  eq : val Z + ga * val (V.take k) + pB k * P = al * val (U.take k) + pB k * (M + B)

theorem Df.start (al ga : Nat) (U V : List Nat) : Df al ga U V [] 0 0 0 0 := ⟨rfl, Dg.nil, by omega, by omega, by omega, by simp [val]⟩

theorem mul_lt32 {a x : Nat} (_ha : a < 4294967296) (_hx : x < 4294967296) : a * x ≤ 18446744065119617025 := by
  have := Nat.mul_le_mul (show a ≤ 4294967295 by omega) (show x ≤ 4294967295 by omega)
  omega

theorem Df.step {al ga : Nat} {U V Z : List Nat} {k P M B D B' : Nat} (h : Df al ga U V Z k P M B) (ha : al < 4294967296) (hg : ga < 4294967296) (hU : Dg U) (hV : Dg V) (hn : Nx (al * gd U k) (ga * gd V k) P M B D B') :
    Df al ga U V (Z ++ [D]) (k + 1) ((al * gd U k + P) / 4294967296) ((ga * gd V k + M) / 4294967296) B' := by
  have h1 := mul_lt32 ha (hU.at k)
  have h2 := mul_lt32 hg (hV.at k)
  have hp := h.p
  have hm := h.m
  obtain ⟨n1, n2, n3⟩ := hn
  refine ⟨by rw [List.length_append, h.len]; rfl, h.dig.append (Dg.one n1), by omega, by omega, n2, ?_⟩
  have e := diff_step (A := 4294967296) (x := gd U k) (y := gd V k) (plus := al * gd U k + P) (minus := ga * gd V k + M) (G := (al * gd U k + P) % 4294967296) (Pc' := (al * gd U k + P) / 4294967296) (Mc' := (ga * gd V k + M) / 4294967296) (D := D) (Bw' := B') h.eq rfl rfl (by omega) ⟨(ga * gd V k + M) % 4294967296, by omega, n3⟩
  rw [val_append, val_one, h.len, val_take_succ, val_take_succ, pB_succ]
  exact e

theorem Df.fin {al ga n P M B X : Nat} {U V Z : List Nat} (h : Df al ga U V Z n P M B) (_hu : U.length = n) (_hv : V.length = n) (hX : al * val U = ga * val V + X) (hT : X < pB n) : val Z = X := by
  have e := h.eq
  rw [List.take_of_length_le (by omega), List.take_of_length_le (by omega)] at e
  have hz := val_lt h.dig
  rw [h.len] at hz
  exact diff_end e hX hz hT

theorem Blk.behind {w : World} {g : Nat} {L : List Value} {xs Z : List Nat} {k : Nat} (h : Blk w g (spl L 0 Z)) (hs : Sg L 0 xs) (_hz : Z.length = k) (hk : k < xs.length) : w.cell? ⟨g, k, none⟩ = some (dv (gd xs k)) := by
  apply h.cell
  have h1 := hs.1
  rw [spl_at (by omega), if_neg (by omega), if_neg (by omega)]
  have := hs.2 k hk
  rwa [Nat.zero_add] at this

theorem Blk.laid {w : World} {g : Nat} {L : List Value} {Z : List Nat} {k : Nat} (h : Blk w g (spl L 0 Z)) (hz : Z.length = k) (_hk : k < L.length) (D : Nat) : Blk (w.setCell ⟨g, k, none⟩ (dv D)) g (spl L 0 (Z ++ [D])) := by
  have h1 := h.set k (dv D)
  have e := spl_set (L := L) (o := 0) (Z := Z) (by omega) D
  rw [Nat.zero_add, hz] at e
  rwa [e] at h1

set_option maxRecDepth 100000 in
set_option maxHeartbeats 4000000 in
theorem apply_odd (u0 u1 v0 v1 g1 g2 n c d : Nat) (L1 L2 : List Value) (xs ys : List Nat) (w : World) (h1 : Blk w g1 L1) (s1 : Sg L1 0 xs) (h2 : Blk w g2 L2) (s2 : Sg L2 0 ys) (_hne : g1 ≠ g2) (lx : xs.length = n) (ly : ys.length = n) (dx : Dg xs) (dy : Dg ys) (hu0 : u0 < 4294967296) (hu1 : u1 < 4294967296) (hv0 : v0 < 4294967296) (hv1 : v1 < 4294967296) (_hn : n ≤ 1099511627776) :
    Calls Tryz.prog 157 #[.agg #[.int .u64 (u0 : Nat), .int .u64 (u1 : Nat), .int .u64 (v0 : Nat), .int .u64 (v1 : Nat), .bool true], .slice (some ⟨g1, 0, none⟩) n c, .slice (some ⟨g2, 0, none⟩) n d] w fun e w' => e = .returned (.tuple #[]) ∧ ∃ Z1 Z2 P1 M1 B1 P2 M2 B2, Df u0 v0 xs ys Z1 n P1 M1 B1 ∧ Df v1 u1 ys xs Z2 n P2 M2 B2 ∧ Blk w' g1 (spl L1 0 Z1) ∧ Blk w' g2 (spl L2 0 Z2) ∧ Fr [g1, g2] w w' := by
  have hg1 := h1.lt
  have hg2 := h2.lt
  have Lx := Lib.hid lx
  have Ly := Lib.hid ly
  clear lx ly
  go_enter Tryz.func157, Tryz.ntmps157
  go_wp2_with fail
  have hw : Fr [] w (((w.alloc (Obj.cells #[.int .u64 (u0 : Nat), .int .u64 (u1 : Nat), .int .u64 (v0 : Nat), .int .u64 (v1 : Nat), .bool true] 123)).alloc (Obj.cells #[.int .u64 0, .int .u64 0, .int .u64 0] 148)).alloc (Obj.cells #[.int .u64 0, .int .u64 0, .int .u64 0] 148)) := (((Fr.refl _ _).alloc _).alloc _).alloc _
  have bc : Bx (((w.alloc (Obj.cells #[.int .u64 (u0 : Nat), .int .u64 (u1 : Nat), .int .u64 (v0 : Nat), .int .u64 (v1 : Nat), .bool true] 123)).alloc (Obj.cells #[.int .u64 0, .int .u64 0, .int .u64 0] 148)).alloc (Obj.cells #[.int .u64 0, .int .u64 0, .int .u64 0] 148)) w.heap.size 123 #[.int .u64 (u0 : Nat), .int .u64 (u1 : Nat), .int .u64 (v0 : Nat), .int .u64 (v1 : Nat), .bool true] := (Bx.made' (by simp) _ _).kept (((Fr.refl _ _).alloc _).alloc _)
  have bf : Bx (((w.alloc (Obj.cells #[.int .u64 (u0 : Nat), .int .u64 (u1 : Nat), .int .u64 (v0 : Nat), .int .u64 (v1 : Nat), .bool true] 123)).alloc (Obj.cells #[.int .u64 0, .int .u64 0, .int .u64 0] 148)).alloc (Obj.cells #[.int .u64 0, .int .u64 0, .int .u64 0] 148)) (w.heap.size + 1) 148 #[.int .u64 0, .int .u64 0, .int .u64 0] := (Bx.made' (by simp) _ _).kept ((Fr.refl _ _).alloc _)
  have bs : Bx (((w.alloc (Obj.cells #[.int .u64 (u0 : Nat), .int .u64 (u1 : Nat), .int .u64 (v0 : Nat), .int .u64 (v1 : Nat), .bool true] 123)).alloc (Obj.cells #[.int .u64 0, .int .u64 0, .int .u64 0] 148)).alloc (Obj.cells #[.int .u64 0, .int .u64 0, .int .u64 0] 148)) (w.heap.size + 2) 148 #[.int .u64 0, .int .u64 0, .int .u64 0] := Bx.made' (by simp) _ _
  generalize (((w.alloc (Obj.cells #[.int .u64 (u0 : Nat), .int .u64 (u1 : Nat), .int .u64 (v0 : Nat), .int .u64 (v1 : Nat), .bool true] 123)).alloc (Obj.cells #[.int .u64 0, .int .u64 0, .int .u64 0] 148)).alloc (Obj.cells #[.int .u64 0, .int .u64 0, .int .u64 0] 148)) = W at *
  have k1 : Blk W g1 (spl L1 0 []) := by rw [spl_nil]; exact h1.kept hw
  have k2 : Blk W g2 (spl L2 0 []) := by rw [spl_nil]; exact h2.kept hw
  have hw' : Fr [g1, g2] w W := hw.mono (by simp)
  go_loopw [13] (fun s wr => ∃ (k : Nat) (Z1 Z2 : List Nat) (P1 M1 B1 P2 M2 B2 : Nat), k ≤ n ∧ s = .int .i64 k ∧ Df u0 v0 xs ys Z1 k P1 M1 B1 ∧ Df v1 u1 ys xs Z2 k P2 M2 B2 ∧ Blk wr g1 (spl L1 0 Z1) ∧ Blk wr g2 (spl L2 0 Z2) ∧ Bx wr w.heap.size 123 #[.int .u64 (u0 : Nat), .int .u64 (u1 : Nat), .int .u64 (v0 : Nat), .int .u64 (v1 : Nat), .bool true] ∧ Bx wr (w.heap.size + 1) 148 #[.int .u64 (P1 : Nat), .int .u64 (M1 : Nat), .int .u64 (B1 : Nat)] ∧ Bx wr (w.heap.size + 2) 148 #[.int .u64 (P2 : Nat), .int .u64 (M2 : Nat), .int .u64 (B2 : Nat)] ∧ Fr [g1, g2] w wr) (fun s _ => n - (intOf s).toNat)
  case atStart => exact ⟨0, [], [], 0, 0, 0, 0, 0, 0, Nat.zero_le _, rfl, Df.start _ _ _ _, Df.start _ _ _ _, k1, k2, bc, bf, bs, hw'⟩
  case round =>
    obtain ⟨k, Z1, Z2, P1, M1, B1, P2, M2, B2, hk, rfl, D1, D2, k1', k2', bc', bf', bs', hf⟩ := hrel
    clear k1 k2 bc bf bs
    by_cases hlt : k < n
    · have cx := k1'.behind s1 D1.len (by rw [Lx.out]; exact hlt)
      have cy := k2'.behind s2 D2.len (by rw [Ly.out]; exact hlt)
      have fx := k1'.free k
      have fy := k2'.free k
      have hl1 : k < L1.length := by have := s1.1; rw [Lx.out] at this; omega
      have hl2 : k < L2.length := by have := s2.1; rw [Ly.out] at this; omega
      have S1 := Lib.hid (fun D B' (q : Nx (u0 * gd xs k) (v0 * gd ys k) P1 M1 B1 D B') => D1.step hu0 hv0 dx dy q)
      have S2 := Lib.hid (fun D B' (q : Nx (v1 * gd ys k) (u1 * gd xs k) P2 M2 B2 D B') => D2.step hv1 hu1 dy dx q)
      have LK1 := Lib.hid (fun w' (q : Blk w' g1 (spl L1 0 Z1)) D => q.laid D1.len hl1 D)
      have LK2 := Lib.hid (fun w' (q : Blk w' g2 (spl L2 0 Z2)) D => q.laid D2.len hl2 D)
      have LC1 := Lib.hid (fun w' (q : Blk w' g1 (spl L1 0 Z1)) => q.behind s1 D1.len (by rw [Lx.out]; exact hlt))
      have LC2 := Lib.hid (fun w' (q : Blk w' g2 (spl L2 0 Z2)) => q.behind s2 D2.len (by rw [Ly.out]; exact hlt))
      have hxk := dx.at k
      have hyk := dy.at k
      have q1 := D1.p
      have q2 := D1.m
      have q3 := D1.b
      have q4 := D2.p
      have q5 := D2.m
      have q6 := D2.b
      generalize gd xs k = x at *
      generalize gd ys k = y at *
      obtain ⟨m1, hm1⟩ : ∃ m, m = u0 * x := ⟨_, rfl⟩
      have l1 := mul_lt32 hu0 hxk
      rw [← hm1] at l1
      have E1 : IntKind.u64.wrap ((u0 : Int) * (x : Int)) = (m1 : Int) := by rw [← Int.natCast_mul, ← hm1]; exact wrap_u64_lt (by omega) (by omega)
      have H1 := Lib.hid hm1
      clear hm1
      obtain ⟨m2, hm2⟩ : ∃ m, m = v0 * y := ⟨_, rfl⟩
      have l2 := mul_lt32 hv0 hyk
      rw [← hm2] at l2
      have E2 : IntKind.u64.wrap ((v0 : Int) * (y : Int)) = (m2 : Int) := by rw [← Int.natCast_mul, ← hm2]; exact wrap_u64_lt (by omega) (by omega)
      have H2 := Lib.hid hm2
      clear hm2
      obtain ⟨m3, hm3⟩ : ∃ m, m = v1 * y := ⟨_, rfl⟩
      have l3 := mul_lt32 hv1 hyk
      rw [← hm3] at l3
      have E3 : IntKind.u64.wrap ((v1 : Int) * (y : Int)) = (m3 : Int) := by rw [← Int.natCast_mul, ← hm3]; exact wrap_u64_lt (by omega) (by omega)
      have H3 := Lib.hid hm3
      clear hm3
      obtain ⟨m4, hm4⟩ : ∃ m, m = u1 * x := ⟨_, rfl⟩
      have l4 := mul_lt32 hu1 hxk
      rw [← hm4] at l4
      have E4 : IntKind.u64.wrap ((u1 : Int) * (x : Int)) = (m4 : Int) := by rw [← Int.natCast_mul, ← hm4]; exact wrap_u64_lt (by omega) (by omega)
      have H4 := Lib.hid hm4
      clear hm4
      have cc0 := bc'.cell (j := 0) rfl
      have cc1 := bc'.cell (j := 1) rfl
      have cc2 := bc'.cell (j := 2) rfl
      have cc3 := bc'.cell (j := 3) rfl
      have cc4 := bc'.cell (j := 4) rfl
      clear D1 D2 h1 h2 hw hw'
      go_wp2_with fail
      go_quiet (fail)
      go_wp2_with fail
      refine (next_any (w.heap.size + 1) m1 m2 P1 M1 B1 _ (bf'.kept ((Fr.refl _ _).drewN _)) (by omega) (by omega) q3).mono ?_
      rintro e w1 ⟨d1, e1, rfl, n1, bf1, f1⟩
      have F1 : Fr [w.heap.size + 1] wr w1 := ((Fr.refl [w.heap.size + 1] _).drewN _).trans f1 (by simp)
      have k1a := k1'.keep F1 (by simp; omega)
      have k2a := k2'.keep F1 (by simp; omega)
      have bca := bc'.keep F1 (by simp)
      have bsa := bs'.keep F1 (by simp)
      have fa := k1a.free k
      have ca := LC1.out _ k1a
      have K1 := Lib.hid (LK1.out _ k1a d1)
      have F2 : Fr [g1] w1 (w1.setCell ⟨g1, k, none⟩ (dv d1)) := (Fr.refl _ _).setCell _ _ (by simp)
      have k2b := k2a.keep F2 (by simp; omega)
      have bcb := bca.keep F2 (by simp; omega)
      have bfb := bf1.keep F2 (by simp; omega)
      have bsb := bsa.keep F2 (by simp; omega)
      have N1 := Lib.hid (S1.out _ _ (by rw [H1.out, H2.out] at n1; exact n1))
      clear cc0 cc1 cc2 cc3 cc4 cx cy fx fy k1' k2' bc' bf' bs'
      have cc0 := bcb.cell (j := 0) rfl
      have cc1 := bcb.cell (j := 1) rfl
      have cc2 := bcb.cell (j := 2) rfl
      have cc3 := bcb.cell (j := 3) rfl
      go_wp2_with fail
      generalize hw2 : w1.setCell ⟨g1, k, none⟩ (dv d1) = w2 at *
      clear hw2
      refine (next_any (w.heap.size + 2) m3 m4 P2 M2 B2 _ bsb (by omega) (by omega) q6).mono ?_
      rintro e w3 ⟨d2, e2, rfl, n2, bs1, f3⟩
      have fb := (k2b.keep f3 (by simp; omega)).free k
      have cb := LC2.out _ (k2b.keep f3 (by simp; omega))
      have K2 := Lib.hid (LK2.out _ (k2b.keep f3 (by simp; omega)) d2)
      have F4 : Fr [g2] w3 (w3.setCell ⟨g2, k, none⟩ (dv d2)) := (Fr.refl _ _).setCell _ _ (by simp)
      have K1' := Lib.hid ((K1.out.keep f3 (by simp; omega)).keep F4 (by simp; omega))
      have bcd := (bcb.keep f3 (by simp)).keep F4 (by simp; omega)
      have bfd := (bfb.keep f3 (by simp)).keep F4 (by simp; omega)
      have bsd := bs1.keep F4 (by simp; omega)
      have N2 := Lib.hid (S2.out _ _ (by rw [H3.out, H4.out] at n2; exact n2))
      have FF : Fr [g1, g2] w (w3.setCell ⟨g2, k, none⟩ (dv d2)) := by
        have a1 := hf.trans F1 (T := [w.heap.size + 1]) (by intro x hx hl; simp at hx; omega)
        have a2 := a1.trans F2 (by simp)
        have a3 := a2.trans f3 (by intro x hx hl; simp at hx; omega)
        exact a3.trans F4 (by simp)
      clear cc0 cc1 cc2 cc3
      go_wp2_with fail
      go_roundw
      case rel =>
        rw [H1.out, H2.out] at bfd
        rw [H3.out, H4.out] at bsd
        exact ⟨k + 1, Z1 ++ [d1], Z2 ++ [d2], _, _, e1, _, _, e2, by omega, by go_num, N1.out, N2.out, K1'.out, K2.out, bcd, bfd, bsd, FF⟩
      case measure => simp [intOf]; omega
    · obtain rfl : k = n := by omega
      go_wp2_with fail
      go_end0
      exact ⟨rfl, Z1, Z2, _, _, _, _, _, _, D1, D2, k1', k2', hf⟩

set_option maxRecDepth 100000 in
set_option maxHeartbeats 4000000 in
theorem apply_even (u0 u1 v0 v1 g1 g2 n c d : Nat) (L1 L2 : List Value) (xs ys : List Nat) (w : World) (h1 : Blk w g1 L1) (s1 : Sg L1 0 xs) (h2 : Blk w g2 L2) (s2 : Sg L2 0 ys) (_hne : g1 ≠ g2) (lx : xs.length = n) (ly : ys.length = n) (dx : Dg xs) (dy : Dg ys) (hu0 : u0 < 4294967296) (hu1 : u1 < 4294967296) (hv0 : v0 < 4294967296) (hv1 : v1 < 4294967296) (_hn : n ≤ 1099511627776) :
    Calls Tryz.prog 157 #[.agg #[.int .u64 (u0 : Nat), .int .u64 (u1 : Nat), .int .u64 (v0 : Nat), .int .u64 (v1 : Nat), .bool false], .slice (some ⟨g1, 0, none⟩) n c, .slice (some ⟨g2, 0, none⟩) n d] w fun e w' => e = .returned (.tuple #[]) ∧ ∃ Z1 Z2 P1 M1 B1 P2 M2 B2, Df v0 u0 ys xs Z1 n P1 M1 B1 ∧ Df u1 v1 xs ys Z2 n P2 M2 B2 ∧ Blk w' g1 (spl L1 0 Z1) ∧ Blk w' g2 (spl L2 0 Z2) ∧ Fr [g1, g2] w w' := by
  have hg1 := h1.lt
  have hg2 := h2.lt
  have Lx := Lib.hid lx
  have Ly := Lib.hid ly
  clear lx ly
  go_enter Tryz.func157, Tryz.ntmps157
  go_wp2_with fail
  have hw : Fr [] w (((w.alloc (Obj.cells #[.int .u64 (u0 : Nat), .int .u64 (u1 : Nat), .int .u64 (v0 : Nat), .int .u64 (v1 : Nat), .bool false] 123)).alloc (Obj.cells #[.int .u64 0, .int .u64 0, .int .u64 0] 148)).alloc (Obj.cells #[.int .u64 0, .int .u64 0, .int .u64 0] 148)) := (((Fr.refl _ _).alloc _).alloc _).alloc _
  have bc : Bx (((w.alloc (Obj.cells #[.int .u64 (u0 : Nat), .int .u64 (u1 : Nat), .int .u64 (v0 : Nat), .int .u64 (v1 : Nat), .bool false] 123)).alloc (Obj.cells #[.int .u64 0, .int .u64 0, .int .u64 0] 148)).alloc (Obj.cells #[.int .u64 0, .int .u64 0, .int .u64 0] 148)) w.heap.size 123 #[.int .u64 (u0 : Nat), .int .u64 (u1 : Nat), .int .u64 (v0 : Nat), .int .u64 (v1 : Nat), .bool false] := (Bx.made' (by simp) _ _).kept (((Fr.refl _ _).alloc _).alloc _)
  have bf : Bx (((w.alloc (Obj.cells #[.int .u64 (u0 : Nat), .int .u64 (u1 : Nat), .int .u64 (v0 : Nat), .int .u64 (v1 : Nat), .bool false] 123)).alloc (Obj.cells #[.int .u64 0, .int .u64 0, .int .u64 0] 148)).alloc (Obj.cells #[.int .u64 0, .int .u64 0, .int .u64 0] 148)) (w.heap.size + 1) 148 #[.int .u64 0, .int .u64 0, .int .u64 0] := (Bx.made' (by simp) _ _).kept ((Fr.refl _ _).alloc _)
  have bs : Bx (((w.alloc (Obj.cells #[.int .u64 (u0 : Nat), .int .u64 (u1 : Nat), .int .u64 (v0 : Nat), .int .u64 (v1 : Nat), .bool false] 123)).alloc (Obj.cells #[.int .u64 0, .int .u64 0, .int .u64 0] 148)).alloc (Obj.cells #[.int .u64 0, .int .u64 0, .int .u64 0] 148)) (w.heap.size + 2) 148 #[.int .u64 0, .int .u64 0, .int .u64 0] := Bx.made' (by simp) _ _
  generalize (((w.alloc (Obj.cells #[.int .u64 (u0 : Nat), .int .u64 (u1 : Nat), .int .u64 (v0 : Nat), .int .u64 (v1 : Nat), .bool false] 123)).alloc (Obj.cells #[.int .u64 0, .int .u64 0, .int .u64 0] 148)).alloc (Obj.cells #[.int .u64 0, .int .u64 0, .int .u64 0] 148)) = W at *
  have k1 : Blk W g1 (spl L1 0 []) := by rw [spl_nil]; exact h1.kept hw
  have k2 : Blk W g2 (spl L2 0 []) := by rw [spl_nil]; exact h2.kept hw
  have hw' : Fr [g1, g2] w W := hw.mono (by simp)
  go_loopw [13] (fun s wr => ∃ (k : Nat) (Z1 Z2 : List Nat) (P1 M1 B1 P2 M2 B2 : Nat), k ≤ n ∧ s = .int .i64 k ∧ Df v0 u0 ys xs Z1 k P1 M1 B1 ∧ Df u1 v1 xs ys Z2 k P2 M2 B2 ∧ Blk wr g1 (spl L1 0 Z1) ∧ Blk wr g2 (spl L2 0 Z2) ∧ Bx wr w.heap.size 123 #[.int .u64 (u0 : Nat), .int .u64 (u1 : Nat), .int .u64 (v0 : Nat), .int .u64 (v1 : Nat), .bool false] ∧ Bx wr (w.heap.size + 1) 148 #[.int .u64 (P1 : Nat), .int .u64 (M1 : Nat), .int .u64 (B1 : Nat)] ∧ Bx wr (w.heap.size + 2) 148 #[.int .u64 (P2 : Nat), .int .u64 (M2 : Nat), .int .u64 (B2 : Nat)] ∧ Fr [g1, g2] w wr) (fun s _ => n - (intOf s).toNat)
  case atStart => exact ⟨0, [], [], 0, 0, 0, 0, 0, 0, Nat.zero_le _, rfl, Df.start _ _ _ _, Df.start _ _ _ _, k1, k2, bc, bf, bs, hw'⟩
  case round =>
    obtain ⟨k, Z1, Z2, P1, M1, B1, P2, M2, B2, hk, rfl, D1, D2, k1', k2', bc', bf', bs', hf⟩ := hrel
    clear k1 k2 bc bf bs
    by_cases hlt : k < n
    · have cx := k1'.behind s1 D1.len (by rw [Lx.out]; exact hlt)
      have cy := k2'.behind s2 D2.len (by rw [Ly.out]; exact hlt)
      have fx := k1'.free k
      have fy := k2'.free k
      have hl1 : k < L1.length := by have := s1.1; rw [Lx.out] at this; omega
      have hl2 : k < L2.length := by have := s2.1; rw [Ly.out] at this; omega
      have S1 := Lib.hid (fun D B' (q : Nx (v0 * gd ys k) (u0 * gd xs k) P1 M1 B1 D B') => D1.step hv0 hu0 dy dx q)
      have S2 := Lib.hid (fun D B' (q : Nx (u1 * gd xs k) (v1 * gd ys k) P2 M2 B2 D B') => D2.step hu1 hv1 dx dy q)
      have LK1 := Lib.hid (fun w' (q : Blk w' g1 (spl L1 0 Z1)) D => q.laid D1.len hl1 D)
      have LK2 := Lib.hid (fun w' (q : Blk w' g2 (spl L2 0 Z2)) D => q.laid D2.len hl2 D)
      have LC1 := Lib.hid (fun w' (q : Blk w' g1 (spl L1 0 Z1)) => q.behind s1 D1.len (by rw [Lx.out]; exact hlt))
      have LC2 := Lib.hid (fun w' (q : Blk w' g2 (spl L2 0 Z2)) => q.behind s2 D2.len (by rw [Ly.out]; exact hlt))
      have hxk := dx.at k
      have hyk := dy.at k
      have q1 := D1.p
      have q2 := D1.m
      have q3 := D1.b
      have q4 := D2.p
      have q5 := D2.m
      have q6 := D2.b
      generalize gd xs k = x at *
      generalize gd ys k = y at *
      obtain ⟨m1, hm1⟩ : ∃ m, m = v0 * y := ⟨_, rfl⟩
      have l1 := mul_lt32 hv0 hyk
      rw [← hm1] at l1
      have E1 : IntKind.u64.wrap ((v0 : Int) * (y : Int)) = (m1 : Int) := by rw [← Int.natCast_mul, ← hm1]; exact wrap_u64_lt (by omega) (by omega)
      have H1 := Lib.hid hm1
      clear hm1
      obtain ⟨m2, hm2⟩ : ∃ m, m = u0 * x := ⟨_, rfl⟩
      have l2 := mul_lt32 hu0 hxk
      rw [← hm2] at l2
      have E2 : IntKind.u64.wrap ((u0 : Int) * (x : Int)) = (m2 : Int) := by rw [← Int.natCast_mul, ← hm2]; exact wrap_u64_lt (by omega) (by omega)
      have H2 := Lib.hid hm2
      clear hm2
      obtain ⟨m3, hm3⟩ : ∃ m, m = u1 * x := ⟨_, rfl⟩
      have l3 := mul_lt32 hu1 hxk
      rw [← hm3] at l3
      have E3 : IntKind.u64.wrap ((u1 : Int) * (x : Int)) = (m3 : Int) := by rw [← Int.natCast_mul, ← hm3]; exact wrap_u64_lt (by omega) (by omega)
      have H3 := Lib.hid hm3
      clear hm3
      obtain ⟨m4, hm4⟩ : ∃ m, m = v1 * y := ⟨_, rfl⟩
      have l4 := mul_lt32 hv1 hyk
      rw [← hm4] at l4
      have E4 : IntKind.u64.wrap ((v1 : Int) * (y : Int)) = (m4 : Int) := by rw [← Int.natCast_mul, ← hm4]; exact wrap_u64_lt (by omega) (by omega)
      have H4 := Lib.hid hm4
      clear hm4
      have cc0 := bc'.cell (j := 0) rfl
      have cc1 := bc'.cell (j := 1) rfl
      have cc2 := bc'.cell (j := 2) rfl
      have cc3 := bc'.cell (j := 3) rfl
      have cc4 := bc'.cell (j := 4) rfl
      clear D1 D2 h1 h2 hw hw'
      go_wp2_with fail
      go_quiet (fail)
      go_wp2_with fail
      refine (next_any (w.heap.size + 1) m1 m2 P1 M1 B1 _ (bf'.kept ((Fr.refl _ _).drewN _)) (by omega) (by omega) q3).mono ?_
      rintro e w1 ⟨d1, e1, rfl, n1, bf1, f1⟩
      have F1 : Fr [w.heap.size + 1] wr w1 := ((Fr.refl [w.heap.size + 1] _).drewN _).trans f1 (by simp)
      have k1a := k1'.keep F1 (by simp; omega)
      have k2a := k2'.keep F1 (by simp; omega)
      have bca := bc'.keep F1 (by simp)
      have bsa := bs'.keep F1 (by simp)
      have fa := k1a.free k
      have ca := LC1.out _ k1a
      have K1 := Lib.hid (LK1.out _ k1a d1)
      have F2 : Fr [g1] w1 (w1.setCell ⟨g1, k, none⟩ (dv d1)) := (Fr.refl _ _).setCell _ _ (by simp)
      have k2b := k2a.keep F2 (by simp; omega)
      have bcb := bca.keep F2 (by simp; omega)
      have bfb := bf1.keep F2 (by simp; omega)
      have bsb := bsa.keep F2 (by simp; omega)
      have N1 := Lib.hid (S1.out _ _ (by rw [H1.out, H2.out] at n1; exact n1))
      clear cc0 cc1 cc2 cc3 cc4 cx cy fx fy k1' k2' bc' bf' bs'
      have cc0 := bcb.cell (j := 0) rfl
      have cc1 := bcb.cell (j := 1) rfl
      have cc2 := bcb.cell (j := 2) rfl
      have cc3 := bcb.cell (j := 3) rfl
      go_wp2_with fail
      generalize hw2 : w1.setCell ⟨g1, k, none⟩ (dv d1) = w2 at *
      clear hw2
      refine (next_any (w.heap.size + 2) m3 m4 P2 M2 B2 _ bsb (by omega) (by omega) q6).mono ?_
      rintro e w3 ⟨d2, e2, rfl, n2, bs1, f3⟩
      have fb := (k2b.keep f3 (by simp; omega)).free k
      have cb := LC2.out _ (k2b.keep f3 (by simp; omega))
      have K2 := Lib.hid (LK2.out _ (k2b.keep f3 (by simp; omega)) d2)
      have F4 : Fr [g2] w3 (w3.setCell ⟨g2, k, none⟩ (dv d2)) := (Fr.refl _ _).setCell _ _ (by simp)
      have K1' := Lib.hid ((K1.out.keep f3 (by simp; omega)).keep F4 (by simp; omega))
      have bcd := (bcb.keep f3 (by simp)).keep F4 (by simp; omega)
      have bfd := (bfb.keep f3 (by simp)).keep F4 (by simp; omega)
      have bsd := bs1.keep F4 (by simp; omega)
      have N2 := Lib.hid (S2.out _ _ (by rw [H3.out, H4.out] at n2; exact n2))
      have FF : Fr [g1, g2] w (w3.setCell ⟨g2, k, none⟩ (dv d2)) := by
        have a1 := hf.trans F1 (T := [w.heap.size + 1]) (by intro x hx hl; simp at hx; omega)
        have a2 := a1.trans F2 (by simp)
        have a3 := a2.trans f3 (by intro x hx hl; simp at hx; omega)
        exact a3.trans F4 (by simp)
      clear cc0 cc1 cc2 cc3
      go_wp2_with fail
      go_roundw
      case rel =>
        rw [H1.out, H2.out] at bfd
        rw [H3.out, H4.out] at bsd
        exact ⟨k + 1, Z1 ++ [d1], Z2 ++ [d2], _, _, e1, _, _, e2, by omega, by go_num, N1.out, N2.out, K1'.out, K2.out, bcd, bfd, bsd, FF⟩
      case measure => simp [intOf]; omega
    · obtain rfl : k = n := by omega
      go_wp2_with fail
      go_end0
      exact ⟨rfl, Z1, Z2, _, _, _, _, _, _, D1, D2, k1', k2', hf⟩

open Go.RowKit

theorem window_w (p : Option Addr) (l c n up : Nat) (xs : List Nat) (w : World) (h : Sl w p l c xs) (hl : l ≤ 1099511627776) (hn3 : 3 ≤ n) (hn : n ≤ 1099511627776) (hup : up ≤ 31) (htop : gd xs (n - 1) * 2 ^ up < 4294967296) :
    Calls Tryz.prog 191 #[.slice p l c, .int .i64 n, .int .i64 up] w fun e w' => e = .returned (.int .u64 (win xs n up : Nat)) ∧ Fr [] w w' := window_any p l c n up xs w h hl hn3 hn hup htop

theorem Bx.set5 {w : World} {b : Nat} {T : TypeId} {v0 v1 v2 v3 v4 : Value} (h : Bx w b T #[v0, v1, v2, v3, v4]) (u0 u1 u2 u3 u4 : Value) : Bx (((((w.setCell ⟨b, 0, none⟩ u0).setCell ⟨b, 1, none⟩ u1).setCell ⟨b, 2, none⟩ u2).setCell ⟨b, 3, none⟩ u3).setCell ⟨b, 4, none⟩ u4) b T #[u0, u1, u2, u3, u4] := by
  have h' : w.heap[b]? = some (.cells #[v0, v1, v2, v3, v4] T (0, 0)) := h
  unfold Bx
  simp [World.setCell, Array.getElem?_modify, h']

theorem set5_fr (w : World) (b : Nat) (u0 u1 u2 u3 u4 : Value) : Fr [b] w (((((w.setCell ⟨b, 0, none⟩ u0).setCell ⟨b, 1, none⟩ u1).setCell ⟨b, 2, none⟩ u2).setCell ⟨b, 3, none⟩ u3).setCell ⟨b, 4, none⟩ u4) :=
  (((set3_fr w b u0 u1 u2).trans ((Fr.refl [b] _).setCell ⟨b, 3, none⟩ _ (fun _ => List.mem_singleton.2 rfl)) (by simp)).trans ((Fr.refl [b] _).setCell ⟨b, 4, none⟩ _ (fun _ => List.mem_singleton.2 rfl)) (by simp))

def SimPost (w : World) (X Y : Nat) (e : Ending) (w' : World) : Prop :=
  ∃ (u0 u1 v0 v1 : Nat) (odd : Bool), e = .returned (.tuple #[.agg #[.int .u64 (u0 : Nat), .int .u64 (u1 : Nat), .int .u64 (v0 : Nat), .int .u64 (v1 : Nat), .bool odd], .bool ((v0 : Int) != 0)]) ∧ (v0 ≠ 0 → Cof odd u0 u1 v0 v1 X Y) ∧ Fr [] w w'

theorem sim_end {w wr : World} {fn : Func} {a : Act} {X Y u0 u1 v0 v1 : Nat} {odd : Bool} (hbr : Bx wr w.heap.size 123 #[.int .u64 0, .int .u64 0, .int .u64 0, .int .u64 0, .bool false]) (hf : Fr [] w wr) (hd : a.defers = []) (hc : v0 ≠ 0 → Cof odd u0 u1 v0 v1 X Y)
    (hv : ∀ W' : World, W'.cell? ⟨w.heap.size, 0, none⟩ = some (.int .u64 (u0 : Nat)) → W'.cell? ⟨w.heap.size, 1, none⟩ = some (.int .u64 (u1 : Nat)) → W'.cell? ⟨w.heap.size, 2, none⟩ = some (.int .u64 (v0 : Nat)) → W'.cell? ⟨w.heap.size, 3, none⟩ = some (.int .u64 (v1 : Nat)) → W'.cell? ⟨w.heap.size, 4, none⟩ = some (.bool odd) → (results fn a.tmps).run Tryz.prog W' = .ok (.tuple #[.agg #[.int .u64 (u0 : Nat), .int .u64 (u1 : Nat), .int .u64 (v0 : Nat), .int .u64 (v1 : Nat), .bool odd], .bool ((v0 : Int) != 0)]) W') :
    bodyPost Tryz.prog fn (SimPost w X Y) .ret a (((((wr.setCell ⟨w.heap.size, 0, none⟩ (.int .u64 (u0 : Nat))).setCell ⟨w.heap.size, 1, none⟩ (.int .u64 (u1 : Nat))).setCell ⟨w.heap.size, 2, none⟩ (.int .u64 (v0 : Nat))).setCell ⟨w.heap.size, 3, none⟩ (.int .u64 (v1 : Nat))).setCell ⟨w.heap.size, 4, none⟩ (.bool odd)).drew := by
  have h5 := hbr.set5 (.int .u64 (u0 : Nat)) (.int .u64 (u1 : Nat)) (.int .u64 (v0 : Nat)) (.int .u64 (v1 : Nat)) (.bool odd)
  have f5 := (hf.trans (set5_fr wr w.heap.size (.int .u64 (u0 : Nat)) (.int .u64 (u1 : Nat)) (.int .u64 (v0 : Nat)) (.int .u64 (v1 : Nat)) (.bool odd)) (fun x hx hl => by have := List.mem_singleton.1 hx; omega)).drew
  have h6 := h5.kept (Fr.refl [] _).drew
  exact bodyPost_ret (hv _ (h6.cell rfl) (h6.cell rfl) (h6.cell rfl) (h6.cell rfl) (h6.cell rfl)) hd ⟨u0, u1, v0, v1, odd, rfl, hc, f5⟩

set_option maxRecDepth 100000 in
set_option maxHeartbeats 4000000 in
theorem simulate_any (p q : Option Addr) (n c d : Nat) (xs ys : List Nat) (w : World) (hx : Sl w p n c xs) (hy : Sl w q n d ys) (hn3 : 3 ≤ n) (hn : n ≤ 1099511627776) (htop : gd xs (n - 1) ≠ 0) (hle : val ys ≤ val xs) :
    Calls Tryz.prog 156 #[.slice p n c, .slice q n d] w (SimPost w (val xs) (val ys)) := by
  have lx := hx.len
  have ly := hy.len
  obtain ⟨up, hup⟩ : ∃ up, up = 32 - bl (gd xs (n - 1)) := ⟨_, rfl⟩
  have hb := bl_le (x := gd xs (n - 1)) (n := 32) (hx.dig.at _)
  have hb1 := bl_pos htop
  have hup31 : up ≤ 31 := by omega
  have ht1 : gd xs (n - 1) * 2 ^ up < 4294967296 := by
    have h1 := bl_lt (gd xs (n - 1))
    have h2 : (gd xs (n - 1)) * 2 ^ up < 2 ^ bl (gd xs (n - 1)) * 2 ^ up := Nat.mul_lt_mul_of_pos_right h1 (Nat.two_pow_pos _)
    rw [← Nat.pow_add, show bl (gd xs (n - 1)) + up = 32 from by omega] at h2
    exact h2
  have ht2 : gd ys (n - 1) * 2 ^ up < 4294967296 := Nat.lt_of_le_of_lt (Nat.mul_le_mul_right _ (top_le lx ly hx.dig (by omega) hle)) ht1
  have hP := win_lt hx.dig hup31 ht1
  have hP0 := win_pos (up := up) htop
  have hQP := win_le (n := n) (up := up) lx ly hx.dig hn3 hup31 hle
  have HC : Hid (∀ odd u0 u1 v0 v1, Prev (win xs n up) (win ys n up) odd u0 u1 v0 v1 → v0 ≠ 0 → Cof odd u0 u1 v0 v1 (val xs) (val ys)) := by
    intro odd u0 u1 v0 v1 h1 h2
    have h := h1.cof h2 hP (wlo_lt (up := up) hx.dig lx hn3) (wlo_lt (up := up) hy.dig ly hn3)
    rwa [← win_val lx hn3 hup31, ← win_val ly hn3 hup31] at h
  obtain ⟨b, off, rfl, hbl, hcell⟩ := hx.rd.open (by omega)
  have ctop := hcell (n - 1) (by omega)
  have dtop := hx.dig.at (n - 1)
  have t1 : ((n : Int) - 1).toNat = n - 1 := by omega
  have w1 : IntKind.i64.wrap ((n : Int) - 1) = (n : Int) - 1 := IntWalk.i64_in _ (by omega)
  have eup : ((32 - bl (gd xs (n - 1)) : Nat) : Int) = (up : Int) := by rw [hup]
  have EUP := Lib.hid eup
  have Lx := Lib.hid lx
  have Ly := Lib.hid ly
  have HUP := Lib.hid hup
  clear hcell lx ly hup eup hb hb1 htop hle
  go_enter Tryz.func156, Tryz.ntmps156
  go_wp2_with fail
  refine (lz32_any _ _ dtop).mono ?_
  rintro e w' ⟨rfl, rfl⟩
  rw [EUP.out]
  go_wp2_with fail
  refine (window_w _ _ _ n up xs _ (hx.kept ((Fr.refl _ _).alloc _)) hn hn3 hn hup31 ht1).mono ?_
  rintro e w2 ⟨rfl, f2⟩
  go_wp2_with fail
  refine (window_w _ _ _ n up ys _ (hy.kept (((Fr.refl [] _).alloc _).trans f2 (by simp))) hn hn3 hn hup31 ht2).mono ?_
  rintro e w3 ⟨rfl, f3⟩
  have fw : Fr [] w w3 := (((Fr.refl [] w).alloc _).trans f2 (by simp)).trans f3 (by simp)
  have fr := f2.trans f3 (by simp)
  generalize win xs n up = P at *
  generalize win ys n up = Q at *
  go_wp2_with fail
  obtain ⟨G, hG⟩ : ∃ G, G = w3.heap.size := ⟨_, rfl⟩
  have hGw : w.heap.size < G := by have := fr.size; simp at this; omega
  have bc : Bx (w3.alloc (Obj.cells #[.int .u64 0, .int .u64 1, .int .u64 0, .int .u64 0, .bool false] 123)) G 123 #[.int .u64 0, .int .u64 1, .int .u64 0, .int .u64 0, .bool false] := Bx.made' hG _ _
  have br : Bx (w3.alloc (Obj.cells #[.int .u64 0, .int .u64 1, .int .u64 0, .int .u64 0, .bool false] 123)) w.heap.size 123 #[.int .u64 0, .int .u64 0, .int .u64 0, .int .u64 0, .bool false] := ((Bx.made w _ _).kept fr).kept ((Fr.refl _ _).alloc _)
  have fw2 : Fr [] w (w3.alloc (Obj.cells #[.int .u64 0, .int .u64 1, .int .u64 0, .int .u64 0, .bool false] 123)) := fw.alloc _
  rw [← hG]
  generalize w3.alloc (Obj.cells #[.int .u64 0, .int .u64 1, .int .u64 0, .int .u64 0, .bool false] 123) = W at *
  have HS := St.start hQP
  clear hG fr f2 f3 fw
  go_loopg [8, 9, 11, 12] Q (fun k s8 s9 s11 s12 wr => ∃ (pp u v u0 u1 v0 v1 : Nat) (odd : Bool), s8 = .int .u64 pp ∧ s9 = .int .u64 k ∧ s11 = .int .u64 u ∧ s12 = .int .u64 v ∧ St P Q odd u1 u v1 v pp k ∧ Prev P Q odd u0 u1 v0 v1 ∧ Bx wr G 123 #[.int .u64 (u0 : Nat), .int .u64 (u1 : Nat), .int .u64 (v0 : Nat), .int .u64 (v1 : Nat), .bool odd] ∧ Bx wr w.heap.size 123 #[.int .u64 0, .int .u64 0, .int .u64 0, .int .u64 0, .bool false] ∧ Fr [] w wr)
  case atStart => exact ⟨P, 0, 1, 0, 1, 0, 0, false, rfl, rfl, rfl, rfl, HS, Or.inl rfl, bc, br, fw2⟩
  case round =>
    obtain ⟨pp, u, v, u0, u1, v0, v1, odd, rfl, rfl, rfl, rfl, hst, hpv, hbc, hbr, hf⟩ := hrel
    clear bc br fw2 HS
    have cc0 := hbc.cell (j := 0) rfl
    have cc1 := hbc.cell (j := 1) rfl
    have cc2 := hbc.cell (j := 2) rfl
    have cc3 := hbc.cell (j := 3) rfl
    have cc4 := hbc.cell (j := 4) rfl
    have z0 := hbc.free 0
    have z1 := hbc.free 1
    have z2 := hbc.free 2
    have z3 := hbc.free 3
    have z4 := hbc.free 4
    have x0 := hst.p_pos hP0
    have x1 := hst.qp
    have x2 := hst.le x0
    have x3 := hst.cd
    have x4 := hst.bd
    have x5 := hst.a_le
    have x6 := hst.d_pos
    have xp : pp ≤ P := by
      have h1 := hst.hp
      have h2 : 1 * pp ≤ v * pp := Nat.mul_le_mul_right _ x6
      omega
    by_cases hq : v ≤ gk
    · have hv : v < 4294967296 := by
        have hs := hst.small hq
        apply Nat.lt_of_not_le
        intro h3
        have := Nat.mul_le_mul h3 h3
        omega
      by_cases hc : v1 + v ≤ pp - gk
      · have g0 : 0 < gk := by omega
        have hst2 := hst.step g0
        have hpv2 := Prev.step hst hq hc
        obtain ⟨T, hT⟩ : ∃ T, T = pp / gk := ⟨_, rfl⟩
        obtain ⟨R, hR⟩ : ∃ R, R = pp % gk := ⟨_, rfl⟩
        rw [← hT, ← hR] at hst2
        have y1 := hst2.le (by omega)
        have y2 := hst2.bd
        have hRl : R < gk := by rw [hR]; exact Nat.mod_lt _ g0
        obtain ⟨m1, hm1⟩ : ∃ m, m = T * u := ⟨_, rfl⟩
        obtain ⟨m2, hm2⟩ : ∃ m, m = T * v := ⟨_, rfl⟩
        rw [← hm1, ← hm2] at hst2 y2
        rw [← hm2] at y1
        have eT : (pp : Int) / (gk : Int) = (T : Int) := by rw [hT]; exact (Int.natCast_ediv _ _).symm
        have eR : Int.tmod (pp : Int) (gk : Int) = (R : Int) := by rw [hR]; rfl
        have e0 : IntKind.u64.wrap (T : Int) = (T : Int) := wrap_u64_lt (by omega) (by rw [hT]; have := Nat.div_le_self pp gk; omega)
        have e1 : IntKind.u64.wrap ((T : Int) * (u : Int)) = (m1 : Int) := by rw [← Int.natCast_mul, ← hm1]; exact wrap_u64_lt (by omega) (by omega)
        have e2 : IntKind.u64.wrap ((T : Int) * (v : Int)) = (m2 : Int) := by rw [← Int.natCast_mul, ← hm2]; exact wrap_u64_lt (by omega) (by omega)
        have ER := Lib.hid eR
        have HT := Lib.hid hT
        have HR := Lib.hid hR
        have HST := Lib.hid hst2
        have HPV := Lib.hid hpv2
        clear eR hT hR hm1 hm2 hst2 hpv2 hst hpv
        go_wp2_with fail
        go_quiet (fail)
        go_wp2_with fail
        go_roundg R
        case rel =>
          refine ⟨gk, u1 + m1, v1 + m2, u1, u, v1, v, !odd, rfl, congrArg (Value.int .u64) (by first | exact ER.out | (rw [HR.out]; rfl)), by go_num, by go_num, HST.out, HPV.out, ?_, ?_, ?_⟩
          · exact (hbc.kept ((Fr.refl [] _).drewN nq)).set5 _ _ _ _ _
          · exact (hbr.kept ((Fr.refl [] _).drewN nq)).keep (S := [G]) (set5_fr _ G _ _ _ _ _) (by simp; omega)
          · exact (hf.drewN nq).trans (T := [G]) (set5_fr _ G _ _ _ _ _) (fun x hx hl => by have := List.mem_singleton.1 hx; omega)
        case measure => exact hRl
      · have br0 := hbr.cell (j := 0) rfl
        have br1 := hbr.cell (j := 1) rfl
        have br2 := hbr.cell (j := 2) rfl
        have br3 := hbr.cell (j := 3) rfl
        have br4 := hbr.cell (j := 4) rfl
        have y0 := hbr.free 0
        have y1 := hbr.free 1
        have y2 := hbr.free 2
        have y3 := hbr.free 3
        have y4 := hbr.free 4
        have HV := Lib.hid (HC.out _ _ _ _ _ hpv)
        clear hst hpv
        go_wp2_with fail
        go_region
        all_goals
          go_wp2
          exact sim_end hbr hf rfl HV.out (fun W' c0 c1 c2 c3 c4 => by simp [results, Tryz.results156, go_sem, c0, c1, c2, c3, c4])
    · have br0 := hbr.cell (j := 0) rfl
      have br1 := hbr.cell (j := 1) rfl
      have br2 := hbr.cell (j := 2) rfl
      have br3 := hbr.cell (j := 3) rfl
      have br4 := hbr.cell (j := 4) rfl
      have y0 := hbr.free 0
      have y1 := hbr.free 1
      have y2 := hbr.free 2
      have y3 := hbr.free 3
      have y4 := hbr.free 4
      have HV := Lib.hid (HC.out _ _ _ _ _ hpv)
      clear hst hpv
      go_wp2_with fail
      go_region
      all_goals
        go_wp2
        exact sim_end hbr hf rfl HV.out (fun W' c0 c1 c2 c3 c4 => by simp [results, Tryz.results156, go_sem, c0, c1, c2, c3, c4])

open Go.RowKit

theorem Ow.pbn_lt {w : World} {base : Nat} {p : Option Addr} {n c : Nat} {xs : List Nat} (h : Ow w base p n c xs) : ∀ x, x ∈ pbn p n → x < w.heap.size := by
  intro x hx
  unfold pbn at hx
  split at hx
  · simp at hx
  · rcases h.own with rfl | ⟨g, L, rfl, h1, h2, _⟩
    · have := h.sl.len; simp at this; omega
    · simp at hx; rw [hx]; exact h2.lt

theorem Sl.take {w : World} {p : Option Addr} {n c : Nat} {xs : List Nat} (h : Sl w p n c xs) {k : Nat} (_hk : k ≤ n) : Sl w p k c (xs.take k) :=
  ⟨by rw [List.length_take, h.len]; omega, by have := h.le; omega, h.cap, h.nil, h.rd.take k, h.dig.take k⟩

theorem Ow.take {w : World} {base : Nat} {p : Option Addr} {n c : Nat} {xs : List Nat} (h : Ow w base p n c xs) {k : Nat} (hk : k ≤ n) : Ow w base p k c (xs.take k) := by
  refine ⟨h.sl.take hk, ?_⟩
  rcases h.own with rfl | ⟨g, L, rfl, h1, hb, hl, ht⟩
  · exact Or.inl (by simp)
  · exact Or.inr ⟨g, L, rfl, h1, hb, hl, ht.take k (by rw [h.sl.len]; exact hk)⟩

def Apart (p q : Option Addr) (n : Nat) : Prop := ∀ x, x ∈ pbn p n → x ∉ pbn q n

theorem pbn_sub {p : Option Addr} {n k : Nat} (h : n ≠ 0) : ∀ x, x ∈ pbn p k → x ∈ pbn p n := by
  intro x hx
  unfold pbn at hx ⊢
  rw [if_neg h]
  split at hx
  · simp at hx
  · exact hx

theorem Apart.sub {p q : Option Addr} {n k : Nat} (h : Apart p q n) (h0 : n ≠ 0) : Apart p q k := fun x hx hy => h x (pbn_sub h0 x hx) (pbn_sub h0 x hy)

theorem run_mk (n : Nat) (_hn : n ≤ 1099511627776) (w : World) : (Instr.makeSlice 22 (.int .i64 (n : Int)) (.int .i64 (n : Int))).run Tryz.prog w = .ok (.slice (some ⟨w.heap.size, 0, none⟩) n n) (w.alloc (.cells (Array.replicate n (dv 0)) 52)) := by
  obtain ⟨i0, hi, hz0, hz1, hz2⟩ := info_parts Tryz.infoU
  have hr := run_make (P := Tryz.prog) w 22 52 i0 (.int .u32 0) Tryz.underlying22 hi hz0 .i64 .i64 n n (by omega) (Int.le_refl _) (by rw [hz2]; omega) (by omega)
  have e : madeCells (Value.int .u32 0).cells ((n : Int).toNat * i0.size) = Array.replicate n (dv 0) := by
    rw [hz1, Nat.mul_one, Int.toNat_natCast]
    apply Array.ext
    · simp [madeCells]
    · intro i h1 h2
      simp [madeCells, Nat.mod_one, Value.cells]
  rw [e, Int.toNat_natCast] at hr
  exact hr

theorem Blk.zeros (w : World) (n : Nat) : Blk (w.alloc (.cells (Array.replicate n (dv 0)) 52)) w.heap.size ((List.replicate n 0).map dv) := by
  have h := Blk.made w (List.replicate n (dv 0))
  rw [List.map_replicate]
  simpa using h

theorem wpList_copyD {w : World} {ops : Array Oper} {rest : List Oper} {o : Oper} {a : Act} {Q : Exit → Act → World → Prop} (hgd : o.guard = none) (x y : Operand)
    (ho : o.op = .call { callee := .builtin .copy, args := #[x, y], argTypes := #[22, 22] }) (g n cp m sc : Nat) (sp : Option Addr) (V Z : List Nat)
    (hd : a.eval x = .slice (some ⟨g, 0, none⟩) n cp) (hs : a.eval y = .slice sp m sc) (hV : Sl w sp m sc V) (hz : Blk w g (Z.map dv)) (_hzl : Z.length = n) (hle : m ≤ n)
    (h : ∀ w', Hid (Blk w' g ((V ++ Z.drop m).map dv)) → Fr [g] w w' → wpList Tryz.prog ops Q rest (a.put o.dst (goInt m)) w') : wpList Tryz.prog ops Q (o :: rest) a w := by
  obtain ⟨i0, hi, hz0, hz1, hz2⟩ := info_parts Tryz.infoU
  have hsz : (Tryz.prog.info? 52).map (·.size) = some 1 := by rw [hi]; simp [hz1]
  have hl := hV.len
  rcases hV.src with ⟨rfl, rfl, rfl, rfl⟩ | ⟨ad, rfl⟩
  · refine wpList_copy_nothing hgd x y _ _ ho 52 Tryz.underlying22 hsz _ _ _ _ _ _ hd hs (Nat.zero_min _) ?_
    exact h w (show Blk _ _ _ by simpa using hz) (Fr.refl _ _)
  · have e : ((Z.map dv).toArray.toList.take 0 ++ (V.map dv ++ (Z.map dv).toArray.toList.drop (0 + (V.map dv).length))) = (V ++ Z.drop m).map dv := by
      simp [hl]
    refine wpList_copy_own hgd x y _ _ ho 52 Tryz.underlying22 hsz g 0 n cp ad m sc hd hs (Z.map dv).toArray 52 hz (V.map dv) (by rw [List.length_map, hl]; exact (Nat.min_eq_left hle).symm) hV.rd.news (by simp; omega) (dv_oneCell _) ?_
    rw [e, List.length_map, hl]
    refine h _ ?_ ⟨rfl, rfl, rfl, by simp [World.setRow], fun k hk hn => setRow_other w g k _ (by simpa using hn)⟩
    have hz' : w.heap[g]? = some (.cells (Z.map dv).toArray 52 (0, 0)) := hz
    show Blk _ _ _
    unfold Blk
    simp [World.setRow, Array.getElem?_modify, hz']

def ApPost (w : World) (base : Nat) (p q : Option Addr) (n c d X Y : Nat) (e : Ending) (w' : World) : Prop :=
  e = .returned (.tuple #[]) ∧ ∃ (X' Y' : Nat) (Z1 Z2 : List Nat), val Z1 = X' ∧ val Z2 = Y' ∧ Ow w' base p n c Z1 ∧ Ow w' base q n d Z2 ∧ Y' ≤ X' ∧ X' + Y' < X + Y ∧ X' ≤ X ∧ Nat.gcd X' Y' = Nat.gcd X Y ∧ Fr (pbn p n ++ pbn q n) w w'

theorem spl_own {w : World} {base g n c : Nat} {L : List Value} {Z : List Nat} (hb : Blk w g (spl L 0 Z)) (hg : base ≤ g) (hl : L.length = c) (hz : Z.length = n) (hn : n ≤ c) (hc : c ≤ 9223372036854775807) (hd : Dg Z) : Ow w base (some ⟨g, 0, none⟩) n c Z := by
  have hle : 0 + Z.length ≤ L.length := by omega
  have hs := spl_sg hle
  exact ⟨⟨hz, hn, hc, (by intro h; cases h), hs.rd hb, hd⟩, Or.inr ⟨g, _, rfl, hg, hb, by rw [spl_len hle, hl], hs⟩⟩

theorem apply_any (odd : Bool) (u0 u1 v0 v1 base : Nat) (p q : Option Addr) (n c d : Nat) (xs ys : List Nat) (w : World) (hx : Ow w base p n c xs) (hy : Ow w base q n d ys) (ha : Apart p q n) (hc : Cof odd u0 u1 v0 v1 (val xs) (val ys)) (hY : 0 < val ys) (_hn0 : 0 < n) (hn : n ≤ 1099511627776) (_hxy : val ys ≤ val xs) :
    Calls Tryz.prog 157 #[.agg #[.int .u64 (u0 : Nat), .int .u64 (u1 : Nat), .int .u64 (v0 : Nat), .int .u64 (v1 : Nat), .bool odd], .slice p n c, .slice q n d] w (ApPost w base p q n c d (val xs) (val ys)) := by
  obtain ⟨X', Y', ho, he, h1, h2, h3, h4⟩ := hc.down hY
  have lx := hx.sl.len
  have ly := hy.sl.len
  obtain ⟨g1, L1, rfl, b1, k1, l1, s1⟩ := hx.own.resolve_left (fun e => by rw [e] at lx; simp at lx; omega)
  obtain ⟨g2, L2, rfl, b2, k2, l2, s2⟩ := hy.own.resolve_left (fun e => by rw [e] at ly; simp at ly; omega)
  have hp1 : pbn (some ⟨g1, 0, none⟩) n = [g1] := by unfold pbn; rw [if_neg (by omega)]; rfl
  have hp2 : pbn (some ⟨g2, 0, none⟩) n = [g2] := by unfold pbn; rw [if_neg (by omega)]; rfl
  have hne : g1 ≠ g2 := by
    have := ha g1 (by rw [hp1]; simp)
    rw [hp2] at this
    simpa using this
  have vx := val_lt hx.sl.dig
  rw [lx] at vx
  cases odd
  · refine (apply_even u0 u1 v0 v1 g1 g2 n c d L1 L2 xs ys w k1 s1 k2 s2 hne lx ly hx.sl.dig hy.sl.dig hc.b0 hc.b1 hc.b2 hc.b3 hn).mono ?_
    rintro e w' ⟨rfl, Z1, Z2, P1, M1, B1, P2, M2, B2, D1, D2, j1, j2, f⟩
    obtain ⟨e1, e2⟩ := he rfl
    have z1 := D1.fin ly lx e1 (by omega)
    have z2 := D2.fin lx ly e2 (by omega)
    exact ⟨rfl, X', Y', Z1, Z2, z1, z2, spl_own j1 b1 l1 D1.len hx.sl.le hx.sl.cap D1.dig, spl_own j2 b2 l2 D2.len hy.sl.le hy.sl.cap D2.dig, h1, h3, h2, h4, by rw [hp1, hp2]; exact f⟩
  · refine (apply_odd u0 u1 v0 v1 g1 g2 n c d L1 L2 xs ys w k1 s1 k2 s2 hne lx ly hx.sl.dig hy.sl.dig hc.b0 hc.b1 hc.b2 hc.b3 hn).mono ?_
    rintro e w' ⟨rfl, Z1, Z2, P1, M1, B1, P2, M2, B2, D1, D2, j1, j2, f⟩
    obtain ⟨e1, e2⟩ := ho rfl
    have z1 := D1.fin lx ly e1 (by omega)
    have z2 := D2.fin ly lx e2 (by omega)
    exact ⟨rfl, X', Y', Z1, Z2, z1, z2, spl_own j1 b1 l1 D1.len hx.sl.le hx.sl.cap D1.dig, spl_own j2 b2 l2 D2.len hy.sl.le hy.sl.cap D2.dig, h1, h3, h2, h4, by rw [hp1, hp2]; exact f⟩

theorem gcd_lt64 {X Y : Nat} (hX : X < 18446744073709551616) (_h : Y ≤ X) : Nat.gcd X Y < 18446744073709551616 := by
  by_cases h0 : X = 0
  · have : Y = 0 := by omega
    rw [h0, this]; decide
  · exact Nat.lt_of_le_of_lt (Nat.gcd_le_left Y (by omega)) hX

theorem gcd_mod (X Y : Nat) : Nat.gcd Y (X % Y) = Nat.gcd X Y := by rw [Nat.gcd_comm Y, ← Nat.gcd_rec, Nat.gcd_comm]

set_option maxRecDepth 100000 in
set_option maxHeartbeats 4000000 in
theorem gcd_ge (p q : Option Addr) (n m c d : Nat) (xs ys : List Nat) (w : World) (hA : Sl w p n c xs) (hB : Sl w q m d ys) (_hn : n ≤ 1099511627774) (_hm : m ≤ 1099511627774) (hlt : ¬ val xs < val ys) :
    Calls Tryz.prog 108 #[.slice p n c, .slice q m d] w (RetOwn w (dg (Nat.gcd (val xs) (val ys)))) := by
  obtain ⟨i0, hi, hz0, hz1, hz2⟩ := info_parts Tryz.infoU
  have kA := hA.cut
  have kB := hB.cut
  have lA := dg_len_val hA.dig
  have lB := dg_len_val hB.dig
  rw [hA.len] at lA
  rw [hB.len] at lB
  have HLT := Lib.hid hlt
  have HC : Hid (cmpN (val xs) (val ys) = 0 ∨ cmpN (val xs) (val ys) = 1) := by
    by_cases h : val ys < val xs
    · exact Or.inr (cmpN_gt h)
    · exact Or.inl (cmpN_eq (by omega))
  go_enter Tryz.func108, Tryz.ntmps108
  go_wp2_with fail
  refine (cut_any _ _ _ _ _ hA).mono ?_
  rintro e w' ⟨rfl, rfl⟩
  go_wp2_with fail
  refine (cut_any _ _ _ _ _ hB).mono ?_
  rintro e w' ⟨rfl, rfl⟩
  clear hlt
  go_wp2_with fail
  refine (compare_any _ _ _ _ _ _ _ _ _ kA kB).mono ?_
  rw [val_dg, val_dg]
  rintro e w1 ⟨rfl, f1⟩
  have hd1 : decide (cmpN (val xs) (val ys) < 0) = false := by rcases HC.out with h | h <;> rw [h] <;> rfl
  have kU := kA.kept f1
  have kV := kB.kept f1
  have hls : (dg (val ys)).length ≤ (dg (val xs)).length := dg_len_mono (by have := HLT.out; omega)
  clear hA hB kA kB
  go_upto_region 4 with fail
  go_cut [5, 6] (fun s5 s6 wx => ∃ (px : Option Addr) (cx gy : Nat), s5 = .slice px (dg (val xs)).length cx ∧ s6 = .slice (some ⟨gy, 0, none⟩) (dg (val xs)).length (dg (val xs)).length ∧ Ow wx w1.heap.size px (dg (val xs)).length cx (dg (val xs)) ∧ Blk wx gy ((List.replicate (dg (val xs)).length 0).map dv) ∧ w1.heap.size ≤ gy ∧ gy ∉ pbn px (dg (val xs)).length ∧ Fr [] w1 wx)
  case first =>
    have HW := (Fr.refl [] w1).drew
    have hmk := run_mk (dg (val xs)).length (by omega)
    go_region_with (first
      | (go_at_call 155; (with_reducible refine (clone_any p _ c (dg (val xs)) _ (kU.kept HW) (by omega)).mono ?_); rintro e U1 ⟨px, cx, rfl, ox, ff⟩; replace HW := HW.trans ff (by simp))
      | (go_at_call 155; (with_reducible refine (clone_any p _ c (dg (val xs)) _ (kU.kept ((Fr.refl [] w1).alloc _).drew) (by omega)).mono ?_); rintro e U1 ⟨px, cx, rfl, ox, ff⟩; have HW2 := (((Fr.refl [] w1).alloc _).drew).trans ff (by simp); have hz := (Blk.zeros w1 (dg (val xs)).length).kept ((Fr.refl [] _).drew.trans ff (by simp))))
    · go_wp2_with fail
      go_meet
      exact ⟨px, cx, U1.heap.size, rfl, rfl, (ox.kept ((Fr.refl [] _).alloc _)).mono (b' := w1.heap.size) (Nat.le_refl _), Blk.zeros _ _, HW.size, fun hm => Nat.lt_irrefl _ (ox.pbn_lt _ hm), HW.alloc _⟩
    · go_wp2_with fail
      go_meet
      exact ⟨px, cx, w1.heap.size, rfl, rfl, ox.mono (by simp), hz, Nat.le_refl _, fun hm => by have := ox.pbn_ge _ hm; simp at this; omega, HW2⟩
  case rest =>
    obtain ⟨px, cx, gy, rfl, rfl, hox, hby, hgy, hap, fx⟩ := hcut
    have kV2 := kV.kept fx
    go_wp2_with (refine wpList_copyD rfl _ _ rfl gy _ _ _ _ _ (dg (val ys)) (List.replicate (dg (val xs)).length 0) rfl rfl kV2 hby (by simp) hls ?_)
    intro w4 hb4 f4
    have hsz := f1.size
    obtain ⟨YL0, hYL0⟩ : ∃ Z, Z = dg (val ys) ++ (List.replicate (dg (val xs)).length 0).drop (dg (val ys)).length := ⟨_, rfl⟩
    have hb5 : Blk w4 gy (YL0.map dv) := by rw [hYL0]; simpa using hb4.out
    have oyl : YL0.length = (dg (val xs)).length := by rw [hYL0]; simp; omega
    have oyv : val YL0 = val ys := by rw [hYL0, val_append, val_dg, List.drop_replicate, val_zeros]; rfl
    have oyd : Dg YL0 := by rw [hYL0]; exact kV.dig.append ((Dg.zeros _).drop _)
    have oy0 := Ow.of_blk (base := w.heap.size) hb5 (by omega) (by omega) oyd
    rw [oyl] at oy0
    have ox0 := (hox.keep2 f4 (fun x hx hy => by have := List.mem_singleton.1 hy; rw [this] at hx; exact hap hx)).mono (b' := w.heap.size) (by omega)
    have ap0 : Apart px (some ⟨gy, 0, none⟩) (dg (val xs)).length := by
      intro x hx hy
      unfold pbn at hy
      split at hy
      · simp at hy
      · simp at hy; rw [hy] at hx; exact hap hx
    have fw4 : Fr [] w w4 := (f1.trans fx (by simp)).trans f4 (by intro x hx hl; have := List.mem_singleton.1 hx; omega)
    have hle0 : val ys ≤ val xs := by have := HLT.out; omega
    have OYV := Lib.hid oyv
    have HBN := Lib.hid (show (dg (val xs)).length ≤ 1099511627774 by omega)
    clear hb4 hb5 hYL0 oyd f4 hox hby hgy hap fx kV2 kU kV oyl oyv f1 hls lA lB
    go_wp2_with fail
    go_loopg [5, 6] (val xs + val ys) (fun k s5 s6 wr => ∃ (X Y : Nat) (px : Option Addr) (cx : Nat) (py : Option Addr) (cy : Nat) (YL : List Nat), s5 = .slice px (dg X).length cx ∧ s6 = .slice py (dg X).length cy ∧ Ow wr w.heap.size px (dg X).length cx (dg X) ∧ Ow wr w.heap.size py (dg X).length cy YL ∧ val YL = Y ∧ Apart px py (dg X).length ∧ Y ≤ X ∧ X + Y = k ∧ Nat.gcd X Y = Nat.gcd (val xs) (val ys) ∧ X ≤ val xs ∧ Fr [] w wr)
    case atStart => exact ⟨val xs, val ys, px, cx, some ⟨gy, 0, none⟩, _, YL0, rfl, rfl, ox0, oy0, OYV.out, ap0, hle0, rfl, rfl, Nat.le_refl _, fw4⟩
    case round =>
      clear ox0 oy0 ap0 fw4 hle0
      obtain ⟨X, Y, px, cx, py, cy, YL, rfl, rfl, ox, oy, hyl, hap, hyx, hk, hgcd, hxu, hf⟩ := hrel
      have hlx : (dg X).length ≤ 1099511627774 := Nat.le_trans (dg_len_mono hxu) HBN.out
      have HYL := Lib.hid hyl
      have HK := Lib.hid hk
      have HGC := Lib.hid hgcd
      clear hyl hk hgcd
      by_cases h3 : 2 < (dg X).length
      · go_wp2_with fail
        refine (cut_any _ _ _ YL _ oy.sl).mono ?_
        rintro e w' ⟨rfl, rfl⟩
        rw [HYL.out]
        by_cases hY : Y = 0
        · subst hY
          have hz : (dg 0).length = 0 := by rw [dg_zero]; rfl
          have HE : Hid (Nat.gcd (val xs) (val ys) = X) := by show _ = _; rw [← HGC.out, Nat.gcd_zero_right]
          rw [hz]
          clear hz
          go_wp2_with fail
          go_ret
          rw [HE.out]
          exact ⟨px, cx, rfl, ox, hf⟩
        · have hYp : 0 < (dg Y).length := Nat.pos_of_ne_zero (fun e => hY (dg_nil.1 (List.eq_nil_of_length_eq_zero e)))
          have htop : gd (dg X) ((dg X).length - 1) ≠ 0 := dg_last (by omega)
          have hly := dg_len_mono hyx
          go_wp2_with fail
          refine (simulate_any px py _ cx cy (dg X) YL _ ox.sl oy.sl (by omega) (by omega) htop (by rw [val_dg, HYL.out]; exact hyx)).mono ?_
          rw [val_dg, HYL.out]
          rintro e w2 ⟨u0, u1, v0, v1, odd, rfl, hcof, f2⟩
          by_cases hv : v0 = 0
          · have hv0 : ((v0 : Int) != 0) = false := by rw [hv]; rfl
            rw [hv0]
            have HC2 := Lib.hid hcof
            clear hv hv0 hcof
            go_wp2_with fail
            have fA : Fr [] wr (w2.alloc (Obj.cells #[.int .u64 (u0 : Nat), .int .u64 (u1 : Nat), .int .u64 (v0 : Nat), .int .u64 (v1 : Nat), .bool odd] 123)) := f2.alloc _
            have oxA := ox.kept fA
            have oyA := oy.kept fA
            generalize w2.alloc (Obj.cells #[.int .u64 (u0 : Nat), .int .u64 (u1 : Nat), .int .u64 (v0 : Nat), .int .u64 (v1 : Nat), .bool odd] 123) = z3 at *
            clear f2
            refine (cut_any _ _ _ YL _ oyA.sl).mono ?_
            rintro e w' ⟨rfl, rfl⟩
            have oyB := oyA.cut
            rw [HYL.out] at oyB ⊢
            go_wp2_with fail
            refine (divide_any px py _ _ cx cy (dg X) (dg Y) _ oxA.sl oyB.sl (by omega) (by omega) (by omega) (dg_last (by omega))).mono ?_
            rintro e z4 ⟨pq, nq, cq, Qd, pr, nr, cr, R, rfl, oq, or', e1, e2, e3, e4, f4⟩
            obtain rfl := e3
            rw [val_dg, val_dg] at e2
            have hrl := or'.sl.le
            have hsz1 := fA.size
            have hsz2 := hf.size
            have E2 := Lib.hid e2
            have hap2 : Apart py pr (dg Y).length := fun x h1 h2 => by
              have := oyB.pbn_lt x h1
              have := or'.pbn_ge x h2
              omega
            clear e1 e2 e4 oq
            go_wp2_with fail
            go_roundg (Y + X % Y)
            case rel => exact ⟨Y, X % Y, py, cy, pr, cr, R, rfl, rfl, oyB.kept f4, or'.mono (by omega), E2.out, hap2, Nat.le_of_lt (Nat.mod_lt _ (by omega)), rfl, by rw [gcd_mod]; exact HGC.out, by omega, (hf.trans fA (by simp)).trans f4 (by simp)⟩
            case measure =>
              have := Nat.mod_lt X (show 0 < Y by omega)
              have := HK.out
              omega
          · have hv0 : ((v0 : Int) != 0) = true := bne_iff_ne.2 (by omega)
            rw [hv0]
            have HC2 := Lib.hid (hcof hv)
            clear hv hv0 hcof
            go_wp2_with fail
            have fA : Fr [] wr (w2.alloc (Obj.cells #[.int .u64 (u0 : Nat), .int .u64 (u1 : Nat), .int .u64 (v0 : Nat), .int .u64 (v1 : Nat), .bool odd] 123)) := f2.alloc _
            have oxA := ox.kept fA
            have oyA := oy.kept fA
            generalize w2.alloc (Obj.cells #[.int .u64 (u0 : Nat), .int .u64 (u1 : Nat), .int .u64 (v0 : Nat), .int .u64 (v1 : Nat), .bool odd] 123) = z3 at *
            clear f2
            refine (apply_any odd u0 u1 v0 v1 w.heap.size px py _ cx cy (dg X) YL _ oxA oyA hap (by rw [val_dg, HYL.out]; exact HC2.out) (by rw [HYL.out]; omega) (by omega) (by omega) (by rw [val_dg, HYL.out]; exact hyx)).mono ?_
            rw [val_dg, HYL.out]
            rintro e z4 ⟨rfl, X', Y', Z1, Z2, hz1, hz2, o1, o2, g1, g2, g3, g4, f4⟩
            have oxC := o1.cut
            rw [hz1] at oxC
            have hl2 := dg_len_mono g3
            have hcy := o2.sl.le
            have HZ1 := Lib.hid hz1
            have HZ2 := Lib.hid hz2
            have G4 := Lib.hid g4
            have ff : Fr [] w z4 := (hf.trans fA (by simp)).trans f4 (fun x hx hl => by
              rcases List.mem_append.1 hx with h | h
              · have := oxA.pbn_ge x h; omega
              · have := oyA.pbn_ge x h; omega)
            clear hz1 hz2 g4
            go_wp2_with fail
            refine (cut_any px _ cx Z1 _ o1.sl).mono ?_
            rintro e w' ⟨rfl, rfl⟩
            rw [HZ1.out]
            go_wp2_with fail
            go_roundg (X' + Y')
            case rel => exact ⟨X', Y', px, cx, py, cy, Z2.take (dg X').length, rfl, rfl, oxC, o2.take hl2, by rw [val_take_all (by rw [HZ2.out]; exact Nat.lt_of_le_of_lt g1 (dg_lt _))]; exact HZ2.out, hap.sub (by omega), g1, rfl, by rw [G4.out]; exact HGC.out, by omega, ff⟩
            case measure =>
              have := HK.out
              omega
      · have hx64 : X < 18446744073709551616 := Nat.lt_of_lt_of_le (dg_lt X) (pB_mono (k := 2) (by omega))
        go_wp2_with fail
        refine (word_any px _ cx (dg X) _ ox.sl (by omega)).mono ?_
        rintro e w' ⟨rfl, rfl⟩
        rw [val_dg]
        go_wp2_with fail
        refine (word_any py _ cy YL _ oy.sl (by omega)).mono ?_
        rintro e w' ⟨rfl, rfl⟩
        rw [HYL.out]
        go_wp2_with fail
        refine (gcdWords_any X Y _ hx64 (by omega)).mono ?_
        rintro e z2 ⟨rfl, f2⟩
        go_wp2_with fail
        refine (fromWord_any (Nat.gcd X Y) _ (gcd_lt64 hx64 hyx)).mono ?_
        rintro e z3 ⟨pr, cr, rfl, o3, f3⟩
        rw [HGC.out] at o3 ⊢
        have hsz3 := hf.size
        have hsz4 := f2.size
        go_wp2_with fail
        go_ret
        exact ⟨pr, cr, rfl, o3.mono (by omega), (hf.trans f2 (by simp)).trans f3 (by simp)⟩

set_option maxRecDepth 100000 in
set_option maxHeartbeats 4000000 in
theorem gcd_lt (p q : Option Addr) (n m c d : Nat) (xs ys : List Nat) (w : World) (hA : Sl w p n c xs) (hB : Sl w q m d ys) (_hn : n ≤ 1099511627774) (hm : m ≤ 1099511627774) (hlt : val xs < val ys) :
    Calls Tryz.prog 108 #[.slice p n c, .slice q m d] w (RetOwn w (dg (Nat.gcd (val xs) (val ys)))) := by
  obtain ⟨i0, hi, hz0, hz1, hz2⟩ := info_parts Tryz.infoU
  have kA := hA.cut
  have kB := hB.cut
  have lA := dg_len_val hA.dig
  have lB := dg_len_val hB.dig
  rw [hA.len] at lA
  rw [hB.len] at lB
  have HLT := Lib.hid hlt
  have HC := Lib.hid (cmpN_lt hlt)
  go_enter Tryz.func108, Tryz.ntmps108
  go_wp2_with fail
  refine (cut_any _ _ _ _ _ hA).mono ?_
  rintro e w' ⟨rfl, rfl⟩
  go_wp2_with fail
  refine (cut_any _ _ _ _ _ hB).mono ?_
  rintro e w' ⟨rfl, rfl⟩
  clear hlt
  go_wp2_with fail
  refine (compare_any _ _ _ _ _ _ _ _ _ kA kB).mono ?_
  rw [val_dg, val_dg]
  rintro e w1 ⟨rfl, f1⟩
  rw [HC.out]
  have kU := kB.kept f1
  have kV := kA.kept f1
  have hls : (dg (val xs)).length ≤ (dg (val ys)).length := dg_len_mono (by have := HLT.out; omega)
  clear hA hB kA kB
  go_upto_region 4 with fail
  go_cut [5, 6] (fun s5 s6 wx => ∃ (px : Option Addr) (cx gy : Nat), s5 = .slice px (dg (val ys)).length cx ∧ s6 = .slice (some ⟨gy, 0, none⟩) (dg (val ys)).length (dg (val ys)).length ∧ Ow wx w1.heap.size px (dg (val ys)).length cx (dg (val ys)) ∧ Blk wx gy ((List.replicate (dg (val ys)).length 0).map dv) ∧ w1.heap.size ≤ gy ∧ gy ∉ pbn px (dg (val ys)).length ∧ Fr [] w1 wx)
  case first =>
    have HW := (Fr.refl [] w1).drew
    have hmk := run_mk (dg (val ys)).length (by omega)
    go_region_with (first
      | (go_at_call 155; (with_reducible refine (clone_any q _ d (dg (val ys)) _ (kU.kept HW) (by omega)).mono ?_); rintro e U1 ⟨px, cx, rfl, ox, ff⟩; replace HW := HW.trans ff (by simp))
      | (go_at_call 155; (with_reducible refine (clone_any q _ d (dg (val ys)) _ (kU.kept ((Fr.refl [] w1).alloc _).drew) (by omega)).mono ?_); rintro e U1 ⟨px, cx, rfl, ox, ff⟩; have HW2 := (((Fr.refl [] w1).alloc _).drew).trans ff (by simp); have hz := (Blk.zeros w1 (dg (val ys)).length).kept ((Fr.refl [] _).drew.trans ff (by simp))))
    · go_wp2_with fail
      go_meet
      exact ⟨px, cx, U1.heap.size, rfl, rfl, (ox.kept ((Fr.refl [] _).alloc _)).mono (b' := w1.heap.size) (Nat.le_refl _), Blk.zeros _ _, HW.size, fun hm => Nat.lt_irrefl _ (ox.pbn_lt _ hm), HW.alloc _⟩
    · go_wp2_with fail
      go_meet
      exact ⟨px, cx, w1.heap.size, rfl, rfl, ox.mono (by simp), hz, Nat.le_refl _, fun hm => by have := ox.pbn_ge _ hm; simp at this; omega, HW2⟩
  case rest =>
    obtain ⟨px, cx, gy, rfl, rfl, hox, hby, hgy, hap, fx⟩ := hcut
    have kV2 := kV.kept fx
    go_wp2_with (refine wpList_copyD rfl _ _ rfl gy _ _ _ _ _ (dg (val xs)) (List.replicate (dg (val ys)).length 0) rfl rfl kV2 hby (by simp) hls ?_)
    intro w4 hb4 f4
    have hsz := f1.size
    obtain ⟨YL0, hYL0⟩ : ∃ Z, Z = dg (val xs) ++ (List.replicate (dg (val ys)).length 0).drop (dg (val xs)).length := ⟨_, rfl⟩
    have hb5 : Blk w4 gy (YL0.map dv) := by rw [hYL0]; simpa using hb4.out
    have oyl : YL0.length = (dg (val ys)).length := by rw [hYL0]; simp; omega
    have oyv : val YL0 = val xs := by rw [hYL0, val_append, val_dg, List.drop_replicate, val_zeros]; rfl
    have oyd : Dg YL0 := by rw [hYL0]; exact kV.dig.append ((Dg.zeros _).drop _)
    have oy0 := Ow.of_blk (base := w.heap.size) hb5 (by omega) (by omega) oyd
    rw [oyl] at oy0
    have ox0 := (hox.keep2 f4 (fun x hx hy => by have := List.mem_singleton.1 hy; rw [this] at hx; exact hap hx)).mono (b' := w.heap.size) (by omega)
    have ap0 : Apart px (some ⟨gy, 0, none⟩) (dg (val ys)).length := by
      intro x hx hy
      unfold pbn at hy
      split at hy
      · simp at hy
      · simp at hy; rw [hy] at hx; exact hap hx
    have fw4 : Fr [] w w4 := (f1.trans fx (by simp)).trans f4 (by intro x hx hl; have := List.mem_singleton.1 hx; omega)
    have hle0 : val xs ≤ val ys := by have := HLT.out; omega
    have OYV := Lib.hid oyv
    have HBN := Lib.hid (show (dg (val ys)).length ≤ 1099511627774 by omega)
    clear hb4 hb5 hYL0 oyd f4 hox hby hgy hap fx kV2 kU kV oyl oyv f1 hls lA lB
    go_wp2_with fail
    go_loopg [5, 6] (val ys + val xs) (fun k s5 s6 wr => ∃ (X Y : Nat) (px : Option Addr) (cx : Nat) (py : Option Addr) (cy : Nat) (YL : List Nat), s5 = .slice px (dg X).length cx ∧ s6 = .slice py (dg X).length cy ∧ Ow wr w.heap.size px (dg X).length cx (dg X) ∧ Ow wr w.heap.size py (dg X).length cy YL ∧ val YL = Y ∧ Apart px py (dg X).length ∧ Y ≤ X ∧ X + Y = k ∧ Nat.gcd X Y = Nat.gcd (val xs) (val ys) ∧ X ≤ val ys ∧ Fr [] w wr)
    case atStart => exact ⟨val ys, val xs, px, cx, some ⟨gy, 0, none⟩, _, YL0, rfl, rfl, ox0, oy0, OYV.out, ap0, hle0, rfl, Nat.gcd_comm _ _, Nat.le_refl _, fw4⟩
    case round =>
      clear ox0 oy0 ap0 fw4 hle0
      obtain ⟨X, Y, px, cx, py, cy, YL, rfl, rfl, ox, oy, hyl, hap, hyx, hk, hgcd, hxu, hf⟩ := hrel
      have hlx : (dg X).length ≤ 1099511627774 := Nat.le_trans (dg_len_mono hxu) HBN.out
      have HYL := Lib.hid hyl
      have HK := Lib.hid hk
      have HGC := Lib.hid hgcd
      clear hyl hk hgcd
      by_cases h3 : 2 < (dg X).length
      · go_wp2_with fail
        refine (cut_any _ _ _ YL _ oy.sl).mono ?_
        rintro e w' ⟨rfl, rfl⟩
        rw [HYL.out]
        by_cases hY : Y = 0
        · subst hY
          have hz : (dg 0).length = 0 := by rw [dg_zero]; rfl
          have HE : Hid (Nat.gcd (val xs) (val ys) = X) := by show _ = _; rw [← HGC.out, Nat.gcd_zero_right]
          rw [hz]
          clear hz
          go_wp2_with fail
          go_ret
          rw [HE.out]
          exact ⟨px, cx, rfl, ox, hf⟩
        · have hYp : 0 < (dg Y).length := Nat.pos_of_ne_zero (fun e => hY (dg_nil.1 (List.eq_nil_of_length_eq_zero e)))
          have htop : gd (dg X) ((dg X).length - 1) ≠ 0 := dg_last (by omega)
          have hly := dg_len_mono hyx
          go_wp2_with fail
          refine (simulate_any px py _ cx cy (dg X) YL _ ox.sl oy.sl (by omega) (by omega) htop (by rw [val_dg, HYL.out]; exact hyx)).mono ?_
          rw [val_dg, HYL.out]
          rintro e w2 ⟨u0, u1, v0, v1, odd, rfl, hcof, f2⟩
          by_cases hv : v0 = 0
          · have hv0 : ((v0 : Int) != 0) = false := by rw [hv]; rfl
            rw [hv0]
            have HC2 := Lib.hid hcof
            clear hv hv0 hcof
            go_wp2_with fail
            have fA : Fr [] wr (w2.alloc (Obj.cells #[.int .u64 (u0 : Nat), .int .u64 (u1 : Nat), .int .u64 (v0 : Nat), .int .u64 (v1 : Nat), .bool odd] 123)) := f2.alloc _
            have oxA := ox.kept fA
            have oyA := oy.kept fA
            generalize w2.alloc (Obj.cells #[.int .u64 (u0 : Nat), .int .u64 (u1 : Nat), .int .u64 (v0 : Nat), .int .u64 (v1 : Nat), .bool odd] 123) = z3 at *
            clear f2
            refine (cut_any _ _ _ YL _ oyA.sl).mono ?_
            rintro e w' ⟨rfl, rfl⟩
            have oyB := oyA.cut
            rw [HYL.out] at oyB ⊢
            go_wp2_with fail
            refine (divide_any px py _ _ cx cy (dg X) (dg Y) _ oxA.sl oyB.sl (by omega) (by omega) (by omega) (dg_last (by omega))).mono ?_
            rintro e z4 ⟨pq, nq, cq, Qd, pr, nr, cr, R, rfl, oq, or', e1, e2, e3, e4, f4⟩
            obtain rfl := e3
            rw [val_dg, val_dg] at e2
            have hrl := or'.sl.le
            have hsz1 := fA.size
            have hsz2 := hf.size
            have E2 := Lib.hid e2
            have hap2 : Apart py pr (dg Y).length := fun x h1 h2 => by
              have := oyB.pbn_lt x h1
              have := or'.pbn_ge x h2
              omega
            clear e1 e2 e4 oq
            go_wp2_with fail
            go_roundg (Y + X % Y)
            case rel => exact ⟨Y, X % Y, py, cy, pr, cr, R, rfl, rfl, oyB.kept f4, or'.mono (by omega), E2.out, hap2, Nat.le_of_lt (Nat.mod_lt _ (by omega)), rfl, by rw [gcd_mod]; exact HGC.out, by omega, (hf.trans fA (by simp)).trans f4 (by simp)⟩
            case measure =>
              have := Nat.mod_lt X (show 0 < Y by omega)
              have := HK.out
              omega
          · have hv0 : ((v0 : Int) != 0) = true := bne_iff_ne.2 (by omega)
            rw [hv0]
            have HC2 := Lib.hid (hcof hv)
            clear hv hv0 hcof
            go_wp2_with fail
            have fA : Fr [] wr (w2.alloc (Obj.cells #[.int .u64 (u0 : Nat), .int .u64 (u1 : Nat), .int .u64 (v0 : Nat), .int .u64 (v1 : Nat), .bool odd] 123)) := f2.alloc _
            have oxA := ox.kept fA
            have oyA := oy.kept fA
            generalize w2.alloc (Obj.cells #[.int .u64 (u0 : Nat), .int .u64 (u1 : Nat), .int .u64 (v0 : Nat), .int .u64 (v1 : Nat), .bool odd] 123) = z3 at *
            clear f2
            refine (apply_any odd u0 u1 v0 v1 w.heap.size px py _ cx cy (dg X) YL _ oxA oyA hap (by rw [val_dg, HYL.out]; exact HC2.out) (by rw [HYL.out]; omega) (by omega) (by omega) (by rw [val_dg, HYL.out]; exact hyx)).mono ?_
            rw [val_dg, HYL.out]
            rintro e z4 ⟨rfl, X', Y', Z1, Z2, hz1, hz2, o1, o2, g1, g2, g3, g4, f4⟩
            have oxC := o1.cut
            rw [hz1] at oxC
            have hl2 := dg_len_mono g3
            have hcy := o2.sl.le
            have HZ1 := Lib.hid hz1
            have HZ2 := Lib.hid hz2
            have G4 := Lib.hid g4
            have ff : Fr [] w z4 := (hf.trans fA (by simp)).trans f4 (fun x hx hl => by
              rcases List.mem_append.1 hx with h | h
              · have := oxA.pbn_ge x h; omega
              · have := oyA.pbn_ge x h; omega)
            clear hz1 hz2 g4
            go_wp2_with fail
            refine (cut_any px _ cx Z1 _ o1.sl).mono ?_
            rintro e w' ⟨rfl, rfl⟩
            rw [HZ1.out]
            go_wp2_with fail
            go_roundg (X' + Y')
            case rel => exact ⟨X', Y', px, cx, py, cy, Z2.take (dg X').length, rfl, rfl, oxC, o2.take hl2, by rw [val_take_all (by rw [HZ2.out]; exact Nat.lt_of_le_of_lt g1 (dg_lt _))]; exact HZ2.out, hap.sub (by omega), g1, rfl, by rw [G4.out]; exact HGC.out, by omega, ff⟩
            case measure =>
              have := HK.out
              omega
      · have hx64 : X < 18446744073709551616 := Nat.lt_of_lt_of_le (dg_lt X) (pB_mono (k := 2) (by omega))
        go_wp2_with fail
        refine (word_any px _ cx (dg X) _ ox.sl (by omega)).mono ?_
        rintro e w' ⟨rfl, rfl⟩
        rw [val_dg]
        go_wp2_with fail
        refine (word_any py _ cy YL _ oy.sl (by omega)).mono ?_
        rintro e w' ⟨rfl, rfl⟩
        rw [HYL.out]
        go_wp2_with fail
        refine (gcdWords_any X Y _ hx64 (by omega)).mono ?_
        rintro e z2 ⟨rfl, f2⟩
        go_wp2_with fail
        refine (fromWord_any (Nat.gcd X Y) _ (gcd_lt64 hx64 hyx)).mono ?_
        rintro e z3 ⟨pr, cr, rfl, o3, f3⟩
        rw [HGC.out] at o3 ⊢
        have hsz3 := hf.size
        have hsz4 := f2.size
        go_wp2_with fail
        go_ret
        exact ⟨pr, cr, rfl, o3.mono (by omega), (hf.trans f2 (by simp)).trans f3 (by simp)⟩

theorem gcd_any (p q : Option Addr) (n m c d : Nat) (xs ys : List Nat) (w : World) (hA : Sl w p n c xs) (hB : Sl w q m d ys) (hn : n ≤ 1099511627774) (hm : m ≤ 1099511627774) :
    Calls Tryz.prog 108 #[.slice p n c, .slice q m d] w (RetOwn w (dg (Nat.gcd (val xs) (val ys)))) := by
  by_cases h : val xs < val ys
  · exact gcd_lt p q n m c d xs ys w hA hB hn hm h
  · exact gcd_ge p q n m c d xs ys w hA hB hn hm h

open Go.RowKit

set_option maxRecDepth 100000 in
set_option maxHeartbeats 2000000 in
theorem rgcd_any (p q : Option Addr) (n m c d : Nat) (xs ys : List Nat) (w : World) (hA : Sl w p n c xs) (hB : Sl w q m d ys) (_hn : n ≤ 1048575) (hm : m ≤ 1048575) :
    Calls Tryz.prog 187 #[.slice p n c, .slice q m d] w (RetOwn w (dg (Nat.gcd (val xs) (val ys)))) := by
  have lA := dg_len_val hA.dig
  have lB := dg_len_val hB.dig
  rw [hA.len] at lA
  rw [hB.len] at lB
  go_enter Tryz.func187, Tryz.ntmps187
  go_wp2_with fail
  refine (rcut_any _ _ _ _ _ hA (by omega)).mono ?_
  rintro e w1 ⟨p1, c1, rfl, o1, f1⟩
  have hB1 := hB.kept f1
  go_wp2_with fail
  refine (rcut_any _ _ _ _ _ hB1 (by omega)).mono ?_
  rintro e w2 ⟨p2, c2, rfl, o2, f2⟩
  have hf2 : Fr [] w w2 := f1.trans f2 (by simp)
  have o1' := o1.kept f2
  have o2' := o2.mono (b' := w.heap.size) f1.size
  clear o1 o2 hA hB hB1 f1 f2
  go_wp2_with fail
  go_loopg [0, 1] (val ys) (fun k s0 s1 wr => ∃ (X : Nat) (px : Option Addr) (cx : Nat) (py : Option Addr) (cy : Nat), s0 = .slice px (dg X).length cx ∧ s1 = .slice py (dg k).length cy ∧ Ow wr w.heap.size px (dg X).length cx (dg X) ∧ Ow wr w.heap.size py (dg k).length cy (dg k) ∧ (dg X).length ≤ 1048575 ∧ (dg k).length ≤ 1048575 ∧ Nat.gcd X k = Nat.gcd (val xs) (val ys) ∧ Fr [] w wr)
  case atStart => exact ⟨val xs, p1, c1, p2, c2, rfl, rfl, o1', o2', by omega, by omega, rfl, hf2⟩
  case round =>
    clear o1' o2' hf2
    obtain ⟨X, px, cx, py, cy, rfl, rfl, ox, oy, lx, ly, hg, hf⟩ := hrel
    have HG := Lib.hid hg
    clear hg
    by_cases hk : gk = 0
    · subst hk
      have hz : (dg 0).length = 0 := by rw [dg_zero]; rfl
      have HE : Hid (Nat.gcd (val xs) (val ys) = X) := by show _ = _; rw [← HG.out, Nat.gcd_zero_right]
      rw [hz]
      clear hz
      go_wp2_with fail
      go_ret
      rw [HE.out]
      exact ⟨px, cx, rfl, ox, hf⟩
    · have hl0 : 0 < (dg gk).length := Nat.pos_of_ne_zero (fun e => hk (dg_nil.1 (List.eq_nil_of_length_eq_zero e)))
      go_wp2_with fail
      refine (rdivmod_yes px py _ cx _ cy (dg X) (dg gk) _ ox.sl oy.sl lx ly (by rw [val_dg]; exact hk)).mono ?_
      rw [val_dg, val_dg]
      rintro e w3 ⟨pq, cq, pr, cr, rfl, oq, or', f3⟩
      have hs := hf.size
      have hm := Nat.mod_lt X (Nat.pos_of_ne_zero hk)
      have lr := dg_len_mono (Nat.le_of_lt hm)
      have HGM : Hid (Nat.gcd gk (X % gk) = Nat.gcd (val xs) (val ys)) := by show _ = _; rw [gcd_mod]; exact HG.out
      have oy3 := oy.kept f3
      have or3 := or'.mono (b' := w.heap.size) hs
      clear oq or' ox oy
      generalize X % gk = R at *
      go_wp2_with fail
      go_roundg R
      case rel => exact ⟨gk, py, cy, pr, cr, rfl, rfl, oy3, or3, ly, by omega, HGM.out, hf.trans f3 (by simp)⟩
      case measure => exact hm

set_option maxRecDepth 100000 in
set_option maxHeartbeats 2000000 in
theorem igcd_any (g h : Bool) (p q : Option Addr) (n c m d : Nat) (xs ys : List Nat) (w : World) (h1 : Sl w p n c xs) (h2 : Sl w q m d ys) (_hn : n ≤ 549755813887) (_hm : m ≤ 549755813887) :
    Calls Tryz.prog 173 #[iw g p n c, iw h q m d] w (RetI w (Nat.gcd (val xs) (val ys) : Nat)) := by
  go_enter Tryz.func173, Tryz.ntmps173
  go_wp2_with fail
  have g_h1 := h1
  have g_h2 := h2
  have hw : Fr [] w (((w.alloc (Obj.cells #[.bool g, .slice p n c] 24)).alloc (Obj.cells #[.bool h, .slice q m d] 24)).alloc (Obj.cells #[.bool false, .slice none 0 0] 24)) := (((Fr.refl _ _).alloc _).alloc _).alloc _
  have b0 : Bx (((w.alloc (Obj.cells #[.bool g, .slice p n c] 24)).alloc (Obj.cells #[.bool h, .slice q m d] 24)).alloc (Obj.cells #[.bool false, .slice none 0 0] 24)) w.heap.size 24 #[.bool g, .slice p n c] := (Bx.made' (by simp) _ _).kept (((Fr.refl _ _).alloc _).alloc _)
  have b1 : Bx (((w.alloc (Obj.cells #[.bool g, .slice p n c] 24)).alloc (Obj.cells #[.bool h, .slice q m d] 24)).alloc (Obj.cells #[.bool false, .slice none 0 0] 24)) (w.heap.size + 1) 24 #[.bool h, .slice q m d] := (Bx.made' (by simp) _ _).kept ((Fr.refl _ _).alloc _)
  have r0 : Bx (((w.alloc (Obj.cells #[.bool g, .slice p n c] 24)).alloc (Obj.cells #[.bool h, .slice q m d] 24)).alloc (Obj.cells #[.bool false, .slice none 0 0] 24)) (w.heap.size + 2) 24 #[.bool false, .slice none 0 0] := (Bx.made' (by simp) _ _).kept (Fr.refl _ _)
  generalize (((w.alloc (Obj.cells #[.bool g, .slice p n c] 24)).alloc (Obj.cells #[.bool h, .slice q m d] 24)).alloc (Obj.cells #[.bool false, .slice none 0 0] 24)) = W at *
  have hbs := r0.lt
  replace h1 := h1.kept hw
  replace h2 := h2.kept hw
  have c_b0_0 := b0.cell (j := 0) rfl
  have f_b0_0 := b0.free 0
  have c_b0_1 := b0.cell (j := 1) rfl
  have f_b0_1 := b0.free 1
  have c_b1_0 := b1.cell (j := 0) rfl
  have f_b1_0 := b1.free 0
  have c_b1_1 := b1.cell (j := 1) rfl
  have f_b1_1 := b1.free 1
  have c_r0_0 := r0.cell (j := 0) rfl
  have f_r0_0 := r0.free 0
  have c_r0_1 := r0.cell (j := 1) rfl
  have f_r0_1 := r0.free 1
  go_wp2_with fail
  clear c_b0_0 f_b0_0 c_b0_1 f_b0_1 c_b1_0 f_b1_0 c_b1_1 f_b1_1 c_r0_0 f_r0_0 c_r0_1 f_r0_1
  refine (gcd_any _ _ _ _ _ _ _ _ _ h1 h2 (by omega) (by omega)).mono ?_
  rintro e V1 ⟨p1, c1, rfl, o1, ff⟩
  have hsz1 := ff.size
  replace hw := hw.trans ff (by simp)
  replace h1 := h1.kept ff
  replace h2 := h2.kept ff
  replace b0 := b0.kept ff
  replace b1 := b1.kept ff
  replace r0 := r0.kept ff
  clear ff
  have c_b0_0 := b0.cell (j := 0) rfl
  have f_b0_0 := b0.free 0
  have c_b0_1 := b0.cell (j := 1) rfl
  have f_b0_1 := b0.free 1
  have c_b1_0 := b1.cell (j := 0) rfl
  have f_b1_0 := b1.free 0
  have c_b1_1 := b1.cell (j := 1) rfl
  have f_b1_1 := b1.free 1
  have c_r0_0 := r0.cell (j := 0) rfl
  have f_r0_0 := r0.free 0
  have c_r0_1 := r0.cell (j := 1) rfl
  have f_r0_1 := r0.free 1
  go_wp2_with fail
  clear c_b0_0 f_b0_0 c_b0_1 f_b0_1 c_b1_0 f_b1_0 c_b1_1 f_b1_1 c_r0_0 f_r0_0 c_r0_1 f_r0_1
  refine (signed_any _ _ _ _ _).mono ?_
  rw [Bool.false_and]
  rintro e V2 ⟨rfl, ff⟩
  have hsz2 := ff.size
  replace hw := hw.trans ff (by simp)
  replace h1 := h1.kept ff
  replace h2 := h2.kept ff
  replace o1 := o1.kept ff
  replace b0 := b0.kept ff
  replace b1 := b1.kept ff
  replace r0 := r0.kept ff
  clear ff
  have c_b0_0 := b0.cell (j := 0) rfl
  have f_b0_0 := b0.free 0
  have c_b0_1 := b0.cell (j := 1) rfl
  have f_b0_1 := b0.free 1
  have c_b1_0 := b1.cell (j := 0) rfl
  have f_b1_0 := b1.free 0
  have c_b1_1 := b1.cell (j := 1) rfl
  have f_b1_1 := b1.free 1
  have c_r0_0 := r0.cell (j := 0) rfl
  have f_r0_0 := r0.free 0
  have c_r0_1 := r0.cell (j := 1) rfl
  have f_r0_1 := r0.free 1
  go_wp2
  exact fin_ret r0 hw o1 (by omega) (by omega) rfl (by rw [Int.natAbs_natCast]) (by exact (decide_eq_false (by omega)).symm) (fun W' c0 c1 => by simp [results, Tryz.results173, go_sem, c0, c1])

set_option maxRecDepth 100000 in
set_option maxHeartbeats 2000000 in
theorem rigcd_any (g h : Bool) (p q : Option Addr) (n c m d : Nat) (xs ys : List Nat) (w : World) (h1 : Sl w p n c xs) (h2 : Sl w q m d ys) (_hn : n ≤ 1048575) (_hm : m ≤ 1048575) :
    Calls Tryz.prog 151 #[iw g p n c, iw h q m d] w (RetI w (Nat.gcd (val xs) (val ys) : Nat)) := by
  go_enter Tryz.func151, Tryz.ntmps151
  go_wp2_with fail
  have g_h1 := h1
  have g_h2 := h2
  have hw : Fr [] w (((w.alloc (Obj.cells #[.bool g, .slice p n c] 24)).alloc (Obj.cells #[.bool h, .slice q m d] 24)).alloc (Obj.cells #[.bool false, .slice none 0 0] 24)) := (((Fr.refl _ _).alloc _).alloc _).alloc _
  have b0 : Bx (((w.alloc (Obj.cells #[.bool g, .slice p n c] 24)).alloc (Obj.cells #[.bool h, .slice q m d] 24)).alloc (Obj.cells #[.bool false, .slice none 0 0] 24)) w.heap.size 24 #[.bool g, .slice p n c] := (Bx.made' (by simp) _ _).kept (((Fr.refl _ _).alloc _).alloc _)
  have b1 : Bx (((w.alloc (Obj.cells #[.bool g, .slice p n c] 24)).alloc (Obj.cells #[.bool h, .slice q m d] 24)).alloc (Obj.cells #[.bool false, .slice none 0 0] 24)) (w.heap.size + 1) 24 #[.bool h, .slice q m d] := (Bx.made' (by simp) _ _).kept ((Fr.refl _ _).alloc _)
  have r0 : Bx (((w.alloc (Obj.cells #[.bool g, .slice p n c] 24)).alloc (Obj.cells #[.bool h, .slice q m d] 24)).alloc (Obj.cells #[.bool false, .slice none 0 0] 24)) (w.heap.size + 2) 24 #[.bool false, .slice none 0 0] := (Bx.made' (by simp) _ _).kept (Fr.refl _ _)
  generalize (((w.alloc (Obj.cells #[.bool g, .slice p n c] 24)).alloc (Obj.cells #[.bool h, .slice q m d] 24)).alloc (Obj.cells #[.bool false, .slice none 0 0] 24)) = W at *
  have hbs := r0.lt
  replace h1 := h1.kept hw
  replace h2 := h2.kept hw
  have c_b0_0 := b0.cell (j := 0) rfl
  have f_b0_0 := b0.free 0
  have c_b0_1 := b0.cell (j := 1) rfl
  have f_b0_1 := b0.free 1
  have c_b1_0 := b1.cell (j := 0) rfl
  have f_b1_0 := b1.free 0
  have c_b1_1 := b1.cell (j := 1) rfl
  have f_b1_1 := b1.free 1
  have c_r0_0 := r0.cell (j := 0) rfl
  have f_r0_0 := r0.free 0
  have c_r0_1 := r0.cell (j := 1) rfl
  have f_r0_1 := r0.free 1
  go_wp2_with fail
  clear c_b0_0 f_b0_0 c_b0_1 f_b0_1 c_b1_0 f_b1_0 c_b1_1 f_b1_1 c_r0_0 f_r0_0 c_r0_1 f_r0_1
  refine (rgcd_any _ _ _ _ _ _ _ _ _ h1 h2 (by omega) (by omega)).mono ?_
  rintro e V1 ⟨p1, c1, rfl, o1, ff⟩
  have hsz1 := ff.size
  replace hw := hw.trans ff (by simp)
  replace h1 := h1.kept ff
  replace h2 := h2.kept ff
  replace b0 := b0.kept ff
  replace b1 := b1.kept ff
  replace r0 := r0.kept ff
  clear ff
  have c_b0_0 := b0.cell (j := 0) rfl
  have f_b0_0 := b0.free 0
  have c_b0_1 := b0.cell (j := 1) rfl
  have f_b0_1 := b0.free 1
  have c_b1_0 := b1.cell (j := 0) rfl
  have f_b1_0 := b1.free 0
  have c_b1_1 := b1.cell (j := 1) rfl
  have f_b1_1 := b1.free 1
  have c_r0_0 := r0.cell (j := 0) rfl
  have f_r0_0 := r0.free 0
  have c_r0_1 := r0.cell (j := 1) rfl
  have f_r0_1 := r0.free 1
  go_wp2
  exact fin_ret r0 hw o1 (by omega) (by omega) rfl (by rw [Int.natAbs_natCast]) (by exact (decide_eq_false (by omega)).symm) (fun W' c0 c1 => by simp [results, Tryz.results151, go_sem, c0, c1])

end Go.Proofs.YtagciepnhjbopaaGreatDoor
