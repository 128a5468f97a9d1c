/- Euclid on the highest digits (Lehmer): states, Collins's condition, the way back. No program. -/
namespace Go.Proofs.Ytfjhdhmneknmkaa
/-- A state of Euclid's algorithm on (P, Q): p, q are what the steps have made of them, a, b, c, d the cofactors of the step before and of this one. par: after an odd number of steps. -/
structure St (P Q : Nat) (par : Bool) (a b c d p q : Nat) : Prop where
  hp : P = d * p + c * q
  hq : Q = b * p + a * q
  even : par = false → a * d = b * c + 1
  odd : par = true → b * c = a * d + 1
  bd : b ≤ d
  ac : a ≤ c ∨ (par = false ∧ a = 1 ∧ b = 0 ∧ c = 0 ∧ d = 1)
  cd : c ≤ d
  qp : q ≤ p

theorem St.start {P Q : Nat} (h : Q ≤ P) : St P Q false 1 0 0 1 P Q :=
  ⟨by omega, by omega, fun _ => rfl, (by intro h; cases h), by omega, Or.inr ⟨rfl, rfl, rfl, rfl, rfl⟩, by omega, h⟩

theorem St.step {P Q : Nat} {par : Bool} {a b c d p q : Nat} (h : St P Q par a b c d p q) (hq : 0 < q) :
    St P Q (!par) b (a + p / q * b) d (c + p / q * d) q (p % q) := by
  have h1 : p = p / q * q + p % q := by rw [Nat.mul_comm]; exact (Nat.div_add_mod p q).symm
  have h2 := Nat.mod_lt p hq
  have ht : 1 ≤ p / q := (Nat.le_div_iff_mul_le hq).2 (by have := h.qp; omega)
  have ep := h.hp
  have eq := h.hq
  have bd := h.bd
  have cd := h.cd
  generalize p / q = t at *
  generalize p % q = r at *
  have h3 : t * b ≤ t * d := Nat.mul_le_mul_left _ bd
  have h4 : 1 * d ≤ t * d := Nat.mul_le_mul_right _ ht
  refine ⟨by rw [ep, h1]; grind, by rw [eq, h1]; grind, ?_, ?_, ?_, Or.inl bd, by omega, by omega⟩
  · intro e
    have e' : par = true := by cases par <;> simp_all
    have := h.odd e'
    grind
  · intro e
    have e' : par = false := by cases par <;> simp_all
    have := h.even e'
    grind
  · rcases h.ac with h5 | ⟨_, rfl, rfl, rfl, rfl⟩
    · omega
    · omega
/-- The cofactors are small as long as the condition holds. -/
theorem St.small {P Q : Nat} {par : Bool} {a b c d p q : Nat} (h : St P Q par a b c d p q) (hc : d ≤ q) : d * d ≤ P := by
  have h1 : d * d ≤ d * p := Nat.mul_le_mul_left _ (Nat.le_trans hc h.qp)
  have := h.hp
  omega
theorem St.le {P Q : Nat} {par : Bool} {a b c d p q : Nat} (h : St P Q par a b c d p q) (hp : 1 ≤ p) : d ≤ P := by
  have h1 : d * 1 ≤ d * p := Nat.mul_le_mul_left _ hp
  have := h.hp
  omega

/-- Collins's condition: the same cofactors serve for numbers that begin with P and Q. -/
theorem St.even_ok {P Q : Nat} {a b c d p q S xl yl : Nat} (h : St P Q false a b c d p q) (hx : xl < S) (hy : yl < S) (h1 : d ≤ q) (h2 : c + d ≤ p - q) :
    c * (Q * S + yl) ≤ a * (P * S + xl) ∧ b * (P * S + xl) ≤ d * (Q * S + yl) ∧ d * (Q * S + yl) - b * (P * S + xl) ≤ a * (P * S + xl) - c * (Q * S + yl) := by
  have det := h.even rfl
  have eP := h.hp
  have eQ := h.hq
  have qp := h.qp
  -- a P = p + c Q, d Q = q + b P
  have e1 : a * P = p + c * Q := by rw [eP, eQ]; grind
  have e2 : d * Q = q + b * P := by rw [eP, eQ]; grind
  have b1 : c * yl ≤ c * S := Nat.mul_le_mul_left _ (Nat.le_of_lt hy)
  have b2 : b * xl ≤ b * S := Nat.mul_le_mul_left _ (Nat.le_of_lt hx)
  have b3 : d * yl ≤ d * S := Nat.mul_le_mul_left _ (Nat.le_of_lt hy)
  have b4 : (c + d) * S ≤ (p - q) * S := Nat.mul_le_mul_right _ h2
  have b5 : d * S ≤ q * S := Nat.mul_le_mul_right _ h1
  have b6 : b * S ≤ d * S := Nat.mul_le_mul_right _ h.bd
  have e3 : a * (P * S + xl) = p * S + c * (Q * S) + a * xl := by
    have : a * (P * S + xl) = (a * P) * S + a * xl := by grind
    rw [this, e1]; grind
  have e4 : d * (Q * S + yl) = q * S + b * (P * S) + d * yl := by
    have : d * (Q * S + yl) = (d * Q) * S + d * yl := by grind
    rw [this, e2]; grind
  have e5 : c * (Q * S + yl) = c * (Q * S) + c * yl := by grind
  have e6 : b * (P * S + xl) = b * (P * S) + b * xl := by grind
  have e7 : (p - q) * S = p * S - q * S := Nat.sub_mul _ _ _
  have e8 : (c + d) * S = c * S + d * S := Nat.add_mul _ _ _
  have b7 : q * S ≤ p * S := Nat.mul_le_mul_right _ qp
  rw [e3, e4, e5, e6]
  generalize p * S = t1 at *
  generalize q * S = t2 at *
  generalize c * (Q * S) = t3 at *
  generalize b * (P * S) = t4 at *
  generalize a * xl = t5 at *
  generalize c * yl = t6 at *
  generalize d * yl = t7 at *
  generalize b * xl = t8 at *
  generalize c * S = t9 at *
  generalize d * S = t10 at *
  generalize b * S = t11 at *
  omega
theorem St.odd_ok {P Q : Nat} {a b c d p q S xl yl : Nat} (h : St P Q true a b c d p q) (hx : xl < S) (hy : yl < S) (h1 : d ≤ q) (h2 : c + d ≤ p - q) :
    a * (P * S + xl) ≤ c * (Q * S + yl) ∧ d * (Q * S + yl) ≤ b * (P * S + xl) ∧ b * (P * S + xl) - d * (Q * S + yl) ≤ c * (Q * S + yl) - a * (P * S + xl) := by
  have det := h.odd rfl
  have eP := h.hp
  have eQ := h.hq
  have qp := h.qp
  have ac : a ≤ c := by rcases h.ac with h5 | ⟨h5, _⟩
                        · exact h5
                        · cases h5
  have e1 : c * Q = p + a * P := by rw [eP, eQ]; grind
  have e2 : b * P = q + d * Q := by rw [eP, eQ]; grind
  have b1 : a * xl ≤ a * S := Nat.mul_le_mul_left _ (Nat.le_of_lt hx)
  have b2 : d * yl ≤ d * S := Nat.mul_le_mul_left _ (Nat.le_of_lt hy)
  have b3 : b * xl ≤ b * S := Nat.mul_le_mul_left _ (Nat.le_of_lt hx)
  have b4 : (c + d) * S ≤ (p - q) * S := Nat.mul_le_mul_right _ h2
  have b5 : d * S ≤ q * S := Nat.mul_le_mul_right _ h1
  have b6 : b * S ≤ d * S := Nat.mul_le_mul_right _ h.bd
  have b8 : a * S ≤ c * S := Nat.mul_le_mul_right _ ac
  have e3 : c * (Q * S + yl) = p * S + a * (P * S) + c * yl := by
    have : c * (Q * S + yl) = (c * Q) * S + c * yl := by grind
    rw [this, e1]; grind
  have e4 : b * (P * S + xl) = q * S + d * (Q * S) + b * xl := by
    have : b * (P * S + xl) = (b * P) * S + b * xl := by grind
    rw [this, e2]; grind
  have e5 : a * (P * S + xl) = a * (P * S) + a * xl := by grind
  have e6 : d * (Q * S + yl) = d * (Q * S) + d * yl := by grind
  have e7 : (p - q) * S = p * S - q * S := Nat.sub_mul _ _ _
  have e8 : (c + d) * S = c * S + d * S := Nat.add_mul _ _ _
  have b7 : q * S ≤ p * S := Nat.mul_le_mul_right _ qp
  rw [e3, e4, e5, e6]
  generalize p * S = t1 at *
  generalize q * S = t2 at *
  generalize a * (P * S) = t3 at *
  generalize d * (Q * S) = t4 at *
  generalize c * yl = t5 at *
  generalize a * xl = t6 at *
  generalize b * xl = t7 at *
  generalize d * yl = t8 at *
  generalize c * S = t9 at *
  generalize d * S = t10 at *
  generalize b * S = t11 at *
  generalize a * S = t12 at *
  omega
/-- What the cofactors make of x and y has the same greatest common divisor, and x and y are sums of it. -/
theorem back_even {a b c d x y : Nat} (det : a * d = b * c + 1) (h1 : c * y ≤ a * x) (h2 : b * x ≤ d * y) : x = d * (a * x - c * y) + c * (d * y - b * x) ∧ y = b * (a * x - c * y) + a * (d * y - b * x) := by
  obtain ⟨X, hX⟩ : ∃ X, a * x = c * y + X := ⟨a * x - c * y, by omega⟩
  obtain ⟨Y, hY⟩ : ∃ Y, d * y = b * x + Y := ⟨d * y - b * x, by omega⟩
  rw [hX, hY, Nat.add_sub_cancel_left, Nat.add_sub_cancel_left]
  constructor
  · have : d * (a * x) + c * (d * y) = d * (c * y + X) + c * (b * x + Y) := by rw [hX, hY]
    grind
  · have : b * (a * x) + a * (d * y) = b * (c * y + X) + a * (b * x + Y) := by rw [hX, hY]
    grind
theorem back_odd {a b c d x y : Nat} (det : b * c = a * d + 1) (h1 : a * x ≤ c * y) (h2 : d * y ≤ b * x) : x = d * (c * y - a * x) + c * (b * x - d * y) ∧ y = b * (c * y - a * x) + a * (b * x - d * y) := by
  obtain ⟨X, hX⟩ : ∃ X, c * y = a * x + X := ⟨c * y - a * x, by omega⟩
  obtain ⟨Y, hY⟩ : ∃ Y, b * x = d * y + Y := ⟨b * x - d * y, by omega⟩
  rw [hX, hY, Nat.add_sub_cancel_left, Nat.add_sub_cancel_left]
  constructor
  · have : d * (c * y) + c * (b * x) = d * (a * x + X) + c * (d * y + Y) := by rw [hX, hY]
    grind
  · have : b * (c * y) + a * (b * x) = b * (a * x + X) + a * (d * y + Y) := by rw [hX, hY]
    grind
theorem gcd_back {a b c d x y X Y : Nat} (hx : x = d * X + c * Y) (hy : y = b * X + a * Y) (hX : ∀ k, k ∣ x → k ∣ y → k ∣ X ∧ k ∣ Y) : Nat.gcd X Y = Nat.gcd x y := by
  apply Nat.dvd_antisymm
  · apply Nat.dvd_gcd
    · rw [hx]; exact Nat.dvd_add (Nat.dvd_mul_left_of_dvd (Nat.gcd_dvd_left _ _) _) (Nat.dvd_mul_left_of_dvd (Nat.gcd_dvd_right _ _) _)
    · rw [hy]; exact Nat.dvd_add (Nat.dvd_mul_left_of_dvd (Nat.gcd_dvd_left _ _) _) (Nat.dvd_mul_left_of_dvd (Nat.gcd_dvd_right _ _) _)
  · have h := hX _ (Nat.gcd_dvd_left x y) (Nat.gcd_dvd_right x y)
    exact Nat.dvd_gcd h.1 h.2
/-! The difference of two products, digit by digit. -/
theorem diff_step {Z G A X Y T Pc Mc Bw al ga x y plus minus D Pc' Mc' Bw' : Nat}
    (h : Z + ga * Y + T * Pc = al * X + T * (Mc + Bw)) (hp : plus = al * x + Pc) (hm : minus = ga * y + Mc)
    (hpc : plus = G + A * Pc') (hmc : ∃ M, minus = M + A * Mc' ∧ D + M + Bw = G + A * Bw') :
    (Z + T * D) + ga * (Y + T * y) + (A * T) * Pc' = al * (X + T * x) + (A * T) * (Mc' + Bw') := by
  obtain ⟨M, h1, h2⟩ := hmc
  have e1 : al * x + Pc = G + A * Pc' := by rw [← hp, hpc]
  have e2 : ga * y + Mc = M + A * Mc' := by rw [← hm, h1]
  have e3 : T * (al * x) + T * Pc = T * G + T * (A * Pc') := by rw [← Nat.mul_add, ← Nat.mul_add, e1]
  have e4 : T * (ga * y) + T * Mc = T * M + T * (A * Mc') := by rw [← Nat.mul_add, ← Nat.mul_add, e2]
  have e5 : T * D + T * M + T * Bw = T * G + T * (A * Bw') := by rw [← Nat.mul_add, ← Nat.mul_add, ← Nat.mul_add, h2]
  have e6 : ga * (Y + T * y) = ga * Y + T * (ga * y) := by grind
  have e7 : al * (X + T * x) = al * X + T * (al * x) := by grind
  have e8 : (A * T) * Pc' = T * (A * Pc') := by grind
  have e9 : (A * T) * (Mc' + Bw') = T * (A * Mc') + T * (A * Bw') := by grind
  have e10 : T * (Mc + Bw) = T * Mc + T * Bw := Nat.mul_add _ _ _
  rw [e6, e7, e8, e9]
  rw [e10] at h
  omega
theorem diff_end {Z T Pc K X U V : Nat} (h : Z + V + T * Pc = U + T * K) (hX : U = V + X) (hZ : Z < T) (hXT : X < T) : Z = X := by
  have h1 : Z + T * Pc = X + T * K := by omega
  have e1 : (Z + T * Pc) % T = Z := by rw [Nat.add_mul_mod_self_left, Nat.mod_eq_of_lt hZ]
  have e2 : (X + T * K) % T = X := by rw [Nat.add_mul_mod_self_left, Nat.mod_eq_of_lt hXT]
  rw [← e1, h1, e2]
end Go.Proofs.Ytfjhdhmneknmkaa
