/- Plain arithmetic of roots: the greatest number whose power is at most v; Newton's step stays above it. -/
import Derived.Test.YtfjhdhmneknmkaaNum
namespace Go.Proofs.Ytfjhdhmneknmkaa

/-- The greatest r up to k with r^n at most v. -/
def rtA (n v : Nat) : Nat → Nat
  | 0 => 0
  | k + 1 => if (k + 1) ^ n ≤ v then k + 1 else rtA n v k
/-- The n-th root, rounded down. -/
def rt (n v : Nat) : Nat := rtA n v v

theorem rtA_le (n v k : Nat) : rtA n v k ≤ k := by
  induction k with
  | zero => exact Nat.le_refl _
  | succ k ih => unfold rtA; split <;> omega
theorem rtA_pow {n v : Nat} (hn : 1 ≤ n) (k : Nat) : (rtA n v k) ^ n ≤ v := by
  induction k with
  | zero => unfold rtA; rw [Nat.zero_pow (by omega)]; exact Nat.zero_le _
  | succ k ih =>
    unfold rtA
    split
    · assumption
    · exact ih
theorem rtA_max {n v : Nat} (k j : Nat) (hj : j ≤ k) (h : j ^ n ≤ v) : j ≤ rtA n v k := by
  induction k with
  | zero => exact hj
  | succ k ih =>
    unfold rtA
    split
    · exact hj
    · rename_i hh
      by_cases e : j = k + 1
      · subst e; contradiction
      · exact ih (by omega)
theorem le_pow_self {r n : Nat} (hn : 1 ≤ n) : r ≤ r ^ n := by
  cases r with
  | zero => exact Nat.zero_le _
  | succ r => exact Nat.le_self_pow (by omega) _
theorem rt_pow {n v : Nat} (hn : 1 ≤ n) : (rt n v) ^ n ≤ v := rtA_pow hn v
theorem rt_max {n v j : Nat} (hn : 1 ≤ n) (h : j ^ n ≤ v) : j ≤ rt n v := rtA_max v j (Nat.le_trans (le_pow_self hn) h) h
theorem rt_lt {n v : Nat} (hn : 1 ≤ n) : v < (rt n v + 1) ^ n := by
  apply Nat.lt_of_not_le
  intro h
  have := rt_max hn h
  omega
theorem rt_unique {n v r : Nat} (hn : 1 ≤ n) (h1 : r ^ n ≤ v) (h2 : v < (r + 1) ^ n) : rt n v = r := by
  have h3 := rt_max hn h1
  have h4 := rt_pow (v := v) hn
  by_cases h : rt n v = r
  · exact h
  · have : (r + 1) ^ n ≤ (rt n v) ^ n := Nat.pow_le_pow_left (by omega) n
    omega
theorem rt_le {n v : Nat} (hn : 1 ≤ n) : rt n v ≤ v := Nat.le_trans (le_pow_self hn) (rt_pow hn)
theorem rt_small {n v : Nat} (hn : 1 ≤ n) (h0 : v ≠ 0) (h : v < 2 ^ n) : rt n v = 1 := rt_unique hn (by rw [Nat.one_pow]; omega) h
theorem rt_zero {n : Nat} (hn : 1 ≤ n) : rt n 0 = 0 := rt_unique hn (by rw [Nat.zero_pow (by omega)]; exact Nat.le_refl _) (by rw [Nat.zero_add, Nat.one_pow]; decide)

/-- n r X^(n-1) is at most r^n + (n-1) X^n. -/
theorem bern (r X : Int) (hr : 0 ≤ r) (hX : 0 ≤ X) (n : Nat) : ((n : Int) + 1) * r * X ^ n ≤ r ^ (n + 1) + n * X ^ (n + 1) := by
  induction n with
  | zero => simp [Int.pow_succ]
  | succ n ih =>
    have h1 := Int.mul_le_mul_of_nonneg_left ih hr
    have h2 : 0 ≤ ((n : Int) + 1) * X ^ n * ((r - X) * (r - X)) := by
      apply Int.mul_nonneg
      · exact Int.mul_nonneg (by omega) (Int.pow_nonneg hX)
      · by_cases h : 0 ≤ r - X
        · exact Int.mul_nonneg h h
        · have := Int.mul_nonneg (show 0 ≤ X - r by omega) (show 0 ≤ X - r by omega)
          have e : (r - X) * (r - X) = (X - r) * (X - r) := by grind
          rw [e]; exact this
    have e1 : X ^ (n + 1) = X ^ n * X := Int.pow_succ _ _
    have e2 : X ^ (n + 1 + 1) = X ^ n * X * X := by rw [Int.pow_succ, Int.pow_succ]
    have e3 : r ^ (n + 1 + 1) = r ^ (n + 1) * r := Int.pow_succ _ _
    rw [e1, e2, e3]
    rw [e1] at h1
    have c : ((n + 1 : Nat) : Int) = (n : Int) + 1 := by omega
    rw [c]
    generalize X ^ n = Y at *
    generalize r ^ (n + 1) = Z at *
    generalize (n : Int) = m at *
    have d1 : r * (Z + m * (Y * X)) = Z * r + m * r * Y * X := by grind
    have d2 : r * ((m + 1) * r * Y) = (m + 1) * r * r * Y := by grind
    have d3 : (m + 1) * Y * ((r - X) * (r - X)) = (m + 1) * r * r * Y - 2 * ((m + 1) * r * Y * X) + (m + 1) * (Y * X * X) := by grind
    have d4 : (m + 1 + 1) * r * (Y * X) = 2 * ((m + 1) * r * Y * X) - m * r * Y * X := by grind
    rw [d1, d2] at h1
    rw [d3] at h2
    rw [d4]
    generalize (m + 1) * r * Y * X = a1 at *
    generalize m * r * Y * X = a2 at *
    generalize (m + 1) * r * r * Y = a3 at *
    generalize (m + 1) * (Y * X * X) = a4 at *
    omega

theorem bern_nat (r X n : Nat) : (n + 1) * r * X ^ n ≤ r ^ (n + 1) + n * X ^ (n + 1) := by
  have := bern (r : Int) (X : Int) (by omega) (by omega) n
  exact_mod_cast this

/-- Newton's step. -/
def nw (n v X : Nat) : Nat := ((n - 1) * X + v / X ^ (n - 1)) / n

theorem nw_ge {n v X : Nat} (hn : 1 ≤ n) (hX : 1 ≤ X) : rt n v ≤ nw n v X := by
  obtain ⟨m, rfl⟩ : ∃ m, n = m + 1 := ⟨n - 1, by omega⟩
  have h1 := rt_pow (v := v) hn
  generalize rt (m + 1) v = r at *
  unfold nw
  rw [Nat.add_sub_cancel, Nat.le_div_iff_mul_le (by omega)]
  have hp : 0 < X ^ m := Nat.pow_pos hX
  by_cases h : r * (m + 1) ≤ m * X
  · exact Nat.le_trans h (Nat.le_add_right _ _)
  · have h2 : r * (m + 1) - m * X ≤ v / X ^ m := by
      rw [Nat.le_div_iff_mul_le hp]
      have h3 := bern_nat r X m
      have h4 : (r * (m + 1) - m * X) * X ^ m = (m + 1) * r * X ^ m - m * X ^ (m + 1) := by
        rw [Nat.sub_mul, Nat.mul_comm r, Nat.pow_succ, Nat.mul_assoc m X, Nat.mul_comm X]
      rw [h4]
      omega
    generalize v / X ^ m = q at *
    omega
theorem nw_lt {n v X : Nat} (hn : 1 ≤ n) (hX : rt n v < X) : nw n v X < X := by
  obtain ⟨m, rfl⟩ : ∃ m, n = m + 1 := ⟨n - 1, by omega⟩
  have h1 : v < X ^ (m + 1) := by
    apply Nat.lt_of_not_le
    intro h
    have := rt_max hn h
    omega
  unfold nw
  rw [Nat.add_sub_cancel, Nat.div_lt_iff_lt_mul (by omega)]
  have h2 : v / X ^ m < X := by
    rw [Nat.div_lt_iff_lt_mul (Nat.pow_pos (by omega)), Nat.mul_comm, ← Nat.pow_succ]
    exact h1
  rw [Nat.mul_add, Nat.mul_comm X m]
  omega
theorem nw_stop {n v X : Nat} (hn : 1 ≤ n) (hX : rt n v ≤ X) (h : X ≤ nw n v X) : X = rt n v := by
  by_cases e : rt n v < X
  · have := nw_lt hn e; omega
  · omega

/-- The root of the number without its low digits gives a number above the root. -/
theorem rt_above {n v h : Nat} (hn : 1 ≤ n) : rt n v < (rt n (v / 2 ^ (n * h)) + 1) * 2 ^ h := by
  apply Nat.lt_of_not_le
  intro hh
  have h1 := rt_lt (v := v / 2 ^ (n * h)) hn
  have h2 : ((rt n (v / 2 ^ (n * h)) + 1) * 2 ^ h) ^ n ≤ v := Nat.le_trans (Nat.pow_le_pow_left hh n) (rt_pow hn)
  rw [Nat.mul_pow, ← Nat.pow_mul, Nat.mul_comm h n] at h2
  have h3 : (rt n (v / 2 ^ (n * h)) + 1) ^ n ≤ v / 2 ^ (n * h) := by
    rw [Nat.le_div_iff_mul_le (Nat.two_pow_pos _)]
    exact h2
  omega
theorem rt_four {n v : Nat} (hn : 1 ≤ n) (h : v < 2 ^ (2 * n)) : rt n v < 4 := by
  apply Nat.lt_of_not_le
  intro hh
  have h2 : 4 ^ n ≤ v := Nat.le_trans (Nat.pow_le_pow_left hh n) (rt_pow hn)
  have : (4 : Nat) ^ n = 2 ^ (2 * n) := by rw [Nat.pow_mul]
  omega

theorem dg_add_len (a b : Nat) : (dg (a + b)).length ≤ (dg a).length + (dg b).length + 1 := by
  apply dg_len_le
  have h1 := dg_lt a
  have h2 := dg_lt b
  have h3 := pB_mono (show (dg a).length ≤ (dg a).length + (dg b).length by omega)
  have h4 := pB_mono (show (dg b).length ≤ (dg a).length + (dg b).length by omega)
  rw [pB_succ]
  omega
theorem dg_mul_len (a b : Nat) : (dg (a * b)).length ≤ (dg a).length + (dg b).length := by
  by_cases ha : a = 0
  · subst ha; rw [Nat.zero_mul, dg_zero]; simp
  · apply dg_len_le
    rw [pB_add]
    exact Nat.mul_lt_mul_of_lt_of_le (dg_lt a) (Nat.le_of_lt (dg_lt b)) (pB_pos _)

end Go.Proofs.Ytfjhdhmneknmkaa
