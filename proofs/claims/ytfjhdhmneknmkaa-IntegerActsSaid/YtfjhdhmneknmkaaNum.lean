/- Plain arithmetic of digit lists to the base 2^32, the lowest digit first: values, canonical lists, comparison. No program. -/
namespace Go.Proofs.Ytfjhdhmneknmkaa

/-- All digits are below 2^32. -/
def Dg (xs : List Nat) : Prop := ∀ x, x ∈ xs → x < 4294967296

/-- The digit at place j; 0 behind the end. -/
def gd (xs : List Nat) (j : Nat) : Nat := xs.getD j 0
theorem gd_lt {xs : List Nat} {j : Nat} (h : j < xs.length) : gd xs j = xs[j] := by
  rw [gd, List.getD_eq_getElem?_getD, List.getElem?_eq_getElem h]; rfl
theorem gd_ge {xs : List Nat} {j : Nat} (h : xs.length ≤ j) : gd xs j = 0 := by
  rw [gd, List.getD_eq_getElem?_getD, List.getElem?_eq_none h]; rfl
theorem gd_cons_zero (x : Nat) (xs : List Nat) : gd (x :: xs) 0 = x := rfl
theorem gd_cons_succ (x : Nat) (xs : List Nat) (j : Nat) : gd (x :: xs) (j + 1) = gd xs j := rfl
theorem gd_nil (j : Nat) : gd [] j = 0 := rfl
theorem gd_take {xs : List Nat} {j k : Nat} (h : j < k) : gd (xs.take k) j = gd xs j := by
  simp [gd, h]
theorem gd_drop (xs : List Nat) (j k : Nat) : gd (xs.drop k) j = gd xs (k + j) := by
  simp [gd]
theorem gd_append_left {xs ys : List Nat} {j : Nat} (h : j < xs.length) : gd (xs ++ ys) j = gd xs j := by
  simp [gd, List.getElem?_append_left h]
theorem gd_append_right {xs ys : List Nat} {j : Nat} (h : xs.length ≤ j) : gd (xs ++ ys) j = gd ys (j - xs.length) := by
  simp [gd, List.getElem?_append_right h]
theorem gd_set_eq {xs : List Nat} {j x : Nat} (h : j < xs.length) : gd (xs.set j x) j = x := by
  simp [gd, h]
theorem gd_set_ne {xs : List Nat} {j k x : Nat} (h : j ≠ k) : gd (xs.set j x) k = gd xs k := by
  simp [gd, List.getElem?_set_ne h]
theorem gd_ext {xs ys : List Nat} (h : xs.length = ys.length) (k : ∀ j, j < xs.length → gd xs j = gd ys j) : xs = ys := by
  apply List.ext_getElem h
  intro i h1 h2
  have := k i h1
  rwa [gd_lt h1, gd_lt h2] at this

theorem Dg.at {xs : List Nat} (h : Dg xs) (j : Nat) : gd xs j < 4294967296 := by
  by_cases hj : j < xs.length
  · rw [gd_lt hj]
    exact h _ (List.getElem_mem hj)
  · rw [gd_ge (by omega)]
    decide
theorem Dg.nil : Dg [] := by intro x h; cases h
theorem Dg.cons {x : Nat} {xs : List Nat} (h : x < 4294967296) (t : Dg xs) : Dg (x :: xs) := by
  intro y hy
  rcases List.mem_cons.1 hy with rfl | hy
  · exact h
  · exact t _ hy
theorem Dg.tail {x : Nat} {xs : List Nat} (h : Dg (x :: xs)) : Dg xs := fun y hy => h y (List.mem_cons_of_mem _ hy)
theorem Dg.head {x : Nat} {xs : List Nat} (h : Dg (x :: xs)) : x < 4294967296 := h x (List.mem_cons_self ..)
theorem Dg.append {xs ys : List Nat} (h : Dg xs) (k : Dg ys) : Dg (xs ++ ys) := by
  intro y hy
  rcases List.mem_append.1 hy with hy | hy
  · exact h _ hy
  · exact k _ hy
theorem Dg.take {xs : List Nat} (h : Dg xs) (k : Nat) : Dg (xs.take k) := fun y hy => h y (List.mem_of_mem_take hy)
theorem Dg.drop {xs : List Nat} (h : Dg xs) (k : Nat) : Dg (xs.drop k) := fun y hy => h y (List.mem_of_mem_drop hy)
theorem Dg.zeros (n : Nat) : Dg (List.replicate n 0) := by
  intro y hy
  rw [List.eq_of_mem_replicate hy]; decide
theorem Dg.one {x : Nat} (h : x < 4294967296) : Dg [x] := Dg.cons h Dg.nil
theorem Dg.set {xs : List Nat} (h : Dg xs) {x : Nat} (hx : x < 4294967296) (k : Nat) : Dg (xs.set k x) := by
  intro y hy
  rcases List.mem_or_eq_of_mem_set hy with hy | rfl
  · exact h _ hy
  · exact hx

/-- The value of a list of digits. -/
def val : List Nat → Nat
  | [] => 0
  | x :: xs => x + 4294967296 * val xs

/-- The power of the base. -/
def pB (k : Nat) : Nat := 4294967296 ^ k
theorem pB_zero : pB 0 = 1 := rfl
theorem pB_succ (k : Nat) : pB (k + 1) = 4294967296 * pB k := by unfold pB; rw [Nat.pow_succ, Nat.mul_comm]
theorem pB_pos (k : Nat) : 0 < pB k := Nat.pow_pos (by decide)
theorem pB_add (j k : Nat) : pB (j + k) = pB j * pB k := Nat.pow_add _ _ _
theorem pB_mono {j k : Nat} (h : j ≤ k) : pB j ≤ pB k := Nat.pow_le_pow_right (by decide) h
theorem pB_one : pB 1 = 4294967296 := rfl

theorem val_append (xs ys : List Nat) : val (xs ++ ys) = val xs + pB xs.length * val ys := by
  induction xs with
  | nil => simp [val, pB_zero]
  | cons x xs ih =>
    simp only [List.cons_append, val, List.length_cons, pB_succ, ih, Nat.mul_add, Nat.mul_assoc]
    omega
theorem val_one (x : Nat) : val [x] = x := by simp [val]
theorem val_zeros (n : Nat) : val (List.replicate n 0) = 0 := by
  induction n with
  | zero => rfl
  | succ n ih => simp [List.replicate_succ, val, ih]
theorem val_lt {xs : List Nat} (h : Dg xs) : val xs < pB xs.length := by
  induction xs with
  | nil => simp [val, pB_zero]
  | cons x xs ih =>
    have h1 := ih h.tail
    have h2 := h.head
    simp only [val, List.length_cons, pB_succ]
    omega
/-- One digit more of a list. -/
theorem val_take_succ (xs : List Nat) (k : Nat) : val (xs.take (k + 1)) = val (xs.take k) + pB k * gd xs k := by
  by_cases hk : k < xs.length
  · rw [List.take_succ_eq_append_getElem hk, val_append, val_one, List.length_take, Nat.min_eq_left (by omega), gd_lt hk]
  · rw [List.take_of_length_le (by omega), List.take_of_length_le (by omega), gd_ge (by omega)]
    simp
theorem val_split (xs : List Nat) (k : Nat) (h : k ≤ xs.length) : val xs = val (xs.take k) + pB k * val (xs.drop k) := by
  have h2 : val xs = val (xs.take k ++ xs.drop k) := by rw [List.take_append_drop]
  rw [h2, val_append, List.length_take, Nat.min_eq_left h]

/-- The canonical list of a number. -/
def dg (n : Nat) : List Nat := if n = 0 then [] else n % 4294967296 :: dg (n / 4294967296)
termination_by n
decreasing_by omega

theorem dg_zero : dg 0 = [] := by unfold dg; rfl
theorem dg_pos {n : Nat} (h : n ≠ 0) : dg n = n % 4294967296 :: dg (n / 4294967296) := by rw [dg]; simp [h]
theorem val_dg (n : Nat) : val (dg n) = n := by
  induction n using Nat.strongRecOn with
  | ind n ih =>
    by_cases h : n = 0
    · subst h; rw [dg_zero]; rfl
    · rw [dg_pos h, val, ih _ (by omega)]; omega
theorem Dg_dg (n : Nat) : Dg (dg n) := by
  induction n using Nat.strongRecOn with
  | ind n ih =>
    by_cases h : n = 0
    · subst h; rw [dg_zero]; exact Dg.nil
    · rw [dg_pos h]; exact Dg.cons (by omega) (ih _ (by omega))
theorem dg_nil {n : Nat} : dg n = [] ↔ n = 0 := by
  constructor
  · intro h
    by_cases h0 : n = 0
    · exact h0
    · rw [dg_pos h0] at h; cases h
  · rintro rfl; exact dg_zero
theorem dg_inj {m n : Nat} (h : dg m = dg n) : m = n := by rw [← val_dg m, ← val_dg n, h]
theorem dg_step {x n : Nat} (hx : x < 4294967296) (h : x + 4294967296 * n ≠ 0) : dg (x + 4294967296 * n) = x :: dg n := by
  rw [dg_pos h]
  have e1 : (x + 4294967296 * n) % 4294967296 = x := by omega
  have e2 : (x + 4294967296 * n) / 4294967296 = n := by omega
  rw [e1, e2]
theorem dg_len_le {n k : Nat} (h : n < pB k) : (dg n).length ≤ k := by
  induction k generalizing n with
  | zero =>
    have : n = 0 := by simp [pB_zero] at h; omega
    subst this; simp [dg_zero]
  | succ k ih =>
    by_cases h0 : n = 0
    · subst h0; simp [dg_zero]
    · rw [dg_pos h0, List.length_cons]
      have := ih (n := n / 4294967296) (by rw [pB_succ] at h; omega)
      omega
theorem dg_lt (n : Nat) : n < pB (dg n).length := by
  have := val_lt (Dg_dg n)
  rwa [val_dg] at this
/-- A canonical list of k digits is at least the power k - 1. -/
theorem dg_len_lt {n k : Nat} (h : pB k ≤ n) : k < (dg n).length := by
  have h1 := dg_lt n
  by_cases hk : (dg n).length ≤ k
  · have := pB_mono hk; omega
  · omega
theorem dg_ge {n : Nat} (h : n ≠ 0) : pB ((dg n).length - 1) ≤ n := by
  by_cases hh : pB ((dg n).length - 1) ≤ n
  · exact hh
  · have h1 := dg_len_le (n := n) (k := (dg n).length - 1) (by omega)
    have h2 : (dg n).length ≠ 0 := by
      intro e; exact h (dg_nil.1 (List.eq_nil_of_length_eq_zero e))
    omega
theorem dg_len_mono {m n : Nat} (h : m ≤ n) : (dg m).length ≤ (dg n).length := dg_len_le (Nat.lt_of_le_of_lt h (dg_lt n))
theorem dg_len_val {xs : List Nat} (h : Dg xs) : (dg (val xs)).length ≤ xs.length := dg_len_le (val_lt h)

/-- The last digit of a canonical list is not 0. -/
theorem dg_last {n k : Nat} (h : (dg n).length = k + 1) : gd (dg n) k ≠ 0 := by
  intro e
  have h1 := val_take_succ (dg n) k
  rw [List.take_of_length_le (by omega), e, val_dg] at h1
  have h2 := val_lt ((Dg_dg n).take k)
  rw [List.length_take, Nat.min_eq_left (by omega)] at h2
  have h3 := dg_len_le (n := n) (k := k) (by omega)
  omega

/-- The number of digits without leading zeros, among the first k. -/
def cutN (xs : List Nat) : Nat → Nat
  | 0 => 0
  | k + 1 => if gd xs k = 0 then cutN xs k else k + 1

theorem cutN_le (xs : List Nat) (k : Nat) : cutN xs k ≤ k := by
  induction k with
  | zero => simp [cutN]
  | succ k ih => unfold cutN; split <;> omega
theorem cutN_zero (xs : List Nat) : cutN xs 0 = 0 := rfl
theorem cutN_z {xs : List Nat} {k : Nat} (h : gd xs k = 0) : cutN xs (k + 1) = cutN xs k := by rw [cutN, if_pos h]
theorem cutN_nz {xs : List Nat} {k : Nat} (h : ¬ gd xs k = 0) : cutN xs (k + 1) = k + 1 := by rw [cutN, if_neg h]

theorem dg_of_last {xs : List Nat} (h : Dg xs) (k : Nat) (hk : k < xs.length) (hn : gd xs k ≠ 0) : dg (val (xs.take (k + 1))) = xs.take (k + 1) := by
  induction xs generalizing k with
  | nil => simp at hk
  | cons x xs ih =>
    have hx := h.head
    cases k with
    | zero =>
      have : x ≠ 0 := hn
      simp only [Nat.zero_add, List.take_succ_cons, List.take_zero, val, Nat.mul_zero, Nat.add_zero]
      have e := dg_step (x := x) (n := 0) hx (by omega)
      simpa [dg_zero] using e
    | succ k =>
      simp only [List.length_cons] at hk
      have hn' : gd xs k ≠ 0 := hn
      have e := ih h.tail k (by omega) hn'
      rw [List.take_succ_cons, val]
      rw [dg_step hx, e]
      intro h0
      have : val (xs.take (k + 1)) = 0 := by omega
      rw [this, dg_zero] at e
      have h7 : (xs.take (k + 1)).length = 0 := by rw [← e]; rfl
      rw [List.length_take] at h7
      omega

theorem cutN_take {xs : List Nat} (h : Dg xs) (k : Nat) (hk : k ≤ xs.length) : xs.take (cutN xs k) = dg (val (xs.take k)) := by
  induction k with
  | zero => simp [cutN, val, dg_zero]
  | succ k ih =>
    by_cases hz : gd xs k = 0
    · rw [cutN_z hz, ih (by omega), val_take_succ, hz]; simp
    · rw [cutN_nz hz, dg_of_last h k (by omega) hz]
theorem cutN_len {xs : List Nat} (h : Dg xs) : cutN xs xs.length = (dg (val xs)).length := by
  have h1 := cutN_take h xs.length (Nat.le_refl _)
  rw [List.take_length] at h1
  rw [← h1, List.length_take, Nat.min_eq_left (cutN_le _ _)]
theorem take_dg {xs : List Nat} (h : Dg xs) : xs.take (dg (val xs)).length = dg (val xs) := by
  rw [← cutN_len h, cutN_take h _ (Nat.le_refl _), List.take_length]

end Go.Proofs.Ytfjhdhmneknmkaa
