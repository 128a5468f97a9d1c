/- Plain arithmetic of decimal digits, the highest first. -/
import Derived.Test.YtfjhdhmneknmkaaNum
namespace Go.Proofs.Ytfjhdhmneknmkaa

/-- The value of decimal digits, the highest first. -/
def dvB : List Nat → Nat
  | [] => 0
  | d :: S => d * 10 ^ S.length + dvB S
/-- All are decimal digits. -/
def Dd (S : List Nat) : Prop := ∀ d, d ∈ S → d < 10
theorem Dd.nil : Dd [] := by intro x h; cases h
theorem Dd.cons {x : Nat} {xs : List Nat} (h : x < 10) (t : Dd xs) : Dd (x :: xs) := by
  intro y hy
  rcases List.mem_cons.1 hy with rfl | hy
  · exact h
  · exact t _ hy
theorem Dd.tail {x : Nat} {xs : List Nat} (h : Dd (x :: xs)) : Dd xs := fun y hy => h y (List.mem_cons_of_mem _ hy)
theorem Dd.head {x : Nat} {xs : List Nat} (h : Dd (x :: xs)) : x < 10 := h x (List.mem_cons_self ..)

theorem dvB_snoc (S : List Nat) (d : Nat) : dvB (S ++ [d]) = 10 * dvB S + d := by
  induction S with
  | nil => simp [dvB]
  | cons x S ih =>
    simp only [List.cons_append, dvB, ih, List.length_append, List.length_cons, List.length_nil, Nat.pow_succ]
    grind

/-- The decimal digits of a number, without leading zeros; none for 0. -/
def dB (n : Nat) : List Nat := if n = 0 then [] else dB (n / 10) ++ [n % 10]
termination_by n
decreasing_by omega
theorem dB_zero : dB 0 = [] := by unfold dB; rfl
theorem dB_pos {n : Nat} (h : n ≠ 0) : dB n = dB (n / 10) ++ [n % 10] := by rw [dB]; simp [h]
theorem dB_dd (n : Nat) : Dd (dB n) := by
  induction n using Nat.strongRecOn with
  | ind n ih =>
    by_cases h : n = 0
    · subst h; rw [dB_zero]; exact Dd.nil
    · rw [dB_pos h]
      intro y hy
      rcases List.mem_append.1 hy with hy | hy
      · exact ih _ (by omega) y hy
      · simp at hy; omega
theorem dvB_dB (n : Nat) : dvB (dB n) = n := by
  induction n using Nat.strongRecOn with
  | ind n ih =>
    by_cases h : n = 0
    · subst h; rw [dB_zero]; rfl
    · rw [dB_pos h, dvB_snoc, ih _ (by omega)]; omega

theorem dB_step {m d : Nat} (hd : d < 10) (h : 10 * m + d ≠ 0) : dB (10 * m + d) = dB m ++ [d] := by
  rw [dB_pos h, show (10 * m + d) / 10 = m by omega, show (10 * m + d) % 10 = d by omega]

theorem dvB_pos {x : Nat} {S : List Nat} (h : x ≠ 0) : dvB (x :: S) ≠ 0 := by
  rw [dvB]
  have : 1 * 1 ≤ x * 10 ^ S.length := Nat.mul_le_mul (by omega) (Nat.pow_pos (by decide))
  omega

/-- Digits without a leading zero are those of their value. -/
theorem dB_of (S : List Nat) : Dd S → (∀ x T, S = x :: T → x ≠ 0) → dB (dvB S) = S := by
  induction hn : S.length using Nat.strongRecOn generalizing S with
  | ind n ih =>
    intro hd hh
    rcases List.eq_nil_or_concat S with rfl | ⟨T, b, rfl⟩
    · rw [dvB, dB_zero]
    · rw [List.concat_eq_append] at *
      have hT : Dd T := fun y hy => hd y (List.mem_append_left _ hy)
      have hb : b < 10 := hd b (List.mem_append_right _ (by simp))
      have hne : dvB (T ++ [b]) ≠ 0 := by
        cases T with
        | nil => exact dvB_pos (hh b [] rfl)
        | cons x T => exact dvB_pos (hh x _ rfl)
      rw [dvB_snoc] at hne ⊢
      rw [dB_step hb hne, ih T.length (by simp at hn; omega) T rfl hT]
      intro x U e
      subst e
      exact hh x (U ++ [b]) rfl

/-- How many decimal digits a number has. -/
theorem dB_len_pow (n : Nat) : n ≠ 0 → 10 ^ ((dB n).length - 1) ≤ n := by
  induction n using Nat.strongRecOn with
  | ind n ih =>
    intro h
    rw [dB_pos h, List.length_append, List.length_singleton, Nat.add_sub_cancel]
    by_cases h0 : n / 10 = 0
    · rw [h0, dB_zero]
      simp
      omega
    · have h1 := ih (n / 10) (by omega) h0
      have h2 : (dB (n / 10)).length ≠ 0 := by
        rw [dB_pos h0]
        simp
      have h3 : (dB (n / 10)).length = ((dB (n / 10)).length - 1) + 1 := by omega
      rw [h3, Nat.pow_succ]
      omega
theorem dvB_zero_cons (S : List Nat) : dvB (0 :: S) = dvB S := by simp [dvB]

/-- The canonical text: "0" for 0. -/
def fmt (n : Nat) : List Nat := if n = 0 then [0] else dB n

/-- So many decimal digits at most. -/
theorem dec_len {s v L : Nat} (h : 10 ^ s ≤ v) (hv : v < pB L) : s ≤ 10 * L := by
  apply Nat.le_of_not_lt
  intro hh
  have h1 : (10 : Nat) ^ (10 * L) ≤ 10 ^ s := Nat.pow_le_pow_right (by decide) (by omega)
  have h2 : pB L ≤ 10 ^ (10 * L) := by
    unfold pB
    rw [Nat.pow_mul]
    exact Nat.pow_le_pow_left (by decide) L
  omega

/-- One decimal digit more. -/
theorem dec_step {V R i G l D : Nat} (h : V = (R * 10 ^ (i + 1) + G) * 10 ^ l + D) : V = (R * 10 ^ i + G / 10) * 10 ^ (l + 1) + (G % 10 * 10 ^ l + D) := by
  have hg := Nat.div_add_mod G 10
  rw [h, Nat.pow_succ 10 i, Nat.pow_succ 10 l]
  generalize G / 10 = a at *
  generalize G % 10 = b at *
  subst hg
  grind
theorem dec_group {V v l D : Nat} (h : V = v * 10 ^ l + D) : V = (v / 1000000000 * 10 ^ 9 + v % 1000000000) * 10 ^ l + D := by
  have hg := Nat.div_add_mod v 1000000000
  rw [h, show (10 : Nat) ^ 9 = 1000000000 from rfl, Nat.mul_comm (v / 1000000000), hg]

end Go.Proofs.Ytfjhdhmneknmkaa
