/- What the statements of this claim stand on: of TzNum, Tz, what they name -/
import Derived.Outline
import Derived.Test.YtagciepnhjbopaaGreatDoorT07

namespace Go.Proofs.YtagciepnhjbopaaGreatDoor
def tz (n : Nat) : Nat := if n = 0 then 0 else if n % 2 = 1 then 0 else tz (n / 2) + 1
termination_by n
decreasing_by omega

theorem tz_odd {n : Nat} (h : n % 2 = 1) : tz n = 0 := by
  rw [tz, if_neg (by omega), if_pos h]

theorem tz_even {n : Nat} (h0 : n ≠ 0) (_h : n % 2 = 0) : tz n = tz (n / 2) + 1 := by
  rw [tz, if_neg h0, if_neg (by omega)]

theorem tz_spec (n : Nat) : n ≠ 0 → ∃ m, n = 2 ^ tz n * m ∧ m % 2 = 1 := by
  induction n using Nat.strongRecOn with
  | ind n ih =>
    intro h0
    by_cases h : n % 2 = 1
    · exact ⟨n, by rw [tz_odd h]; omega, h⟩
    · obtain ⟨m, h1, h2⟩ := ih (n / 2) (by omega) (by omega)
      refine ⟨m, ?_, h2⟩
      rw [tz_even h0 (by omega), Nat.pow_succ, Nat.mul_comm (2 ^ tz (n / 2)) 2, Nat.mul_assoc, ← h1]
      omega

theorem tz_unique {k m : Nat} (hm : m % 2 = 1) : tz (2 ^ k * m) = k := by
  induction k with
  | zero => rw [Nat.pow_zero, Nat.one_mul, tz_odd hm]
  | succ k ih =>
    have hp : 0 < 2 ^ k * m := Nat.mul_pos (Nat.two_pow_pos k) (by omega)
    have e : 2 ^ (k + 1) * m = 2 * (2 ^ k * m) := by rw [Nat.pow_succ, Nat.mul_comm (2 ^ k) 2, Nat.mul_assoc]
    rw [e, tz_even (by omega) (by omega)]
    rw [show 2 * (2 ^ k * m) / 2 = 2 ^ k * m by omega, ih]

theorem tz_shift {n : Nat} (h : n ≠ 0) (k : Nat) : tz (2 ^ k * n) = k + tz n := by
  obtain ⟨m, h1, h2⟩ := tz_spec n h
  have e : 2 ^ k * n = 2 ^ (k + tz n) * m := by rw [Nat.pow_add, Nat.mul_assoc, ← h1]
  rw [e, tz_unique h2]

theorem tz_dvd {n : Nat} (h : n ≠ 0) {k : Nat} (hk : k ≤ tz n) : 2 ^ k ∣ n := by
  obtain ⟨m, h1, h2⟩ := tz_spec n h
  have e : n = 2 ^ k * (2 ^ (tz n - k) * m) := by rw [← Nat.mul_assoc, ← Nat.pow_add, Nat.add_sub_cancel' hk]; exact h1
  exact ⟨_, e⟩

theorem tz_le {n : Nat} (h : n ≠ 0) : 2 ^ tz n ≤ n := Nat.le_of_dvd (Nat.pos_of_ne_zero h) (tz_dvd h (Nat.le_refl _))

theorem tz_add {a b n : Nat} (ha : a ≠ 0) (_hl : a < 2 ^ n) : tz (a + 2 ^ n * b) = tz a := by
  obtain ⟨m, h1, h2⟩ := tz_spec a ha
  have hk : tz a < n := by
    apply Nat.lt_of_not_le
    intro h
    have := tz_le ha
    have := Nat.pow_le_pow_right (n := 2) (by decide) h
    omega
  have e : a + 2 ^ n * b = 2 ^ tz a * (m + 2 ^ (n - tz a) * b) := by
    rw [Nat.mul_add, ← Nat.mul_assoc, ← Nat.pow_add, Nat.add_sub_cancel' (Nat.le_of_lt hk), ← h1]
  have ho : (m + 2 ^ (n - tz a) * b) % 2 = 1 := by
    obtain ⟨j, hj⟩ : ∃ j, n - tz a = j + 1 := ⟨n - tz a - 1, by omega⟩
    rw [hj, Nat.pow_succ, Nat.mul_comm (2 ^ j) 2, Nat.mul_assoc]
    omega
  rw [e, tz_unique ho]

theorem gcd_two {z k : Nat} (hz : z ≠ 0) : Nat.gcd z (2 ^ k) = 2 ^ min (tz z) k := by
  obtain ⟨m, h1, h2⟩ := tz_spec z hz
  by_cases hk : tz z ≤ k
  · rw [Nat.min_eq_left hk]
    obtain ⟨j, hj⟩ : ∃ j, k = tz z + j := ⟨k - tz z, by omega⟩
    have hc : Nat.gcd m (2 ^ j) = 1 := by
      apply Nat.Coprime.pow_right
      unfold Nat.Coprime
      rw [Nat.gcd_comm, Nat.gcd_rec, h2, Nat.gcd_one_left]
    have e : Nat.gcd (2 ^ tz z * m) (2 ^ tz z * 2 ^ j) = 2 ^ tz z := by rw [Nat.gcd_mul_left, hc, Nat.mul_one]
    rw [← h1, ← Nat.pow_add, ← hj] at e
    exact e
  · rw [Nat.min_eq_right (by omega)]
    exact Nat.gcd_eq_right (tz_dvd hz (by omega))

theorem and_neg {x n : Nat} (h : x ≠ 0) (hx : x < 2 ^ n) : x &&& (2 ^ n - x) = 2 ^ tz x := by
  obtain ⟨m, h1, h2⟩ := tz_spec x h
  have hk : tz x < n := by
    apply Nat.lt_of_not_le
    intro hh
    have := tz_le h
    have := Nat.pow_le_pow_right (n := 2) (by decide) hh
    omega
  obtain ⟨l, hl⟩ : ∃ l, n = tz x + l + 1 := ⟨n - tz x - 1, by omega⟩
  obtain ⟨j, hj⟩ : ∃ j, m = 2 * j + 1 := ⟨m / 2, by omega⟩
  have hm : m < 2 ^ (l + 1) := by
    have e : 2 ^ n = 2 ^ tz x * 2 ^ (l + 1) := by rw [← Nat.pow_add, hl, Nat.add_assoc]
    have hx2 : 2 ^ tz x * m < 2 ^ tz x * 2 ^ (l + 1) := by rw [← e, ← h1]; exact hx
    exact Nat.lt_of_mul_lt_mul_left hx2
  have hjl : j < 2 ^ l := by rw [Nat.pow_succ] at hm; omega
  have e1 : 2 ^ n - x = 2 ^ tz x * (2 * (2 ^ l - (j + 1)) + 1) := by
    have e : 2 ^ n = 2 ^ tz x * (2 * 2 ^ l) := by rw [hl, Nat.pow_succ, Nat.pow_add, Nat.mul_comm 2, Nat.mul_assoc]
    have e2 : 2 * 2 ^ l = m + (2 * (2 ^ l - (j + 1)) + 1) := by omega
    rw [e, e2, Nat.mul_add]
    omega
  have e3 : (2 * j + 1) &&& (2 * (2 ^ l - (j + 1)) + 1) = 1 := by
    apply Nat.eq_of_testBit_eq
    intro i
    rw [Nat.testBit_and]
    cases i with
    | zero => simp
    | succ i =>
      rw [Nat.testBit_succ, Nat.testBit_succ, Nat.testBit_succ]
      rw [show (2 * j + 1) / 2 = j by omega, show (2 * (2 ^ l - (j + 1)) + 1) / 2 = 2 ^ l - (j + 1) by omega, Nat.testBit_two_pow_sub_succ hjl]
      simp
      intro a _
      exact a
  rw [e1]
  have e4 : x = 2 ^ tz x * (2 * j + 1) := by rw [← hj]; exact h1
  obtain ⟨k, hk2⟩ : ∃ k, k = tz x := ⟨_, rfl⟩
  rw [← hk2] at e4 ⊢
  rw [e4, Nat.mul_comm (2 ^ k), Nat.mul_comm (2 ^ k), ← Nat.shiftLeft_eq, ← Nat.shiftLeft_eq, ← Nat.shiftLeft_and_distrib, e3, Nat.shiftLeft_eq, Nat.one_mul]

end Go.Proofs.YtagciepnhjbopaaGreatDoor

namespace Go.Proofs.YtagciepnhjbopaaGreatDoor
open Go.RowKit

def Tab (w : World) : Prop := ∀ k, k < 32 → w.cell? ⟨0, 2 ^ k * 125613361 % 4294967296 / 134217728, none⟩ = some (.int .u8 (k : Nat))

theorem Tab.keep {S : List Nat} {w w' : World} (h : Tab w) (f : Fr S w w') (hs : 0 ∉ S) : Tab w' := fun k hk => by
  have h1 := h k hk
  rw [f.cell (p := ⟨0, 2 ^ k * 125613361 % 4294967296 / 134217728, none⟩) (World.block_lt_of_cell? w _ h1) hs]
  exact h1

theorem Tab.kept {w w' : World} (h : Tab w) (f : Fr [] w w') : Tab w' := h.keep f (by simp)

theorem bits_and_u32_nat (a b : Nat) (_ha : a < 4294967296) (_hb : b < 4294967296) : bits .and .u32 (a : Int) (b : Int) = ((a &&& b : Nat) : Int) := by
  have hx : a &&& b < 2 ^ 32 := Nat.and_lt_two_pow _ (by omega)
  have h1 : (BitVec.ofInt 32 (a : Int)).toNat = a := by
    rw [BitVec.ofInt_natCast, BitVec.toNat_ofNat]; exact Nat.mod_eq_of_lt (by omega)
  have h2 : (BitVec.ofInt 32 (b : Int)).toNat = b := by
    rw [BitVec.ofInt_natCast, BitVec.toNat_ofNat]; exact Nat.mod_eq_of_lt (by omega)
  show IntKind.u32.wrap ((BitVec.ofInt 32 (a : Int) &&& BitVec.ofInt 32 (b : Int)).toNat : Int) = _
  rw [BitVec.toNat_and, h1, h2, IntKind.wrap_u32]
  omega

theorem low_bit {x : Nat} (h0 : x ≠ 0) (hx : x < 4294967296) : bits .and .u32 (x : Int) (-(x : Int) % 4294967296) = ((2 ^ tz x : Nat) : Int) := by
  have e : -(x : Int) % 4294967296 = ((4294967296 - x : Nat) : Int) := by omega
  rw [e, bits_and_u32_nat x _ hx (by omega), show 4294967296 = 2 ^ 32 by decide, and_neg h0 hx]

theorem tz_lt32 {x : Nat} (h0 : x ≠ 0) (_hx : x < 4294967296) : tz x < 32 := by
  apply Nat.lt_of_not_le
  intro h
  have h1 := tz_le h0
  have h2 := Nat.pow_le_pow_right (n := 2) (by decide) h
  omega

set_option maxRecDepth 100000 in
set_option maxHeartbeats 1000000 in
theorem tz32_any (x : Nat) (w : World) (ht : Tab w) (h0 : x ≠ 0) (hx : x < 4294967296) :
    Calls Tryz.prog 199 #[.int .u32 x] w fun e w' => e = .returned (.int .i64 (tz x : Nat)) ∧ w = w' := by
  have hne : ((x : Int) == 0) = false := beq_eq_false_iff_ne.2 (by omega)
  have hl := low_bit h0 hx
  have ht32 := tz_lt32 h0 hx
  have hc := ht (tz x) ht32
  have hP : 2 ^ tz x < 4294967296 := by have := Nat.pow_lt_pow_right (a := 2) (by decide) ht32; omega
  generalize 2 ^ tz x = P at *
  have q : ((P * 125613361 : Nat) : Int) = (P : Int) * 125613361 := by rw [Int.natCast_mul]; rfl
  have e1 : ((P : Int) * 125613361 % 4294967296 / 134217728).toNat = P * 125613361 % 4294967296 / 134217728 := by
    rw [← q]
    generalize P * 125613361 = Q at *
    omega
  clear q
  have b1 : (0 : Int) ≤ (P : Int) * 125613361 % 4294967296 / 134217728 := by omega
  have b2 : (P : Int) * 125613361 % 4294967296 / 134217728 < 32 := by omega
  clear ht
  generalize tz x = k at *
  go_enter Tryz.func199, Tryz.ntmps199
  go_wp2_with fail
  go_ret
  exact ⟨rfl, rfl⟩

end Go.Proofs.YtagciepnhjbopaaGreatDoor
