/- math/bits: Len32, LeadingZeros32, Len64, Len. -/
import Derived.Test.YtfjhdhmneknmkaaBase
import Derived.Lib.Strings
import Derived.Lib.Slices
import Derived.Lib.Small
import Derived.Lib.Walk
import Derived.Lib.BitFns
import Derived.Lib.ItoaNum
namespace Go.Proofs.Ytfjhdhmneknmkaa
open Go.RowKit

/-- The number of bits of a number. -/
def bl (x : Nat) : Nat := if x = 0 then 0 else Nat.log2 x + 1
theorem bl_lt (x : Nat) : x < 2 ^ bl x := by
  unfold bl
  split
  · subst_vars; decide
  · exact Nat.lt_log2_self
theorem bl_ge {x : Nat} (h : x ≠ 0) : 2 ^ (bl x - 1) ≤ x := by
  unfold bl
  rw [if_neg h, Nat.add_sub_cancel]
  exact Nat.log2_self_le h
theorem bl_le {x n : Nat} (h : x < 2 ^ n) : bl x ≤ n := by
  unfold bl
  split
  · omega
  · rename_i hx
    have := (Nat.log2_lt hx).2 h
    omega
theorem bl_pos {x : Nat} (h : x ≠ 0) : 1 ≤ bl x := by unfold bl; rw [if_neg h]; omega
theorem bl_eq {x n : Nat} (h : x < 2 ^ n) (h2 : 2 ^ n ≤ 2 * x) : bl x = n := by
  have h1 := bl_le h
  have h3 := bl_lt x
  by_cases hh : bl x = n
  · exact hh
  · have : 2 ^ (bl x + 1) ≤ 2 ^ n := Nat.pow_le_pow_right (by decide) (by omega)
    rw [Nat.pow_succ] at this
    omega
theorem bl_shift {x k : Nat} (h : 2 ^ k ≤ x) : bl x = bl (x / 2 ^ k) + k := by
  have hp : 0 < 2 ^ k := Nat.two_pow_pos k
  have hq : x / 2 ^ k ≠ 0 := by
    have := (Nat.le_div_iff_mul_le hp).2 (show 1 * 2 ^ k ≤ x by omega)
    omega
  have h1 := bl_lt (x / 2 ^ k)
  have h2 := bl_ge hq
  have h3 := bl_pos hq
  have hm := Nat.div_add_mod x (2 ^ k)
  have hlt := Nat.mod_lt x hp
  apply bl_eq
  · rw [Nat.pow_add]
    exact (Nat.div_lt_iff_lt_mul hp).1 h1
  · have e : bl (x / 2 ^ k) + k = (bl (x / 2 ^ k) - 1) + 1 + k := by omega
    rw [e, Nat.pow_add, Nat.pow_succ]
    have : 2 ^ (bl (x / 2 ^ k) - 1) * 2 ^ k ≤ x / 2 ^ k * 2 ^ k := Nat.mul_le_mul_right _ h2
    have h5 : x / 2 ^ k * 2 ^ k ≤ x := Nat.div_mul_le_self _ _
    rw [Nat.mul_right_comm]
    omega

theorem len8_size : Lib.len8tab.size = 256 := by decide +kernel
theorem len8_all : ∀ j : Fin 256, (Lib.len8tab[j.val]'(by rw [len8_size]; exact j.isLt)).toNat = Lib.bitLen j.val := by decide +kernel
theorem len8_at (j : Nat) (h : j < Lib.len8tab.size) : (Lib.len8tab[j]'h).toNat = Lib.bitLen j := len8_all ⟨j, by rw [len8_size] at h; exact h⟩

theorem bitLen_bl (x : Nat) (h : x < 2 ^ 64) : Lib.bitLen x = bl x := by
  by_cases h0 : x = 0
  · subst h0; rfl
  · obtain ⟨h1, h2, h3⟩ := Lib.bitLenAux_bounds 64 x h h0
    have h4 : bl x = Lib.bitLenAux 64 x := by
      apply bl_eq h3
      have : Lib.bitLenAux 64 x = (Lib.bitLenAux 64 x - 1) + 1 := by omega
      rw [this, Nat.pow_succ]
      omega
    exact h4.symm

set_option maxHeartbeats 4000000 in
set_option maxRecDepth 100000 in
theorem len32_raw (x : Int) (w : World) (h0 : 0 ≤ x) (h1 : x ≤ 4294967295) :
    Calls Try.prog 100 #[.int .u32 x] w fun e w' => e = .returned (.int .i64 (Lib.bitLen x.toNat)) ∧ w = w' := by
  have hsz := len8_size
  go_enter Try.func100, Try.ntmps100
  go_wp2
  all_goals (go_ret; refine ⟨congrArg Ending.returned (congrArg (Value.int IntKind.i64) ?_), rfl⟩)
  all_goals show wrap64 _ = _
  all_goals first
    | (rw [len8_at (x / 65536 / 256).toNat (by rw [hsz]; omega)]
       have e : (x / 65536 / 256).toNat = x.toNat / 16777216 := by omega
       have l2 := fun h => IntWalk.wrap64_in ((Lib.bitLen (x.toNat / 16777216) : Nat) : Int) h
       have l := Lib.bitLen_le8' (x / 65536 / 256) (by omega) (by omega)
       have s := Lib.bitLen_shift24 x.toNat (by omega) (by omega)
       rw [e] at l ⊢
       rw [l2 (by omega), IntWalk.wrap64_in _ (by omega)]
       first | done | omega)
    | (rw [len8_at (x / 65536).toNat (by rw [hsz]; omega)]
       have e : (x / 65536).toNat = x.toNat / 65536 := by omega
       have l2 := fun h => IntWalk.wrap64_in ((Lib.bitLen (x.toNat / 65536) : Nat) : Int) h
       have l := Lib.bitLen_le8' (x / 65536) (by omega) (by omega)
       have s := Lib.bitLen_shift16 x.toNat (by omega) (by omega)
       rw [e] at l ⊢
       rw [l2 (by omega), IntWalk.wrap64_in _ (by omega)]
       first | done | omega)
    | (rw [len8_at (x / 256).toNat (by rw [hsz]; omega)]
       have e : (x / 256).toNat = x.toNat / 256 := by omega
       have l2 := fun h => IntWalk.wrap64_in ((Lib.bitLen (x.toNat / 256) : Nat) : Int) h
       have l := Lib.bitLen_le8' (x / 256) (by omega) (by omega)
       have s := Lib.bitLen_shift8 x.toNat (by omega) (by omega)
       rw [e] at l ⊢
       rw [l2 (by omega), IntWalk.wrap64_in _ (by omega)]
       first | done | omega)
    | (rw [len8_at (x).toNat (by rw [hsz]; omega)]
       have e : (x).toNat = x.toNat := by omega
       have l2 := fun h => IntWalk.wrap64_in ((Lib.bitLen (x.toNat) : Nat) : Int) h
       have l := Lib.bitLen_le8' (x) (by omega) (by omega)
       rw [e] at l ⊢
       rw [l2 (by omega), IntWalk.wrap64_in _ (by omega)]
       first | done | omega)

set_option maxHeartbeats 4000000 in
set_option maxRecDepth 100000 in
theorem len64_raw (x : Int) (w : World) (h0 : 0 ≤ x) (h1 : x ≤ 18446744073709551615) :
    Calls Try.prog 109 #[.int .u64 x] w fun e w' => e = .returned (.int .i64 (Lib.bitLen x.toNat)) ∧ w = w' := by
  have hsz := len8_size
  go_enter Try.func109, Try.ntmps109
  go_wp2
  all_goals (go_ret; refine ⟨congrArg Ending.returned (congrArg (Value.int IntKind.i64) ?_), rfl⟩)
  all_goals show wrap64 _ = _
  all_goals first
    | (rw [len8_at (x / 4294967296 / 65536 / 256).toNat (by rw [hsz]; omega)]
       have e : (x / 4294967296 / 65536 / 256).toNat = x.toNat / 72057594037927936 := by omega
       have l2 := fun h => IntWalk.wrap64_in ((Lib.bitLen (x.toNat / 72057594037927936) : Nat) : Int) h
       have l := Lib.bitLen_le8' (x / 4294967296 / 65536 / 256) (by omega) (by omega)
       have s := Lib.bitLen_shift56 x.toNat (by omega) (by omega)
       rw [e] at l ⊢
       rw [l2 (by omega), IntWalk.wrap64_in _ (by omega)]
       first | done | omega)
    | (rw [len8_at (x / 4294967296 / 65536).toNat (by rw [hsz]; omega)]
       have e : (x / 4294967296 / 65536).toNat = x.toNat / 281474976710656 := by omega
       have l2 := fun h => IntWalk.wrap64_in ((Lib.bitLen (x.toNat / 281474976710656) : Nat) : Int) h
       have l := Lib.bitLen_le8' (x / 4294967296 / 65536) (by omega) (by omega)
       have s := Lib.bitLen_shift48 x.toNat (by omega) (by omega)
       rw [e] at l ⊢
       rw [l2 (by omega), IntWalk.wrap64_in _ (by omega)]
       first | done | omega)
    | (rw [len8_at (x / 4294967296 / 256).toNat (by rw [hsz]; omega)]
       have e : (x / 4294967296 / 256).toNat = x.toNat / 1099511627776 := by omega
       have l2 := fun h => IntWalk.wrap64_in ((Lib.bitLen (x.toNat / 1099511627776) : Nat) : Int) h
       have l := Lib.bitLen_le8' (x / 4294967296 / 256) (by omega) (by omega)
       have s := Lib.bitLen_shift40 x.toNat (by omega) (by omega)
       rw [e] at l ⊢
       rw [l2 (by omega), IntWalk.wrap64_in _ (by omega)]
       first | done | omega)
    | (rw [len8_at (x / 4294967296).toNat (by rw [hsz]; omega)]
       have e : (x / 4294967296).toNat = x.toNat / 4294967296 := by omega
       have l2 := fun h => IntWalk.wrap64_in ((Lib.bitLen (x.toNat / 4294967296) : Nat) : Int) h
       have l := Lib.bitLen_le8' (x / 4294967296) (by omega) (by omega)
       have s := Lib.bitLen_shift32 x.toNat (by omega) (by omega)
       rw [e] at l ⊢
       rw [l2 (by omega), IntWalk.wrap64_in _ (by omega)]
       first | done | omega)
    | (rw [len8_at (x / 65536 / 256).toNat (by rw [hsz]; omega)]
       have e : (x / 65536 / 256).toNat = x.toNat / 16777216 := by omega
       have l2 := fun h => IntWalk.wrap64_in ((Lib.bitLen (x.toNat / 16777216) : Nat) : Int) h
       have l := Lib.bitLen_le8' (x / 65536 / 256) (by omega) (by omega)
       have s := Lib.bitLen_shift24 x.toNat (by omega) (by omega)
       rw [e] at l ⊢
       rw [l2 (by omega), IntWalk.wrap64_in _ (by omega)]
       first | done | omega)
    | (rw [len8_at (x / 65536).toNat (by rw [hsz]; omega)]
       have e : (x / 65536).toNat = x.toNat / 65536 := by omega
       have l2 := fun h => IntWalk.wrap64_in ((Lib.bitLen (x.toNat / 65536) : Nat) : Int) h
       have l := Lib.bitLen_le8' (x / 65536) (by omega) (by omega)
       have s := Lib.bitLen_shift16 x.toNat (by omega) (by omega)
       rw [e] at l ⊢
       rw [l2 (by omega), IntWalk.wrap64_in _ (by omega)]
       first | done | omega)
    | (rw [len8_at (x / 256).toNat (by rw [hsz]; omega)]
       have e : (x / 256).toNat = x.toNat / 256 := by omega
       have l2 := fun h => IntWalk.wrap64_in ((Lib.bitLen (x.toNat / 256) : Nat) : Int) h
       have l := Lib.bitLen_le8' (x / 256) (by omega) (by omega)
       have s := Lib.bitLen_shift8 x.toNat (by omega) (by omega)
       rw [e] at l ⊢
       rw [l2 (by omega), IntWalk.wrap64_in _ (by omega)]
       first | done | omega)
    | (rw [len8_at (x).toNat (by rw [hsz]; omega)]
       have e : (x).toNat = x.toNat := by omega
       have l2 := fun h => IntWalk.wrap64_in ((Lib.bitLen (x.toNat) : Nat) : Int) h
       have l := Lib.bitLen_le8' (x) (by omega) (by omega)
       rw [e] at l ⊢
       rw [l2 (by omega), IntWalk.wrap64_in _ (by omega)]
       first | done | omega)

theorem ret_i64 {a b : Int} (h : a = b) : Ending.returned (.int .i64 a) = .returned (.int .i64 b) := by rw [h]
theorem len32_any (x : Nat) (w : World) (h : x < 4294967296) :
    Calls Try.prog 100 #[.int .u32 x] w fun e w' => e = .returned (.int .i64 (bl x : Nat)) ∧ w = w' :=
  (len32_raw x w (by omega) (by omega)).mono fun _ _ ⟨h1, h2⟩ => ⟨h1.trans (ret_i64 (by rw [Int.toNat_natCast, bitLen_bl x (by omega)])), h2⟩
theorem len64_any (x : Nat) (w : World) (h : x < 18446744073709551616) :
    Calls Try.prog 109 #[.int .u64 x] w fun e w' => e = .returned (.int .i64 (bl x : Nat)) ∧ w = w' :=
  (len64_raw x w (by omega) (by omega)).mono fun _ _ ⟨h1, h2⟩ => ⟨h1.trans (ret_i64 (by rw [Int.toNat_natCast, bitLen_bl x (by omega)])), h2⟩
theorem lz32_any (x : Nat) (w : World) (h : x < 4294967296) :
    Calls Try.prog 69 #[.int .u32 x] w fun e w' => e = .returned (.int .i64 ((32 - bl x : Nat) : Int)) ∧ w = w' := by
  have hb := bl_le (x := x) (n := 32) (by omega)
  have e1 : ((32 - bl x : Nat) : Int) = 32 - (bl x : Int) := by omega
  rw [e1]
  generalize hn : bl x = n at *
  have HN := Lib.hid hn
  clear hn e1
  go_enter Try.func69, Try.ntmps69
  go_wp2_with fail
  refine (len32_any _ _ h).mono ?_
  rintro e w' ⟨rfl, rfl⟩
  rw [HN.out]
  go_wp2_with fail
  go_ret
  exact ⟨rfl, rfl⟩
theorem len_any (x : Nat) (w : World) (h : x < 18446744073709551616) :
    Calls Try.prog 95 #[.int .u64 x] w fun e w' => e = .returned (.int .i64 (bl x : Nat)) ∧ w = w' := by
  have hb := bl_le (x := x) (n := 64) (by omega)
  go_enter Try.func95, Try.ntmps95
  go_wp2_with fail
  refine (len64_any _ _ h).mono ?_
  rintro e w' ⟨rfl, rfl⟩
  go_wp2_with fail
  go_ret
  exact ⟨rfl, rfl⟩

end Go.Proofs.Ytfjhdhmneknmkaa
