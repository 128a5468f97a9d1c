/- Parts of nat.Gcd: gcdWords, window. -/
import Derived.Test.YtfjhdhmneknmkaaAwake
namespace Go.Proofs.Ytfjhdhmneknmkaa
open Go.RowKit

set_option maxRecDepth 100000 in
set_option maxHeartbeats 1000000 in
theorem gcdWords_any (x y : Nat) (w : World) (hx : x < 18446744073709551616) (hy : y < 18446744073709551616) :
    Calls Try.prog 76 #[.int .u64 x, .int .u64 y] w fun e w' => e = .returned (.int .u64 (Nat.gcd x y : Nat)) ∧ Fr [] w w' := by
  go_enter Try.func76, Try.ntmps76
  go_wp2
  go_loopw [0, 1] (fun s t wr => ∃ a b : Nat, s = .int .u64 a ∧ t = .int .u64 b ∧ a < 18446744073709551616 ∧ b < 18446744073709551616 ∧ Nat.gcd a b = Nat.gcd x y ∧ Fr [] w wr) (fun _ t _ => (intOf t).toNat)
  case atStart => exact ⟨x, y, rfl, rfl, hx, hy, rfl, Fr.refl _ _⟩
  case round =>
    obtain ⟨a, b, rfl, rfl, ha, hb, hg, hf⟩ := hrel
    have HG := Lib.hid hg
    clear hg
    by_cases hz : b = 0
    · subst hz
      have he : Nat.gcd x y = a := by rw [← HG.out, Nat.gcd_zero_right]
      have HE := Lib.hid he
      clear he
      go_wp2
      go_ret
      rw [HE.out]
      exact ⟨rfl, hf⟩
    · have hne : ((b : Int) != 0) = true := bne_iff_ne.2 (by omega)
      have hne2 : ((b : Int) == 0) = false := beq_eq_false_iff_ne.2 (by omega)
      have ht : Int.tmod (a : Int) (b : Int) = ((a % b : Nat) : Int) := rfl
      have hl := Nat.mod_lt a (show 0 < b by omega)
      have hN : Hid (Nat.gcd b (a % b) = Nat.gcd x y) := by
        show _ = _
        rw [← HG.out, Nat.gcd_comm b, ← Nat.gcd_rec, Nat.gcd_comm]
      have HT := Lib.hid ht
      clear ht
      go_wp2
      go_quiet (fail)
      go_wp2
      go_roundw
      case rel => exact ⟨b, a % b, rfl, congrArg (Value.int .u64) (by first | exact HT.out | omega), hb, by omega, hN.out, hf.drewN _⟩
      case measure => simp [intOf]; omega

set_option maxRecDepth 100000 in
set_option maxHeartbeats 1000000 in
theorem window_any (p : Option Addr) (l c n up : Nat) (xs : List Nat) (w : World) (h : Sl w p l c xs) (hl : l ≤ 1099511627776) (hn3 : 3 ≤ n) (hn : n ≤ 1099511627776) (hup : up ≤ 31) (htop : gd xs (n - 1) * 2 ^ up < 4294967296) :
    Calls Try.prog 103 #[.slice p l c, .int .i64 n, .int .i64 up] w fun e w' => e = .returned (.int .u64 (((gd xs (n - 1) * 4294967296 + gd xs (n - 2)) * 2 ^ up + gd xs (n - 3) / 2 ^ (32 - up) : Nat) : Int)) ∧ Fr [] w w' := by
  have d1 := h.dig.at (n - 1)
  have d2 := h.dig.at (n - 2)
  have d3 := h.dig.at (n - 3)
  have w1 : IntKind.i64.wrap ((n : Int) - 1) = (n : Int) - 1 := IntWalk.i64_in _ (by omega)
  have w2 : IntKind.i64.wrap ((n : Int) - 2) = (n : Int) - 2 := IntWalk.i64_in _ (by omega)
  have w3 : IntKind.i64.wrap ((n : Int) - 3) = (n : Int) - 3 := IntWalk.i64_in _ (by omega)
  have w4 : IntKind.i64.wrap (32 - (up : Int)) = ((32 - up : Nat) : Int) := by rw [IntWalk.i64_in _ (by omega)]; omega
  have b1 : (0 : Int) ≤ (n : Int) - 1 := by omega
  have b2 : (0 : Int) ≤ (n : Int) - 2 := by omega
  have b3 : (0 : Int) ≤ (n : Int) - 3 := by omega
  have t1 : ((n : Int) - 1).toNat = n - 1 := by omega
  have t2 : ((n : Int) - 2).toNat = n - 2 := by omega
  have t3 : ((n : Int) - 3).toNat = n - 3 := by omega
  have hP : 2 ^ up * 2 ^ (32 - up) = 4294967296 := by rw [← Nat.pow_add, Nat.add_sub_cancel' (by omega)]
  have hq : (gd xs (n - 1) + 1) * 2 ^ up ≤ 4294967296 := by
    have h1 : gd xs (n - 1) < 2 ^ (32 - up) := by
      apply Nat.lt_of_mul_lt_mul_right (a := 2 ^ up)
      rw [Nat.mul_comm (2 ^ (32 - up)), hP]
      exact htop
    have h2 : (gd xs (n - 1) + 1) * 2 ^ up ≤ 2 ^ (32 - up) * 2 ^ up := Nat.mul_le_mul_right _ h1
    rw [Nat.mul_comm (2 ^ (32 - up)), hP] at h2
    exact h2
  have hF : gd xs (n - 3) / 2 ^ (32 - up) < 2 ^ up := by
    rw [Nat.div_lt_iff_lt_mul (Nat.two_pow_pos _), hP]
    exact d3
  have hS : (gd xs (n - 1) * 4294967296 + gd xs (n - 2)) * 2 ^ up + 2 ^ up ≤ 18446744073709551616 := by
    have h1 : (gd xs (n - 1) * 4294967296 + gd xs (n - 2) + 1) * 2 ^ up ≤ ((gd xs (n - 1) + 1) * 4294967296) * 2 ^ up := Nat.mul_le_mul_right _ (by omega)
    rw [Nat.mul_right_comm] at h1
    have h2 : (gd xs (n - 1) + 1) * 2 ^ up * 4294967296 ≤ 4294967296 * 4294967296 := Nat.mul_le_mul_right _ hq
    rw [Nat.add_mul _ 1, Nat.one_mul] at h1
    omega
  have x1 : IntKind.u64.wrap ((gd xs (n - 1) : Nat) * 4294967296) = (gd xs (n - 1) : Nat) * 4294967296 := wrap_u64_lt (by omega) (by omega)
  have x2 : bits .or .u64 ((gd xs (n - 1) : Nat) * 4294967296) (gd xs (n - 2) : Nat) = (gd xs (n - 1) : Nat) * 4294967296 + (gd xs (n - 2) : Nat) := or64i _ _ (gd xs (n - 1)) 32 (by omega) (by omega) (by omega) (by omega)
  have e3 : ((gd xs (n - 1) : Int) * 4294967296 + (gd xs (n - 2) : Nat)) * 2 ^ up = (((gd xs (n - 1) * 4294967296 + gd xs (n - 2)) * 2 ^ up : Nat) : Int) := by simp
  have x3 : IntKind.u64.wrap (((gd xs (n - 1) : Int) * 4294967296 + (gd xs (n - 2) : Nat)) * 2 ^ up) = ((gd xs (n - 1) : Int) * 4294967296 + (gd xs (n - 2) : Nat)) * 2 ^ up := wrap_u64_lt (by rw [e3]; omega) (by rw [e3]; have := Nat.two_pow_pos up; omega)
  have e4 : ((gd xs (n - 3) : Nat) : Int) / 2 ^ (32 - up) = ((gd xs (n - 3) / 2 ^ (32 - up) : Nat) : Int) := by simp
  have x4 : bits .or .u64 (((gd xs (n - 1) : Int) * 4294967296 + (gd xs (n - 2) : Nat)) * 2 ^ up) (((gd xs (n - 3) : Nat) : Int) / 2 ^ (32 - up)) = (((gd xs (n - 1) * 4294967296 + gd xs (n - 2)) * 2 ^ up + gd xs (n - 3) / 2 ^ (32 - up) : Nat) : Int) := by
    rw [e3, e4]
    clear e3 e4 x3
    generalize gd xs (n - 3) / 2 ^ (32 - up) = f at *
    rw [or64i _ _ (gd xs (n - 1) * 4294967296 + gd xs (n - 2)) up rfl (by omega) (by omega) (by omega)]
    omega
  have X4 := Lib.hid x4
  clear e3 e4 hS hF hq hP x4
  go_enter Try.func103, Try.ntmps103
  go_wp2
  go_quiet ((go_at_call 94; exact ((digit_any p l c _ xs _ (h.kept ((Fr.refl _ _).drewN _)) hl (by omega) (by omega)).mono fun _ _ hh => ⟨hh.1, _, hh.2.symm⟩)))
  go_wp2
  go_ret
  exact ⟨ret_int X4.out, (Fr.refl _ _).drewN _⟩

end Go.Proofs.Ytfjhdhmneknmkaa
