/- The document's own BitLen. -/
import Derived.Test.YtfjhdhmneknmkaaRef4
namespace Go.Proofs.Ytfjhdhmneknmkaa
open Go.RowKit

theorem bl_half {x : Nat} (h : x ≠ 0) : bl x = bl (x / 2) + 1 := by
  by_cases h1 : x = 1
  · rw [h1]; decide
  · have h2 : 2 ^ 1 ≤ x := by simp; omega
    have := bl_shift h2
    simpa using this
theorem bl_top {v : Nat} (h : v ≠ 0) : bl v = bl (gd (dg v) ((dg v).length - 1)) + 32 * ((dg v).length - 1) := by
  have h1 := dg_ge h
  have hl : (dg v).length ≠ 0 := fun e => h (dg_nil.1 (List.eq_nil_of_length_eq_zero e))
  rw [pB_two] at h1
  have h2 := val_drop_div (Dg_dg v) ((dg v).length - 1)
  rw [val_dg, pB_two, drop_cons_gd (by omega), List.drop_of_length_le (by omega), val_one] at h2
  rw [bl_shift h1, h2]

set_option maxRecDepth 100000 in
set_option maxHeartbeats 1000000 in
theorem rbitlen_any (p : Option Addr) (n c : Nat) (xs : List Nat) (w : World) (h : Sl w p n c xs) (hn : n ≤ 1099511627776) :
    Calls Try.prog 20 #[.slice p n c] w fun e w' => e = .returned (.int .i64 (bl (val xs) : Nat)) ∧ Fr [] w w' := by
  have l1 := dg_len_val h.dig
  rw [h.len] at l1
  go_enter Try.func20, Try.ntmps20
  go_wp2_with fail
  refine (rcut_any _ _ _ _ _ h hn).mono ?_
  rintro e w1 ⟨p1, c1, rfl, o1, f1⟩
  have s1 := o1.sl
  clear h o1
  by_cases h0 : val xs = 0
  · have e1 : (dg (val xs)).length = 0 := by rw [h0, dg_zero]; rfl
    have e2 : bl (val xs) = 0 := by rw [h0]; rfl
    have E2 := Lib.hid e2
    rw [e1]
    clear e1 e2 h0 s1
    go_wp2
    go_ret
    rw [E2.out]
    exact ⟨rfl, f1⟩
  · have hlz : (dg (val xs)).length ≠ 0 := fun e => h0 (dg_nil.1 (List.eq_nil_of_length_eq_zero e))
    obtain ⟨L, hL⟩ : ∃ L, (dg (val xs)).length = L + 1 := ⟨(dg (val xs)).length - 1, by omega⟩
    have hb := bl_top h0
    rw [hL, Nat.add_sub_cancel] at hb
    obtain ⟨b, off, rfl, _, hcell⟩ := s1.rd.open (by omega)
    have hck := hcell L (by omega)
    have hd := s1.dig.at L
    rw [hL]
    generalize gd (dg (val xs)) L = top at *
    have HB := Lib.hid hb
    have hbd : L < 1099511627776 := by omega
    clear hcell hb hL s1 h0 hlz l1
    go_wp2
    go_loop [3, 4] (fun s t => ∃ x j : Nat, s = .int .i64 ((32 * L + j : Nat) : Int) ∧ t = .int .u32 x ∧ bl top = bl x + j ∧ x < 4294967296) (fun _ t => (intOf t).toNat)
    case atStart => exact ⟨top, 0, rfl, rfl, rfl, hd⟩
    case round =>
      obtain ⟨x, j, rfl, rfl, hbl, hx⟩ := hrel
      have hj := bl_le (x := top) (n := 32) (by omega)
      have HBl := Lib.hid hbl
      have hj2 : j ≤ 32 := by omega
      clear hbl
      by_cases hz : x = 0
      · have hfin : bl (val xs) = 32 * L + j := by
          have h1 := HBl.out
          have h2 := HB.out
          rw [hz] at h1
          have h3 : bl 0 = 0 := rfl
          omega
        have HF := Lib.hid hfin
        subst hz
        clear hfin
        go_wp2
        go_ret
        rw [HF.out]
        exact ⟨rfl, f1⟩
      · have hpos : 0 < x := by omega
        have hN : Hid (bl top = bl (x / 2) + (j + 1)) := by
          show _ = _
          rw [HBl.out, bl_half hz]
          omega
        clear hz
        go_wp2
        go_round
        case rel => exact ⟨x / 2, j + 1, congrArg (Value.int .i64) (by omega), congrArg (Value.int .u32) (by omega), hN.out, by omega⟩
        case measure => simp [intOf]; omega

end Go.Proofs.Ytfjhdhmneknmkaa
