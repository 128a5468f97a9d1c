/- nat.cut, nat.normal -/
import Derived.Test.YtfjhdhmneknmkaaBase
namespace Go.Proofs.Ytfjhdhmneknmkaa
open Go.RowKit

theorem ret_slice {p : Option Addr} {n n' c : Nat} (h : n = n') : Ending.returned (.slice p n c) = .returned (.slice p n' c) := by rw [h]

set_option maxRecDepth 100000 in
set_option maxHeartbeats 400000 in
theorem cut_raw (p : Option Addr) (n c : Nat) (xs : List Nat) (w : World) (h : Sl w p n c xs) :
    Calls Try.prog 68 #[.slice p n c] w fun e w' => e = .returned (.slice p (cutN xs n) c) ∧ w = w' := by
  have hx := h.len
  have hc := h.le
  have hm := h.cap
  have hp := fun h' => Rd.open h.rd h'
  clear h
  go_enter Try.func68, Try.ntmps68
  go_wp2
  go_loop [3] (fun s => ∃ k : Nat, k ≤ n ∧ s = .int .i64 k ∧ cutN xs k = cutN xs n) (fun s => (intOf s).toNat)
  case atStart => exact ⟨n, Nat.le_refl _, rfl, rfl⟩
  case round =>
    obtain ⟨k, hk, rfl, hn0⟩ := hrel
    have hn := Lib.hid hn0
    clear hn0
    cases k with
    | zero =>
      go_wp2
      go_ret
      exact ⟨ret_slice hn.out, rfl⟩
    | succ k =>
      obtain ⟨b, off, rfl, _, hcell⟩ := hp (by omega)
      have hck := hcell k (by omega)
      by_cases hz : gd xs k = 0
      · have hz' := Lib.hid hz
        rw [hz] at hck
        clear hcell hz
        go_wp2
        go_round
        case rel => exact ⟨k, by omega, rfl, by rw [← hn.out, cutN_z hz'.out]⟩
        case measure => simp [intOf]
      · have hz' : Hid (cutN xs (k + 1) = k + 1) := cutN_nz hz
        generalize gd xs k = x at *
        go_wp2
        go_ret
        exact ⟨ret_slice (hz'.out.symm.trans hn.out), rfl⟩

theorem cut_any (p : Option Addr) (n c : Nat) (xs : List Nat) (w : World) (h : Sl w p n c xs) :
    Calls Try.prog 68 #[.slice p n c] w fun e w' => e = .returned (.slice p (dg (val xs)).length c) ∧ w = w' :=
  (cut_raw p n c xs w h).mono fun e w' ⟨h1, h2⟩ => ⟨h1.trans (ret_slice (by rw [← h.len, cutN_len h.dig])), h2⟩

end Go.Proofs.Ytfjhdhmneknmkaa
