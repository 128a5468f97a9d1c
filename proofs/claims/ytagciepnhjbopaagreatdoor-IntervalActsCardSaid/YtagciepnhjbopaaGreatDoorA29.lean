/- What the statements of this claim stand on: of Rat15, what they name -/
import Derived.Laws.Externs
import Derived.Lib.Bytealg
import Derived.Test.YtagciepnhjbopaaGreatDoorA26
import Derived.Test.YtagciepnhjbopaaGreatDoorA28

namespace Go.Proofs.YtagciepnhjbopaaGreatDoor
open Go.RowKit

theorem dg_one_iff {x : Nat} {y : Nat} (h : dg x = [y]) : x = y := by
  have := val_dg x
  rw [h] at this
  rw [← this]
  simp [val]

set_option maxRecDepth 100000 in
set_option maxHeartbeats 1000000 in
theorem isone_v {w : World} {x : Nat} {u : Value} (h : VD w x u) : Calls Tryz.prog 107 #[u] w (RB (decide (x = 1)) w) := by
  obtain ⟨p, c, rfl, s⟩ := h
  by_cases h1 : (dg x).length = 1
  · obtain ⟨y, hy⟩ := List.length_eq_one_iff.1 h1
    have hxy := dg_one_iff hy
    rw [hy] at s ⊢
    obtain ⟨b, off, rfl, _, hcell⟩ := s.rd.open (Nat.succ_pos _)
    have hc0 := hcell 0 (Nat.succ_pos _)
    have hd : decide (x = 1) = ((y : Int) == 1) := by
      rw [hxy]
      by_cases e : y = 1
      · rw [e]; rfl
      · rw [decide_eq_false e]; exact (beq_eq_false_iff_ne.2 (by omega)).symm
    rw [hd]
    obtain ⟨bb, hbb⟩ : ∃ b, ((y : Int) == 1) = b := ⟨_, rfl⟩
    rw [hbb]
    have hlc : (1 : Int) ≤ (c : Int) := by have := s.le; simp at this; omega
    have hx0 : gd [y] 0 = y := rfl
    rw [hx0, Nat.add_zero] at hc0
    clear hd hxy hcell h1 hy s hx0
    go_enter Tryz.func107, Tryz.ntmps107
    go_wp2_with fail
    go_ret
    exact ⟨rfl, Fr.refl _ _⟩
  · have hx : decide (x = 1) = false := decide_eq_false (fun e => h1 (by rw [e, dg_one]; rfl))
    have ht : (((dg x).length : Int) == 1) = false := beq_eq_false_iff_ne.2 (by omega)
    rw [hx]
    clear hx h1 s
    go_enter Tryz.func107, Tryz.ntmps107
    go_wp2_with fail
    go_ret
    exact ⟨rfl, Fr.refl _ _⟩

theorem isone_e {w : World} {x : Nat} {b : Bool} {u : Value} (hb : decide (x = 1) = b) (h : VD w x u) : Calls Tryz.prog 107 #[u] w (RB b w) := hb ▸ isone_v h

end Go.Proofs.YtagciepnhjbopaaGreatDoor
