/- What the statements of this claim stand on: of Same, what they name -/
import Derived.Test.YtagciepnhjbopaaGreatDoorT31
import Derived.Test.YtagciepnhjbopaaGreatDoorT36

namespace Go.Proofs.YtagciepnhjbopaaGreatDoor
open Go.RowKit

set_option maxRecDepth 100000 in
set_option maxHeartbeats 400000 in
theorem rsame_ne (p q : Option Addr) (n m c d : Nat) (w : World) (_hnm : n ≠ m) :
    Calls Tryz.prog 104 #[.slice p n c, .slice q m d] w (RB false w) := by
  have hne : ((n : Int) != m) = true := by simp; omega
  go_enter Tryz.func104, Tryz.ntmps104
  go_wp2
  go_ret
  exact ⟨rfl, Fr.refl _ _⟩

set_option maxRecDepth 100000 in
set_option maxHeartbeats 400000 in
theorem rsame_eq (p q : Option Addr) (n c d : Nat) (xs ys : List Nat) (w : World) (h1 : Sl w p n c xs) (h2 : Sl w q n d ys) :
    Calls Tryz.prog 104 #[.slice p n c, .slice q n d] w (RB (decide (xs = ys)) w) := by
  have hx := h1.len
  have hy := h2.len
  have hc := h1.le
  have hm := h1.cap
  have hne : ((n : Int) != n) = false := by simp
  go_enter Tryz.func104, Tryz.ntmps104
  go_wp2
  go_loopw [5] (fun s wr => ∃ k : Nat, k ≤ n ∧ s = .int .i64 k ∧ Fr [] w wr ∧ ∀ j, j < k → gd xs j = gd ys j) (fun s _ => n - (intOf s).toNat)
  case atStart => exact ⟨0, Nat.zero_le _, rfl, Fr.refl _ _, fun j h => absurd h (Nat.not_lt_zero j)⟩
  case round =>
    obtain ⟨k, hk, rfl, hf, heq⟩ := hrel
    have Heq := Lib.hid heq
    clear heq
    have g1 := (h1.kept hf).rd
    have g2 := (h2.kept hf).rd
    have Hx := Lib.hid hx
    have Hy := Lib.hid hy
    by_cases hlt : k < n
    · obtain ⟨b1, o1, rfl, _, k1⟩ := g1.open (by omega)
      obtain ⟨b2, o2, rfl, _, k2⟩ := g2.open (by omega)
      have c1 := k1 k (by omega)
      have c2 := k2 k (by omega)
      clear h1 h2 hx hy
      obtain ⟨x, hx0⟩ : ∃ x, gd xs k = x := ⟨_, rfl⟩
      obtain ⟨y, hy0⟩ : ∃ y, gd ys k = y := ⟨_, rfl⟩
      rw [hx0] at c1
      rw [hy0] at c2
      have Hx0 := Lib.hid hx0
      have Hy0 := Lib.hid hy0
      clear k1 k2 hx0 hy0
      by_cases hxy : x = y
      · have hxx : ((x : Int) != y) = false := by simp; omega
        have Hxy := Lib.hid hxy
        clear hxy
        go_wp2
        go_quiet (fail)
        go_wp2
        go_roundw
        case rel => exact ⟨k + 1, by omega, by go_num, hf.drewN _, fun j hj => by
          by_cases h : j < k
          · exact Heq.out j h
          · obtain rfl : j = k := by omega
            rw [Hx0.out, Hy0.out, Hxy.out]⟩
        case measure => simp [intOf]; omega
      · have hxx : ((x : Int) != y) = true := by simp; omega
        have Hxy := Lib.hid hxy
        clear hxy
        go_wp2
        go_quiet (fail)
        go_wp2
        go_ret
        refine ⟨?_, hf.drewN _⟩
        have h : ¬ xs = ys := fun e => Hxy.out (by rw [← Hx0.out, ← Hy0.out, e])
        rw [decide_eq_false h]; rfl
    · clear h1 h2
      go_wp2
      go_ret
      refine ⟨?_, hf⟩
      have h : xs = ys := gd_ext (by rw [Hx.out, Hy.out]) (fun j hj => Heq.out j (by rw [Hx.out] at hj; omega))
      rw [decide_eq_true h]; rfl

theorem rsame_g {p q : Option Addr} {n m c d : Nat} {xs ys : List Nat} {w : World} (h1 : Sl w p n c xs) (h2 : Sl w q m d ys) :
    Calls Tryz.prog 104 #[.slice p n c, .slice q m d] w (RB (decide (xs = ys)) w) := by
  by_cases h : n = m
  · subst h; exact rsame_eq p q n c d xs ys w h1 h2
  · have e : ¬ xs = ys := fun e => h (by rw [← h1.len, ← h2.len, e])
    rw [decide_eq_false e]
    exact rsame_ne p q n m c d w h

theorem rsame_e {p q : Option Addr} {n m c d : Nat} {xs ys : List Nat} {w : World} {b : Bool} (hb : decide (xs = ys) = b) (h1 : Sl w p n c xs) (h2 : Sl w q m d ys) :
    Calls Tryz.prog 104 #[.slice p n c, .slice q m d] w (RB b w) := hb ▸ rsame_g h1 h2

end Go.Proofs.YtagciepnhjbopaaGreatDoor
