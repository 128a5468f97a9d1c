/- What the statements of this claim stand on: of Txt2, Txt4, Int12, Int13, what they name -/
import Derived.ChangeMaps5
import Derived.Deep.RegionWith
import Derived.WalkMore
import Derived.Test.YtagciepnhjbopaaGreatDoorA11
import Derived.Test.YtagciepnhjbopaaGreatDoorA16

namespace Go.Proofs.YtagciepnhjbopaaGreatDoor
open Go.RowKit

def by' (s : ByteArray) (k : Nat) : Nat := (s.data.toList.getD k 0).toNat

def Good (s : ByteArray) : Prop := s.size ≠ 0 ∧ (by' s 0 = 48 → s.size = 1) ∧ ∀ j, j < s.size → 48 ≤ by' s j ∧ by' s j ≤ 57

end Go.Proofs.YtagciepnhjbopaaGreatDoor

namespace Go.Proofs.YtagciepnhjbopaaGreatDoor
open Go.RowKit

open Classical in

open Classical in

noncomputable def pre (s : ByteArray) : Int := if Good s then 0 else 6

end Go.Proofs.YtagciepnhjbopaaGreatDoor

namespace Go.Proofs.YtagciepnhjbopaaGreatDoor
open Go.RowKit

set_option maxRecDepth 100000 in
set_option maxHeartbeats 2000000 in
theorem ivalid_false_false_z (p : Option Addr) (n c : Nat) (xs : List Nat) (w : World) (h1 : Sl w p n c xs) (_hn : n ≤ 1048576) (hb : nmb xs = false) (hz : n = 0) :
    Calls Tryz.prog 105 #[iw false p n c] w (fun e w' => e = .returned (.bool false) ∧ Fr [] w w') := by
  have HB := Lib.hid hb
  clear hb
  subst hz
  have d1 : ((0 : Int) == 0) = true := rfl
  have d2 : decide ((0 : Int) < 0) = false := rfl
  have d3 : (((0 : Nat) : Int) == 0) = true := rfl
  go_enter Tryz.func105, Tryz.ntmps105
  go_wp2_with fail
  have g_h1 := h1
  have hw : Fr [] w (w.alloc (Obj.cells #[.bool false, .slice p 0 c] 24)) := (Fr.refl _ _).alloc _
  have b0 : Bx (w.alloc (Obj.cells #[.bool false, .slice p 0 c] 24)) w.heap.size 24 #[.bool false, .slice p 0 c] := (Bx.made' (by simp) _ _).kept (Fr.refl _ _)
  generalize (w.alloc (Obj.cells #[.bool false, .slice p 0 c] 24)) = W at *
  have hbs := b0.lt
  replace h1 := h1.kept hw
  replace h1 := h1
  have c_b0_0 := b0.cell (j := 0) rfl
  have f_b0_0 := b0.free 0
  have c_b0_1 := b0.cell (j := 1) rfl
  have f_b0_1 := b0.free 1
  go_wp2_with fail
  refine (isnormal_any _ _ _ _ _ h1 (by omega)).mono ?_
  rw [HB.out]
  rintro e w' ⟨rfl, rfl⟩
  go_wp2
  go_ret
  exact ⟨rfl, hw⟩

set_option maxRecDepth 100000 in
set_option maxHeartbeats 2000000 in
theorem ivalid_false_false_p (p : Option Addr) (n c : Nat) (xs : List Nat) (w : World) (h1 : Sl w p n c xs) (_hn : n ≤ 1048576) (hb : nmb xs = false) (hz : 0 < n) :
    Calls Tryz.prog 105 #[iw false p n c] w (fun e w' => e = .returned (.bool false) ∧ Fr [] w w') := by
  have HB := Lib.hid hb
  clear hb
  have d1 : ((n : Int) == 0) = false := beq_eq_false_iff_ne.2 (by omega)
  have d2 : decide (0 < n) = true := decide_eq_true hz
  go_enter Tryz.func105, Tryz.ntmps105
  go_wp2_with fail
  have g_h1 := h1
  have hw : Fr [] w (w.alloc (Obj.cells #[.bool false, .slice p n c] 24)) := (Fr.refl _ _).alloc _
  have b0 : Bx (w.alloc (Obj.cells #[.bool false, .slice p n c] 24)) w.heap.size 24 #[.bool false, .slice p n c] := (Bx.made' (by simp) _ _).kept (Fr.refl _ _)
  generalize (w.alloc (Obj.cells #[.bool false, .slice p n c] 24)) = W at *
  have hbs := b0.lt
  replace h1 := h1.kept hw
  replace h1 := h1
  have c_b0_0 := b0.cell (j := 0) rfl
  have f_b0_0 := b0.free 0
  have c_b0_1 := b0.cell (j := 1) rfl
  have f_b0_1 := b0.free 1
  go_wp2_with fail
  refine (isnormal_any _ _ _ _ _ h1 (by omega)).mono ?_
  rw [HB.out]
  rintro e w' ⟨rfl, rfl⟩
  go_wp2
  go_ret
  exact ⟨rfl, hw⟩

set_option maxRecDepth 100000 in
set_option maxHeartbeats 2000000 in
theorem ivalid_false_true_z (p : Option Addr) (n c : Nat) (xs : List Nat) (w : World) (h1 : Sl w p n c xs) (_hn : n ≤ 1048576) (hb : nmb xs = true) (hz : n = 0) :
    Calls Tryz.prog 105 #[iw false p n c] w (fun e w' => e = .returned (.bool true) ∧ Fr [] w w') := by
  have HB := Lib.hid hb
  clear hb
  subst hz
  have d1 : ((0 : Int) == 0) = true := rfl
  have d2 : decide ((0 : Int) < 0) = false := rfl
  have d3 : (((0 : Nat) : Int) == 0) = true := rfl
  go_enter Tryz.func105, Tryz.ntmps105
  go_wp2_with fail
  have g_h1 := h1
  have hw : Fr [] w (w.alloc (Obj.cells #[.bool false, .slice p 0 c] 24)) := (Fr.refl _ _).alloc _
  have b0 : Bx (w.alloc (Obj.cells #[.bool false, .slice p 0 c] 24)) w.heap.size 24 #[.bool false, .slice p 0 c] := (Bx.made' (by simp) _ _).kept (Fr.refl _ _)
  generalize (w.alloc (Obj.cells #[.bool false, .slice p 0 c] 24)) = W at *
  have hbs := b0.lt
  replace h1 := h1.kept hw
  replace h1 := h1
  have c_b0_0 := b0.cell (j := 0) rfl
  have f_b0_0 := b0.free 0
  have c_b0_1 := b0.cell (j := 1) rfl
  have f_b0_1 := b0.free 1
  go_wp2_with fail
  refine (isnormal_any _ _ _ _ _ h1 (by omega)).mono ?_
  rw [HB.out]
  rintro e w' ⟨rfl, rfl⟩
  go_wp2
  go_ret
  exact ⟨rfl, hw⟩

set_option maxRecDepth 100000 in
set_option maxHeartbeats 2000000 in
theorem ivalid_false_true_p (p : Option Addr) (n c : Nat) (xs : List Nat) (w : World) (h1 : Sl w p n c xs) (_hn : n ≤ 1048576) (hb : nmb xs = true) (hz : 0 < n) :
    Calls Tryz.prog 105 #[iw false p n c] w (fun e w' => e = .returned (.bool true) ∧ Fr [] w w') := by
  have HB := Lib.hid hb
  clear hb
  have d1 : ((n : Int) == 0) = false := beq_eq_false_iff_ne.2 (by omega)
  have d2 : decide (0 < n) = true := decide_eq_true hz
  go_enter Tryz.func105, Tryz.ntmps105
  go_wp2_with fail
  have g_h1 := h1
  have hw : Fr [] w (w.alloc (Obj.cells #[.bool false, .slice p n c] 24)) := (Fr.refl _ _).alloc _
  have b0 : Bx (w.alloc (Obj.cells #[.bool false, .slice p n c] 24)) w.heap.size 24 #[.bool false, .slice p n c] := (Bx.made' (by simp) _ _).kept (Fr.refl _ _)
  generalize (w.alloc (Obj.cells #[.bool false, .slice p n c] 24)) = W at *
  have hbs := b0.lt
  replace h1 := h1.kept hw
  replace h1 := h1
  have c_b0_0 := b0.cell (j := 0) rfl
  have f_b0_0 := b0.free 0
  have c_b0_1 := b0.cell (j := 1) rfl
  have f_b0_1 := b0.free 1
  go_wp2_with fail
  refine (isnormal_any _ _ _ _ _ h1 (by omega)).mono ?_
  rw [HB.out]
  rintro e w' ⟨rfl, rfl⟩
  go_wp2
  go_ret
  exact ⟨rfl, hw⟩

set_option maxRecDepth 100000 in
set_option maxHeartbeats 2000000 in
theorem ivalid_true_false_z (p : Option Addr) (n c : Nat) (xs : List Nat) (w : World) (h1 : Sl w p n c xs) (_hn : n ≤ 1048576) (hb : nmb xs = false) (hz : n = 0) :
    Calls Tryz.prog 105 #[iw true p n c] w (fun e w' => e = .returned (.bool false) ∧ Fr [] w w') := by
  have HB := Lib.hid hb
  clear hb
  subst hz
  have d1 : ((0 : Int) == 0) = true := rfl
  have d2 : decide ((0 : Int) < 0) = false := rfl
  have d3 : (((0 : Nat) : Int) == 0) = true := rfl
  go_enter Tryz.func105, Tryz.ntmps105
  go_wp2_with fail
  have g_h1 := h1
  have hw : Fr [] w (w.alloc (Obj.cells #[.bool true, .slice p 0 c] 24)) := (Fr.refl _ _).alloc _
  have b0 : Bx (w.alloc (Obj.cells #[.bool true, .slice p 0 c] 24)) w.heap.size 24 #[.bool true, .slice p 0 c] := (Bx.made' (by simp) _ _).kept (Fr.refl _ _)
  generalize (w.alloc (Obj.cells #[.bool true, .slice p 0 c] 24)) = W at *
  have hbs := b0.lt
  replace h1 := h1.kept hw
  replace h1 := h1
  have c_b0_0 := b0.cell (j := 0) rfl
  have f_b0_0 := b0.free 0
  have c_b0_1 := b0.cell (j := 1) rfl
  have f_b0_1 := b0.free 1
  go_wp2_with fail
  refine (isnormal_any _ _ _ _ _ h1 (by omega)).mono ?_
  rw [HB.out]
  rintro e w' ⟨rfl, rfl⟩
  go_wp2
  go_ret
  exact ⟨rfl, hw⟩

set_option maxRecDepth 100000 in
set_option maxHeartbeats 2000000 in
theorem ivalid_true_false_p (p : Option Addr) (n c : Nat) (xs : List Nat) (w : World) (h1 : Sl w p n c xs) (_hn : n ≤ 1048576) (hb : nmb xs = false) (hz : 0 < n) :
    Calls Tryz.prog 105 #[iw true p n c] w (fun e w' => e = .returned (.bool false) ∧ Fr [] w w') := by
  have HB := Lib.hid hb
  clear hb
  have d1 : ((n : Int) == 0) = false := beq_eq_false_iff_ne.2 (by omega)
  have d2 : decide (0 < n) = true := decide_eq_true hz
  go_enter Tryz.func105, Tryz.ntmps105
  go_wp2_with fail
  have g_h1 := h1
  have hw : Fr [] w (w.alloc (Obj.cells #[.bool true, .slice p n c] 24)) := (Fr.refl _ _).alloc _
  have b0 : Bx (w.alloc (Obj.cells #[.bool true, .slice p n c] 24)) w.heap.size 24 #[.bool true, .slice p n c] := (Bx.made' (by simp) _ _).kept (Fr.refl _ _)
  generalize (w.alloc (Obj.cells #[.bool true, .slice p n c] 24)) = W at *
  have hbs := b0.lt
  replace h1 := h1.kept hw
  replace h1 := h1
  have c_b0_0 := b0.cell (j := 0) rfl
  have f_b0_0 := b0.free 0
  have c_b0_1 := b0.cell (j := 1) rfl
  have f_b0_1 := b0.free 1
  go_wp2_with fail
  refine (isnormal_any _ _ _ _ _ h1 (by omega)).mono ?_
  rw [HB.out]
  rintro e w' ⟨rfl, rfl⟩
  go_wp2
  go_ret
  exact ⟨rfl, hw⟩

set_option maxRecDepth 100000 in
set_option maxHeartbeats 2000000 in
theorem ivalid_true_true_z (p : Option Addr) (n c : Nat) (xs : List Nat) (w : World) (h1 : Sl w p n c xs) (_hn : n ≤ 1048576) (hb : nmb xs = true) (hz : n = 0) :
    Calls Tryz.prog 105 #[iw true p n c] w (fun e w' => e = .returned (.bool false) ∧ Fr [] w w') := by
  have HB := Lib.hid hb
  clear hb
  subst hz
  have d1 : ((0 : Int) == 0) = true := rfl
  have d2 : decide ((0 : Int) < 0) = false := rfl
  have d3 : (((0 : Nat) : Int) == 0) = true := rfl
  go_enter Tryz.func105, Tryz.ntmps105
  go_wp2_with fail
  have g_h1 := h1
  have hw : Fr [] w (w.alloc (Obj.cells #[.bool true, .slice p 0 c] 24)) := (Fr.refl _ _).alloc _
  have b0 : Bx (w.alloc (Obj.cells #[.bool true, .slice p 0 c] 24)) w.heap.size 24 #[.bool true, .slice p 0 c] := (Bx.made' (by simp) _ _).kept (Fr.refl _ _)
  generalize (w.alloc (Obj.cells #[.bool true, .slice p 0 c] 24)) = W at *
  have hbs := b0.lt
  replace h1 := h1.kept hw
  replace h1 := h1
  have c_b0_0 := b0.cell (j := 0) rfl
  have f_b0_0 := b0.free 0
  have c_b0_1 := b0.cell (j := 1) rfl
  have f_b0_1 := b0.free 1
  go_wp2_with fail
  refine (isnormal_any _ _ _ _ _ h1 (by omega)).mono ?_
  rw [HB.out]
  rintro e w' ⟨rfl, rfl⟩
  go_wp2
  go_ret
  exact ⟨rfl, hw⟩

set_option maxRecDepth 100000 in
set_option maxHeartbeats 2000000 in
theorem ivalid_true_true_p (p : Option Addr) (n c : Nat) (xs : List Nat) (w : World) (h1 : Sl w p n c xs) (_hn : n ≤ 1048576) (hb : nmb xs = true) (hz : 0 < n) :
    Calls Tryz.prog 105 #[iw true p n c] w (fun e w' => e = .returned (.bool true) ∧ Fr [] w w') := by
  have HB := Lib.hid hb
  clear hb
  have d1 : ((n : Int) == 0) = false := beq_eq_false_iff_ne.2 (by omega)
  have d2 : decide (0 < n) = true := decide_eq_true hz
  go_enter Tryz.func105, Tryz.ntmps105
  go_wp2_with fail
  have g_h1 := h1
  have hw : Fr [] w (w.alloc (Obj.cells #[.bool true, .slice p n c] 24)) := (Fr.refl _ _).alloc _
  have b0 : Bx (w.alloc (Obj.cells #[.bool true, .slice p n c] 24)) w.heap.size 24 #[.bool true, .slice p n c] := (Bx.made' (by simp) _ _).kept (Fr.refl _ _)
  generalize (w.alloc (Obj.cells #[.bool true, .slice p n c] 24)) = W at *
  have hbs := b0.lt
  replace h1 := h1.kept hw
  replace h1 := h1
  have c_b0_0 := b0.cell (j := 0) rfl
  have f_b0_0 := b0.free 0
  have c_b0_1 := b0.cell (j := 1) rfl
  have f_b0_1 := b0.free 1
  go_wp2_with fail
  refine (isnormal_any _ _ _ _ _ h1 (by omega)).mono ?_
  rw [HB.out]
  rintro e w' ⟨rfl, rfl⟩
  go_wp2
  go_ret
  exact ⟨rfl, hw⟩

theorem ivalid_any (g : Bool) (p : Option Addr) (n c : Nat) (xs : List Nat) (w : World) (h1 : Sl w p n c xs) (hn : n ≤ 1048576) : Calls Tryz.prog 105 #[iw g p n c] w fun e w' => e = .returned (.bool (nmb xs && !(g && decide (n = 0)))) ∧ Fr [] w w' := by
  cases hb : nmb xs <;> cases g <;> by_cases hz : n = 0
  · rw [decide_eq_true hz]; exact ivalid_false_false_z p n c xs w h1 hn hb hz
  · rw [decide_eq_false hz]; exact ivalid_false_false_p p n c xs w h1 hn hb (by omega)
  · rw [decide_eq_true hz]; exact ivalid_true_false_z p n c xs w h1 hn hb hz
  · rw [decide_eq_false hz]; exact ivalid_true_false_p p n c xs w h1 hn hb (by omega)
  · rw [decide_eq_true hz]; exact ivalid_false_true_z p n c xs w h1 hn hb hz
  · rw [decide_eq_false hz]; exact ivalid_false_true_p p n c xs w h1 hn hb (by omega)
  · rw [decide_eq_true hz]; exact ivalid_true_true_z p n c xs w h1 hn hb hz
  · rw [decide_eq_false hz]; exact ivalid_true_true_p p n c xs w h1 hn hb (by omega)

end Go.Proofs.YtagciepnhjbopaaGreatDoor

namespace Go.Proofs.YtagciepnhjbopaaGreatDoor
open Go.RowKit

theorem calls_rd {P : Program} {f : FuncId} {vs : Array Value} {w : World} {z y : Int} (h : Calls P f vs w (RetD w z y)) {b b' : Bool} {m m' : Nat} (hb : decide (z < 0) = b) (hm : z.natAbs = m) (hb' : decide (y < 0) = b') (hm' : y.natAbs = m') :
    Calls P f vs w fun e w' => ∃ p c p' c', e = .returned (.tuple #[iw b p (dg m).length c, iw b' p' (dg m').length c', .int .i64 0]) ∧ Ow w' w.heap.size p (dg m).length c (dg m) ∧ Ow w' w.heap.size p' (dg m').length c' (dg m') ∧ Fr [] w w' := by
  subst hb
  subst hm
  subst hb'
  subst hm'
  exact h

end Go.Proofs.YtagciepnhjbopaaGreatDoor
