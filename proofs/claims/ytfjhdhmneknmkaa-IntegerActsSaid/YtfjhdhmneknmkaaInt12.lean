/- Integers: Format, Valid of the program and of the document. Written by wip/gen/gen_int12.py. -/
import Derived.Test.YtfjhdhmneknmkaaInt11
import Derived.Test.YtfjhdhmneknmkaaTxt4
namespace Go.Proofs.Ytfjhdhmneknmkaa
open Go.RowKit

theorem sign_dec {z : Int} {s : Bool} (h : decide (z < 0) = s) : decide (z.sign < 0) = s := by
  rw [← h]
  apply decide_eq_decide.2
  by_cases h0 : z < 0
  · rw [Int.sign_eq_neg_one_of_neg h0]; omega
  · by_cases h1 : z = 0
    · rw [h1]; decide
    · rw [Int.sign_eq_one_of_pos (by omega)]; omega

set_option maxRecDepth 100000 in
set_option maxHeartbeats 2000000 in
theorem iformat_false (g : Bool) (p : Option Addr) (n c : Nat) (xs : List Nat) (w : World) (h1 : Sl w p n c xs) (hn : n ≤ 1048576) (hb : decide (iv g (val xs) < 0) = false) (hz : (txt (fmt (val xs))).size ≤ 4096) :
    Calls Try.prog 57 #[iw g p n c] w (fun e w' => e = .returned (.string (txt (fmt (val xs)))) ∧ Fr [] w w') := by
  have HB := Lib.hid hb
  clear hb
  have hz2 : ¬ 9223372036854775807 < 1 + (txt (fmt (val xs))).size := by omega
  go_enter Try.func57, Try.ntmps57
  go_wp2_with fail
  have g_h1 := h1
  have hw : Fr [] w (w.alloc (Obj.cells #[.bool g, .slice p n c] 40)) := (Fr.refl _ _).alloc _
  have b0 : Bx (w.alloc (Obj.cells #[.bool g, .slice p n c] 40)) w.heap.size 40 #[.bool g, .slice p n c] := (Bx.made' (by simp) _ _).kept (Fr.refl _ _)
  generalize (w.alloc (Obj.cells #[.bool g, .slice p n c] 40)) = W at *
  have hbs := b0.lt
  replace h1 := h1.kept hw
  have c_b0_0 := b0.cell (j := 0) rfl
  have f_b0_0 := b0.free 0
  have c_b0_1 := b0.cell (j := 1) rfl
  have f_b0_1 := b0.free 1
  go_wp2_with fail
  clear c_b0_0 f_b0_0 c_b0_1 f_b0_1
  refine (format_any _ _ _ _ _ h1 (by omega)).mono ?_
  rintro e V1 ⟨rfl, ff⟩
  have hsz1 := ff.size
  replace hw := hw.trans ff (by simp)
  replace h1 := h1.kept ff
  replace b0 := b0.kept ff
  clear ff
  have c_b0_0 := b0.cell (j := 0) rfl
  have f_b0_0 := b0.free 0
  have c_b0_1 := b0.cell (j := 1) rfl
  have f_b0_1 := b0.free 1
  go_wp2_with fail
  clear c_b0_0 f_b0_0 c_b0_1 f_b0_1
  refine (isneg_any _ _ _ _ _ _ h1 (by omega)).mono ?_
  rw [HB.out]
  rintro e V2 ⟨rfl, ff⟩
  have hsz2 := ff.size
  replace hw := hw.trans ff (by simp)
  replace h1 := h1.kept ff
  replace b0 := b0.kept ff
  clear ff
  have c_b0_0 := b0.cell (j := 0) rfl
  have f_b0_0 := b0.free 0
  have c_b0_1 := b0.cell (j := 1) rfl
  have f_b0_1 := b0.free 1
  go_wp2
  go_ret
  exact ⟨rfl, hw⟩

set_option maxRecDepth 100000 in
set_option maxHeartbeats 2000000 in
theorem rformat_false (g : Bool) (p : Option Addr) (n c : Nat) (xs : List Nat) (w : World) (h1 : Sl w p n c xs) (hn : n ≤ 1048576) (hb : decide (iv g (val xs) < 0) = false) (hz : (txt (fmt (val xs))).size ≤ 4096) :
    Calls Try.prog 58 #[iw g p n c] w (fun e w' => e = .returned (.string (txt (fmt (val xs)))) ∧ Fr [] w w') := by
  have hs : decide ((iv g (val xs)).sign < 0) = false := sign_dec hb
  have hz2 : ¬ 9223372036854775807 < 1 + (txt (fmt (val xs))).size := by omega
  go_enter Try.func58, Try.ntmps58
  go_wp2_with fail
  have g_h1 := h1
  have hw : Fr [] w (w.alloc (Obj.cells #[.bool g, .slice p n c] 40)) := (Fr.refl _ _).alloc _
  have b0 : Bx (w.alloc (Obj.cells #[.bool g, .slice p n c] 40)) w.heap.size 40 #[.bool g, .slice p n c] := (Bx.made' (by simp) _ _).kept (Fr.refl _ _)
  generalize (w.alloc (Obj.cells #[.bool g, .slice p n c] 40)) = W at *
  have hbs := b0.lt
  replace h1 := h1.kept hw
  have c_b0_0 := b0.cell (j := 0) rfl
  have f_b0_0 := b0.free 0
  have c_b0_1 := b0.cell (j := 1) rfl
  have f_b0_1 := b0.free 1
  go_wp2_with fail
  clear c_b0_0 f_b0_0 c_b0_1 f_b0_1
  refine (rsign_any _ _ _ _ _ _ h1 hn).mono ?_
  rintro e V1 ⟨rfl, ff⟩
  have hsz1 := ff.size
  replace hw := hw.trans ff (by simp)
  replace h1 := h1.kept ff
  replace b0 := b0.kept ff
  clear ff
  have c_b0_0 := b0.cell (j := 0) rfl
  have f_b0_0 := b0.free 0
  have c_b0_1 := b0.cell (j := 1) rfl
  have f_b0_1 := b0.free 1
  go_wp2_with fail
  clear c_b0_0 f_b0_0 c_b0_1 f_b0_1
  refine (rformat_any _ _ _ _ _ h1 (by omega)).mono ?_
  rintro e V2 ⟨rfl, ff⟩
  have hsz2 := ff.size
  replace hw := hw.trans ff (by simp)
  replace h1 := h1.kept ff
  replace b0 := b0.kept ff
  clear ff
  have c_b0_0 := b0.cell (j := 0) rfl
  have f_b0_0 := b0.free 0
  have c_b0_1 := b0.cell (j := 1) rfl
  have f_b0_1 := b0.free 1
  go_wp2
  go_ret
  exact ⟨rfl, hw⟩

set_option maxRecDepth 100000 in
set_option maxHeartbeats 2000000 in
theorem iformat_true (g : Bool) (p : Option Addr) (n c : Nat) (xs : List Nat) (w : World) (h1 : Sl w p n c xs) (hn : n ≤ 1048576) (hb : decide (iv g (val xs) < 0) = true) (hz : (txt (fmt (val xs))).size ≤ 4096) :
    Calls Try.prog 57 #[iw g p n c] w (fun e w' => e = .returned (.string (({ data := #[45] } : ByteArray) ++ txt (fmt (val xs)))) ∧ Fr [] w w') := by
  have HB := Lib.hid hb
  clear hb
  have hz2 : ¬ 9223372036854775807 < 1 + (txt (fmt (val xs))).size := by omega
  go_enter Try.func57, Try.ntmps57
  go_wp2_with fail
  have g_h1 := h1
  have hw : Fr [] w (w.alloc (Obj.cells #[.bool g, .slice p n c] 40)) := (Fr.refl _ _).alloc _
  have b0 : Bx (w.alloc (Obj.cells #[.bool g, .slice p n c] 40)) w.heap.size 40 #[.bool g, .slice p n c] := (Bx.made' (by simp) _ _).kept (Fr.refl _ _)
  generalize (w.alloc (Obj.cells #[.bool g, .slice p n c] 40)) = W at *
  have hbs := b0.lt
  replace h1 := h1.kept hw
  have c_b0_0 := b0.cell (j := 0) rfl
  have f_b0_0 := b0.free 0
  have c_b0_1 := b0.cell (j := 1) rfl
  have f_b0_1 := b0.free 1
  go_wp2_with fail
  clear c_b0_0 f_b0_0 c_b0_1 f_b0_1
  refine (format_any _ _ _ _ _ h1 (by omega)).mono ?_
  rintro e V1 ⟨rfl, ff⟩
  have hsz1 := ff.size
  replace hw := hw.trans ff (by simp)
  replace h1 := h1.kept ff
  replace b0 := b0.kept ff
  clear ff
  have c_b0_0 := b0.cell (j := 0) rfl
  have f_b0_0 := b0.free 0
  have c_b0_1 := b0.cell (j := 1) rfl
  have f_b0_1 := b0.free 1
  go_wp2_with fail
  clear c_b0_0 f_b0_0 c_b0_1 f_b0_1
  refine (isneg_any _ _ _ _ _ _ h1 (by omega)).mono ?_
  rw [HB.out]
  rintro e V2 ⟨rfl, ff⟩
  have hsz2 := ff.size
  replace hw := hw.trans ff (by simp)
  replace h1 := h1.kept ff
  replace b0 := b0.kept ff
  clear ff
  have c_b0_0 := b0.cell (j := 0) rfl
  have f_b0_0 := b0.free 0
  have c_b0_1 := b0.cell (j := 1) rfl
  have f_b0_1 := b0.free 1
  go_wp2
  go_ret
  exact ⟨rfl, hw⟩

set_option maxRecDepth 100000 in
set_option maxHeartbeats 2000000 in
theorem rformat_true (g : Bool) (p : Option Addr) (n c : Nat) (xs : List Nat) (w : World) (h1 : Sl w p n c xs) (hn : n ≤ 1048576) (hb : decide (iv g (val xs) < 0) = true) (hz : (txt (fmt (val xs))).size ≤ 4096) :
    Calls Try.prog 58 #[iw g p n c] w (fun e w' => e = .returned (.string (({ data := #[45] } : ByteArray) ++ txt (fmt (val xs)))) ∧ Fr [] w w') := by
  have hs : decide ((iv g (val xs)).sign < 0) = true := sign_dec hb
  have hz2 : ¬ 9223372036854775807 < 1 + (txt (fmt (val xs))).size := by omega
  have hp : iv g (val xs) < 0 := of_decide_eq_true hb
  have hp2 : decide (0 ≤ iv g (val xs)) = false := decide_eq_false (by omega)
  go_enter Try.func58, Try.ntmps58
  go_wp2_with fail
  have g_h1 := h1
  have hw : Fr [] w (w.alloc (Obj.cells #[.bool g, .slice p n c] 40)) := (Fr.refl _ _).alloc _
  have b0 : Bx (w.alloc (Obj.cells #[.bool g, .slice p n c] 40)) w.heap.size 40 #[.bool g, .slice p n c] := (Bx.made' (by simp) _ _).kept (Fr.refl _ _)
  generalize (w.alloc (Obj.cells #[.bool g, .slice p n c] 40)) = W at *
  have hbs := b0.lt
  replace h1 := h1.kept hw
  have c_b0_0 := b0.cell (j := 0) rfl
  have f_b0_0 := b0.free 0
  have c_b0_1 := b0.cell (j := 1) rfl
  have f_b0_1 := b0.free 1
  go_wp2_with fail
  clear c_b0_0 f_b0_0 c_b0_1 f_b0_1
  refine (rsign_any _ _ _ _ _ _ h1 hn).mono ?_
  rintro e V1 ⟨rfl, ff⟩
  have hsz1 := ff.size
  replace hw := hw.trans ff (by simp)
  replace h1 := h1.kept ff
  replace b0 := b0.kept ff
  clear ff
  have c_b0_0 := b0.cell (j := 0) rfl
  have f_b0_0 := b0.free 0
  have c_b0_1 := b0.cell (j := 1) rfl
  have f_b0_1 := b0.free 1
  go_wp2_with fail
  clear c_b0_0 f_b0_0 c_b0_1 f_b0_1
  refine (rformat_any _ _ _ _ _ h1 (by omega)).mono ?_
  rintro e V2 ⟨rfl, ff⟩
  have hsz2 := ff.size
  replace hw := hw.trans ff (by simp)
  replace h1 := h1.kept ff
  replace b0 := b0.kept ff
  clear ff
  have c_b0_0 := b0.cell (j := 0) rfl
  have f_b0_0 := b0.free 0
  have c_b0_1 := b0.cell (j := 1) rfl
  have f_b0_1 := b0.free 1
  go_wp2
  go_ret
  exact ⟨rfl, hw⟩

set_option maxRecDepth 100000 in
set_option maxHeartbeats 2000000 in
theorem ivalid_false_false_z (p : Option Addr) (n c : Nat) (xs : List Nat) (w : World) (h1 : Sl w p n c xs) (hn : n ≤ 1048576) (hb : nmb xs = false) (hz : n = 0) :
    Calls Try.prog 30 #[iw false p n c] w (fun e w' => e = .returned (.bool false) ∧ Fr [] w w') := by
  have HB := Lib.hid hb
  clear hb
  subst hz
  have d1 : ((0 : Int) == 0) = true := rfl
  have d2 : decide ((0 : Int) < 0) = false := rfl
  have d3 : (((0 : Nat) : Int) == 0) = true := rfl
  go_enter Try.func30, Try.ntmps30
  go_wp2_with fail
  have g_h1 := h1
  have hw : Fr [] w (w.alloc (Obj.cells #[.bool false, .slice p 0 c] 40)) := (Fr.refl _ _).alloc _
  have b0 : Bx (w.alloc (Obj.cells #[.bool false, .slice p 0 c] 40)) w.heap.size 40 #[.bool false, .slice p 0 c] := (Bx.made' (by simp) _ _).kept (Fr.refl _ _)
  generalize (w.alloc (Obj.cells #[.bool false, .slice p 0 c] 40)) = W at *
  have hbs := b0.lt
  replace h1 := h1.kept hw
  replace h1 := h1
  have c_b0_0 := b0.cell (j := 0) rfl
  have f_b0_0 := b0.free 0
  have c_b0_1 := b0.cell (j := 1) rfl
  have f_b0_1 := b0.free 1
  go_wp2_with fail
  refine (isnormal_any _ _ _ _ _ h1 (by omega)).mono ?_
  rw [HB.out]
  rintro e w' ⟨rfl, rfl⟩
  go_wp2
  go_ret
  exact ⟨rfl, hw⟩

set_option maxRecDepth 100000 in
set_option maxHeartbeats 2000000 in
theorem ivalid_false_false_p (p : Option Addr) (n c : Nat) (xs : List Nat) (w : World) (h1 : Sl w p n c xs) (hn : n ≤ 1048576) (hb : nmb xs = false) (hz : 0 < n) :
    Calls Try.prog 30 #[iw false p n c] w (fun e w' => e = .returned (.bool false) ∧ Fr [] w w') := by
  have HB := Lib.hid hb
  clear hb
  have d1 : ((n : Int) == 0) = false := beq_eq_false_iff_ne.2 (by omega)
  have d2 : decide (0 < n) = true := decide_eq_true hz
  go_enter Try.func30, Try.ntmps30
  go_wp2_with fail
  have g_h1 := h1
  have hw : Fr [] w (w.alloc (Obj.cells #[.bool false, .slice p n c] 40)) := (Fr.refl _ _).alloc _
  have b0 : Bx (w.alloc (Obj.cells #[.bool false, .slice p n c] 40)) w.heap.size 40 #[.bool false, .slice p n c] := (Bx.made' (by simp) _ _).kept (Fr.refl _ _)
  generalize (w.alloc (Obj.cells #[.bool false, .slice p n c] 40)) = W at *
  have hbs := b0.lt
  replace h1 := h1.kept hw
  replace h1 := h1
  have c_b0_0 := b0.cell (j := 0) rfl
  have f_b0_0 := b0.free 0
  have c_b0_1 := b0.cell (j := 1) rfl
  have f_b0_1 := b0.free 1
  go_wp2_with fail
  refine (isnormal_any _ _ _ _ _ h1 (by omega)).mono ?_
  rw [HB.out]
  rintro e w' ⟨rfl, rfl⟩
  go_wp2
  go_ret
  exact ⟨rfl, hw⟩

set_option maxRecDepth 100000 in
set_option maxHeartbeats 2000000 in
theorem ivalid_false_true_z (p : Option Addr) (n c : Nat) (xs : List Nat) (w : World) (h1 : Sl w p n c xs) (hn : n ≤ 1048576) (hb : nmb xs = true) (hz : n = 0) :
    Calls Try.prog 30 #[iw false p n c] w (fun e w' => e = .returned (.bool true) ∧ Fr [] w w') := by
  have HB := Lib.hid hb
  clear hb
  subst hz
  have d1 : ((0 : Int) == 0) = true := rfl
  have d2 : decide ((0 : Int) < 0) = false := rfl
  have d3 : (((0 : Nat) : Int) == 0) = true := rfl
  go_enter Try.func30, Try.ntmps30
  go_wp2_with fail
  have g_h1 := h1
  have hw : Fr [] w (w.alloc (Obj.cells #[.bool false, .slice p 0 c] 40)) := (Fr.refl _ _).alloc _
  have b0 : Bx (w.alloc (Obj.cells #[.bool false, .slice p 0 c] 40)) w.heap.size 40 #[.bool false, .slice p 0 c] := (Bx.made' (by simp) _ _).kept (Fr.refl _ _)
  generalize (w.alloc (Obj.cells #[.bool false, .slice p 0 c] 40)) = W at *
  have hbs := b0.lt
  replace h1 := h1.kept hw
  replace h1 := h1
  have c_b0_0 := b0.cell (j := 0) rfl
  have f_b0_0 := b0.free 0
  have c_b0_1 := b0.cell (j := 1) rfl
  have f_b0_1 := b0.free 1
  go_wp2_with fail
  refine (isnormal_any _ _ _ _ _ h1 (by omega)).mono ?_
  rw [HB.out]
  rintro e w' ⟨rfl, rfl⟩
  go_wp2
  go_ret
  exact ⟨rfl, hw⟩

set_option maxRecDepth 100000 in
set_option maxHeartbeats 2000000 in
theorem ivalid_false_true_p (p : Option Addr) (n c : Nat) (xs : List Nat) (w : World) (h1 : Sl w p n c xs) (hn : n ≤ 1048576) (hb : nmb xs = true) (hz : 0 < n) :
    Calls Try.prog 30 #[iw false p n c] w (fun e w' => e = .returned (.bool true) ∧ Fr [] w w') := by
  have HB := Lib.hid hb
  clear hb
  have d1 : ((n : Int) == 0) = false := beq_eq_false_iff_ne.2 (by omega)
  have d2 : decide (0 < n) = true := decide_eq_true hz
  go_enter Try.func30, Try.ntmps30
  go_wp2_with fail
  have g_h1 := h1
  have hw : Fr [] w (w.alloc (Obj.cells #[.bool false, .slice p n c] 40)) := (Fr.refl _ _).alloc _
  have b0 : Bx (w.alloc (Obj.cells #[.bool false, .slice p n c] 40)) w.heap.size 40 #[.bool false, .slice p n c] := (Bx.made' (by simp) _ _).kept (Fr.refl _ _)
  generalize (w.alloc (Obj.cells #[.bool false, .slice p n c] 40)) = W at *
  have hbs := b0.lt
  replace h1 := h1.kept hw
  replace h1 := h1
  have c_b0_0 := b0.cell (j := 0) rfl
  have f_b0_0 := b0.free 0
  have c_b0_1 := b0.cell (j := 1) rfl
  have f_b0_1 := b0.free 1
  go_wp2_with fail
  refine (isnormal_any _ _ _ _ _ h1 (by omega)).mono ?_
  rw [HB.out]
  rintro e w' ⟨rfl, rfl⟩
  go_wp2
  go_ret
  exact ⟨rfl, hw⟩

set_option maxRecDepth 100000 in
set_option maxHeartbeats 2000000 in
theorem ivalid_true_false_z (p : Option Addr) (n c : Nat) (xs : List Nat) (w : World) (h1 : Sl w p n c xs) (hn : n ≤ 1048576) (hb : nmb xs = false) (hz : n = 0) :
    Calls Try.prog 30 #[iw true p n c] w (fun e w' => e = .returned (.bool false) ∧ Fr [] w w') := by
  have HB := Lib.hid hb
  clear hb
  subst hz
  have d1 : ((0 : Int) == 0) = true := rfl
  have d2 : decide ((0 : Int) < 0) = false := rfl
  have d3 : (((0 : Nat) : Int) == 0) = true := rfl
  go_enter Try.func30, Try.ntmps30
  go_wp2_with fail
  have g_h1 := h1
  have hw : Fr [] w (w.alloc (Obj.cells #[.bool true, .slice p 0 c] 40)) := (Fr.refl _ _).alloc _
  have b0 : Bx (w.alloc (Obj.cells #[.bool true, .slice p 0 c] 40)) w.heap.size 40 #[.bool true, .slice p 0 c] := (Bx.made' (by simp) _ _).kept (Fr.refl _ _)
  generalize (w.alloc (Obj.cells #[.bool true, .slice p 0 c] 40)) = W at *
  have hbs := b0.lt
  replace h1 := h1.kept hw
  replace h1 := h1
  have c_b0_0 := b0.cell (j := 0) rfl
  have f_b0_0 := b0.free 0
  have c_b0_1 := b0.cell (j := 1) rfl
  have f_b0_1 := b0.free 1
  go_wp2_with fail
  refine (isnormal_any _ _ _ _ _ h1 (by omega)).mono ?_
  rw [HB.out]
  rintro e w' ⟨rfl, rfl⟩
  go_wp2
  go_ret
  exact ⟨rfl, hw⟩

set_option maxRecDepth 100000 in
set_option maxHeartbeats 2000000 in
theorem ivalid_true_false_p (p : Option Addr) (n c : Nat) (xs : List Nat) (w : World) (h1 : Sl w p n c xs) (hn : n ≤ 1048576) (hb : nmb xs = false) (hz : 0 < n) :
    Calls Try.prog 30 #[iw true p n c] w (fun e w' => e = .returned (.bool false) ∧ Fr [] w w') := by
  have HB := Lib.hid hb
  clear hb
  have d1 : ((n : Int) == 0) = false := beq_eq_false_iff_ne.2 (by omega)
  have d2 : decide (0 < n) = true := decide_eq_true hz
  go_enter Try.func30, Try.ntmps30
  go_wp2_with fail
  have g_h1 := h1
  have hw : Fr [] w (w.alloc (Obj.cells #[.bool true, .slice p n c] 40)) := (Fr.refl _ _).alloc _
  have b0 : Bx (w.alloc (Obj.cells #[.bool true, .slice p n c] 40)) w.heap.size 40 #[.bool true, .slice p n c] := (Bx.made' (by simp) _ _).kept (Fr.refl _ _)
  generalize (w.alloc (Obj.cells #[.bool true, .slice p n c] 40)) = W at *
  have hbs := b0.lt
  replace h1 := h1.kept hw
  replace h1 := h1
  have c_b0_0 := b0.cell (j := 0) rfl
  have f_b0_0 := b0.free 0
  have c_b0_1 := b0.cell (j := 1) rfl
  have f_b0_1 := b0.free 1
  go_wp2_with fail
  refine (isnormal_any _ _ _ _ _ h1 (by omega)).mono ?_
  rw [HB.out]
  rintro e w' ⟨rfl, rfl⟩
  go_wp2
  go_ret
  exact ⟨rfl, hw⟩

set_option maxRecDepth 100000 in
set_option maxHeartbeats 2000000 in
theorem ivalid_true_true_z (p : Option Addr) (n c : Nat) (xs : List Nat) (w : World) (h1 : Sl w p n c xs) (hn : n ≤ 1048576) (hb : nmb xs = true) (hz : n = 0) :
    Calls Try.prog 30 #[iw true p n c] w (fun e w' => e = .returned (.bool false) ∧ Fr [] w w') := by
  have HB := Lib.hid hb
  clear hb
  subst hz
  have d1 : ((0 : Int) == 0) = true := rfl
  have d2 : decide ((0 : Int) < 0) = false := rfl
  have d3 : (((0 : Nat) : Int) == 0) = true := rfl
  go_enter Try.func30, Try.ntmps30
  go_wp2_with fail
  have g_h1 := h1
  have hw : Fr [] w (w.alloc (Obj.cells #[.bool true, .slice p 0 c] 40)) := (Fr.refl _ _).alloc _
  have b0 : Bx (w.alloc (Obj.cells #[.bool true, .slice p 0 c] 40)) w.heap.size 40 #[.bool true, .slice p 0 c] := (Bx.made' (by simp) _ _).kept (Fr.refl _ _)
  generalize (w.alloc (Obj.cells #[.bool true, .slice p 0 c] 40)) = W at *
  have hbs := b0.lt
  replace h1 := h1.kept hw
  replace h1 := h1
  have c_b0_0 := b0.cell (j := 0) rfl
  have f_b0_0 := b0.free 0
  have c_b0_1 := b0.cell (j := 1) rfl
  have f_b0_1 := b0.free 1
  go_wp2_with fail
  refine (isnormal_any _ _ _ _ _ h1 (by omega)).mono ?_
  rw [HB.out]
  rintro e w' ⟨rfl, rfl⟩
  go_wp2
  go_ret
  exact ⟨rfl, hw⟩

set_option maxRecDepth 100000 in
set_option maxHeartbeats 2000000 in
theorem ivalid_true_true_p (p : Option Addr) (n c : Nat) (xs : List Nat) (w : World) (h1 : Sl w p n c xs) (hn : n ≤ 1048576) (hb : nmb xs = true) (hz : 0 < n) :
    Calls Try.prog 30 #[iw true p n c] w (fun e w' => e = .returned (.bool true) ∧ Fr [] w w') := by
  have HB := Lib.hid hb
  clear hb
  have d1 : ((n : Int) == 0) = false := beq_eq_false_iff_ne.2 (by omega)
  have d2 : decide (0 < n) = true := decide_eq_true hz
  go_enter Try.func30, Try.ntmps30
  go_wp2_with fail
  have g_h1 := h1
  have hw : Fr [] w (w.alloc (Obj.cells #[.bool true, .slice p n c] 40)) := (Fr.refl _ _).alloc _
  have b0 : Bx (w.alloc (Obj.cells #[.bool true, .slice p n c] 40)) w.heap.size 40 #[.bool true, .slice p n c] := (Bx.made' (by simp) _ _).kept (Fr.refl _ _)
  generalize (w.alloc (Obj.cells #[.bool true, .slice p n c] 40)) = W at *
  have hbs := b0.lt
  replace h1 := h1.kept hw
  replace h1 := h1
  have c_b0_0 := b0.cell (j := 0) rfl
  have f_b0_0 := b0.free 0
  have c_b0_1 := b0.cell (j := 1) rfl
  have f_b0_1 := b0.free 1
  go_wp2_with fail
  refine (isnormal_any _ _ _ _ _ h1 (by omega)).mono ?_
  rw [HB.out]
  rintro e w' ⟨rfl, rfl⟩
  go_wp2
  go_ret
  exact ⟨rfl, hw⟩

set_option maxRecDepth 100000 in
set_option maxHeartbeats 2000000 in
theorem rvalid_false_false_z (p : Option Addr) (n c : Nat) (xs : List Nat) (w : World) (h1 : Sl w p n c xs) (hn : n ≤ 1048576) (hb : nmb xs = false) (hz : n = 0) :
    Calls Try.prog 31 #[iw false p n c] w (fun e w' => e = .returned (.bool false) ∧ Fr [] w w') := by
  have HB := Lib.hid hb
  clear hb
  subst hz
  have d1 : ((0 : Int) == 0) = true := rfl
  have d2 : decide ((0 : Int) < 0) = false := rfl
  have d3 : (((0 : Nat) : Int) == 0) = true := rfl
  go_enter Try.func31, Try.ntmps31
  go_wp2_with fail
  have g_h1 := h1
  have hw : Fr [] w (w.alloc (Obj.cells #[.bool false, .slice p 0 c] 40)) := (Fr.refl _ _).alloc _
  have b0 : Bx (w.alloc (Obj.cells #[.bool false, .slice p 0 c] 40)) w.heap.size 40 #[.bool false, .slice p 0 c] := (Bx.made' (by simp) _ _).kept (Fr.refl _ _)
  generalize (w.alloc (Obj.cells #[.bool false, .slice p 0 c] 40)) = W at *
  have hbs := b0.lt
  replace h1 := h1.kept hw
  replace h1 := h1
  have c_b0_0 := b0.cell (j := 0) rfl
  have f_b0_0 := b0.free 0
  have c_b0_1 := b0.cell (j := 1) rfl
  have f_b0_1 := b0.free 1
  go_wp2_with fail
  refine (rnormal_any _ _ _ _ _ h1 (by omega)).mono ?_
  rw [HB.out]
  rintro e w' ⟨rfl, rfl⟩
  go_wp2
  go_ret
  exact ⟨rfl, hw⟩

set_option maxRecDepth 100000 in
set_option maxHeartbeats 2000000 in
theorem rvalid_false_false_p (p : Option Addr) (n c : Nat) (xs : List Nat) (w : World) (h1 : Sl w p n c xs) (hn : n ≤ 1048576) (hb : nmb xs = false) (hz : 0 < n) :
    Calls Try.prog 31 #[iw false p n c] w (fun e w' => e = .returned (.bool false) ∧ Fr [] w w') := by
  have HB := Lib.hid hb
  clear hb
  have d1 : ((n : Int) == 0) = false := beq_eq_false_iff_ne.2 (by omega)
  have d2 : decide (0 < n) = true := decide_eq_true hz
  go_enter Try.func31, Try.ntmps31
  go_wp2_with fail
  have g_h1 := h1
  have hw : Fr [] w (w.alloc (Obj.cells #[.bool false, .slice p n c] 40)) := (Fr.refl _ _).alloc _
  have b0 : Bx (w.alloc (Obj.cells #[.bool false, .slice p n c] 40)) w.heap.size 40 #[.bool false, .slice p n c] := (Bx.made' (by simp) _ _).kept (Fr.refl _ _)
  generalize (w.alloc (Obj.cells #[.bool false, .slice p n c] 40)) = W at *
  have hbs := b0.lt
  replace h1 := h1.kept hw
  replace h1 := h1
  have c_b0_0 := b0.cell (j := 0) rfl
  have f_b0_0 := b0.free 0
  have c_b0_1 := b0.cell (j := 1) rfl
  have f_b0_1 := b0.free 1
  go_wp2_with fail
  refine (rnormal_any _ _ _ _ _ h1 (by omega)).mono ?_
  rw [HB.out]
  rintro e w' ⟨rfl, rfl⟩
  go_wp2
  go_ret
  exact ⟨rfl, hw⟩

set_option maxRecDepth 100000 in
set_option maxHeartbeats 2000000 in
theorem rvalid_false_true_z (p : Option Addr) (n c : Nat) (xs : List Nat) (w : World) (h1 : Sl w p n c xs) (hn : n ≤ 1048576) (hb : nmb xs = true) (hz : n = 0) :
    Calls Try.prog 31 #[iw false p n c] w (fun e w' => e = .returned (.bool true) ∧ Fr [] w w') := by
  have HB := Lib.hid hb
  clear hb
  subst hz
  have d1 : ((0 : Int) == 0) = true := rfl
  have d2 : decide ((0 : Int) < 0) = false := rfl
  have d3 : (((0 : Nat) : Int) == 0) = true := rfl
  go_enter Try.func31, Try.ntmps31
  go_wp2_with fail
  have g_h1 := h1
  have hw : Fr [] w (w.alloc (Obj.cells #[.bool false, .slice p 0 c] 40)) := (Fr.refl _ _).alloc _
  have b0 : Bx (w.alloc (Obj.cells #[.bool false, .slice p 0 c] 40)) w.heap.size 40 #[.bool false, .slice p 0 c] := (Bx.made' (by simp) _ _).kept (Fr.refl _ _)
  generalize (w.alloc (Obj.cells #[.bool false, .slice p 0 c] 40)) = W at *
  have hbs := b0.lt
  replace h1 := h1.kept hw
  replace h1 := h1
  have c_b0_0 := b0.cell (j := 0) rfl
  have f_b0_0 := b0.free 0
  have c_b0_1 := b0.cell (j := 1) rfl
  have f_b0_1 := b0.free 1
  go_wp2_with fail
  refine (rnormal_any _ _ _ _ _ h1 (by omega)).mono ?_
  rw [HB.out]
  rintro e w' ⟨rfl, rfl⟩
  go_wp2
  go_ret
  exact ⟨rfl, hw⟩

set_option maxRecDepth 100000 in
set_option maxHeartbeats 2000000 in
theorem rvalid_false_true_p (p : Option Addr) (n c : Nat) (xs : List Nat) (w : World) (h1 : Sl w p n c xs) (hn : n ≤ 1048576) (hb : nmb xs = true) (hz : 0 < n) :
    Calls Try.prog 31 #[iw false p n c] w (fun e w' => e = .returned (.bool true) ∧ Fr [] w w') := by
  have HB := Lib.hid hb
  clear hb
  have d1 : ((n : Int) == 0) = false := beq_eq_false_iff_ne.2 (by omega)
  have d2 : decide (0 < n) = true := decide_eq_true hz
  go_enter Try.func31, Try.ntmps31
  go_wp2_with fail
  have g_h1 := h1
  have hw : Fr [] w (w.alloc (Obj.cells #[.bool false, .slice p n c] 40)) := (Fr.refl _ _).alloc _
  have b0 : Bx (w.alloc (Obj.cells #[.bool false, .slice p n c] 40)) w.heap.size 40 #[.bool false, .slice p n c] := (Bx.made' (by simp) _ _).kept (Fr.refl _ _)
  generalize (w.alloc (Obj.cells #[.bool false, .slice p n c] 40)) = W at *
  have hbs := b0.lt
  replace h1 := h1.kept hw
  replace h1 := h1
  have c_b0_0 := b0.cell (j := 0) rfl
  have f_b0_0 := b0.free 0
  have c_b0_1 := b0.cell (j := 1) rfl
  have f_b0_1 := b0.free 1
  go_wp2_with fail
  refine (rnormal_any _ _ _ _ _ h1 (by omega)).mono ?_
  rw [HB.out]
  rintro e w' ⟨rfl, rfl⟩
  go_wp2
  go_ret
  exact ⟨rfl, hw⟩

set_option maxRecDepth 100000 in
set_option maxHeartbeats 2000000 in
theorem rvalid_true_false_z (p : Option Addr) (n c : Nat) (xs : List Nat) (w : World) (h1 : Sl w p n c xs) (hn : n ≤ 1048576) (hb : nmb xs = false) (hz : n = 0) :
    Calls Try.prog 31 #[iw true p n c] w (fun e w' => e = .returned (.bool false) ∧ Fr [] w w') := by
  have HB := Lib.hid hb
  clear hb
  subst hz
  have d1 : ((0 : Int) == 0) = true := rfl
  have d2 : decide ((0 : Int) < 0) = false := rfl
  have d3 : (((0 : Nat) : Int) == 0) = true := rfl
  go_enter Try.func31, Try.ntmps31
  go_wp2_with fail
  have g_h1 := h1
  have hw : Fr [] w (w.alloc (Obj.cells #[.bool true, .slice p 0 c] 40)) := (Fr.refl _ _).alloc _
  have b0 : Bx (w.alloc (Obj.cells #[.bool true, .slice p 0 c] 40)) w.heap.size 40 #[.bool true, .slice p 0 c] := (Bx.made' (by simp) _ _).kept (Fr.refl _ _)
  generalize (w.alloc (Obj.cells #[.bool true, .slice p 0 c] 40)) = W at *
  have hbs := b0.lt
  replace h1 := h1.kept hw
  replace h1 := h1
  have c_b0_0 := b0.cell (j := 0) rfl
  have f_b0_0 := b0.free 0
  have c_b0_1 := b0.cell (j := 1) rfl
  have f_b0_1 := b0.free 1
  go_wp2_with fail
  refine (rnormal_any _ _ _ _ _ h1 (by omega)).mono ?_
  rw [HB.out]
  rintro e w' ⟨rfl, rfl⟩
  go_wp2
  go_ret
  exact ⟨rfl, hw⟩

set_option maxRecDepth 100000 in
set_option maxHeartbeats 2000000 in
theorem rvalid_true_false_p (p : Option Addr) (n c : Nat) (xs : List Nat) (w : World) (h1 : Sl w p n c xs) (hn : n ≤ 1048576) (hb : nmb xs = false) (hz : 0 < n) :
    Calls Try.prog 31 #[iw true p n c] w (fun e w' => e = .returned (.bool false) ∧ Fr [] w w') := by
  have HB := Lib.hid hb
  clear hb
  have d1 : ((n : Int) == 0) = false := beq_eq_false_iff_ne.2 (by omega)
  have d2 : decide (0 < n) = true := decide_eq_true hz
  go_enter Try.func31, Try.ntmps31
  go_wp2_with fail
  have g_h1 := h1
  have hw : Fr [] w (w.alloc (Obj.cells #[.bool true, .slice p n c] 40)) := (Fr.refl _ _).alloc _
  have b0 : Bx (w.alloc (Obj.cells #[.bool true, .slice p n c] 40)) w.heap.size 40 #[.bool true, .slice p n c] := (Bx.made' (by simp) _ _).kept (Fr.refl _ _)
  generalize (w.alloc (Obj.cells #[.bool true, .slice p n c] 40)) = W at *
  have hbs := b0.lt
  replace h1 := h1.kept hw
  replace h1 := h1
  have c_b0_0 := b0.cell (j := 0) rfl
  have f_b0_0 := b0.free 0
  have c_b0_1 := b0.cell (j := 1) rfl
  have f_b0_1 := b0.free 1
  go_wp2_with fail
  refine (rnormal_any _ _ _ _ _ h1 (by omega)).mono ?_
  rw [HB.out]
  rintro e w' ⟨rfl, rfl⟩
  go_wp2
  go_ret
  exact ⟨rfl, hw⟩

set_option maxRecDepth 100000 in
set_option maxHeartbeats 2000000 in
theorem rvalid_true_true_z (p : Option Addr) (n c : Nat) (xs : List Nat) (w : World) (h1 : Sl w p n c xs) (hn : n ≤ 1048576) (hb : nmb xs = true) (hz : n = 0) :
    Calls Try.prog 31 #[iw true p n c] w (fun e w' => e = .returned (.bool false) ∧ Fr [] w w') := by
  have HB := Lib.hid hb
  clear hb
  subst hz
  have d1 : ((0 : Int) == 0) = true := rfl
  have d2 : decide ((0 : Int) < 0) = false := rfl
  have d3 : (((0 : Nat) : Int) == 0) = true := rfl
  go_enter Try.func31, Try.ntmps31
  go_wp2_with fail
  have g_h1 := h1
  have hw : Fr [] w (w.alloc (Obj.cells #[.bool true, .slice p 0 c] 40)) := (Fr.refl _ _).alloc _
  have b0 : Bx (w.alloc (Obj.cells #[.bool true, .slice p 0 c] 40)) w.heap.size 40 #[.bool true, .slice p 0 c] := (Bx.made' (by simp) _ _).kept (Fr.refl _ _)
  generalize (w.alloc (Obj.cells #[.bool true, .slice p 0 c] 40)) = W at *
  have hbs := b0.lt
  replace h1 := h1.kept hw
  replace h1 := h1
  have c_b0_0 := b0.cell (j := 0) rfl
  have f_b0_0 := b0.free 0
  have c_b0_1 := b0.cell (j := 1) rfl
  have f_b0_1 := b0.free 1
  go_wp2_with fail
  refine (rnormal_any _ _ _ _ _ h1 (by omega)).mono ?_
  rw [HB.out]
  rintro e w' ⟨rfl, rfl⟩
  go_wp2
  go_ret
  exact ⟨rfl, hw⟩

set_option maxRecDepth 100000 in
set_option maxHeartbeats 2000000 in
theorem rvalid_true_true_p (p : Option Addr) (n c : Nat) (xs : List Nat) (w : World) (h1 : Sl w p n c xs) (hn : n ≤ 1048576) (hb : nmb xs = true) (hz : 0 < n) :
    Calls Try.prog 31 #[iw true p n c] w (fun e w' => e = .returned (.bool true) ∧ Fr [] w w') := by
  have HB := Lib.hid hb
  clear hb
  have d1 : ((n : Int) == 0) = false := beq_eq_false_iff_ne.2 (by omega)
  have d2 : decide (0 < n) = true := decide_eq_true hz
  go_enter Try.func31, Try.ntmps31
  go_wp2_with fail
  have g_h1 := h1
  have hw : Fr [] w (w.alloc (Obj.cells #[.bool true, .slice p n c] 40)) := (Fr.refl _ _).alloc _
  have b0 : Bx (w.alloc (Obj.cells #[.bool true, .slice p n c] 40)) w.heap.size 40 #[.bool true, .slice p n c] := (Bx.made' (by simp) _ _).kept (Fr.refl _ _)
  generalize (w.alloc (Obj.cells #[.bool true, .slice p n c] 40)) = W at *
  have hbs := b0.lt
  replace h1 := h1.kept hw
  replace h1 := h1
  have c_b0_0 := b0.cell (j := 0) rfl
  have f_b0_0 := b0.free 0
  have c_b0_1 := b0.cell (j := 1) rfl
  have f_b0_1 := b0.free 1
  go_wp2_with fail
  refine (rnormal_any _ _ _ _ _ h1 (by omega)).mono ?_
  rw [HB.out]
  rintro e w' ⟨rfl, rfl⟩
  go_wp2
  go_ret
  exact ⟨rfl, hw⟩

theorem ivalid_any (g : Bool) (p : Option Addr) (n c : Nat) (xs : List Nat) (w : World) (h1 : Sl w p n c xs) (hn : n ≤ 1048576) : Calls Try.prog 30 #[iw g p n c] w fun e w' => e = .returned (.bool (nmb xs && !(g && decide (n = 0)))) ∧ Fr [] w w' := by
  cases hb : nmb xs <;> cases g <;> by_cases hz : n = 0
  · rw [decide_eq_true hz]; exact ivalid_false_false_z p n c xs w h1 hn hb hz
  · rw [decide_eq_false hz]; exact ivalid_false_false_p p n c xs w h1 hn hb (by omega)
  · rw [decide_eq_true hz]; exact ivalid_true_false_z p n c xs w h1 hn hb hz
  · rw [decide_eq_false hz]; exact ivalid_true_false_p p n c xs w h1 hn hb (by omega)
  · rw [decide_eq_true hz]; exact ivalid_false_true_z p n c xs w h1 hn hb hz
  · rw [decide_eq_false hz]; exact ivalid_false_true_p p n c xs w h1 hn hb (by omega)
  · rw [decide_eq_true hz]; exact ivalid_true_true_z p n c xs w h1 hn hb hz
  · rw [decide_eq_false hz]; exact ivalid_true_true_p p n c xs w h1 hn hb (by omega)

theorem rvalid_any (g : Bool) (p : Option Addr) (n c : Nat) (xs : List Nat) (w : World) (h1 : Sl w p n c xs) (hn : n ≤ 1048576) : Calls Try.prog 31 #[iw g p n c] w fun e w' => e = .returned (.bool (nmb xs && !(g && decide (n = 0)))) ∧ Fr [] w w' := by
  cases hb : nmb xs <;> cases g <;> by_cases hz : n = 0
  · rw [decide_eq_true hz]; exact rvalid_false_false_z p n c xs w h1 hn hb hz
  · rw [decide_eq_false hz]; exact rvalid_false_false_p p n c xs w h1 hn hb (by omega)
  · rw [decide_eq_true hz]; exact rvalid_true_false_z p n c xs w h1 hn hb hz
  · rw [decide_eq_false hz]; exact rvalid_true_false_p p n c xs w h1 hn hb (by omega)
  · rw [decide_eq_true hz]; exact rvalid_false_true_z p n c xs w h1 hn hb hz
  · rw [decide_eq_false hz]; exact rvalid_false_true_p p n c xs w h1 hn hb (by omega)
  · rw [decide_eq_true hz]; exact rvalid_true_true_z p n c xs w h1 hn hb hz
  · rw [decide_eq_false hz]; exact rvalid_true_true_p p n c xs w h1 hn hb (by omega)

end Go.Proofs.Ytfjhdhmneknmkaa
