/- IntegerDivides: for every two integers, given by any digits, Div answers as the document's own function does, and the dividend is the quotient times the divisor plus a remainder from 0 to the divisor's size less 1. No condition. Written by wip/gen/gen_idivides.py. -/
import Derived.Test.YtfjhdhmneknmkaaInt14
import Derived.Test.YtfjhdhmneknmkaaInt13
import Derived.Test.YtfjhdhmneknmkaaIntOpen
namespace Go.Proofs.Ytfjhdhmneknmkaa
open Go.RowKit Go.ChangeShapes Go.WideShapes Go.ChangeAt

theorem len_div (x y : Int) : (dg (x / y).natAbs).length ≤ (dg x.natAbs).length := dg_len_mono (Int.natAbs_ediv_le_natAbs x y)
theorem len_mod {x y : Int} (h : y ≠ 0) : (dg (x % y).natAbs).length ≤ (dg y.natAbs).length := by
  apply dg_len_mono
  have h1 := Int.emod_nonneg x h
  have h2 := Int.emod_lt x h
  omega
theorem cmp_mod {x y : Int} (h : y ≠ 0) : cmpZ (x % y) (y.natAbs : Int) = -1 := cmpZ_lt (by have := Int.emod_lt x h; omega)
theorem sign_nn {z : Int} (h : 0 ≤ z) : 0 ≤ z.sign := by
  obtain ⟨k, rfl⟩ := Int.eq_ofNat_of_zero_le h
  cases k with
  | zero => decide
  | succ k => show (0 : Int) ≤ 1; decide
theorem iv_nat (m : Nat) : iv false (val (dg m)) = (m : Int) := by rw [val_dg]; rfl

set_option maxRecDepth 100000 in
set_option maxHeartbeats 8000000 in
theorem idivides_zero (g h : Bool) (p q : Option Addr) (n c m d : Nat) (xs ys : List Nat) (w : World) (h1 : Sl w p n c xs) (h2 : Sl w q m d ys) (B1 : n ≤ 10) (B2 : m ≤ 10) (h0 : val ys = 0) :
    Calls Try.prog 6 #[iw g p n c, iw h q m d] w fun e w' => e = .returned (.bool true) ∧ Fr [] w w' := by
  have hsz : (iv h (val ys)).sign = 0 := by rw [h0]; cases h <;> rfl
  have H0 := Lib.hid h0
  have HSZ := Lib.hid hsz
  clear h0 hsz
  go_enter Try.func6, Try.ntmps6
  go_wp2_with fail
  have g_h1 := h1
  have g_h2 := h2
  have hw : Fr [] w ((w.alloc (Obj.cells #[.bool g, .slice p n c] 40)).alloc (Obj.cells #[.bool h, .slice q m d] 40)) := ((Fr.refl _ _).alloc _).alloc _
  have b0 : Bx ((w.alloc (Obj.cells #[.bool g, .slice p n c] 40)).alloc (Obj.cells #[.bool h, .slice q m d] 40)) w.heap.size 40 #[.bool g, .slice p n c] := (Bx.made' (by simp) _ _).kept ((Fr.refl _ _).alloc _)
  have b1 : Bx ((w.alloc (Obj.cells #[.bool g, .slice p n c] 40)).alloc (Obj.cells #[.bool h, .slice q m d] 40)) (w.heap.size + 1) 40 #[.bool h, .slice q m d] := (Bx.made' (by simp) _ _).kept (Fr.refl _ _)
  generalize ((w.alloc (Obj.cells #[.bool g, .slice p n c] 40)).alloc (Obj.cells #[.bool h, .slice q m d] 40)) = W at *
  have hbs := b1.lt
  replace h1 := h1.kept hw
  replace h2 := h2.kept hw
  have c_b0_0 := b0.cell (j := 0) rfl
  have f_b0_0 := b0.free 0
  have c_b0_1 := b0.cell (j := 1) rfl
  have f_b0_1 := b0.free 1
  have c_b1_0 := b1.cell (j := 0) rfl
  have f_b1_0 := b1.free 0
  have c_b1_1 := b1.cell (j := 1) rfl
  have f_b1_1 := b1.free 1
  go_wp2_with fail
  clear c_b0_0 f_b0_0 c_b0_1 f_b0_1 c_b1_0 f_b1_0 c_b1_1 f_b1_1
  refine (small_yes _ _ _ _ _ B1).mono ?_
  rintro e V1 ⟨rfl, ff⟩
  have hsz1 := ff.size
  replace hw := hw.trans ff (by simp)
  replace h1 := h1.kept ff
  replace h2 := h2.kept ff
  replace b0 := b0.kept ff
  replace b1 := b1.kept ff
  clear ff
  have c_b0_0 := b0.cell (j := 0) rfl
  have f_b0_0 := b0.free 0
  have c_b0_1 := b0.cell (j := 1) rfl
  have f_b0_1 := b0.free 1
  have c_b1_0 := b1.cell (j := 0) rfl
  have f_b1_0 := b1.free 0
  have c_b1_1 := b1.cell (j := 1) rfl
  have f_b1_1 := b1.free 1
  go_wp2_with fail
  clear c_b0_0 f_b0_0 c_b0_1 f_b0_1 c_b1_0 f_b1_0 c_b1_1 f_b1_1
  refine (small_yes _ _ _ _ _ B2).mono ?_
  rintro e V2 ⟨rfl, ff⟩
  have hsz2 := ff.size
  replace hw := hw.trans ff (by simp)
  replace h1 := h1.kept ff
  replace h2 := h2.kept ff
  replace b0 := b0.kept ff
  replace b1 := b1.kept ff
  clear ff
  have c_b0_0 := b0.cell (j := 0) rfl
  have f_b0_0 := b0.free 0
  have c_b0_1 := b0.cell (j := 1) rfl
  have f_b0_1 := b0.free 1
  have c_b1_0 := b1.cell (j := 0) rfl
  have f_b1_0 := b1.free 0
  have c_b1_1 := b1.cell (j := 1) rfl
  have f_b1_1 := b1.free 1
  go_wp2_with fail
  clear c_b0_0 f_b0_0 c_b0_1 f_b0_1 c_b1_0 f_b1_0 c_b1_1 f_b1_1
  refine (idiv_zero _ _ _ _ _ _ _ _ _ _ _ h1 h2 (by omega) (by omega) H0.out).mono ?_
  rintro e V3 ⟨rfl, ff⟩
  have hsz3 := ff.size
  replace hw := hw.trans ff (by simp)
  replace h1 := h1.kept ff
  replace h2 := h2.kept ff
  replace b0 := b0.kept ff
  replace b1 := b1.kept ff
  clear ff
  have hal : Fr [] V3 ((V3.alloc (Obj.cells #[.bool false, .slice none 0 0] 40)).alloc (Obj.cells #[.bool false, .slice none 0 0] 40)) := (Fr.new _).alloc _
  have d0 : Bx ((V3.alloc (Obj.cells #[.bool false, .slice none 0 0] 40)).alloc (Obj.cells #[.bool false, .slice none 0 0] 40)) V3.heap.size 40 #[.bool false, .slice none 0 0] := (Bx.made _ _ _).kept (Fr.new _)
  have d1 : Bx ((V3.alloc (Obj.cells #[.bool false, .slice none 0 0] 40)).alloc (Obj.cells #[.bool false, .slice none 0 0] 40)) (V3.heap.size + 1) 40 #[.bool false, .slice none 0 0] := Bx.made' (by simp) _ _
  have cx_b0_0 := (b0.kept hal).cell (j := 0) rfl
  have cx_b0_1 := (b0.kept hal).cell (j := 1) rfl
  have cx_b1_0 := (b1.kept hal).cell (j := 0) rfl
  have cx_b1_1 := (b1.kept hal).cell (j := 1) rfl
  have cx_d0_0 := (d0).cell (j := 0) rfl
  have cx_d0_1 := (d0).cell (j := 1) rfl
  have cx_d1_0 := (d1).cell (j := 0) rfl
  have cx_d1_1 := (d1).cell (j := 1) rfl
  have c_b0_0 := b0.cell (j := 0) rfl
  have f_b0_0 := b0.free 0
  have c_b0_1 := b0.cell (j := 1) rfl
  have f_b0_1 := b0.free 1
  have c_b1_0 := b1.cell (j := 0) rfl
  have f_b1_0 := b1.free 0
  have c_b1_1 := b1.cell (j := 1) rfl
  have f_b1_1 := b1.free 1
  go_wp2_with fail
  clear c_b0_0 f_b0_0 c_b0_1 f_b0_1 c_b1_0 f_b1_0 c_b1_1 f_b1_1
  clear cx_b0_0 cx_b0_1 cx_b1_0 cx_b1_1 cx_d0_0 cx_d0_1 cx_d1_0 cx_d1_1
  replace hw := hw.trans hal (by simp)
  replace h1 := h1.kept hal
  replace h2 := h2.kept hal
  replace b0 := b0.kept hal
  replace b1 := b1.kept hal
  clear hal
  generalize ((V3.alloc (Obj.cells #[.bool false, .slice none 0 0] 40)).alloc (Obj.cells #[.bool false, .slice none 0 0] 40)) = V3x at *
  refine (rdiv_none _ _ _ _ _ _ _ _ _ _ _ h1 h2 (by omega) (by omega) H0.out).mono ?_
  rintro e V9 ⟨rfl, ff⟩
  replace hw := hw.trans ff (by simp)
  replace h1 := h1.kept ff
  replace h2 := h2.kept ff
  replace b0 := b0.kept ff
  replace b1 := b1.kept ff
  replace d0 := d0.kept ff
  replace d1 := d1.kept ff
  clear ff
  have hal : Fr [] V9 ((V9.alloc (Obj.cells #[.bool false, .slice none 0 0] 40)).alloc (Obj.cells #[.bool false, .slice none 0 0] 40)) := (Fr.new _).alloc _
  have e0 : Bx ((V9.alloc (Obj.cells #[.bool false, .slice none 0 0] 40)).alloc (Obj.cells #[.bool false, .slice none 0 0] 40)) V9.heap.size 40 #[.bool false, .slice none 0 0] := (Bx.made _ _ _).kept (Fr.new _)
  have e1 : Bx ((V9.alloc (Obj.cells #[.bool false, .slice none 0 0] 40)).alloc (Obj.cells #[.bool false, .slice none 0 0] 40)) (V9.heap.size + 1) 40 #[.bool false, .slice none 0 0] := Bx.made' (by simp) _ _
  have cx_b0_0 := (b0.kept hal).cell (j := 0) rfl
  have cx_b0_1 := (b0.kept hal).cell (j := 1) rfl
  have cx_b1_0 := (b1.kept hal).cell (j := 0) rfl
  have cx_b1_1 := (b1.kept hal).cell (j := 1) rfl
  have cx_d0_0 := (d0.kept hal).cell (j := 0) rfl
  have cx_d0_1 := (d0.kept hal).cell (j := 1) rfl
  have cx_d1_0 := (d1.kept hal).cell (j := 0) rfl
  have cx_d1_1 := (d1.kept hal).cell (j := 1) rfl
  have cx_e0_0 := (e0).cell (j := 0) rfl
  have cx_e0_1 := (e0).cell (j := 1) rfl
  have cx_e1_0 := (e1).cell (j := 0) rfl
  have cx_e1_1 := (e1).cell (j := 1) rfl
  have c_b0_0 := b0.cell (j := 0) rfl
  have f_b0_0 := b0.free 0
  have c_b0_1 := b0.cell (j := 1) rfl
  have f_b0_1 := b0.free 1
  have c_b1_0 := b1.cell (j := 0) rfl
  have f_b1_0 := b1.free 0
  have c_b1_1 := b1.cell (j := 1) rfl
  have f_b1_1 := b1.free 1
  have c_d0_0 := d0.cell (j := 0) rfl
  have f_d0_0 := d0.free 0
  have c_d0_1 := d0.cell (j := 1) rfl
  have f_d0_1 := d0.free 1
  have c_d1_0 := d1.cell (j := 0) rfl
  have f_d1_0 := d1.free 0
  have c_d1_1 := d1.cell (j := 1) rfl
  have f_d1_1 := d1.free 1
  go_wp2_with fail
  clear c_b0_0 f_b0_0 c_b0_1 f_b0_1 c_b1_0 f_b1_0 c_b1_1 f_b1_1 c_d0_0 f_d0_0 c_d0_1 f_d0_1 c_d1_0 f_d1_0 c_d1_1 f_d1_1
  clear cx_b0_0 cx_b0_1 cx_b1_0 cx_b1_1 cx_d0_0 cx_d0_1 cx_d1_0 cx_d1_1 cx_e0_0 cx_e0_1 cx_e1_0 cx_e1_1
  replace hw := hw.trans hal (by simp)
  replace h1 := h1.kept hal
  replace h2 := h2.kept hal
  replace b0 := b0.kept hal
  replace b1 := b1.kept hal
  replace d0 := d0.kept hal
  replace d1 := d1.kept hal
  clear hal
  generalize ((V9.alloc (Obj.cells #[.bool false, .slice none 0 0] 40)).alloc (Obj.cells #[.bool false, .slice none 0 0] 40)) = V9x at *
  refine (isame_any false none none 0 0 0 [] _ (Sl.zero _) (Sl.zero _)).mono ?_
  rintro e V10 ⟨rfl, ff⟩
  replace hw := hw.trans ff (by simp)
  replace h1 := h1.kept ff
  replace h2 := h2.kept ff
  replace b0 := b0.kept ff
  replace b1 := b1.kept ff
  replace d0 := d0.kept ff
  replace d1 := d1.kept ff
  replace e0 := e0.kept ff
  replace e1 := e1.kept ff
  clear ff
  have c_b0_0 := b0.cell (j := 0) rfl
  have f_b0_0 := b0.free 0
  have c_b0_1 := b0.cell (j := 1) rfl
  have f_b0_1 := b0.free 1
  have c_b1_0 := b1.cell (j := 0) rfl
  have f_b1_0 := b1.free 0
  have c_b1_1 := b1.cell (j := 1) rfl
  have f_b1_1 := b1.free 1
  have c_d0_0 := d0.cell (j := 0) rfl
  have f_d0_0 := d0.free 0
  have c_d0_1 := d0.cell (j := 1) rfl
  have f_d0_1 := d0.free 1
  have c_d1_0 := d1.cell (j := 0) rfl
  have f_d1_0 := d1.free 0
  have c_d1_1 := d1.cell (j := 1) rfl
  have f_d1_1 := d1.free 1
  have c_e0_0 := e0.cell (j := 0) rfl
  have f_e0_0 := e0.free 0
  have c_e0_1 := e0.cell (j := 1) rfl
  have f_e0_1 := e0.free 1
  have c_e1_0 := e1.cell (j := 0) rfl
  have f_e1_0 := e1.free 0
  have c_e1_1 := e1.cell (j := 1) rfl
  have f_e1_1 := e1.free 1
  go_wp2_with fail
  clear c_b0_0 f_b0_0 c_b0_1 f_b0_1 c_b1_0 f_b1_0 c_b1_1 f_b1_1 c_d0_0 f_d0_0 c_d0_1 f_d0_1 c_d1_0 f_d1_0 c_d1_1 f_d1_1 c_e0_0 f_e0_0 c_e0_1 f_e0_1 c_e1_0 f_e1_0 c_e1_1 f_e1_1
  refine (isame_any false none none 0 0 0 [] _ (Sl.zero _) (Sl.zero _)).mono ?_
  rintro e V11 ⟨rfl, ff⟩
  replace hw := hw.trans ff (by simp)
  replace h1 := h1.kept ff
  replace h2 := h2.kept ff
  replace b0 := b0.kept ff
  replace b1 := b1.kept ff
  replace d0 := d0.kept ff
  replace d1 := d1.kept ff
  replace e0 := e0.kept ff
  replace e1 := e1.kept ff
  clear ff
  have c_b0_0 := b0.cell (j := 0) rfl
  have f_b0_0 := b0.free 0
  have c_b0_1 := b0.cell (j := 1) rfl
  have f_b0_1 := b0.free 1
  have c_b1_0 := b1.cell (j := 0) rfl
  have f_b1_0 := b1.free 0
  have c_b1_1 := b1.cell (j := 1) rfl
  have f_b1_1 := b1.free 1
  have c_d0_0 := d0.cell (j := 0) rfl
  have f_d0_0 := d0.free 0
  have c_d0_1 := d0.cell (j := 1) rfl
  have f_d0_1 := d0.free 1
  have c_d1_0 := d1.cell (j := 0) rfl
  have f_d1_0 := d1.free 0
  have c_d1_1 := d1.cell (j := 1) rfl
  have f_d1_1 := d1.free 1
  have c_e0_0 := e0.cell (j := 0) rfl
  have f_e0_0 := e0.free 0
  have c_e0_1 := e0.cell (j := 1) rfl
  have f_e0_1 := e0.free 1
  have c_e1_0 := e1.cell (j := 0) rfl
  have f_e1_0 := e1.free 0
  have c_e1_1 := e1.cell (j := 1) rfl
  have f_e1_1 := e1.free 1
  go_wp2_with fail
  clear c_b0_0 f_b0_0 c_b0_1 f_b0_1 c_b1_0 f_b1_0 c_b1_1 f_b1_1 c_d0_0 f_d0_0 c_d0_1 f_d0_1 c_d1_0 f_d1_0 c_d1_1 f_d1_1 c_e0_0 f_e0_0 c_e0_1 f_e0_1 c_e1_0 f_e1_0 c_e1_1 f_e1_1
  refine (awake2_any _).mono ?_
  rintro e V13 ⟨rfl, ff⟩
  have hsz13 := ff.size
  replace hw := hw.trans ff (by simp)
  replace h1 := h1.kept ff
  replace h2 := h2.kept ff
  replace b0 := b0.kept ff
  replace b1 := b1.kept ff
  replace d0 := d0.kept ff
  replace d1 := d1.kept ff
  replace e0 := e0.kept ff
  replace e1 := e1.kept ff
  clear ff
  have c_b0_0 := b0.cell (j := 0) rfl
  have f_b0_0 := b0.free 0
  have c_b0_1 := b0.cell (j := 1) rfl
  have f_b0_1 := b0.free 1
  have c_b1_0 := b1.cell (j := 0) rfl
  have f_b1_0 := b1.free 0
  have c_b1_1 := b1.cell (j := 1) rfl
  have f_b1_1 := b1.free 1
  have c_d0_0 := d0.cell (j := 0) rfl
  have f_d0_0 := d0.free 0
  have c_d0_1 := d0.cell (j := 1) rfl
  have f_d0_1 := d0.free 1
  have c_d1_0 := d1.cell (j := 0) rfl
  have f_d1_0 := d1.free 0
  have c_d1_1 := d1.cell (j := 1) rfl
  have f_d1_1 := d1.free 1
  have c_e0_0 := e0.cell (j := 0) rfl
  have f_e0_0 := e0.free 0
  have c_e0_1 := e0.cell (j := 1) rfl
  have f_e0_1 := e0.free 1
  have c_e1_0 := e1.cell (j := 0) rfl
  have f_e1_0 := e1.free 0
  have c_e1_1 := e1.cell (j := 1) rfl
  have f_e1_1 := e1.free 1
  go_wp2_with fail
  clear c_b0_0 f_b0_0 c_b0_1 f_b0_1 c_b1_0 f_b1_0 c_b1_1 f_b1_1 c_d0_0 f_d0_0 c_d0_1 f_d0_1 c_d1_0 f_d1_0 c_d1_1 f_d1_1 c_e0_0 f_e0_0 c_e0_1 f_e0_1 c_e1_0 f_e1_0 c_e1_1 f_e1_1
  refine (isign_any _ _ _ _ _ _ h2 (by omega)).mono ?_
  rw [HSZ.out]
  rintro e V14 ⟨rfl, ff⟩
  have hsz14 := ff.size
  replace hw := hw.trans ff (by simp)
  replace h1 := h1.kept ff
  replace h2 := h2.kept ff
  replace b0 := b0.kept ff
  replace b1 := b1.kept ff
  replace d0 := d0.kept ff
  replace d1 := d1.kept ff
  replace e0 := e0.kept ff
  replace e1 := e1.kept ff
  clear ff
  have c_b0_0 := b0.cell (j := 0) rfl
  have f_b0_0 := b0.free 0
  have c_b0_1 := b0.cell (j := 1) rfl
  have f_b0_1 := b0.free 1
  have c_b1_0 := b1.cell (j := 0) rfl
  have f_b1_0 := b1.free 0
  have c_b1_1 := b1.cell (j := 1) rfl
  have f_b1_1 := b1.free 1
  have c_d0_0 := d0.cell (j := 0) rfl
  have f_d0_0 := d0.free 0
  have c_d0_1 := d0.cell (j := 1) rfl
  have f_d0_1 := d0.free 1
  have c_d1_0 := d1.cell (j := 0) rfl
  have f_d1_0 := d1.free 0
  have c_d1_1 := d1.cell (j := 1) rfl
  have f_d1_1 := d1.free 1
  have c_e0_0 := e0.cell (j := 0) rfl
  have f_e0_0 := e0.free 0
  have c_e0_1 := e0.cell (j := 1) rfl
  have f_e0_1 := e0.free 1
  have c_e1_0 := e1.cell (j := 0) rfl
  have f_e1_0 := e1.free 0
  have c_e1_1 := e1.cell (j := 1) rfl
  have f_e1_1 := e1.free 1
  go_wp2
  go_ret
  exact ⟨rfl, hw⟩

set_option maxRecDepth 100000 in
set_option maxHeartbeats 8000000 in
theorem idivides_pos (g h : Bool) (p q : Option Addr) (n c m d : Nat) (xs ys : List Nat) (w : World) (h1 : Sl w p n c xs) (h2 : Sl w q m d ys) (B1 : n ≤ 10) (B2 : m ≤ 10) (h0 : val ys ≠ 0) :
    Calls Try.prog 6 #[iw g p n c, iw h q m d] w fun e w' => e = .returned (.bool true) ∧ Fr [] w w' := by
  obtain ⟨x, hx⟩ : ∃ x, x = iv g (val xs) := ⟨_, rfl⟩
  obtain ⟨y, hy⟩ : ∃ y, y = iv h (val ys) := ⟨_, rfl⟩
  have L_x := iv_len hx h1
  have L_y := iv_len hy h2
  have hy0 : y ≠ 0 := by rw [hy]; have := iv_abs h (val ys); omega
  have HX := Lib.hid hx
  have HY := Lib.hid hy
  have H0 := Lib.hid h0
  have HY0 := Lib.hid hy0
  clear hx hy h0 hy0
  go_enter Try.func6, Try.ntmps6
  go_wp2_with fail
  have g_h1 := h1
  have g_h2 := h2
  have hw : Fr [] w ((w.alloc (Obj.cells #[.bool g, .slice p n c] 40)).alloc (Obj.cells #[.bool h, .slice q m d] 40)) := ((Fr.refl _ _).alloc _).alloc _
  have b0 : Bx ((w.alloc (Obj.cells #[.bool g, .slice p n c] 40)).alloc (Obj.cells #[.bool h, .slice q m d] 40)) w.heap.size 40 #[.bool g, .slice p n c] := (Bx.made' (by simp) _ _).kept ((Fr.refl _ _).alloc _)
  have b1 : Bx ((w.alloc (Obj.cells #[.bool g, .slice p n c] 40)).alloc (Obj.cells #[.bool h, .slice q m d] 40)) (w.heap.size + 1) 40 #[.bool h, .slice q m d] := (Bx.made' (by simp) _ _).kept (Fr.refl _ _)
  generalize ((w.alloc (Obj.cells #[.bool g, .slice p n c] 40)).alloc (Obj.cells #[.bool h, .slice q m d] 40)) = W at *
  have hbs := b1.lt
  replace h1 := h1.kept hw
  replace h2 := h2.kept hw
  have c_b0_0 := b0.cell (j := 0) rfl
  have f_b0_0 := b0.free 0
  have c_b0_1 := b0.cell (j := 1) rfl
  have f_b0_1 := b0.free 1
  have c_b1_0 := b1.cell (j := 0) rfl
  have f_b1_0 := b1.free 0
  have c_b1_1 := b1.cell (j := 1) rfl
  have f_b1_1 := b1.free 1
  go_wp2_with fail
  clear c_b0_0 f_b0_0 c_b0_1 f_b0_1 c_b1_0 f_b1_0 c_b1_1 f_b1_1
  refine (small_yes _ _ _ _ _ B1).mono ?_
  rintro e V1 ⟨rfl, ff⟩
  have hsz1 := ff.size
  replace hw := hw.trans ff (by simp)
  replace h1 := h1.kept ff
  replace h2 := h2.kept ff
  replace b0 := b0.kept ff
  replace b1 := b1.kept ff
  clear ff
  have c_b0_0 := b0.cell (j := 0) rfl
  have f_b0_0 := b0.free 0
  have c_b0_1 := b0.cell (j := 1) rfl
  have f_b0_1 := b0.free 1
  have c_b1_0 := b1.cell (j := 0) rfl
  have f_b1_0 := b1.free 0
  have c_b1_1 := b1.cell (j := 1) rfl
  have f_b1_1 := b1.free 1
  go_wp2_with fail
  clear c_b0_0 f_b0_0 c_b0_1 f_b0_1 c_b1_0 f_b1_0 c_b1_1 f_b1_1
  refine (small_yes _ _ _ _ _ B2).mono ?_
  rintro e V2 ⟨rfl, ff⟩
  have hsz2 := ff.size
  replace hw := hw.trans ff (by simp)
  replace h1 := h1.kept ff
  replace h2 := h2.kept ff
  replace b0 := b0.kept ff
  replace b1 := b1.kept ff
  clear ff
  obtain ⟨s_qq, hs_qq⟩ : ∃ b, decide (x / y < 0) = b := ⟨_, rfl⟩
  obtain ⟨M_qq, hm_qq⟩ : ∃ M, (x / y).natAbs = M := ⟨_, rfl⟩
  have L_qq := len_div x y
  rw [hm_qq] at L_qq
  have he_qq : iv s_qq (val (dg M_qq)) = x / y := by rw [val_dg]; exact iv_eq hs_qq hm_qq
  have HS_qq := Lib.hid hs_qq
  have HM_qq := Lib.hid hm_qq
  have HE_qq := Lib.hid he_qq
  clear hs_qq hm_qq he_qq
  obtain ⟨s_rr, hs_rr⟩ : ∃ b, decide (x % y < 0) = b := ⟨_, rfl⟩
  obtain ⟨M_rr, hm_rr⟩ : ∃ M, (x % y).natAbs = M := ⟨_, rfl⟩
  have L_rr := len_mod (x := x) HY0.out
  rw [hm_rr] at L_rr
  have he_rr : iv s_rr (val (dg M_rr)) = x % y := by rw [val_dg]; exact iv_eq hs_rr hm_rr
  have HS_rr := Lib.hid hs_rr
  have HM_rr := Lib.hid hm_rr
  have HE_rr := Lib.hid he_rr
  clear hs_rr hm_rr he_rr
  obtain ⟨s_ay, hs_ay⟩ : ∃ b, decide ((y.natAbs : Int) < 0) = b := ⟨_, rfl⟩
  obtain ⟨M_ay, hm_ay⟩ : ∃ M, ((y.natAbs : Int)).natAbs = M := ⟨_, rfl⟩
  have L_ay := Nat.le_of_eq (congrArg (fun k => (dg k).length) (Int.natAbs_natCast y.natAbs))
  rw [hm_ay] at L_ay
  have he_ay : iv s_ay (val (dg M_ay)) = (y.natAbs : Int) := by rw [val_dg]; exact iv_eq hs_ay hm_ay
  have HS_ay := Lib.hid hs_ay
  have HM_ay := Lib.hid hm_ay
  have HE_ay := Lib.hid he_ay
  clear hs_ay hm_ay he_ay
  obtain ⟨s_pp, hs_pp⟩ : ∃ b, decide (x / y * y < 0) = b := ⟨_, rfl⟩
  obtain ⟨M_pp, hm_pp⟩ : ∃ M, (x / y * y).natAbs = M := ⟨_, rfl⟩
  have L_pp := len_mul (x / y) y
  rw [hm_pp] at L_pp
  have he_pp : iv s_pp (val (dg M_pp)) = x / y * y := by rw [val_dg]; exact iv_eq hs_pp hm_pp
  have HS_pp := Lib.hid hs_pp
  have HM_pp := Lib.hid hm_pp
  have HE_pp := Lib.hid he_pp
  clear hs_pp hm_pp he_pp
  rw [HM_qq.out] at L_pp
  obtain ⟨s_xx, hs_xx⟩ : ∃ b, decide (x < 0) = b := ⟨_, rfl⟩
  obtain ⟨M_xx, hm_xx⟩ : ∃ M, (x).natAbs = M := ⟨_, rfl⟩
  have L_xx := L_x
  rw [hm_xx] at L_xx
  have he_xx : iv s_xx (val (dg M_xx)) = x := by rw [val_dg]; exact iv_eq hs_xx hm_xx
  have HS_xx := Lib.hid hs_xx
  have HM_xx := Lib.hid hm_xx
  have HE_xx := Lib.hid he_xx
  clear hs_xx hm_xx he_xx
  have HMX : Hid (x / y * y + x % y = x) := by show _ = _; rw [Int.mul_comm]; exact Int.mul_ediv_add_emod x y
  have hrs : 0 ≤ (iv s_rr (val (dg M_rr))).sign := by rw [HE_rr.out]; exact sign_nn (Int.emod_nonneg x HY0.out)
  obtain ⟨SR, hSR⟩ : ∃ z, (iv s_rr (val (dg M_rr))).sign = z := ⟨_, rfl⟩
  rw [hSR] at hrs
  have HSR := Lib.hid hSR
  have hrd : decide (0 ≤ SR) = true := decide_eq_true hrs
  clear hSR
  have c_b0_0 := b0.cell (j := 0) rfl
  have f_b0_0 := b0.free 0
  have c_b0_1 := b0.cell (j := 1) rfl
  have f_b0_1 := b0.free 1
  have c_b1_0 := b1.cell (j := 0) rfl
  have f_b1_0 := b1.free 0
  have c_b1_1 := b1.cell (j := 1) rfl
  have f_b1_1 := b1.free 1
  go_wp2_with fail
  clear c_b0_0 f_b0_0 c_b0_1 f_b0_1 c_b1_0 f_b1_0 c_b1_1 f_b1_1
  refine (calls_rd (b := s_qq) (m := M_qq) (b' := s_rr) (m' := M_rr) (idiv_any _ _ _ _ _ _ _ _ _ _ _ h1 h2 (by omega) (by omega) H0.out) (by rw [← HX.out, ← HY.out]; exact HS_qq.out) (by rw [← HX.out, ← HY.out]; exact HM_qq.out) (by rw [← HX.out, ← HY.out]; exact HS_rr.out) (by rw [← HX.out, ← HY.out]; exact HM_rr.out)).mono ?_
  rintro e V5 ⟨pa1, ca1, pa2, ca2, rfl, oa1, oa2, ff⟩
  replace hw := hw.trans ff (by simp)
  replace h1 := h1.kept ff
  replace h2 := h2.kept ff
  replace b0 := b0.kept ff
  replace b1 := b1.kept ff
  clear ff
  have hal : Fr [] V5 ((V5.alloc (Obj.cells #[.bool s_qq, .slice pa1 (dg M_qq).length ca1] 40)).alloc (Obj.cells #[.bool s_rr, .slice pa2 (dg M_rr).length ca2] 40)) := (Fr.new _).alloc _
  have d0 : Bx ((V5.alloc (Obj.cells #[.bool s_qq, .slice pa1 (dg M_qq).length ca1] 40)).alloc (Obj.cells #[.bool s_rr, .slice pa2 (dg M_rr).length ca2] 40)) V5.heap.size 40 #[.bool s_qq, .slice pa1 (dg M_qq).length ca1] := (Bx.made _ _ _).kept (Fr.new _)
  have d1 : Bx ((V5.alloc (Obj.cells #[.bool s_qq, .slice pa1 (dg M_qq).length ca1] 40)).alloc (Obj.cells #[.bool s_rr, .slice pa2 (dg M_rr).length ca2] 40)) (V5.heap.size + 1) 40 #[.bool s_rr, .slice pa2 (dg M_rr).length ca2] := Bx.made' (by simp) _ _
  have cx_b0_0 := (b0.kept hal).cell (j := 0) rfl
  have cx_b0_1 := (b0.kept hal).cell (j := 1) rfl
  have cx_b1_0 := (b1.kept hal).cell (j := 0) rfl
  have cx_b1_1 := (b1.kept hal).cell (j := 1) rfl
  have cx_d0_0 := (d0).cell (j := 0) rfl
  have cx_d0_1 := (d0).cell (j := 1) rfl
  have cx_d1_0 := (d1).cell (j := 0) rfl
  have cx_d1_1 := (d1).cell (j := 1) rfl
  have c_b0_0 := b0.cell (j := 0) rfl
  have f_b0_0 := b0.free 0
  have c_b0_1 := b0.cell (j := 1) rfl
  have f_b0_1 := b0.free 1
  have c_b1_0 := b1.cell (j := 0) rfl
  have f_b1_0 := b1.free 0
  have c_b1_1 := b1.cell (j := 1) rfl
  have f_b1_1 := b1.free 1
  go_wp2_with fail
  clear c_b0_0 f_b0_0 c_b0_1 f_b0_1 c_b1_0 f_b1_0 c_b1_1 f_b1_1
  clear cx_b0_0 cx_b0_1 cx_b1_0 cx_b1_1 cx_d0_0 cx_d0_1 cx_d1_0 cx_d1_1
  replace hw := hw.trans hal (by simp)
  replace h1 := h1.kept hal
  replace h2 := h2.kept hal
  replace oa1 := oa1.kept hal
  replace oa2 := oa2.kept hal
  replace b0 := b0.kept hal
  replace b1 := b1.kept hal
  clear hal
  generalize ((V5.alloc (Obj.cells #[.bool s_qq, .slice pa1 (dg M_qq).length ca1] 40)).alloc (Obj.cells #[.bool s_rr, .slice pa2 (dg M_rr).length ca2] 40)) = V5x at *
  refine (calls_rd (b := s_qq) (m := M_qq) (b' := s_rr) (m' := M_rr) (rdiv_any _ _ _ _ _ _ _ _ _ _ _ h1 h2 (by omega) (by omega) H0.out) (by rw [← HX.out, ← HY.out]; exact HS_qq.out) (by rw [← HX.out, ← HY.out]; exact HM_qq.out) (by rw [← HX.out, ← HY.out]; exact HS_rr.out) (by rw [← HX.out, ← HY.out]; exact HM_rr.out)).mono ?_
  rintro e V9 ⟨pb1, cb1, pb2, cb2, rfl, ob1, ob2, ff⟩
  replace hw := hw.trans ff (by simp)
  replace h1 := h1.kept ff
  replace h2 := h2.kept ff
  replace oa1 := oa1.kept ff
  replace oa2 := oa2.kept ff
  replace b0 := b0.kept ff
  replace b1 := b1.kept ff
  replace d0 := d0.kept ff
  replace d1 := d1.kept ff
  clear ff
  have hal : Fr [] V9 ((V9.alloc (Obj.cells #[.bool s_qq, .slice pb1 (dg M_qq).length cb1] 40)).alloc (Obj.cells #[.bool s_rr, .slice pb2 (dg M_rr).length cb2] 40)) := (Fr.new _).alloc _
  have e0 : Bx ((V9.alloc (Obj.cells #[.bool s_qq, .slice pb1 (dg M_qq).length cb1] 40)).alloc (Obj.cells #[.bool s_rr, .slice pb2 (dg M_rr).length cb2] 40)) V9.heap.size 40 #[.bool s_qq, .slice pb1 (dg M_qq).length cb1] := (Bx.made _ _ _).kept (Fr.new _)
  have e1 : Bx ((V9.alloc (Obj.cells #[.bool s_qq, .slice pb1 (dg M_qq).length cb1] 40)).alloc (Obj.cells #[.bool s_rr, .slice pb2 (dg M_rr).length cb2] 40)) (V9.heap.size + 1) 40 #[.bool s_rr, .slice pb2 (dg M_rr).length cb2] := Bx.made' (by simp) _ _
  have cx_b0_0 := (b0.kept hal).cell (j := 0) rfl
  have cx_b0_1 := (b0.kept hal).cell (j := 1) rfl
  have cx_b1_0 := (b1.kept hal).cell (j := 0) rfl
  have cx_b1_1 := (b1.kept hal).cell (j := 1) rfl
  have cx_d0_0 := (d0.kept hal).cell (j := 0) rfl
  have cx_d0_1 := (d0.kept hal).cell (j := 1) rfl
  have cx_d1_0 := (d1.kept hal).cell (j := 0) rfl
  have cx_d1_1 := (d1.kept hal).cell (j := 1) rfl
  have cx_e0_0 := (e0).cell (j := 0) rfl
  have cx_e0_1 := (e0).cell (j := 1) rfl
  have cx_e1_0 := (e1).cell (j := 0) rfl
  have cx_e1_1 := (e1).cell (j := 1) rfl
  have c_b0_0 := b0.cell (j := 0) rfl
  have f_b0_0 := b0.free 0
  have c_b0_1 := b0.cell (j := 1) rfl
  have f_b0_1 := b0.free 1
  have c_b1_0 := b1.cell (j := 0) rfl
  have f_b1_0 := b1.free 0
  have c_b1_1 := b1.cell (j := 1) rfl
  have f_b1_1 := b1.free 1
  have c_d0_0 := d0.cell (j := 0) rfl
  have f_d0_0 := d0.free 0
  have c_d0_1 := d0.cell (j := 1) rfl
  have f_d0_1 := d0.free 1
  have c_d1_0 := d1.cell (j := 0) rfl
  have f_d1_0 := d1.free 0
  have c_d1_1 := d1.cell (j := 1) rfl
  have f_d1_1 := d1.free 1
  go_wp2_with fail
  clear c_b0_0 f_b0_0 c_b0_1 f_b0_1 c_b1_0 f_b1_0 c_b1_1 f_b1_1 c_d0_0 f_d0_0 c_d0_1 f_d0_1 c_d1_0 f_d1_0 c_d1_1 f_d1_1
  clear cx_b0_0 cx_b0_1 cx_b1_0 cx_b1_1 cx_d0_0 cx_d0_1 cx_d1_0 cx_d1_1 cx_e0_0 cx_e0_1 cx_e1_0 cx_e1_1
  replace hw := hw.trans hal (by simp)
  replace h1 := h1.kept hal
  replace h2 := h2.kept hal
  replace oa1 := oa1.kept hal
  replace oa2 := oa2.kept hal
  replace ob1 := ob1.kept hal
  replace ob2 := ob2.kept hal
  replace b0 := b0.kept hal
  replace b1 := b1.kept hal
  replace d0 := d0.kept hal
  replace d1 := d1.kept hal
  clear hal
  generalize ((V9.alloc (Obj.cells #[.bool s_qq, .slice pb1 (dg M_qq).length cb1] 40)).alloc (Obj.cells #[.bool s_rr, .slice pb2 (dg M_rr).length cb2] 40)) = V9x at *
  refine (isame_any s_qq _ _ _ _ _ (dg M_qq) _ oa1.sl ob1.sl).mono ?_
  rintro e V10 ⟨rfl, ff⟩
  replace hw := hw.trans ff (by simp)
  replace h1 := h1.kept ff
  replace h2 := h2.kept ff
  replace oa1 := oa1.kept ff
  replace oa2 := oa2.kept ff
  replace ob1 := ob1.kept ff
  replace ob2 := ob2.kept ff
  replace b0 := b0.kept ff
  replace b1 := b1.kept ff
  replace d0 := d0.kept ff
  replace d1 := d1.kept ff
  replace e0 := e0.kept ff
  replace e1 := e1.kept ff
  clear ff
  have c_b0_0 := b0.cell (j := 0) rfl
  have f_b0_0 := b0.free 0
  have c_b0_1 := b0.cell (j := 1) rfl
  have f_b0_1 := b0.free 1
  have c_b1_0 := b1.cell (j := 0) rfl
  have f_b1_0 := b1.free 0
  have c_b1_1 := b1.cell (j := 1) rfl
  have f_b1_1 := b1.free 1
  have c_d0_0 := d0.cell (j := 0) rfl
  have f_d0_0 := d0.free 0
  have c_d0_1 := d0.cell (j := 1) rfl
  have f_d0_1 := d0.free 1
  have c_d1_0 := d1.cell (j := 0) rfl
  have f_d1_0 := d1.free 0
  have c_d1_1 := d1.cell (j := 1) rfl
  have f_d1_1 := d1.free 1
  have c_e0_0 := e0.cell (j := 0) rfl
  have f_e0_0 := e0.free 0
  have c_e0_1 := e0.cell (j := 1) rfl
  have f_e0_1 := e0.free 1
  have c_e1_0 := e1.cell (j := 0) rfl
  have f_e1_0 := e1.free 0
  have c_e1_1 := e1.cell (j := 1) rfl
  have f_e1_1 := e1.free 1
  go_wp2_with fail
  clear c_b0_0 f_b0_0 c_b0_1 f_b0_1 c_b1_0 f_b1_0 c_b1_1 f_b1_1 c_d0_0 f_d0_0 c_d0_1 f_d0_1 c_d1_0 f_d1_0 c_d1_1 f_d1_1 c_e0_0 f_e0_0 c_e0_1 f_e0_1 c_e1_0 f_e1_0 c_e1_1 f_e1_1
  refine (isame_any s_rr _ _ _ _ _ (dg M_rr) _ oa2.sl ob2.sl).mono ?_
  rintro e V11 ⟨rfl, ff⟩
  have hsz11 := ff.size
  replace hw := hw.trans ff (by simp)
  replace h1 := h1.kept ff
  replace h2 := h2.kept ff
  replace oa1 := oa1.kept ff
  replace oa2 := oa2.kept ff
  replace ob1 := ob1.kept ff
  replace ob2 := ob2.kept ff
  replace b0 := b0.kept ff
  replace b1 := b1.kept ff
  replace d0 := d0.kept ff
  replace d1 := d1.kept ff
  replace e0 := e0.kept ff
  replace e1 := e1.kept ff
  clear ff
  have c_b0_0 := b0.cell (j := 0) rfl
  have f_b0_0 := b0.free 0
  have c_b0_1 := b0.cell (j := 1) rfl
  have f_b0_1 := b0.free 1
  have c_b1_0 := b1.cell (j := 0) rfl
  have f_b1_0 := b1.free 0
  have c_b1_1 := b1.cell (j := 1) rfl
  have f_b1_1 := b1.free 1
  have c_d0_0 := d0.cell (j := 0) rfl
  have f_d0_0 := d0.free 0
  have c_d0_1 := d0.cell (j := 1) rfl
  have f_d0_1 := d0.free 1
  have c_d1_0 := d1.cell (j := 0) rfl
  have f_d1_0 := d1.free 0
  have c_d1_1 := d1.cell (j := 1) rfl
  have f_d1_1 := d1.free 1
  have c_e0_0 := e0.cell (j := 0) rfl
  have f_e0_0 := e0.free 0
  have c_e0_1 := e0.cell (j := 1) rfl
  have f_e0_1 := e0.free 1
  have c_e1_0 := e1.cell (j := 0) rfl
  have f_e1_0 := e1.free 0
  have c_e1_1 := e1.cell (j := 1) rfl
  have f_e1_1 := e1.free 1
  go_wp2_with fail
  clear c_b0_0 f_b0_0 c_b0_1 f_b0_1 c_b1_0 f_b1_0 c_b1_1 f_b1_1 c_d0_0 f_d0_0 c_d0_1 f_d0_1 c_d1_0 f_d1_0 c_d1_1 f_d1_1 c_e0_0 f_e0_0 c_e0_1 f_e0_1 c_e1_0 f_e1_0 c_e1_1 f_e1_1
  clear ob1 ob2
  have Hw := hw.drew
  have Nb0 := b0.kept (Fr.refl [] V11).drew
  have Nb1 := b1.kept (Fr.refl [] V11).drew
  have Nd0 := d0.kept (Fr.refl [] V11).drew
  have Nd1 := d1.kept (Fr.refl [] V11).drew
  have Nh1 := h1.kept (Fr.refl [] V11).drew
  have Nh2 := h2.kept (Fr.refl [] V11).drew
  have Noa1 := oa1.kept (Fr.refl [] V11).drew
  have Noa2 := oa2.kept (Fr.refl [] V11).drew
  go_region_held3 (fun w' => w'.cell? ⟨w.heap.size, 0, none⟩ = some (.bool g) ∧ w'.cell? ⟨w.heap.size, 1, none⟩ = some (.slice p n c) ∧ w'.cell? ⟨w.heap.size + 1, 0, none⟩ = some (.bool h) ∧ w'.cell? ⟨w.heap.size + 1, 1, none⟩ = some (.slice q m d) ∧ w'.cell? ⟨V5.heap.size, 0, none⟩ = some (.bool s_qq) ∧ w'.cell? ⟨V5.heap.size, 1, none⟩ = some (.slice pa1 (dg M_qq).length ca1) ∧ w'.cell? ⟨V5.heap.size + 1, 0, none⟩ = some (.bool s_rr) ∧ w'.cell? ⟨V5.heap.size + 1, 1, none⟩ = some (.slice pa2 (dg M_rr).length ca2)) (first | exact ⟨(Nb0).cell (j := 0) rfl, (Nb0).cell (j := 1) rfl, (Nb1).cell (j := 0) rfl, (Nb1).cell (j := 1) rfl, (Nd0).cell (j := 0) rfl, (Nd0).cell (j := 1) rfl, (Nd1).cell (j := 0) rfl, (Nd1).cell (j := 1) rfl⟩ | exact ⟨(Nb0.kept (Fr.new _)).cell (j := 0) rfl, (Nb0.kept (Fr.new _)).cell (j := 1) rfl, (Nb1.kept (Fr.new _)).cell (j := 0) rfl, (Nb1.kept (Fr.new _)).cell (j := 1) rfl, (Nd0.kept (Fr.new _)).cell (j := 0) rfl, (Nd0.kept (Fr.new _)).cell (j := 1) rfl, (Nd1.kept (Fr.new _)).cell (j := 0) rfl, (Nd1.kept (Fr.new _)).cell (j := 1) rfl⟩)
    (first
    | (go_at_call 27; (with_reducible refine (awake2_any _).mono ?_); rintro e V ⟨rfl, ff⟩; replace Hw := Hw.trans ff (by simp); replace Nb0 := Nb0.kept ff; replace Nb1 := Nb1.kept ff; replace Nd0 := Nd0.kept ff; replace Nd1 := Nd1.kept ff; replace Nh1 := Nh1.kept ff; replace Nh2 := Nh2.kept ff; replace Noa1 := Noa1.kept ff; replace Noa2 := Noa2.kept ff; clear ff)
    | (go_at_call 32; (with_reducible refine ((isign_any s_rr _ _ _ (dg M_rr) _ Noa2.sl (by omega))).mono ?_); rw [HSR.out]; rintro e V ⟨rfl, ff⟩; replace Hw := Hw.trans ff (by simp); replace Nb0 := Nb0.kept ff; replace Nb1 := Nb1.kept ff; replace Nd0 := Nd0.kept ff; replace Nd1 := Nd1.kept ff; replace Nh1 := Nh1.kept ff; replace Nh2 := Nh2.kept ff; replace Noa1 := Noa1.kept ff; replace Noa2 := Noa2.kept ff; clear ff)
    | (go_at_call 41; (with_reducible refine (calls_rj (b := s_ay) (m := M_ay) (iabs_v h _ _ _ _ _ Nh2 (by omega)) (by rw [← HY.out]) HS_ay.out HM_ay.out).mono ?_); rintro e V ⟨p_oab, c_oab, rfl, oab, ff⟩; replace Hw := Hw.trans ff (by simp); replace Nb0 := Nb0.kept ff; replace Nb1 := Nb1.kept ff; replace Nd0 := Nd0.kept ff; replace Nd1 := Nd1.kept ff; replace Nh1 := Nh1.kept ff; replace Nh2 := Nh2.kept ff; replace Noa1 := Noa1.kept ff; replace Noa2 := Noa2.kept ff; clear ff)
    | (go_at_call 34; (with_reducible refine (icmp_any s_rr s_ay _ _ _ _ _ _ (dg M_rr) (dg M_ay) _ Noa2.sl oab.sl (by omega) (by omega)).mono ?_); rw [HE_rr.out, HE_ay.out, cmp_mod HY0.out]; rintro e V ⟨rfl, ff⟩; replace Hw := Hw.trans ff (by simp); replace Nb0 := Nb0.kept ff; replace Nb1 := Nb1.kept ff; replace Nd0 := Nd0.kept ff; replace Nd1 := Nd1.kept ff; replace Nh1 := Nh1.kept ff; replace Nh2 := Nh2.kept ff; replace Noa1 := Noa1.kept ff; replace Noa2 := Noa2.kept ff; try replace oab := oab.kept ff; clear ff)
    | (go_at_call 47; (with_reducible refine (calls_rj (b := s_pp) (m := M_pp) (imul_any s_qq h _ _ _ _ _ _ _ _ _ Noa1.sl Nh2 (by omega) (by omega)) (by rw [HE_qq.out, ← HY.out]) HS_pp.out HM_pp.out).mono ?_); rintro e V ⟨p_opp, c_opp, rfl, opp, ff⟩; replace Hw := Hw.trans ff (by simp); replace Nb0 := Nb0.kept ff; replace Nb1 := Nb1.kept ff; replace Nd0 := Nd0.kept ff; replace Nd1 := Nd1.kept ff; replace Nh1 := Nh1.kept ff; replace Nh2 := Nh2.kept ff; replace Noa1 := Noa1.kept ff; replace Noa2 := Noa2.kept ff; try replace oab := oab.kept ff; clear ff)
    | (go_at_call 43; (with_reducible refine (calls_rj (b := s_xx) (m := M_xx) (iadd_any s_pp s_rr _ _ _ _ _ _ _ _ _ opp.sl Noa2.sl (by omega) (by omega)) (by rw [HE_pp.out, HE_rr.out]; exact HMX.out) HS_xx.out HM_xx.out).mono ?_); rintro e V ⟨p_oxx, c_oxx, rfl, oxx, ff⟩; replace Hw := Hw.trans ff (by simp); replace Nb0 := Nb0.kept ff; replace Nb1 := Nb1.kept ff; replace Nd0 := Nd0.kept ff; replace Nd1 := Nd1.kept ff; replace Nh1 := Nh1.kept ff; replace Nh2 := Nh2.kept ff; replace Noa1 := Noa1.kept ff; replace Noa2 := Noa2.kept ff; try replace oab := oab.kept ff; try replace opp := opp.kept ff; clear ff)
    | (go_at_call 34; (with_reducible refine (icmp_any s_xx g _ _ _ _ _ _ (dg M_xx) xs _ oxx.sl Nh1 (by omega) (by omega)).mono ?_); rw [HE_xx.out, ← HX.out, cmpZ_refl]; rintro e V ⟨rfl, ff⟩; replace Hw := Hw.trans ff (by simp); replace Nb0 := Nb0.kept ff; replace Nb1 := Nb1.kept ff; replace Nd0 := Nd0.kept ff; replace Nd1 := Nd1.kept ff; replace Nh1 := Nh1.kept ff; replace Nh2 := Nh2.kept ff; replace Noa1 := Noa1.kept ff; replace Noa2 := Noa2.kept ff; try replace oab := oab.kept ff; try replace opp := opp.kept ff; try replace oxx := oxx.kept ff; clear ff))
  go_wp2
  go_ret
  exact ⟨rfl, Hw⟩

theorem idivides_small (g h : Bool) (p q : Option Addr) (n c m d : Nat) (xs ys : List Nat) (w : World) (h1 : Sl w p n c xs) (h2 : Sl w q m d ys) (B1 : n ≤ 10) (B2 : m ≤ 10) :
    Calls Try.prog 6 #[iw g p n c, iw h q m d] w fun e w' => e = .returned (.bool true) ∧ Fr [] w w' := by
  by_cases h0 : val ys = 0
  · exact idivides_zero g h p q n c m d xs ys w h1 h2 B1 B2 h0
  · exact idivides_pos g h p q n c m d xs ys w h1 h2 B1 B2 h0

set_option maxRecDepth 100000 in
theorem idivides_any (g h : Bool) (p q : Option Addr) (n c m d : Nat) (xs ys : List Nat) (w : World) (h1 : Sl w p n c xs) (h2 : Sl w q m d ys) :
    Calls Try.prog 6 #[iw g p n c, iw h q m d] w fun e w' => e = .returned (.bool true) ∧ Fr [] w w' := by
  by_cases B1 : n ≤ 10
  case' neg =>
    go_enter Try.func6, Try.ntmps6
    go_wp2_with fail
    have hw : Fr [] w ((w.alloc (Obj.cells #[.bool g, .slice p n c] 40)).alloc (Obj.cells #[.bool h, .slice q m d] 40)) := ((Fr.refl _ _).alloc _).alloc _
    have b0 : Bx ((w.alloc (Obj.cells #[.bool g, .slice p n c] 40)).alloc (Obj.cells #[.bool h, .slice q m d] 40)) w.heap.size 40 #[.bool g, .slice p n c] := (Bx.made' (by simp) _ _).kept ((Fr.refl _ _).alloc _)
    have b1 : Bx ((w.alloc (Obj.cells #[.bool g, .slice p n c] 40)).alloc (Obj.cells #[.bool h, .slice q m d] 40)) (w.heap.size + 1) 40 #[.bool h, .slice q m d] := (Bx.made' (by simp) _ _).kept (Fr.refl _ _)
    generalize ((w.alloc (Obj.cells #[.bool g, .slice p n c] 40)).alloc (Obj.cells #[.bool h, .slice q m d] 40)) = W at *
    have hbs := b1.lt
    have c_b0_0 := b0.cell (j := 0) rfl
    have f_b0_0 := b0.free 0
    have c_b0_1 := b0.cell (j := 1) rfl
    have f_b0_1 := b0.free 1
    have c_b1_0 := b1.cell (j := 0) rfl
    have f_b1_0 := b1.free 0
    have c_b1_1 := b1.cell (j := 1) rfl
    have f_b1_1 := b1.free 1
    go_wp2_with fail
    clear c_b0_0 f_b0_0 c_b0_1 f_b0_1 c_b1_0 f_b1_0 c_b1_1 f_b1_1
    refine (small_no _ _ _ _ _ (by omega)).mono ?_
    rintro e V1 ⟨rfl, ff⟩
    have hsz1 := ff.size
    replace hw := hw.trans ff (by simp)
    replace b0 := b0.kept ff
    replace b1 := b1.kept ff
    clear ff
    have c_b0_0 := b0.cell (j := 0) rfl
    have f_b0_0 := b0.free 0
    have c_b0_1 := b0.cell (j := 1) rfl
    have f_b0_1 := b0.free 1
    have c_b1_0 := b1.cell (j := 0) rfl
    have f_b1_0 := b1.free 0
    have c_b1_1 := b1.cell (j := 1) rfl
    have f_b1_1 := b1.free 1
    go_wp2_with fail
    clear c_b0_0 f_b0_0 c_b0_1 f_b0_1 c_b1_0 f_b1_0 c_b1_1 f_b1_1
    refine (awake2_any _).mono ?_
    rintro e V2 ⟨rfl, ff⟩
    have hsz2 := ff.size
    replace hw := hw.trans ff (by simp)
    replace b0 := b0.kept ff
    replace b1 := b1.kept ff
    clear ff
    have c_b0_0 := b0.cell (j := 0) rfl
    have f_b0_0 := b0.free 0
    have c_b0_1 := b0.cell (j := 1) rfl
    have f_b0_1 := b0.free 1
    have c_b1_0 := b1.cell (j := 0) rfl
    have f_b1_0 := b1.free 0
    have c_b1_1 := b1.cell (j := 1) rfl
    have f_b1_1 := b1.free 1
    go_wp2
    go_ret
    exact ⟨rfl, hw⟩
  by_cases B2 : m ≤ 10
  case' neg =>
    go_enter Try.func6, Try.ntmps6
    go_wp2_with fail
    have hw : Fr [] w ((w.alloc (Obj.cells #[.bool g, .slice p n c] 40)).alloc (Obj.cells #[.bool h, .slice q m d] 40)) := ((Fr.refl _ _).alloc _).alloc _
    have b0 : Bx ((w.alloc (Obj.cells #[.bool g, .slice p n c] 40)).alloc (Obj.cells #[.bool h, .slice q m d] 40)) w.heap.size 40 #[.bool g, .slice p n c] := (Bx.made' (by simp) _ _).kept ((Fr.refl _ _).alloc _)
    have b1 : Bx ((w.alloc (Obj.cells #[.bool g, .slice p n c] 40)).alloc (Obj.cells #[.bool h, .slice q m d] 40)) (w.heap.size + 1) 40 #[.bool h, .slice q m d] := (Bx.made' (by simp) _ _).kept (Fr.refl _ _)
    generalize ((w.alloc (Obj.cells #[.bool g, .slice p n c] 40)).alloc (Obj.cells #[.bool h, .slice q m d] 40)) = W at *
    have hbs := b1.lt
    have c_b0_0 := b0.cell (j := 0) rfl
    have f_b0_0 := b0.free 0
    have c_b0_1 := b0.cell (j := 1) rfl
    have f_b0_1 := b0.free 1
    have c_b1_0 := b1.cell (j := 0) rfl
    have f_b1_0 := b1.free 0
    have c_b1_1 := b1.cell (j := 1) rfl
    have f_b1_1 := b1.free 1
    go_wp2_with fail
    clear c_b0_0 f_b0_0 c_b0_1 f_b0_1 c_b1_0 f_b1_0 c_b1_1 f_b1_1
    refine (small_yes _ _ _ _ _ B1).mono ?_
    rintro e V1 ⟨rfl, ff⟩
    have hsz1 := ff.size
    replace hw := hw.trans ff (by simp)
    replace b0 := b0.kept ff
    replace b1 := b1.kept ff
    clear ff
    have c_b0_0 := b0.cell (j := 0) rfl
    have f_b0_0 := b0.free 0
    have c_b0_1 := b0.cell (j := 1) rfl
    have f_b0_1 := b0.free 1
    have c_b1_0 := b1.cell (j := 0) rfl
    have f_b1_0 := b1.free 0
    have c_b1_1 := b1.cell (j := 1) rfl
    have f_b1_1 := b1.free 1
    go_wp2_with fail
    clear c_b0_0 f_b0_0 c_b0_1 f_b0_1 c_b1_0 f_b1_0 c_b1_1 f_b1_1
    refine (small_no _ _ _ _ _ (by omega)).mono ?_
    rintro e V2 ⟨rfl, ff⟩
    have hsz2 := ff.size
    replace hw := hw.trans ff (by simp)
    replace b0 := b0.kept ff
    replace b1 := b1.kept ff
    clear ff
    have c_b0_0 := b0.cell (j := 0) rfl
    have f_b0_0 := b0.free 0
    have c_b0_1 := b0.cell (j := 1) rfl
    have f_b0_1 := b0.free 1
    have c_b1_0 := b1.cell (j := 0) rfl
    have f_b1_0 := b1.free 0
    have c_b1_1 := b1.cell (j := 1) rfl
    have f_b1_1 := b1.free 1
    go_wp2_with fail
    clear c_b0_0 f_b0_0 c_b0_1 f_b0_1 c_b1_0 f_b1_0 c_b1_1 f_b1_1
    refine (awake2_any _).mono ?_
    rintro e V3 ⟨rfl, ff⟩
    have hsz3 := ff.size
    replace hw := hw.trans ff (by simp)
    replace b0 := b0.kept ff
    replace b1 := b1.kept ff
    clear ff
    have c_b0_0 := b0.cell (j := 0) rfl
    have f_b0_0 := b0.free 0
    have c_b0_1 := b0.cell (j := 1) rfl
    have f_b0_1 := b0.free 1
    have c_b1_0 := b1.cell (j := 0) rfl
    have f_b1_0 := b1.free 0
    have c_b1_1 := b1.cell (j := 1) rfl
    have f_b1_1 := b1.free 1
    go_wp2
    go_ret
    exact ⟨rfl, hw⟩
  exact idivides_small g h p q n c m d xs ys w h1 h2 B1 B2

set_option maxRecDepth 100000 in
theorem integerDivides_lifted (os : Os) (started : os.Started) (H : Type) (enc : TypeId × Value → H) :
    ReturnsInHanded {} Try.checked os 6 .any (Rows.integerDividesSpec.pre6 enc Try.prog Try.f6 Rows.integerDividesRow.domain false) (Rows.integerDividesSpec.post enc Try.prog Try.f6 false true false false) := by
  refine returnsInHanded_of_change (C := Try.checked) Try.own started (by kernel_rfl) Try.func6
    (ChangeSpec.witness6 (enc := enc) (C := Try.checked) false ⟨#[], #[.agg #[.bool false, .slice none 0 0], .agg #[.bool false, .slice none 0 0]], []⟩ 8 (by kernel_rfl) (by kernel_rfl) (by kernel_rfl) (by kernel_rfl)) ?_
  intro W base args ds gs before hval0 hW hcnd _
  have hval : ∀ (j : Nat) t v, Try.f6.params[j]? = some t → args[j]? = some v → Value.okWide Try.prog W .any base t v := hval0
  have hW' := hW
  obtain ⟨p, q, hA0, hV, rfl, hfz, hnd⟩ := hW
  have hA : DataW.TrodAll enc Try.prog W 0 (fun _ => true) true Try.f6.params.toList args.toList ds p := hA0
  rw [Try.params6] at hA hval
  obtain ⟨v0, v1, d0, d1, p0, p1, rfl, rfl, rfl, h0, h1⟩ := trodAll_two hA
  obtain ⟨rfl, rfl⟩ := trodVars_none hV
  obtain ⟨b0, a0, l0, c0, x0, rfl, k0⟩ := view_int (hval 0 40 v0 rfl rfl) h0
  obtain ⟨b1, a1, l1, c1, x1, rfl, k1⟩ := view_int (hval 1 40 v1 rfl rfl) h1
  clear hA0 hval0
  simp only [List.append_nil] at hW'
  have hlt : ∀ x ∈ p0 ++ p1, x.block < W.heap.size := fun x hx => hW'.lt x (by simpa using hx)
  refine (idivides_any b0 b1 a0 a1 l0 c0 l1 c1 x0 x1 W k0 k1).mono fun e W' ⟨he, hf⟩ => ?_
  subst he
  have hb := hf.below
  exact ⟨_, rfl, _, _, _, _, _, [], hW', trodAll_mk1 (shut_bool Try.underlying4 _),
    trodAll_mk2 (staysI h0 hb (fun x hx => hlt x (by simp [hx]))) (staysI h1 hb (fun x hx => hlt x (by simp [hx]))), rfl, hb.frame _, fun h => by cases h⟩

theorem integerDivides_holds : Rows.IntegerDividesSaid :=
  OpenClaim.holds_of_wide 6 Try.f6 rfl rfl rfl rfl rfl rfl rfl ⟨rfl, rfl, rfl, rfl, rfl⟩ rfl rfl rfl rfl rfl (by kernel_rfl) Try.func6 (by kernel_rfl)
    (of_decide_eq_true (by kernel_rfl)) (by unfold Func.isWrapper; first | (rw [if_pos (by decide +kernel)]; kernel_rfl) | (rw [if_neg (by decide +kernel)]; exact ⟨rfl, rfl⟩))
    (fun os started H enc _ => integerDivides_lifted os started H enc)

#print axioms integerDivides_holds

end Go.Proofs.Ytfjhdhmneknmkaa
