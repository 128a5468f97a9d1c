/- Integers: the document's own functions on api.Int: Trim, Neg, Abs, Add, Sub, Mul, Compare, Sign. Written by wip/gen/gen_int3.py. -/
import Derived.Test.YtfjhdhmneknmkaaInt2
namespace Go.Proofs.Ytfjhdhmneknmkaa
open Go.RowKit

theorem iv_of {g s : Bool} {a : Nat} (h : decide (iv g a < 0) = s) : iv g a = iv s a := by
  subst h
  cases g
  · rw [decide_eq_false (by rw [iv_pos]; omega)]
  · by_cases h : a = 0
    · subst h; rfl
    · rw [decide_eq_true (by rw [iv_neg]; omega)]
theorem cmpN_ge {a b : Nat} (h : b ≤ a) : decide (cmpN a b ≥ 0) = true := by
  by_cases e : a = b
  · rw [cmpN_eq e]; rfl
  · rw [cmpN_gt (by omega)]; rfl
theorem r_same {g h s : Bool} {a b : Nat} (ha : decide (iv g a < 0) = s) (hb : decide (iv h b < 0) = s) : iv g a + iv h b = iv s (val (dg a) + val (dg b)) := by
  rw [val_dg, val_dg, iv_of ha, iv_of hb, iv_add_same]
theorem r_less {g h s r : Bool} {a b : Nat} (ha : decide (iv g a < 0) = s) (hb : decide (iv h b < 0) = r) (e : r = !s) (l : a < b) : iv g a + iv h b = iv r (val (dg b) - val (dg a)) := by
  rw [val_dg, val_dg, iv_of ha, iv_of hb, iv_add_less e l]
theorem r_more {g h s r : Bool} {a b : Nat} (ha : decide (iv g a < 0) = s) (hb : decide (iv h b < 0) = r) (e : r = !s) (l : b ≤ a) : iv g a + iv h b = iv s (val (dg a) - val (dg b)) := by
  rw [val_dg, val_dg, iv_of ha, iv_of hb, iv_add_more e l]
theorem neg_sign_f {z : Int} (h : decide (z < 0) = false) {m : Nat} (hm : z.natAbs = m := by rw [iv_abs]) : decide (0 < m) = decide (-z < 0) := by
  have := of_decide_eq_false h
  exact decide_eq_decide.2 (by omega)
theorem neg_sign_t {z : Int} (h : decide (z < 0) = true) : false = decide (-z < 0) := by
  have := of_decide_eq_true h
  exact (decide_eq_false (by omega)).symm
theorem Fr.set2 {w W : World} {b : Nat} (h : Fr [] w W) (hb : w.heap.size ≤ b) (u0 u1 : Value) : Fr [] w ((W.setCell ⟨b, 0, none⟩ u0).setCell ⟨b, 1, none⟩ u1) :=
  h.trans (set2_fr W b u0 u1) (fun x hx hl => by have := List.mem_singleton.1 hx; omega)
theorem Ow.set2 {w : World} {base b : Nat} {p : Option Addr} {n c : Nat} {xs : List Nat} (h : Ow w base p n c xs) (hb : b < base) (u0 u1 : Value) : Ow ((w.setCell ⟨b, 0, none⟩ u0).setCell ⟨b, 1, none⟩ u1) base p n c xs :=
  h.keep (set2_fr w b u0 u1) (fun k h1 _ h2 => by have := List.mem_singleton.1 h2; omega)
theorem set1_fr (w : World) (b j : Nat) (u : Value) : Fr [b] w (w.setCell ⟨b, j, none⟩ u) := (Fr.refl _ _).setCell ⟨b, j, none⟩ _ (fun _ => List.mem_singleton.2 rfl)
theorem Fr.set1 {w W : World} {b : Nat} (h : Fr [] w W) (hb : w.heap.size ≤ b) (j : Nat) (u : Value) : Fr [] w (W.setCell ⟨b, j, none⟩ u) :=
  h.trans (set1_fr W b j u) (fun x hx hl => by have := List.mem_singleton.1 hx; omega)
theorem Ow.set1 {w : World} {base b : Nat} {p : Option Addr} {n c : Nat} {xs : List Nat} (h : Ow w base p n c xs) (hb : b < base) (j : Nat) (u : Value) : Ow (w.setCell ⟨b, j, none⟩ u) base p n c xs :=
  h.keep (set1_fr w b j u) (fun k h1 _ h2 => by have := List.mem_singleton.1 h2; omega)
theorem Bx.far1 {w : World} {b k : Nat} {T : TypeId} {vs : Array Value} (h : Bx w k T vs) (hb : k ≠ b) (j : Nat) (u : Value) : Bx (w.setCell ⟨b, j, none⟩ u) k T vs :=
  ((set1_fr w b j u).block k h.lt (fun h2 => hb (List.mem_singleton.1 h2))).trans h
theorem Bx.set1 {w : World} {b : Nat} {T : TypeId} {v0 v1 : Value} (h : Bx w b T #[v0, v1]) (u : Value) : Bx (w.setCell ⟨b, 0, none⟩ u) b T #[u, v1] := by
  have h' : w.heap[b]? = some (.cells #[v0, v1] T (0, 0)) := h
  unfold Bx
  simp [World.setCell, Array.getElem?_modify, h']
/-- A contract's end, its sign and size named. -/
theorem calls_ri {P : Program} {f : FuncId} {vs : Array Value} {w : World} {z : Int} (h : Calls P f vs w (RetI w z)) {b : Bool} {m : Nat} (hb : decide (z < 0) = b) (hm : z.natAbs = m) :
    Calls P f vs w fun e w' => ∃ p c, e = .returned (iw b p (dg m).length c) ∧ Ow w' w.heap.size p (dg m).length c (dg m) ∧ Fr [] w w' := by
  subst hb
  subst hm
  exact h
theorem set2_size (w : World) (b : Nat) (u0 u1 : Value) : ((w.setCell ⟨b, 0, none⟩ u0).setCell ⟨b, 1, none⟩ u1).heap.size = w.heap.size := by simp [World.setCell]
theorem Bx.far {w : World} {b k : Nat} {T : TypeId} {vs : Array Value} (h : Bx w k T vs) (hb : k ≠ b) (u0 u1 : Value) : Bx ((w.setCell ⟨b, 0, none⟩ u0).setCell ⟨b, 1, none⟩ u1) k T vs :=
  ((set2_fr w b u0 u1).block k h.lt (fun h2 => hb (List.mem_singleton.1 h2))).trans h

set_option maxRecDepth 100000 in
set_option maxHeartbeats 2000000 in
theorem rtrim_false (p : Option Addr) (n c : Nat) (xs : List Nat) (w : World) (h1 : Sl w p n c xs) (hn : n ≤ 1099511627776) :
    Calls Try.prog 38 #[iw false p n c] w (RetI w (iv false (val xs))) := by
  go_enter Try.func38, Try.ntmps38
  go_wp2_with fail
  have g_h1 := h1
  have hw : Fr [] w ((w.alloc (Obj.cells #[.bool false, .slice p n c] 40)).alloc (Obj.cells #[.bool false, .slice none 0 0] 40)) := ((Fr.refl _ _).alloc _).alloc _
  have b0 : Bx ((w.alloc (Obj.cells #[.bool false, .slice p n c] 40)).alloc (Obj.cells #[.bool false, .slice none 0 0] 40)) w.heap.size 40 #[.bool false, .slice p n c] := (Bx.made' (by simp) _ _).kept ((Fr.refl _ _).alloc _)
  have r0 : Bx ((w.alloc (Obj.cells #[.bool false, .slice p n c] 40)).alloc (Obj.cells #[.bool false, .slice none 0 0] 40)) (w.heap.size + 1) 40 #[.bool false, .slice none 0 0] := (Bx.made' (by simp) _ _).kept (Fr.refl _ _)
  generalize ((w.alloc (Obj.cells #[.bool false, .slice p n c] 40)).alloc (Obj.cells #[.bool false, .slice none 0 0] 40)) = W at *
  have hbs := r0.lt
  replace h1 := h1.kept hw
  have c_b0_0 := b0.cell (j := 0) rfl
  have f_b0_0 := b0.free 0
  have c_b0_1 := b0.cell (j := 1) rfl
  have f_b0_1 := b0.free 1
  have c_r0_0 := r0.cell (j := 0) rfl
  have f_r0_0 := r0.free 0
  have c_r0_1 := r0.cell (j := 1) rfl
  have f_r0_1 := r0.free 1
  go_wp2_with fail
  clear c_b0_0 f_b0_0 c_b0_1 f_b0_1 c_r0_0 f_r0_0 c_r0_1 f_r0_1
  refine (rcut_any _ _ _ _ _ h1 (by omega)).mono ?_
  rintro e V1 ⟨p1, cc1, rfl, o1, ff⟩
  have hsz1 := ff.size
  replace hw := hw.trans ff (by simp)
  replace h1 := h1.kept ff
  replace b0 := b0.kept ff
  replace r0 := r0.kept ff
  clear ff
  have c_b0_0 := b0.cell (j := 0) rfl
  have f_b0_0 := b0.free 0
  have c_b0_1 := b0.cell (j := 1) rfl
  have f_b0_1 := b0.free 1
  have c_r0_0 := r0.cell (j := 0) rfl
  have f_r0_0 := r0.free 0
  have c_r0_1 := r0.cell (j := 1) rfl
  have f_r0_1 := r0.free 1
  go_wp2
  exact fin_ret r0 hw o1 (by omega) (by omega) rfl (by rw [iv_abs]) (by simp only [iv_lt, Bool.false_and]) (fun W' c0 c1 => by simp [results, Try.results38, go_sem, c0, c1])

set_option maxRecDepth 100000 in
set_option maxHeartbeats 2000000 in
theorem rtrim_true (p : Option Addr) (n c : Nat) (xs : List Nat) (w : World) (h1 : Sl w p n c xs) (hn : n ≤ 1099511627776) :
    Calls Try.prog 38 #[iw true p n c] w (RetI w (iv true (val xs))) := by
  go_enter Try.func38, Try.ntmps38
  go_wp2_with fail
  have g_h1 := h1
  have hw : Fr [] w ((w.alloc (Obj.cells #[.bool true, .slice p n c] 40)).alloc (Obj.cells #[.bool false, .slice none 0 0] 40)) := ((Fr.refl _ _).alloc _).alloc _
  have b0 : Bx ((w.alloc (Obj.cells #[.bool true, .slice p n c] 40)).alloc (Obj.cells #[.bool false, .slice none 0 0] 40)) w.heap.size 40 #[.bool true, .slice p n c] := (Bx.made' (by simp) _ _).kept ((Fr.refl _ _).alloc _)
  have r0 : Bx ((w.alloc (Obj.cells #[.bool true, .slice p n c] 40)).alloc (Obj.cells #[.bool false, .slice none 0 0] 40)) (w.heap.size + 1) 40 #[.bool false, .slice none 0 0] := (Bx.made' (by simp) _ _).kept (Fr.refl _ _)
  generalize ((w.alloc (Obj.cells #[.bool true, .slice p n c] 40)).alloc (Obj.cells #[.bool false, .slice none 0 0] 40)) = W at *
  have hbs := r0.lt
  replace h1 := h1.kept hw
  have c_b0_0 := b0.cell (j := 0) rfl
  have f_b0_0 := b0.free 0
  have c_b0_1 := b0.cell (j := 1) rfl
  have f_b0_1 := b0.free 1
  have c_r0_0 := r0.cell (j := 0) rfl
  have f_r0_0 := r0.free 0
  have c_r0_1 := r0.cell (j := 1) rfl
  have f_r0_1 := r0.free 1
  go_wp2_with fail
  clear c_b0_0 f_b0_0 c_b0_1 f_b0_1 c_r0_0 f_r0_0 c_r0_1 f_r0_1
  refine (rcut_any _ _ _ _ _ h1 (by omega)).mono ?_
  rintro e V1 ⟨p1, cc1, rfl, o1, ff⟩
  have hsz1 := ff.size
  replace hw := hw.trans ff (by simp)
  replace h1 := h1.kept ff
  replace b0 := b0.kept ff
  replace r0 := r0.kept ff
  clear ff
  have c_b0_0 := b0.cell (j := 0) rfl
  have f_b0_0 := b0.free 0
  have c_b0_1 := b0.cell (j := 1) rfl
  have f_b0_1 := b0.free 1
  have c_r0_0 := r0.cell (j := 0) rfl
  have f_r0_0 := r0.free 0
  have c_r0_1 := r0.cell (j := 1) rfl
  have f_r0_1 := r0.free 1
  go_wp2
  exact fin_ret r0 hw o1 (by omega) (by omega) rfl (by rw [iv_abs]) (by simp only [dg_len_pos, iv_lt, Bool.true_and]) (fun W' c0 c1 => by simp [results, Try.results38, go_sem, c0, c1])

theorem rtrim_any (g : Bool) (p : Option Addr) (n c : Nat) (xs : List Nat) (w : World) (h1 : Sl w p n c xs) (hn : n ≤ 1099511627776) :
    Calls Try.prog 38 #[iw g p n c] w (RetI w (iv g (val xs))) := by
  cases g
  · exact rtrim_false p n c xs w h1 hn
  · exact rtrim_true p n c xs w h1 hn

set_option maxRecDepth 100000 in
set_option maxHeartbeats 2000000 in
theorem rabs_any (g : Bool) (p : Option Addr) (n c : Nat) (xs : List Nat) (w : World) (h1 : Sl w p n c xs) (hn : n ≤ 1048576) :
    Calls Try.prog 42 #[iw g p n c] w (RetI w ((val xs : Nat) : Int)) := by
  go_enter Try.func42, Try.ntmps42
  go_wp2_with fail
  have g_h1 := h1
  have hw : Fr [] w ((w.alloc (Obj.cells #[.bool g, .slice p n c] 40)).alloc (Obj.cells #[.bool false, .slice none 0 0] 40)) := ((Fr.refl _ _).alloc _).alloc _
  have b0 : Bx ((w.alloc (Obj.cells #[.bool g, .slice p n c] 40)).alloc (Obj.cells #[.bool false, .slice none 0 0] 40)) w.heap.size 40 #[.bool g, .slice p n c] := (Bx.made' (by simp) _ _).kept ((Fr.refl _ _).alloc _)
  have r0 : Bx ((w.alloc (Obj.cells #[.bool g, .slice p n c] 40)).alloc (Obj.cells #[.bool false, .slice none 0 0] 40)) (w.heap.size + 1) 40 #[.bool false, .slice none 0 0] := (Bx.made' (by simp) _ _).kept (Fr.refl _ _)
  generalize ((w.alloc (Obj.cells #[.bool g, .slice p n c] 40)).alloc (Obj.cells #[.bool false, .slice none 0 0] 40)) = W at *
  have hbs := r0.lt
  replace h1 := h1.kept hw
  have c_b0_0 := b0.cell (j := 0) rfl
  have f_b0_0 := b0.free 0
  have c_b0_1 := b0.cell (j := 1) rfl
  have f_b0_1 := b0.free 1
  have c_r0_0 := r0.cell (j := 0) rfl
  have f_r0_0 := r0.free 0
  have c_r0_1 := r0.cell (j := 1) rfl
  have f_r0_1 := r0.free 1
  go_wp2_with fail
  clear c_b0_0 f_b0_0 c_b0_1 f_b0_1 c_r0_0 f_r0_0 c_r0_1 f_r0_1
  refine (rcut_any _ _ _ _ _ h1 (by omega)).mono ?_
  rintro e V1 ⟨p1, cc1, rfl, o1, ff⟩
  have hsz1 := ff.size
  replace hw := hw.trans ff (by simp)
  replace h1 := h1.kept ff
  replace b0 := b0.kept ff
  replace r0 := r0.kept ff
  clear ff
  have c_b0_0 := b0.cell (j := 0) rfl
  have f_b0_0 := b0.free 0
  have c_b0_1 := b0.cell (j := 1) rfl
  have f_b0_1 := b0.free 1
  have c_r0_0 := r0.cell (j := 0) rfl
  have f_r0_0 := r0.free 0
  have c_r0_1 := r0.cell (j := 1) rfl
  have f_r0_1 := r0.free 1
  go_wp2
  exact fin_ret r0 hw o1 (by omega) (by omega) rfl (by rw [Int.natAbs_natCast]) (by exact (decide_eq_false (by omega)).symm) (fun W' c0 c1 => by simp [results, Try.results42, go_sem, c0, c1])

set_option maxRecDepth 100000 in
set_option maxHeartbeats 2000000 in
theorem rneg_false (g : Bool) (p : Option Addr) (n c : Nat) (xs : List Nat) (w : World) (h1 : Sl w p n c xs) (hn : n ≤ 1048576) (hb : decide (iv g (val xs) < 0) = false) :
    Calls Try.prog 40 #[iw g p n c] w (RetI w (-(iv g (val xs)))) := by
  go_enter Try.func40, Try.ntmps40
  go_wp2_with fail
  have g_h1 := h1
  have hw : Fr [] w ((w.alloc (Obj.cells #[.bool g, .slice p n c] 40)).alloc (Obj.cells #[.bool false, .slice none 0 0] 40)) := ((Fr.refl _ _).alloc _).alloc _
  have b0 : Bx ((w.alloc (Obj.cells #[.bool g, .slice p n c] 40)).alloc (Obj.cells #[.bool false, .slice none 0 0] 40)) w.heap.size 40 #[.bool g, .slice p n c] := (Bx.made' (by simp) _ _).kept ((Fr.refl _ _).alloc _)
  have r0 : Bx ((w.alloc (Obj.cells #[.bool g, .slice p n c] 40)).alloc (Obj.cells #[.bool false, .slice none 0 0] 40)) (w.heap.size + 1) 40 #[.bool false, .slice none 0 0] := (Bx.made' (by simp) _ _).kept (Fr.refl _ _)
  generalize ((w.alloc (Obj.cells #[.bool g, .slice p n c] 40)).alloc (Obj.cells #[.bool false, .slice none 0 0] 40)) = W at *
  have hbs := r0.lt
  replace h1 := h1.kept hw
  have c_b0_0 := b0.cell (j := 0) rfl
  have f_b0_0 := b0.free 0
  have c_b0_1 := b0.cell (j := 1) rfl
  have f_b0_1 := b0.free 1
  have c_r0_0 := r0.cell (j := 0) rfl
  have f_r0_0 := r0.free 0
  have c_r0_1 := r0.cell (j := 1) rfl
  have f_r0_1 := r0.free 1
  go_wp2_with fail
  clear c_b0_0 f_b0_0 c_b0_1 f_b0_1 c_r0_0 f_r0_0 c_r0_1 f_r0_1
  refine (calls_ri (rtrim_any _ _ _ _ _ _ h1 (by omega)) hb (iv_abs _ _)).mono ?_
  rintro e V1 ⟨p1, cc1, rfl, o1, ff⟩
  have hsz1 := ff.size
  replace hw := hw.trans ff (by simp)
  replace h1 := h1.kept ff
  replace b0 := b0.kept ff
  replace r0 := r0.kept ff
  clear ff
  have c_b0_0 := b0.cell (j := 0) rfl
  have f_b0_0 := b0.free 0
  have c_b0_1 := b0.cell (j := 1) rfl
  have f_b0_1 := b0.free 1
  have c_r0_0 := r0.cell (j := 0) rfl
  have f_r0_0 := r0.free 0
  have c_r0_1 := r0.cell (j := 1) rfl
  have f_r0_1 := r0.free 1
  have hb' := Lib.hid hb
  clear hb
  go_wp2
  clear c_b0_0 f_b0_0 c_b0_1 f_b0_1 c_r0_0 f_r0_0 c_r0_1 f_r0_1
  have hx := set2_fr V1 w.heap.size (.bool false) (.slice p1 (dg (val xs)).length cc1)
  replace hw := hw.set2 (b := w.heap.size) (by omega) (.bool false) (.slice p1 (dg (val xs)).length cc1)
  replace h1 := g_h1.kept hw
  replace o1 := o1.set2 (b := w.heap.size) (by omega) (.bool false) (.slice p1 (dg (val xs)).length cc1)
  replace b0 := b0.set2 (.bool false) (.slice p1 (dg (val xs)).length cc1)
  replace r0 := r0.far (b := w.heap.size) (by omega) (.bool false) (.slice p1 (dg (val xs)).length cc1)
  have hsz : V1.heap.size ≤ (((V1.setCell ⟨w.heap.size, 0, none⟩ (.bool false)).setCell ⟨w.heap.size, 1, none⟩ (.slice p1 (dg (val xs)).length cc1))).heap.size := hx.size
  clear hx
  generalize ((V1.setCell ⟨w.heap.size, 0, none⟩ (.bool false)).setCell ⟨w.heap.size, 1, none⟩ (.slice p1 (dg (val xs)).length cc1)) = V2 at *
  replace hw := hw.set1 (b := w.heap.size) (by omega) 0 (.bool (decide (0 < (dg (val xs)).length)))
  replace h1 := g_h1.kept hw
  replace o1 := o1.set1 (b := w.heap.size) (by omega) 0 (.bool (decide (0 < (dg (val xs)).length)))
  replace b0 := b0.set1 (.bool (decide (0 < (dg (val xs)).length)))
  replace r0 := r0.far1 (b := w.heap.size) (by omega) 0 (.bool (decide (0 < (dg (val xs)).length)))
  generalize (V2.setCell ⟨w.heap.size, 0, none⟩ (.bool (decide (0 < (dg (val xs)).length)))) = V3 at *
  exact fin_ret r0 hw o1 (by omega) (by omega) rfl (by rw [Int.natAbs_neg, iv_abs]) (by rw [dg_len_pos]; exact neg_sign_f hb'.out) (fun W' c0 c1 => by simp [results, Try.results40, go_sem, c0, c1])

set_option maxRecDepth 100000 in
set_option maxHeartbeats 2000000 in
theorem rneg_true (g : Bool) (p : Option Addr) (n c : Nat) (xs : List Nat) (w : World) (h1 : Sl w p n c xs) (hn : n ≤ 1048576) (hb : decide (iv g (val xs) < 0) = true) :
    Calls Try.prog 40 #[iw g p n c] w (RetI w (-(iv g (val xs)))) := by
  go_enter Try.func40, Try.ntmps40
  go_wp2_with fail
  have g_h1 := h1
  have hw : Fr [] w ((w.alloc (Obj.cells #[.bool g, .slice p n c] 40)).alloc (Obj.cells #[.bool false, .slice none 0 0] 40)) := ((Fr.refl _ _).alloc _).alloc _
  have b0 : Bx ((w.alloc (Obj.cells #[.bool g, .slice p n c] 40)).alloc (Obj.cells #[.bool false, .slice none 0 0] 40)) w.heap.size 40 #[.bool g, .slice p n c] := (Bx.made' (by simp) _ _).kept ((Fr.refl _ _).alloc _)
  have r0 : Bx ((w.alloc (Obj.cells #[.bool g, .slice p n c] 40)).alloc (Obj.cells #[.bool false, .slice none 0 0] 40)) (w.heap.size + 1) 40 #[.bool false, .slice none 0 0] := (Bx.made' (by simp) _ _).kept (Fr.refl _ _)
  generalize ((w.alloc (Obj.cells #[.bool g, .slice p n c] 40)).alloc (Obj.cells #[.bool false, .slice none 0 0] 40)) = W at *
  have hbs := r0.lt
  replace h1 := h1.kept hw
  have c_b0_0 := b0.cell (j := 0) rfl
  have f_b0_0 := b0.free 0
  have c_b0_1 := b0.cell (j := 1) rfl
  have f_b0_1 := b0.free 1
  have c_r0_0 := r0.cell (j := 0) rfl
  have f_r0_0 := r0.free 0
  have c_r0_1 := r0.cell (j := 1) rfl
  have f_r0_1 := r0.free 1
  go_wp2_with fail
  clear c_b0_0 f_b0_0 c_b0_1 f_b0_1 c_r0_0 f_r0_0 c_r0_1 f_r0_1
  refine (calls_ri (rtrim_any _ _ _ _ _ _ h1 (by omega)) hb (iv_abs _ _)).mono ?_
  rintro e V1 ⟨p1, cc1, rfl, o1, ff⟩
  have hsz1 := ff.size
  replace hw := hw.trans ff (by simp)
  replace h1 := h1.kept ff
  replace b0 := b0.kept ff
  replace r0 := r0.kept ff
  clear ff
  have c_b0_0 := b0.cell (j := 0) rfl
  have f_b0_0 := b0.free 0
  have c_b0_1 := b0.cell (j := 1) rfl
  have f_b0_1 := b0.free 1
  have c_r0_0 := r0.cell (j := 0) rfl
  have f_r0_0 := r0.free 0
  have c_r0_1 := r0.cell (j := 1) rfl
  have f_r0_1 := r0.free 1
  have hb' := Lib.hid hb
  clear hb
  go_wp2
  clear c_b0_0 f_b0_0 c_b0_1 f_b0_1 c_r0_0 f_r0_0 c_r0_1 f_r0_1
  have hx := set2_fr V1 w.heap.size (.bool true) (.slice p1 (dg (val xs)).length cc1)
  replace hw := hw.set2 (b := w.heap.size) (by omega) (.bool true) (.slice p1 (dg (val xs)).length cc1)
  replace h1 := g_h1.kept hw
  replace o1 := o1.set2 (b := w.heap.size) (by omega) (.bool true) (.slice p1 (dg (val xs)).length cc1)
  replace b0 := b0.set2 (.bool true) (.slice p1 (dg (val xs)).length cc1)
  replace r0 := r0.far (b := w.heap.size) (by omega) (.bool true) (.slice p1 (dg (val xs)).length cc1)
  have hsz : V1.heap.size ≤ (((V1.setCell ⟨w.heap.size, 0, none⟩ (.bool true)).setCell ⟨w.heap.size, 1, none⟩ (.slice p1 (dg (val xs)).length cc1))).heap.size := hx.size
  clear hx
  generalize ((V1.setCell ⟨w.heap.size, 0, none⟩ (.bool true)).setCell ⟨w.heap.size, 1, none⟩ (.slice p1 (dg (val xs)).length cc1)) = V2 at *
  replace hw := hw.set1 (b := w.heap.size) (by omega) 0 (.bool false)
  replace h1 := g_h1.kept hw
  replace o1 := o1.set1 (b := w.heap.size) (by omega) 0 (.bool false)
  replace b0 := b0.set1 (.bool false)
  replace r0 := r0.far1 (b := w.heap.size) (by omega) 0 (.bool false)
  generalize (V2.setCell ⟨w.heap.size, 0, none⟩ (.bool false)) = V3 at *
  exact fin_ret r0 hw o1 (by omega) (by omega) rfl (by rw [Int.natAbs_neg, iv_abs]) (by exact neg_sign_t hb'.out) (fun W' c0 c1 => by simp [results, Try.results40, go_sem, c0, c1])

theorem rneg_any (g : Bool) (p : Option Addr) (n c : Nat) (xs : List Nat) (w : World) (h1 : Sl w p n c xs) (hn : n ≤ 1048576) :
    Calls Try.prog 40 #[iw g p n c] w (RetI w (-(iv g (val xs)))) := by
  cases hb : decide (iv g (val xs) < 0)
  · exact rneg_false g p n c xs w h1 hn hb
  · exact rneg_true g p n c xs w h1 hn hb

end Go.Proofs.Ytfjhdhmneknmkaa
