/- What the statements of this claim stand on: of Int3, Int4, what they name -/
import Derived.Test.YtagciepnhjbopaaGreatDoorT13

namespace Go.Proofs.YtagciepnhjbopaaGreatDoor
open Go.RowKit

theorem iv_of {g s : Bool} {a : Nat} (h : decide (iv g a < 0) = s) : iv g a = iv s a := by
  subst h
  cases g
  · rw [decide_eq_false (by rw [iv_pos]; omega)]
  · by_cases h : a = 0
    · subst h; rfl
    · rw [decide_eq_true (by rw [iv_neg]; omega)]

theorem cmpN_ge {a b : Nat} (_h : b ≤ a) : decide (cmpN a b ≥ 0) = true := by
  by_cases e : a = b
  · rw [cmpN_eq e]; rfl
  · rw [cmpN_gt (by omega)]; rfl

theorem r_same {g h s : Bool} {a b : Nat} (ha : decide (iv g a < 0) = s) (hb : decide (iv h b < 0) = s) : iv g a + iv h b = iv s (val (dg a) + val (dg b)) := by
  rw [val_dg, val_dg, iv_of ha, iv_of hb, iv_add_same]

theorem r_less {g h s r : Bool} {a b : Nat} (ha : decide (iv g a < 0) = s) (hb : decide (iv h b < 0) = r) (e : r = !s) (l : a < b) : iv g a + iv h b = iv r (val (dg b) - val (dg a)) := by
  rw [val_dg, val_dg, iv_of ha, iv_of hb, iv_add_less e l]

theorem r_more {g h s r : Bool} {a b : Nat} (ha : decide (iv g a < 0) = s) (hb : decide (iv h b < 0) = r) (e : r = !s) (l : b ≤ a) : iv g a + iv h b = iv s (val (dg a) - val (dg b)) := by
  rw [val_dg, val_dg, iv_of ha, iv_of hb, iv_add_more e l]

theorem neg_sign_f {z : Int} (h : decide (z < 0) = false) {m : Nat} (_hm : z.natAbs = m := by rw [iv_abs]) : decide (0 < m) = decide (-z < 0) := by
  have := of_decide_eq_false h
  exact decide_eq_decide.2 (by omega)

theorem neg_sign_t {z : Int} (h : decide (z < 0) = true) : false = decide (-z < 0) := by
  have := of_decide_eq_true h
  exact (decide_eq_false (by omega)).symm

theorem Fr.set2 {w W : World} {b : Nat} (h : Fr [] w W) (_hb : w.heap.size ≤ b) (u0 u1 : Value) : Fr [] w ((W.setCell ⟨b, 0, none⟩ u0).setCell ⟨b, 1, none⟩ u1) :=
  h.trans (set2_fr W b u0 u1) (fun x hx hl => by have := List.mem_singleton.1 hx; omega)

theorem Ow.set2 {w : World} {base b : Nat} {p : Option Addr} {n c : Nat} {xs : List Nat} (h : Ow w base p n c xs) (_hb : b < base) (u0 u1 : Value) : Ow ((w.setCell ⟨b, 0, none⟩ u0).setCell ⟨b, 1, none⟩ u1) base p n c xs :=
  h.keep (set2_fr w b u0 u1) (fun k h1 _ h2 => by have := List.mem_singleton.1 h2; omega)

theorem set1_fr (w : World) (b j : Nat) (u : Value) : Fr [b] w (w.setCell ⟨b, j, none⟩ u) := (Fr.refl _ _).setCell ⟨b, j, none⟩ _ (fun _ => List.mem_singleton.2 rfl)

theorem Fr.set1 {w W : World} {b : Nat} (h : Fr [] w W) (_hb : w.heap.size ≤ b) (j : Nat) (u : Value) : Fr [] w (W.setCell ⟨b, j, none⟩ u) :=
  h.trans (set1_fr W b j u) (fun x hx hl => by have := List.mem_singleton.1 hx; omega)

theorem Ow.set1 {w : World} {base b : Nat} {p : Option Addr} {n c : Nat} {xs : List Nat} (h : Ow w base p n c xs) (_hb : b < base) (j : Nat) (u : Value) : Ow (w.setCell ⟨b, j, none⟩ u) base p n c xs :=
  h.keep (set1_fr w b j u) (fun k h1 _ h2 => by have := List.mem_singleton.1 h2; omega)

theorem Bx.far1 {w : World} {b k : Nat} {T : TypeId} {vs : Array Value} (h : Bx w k T vs) (hb : k ≠ b) (j : Nat) (u : Value) : Bx (w.setCell ⟨b, j, none⟩ u) k T vs :=
  ((set1_fr w b j u).block k h.lt (fun h2 => hb (List.mem_singleton.1 h2))).trans h

theorem Bx.set1 {w : World} {b : Nat} {T : TypeId} {v0 v1 : Value} (h : Bx w b T #[v0, v1]) (u : Value) : Bx (w.setCell ⟨b, 0, none⟩ u) b T #[u, v1] := by
  have h' : w.heap[b]? = some (.cells #[v0, v1] T (0, 0)) := h
  unfold Bx
  simp [World.setCell, Array.getElem?_modify, h']

theorem calls_ri {P : Program} {f : FuncId} {vs : Array Value} {w : World} {z : Int} (h : Calls P f vs w (RetI w z)) {b : Bool} {m : Nat} (hb : decide (z < 0) = b) (hm : z.natAbs = m) :
    Calls P f vs w fun e w' => ∃ p c, e = .returned (iw b p (dg m).length c) ∧ Ow w' w.heap.size p (dg m).length c (dg m) ∧ Fr [] w w' := by
  subst hb
  subst hm
  exact h

theorem set2_size (w : World) (b : Nat) (u0 u1 : Value) : ((w.setCell ⟨b, 0, none⟩ u0).setCell ⟨b, 1, none⟩ u1).heap.size = w.heap.size := by simp [World.setCell]

theorem Bx.far {w : World} {b k : Nat} {T : TypeId} {vs : Array Value} (h : Bx w k T vs) (hb : k ≠ b) (u0 u1 : Value) : Bx ((w.setCell ⟨b, 0, none⟩ u0).setCell ⟨b, 1, none⟩ u1) k T vs :=
  ((set2_fr w b u0 u1).block k h.lt (fun h2 => hb (List.mem_singleton.1 h2))).trans h

set_option maxRecDepth 100000 in
set_option maxHeartbeats 2000000 in
theorem rtrim_false (p : Option Addr) (n c : Nat) (xs : List Nat) (w : World) (h1 : Sl w p n c xs) (_hn : n ≤ 1099511627776) :
    Calls Tryz.prog 142 #[iw false p n c] w (RetI w (iv false (val xs))) := by
  go_enter Tryz.func142, Tryz.ntmps142
  go_wp2_with fail
  have g_h1 := h1
  have hw : Fr [] w ((w.alloc (Obj.cells #[.bool false, .slice p n c] 24)).alloc (Obj.cells #[.bool false, .slice none 0 0] 24)) := ((Fr.refl _ _).alloc _).alloc _
  have b0 : Bx ((w.alloc (Obj.cells #[.bool false, .slice p n c] 24)).alloc (Obj.cells #[.bool false, .slice none 0 0] 24)) w.heap.size 24 #[.bool false, .slice p n c] := (Bx.made' (by simp) _ _).kept ((Fr.refl _ _).alloc _)
  have r0 : Bx ((w.alloc (Obj.cells #[.bool false, .slice p n c] 24)).alloc (Obj.cells #[.bool false, .slice none 0 0] 24)) (w.heap.size + 1) 24 #[.bool false, .slice none 0 0] := (Bx.made' (by simp) _ _).kept (Fr.refl _ _)
  generalize ((w.alloc (Obj.cells #[.bool false, .slice p n c] 24)).alloc (Obj.cells #[.bool false, .slice none 0 0] 24)) = W at *
  have hbs := r0.lt
  replace h1 := h1.kept hw
  have c_b0_0 := b0.cell (j := 0) rfl
  have f_b0_0 := b0.free 0
  have c_b0_1 := b0.cell (j := 1) rfl
  have f_b0_1 := b0.free 1
  have c_r0_0 := r0.cell (j := 0) rfl
  have f_r0_0 := r0.free 0
  have c_r0_1 := r0.cell (j := 1) rfl
  have f_r0_1 := r0.free 1
  go_wp2_with fail
  clear c_b0_0 f_b0_0 c_b0_1 f_b0_1 c_r0_0 f_r0_0 c_r0_1 f_r0_1
  refine (rcut_any _ _ _ _ _ h1 (by omega)).mono ?_
  rintro e V1 ⟨p1, cc1, rfl, o1, ff⟩
  have hsz1 := ff.size
  replace hw := hw.trans ff (by simp)
  replace h1 := h1.kept ff
  replace b0 := b0.kept ff
  replace r0 := r0.kept ff
  clear ff
  have c_b0_0 := b0.cell (j := 0) rfl
  have f_b0_0 := b0.free 0
  have c_b0_1 := b0.cell (j := 1) rfl
  have f_b0_1 := b0.free 1
  have c_r0_0 := r0.cell (j := 0) rfl
  have f_r0_0 := r0.free 0
  have c_r0_1 := r0.cell (j := 1) rfl
  have f_r0_1 := r0.free 1
  go_wp2
  exact fin_ret r0 hw o1 (by omega) (by omega) rfl (by rw [iv_abs]) (by simp only [iv_lt, Bool.false_and]) (fun W' c0 c1 => by simp [results, Tryz.results142, go_sem, c0, c1])

set_option maxRecDepth 100000 in
set_option maxHeartbeats 2000000 in
theorem rtrim_true (p : Option Addr) (n c : Nat) (xs : List Nat) (w : World) (h1 : Sl w p n c xs) (_hn : n ≤ 1099511627776) :
    Calls Tryz.prog 142 #[iw true p n c] w (RetI w (iv true (val xs))) := by
  go_enter Tryz.func142, Tryz.ntmps142
  go_wp2_with fail
  have g_h1 := h1
  have hw : Fr [] w ((w.alloc (Obj.cells #[.bool true, .slice p n c] 24)).alloc (Obj.cells #[.bool false, .slice none 0 0] 24)) := ((Fr.refl _ _).alloc _).alloc _
  have b0 : Bx ((w.alloc (Obj.cells #[.bool true, .slice p n c] 24)).alloc (Obj.cells #[.bool false, .slice none 0 0] 24)) w.heap.size 24 #[.bool true, .slice p n c] := (Bx.made' (by simp) _ _).kept ((Fr.refl _ _).alloc _)
  have r0 : Bx ((w.alloc (Obj.cells #[.bool true, .slice p n c] 24)).alloc (Obj.cells #[.bool false, .slice none 0 0] 24)) (w.heap.size + 1) 24 #[.bool false, .slice none 0 0] := (Bx.made' (by simp) _ _).kept (Fr.refl _ _)
  generalize ((w.alloc (Obj.cells #[.bool true, .slice p n c] 24)).alloc (Obj.cells #[.bool false, .slice none 0 0] 24)) = W at *
  have hbs := r0.lt
  replace h1 := h1.kept hw
  have c_b0_0 := b0.cell (j := 0) rfl
  have f_b0_0 := b0.free 0
  have c_b0_1 := b0.cell (j := 1) rfl
  have f_b0_1 := b0.free 1
  have c_r0_0 := r0.cell (j := 0) rfl
  have f_r0_0 := r0.free 0
  have c_r0_1 := r0.cell (j := 1) rfl
  have f_r0_1 := r0.free 1
  go_wp2_with fail
  clear c_b0_0 f_b0_0 c_b0_1 f_b0_1 c_r0_0 f_r0_0 c_r0_1 f_r0_1
  refine (rcut_any _ _ _ _ _ h1 (by omega)).mono ?_
  rintro e V1 ⟨p1, cc1, rfl, o1, ff⟩
  have hsz1 := ff.size
  replace hw := hw.trans ff (by simp)
  replace h1 := h1.kept ff
  replace b0 := b0.kept ff
  replace r0 := r0.kept ff
  clear ff
  have c_b0_0 := b0.cell (j := 0) rfl
  have f_b0_0 := b0.free 0
  have c_b0_1 := b0.cell (j := 1) rfl
  have f_b0_1 := b0.free 1
  have c_r0_0 := r0.cell (j := 0) rfl
  have f_r0_0 := r0.free 0
  have c_r0_1 := r0.cell (j := 1) rfl
  have f_r0_1 := r0.free 1
  go_wp2
  exact fin_ret r0 hw o1 (by omega) (by omega) rfl (by rw [iv_abs]) (by simp only [dg_len_pos, iv_lt, Bool.true_and]) (fun W' c0 c1 => by simp [results, Tryz.results142, go_sem, c0, c1])

theorem rtrim_any (g : Bool) (p : Option Addr) (n c : Nat) (xs : List Nat) (w : World) (h1 : Sl w p n c xs) (hn : n ≤ 1099511627776) :
    Calls Tryz.prog 142 #[iw g p n c] w (RetI w (iv g (val xs))) := by
  cases g
  · exact rtrim_false p n c xs w h1 hn
  · exact rtrim_true p n c xs w h1 hn

set_option maxRecDepth 100000 in
set_option maxHeartbeats 2000000 in
theorem rabs_any (g : Bool) (p : Option Addr) (n c : Nat) (xs : List Nat) (w : World) (h1 : Sl w p n c xs) (_hn : n ≤ 1048576) :
    Calls Tryz.prog 116 #[iw g p n c] w (RetI w ((val xs : Nat) : Int)) := by
  go_enter Tryz.func116, Tryz.ntmps116
  go_wp2_with fail
  have g_h1 := h1
  have hw : Fr [] w ((w.alloc (Obj.cells #[.bool g, .slice p n c] 24)).alloc (Obj.cells #[.bool false, .slice none 0 0] 24)) := ((Fr.refl _ _).alloc _).alloc _
  have b0 : Bx ((w.alloc (Obj.cells #[.bool g, .slice p n c] 24)).alloc (Obj.cells #[.bool false, .slice none 0 0] 24)) w.heap.size 24 #[.bool g, .slice p n c] := (Bx.made' (by simp) _ _).kept ((Fr.refl _ _).alloc _)
  have r0 : Bx ((w.alloc (Obj.cells #[.bool g, .slice p n c] 24)).alloc (Obj.cells #[.bool false, .slice none 0 0] 24)) (w.heap.size + 1) 24 #[.bool false, .slice none 0 0] := (Bx.made' (by simp) _ _).kept (Fr.refl _ _)
  generalize ((w.alloc (Obj.cells #[.bool g, .slice p n c] 24)).alloc (Obj.cells #[.bool false, .slice none 0 0] 24)) = W at *
  have hbs := r0.lt
  replace h1 := h1.kept hw
  have c_b0_0 := b0.cell (j := 0) rfl
  have f_b0_0 := b0.free 0
  have c_b0_1 := b0.cell (j := 1) rfl
  have f_b0_1 := b0.free 1
  have c_r0_0 := r0.cell (j := 0) rfl
  have f_r0_0 := r0.free 0
  have c_r0_1 := r0.cell (j := 1) rfl
  have f_r0_1 := r0.free 1
  go_wp2_with fail
  clear c_b0_0 f_b0_0 c_b0_1 f_b0_1 c_r0_0 f_r0_0 c_r0_1 f_r0_1
  refine (rcut_any _ _ _ _ _ h1 (by omega)).mono ?_
  rintro e V1 ⟨p1, cc1, rfl, o1, ff⟩
  have hsz1 := ff.size
  replace hw := hw.trans ff (by simp)
  replace h1 := h1.kept ff
  replace b0 := b0.kept ff
  replace r0 := r0.kept ff
  clear ff
  have c_b0_0 := b0.cell (j := 0) rfl
  have f_b0_0 := b0.free 0
  have c_b0_1 := b0.cell (j := 1) rfl
  have f_b0_1 := b0.free 1
  have c_r0_0 := r0.cell (j := 0) rfl
  have f_r0_0 := r0.free 0
  have c_r0_1 := r0.cell (j := 1) rfl
  have f_r0_1 := r0.free 1
  go_wp2
  exact fin_ret r0 hw o1 (by omega) (by omega) rfl (by rw [Int.natAbs_natCast]) (by exact (decide_eq_false (by omega)).symm) (fun W' c0 c1 => by simp [results, Tryz.results116, go_sem, c0, c1])

set_option maxRecDepth 100000 in
set_option maxHeartbeats 2000000 in
theorem rneg_false (g : Bool) (p : Option Addr) (n c : Nat) (xs : List Nat) (w : World) (h1 : Sl w p n c xs) (_hn : n ≤ 1048576) (hb : decide (iv g (val xs) < 0) = false) :
    Calls Tryz.prog 114 #[iw g p n c] w (RetI w (-(iv g (val xs)))) := by
  go_enter Tryz.func114, Tryz.ntmps114
  go_wp2_with fail
  have g_h1 := h1
  have hw : Fr [] w ((w.alloc (Obj.cells #[.bool g, .slice p n c] 24)).alloc (Obj.cells #[.bool false, .slice none 0 0] 24)) := ((Fr.refl _ _).alloc _).alloc _
  have b0 : Bx ((w.alloc (Obj.cells #[.bool g, .slice p n c] 24)).alloc (Obj.cells #[.bool false, .slice none 0 0] 24)) w.heap.size 24 #[.bool g, .slice p n c] := (Bx.made' (by simp) _ _).kept ((Fr.refl _ _).alloc _)
  have r0 : Bx ((w.alloc (Obj.cells #[.bool g, .slice p n c] 24)).alloc (Obj.cells #[.bool false, .slice none 0 0] 24)) (w.heap.size + 1) 24 #[.bool false, .slice none 0 0] := (Bx.made' (by simp) _ _).kept (Fr.refl _ _)
  generalize ((w.alloc (Obj.cells #[.bool g, .slice p n c] 24)).alloc (Obj.cells #[.bool false, .slice none 0 0] 24)) = W at *
  have hbs := r0.lt
  replace h1 := h1.kept hw
  have c_b0_0 := b0.cell (j := 0) rfl
  have f_b0_0 := b0.free 0
  have c_b0_1 := b0.cell (j := 1) rfl
  have f_b0_1 := b0.free 1
  have c_r0_0 := r0.cell (j := 0) rfl
  have f_r0_0 := r0.free 0
  have c_r0_1 := r0.cell (j := 1) rfl
  have f_r0_1 := r0.free 1
  go_wp2_with fail
  clear c_b0_0 f_b0_0 c_b0_1 f_b0_1 c_r0_0 f_r0_0 c_r0_1 f_r0_1
  refine (calls_ri (rtrim_any _ _ _ _ _ _ h1 (by omega)) hb (iv_abs _ _)).mono ?_
  rintro e V1 ⟨p1, cc1, rfl, o1, ff⟩
  have hsz1 := ff.size
  replace hw := hw.trans ff (by simp)
  replace h1 := h1.kept ff
  replace b0 := b0.kept ff
  replace r0 := r0.kept ff
  clear ff
  have c_b0_0 := b0.cell (j := 0) rfl
  have f_b0_0 := b0.free 0
  have c_b0_1 := b0.cell (j := 1) rfl
  have f_b0_1 := b0.free 1
  have c_r0_0 := r0.cell (j := 0) rfl
  have f_r0_0 := r0.free 0
  have c_r0_1 := r0.cell (j := 1) rfl
  have f_r0_1 := r0.free 1
  have hb' := Lib.hid hb
  clear hb
  go_wp2
  clear c_b0_0 f_b0_0 c_b0_1 f_b0_1 c_r0_0 f_r0_0 c_r0_1 f_r0_1
  have hx := set2_fr V1 w.heap.size (.bool false) (.slice p1 (dg (val xs)).length cc1)
  replace hw := hw.set2 (b := w.heap.size) (by omega) (.bool false) (.slice p1 (dg (val xs)).length cc1)
  replace h1 := g_h1.kept hw
  replace o1 := o1.set2 (b := w.heap.size) (by omega) (.bool false) (.slice p1 (dg (val xs)).length cc1)
  replace b0 := b0.set2 (.bool false) (.slice p1 (dg (val xs)).length cc1)
  replace r0 := r0.far (b := w.heap.size) (by omega) (.bool false) (.slice p1 (dg (val xs)).length cc1)
  have hsz : V1.heap.size ≤ (((V1.setCell ⟨w.heap.size, 0, none⟩ (.bool false)).setCell ⟨w.heap.size, 1, none⟩ (.slice p1 (dg (val xs)).length cc1))).heap.size := hx.size
  clear hx
  generalize ((V1.setCell ⟨w.heap.size, 0, none⟩ (.bool false)).setCell ⟨w.heap.size, 1, none⟩ (.slice p1 (dg (val xs)).length cc1)) = V2 at *
  replace hw := hw.set1 (b := w.heap.size) (by omega) 0 (.bool (decide (0 < (dg (val xs)).length)))
  replace h1 := g_h1.kept hw
  replace o1 := o1.set1 (b := w.heap.size) (by omega) 0 (.bool (decide (0 < (dg (val xs)).length)))
  replace b0 := b0.set1 (.bool (decide (0 < (dg (val xs)).length)))
  replace r0 := r0.far1 (b := w.heap.size) (by omega) 0 (.bool (decide (0 < (dg (val xs)).length)))
  generalize (V2.setCell ⟨w.heap.size, 0, none⟩ (.bool (decide (0 < (dg (val xs)).length)))) = V3 at *
  exact fin_ret r0 hw o1 (by omega) (by omega) rfl (by rw [Int.natAbs_neg, iv_abs]) (by rw [dg_len_pos]; exact neg_sign_f hb'.out) (fun W' c0 c1 => by simp [results, Tryz.results114, go_sem, c0, c1])

set_option maxRecDepth 100000 in
set_option maxHeartbeats 2000000 in
theorem rneg_true (g : Bool) (p : Option Addr) (n c : Nat) (xs : List Nat) (w : World) (h1 : Sl w p n c xs) (_hn : n ≤ 1048576) (hb : decide (iv g (val xs) < 0) = true) :
    Calls Tryz.prog 114 #[iw g p n c] w (RetI w (-(iv g (val xs)))) := by
  go_enter Tryz.func114, Tryz.ntmps114
  go_wp2_with fail
  have g_h1 := h1
  have hw : Fr [] w ((w.alloc (Obj.cells #[.bool g, .slice p n c] 24)).alloc (Obj.cells #[.bool false, .slice none 0 0] 24)) := ((Fr.refl _ _).alloc _).alloc _
  have b0 : Bx ((w.alloc (Obj.cells #[.bool g, .slice p n c] 24)).alloc (Obj.cells #[.bool false, .slice none 0 0] 24)) w.heap.size 24 #[.bool g, .slice p n c] := (Bx.made' (by simp) _ _).kept ((Fr.refl _ _).alloc _)
  have r0 : Bx ((w.alloc (Obj.cells #[.bool g, .slice p n c] 24)).alloc (Obj.cells #[.bool false, .slice none 0 0] 24)) (w.heap.size + 1) 24 #[.bool false, .slice none 0 0] := (Bx.made' (by simp) _ _).kept (Fr.refl _ _)
  generalize ((w.alloc (Obj.cells #[.bool g, .slice p n c] 24)).alloc (Obj.cells #[.bool false, .slice none 0 0] 24)) = W at *
  have hbs := r0.lt
  replace h1 := h1.kept hw
  have c_b0_0 := b0.cell (j := 0) rfl
  have f_b0_0 := b0.free 0
  have c_b0_1 := b0.cell (j := 1) rfl
  have f_b0_1 := b0.free 1
  have c_r0_0 := r0.cell (j := 0) rfl
  have f_r0_0 := r0.free 0
  have c_r0_1 := r0.cell (j := 1) rfl
  have f_r0_1 := r0.free 1
  go_wp2_with fail
  clear c_b0_0 f_b0_0 c_b0_1 f_b0_1 c_r0_0 f_r0_0 c_r0_1 f_r0_1
  refine (calls_ri (rtrim_any _ _ _ _ _ _ h1 (by omega)) hb (iv_abs _ _)).mono ?_
  rintro e V1 ⟨p1, cc1, rfl, o1, ff⟩
  have hsz1 := ff.size
  replace hw := hw.trans ff (by simp)
  replace h1 := h1.kept ff
  replace b0 := b0.kept ff
  replace r0 := r0.kept ff
  clear ff
  have c_b0_0 := b0.cell (j := 0) rfl
  have f_b0_0 := b0.free 0
  have c_b0_1 := b0.cell (j := 1) rfl
  have f_b0_1 := b0.free 1
  have c_r0_0 := r0.cell (j := 0) rfl
  have f_r0_0 := r0.free 0
  have c_r0_1 := r0.cell (j := 1) rfl
  have f_r0_1 := r0.free 1
  have hb' := Lib.hid hb
  clear hb
  go_wp2
  clear c_b0_0 f_b0_0 c_b0_1 f_b0_1 c_r0_0 f_r0_0 c_r0_1 f_r0_1
  have hx := set2_fr V1 w.heap.size (.bool true) (.slice p1 (dg (val xs)).length cc1)
  replace hw := hw.set2 (b := w.heap.size) (by omega) (.bool true) (.slice p1 (dg (val xs)).length cc1)
  replace h1 := g_h1.kept hw
  replace o1 := o1.set2 (b := w.heap.size) (by omega) (.bool true) (.slice p1 (dg (val xs)).length cc1)
  replace b0 := b0.set2 (.bool true) (.slice p1 (dg (val xs)).length cc1)
  replace r0 := r0.far (b := w.heap.size) (by omega) (.bool true) (.slice p1 (dg (val xs)).length cc1)
  have hsz : V1.heap.size ≤ (((V1.setCell ⟨w.heap.size, 0, none⟩ (.bool true)).setCell ⟨w.heap.size, 1, none⟩ (.slice p1 (dg (val xs)).length cc1))).heap.size := hx.size
  clear hx
  generalize ((V1.setCell ⟨w.heap.size, 0, none⟩ (.bool true)).setCell ⟨w.heap.size, 1, none⟩ (.slice p1 (dg (val xs)).length cc1)) = V2 at *
  replace hw := hw.set1 (b := w.heap.size) (by omega) 0 (.bool false)
  replace h1 := g_h1.kept hw
  replace o1 := o1.set1 (b := w.heap.size) (by omega) 0 (.bool false)
  replace b0 := b0.set1 (.bool false)
  replace r0 := r0.far1 (b := w.heap.size) (by omega) 0 (.bool false)
  generalize (V2.setCell ⟨w.heap.size, 0, none⟩ (.bool false)) = V3 at *
  exact fin_ret r0 hw o1 (by omega) (by omega) rfl (by rw [Int.natAbs_neg, iv_abs]) (by exact neg_sign_t hb'.out) (fun W' c0 c1 => by simp [results, Tryz.results114, go_sem, c0, c1])

theorem rneg_any (g : Bool) (p : Option Addr) (n c : Nat) (xs : List Nat) (w : World) (h1 : Sl w p n c xs) (hn : n ≤ 1048576) :
    Calls Tryz.prog 114 #[iw g p n c] w (RetI w (-(iv g (val xs)))) := by
  cases hb : decide (iv g (val xs) < 0)
  · exact rneg_false g p n c xs w h1 hn hb
  · exact rneg_true g p n c xs w h1 hn hb

end Go.Proofs.YtagciepnhjbopaaGreatDoor

namespace Go.Proofs.YtagciepnhjbopaaGreatDoor
open Go.RowKit

set_option maxRecDepth 100000 in
set_option maxHeartbeats 2000000 in
theorem radd_same_false (g h : Bool) (p q : Option Addr) (n c m d : Nat) (xs ys : List Nat) (w : World) (h1 : Sl w p n c xs) (h2 : Sl w q m d ys) (_hn : n ≤ 1048576) (_hm : m ≤ 1048576) (ha : decide (iv g (val xs) < 0) = false) (hb : decide (iv h (val ys) < 0) = false) :
    Calls Tryz.prog 118 #[iw g p n c, iw h q m d] w (RetI w (iv g (val xs) + iv h (val ys))) := by
  have l1 := dg_len_val h1.dig
  have l2 := dg_len_val h2.dig
  rw [h1.len] at l1
  rw [h2.len] at l2
  have l3 : (dg (val (dg (val xs)) + val (dg (val ys)))).length ≤ 2097153 := by rw [val_dg, val_dg]; have := dg_add_len (val xs) (val ys); omega
  have e0 : iv g (val xs) + iv h (val ys) = iv false (val (dg (val xs)) + val (dg (val ys))) := by exact r_same ha hb
  have E0 := Lib.hid e0
  clear e0
  have hsg : decide (iv false (val (dg (val (dg (val xs)) + val (dg (val ys))))) < 0) = decide (iv false (val (dg (val xs)) + val (dg (val ys))) < 0) := by rw [val_dg]
  have HSG := Lib.hid hsg
  clear hsg
  go_enter Tryz.func118, Tryz.ntmps118
  go_wp2_with fail
  have g_h1 := h1
  have g_h2 := h2
  have hw : Fr [] w (((w.alloc (Obj.cells #[.bool g, .slice p n c] 24)).alloc (Obj.cells #[.bool h, .slice q m d] 24)).alloc (Obj.cells #[.bool false, .slice none 0 0] 24)) := (((Fr.refl _ _).alloc _).alloc _).alloc _
  have b0 : Bx (((w.alloc (Obj.cells #[.bool g, .slice p n c] 24)).alloc (Obj.cells #[.bool h, .slice q m d] 24)).alloc (Obj.cells #[.bool false, .slice none 0 0] 24)) w.heap.size 24 #[.bool g, .slice p n c] := (Bx.made' (by simp) _ _).kept (((Fr.refl _ _).alloc _).alloc _)
  have b1 : Bx (((w.alloc (Obj.cells #[.bool g, .slice p n c] 24)).alloc (Obj.cells #[.bool h, .slice q m d] 24)).alloc (Obj.cells #[.bool false, .slice none 0 0] 24)) (w.heap.size + 1) 24 #[.bool h, .slice q m d] := (Bx.made' (by simp) _ _).kept ((Fr.refl _ _).alloc _)
  have r0 : Bx (((w.alloc (Obj.cells #[.bool g, .slice p n c] 24)).alloc (Obj.cells #[.bool h, .slice q m d] 24)).alloc (Obj.cells #[.bool false, .slice none 0 0] 24)) (w.heap.size + 2) 24 #[.bool false, .slice none 0 0] := (Bx.made' (by simp) _ _).kept (Fr.refl _ _)
  generalize (((w.alloc (Obj.cells #[.bool g, .slice p n c] 24)).alloc (Obj.cells #[.bool h, .slice q m d] 24)).alloc (Obj.cells #[.bool false, .slice none 0 0] 24)) = W at *
  have hbs := r0.lt
  replace h1 := h1.kept hw
  replace h2 := h2.kept hw
  go_upto_region 1 with fail
  go_cut [] (fun wx => ∃ (p1 p2 : Option Addr) (cc1 cc2 : Nat), Fr [] w wx ∧ W.heap.size ≤ wx.heap.size ∧ Bx wx w.heap.size 24 #[.bool false, .slice p1 (dg (val xs)).length cc1] ∧ Bx wx (w.heap.size + 1) 24 #[.bool false, .slice p2 (dg (val ys)).length cc2] ∧ Ow wx W.heap.size p1 (dg (val xs)).length cc1 (dg (val xs)) ∧ Ow wx W.heap.size p2 (dg (val ys)).length cc2 (dg (val ys)) ∧ Bx wx (w.heap.size + 2) 24 #[.bool false, .slice none 0 0])
  case first =>
    have HW := (Fr.refl [] W).drew
    have hsw := HW.size
    have c_b0_0 := b0.cell (j := 0) rfl
    have z_b0_0 := b0.free 0
    have c_b0_1 := b0.cell (j := 1) rfl
    have z_b0_1 := b0.free 1
    have c_b1_0 := b1.cell (j := 0) rfl
    have z_b1_0 := b1.free 0
    have c_b1_1 := b1.cell (j := 1) rfl
    have z_b1_1 := b1.free 1
    go_region_with (first
      | (go_at_call 142; (with_reducible refine (calls_ri (rtrim_any g p n c xs _ (h1.kept HW) (by omega)) ha (iv_abs _ _)).mono ?_); rintro e U1 ⟨p1, cc1, rfl, o1, ff⟩; replace HW := HW.trans ff (by simp); have c_b0_0 := (b0.kept HW).cell (j := 0) rfl; have z_b0_0 := (b0.kept HW).free 0; have c_b0_1 := (b0.kept HW).cell (j := 1) rfl; have z_b0_1 := (b0.kept HW).free 1; have c_b1_0 := (b1.kept HW).cell (j := 0) rfl; have z_b1_0 := (b1.kept HW).free 0; have c_b1_1 := (b1.kept HW).cell (j := 1) rfl; have z_b1_1 := (b1.kept HW).free 1; have hs1 := HW.size; clear ff)
      | (go_at_call 142; (with_reducible refine (calls_ri (rtrim_any h q m d ys _ (h2.kept HW) (by omega)) hb (iv_abs _ _)).mono ?_); rintro e U2 ⟨p2, cc2, rfl, o2, ff⟩; replace HW := HW.trans ff (by simp); have c_b0_0 := (b0.kept HW).cell (j := 0) rfl; have z_b0_0 := (b0.kept HW).free 0; have c_b0_1 := (b0.kept HW).cell (j := 1) rfl; have z_b0_1 := (b0.kept HW).free 1; have c_b1_0 := (b1.kept HW).cell (j := 0) rfl; have z_b1_0 := (b1.kept HW).free 0; have c_b1_1 := (b1.kept HW).cell (j := 1) rfl; have z_b1_1 := (b1.kept HW).free 1; replace o1 := o1.kept ff; have hs2 := HW.size; clear ff))
    all_goals
      go_wp2_with fail
      go_meet
      exact ⟨p1, p2, cc1, cc2, ((hw.trans HW (by simp)).set2 (b := w.heap.size) (by omega) _ _).set2 (b := w.heap.size + 1) (by omega) _ _, (by rw [set2_size, set2_size]; exact HW.size), ((b0.kept HW).set2 _ _).far (b := w.heap.size + 1) (by omega) _ _, ((b1.kept HW).far (b := w.heap.size) (by omega) _ _).set2 _ _, ((o1.mono (by omega)).set2 (b := w.heap.size) (by omega) _ _).set2 (b := w.heap.size + 1) (by omega) _ _, ((o2.mono (by omega)).set2 (b := w.heap.size) (by omega) _ _).set2 (b := w.heap.size + 1) (by omega) _ _, ((r0.kept HW).far (b := w.heap.size) (by omega) _ _).far (b := w.heap.size + 1) (by omega) _ _⟩
  case rest =>
    obtain ⟨p1, p2, cc1, cc2, hw, hsz, b0, b1, o1, o2, r0⟩ := hcut
    have c_b0_0 := b0.cell (j := 0) rfl
    have f_b0_0 := b0.free 0
    have c_b0_1 := b0.cell (j := 1) rfl
    have f_b0_1 := b0.free 1
    have c_b1_0 := b1.cell (j := 0) rfl
    have f_b1_0 := b1.free 0
    have c_b1_1 := b1.cell (j := 1) rfl
    have f_b1_1 := b1.free 1
    have c_r0_0 := r0.cell (j := 0) rfl
    have f_r0_0 := r0.free 0
    have c_r0_1 := r0.cell (j := 1) rfl
    have f_r0_1 := r0.free 1
    go_wp2_with fail
    clear c_b0_0 f_b0_0 c_b0_1 f_b0_1 c_b1_0 f_b1_0 c_b1_1 f_b1_1 c_r0_0 f_r0_0 c_r0_1 f_r0_1
    have c0 := b0.cell (j := 0) rfl
    have c1 := b0.cell (j := 1) rfl
    have c2 := b1.cell (j := 1) rfl
    go_region_held3 (fun w' => w'.cell? ⟨w.heap.size, 0, none⟩ = some (.bool false) ∧ w'.cell? ⟨w.heap.size, 1, none⟩ = some (.slice p1 (dg (val xs)).length cc1) ∧ w'.cell? ⟨w.heap.size + 1, 1, none⟩ = some (.slice p2 (dg (val ys)).length cc2)) (first | exact ⟨k0, k1, k2⟩ | exact ⟨c0, c1, c2⟩ | exact ⟨(set2_far (by omega)).trans k0, (set2_far (by omega)).trans k1, (set2_far (by omega)).trans k2⟩)
      (first
      | (go_at_call 167; (with_reducible refine (radd_any _ _ _ _ _ _ (dg (val xs)) (dg (val ys)) _ (o1.sl.kept (Fr.refl _ _).drew) (o2.sl.kept (Fr.refl _ _).drew) (by omega) (by omega)).mono ?_); rintro e V1 ⟨p3, cc3, rfl, o3, ff1⟩; have hf1 : Fr [] wc V1 := ((Fr.refl [] wc).drew).trans ff1 (by simp); have hsz1 := hf1.size; have k0 := (b0.kept hf1).cell (j := 0) rfl; have k1 := (b0.kept hf1).cell (j := 1) rfl; have k2 := (b1.kept hf1).cell (j := 1) rfl)
      | (go_at_call 142; (with_reducible refine (calls_ri (rtrim_any _ _ _ _ _ _ o3.sl (by omega)) HSG.out (by rw [iv_abs, val_dg])).mono ?_); rintro e V2 ⟨p4, cc4, rfl, o4, ff2⟩; have hf2 : Fr [] wc V2 := (hf1).trans ff2 (by simp); have hsz2 := hf2.size; have k0 := (b0.kept hf2).cell (j := 0) rfl; have k1 := (b0.kept hf2).cell (j := 1) rfl; have k2 := (b1.kept hf2).cell (j := 1) rfl; have o3 := o3.kept ff2; have hw2 := hw.trans hf2 (by simp); have n_b0 := b0.kept hf2; have m_b0_0 := n_b0.cell (j := 0) rfl; have q_b0_0 := n_b0.free 0; have m_b0_1 := n_b0.cell (j := 1) rfl; have q_b0_1 := n_b0.free 1; have n_b1 := b1.kept hf2; have m_b1_0 := n_b1.cell (j := 0) rfl; have q_b1_0 := n_b1.free 0; have m_b1_1 := n_b1.cell (j := 1) rfl; have q_b1_1 := n_b1.free 1; have n_r0 := r0.kept hf2; have m_r0_0 := n_r0.cell (j := 0) rfl; have q_r0_0 := n_r0.free 0; have m_r0_1 := n_r0.cell (j := 1) rfl; have q_r0_1 := n_r0.free 1))
    go_wp2
    exact fin_ret n_r0 hw2 o4 (by omega) (by omega) rfl (by rw [E0.out, iv_abs]) (by rw [E0.out]) (fun W' c0 c1 => by simp [results, Tryz.results118, go_sem, c0, c1])

set_option maxRecDepth 100000 in
set_option maxHeartbeats 2000000 in
theorem radd_same_true (g h : Bool) (p q : Option Addr) (n c m d : Nat) (xs ys : List Nat) (w : World) (h1 : Sl w p n c xs) (h2 : Sl w q m d ys) (_hn : n ≤ 1048576) (_hm : m ≤ 1048576) (ha : decide (iv g (val xs) < 0) = true) (hb : decide (iv h (val ys) < 0) = true) :
    Calls Tryz.prog 118 #[iw g p n c, iw h q m d] w (RetI w (iv g (val xs) + iv h (val ys))) := by
  have l1 := dg_len_val h1.dig
  have l2 := dg_len_val h2.dig
  rw [h1.len] at l1
  rw [h2.len] at l2
  have l3 : (dg (val (dg (val xs)) + val (dg (val ys)))).length ≤ 2097153 := by rw [val_dg, val_dg]; have := dg_add_len (val xs) (val ys); omega
  have e0 : iv g (val xs) + iv h (val ys) = iv true (val (dg (val xs)) + val (dg (val ys))) := by exact r_same ha hb
  have E0 := Lib.hid e0
  clear e0
  have hsg : decide (iv true (val (dg (val (dg (val xs)) + val (dg (val ys))))) < 0) = decide (iv true (val (dg (val xs)) + val (dg (val ys))) < 0) := by rw [val_dg]
  have HSG := Lib.hid hsg
  clear hsg
  go_enter Tryz.func118, Tryz.ntmps118
  go_wp2_with fail
  have g_h1 := h1
  have g_h2 := h2
  have hw : Fr [] w (((w.alloc (Obj.cells #[.bool g, .slice p n c] 24)).alloc (Obj.cells #[.bool h, .slice q m d] 24)).alloc (Obj.cells #[.bool false, .slice none 0 0] 24)) := (((Fr.refl _ _).alloc _).alloc _).alloc _
  have b0 : Bx (((w.alloc (Obj.cells #[.bool g, .slice p n c] 24)).alloc (Obj.cells #[.bool h, .slice q m d] 24)).alloc (Obj.cells #[.bool false, .slice none 0 0] 24)) w.heap.size 24 #[.bool g, .slice p n c] := (Bx.made' (by simp) _ _).kept (((Fr.refl _ _).alloc _).alloc _)
  have b1 : Bx (((w.alloc (Obj.cells #[.bool g, .slice p n c] 24)).alloc (Obj.cells #[.bool h, .slice q m d] 24)).alloc (Obj.cells #[.bool false, .slice none 0 0] 24)) (w.heap.size + 1) 24 #[.bool h, .slice q m d] := (Bx.made' (by simp) _ _).kept ((Fr.refl _ _).alloc _)
  have r0 : Bx (((w.alloc (Obj.cells #[.bool g, .slice p n c] 24)).alloc (Obj.cells #[.bool h, .slice q m d] 24)).alloc (Obj.cells #[.bool false, .slice none 0 0] 24)) (w.heap.size + 2) 24 #[.bool false, .slice none 0 0] := (Bx.made' (by simp) _ _).kept (Fr.refl _ _)
  generalize (((w.alloc (Obj.cells #[.bool g, .slice p n c] 24)).alloc (Obj.cells #[.bool h, .slice q m d] 24)).alloc (Obj.cells #[.bool false, .slice none 0 0] 24)) = W at *
  have hbs := r0.lt
  replace h1 := h1.kept hw
  replace h2 := h2.kept hw
  go_upto_region 1 with fail
  go_cut [] (fun wx => ∃ (p1 p2 : Option Addr) (cc1 cc2 : Nat), Fr [] w wx ∧ W.heap.size ≤ wx.heap.size ∧ Bx wx w.heap.size 24 #[.bool true, .slice p1 (dg (val xs)).length cc1] ∧ Bx wx (w.heap.size + 1) 24 #[.bool true, .slice p2 (dg (val ys)).length cc2] ∧ Ow wx W.heap.size p1 (dg (val xs)).length cc1 (dg (val xs)) ∧ Ow wx W.heap.size p2 (dg (val ys)).length cc2 (dg (val ys)) ∧ Bx wx (w.heap.size + 2) 24 #[.bool false, .slice none 0 0])
  case first =>
    have HW := (Fr.refl [] W).drew
    have hsw := HW.size
    have c_b0_0 := b0.cell (j := 0) rfl
    have z_b0_0 := b0.free 0
    have c_b0_1 := b0.cell (j := 1) rfl
    have z_b0_1 := b0.free 1
    have c_b1_0 := b1.cell (j := 0) rfl
    have z_b1_0 := b1.free 0
    have c_b1_1 := b1.cell (j := 1) rfl
    have z_b1_1 := b1.free 1
    go_region_with (first
      | (go_at_call 142; (with_reducible refine (calls_ri (rtrim_any g p n c xs _ (h1.kept HW) (by omega)) ha (iv_abs _ _)).mono ?_); rintro e U1 ⟨p1, cc1, rfl, o1, ff⟩; replace HW := HW.trans ff (by simp); have c_b0_0 := (b0.kept HW).cell (j := 0) rfl; have z_b0_0 := (b0.kept HW).free 0; have c_b0_1 := (b0.kept HW).cell (j := 1) rfl; have z_b0_1 := (b0.kept HW).free 1; have c_b1_0 := (b1.kept HW).cell (j := 0) rfl; have z_b1_0 := (b1.kept HW).free 0; have c_b1_1 := (b1.kept HW).cell (j := 1) rfl; have z_b1_1 := (b1.kept HW).free 1; have hs1 := HW.size; clear ff)
      | (go_at_call 142; (with_reducible refine (calls_ri (rtrim_any h q m d ys _ (h2.kept HW) (by omega)) hb (iv_abs _ _)).mono ?_); rintro e U2 ⟨p2, cc2, rfl, o2, ff⟩; replace HW := HW.trans ff (by simp); have c_b0_0 := (b0.kept HW).cell (j := 0) rfl; have z_b0_0 := (b0.kept HW).free 0; have c_b0_1 := (b0.kept HW).cell (j := 1) rfl; have z_b0_1 := (b0.kept HW).free 1; have c_b1_0 := (b1.kept HW).cell (j := 0) rfl; have z_b1_0 := (b1.kept HW).free 0; have c_b1_1 := (b1.kept HW).cell (j := 1) rfl; have z_b1_1 := (b1.kept HW).free 1; replace o1 := o1.kept ff; have hs2 := HW.size; clear ff))
    all_goals
      go_wp2_with fail
      go_meet
      exact ⟨p1, p2, cc1, cc2, ((hw.trans HW (by simp)).set2 (b := w.heap.size) (by omega) _ _).set2 (b := w.heap.size + 1) (by omega) _ _, (by rw [set2_size, set2_size]; exact HW.size), ((b0.kept HW).set2 _ _).far (b := w.heap.size + 1) (by omega) _ _, ((b1.kept HW).far (b := w.heap.size) (by omega) _ _).set2 _ _, ((o1.mono (by omega)).set2 (b := w.heap.size) (by omega) _ _).set2 (b := w.heap.size + 1) (by omega) _ _, ((o2.mono (by omega)).set2 (b := w.heap.size) (by omega) _ _).set2 (b := w.heap.size + 1) (by omega) _ _, ((r0.kept HW).far (b := w.heap.size) (by omega) _ _).far (b := w.heap.size + 1) (by omega) _ _⟩
  case rest =>
    obtain ⟨p1, p2, cc1, cc2, hw, hsz, b0, b1, o1, o2, r0⟩ := hcut
    have c_b0_0 := b0.cell (j := 0) rfl
    have f_b0_0 := b0.free 0
    have c_b0_1 := b0.cell (j := 1) rfl
    have f_b0_1 := b0.free 1
    have c_b1_0 := b1.cell (j := 0) rfl
    have f_b1_0 := b1.free 0
    have c_b1_1 := b1.cell (j := 1) rfl
    have f_b1_1 := b1.free 1
    have c_r0_0 := r0.cell (j := 0) rfl
    have f_r0_0 := r0.free 0
    have c_r0_1 := r0.cell (j := 1) rfl
    have f_r0_1 := r0.free 1
    go_wp2_with fail
    clear c_b0_0 f_b0_0 c_b0_1 f_b0_1 c_b1_0 f_b1_0 c_b1_1 f_b1_1 c_r0_0 f_r0_0 c_r0_1 f_r0_1
    have c0 := b0.cell (j := 0) rfl
    have c1 := b0.cell (j := 1) rfl
    have c2 := b1.cell (j := 1) rfl
    go_region_held3 (fun w' => w'.cell? ⟨w.heap.size, 0, none⟩ = some (.bool true) ∧ w'.cell? ⟨w.heap.size, 1, none⟩ = some (.slice p1 (dg (val xs)).length cc1) ∧ w'.cell? ⟨w.heap.size + 1, 1, none⟩ = some (.slice p2 (dg (val ys)).length cc2)) (first | exact ⟨k0, k1, k2⟩ | exact ⟨c0, c1, c2⟩ | exact ⟨(set2_far (by omega)).trans k0, (set2_far (by omega)).trans k1, (set2_far (by omega)).trans k2⟩)
      (first
      | (go_at_call 167; (with_reducible refine (radd_any _ _ _ _ _ _ (dg (val xs)) (dg (val ys)) _ (o1.sl.kept (Fr.refl _ _).drew) (o2.sl.kept (Fr.refl _ _).drew) (by omega) (by omega)).mono ?_); rintro e V1 ⟨p3, cc3, rfl, o3, ff1⟩; have hf1 : Fr [] wc V1 := ((Fr.refl [] wc).drew).trans ff1 (by simp); have hsz1 := hf1.size; have k0 := (b0.kept hf1).cell (j := 0) rfl; have k1 := (b0.kept hf1).cell (j := 1) rfl; have k2 := (b1.kept hf1).cell (j := 1) rfl)
      | (go_at_call 142; (with_reducible refine (calls_ri (rtrim_any _ _ _ _ _ _ o3.sl (by omega)) HSG.out (by rw [iv_abs, val_dg])).mono ?_); rintro e V2 ⟨p4, cc4, rfl, o4, ff2⟩; have hf2 : Fr [] wc V2 := (hf1).trans ff2 (by simp); have hsz2 := hf2.size; have k0 := (b0.kept hf2).cell (j := 0) rfl; have k1 := (b0.kept hf2).cell (j := 1) rfl; have k2 := (b1.kept hf2).cell (j := 1) rfl; have o3 := o3.kept ff2; have hw2 := hw.trans hf2 (by simp); have n_b0 := b0.kept hf2; have m_b0_0 := n_b0.cell (j := 0) rfl; have q_b0_0 := n_b0.free 0; have m_b0_1 := n_b0.cell (j := 1) rfl; have q_b0_1 := n_b0.free 1; have n_b1 := b1.kept hf2; have m_b1_0 := n_b1.cell (j := 0) rfl; have q_b1_0 := n_b1.free 0; have m_b1_1 := n_b1.cell (j := 1) rfl; have q_b1_1 := n_b1.free 1; have n_r0 := r0.kept hf2; have m_r0_0 := n_r0.cell (j := 0) rfl; have q_r0_0 := n_r0.free 0; have m_r0_1 := n_r0.cell (j := 1) rfl; have q_r0_1 := n_r0.free 1))
    go_wp2
    exact fin_ret n_r0 hw2 o4 (by omega) (by omega) rfl (by rw [E0.out, iv_abs]) (by rw [E0.out]) (fun W' c0 c1 => by simp [results, Tryz.results118, go_sem, c0, c1])

end Go.Proofs.YtagciepnhjbopaaGreatDoor
