/- Integers: what a value reads as; signed, isZero, isNegative; Trim, Neg, Abs, Add, Sub, Mul, Compare, Sign. Written by wip/gen/gen_int1.py. -/
import Derived.Test.YtfjhdhmneknmkaaRef9
import Derived.Deep.RegionHeld3
import Derived.Deep.DeepCutAuto
namespace Go.Proofs.Ytfjhdhmneknmkaa
open Go.RowKit

/-- The integer of a sign and digits. -/
def iv (g : Bool) (m : Nat) : Int := if g then -(m : Int) else m
/-- An Int as a value. -/
abbrev iw (g : Bool) (p : Option Addr) (n c : Nat) : Value := .agg #[.bool g, .slice p n c]
/-- The call returned the valid Int of z, and has left all else. -/
def RetI (w : World) (z : Int) (e : Ending) (w' : World) : Prop :=
  ∃ p c, e = .returned (iw (decide (z < 0)) p (dg z.natAbs).length c) ∧ Ow w' w.heap.size p (dg z.natAbs).length c (dg z.natAbs) ∧ Fr [] w w'

theorem iv_pos (m : Nat) : iv false m = m := rfl
theorem iv_neg (m : Nat) : iv true m = -(m : Int) := rfl
theorem iv_abs (g : Bool) (m : Nat) : (iv g m).natAbs = m := by cases g <;> simp [iv]
theorem iv_lt (g : Bool) (m : Nat) : decide (iv g m < 0) = (g && decide (0 < m)) := by
  cases g <;> simp [iv] <;> omega
theorem dg_len_pos (m : Nat) : decide (0 < (dg m).length) = decide (0 < m) := by
  by_cases h : m = 0
  · subst h; rw [dg_zero]; rfl
  · rw [dg_pos h, decide_eq_true (by simp), decide_eq_true (by omega)]
theorem iv_val_dg (z : Int) : iv (decide (z < 0)) (val (dg z.natAbs)) = z := by
  rw [val_dg]
  unfold iv
  by_cases h : z < 0
  · rw [if_pos (decide_eq_true h)]; omega
  · rw [if_neg (by simp; omega)]; omega
/-- A block that holds just the cells vs, of any type. -/
def Bx (w : World) (b : Nat) (T : TypeId) (vs : Array Value) : Prop := w.heap[b]? = some (.cells vs T (0, 0))
theorem Bx.lt {w : World} {b : Nat} {T : TypeId} {vs : Array Value} (h : Bx w b T vs) : b < w.heap.size := (Array.getElem?_eq_some_iff.1 h).1
theorem Bx.cell {w : World} {b : Nat} {T : TypeId} {vs : Array Value} (h : Bx w b T vs) {j : Nat} {v : Value} (hj : vs[j]? = some v) : w.cell? ⟨b, j, none⟩ = some v := by
  rw [cell_of_row w b j _ _ _ h]
  simpa using hj
theorem Bx.kept {w w' : World} {b : Nat} {T : TypeId} {vs : Array Value} (h : Bx w b T vs) (f : Fr [] w w') : Bx w' b T vs := (f.block b h.lt (by simp)).trans h
theorem Bx.made (w : World) (T : TypeId) (vs : Array Value) : Bx (w.alloc (.cells vs T)) w.heap.size T vs := by
  unfold Bx
  exact heap_alloc_new w _
theorem Bx.made' {w : World} {b : Nat} (hb : b = w.heap.size) (T : TypeId) (vs : Array Value) : Bx (w.alloc (.cells vs T)) b T vs := by subst hb; exact Bx.made w T vs
theorem Bx.free {w : World} {b : Nat} {T : TypeId} {vs : Array Value} (h : Bx w b T vs) (j : Nat) : w.frozen? ⟨b, j, none⟩ = false := by
  have h' : w.heap[b]? = some (.cells vs T (0, 0)) := h
  simp [World.frozen?, h']
theorem Bx.set2 {w : World} {b : Nat} {T : TypeId} {v0 v1 : Value} (h : Bx w b T #[v0, v1]) (u0 u1 : Value) : Bx ((w.setCell ⟨b, 0, none⟩ u0).setCell ⟨b, 1, none⟩ u1) b T #[u0, u1] := by
  have h' : w.heap[b]? = some (.cells #[v0, v1] T (0, 0)) := h
  unfold Bx
  simp [World.setCell, Array.getElem?_modify, h']
theorem set2_fr (w : World) (b : Nat) (u0 u1 : Value) : Fr [b] w ((w.setCell ⟨b, 0, none⟩ u0).setCell ⟨b, 1, none⟩ u1) :=
  ((Fr.refl _ _).setCell ⟨b, 0, none⟩ _ (fun _ => List.mem_singleton.2 rfl)).setCell ⟨b, 1, none⟩ _ (fun _ => List.mem_singleton.2 rfl)
theorem set2_far {w : World} {b k j : Nat} {u0 u1 : Value} (h : k ≠ b) : ((w.setCell ⟨b, 0, none⟩ u0).setCell ⟨b, 1, none⟩ u1).cell? ⟨k, j, none⟩ = w.cell? ⟨k, j, none⟩ := by
  rw [World.cell?_setCell_far _ _ _ _ (fun e : b = k => h e.symm), World.cell?_setCell_far _ _ _ _ (fun e : b = k => h e.symm)]
theorem mul_sign (g h : Bool) (a b : Nat) : ((g != h) && decide (0 < a * b)) = decide (iv g a * iv h b < 0) := by
  have e : 0 < a * b ↔ (0 : Int) < (a : Int) * (b : Int) := by rw [← Int.natCast_mul]; omega
  cases g <;> cases h <;> simp only [iv, Bool.false_eq_true, if_false, if_true, bne_self_eq_false, Bool.false_and, Bool.true_and, Bool.bne_true, Bool.bne_false, Bool.not_false, Int.neg_mul, Int.mul_neg, Int.neg_neg]
  · exact (decide_eq_false (by have := Int.mul_nonneg (Int.natCast_nonneg a) (Int.natCast_nonneg b); omega)).symm
  · exact decide_eq_decide.2 (by omega)
  · exact decide_eq_decide.2 (by omega)
  · exact (decide_eq_false (by have := Int.mul_nonneg (Int.natCast_nonneg a) (Int.natCast_nonneg b); omega)).symm
/-- The end of a call that lays an Int into its result's cells. -/
theorem fin_ret {fn : Func} {a : Act} {w w2 : World} {b n c : Nat} {v0 v1 : Value} {g : Bool} {p : Option Addr} {ys : List Nat} {z : Int} (hr : Bx w2 b 40 #[v0, v1]) (hw : Fr [] w w2) {base : Nat} (hs : Ow w2 base p n c ys) (hb : w.heap.size ≤ b) (hbb : b < base) (hd : a.defers = [])
    (hys : ys = dg z.natAbs) (hg : g = decide (z < 0))
    (hf : ∀ W' : World, W'.cell? ⟨b, 0, none⟩ = some (.bool g) → W'.cell? ⟨b, 1, none⟩ = some (.slice p n c) → (results fn a.tmps).run Try.prog W' = .ok (iw g p n c) W') :
    bodyPost Try.prog fn (RetI w z) .ret a ((w2.setCell ⟨b, 0, none⟩ (.bool g)).setCell ⟨b, 1, none⟩ (.slice p n c)) := by
  have h2 := hr.set2 (.bool g) (.slice p n c)
  have f3 := set2_fr w2 b (.bool g) (.slice p n c)
  have f2 := hw.trans f3 (fun x hx hl => by have := List.mem_singleton.1 hx; omega)
  have s2 := (hs.keep f3 (fun k h1 _ h2 => by have := List.mem_singleton.1 h2; omega)).mono (show w.heap.size ≤ base by omega)
  have hn := hs.sl.len
  subst hys
  subst hg
  subst hn
  exact bodyPost_ret (hf _ (h2.cell rfl) (h2.cell rfl)) hd ⟨p, c, rfl, s2, f2⟩
theorem bl_zero_iff (x : Nat) : (((bl x : Nat) : Int) == 0) = decide (x = 0) := by
  by_cases h : x = 0
  · subst h; rfl
  · have := bl_pos h
    rw [beq_eq_false_iff_ne.2 (by omega), decide_eq_false h]

set_option maxRecDepth 100000 in
set_option maxHeartbeats 1000000 in
theorem iszero_any (g : Bool) (p : Option Addr) (n c : Nat) (xs : List Nat) (w : World) (h1 : Sl w p n c xs) (hn : n ≤ 549755813887) :
    Calls Try.prog 83 #[iw g p n c] w (fun e w' => e = .returned (.bool (decide (val xs = 0))) ∧ Fr [] w w') := by
  have hz := bl_zero_iff (val xs)
  go_enter Try.func83, Try.ntmps83
  go_wp2_with fail
  refine (bitLen_any _ _ _ _ _ (h1.kept (Fr.new _)) (by omega)).mono ?_
  rintro e w' ⟨rfl, rfl⟩
  go_wp2
  go_ret
  exact ⟨rfl, Fr.new _⟩

set_option maxRecDepth 100000 in
set_option maxHeartbeats 1000000 in
theorem signed_any (g : Bool) (p : Option Addr) (n c : Nat) (w : World) :
    Calls Try.prog 85 #[.bool g, .slice p n c] w fun e w' => e = .returned (iw (g && decide (0 < n)) p n c) ∧ Fr [] w w' := by
  cases g
  · go_enter Try.func85, Try.ntmps85
    go_wp2
    exact bodyPost_ret (v := iw false p n c) (by simp [results, Try.results85, go_sem]) rfl ⟨rfl, Fr.new _⟩
  · go_enter Try.func85, Try.ntmps85
    go_wp2
    exact bodyPost_ret (v := iw (decide (0 < n)) p n c) (by simp [results, Try.results85, go_sem]) rfl ⟨rfl, Fr.new _⟩

set_option maxRecDepth 100000 in
set_option maxHeartbeats 1000000 in
theorem isneg_any (g : Bool) (p : Option Addr) (n c : Nat) (xs : List Nat) (w : World) (h1 : Sl w p n c xs) (hn : n ≤ 549755813887) :
    Calls Try.prog 84 #[iw g p n c] w (fun e w' => e = .returned (.bool (decide (iv g (val xs) < 0))) ∧ Fr [] w w') := by
  cases g
  · have hz : decide (iv false (val xs) < 0) = false := by rw [iv_lt]; rfl
    rw [hz]
    clear hz
    go_enter Try.func84, Try.ntmps84
    go_wp2
    go_ret
    exact ⟨rfl, Fr.new _⟩
  · have hz : decide (iv true (val xs) < 0) = !decide (val xs = 0) := by rw [iv_lt, Bool.true_and, ← decide_not]; exact decide_eq_decide.2 (by omega)
    rw [hz]
    clear hz
    go_enter Try.func84, Try.ntmps84
    go_wp2_with fail
    refine (iszero_any _ _ _ _ _ _ (h1.kept (Fr.new _)) (by omega)).mono ?_
    rintro e w1 ⟨rfl, hf⟩
    go_wp2
    go_ret
    exact ⟨rfl, (Fr.new _).trans hf (by simp)⟩

set_option maxRecDepth 100000 in
set_option maxHeartbeats 1000000 in
theorem itrim_any (g : Bool) (p : Option Addr) (n c : Nat) (xs : List Nat) (w : World) (h1 : Sl w p n c xs) (hn : n ≤ 549755813887) :
    Calls Try.prog 37 #[iw g p n c] w (RetI w (iv g (val xs))) := by
  go_enter Try.func37, Try.ntmps37
  go_wp2_with fail
  have hw : Fr [] w ((w.alloc (Obj.cells #[.bool g, .slice p n c] 40)).alloc (Obj.cells #[.bool false, .slice none 0 0] 40)) := ((Fr.refl _ _).alloc _).alloc _
  have b0 : Bx ((w.alloc (Obj.cells #[.bool g, .slice p n c] 40)).alloc (Obj.cells #[.bool false, .slice none 0 0] 40)) w.heap.size 40 #[.bool g, .slice p n c] := (Bx.made' (by simp) _ _).kept ((Fr.refl _ _).alloc _)
  have hr : Bx ((w.alloc (Obj.cells #[.bool g, .slice p n c] 40)).alloc (Obj.cells #[.bool false, .slice none 0 0] 40)) (w.heap.size + 1) 40 #[.bool false, .slice none 0 0] := (Bx.made' (by simp) _ _).kept (Fr.refl _ _)
  generalize ((w.alloc (Obj.cells #[.bool g, .slice p n c] 40)).alloc (Obj.cells #[.bool false, .slice none 0 0] 40)) = W at *
  replace h1 := h1.kept hw
  have hbs := hr.lt
  have c0 := b0.cell (j := 0) rfl
  have c1 := b0.cell (j := 1) rfl
  go_region_held3 (fun w' => w'.cell? ⟨w.heap.size, 0, none⟩ = some (.bool g) ∧ w'.cell? ⟨w.heap.size, 1, none⟩ = some (.slice p n c)) (first | exact ⟨k0, k1⟩ | exact ⟨c0, c1⟩ | exact ⟨(set2_far (by omega)).trans k0, (set2_far (by omega)).trans k1⟩)
    (first
    | (go_at_call 86; refine (trim_any _ _ _ _ _ (h1.kept (Fr.refl _ _).drew) (by omega)).mono ?_; rintro e w1 ⟨p1, cc1, rfl, o1, ff1⟩; have hf1 : Fr [] W w1 := ((Fr.refl [] W).drew).trans ff1 (by simp); have k0 := (b0.kept hf1).cell (j := 0) rfl; have k1 := (b0.kept hf1).cell (j := 1) rfl)
    | (go_at_call 85; refine (signed_any _ _ _ _ _).mono ?_; rintro e w2 ⟨rfl, ff2⟩; have hf2 : Fr [] W w2 := (hf1).trans ff2 (by simp); have k0 := (b0.kept hf2).cell (j := 0) rfl; have k1 := (b0.kept hf2).cell (j := 1) rfl; have o2 := o1.kept ff2; have hr2 := hr.kept hf2; have r0 := hr2.cell (j := 0) rfl; have r1 := hr2.cell (j := 1) rfl; have rf := hr2.free 0; have rg := hr2.free 1; have hw2 := hw.trans hf2 (by simp)))
  go_wp2
  exact fin_ret hr2 hw2 o2 (by omega) hbs rfl (by rw [iv_abs]) (by rw [iv_lt, dg_len_pos]) (fun W' c0 c1 => by simp [results, Try.results37, go_sem, c0, c1])

set_option maxRecDepth 100000 in
set_option maxHeartbeats 1000000 in
theorem ineg_any (g : Bool) (p : Option Addr) (n c : Nat) (xs : List Nat) (w : World) (h1 : Sl w p n c xs) (hn : n ≤ 549755813887) :
    Calls Try.prog 39 #[iw g p n c] w (RetI w (-(iv g (val xs)))) := by
  go_enter Try.func39, Try.ntmps39
  go_wp2_with fail
  have hw : Fr [] w ((w.alloc (Obj.cells #[.bool g, .slice p n c] 40)).alloc (Obj.cells #[.bool false, .slice none 0 0] 40)) := ((Fr.refl _ _).alloc _).alloc _
  have b0 : Bx ((w.alloc (Obj.cells #[.bool g, .slice p n c] 40)).alloc (Obj.cells #[.bool false, .slice none 0 0] 40)) w.heap.size 40 #[.bool g, .slice p n c] := (Bx.made' (by simp) _ _).kept ((Fr.refl _ _).alloc _)
  have hr : Bx ((w.alloc (Obj.cells #[.bool g, .slice p n c] 40)).alloc (Obj.cells #[.bool false, .slice none 0 0] 40)) (w.heap.size + 1) 40 #[.bool false, .slice none 0 0] := (Bx.made' (by simp) _ _).kept (Fr.refl _ _)
  generalize ((w.alloc (Obj.cells #[.bool g, .slice p n c] 40)).alloc (Obj.cells #[.bool false, .slice none 0 0] 40)) = W at *
  replace h1 := h1.kept hw
  have hbs := hr.lt
  have c0 := b0.cell (j := 0) rfl
  have c1 := b0.cell (j := 1) rfl
  go_region_held3 (fun w' => w'.cell? ⟨w.heap.size, 0, none⟩ = some (.bool g) ∧ w'.cell? ⟨w.heap.size, 1, none⟩ = some (.slice p n c)) (first | exact ⟨k0, k1⟩ | exact ⟨c0, c1⟩ | exact ⟨(set2_far (by omega)).trans k0, (set2_far (by omega)).trans k1⟩)
    (first
    | (go_at_call 86; refine (trim_any _ _ _ _ _ (h1.kept (Fr.refl _ _).drew) (by omega)).mono ?_; rintro e w1 ⟨p1, cc1, rfl, o1, ff1⟩; have hf1 : Fr [] W w1 := ((Fr.refl [] W).drew).trans ff1 (by simp); have k0 := (b0.kept hf1).cell (j := 0) rfl; have k1 := (b0.kept hf1).cell (j := 1) rfl)
    | (go_at_call 85; refine (signed_any _ _ _ _ _).mono ?_; rintro e w2 ⟨rfl, ff2⟩; have hf2 : Fr [] W w2 := (hf1).trans ff2 (by simp); have k0 := (b0.kept hf2).cell (j := 0) rfl; have k1 := (b0.kept hf2).cell (j := 1) rfl; have o2 := o1.kept ff2; have hr2 := hr.kept hf2; have r0 := hr2.cell (j := 0) rfl; have r1 := hr2.cell (j := 1) rfl; have rf := hr2.free 0; have rg := hr2.free 1; have hw2 := hw.trans hf2 (by simp)))
  go_wp2
  exact fin_ret hr2 hw2 o2 (by omega) hbs rfl (by rw [Int.natAbs_neg, iv_abs]) (by rw [dg_len_pos]; cases g <;> simp [iv] <;> omega) (fun W' c0 c1 => by simp [results, Try.results39, go_sem, c0, c1])

set_option maxRecDepth 100000 in
set_option maxHeartbeats 1000000 in
theorem imul_any (g h : Bool) (p q : Option Addr) (n c m d : Nat) (xs ys : List Nat) (w : World) (h1 : Sl w p n c xs) (h2 : Sl w q m d ys) (hn : n ≤ 549755813887) (hm : m ≤ 549755813887) :
    Calls Try.prog 47 #[iw g p n c, iw h q m d] w (RetI w (iv g (val xs) * iv h (val ys))) := by
  go_enter Try.func47, Try.ntmps47
  go_wp2_with fail
  have hw : Fr [] w (((w.alloc (Obj.cells #[.bool g, .slice p n c] 40)).alloc (Obj.cells #[.bool h, .slice q m d] 40)).alloc (Obj.cells #[.bool false, .slice none 0 0] 40)) := (((Fr.refl _ _).alloc _).alloc _).alloc _
  have b0 : Bx (((w.alloc (Obj.cells #[.bool g, .slice p n c] 40)).alloc (Obj.cells #[.bool h, .slice q m d] 40)).alloc (Obj.cells #[.bool false, .slice none 0 0] 40)) w.heap.size 40 #[.bool g, .slice p n c] := (Bx.made' (by simp) _ _).kept (((Fr.refl _ _).alloc _).alloc _)
  have b1 : Bx (((w.alloc (Obj.cells #[.bool g, .slice p n c] 40)).alloc (Obj.cells #[.bool h, .slice q m d] 40)).alloc (Obj.cells #[.bool false, .slice none 0 0] 40)) (w.heap.size + 1) 40 #[.bool h, .slice q m d] := (Bx.made' (by simp) _ _).kept ((Fr.refl _ _).alloc _)
  have hr : Bx (((w.alloc (Obj.cells #[.bool g, .slice p n c] 40)).alloc (Obj.cells #[.bool h, .slice q m d] 40)).alloc (Obj.cells #[.bool false, .slice none 0 0] 40)) (w.heap.size + 2) 40 #[.bool false, .slice none 0 0] := (Bx.made' (by simp) _ _).kept (Fr.refl _ _)
  generalize (((w.alloc (Obj.cells #[.bool g, .slice p n c] 40)).alloc (Obj.cells #[.bool h, .slice q m d] 40)).alloc (Obj.cells #[.bool false, .slice none 0 0] 40)) = W at *
  replace h1 := h1.kept hw
  replace h2 := h2.kept hw
  have hbs := hr.lt
  have c0 := b0.cell (j := 0) rfl
  have c1 := b0.cell (j := 1) rfl
  have c2 := b1.cell (j := 0) rfl
  have c3 := b1.cell (j := 1) rfl
  go_region_held3 (fun w' => w'.cell? ⟨w.heap.size, 0, none⟩ = some (.bool g) ∧ w'.cell? ⟨w.heap.size, 1, none⟩ = some (.slice p n c) ∧ w'.cell? ⟨w.heap.size + 1, 0, none⟩ = some (.bool h) ∧ w'.cell? ⟨w.heap.size + 1, 1, none⟩ = some (.slice q m d)) (first | exact ⟨k0, k1, k2, k3⟩ | exact ⟨c0, c1, c2, c3⟩ | exact ⟨(set2_far (by omega)).trans k0, (set2_far (by omega)).trans k1, (set2_far (by omega)).trans k2, (set2_far (by omega)).trans k3⟩)
    (first
    | (go_at_call 25; refine (mul_any _ _ _ _ _ _ _ _ _ (h1.kept (Fr.refl _ _).drew) (h2.kept (Fr.refl _ _).drew) (by omega) (by omega)).mono ?_; rintro e w1 ⟨p1, cc1, rfl, o1, ff1⟩; have hf1 : Fr [] W w1 := ((Fr.refl [] W).drew).trans ff1 (by simp); have k0 := (b0.kept hf1).cell (j := 0) rfl; have k1 := (b0.kept hf1).cell (j := 1) rfl; have k2 := (b1.kept hf1).cell (j := 0) rfl; have k3 := (b1.kept hf1).cell (j := 1) rfl)
    | (go_at_call 85; refine (signed_any _ _ _ _ _).mono ?_; rintro e w2 ⟨rfl, ff2⟩; have hf2 : Fr [] W w2 := (hf1).trans ff2 (by simp); have k0 := (b0.kept hf2).cell (j := 0) rfl; have k1 := (b0.kept hf2).cell (j := 1) rfl; have k2 := (b1.kept hf2).cell (j := 0) rfl; have k3 := (b1.kept hf2).cell (j := 1) rfl; have o2 := o1.kept ff2; have hr2 := hr.kept hf2; have r0 := hr2.cell (j := 0) rfl; have r1 := hr2.cell (j := 1) rfl; have rf := hr2.free 0; have rg := hr2.free 1; have hw2 := hw.trans hf2 (by simp)))
  go_wp2
  exact fin_ret hr2 hw2 o2 (by omega) hbs rfl (by rw [Int.natAbs_mul, iv_abs, iv_abs]) (by rw [dg_len_pos]; exact mul_sign g h _ _) (fun W' c0 c1 => by simp [results, Try.results47, go_sem, c0, c1])

end Go.Proofs.Ytfjhdhmneknmkaa
