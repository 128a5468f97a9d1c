/- What the statements of this claim stand on: of Int2, what they name -/
import Derived.Test.YtagciepnhjbopaaGreatDoorT12

namespace Go.Proofs.YtagciepnhjbopaaGreatDoor
open Go.RowKit

theorem iv_add_same (g : Bool) (a b : Nat) : iv g a + iv g b = iv g (a + b) := by cases g <;> simp [iv] <;> omega

theorem iv_add_less {g h : Bool} {a b : Nat} (e : h = !g) (_l : a < b) : iv g a + iv h b = iv h (b - a) := by subst e; cases g <;> simp [iv] <;> omega

theorem iv_add_more {g h : Bool} {a b : Nat} (e : h = !g) (_l : b ≤ a) : iv g a + iv h b = iv g (a - b) := by subst e; cases g <;> simp [iv] <;> omega

theorem cmpN_neg {a b : Nat} (h : a < b) : ((cmpN a b) == (-1 : Int)) = true := by rw [cmpN_lt h]; rfl

theorem cmpN_nneg {a b : Nat} (_h : b ≤ a) : ((cmpN a b) == (-1 : Int)) = false := by
  by_cases e : a = b
  · rw [cmpN_eq e]; rfl
  · rw [cmpN_gt (by omega)]; rfl

def cmpZ (x y : Int) : Int := if x < y then -1 else if y < x then 1 else 0

theorem cmpZ_pos (a b : Nat) : cmpZ (iv false a) (iv false b) = cmpN a b := by
  unfold cmpZ cmpN iv; simp

theorem cmpZ_neg (a b : Nat) : cmpZ (iv true a) (iv true b) = cmpN b a := by
  unfold cmpZ cmpN iv
  by_cases h : a < b
  · rw [if_neg (by simp; omega), if_pos (by simp; omega), if_neg (by omega), if_pos h]
  · by_cases h2 : b < a
    · rw [if_pos (by simp; omega), if_pos h2]
    · rw [if_neg (by simp; omega), if_neg (by simp; omega), if_neg h2, if_neg h]

theorem cmpZ_lt {x y : Int} (h : x < y) : cmpZ x y = -1 := if_pos h

theorem cmpZ_gt {x y : Int} (h : y < x) : cmpZ x y = 1 := by unfold cmpZ; rw [if_neg (by omega), if_pos h]

set_option maxRecDepth 100000 in
set_option maxHeartbeats 1000000 in
theorem iadd_same_false (p q : Option Addr) (n c m d : Nat) (xs ys : List Nat) (w : World) (h1 : Sl w p n c xs) (h2 : Sl w q m d ys) (_hn : n ≤ 549755813887) (_hm : m ≤ 549755813887) :
    Calls Tryz.prog 166 #[iw false p n c, iw false q m d] w (RetI w (iv false (val xs) + iv false (val ys))) := by
  rw [iv_add_same]
  go_enter Tryz.func166, Tryz.ntmps166
  go_wp2_with fail
  have hw : Fr [] w (((w.alloc (Obj.cells #[.bool false, .slice p n c] 24)).alloc (Obj.cells #[.bool false, .slice q m d] 24)).alloc (Obj.cells #[.bool false, .slice none 0 0] 24)) := (((Fr.refl _ _).alloc _).alloc _).alloc _
  have b0 : Bx (((w.alloc (Obj.cells #[.bool false, .slice p n c] 24)).alloc (Obj.cells #[.bool false, .slice q m d] 24)).alloc (Obj.cells #[.bool false, .slice none 0 0] 24)) w.heap.size 24 #[.bool false, .slice p n c] := (Bx.made' (by simp) _ _).kept (((Fr.refl _ _).alloc _).alloc _)
  have b1 : Bx (((w.alloc (Obj.cells #[.bool false, .slice p n c] 24)).alloc (Obj.cells #[.bool false, .slice q m d] 24)).alloc (Obj.cells #[.bool false, .slice none 0 0] 24)) (w.heap.size + 1) 24 #[.bool false, .slice q m d] := (Bx.made' (by simp) _ _).kept ((Fr.refl _ _).alloc _)
  have hr : Bx (((w.alloc (Obj.cells #[.bool false, .slice p n c] 24)).alloc (Obj.cells #[.bool false, .slice q m d] 24)).alloc (Obj.cells #[.bool false, .slice none 0 0] 24)) (w.heap.size + 2) 24 #[.bool false, .slice none 0 0] := (Bx.made' (by simp) _ _).kept (Fr.refl _ _)
  generalize (((w.alloc (Obj.cells #[.bool false, .slice p n c] 24)).alloc (Obj.cells #[.bool false, .slice q m d] 24)).alloc (Obj.cells #[.bool false, .slice none 0 0] 24)) = W at *
  replace h1 := h1.kept hw
  replace h2 := h2.kept hw
  have hbs := hr.lt
  have e0 := b0.cell (j := 0) rfl
  have e1 := b1.cell (j := 0) rfl
  go_wp2_with fail
  clear e0 e1
  have c0 := b0.cell (j := 0) rfl
  have c1 := b0.cell (j := 1) rfl
  have c2 := b1.cell (j := 1) rfl
  go_region_held3 (fun w' => w'.cell? ⟨w.heap.size, 0, none⟩ = some (.bool false) ∧ w'.cell? ⟨w.heap.size, 1, none⟩ = some (.slice p n c) ∧ w'.cell? ⟨w.heap.size + 1, 1, none⟩ = some (.slice q m d)) (first | exact ⟨k0, k1, k2⟩ | exact ⟨c0, c1, c2⟩ | exact ⟨(set2_far (by omega)).trans k0, (set2_far (by omega)).trans k1, (set2_far (by omega)).trans k2⟩)
    (first
    | (go_at_call 197; refine (add_any _ _ _ _ _ _ _ _ _ (h1.kept (Fr.refl _ _).drew) (h2.kept (Fr.refl _ _).drew) (by omega) (by omega)).mono ?_; rintro e w1 ⟨p1, cc1, rfl, o1, ff1⟩; have hf1 : Fr [] W w1 := ((Fr.refl [] W).drew).trans ff1 (by simp); have k0 := (b0.kept hf1).cell (j := 0) rfl; have k1 := (b0.kept hf1).cell (j := 1) rfl; have k2 := (b1.kept hf1).cell (j := 1) rfl)
    | (go_at_call 148; refine (signed_any _ _ _ _ _).mono ?_; rintro e w2 ⟨rfl, ff2⟩; have hf2 : Fr [] W w2 := (hf1).trans ff2 (by simp); have k0 := (b0.kept hf2).cell (j := 0) rfl; have k1 := (b0.kept hf2).cell (j := 1) rfl; have k2 := (b1.kept hf2).cell (j := 1) rfl; have o2 := o1.kept ff2; have hr2 := hr.kept hf2; have r0 := hr2.cell (j := 0) rfl; have r1 := hr2.cell (j := 1) rfl; have rf := hr2.free 0; have rg := hr2.free 1; have hw2 := hw.trans hf2 (by simp)))
  go_wp2
  exact fin_ret hr2 hw2 o2 (by omega) hbs rfl (by rw [iv_abs]) (by simp only [iv_lt, Bool.false_and]) (fun W' c0 c1 => by simp [results, Tryz.results166, go_sem, c0, c1])

set_option maxRecDepth 100000 in
set_option maxHeartbeats 1000000 in
theorem iadd_same_true (p q : Option Addr) (n c m d : Nat) (xs ys : List Nat) (w : World) (h1 : Sl w p n c xs) (h2 : Sl w q m d ys) (_hn : n ≤ 549755813887) (_hm : m ≤ 549755813887) :
    Calls Tryz.prog 166 #[iw true p n c, iw true q m d] w (RetI w (iv true (val xs) + iv true (val ys))) := by
  rw [iv_add_same]
  go_enter Tryz.func166, Tryz.ntmps166
  go_wp2_with fail
  have hw : Fr [] w (((w.alloc (Obj.cells #[.bool true, .slice p n c] 24)).alloc (Obj.cells #[.bool true, .slice q m d] 24)).alloc (Obj.cells #[.bool false, .slice none 0 0] 24)) := (((Fr.refl _ _).alloc _).alloc _).alloc _
  have b0 : Bx (((w.alloc (Obj.cells #[.bool true, .slice p n c] 24)).alloc (Obj.cells #[.bool true, .slice q m d] 24)).alloc (Obj.cells #[.bool false, .slice none 0 0] 24)) w.heap.size 24 #[.bool true, .slice p n c] := (Bx.made' (by simp) _ _).kept (((Fr.refl _ _).alloc _).alloc _)
  have b1 : Bx (((w.alloc (Obj.cells #[.bool true, .slice p n c] 24)).alloc (Obj.cells #[.bool true, .slice q m d] 24)).alloc (Obj.cells #[.bool false, .slice none 0 0] 24)) (w.heap.size + 1) 24 #[.bool true, .slice q m d] := (Bx.made' (by simp) _ _).kept ((Fr.refl _ _).alloc _)
  have hr : Bx (((w.alloc (Obj.cells #[.bool true, .slice p n c] 24)).alloc (Obj.cells #[.bool true, .slice q m d] 24)).alloc (Obj.cells #[.bool false, .slice none 0 0] 24)) (w.heap.size + 2) 24 #[.bool false, .slice none 0 0] := (Bx.made' (by simp) _ _).kept (Fr.refl _ _)
  generalize (((w.alloc (Obj.cells #[.bool true, .slice p n c] 24)).alloc (Obj.cells #[.bool true, .slice q m d] 24)).alloc (Obj.cells #[.bool false, .slice none 0 0] 24)) = W at *
  replace h1 := h1.kept hw
  replace h2 := h2.kept hw
  have hbs := hr.lt
  have e0 := b0.cell (j := 0) rfl
  have e1 := b1.cell (j := 0) rfl
  go_wp2_with fail
  clear e0 e1
  have c0 := b0.cell (j := 0) rfl
  have c1 := b0.cell (j := 1) rfl
  have c2 := b1.cell (j := 1) rfl
  go_region_held3 (fun w' => w'.cell? ⟨w.heap.size, 0, none⟩ = some (.bool true) ∧ w'.cell? ⟨w.heap.size, 1, none⟩ = some (.slice p n c) ∧ w'.cell? ⟨w.heap.size + 1, 1, none⟩ = some (.slice q m d)) (first | exact ⟨k0, k1, k2⟩ | exact ⟨c0, c1, c2⟩ | exact ⟨(set2_far (by omega)).trans k0, (set2_far (by omega)).trans k1, (set2_far (by omega)).trans k2⟩)
    (first
    | (go_at_call 197; refine (add_any _ _ _ _ _ _ _ _ _ (h1.kept (Fr.refl _ _).drew) (h2.kept (Fr.refl _ _).drew) (by omega) (by omega)).mono ?_; rintro e w1 ⟨p1, cc1, rfl, o1, ff1⟩; have hf1 : Fr [] W w1 := ((Fr.refl [] W).drew).trans ff1 (by simp); have k0 := (b0.kept hf1).cell (j := 0) rfl; have k1 := (b0.kept hf1).cell (j := 1) rfl; have k2 := (b1.kept hf1).cell (j := 1) rfl)
    | (go_at_call 148; refine (signed_any _ _ _ _ _).mono ?_; rintro e w2 ⟨rfl, ff2⟩; have hf2 : Fr [] W w2 := (hf1).trans ff2 (by simp); have k0 := (b0.kept hf2).cell (j := 0) rfl; have k1 := (b0.kept hf2).cell (j := 1) rfl; have k2 := (b1.kept hf2).cell (j := 1) rfl; have o2 := o1.kept ff2; have hr2 := hr.kept hf2; have r0 := hr2.cell (j := 0) rfl; have r1 := hr2.cell (j := 1) rfl; have rf := hr2.free 0; have rg := hr2.free 1; have hw2 := hw.trans hf2 (by simp)))
  go_wp2
  exact fin_ret hr2 hw2 o2 (by omega) hbs rfl (by rw [iv_abs]) (by simp only [dg_len_pos, iv_lt, Bool.true_and]) (fun W' c0 c1 => by simp [results, Tryz.results166, go_sem, c0, c1])

set_option maxRecDepth 100000 in
set_option maxHeartbeats 1000000 in
theorem iadd_less_false (p q : Option Addr) (n c m d : Nat) (xs ys : List Nat) (w : World) (h1 : Sl w p n c xs) (h2 : Sl w q m d ys) (_hn : n ≤ 549755813887) (_hm : m ≤ 549755813887) (hl : val xs < val ys) (hc : ((cmpN (val xs) (val ys)) == (-1 : Int)) = true) :
    Calls Tryz.prog 166 #[iw false p n c, iw true q m d] w (RetI w (iv false (val xs) + iv true (val ys))) := by
  rw [iv_add_less (g := false) (h := true) rfl hl]
  have HC := Lib.hid hc
  have HL := Lib.hid hl
  clear hc hl
  go_enter Tryz.func166, Tryz.ntmps166
  go_wp2_with fail
  have hw : Fr [] w (((w.alloc (Obj.cells #[.bool false, .slice p n c] 24)).alloc (Obj.cells #[.bool true, .slice q m d] 24)).alloc (Obj.cells #[.bool false, .slice none 0 0] 24)) := (((Fr.refl _ _).alloc _).alloc _).alloc _
  have b0 : Bx (((w.alloc (Obj.cells #[.bool false, .slice p n c] 24)).alloc (Obj.cells #[.bool true, .slice q m d] 24)).alloc (Obj.cells #[.bool false, .slice none 0 0] 24)) w.heap.size 24 #[.bool false, .slice p n c] := (Bx.made' (by simp) _ _).kept (((Fr.refl _ _).alloc _).alloc _)
  have b1 : Bx (((w.alloc (Obj.cells #[.bool false, .slice p n c] 24)).alloc (Obj.cells #[.bool true, .slice q m d] 24)).alloc (Obj.cells #[.bool false, .slice none 0 0] 24)) (w.heap.size + 1) 24 #[.bool true, .slice q m d] := (Bx.made' (by simp) _ _).kept ((Fr.refl _ _).alloc _)
  have hr : Bx (((w.alloc (Obj.cells #[.bool false, .slice p n c] 24)).alloc (Obj.cells #[.bool true, .slice q m d] 24)).alloc (Obj.cells #[.bool false, .slice none 0 0] 24)) (w.heap.size + 2) 24 #[.bool false, .slice none 0 0] := (Bx.made' (by simp) _ _).kept (Fr.refl _ _)
  generalize (((w.alloc (Obj.cells #[.bool false, .slice p n c] 24)).alloc (Obj.cells #[.bool true, .slice q m d] 24)).alloc (Obj.cells #[.bool false, .slice none 0 0] 24)) = W at *
  replace h1 := h1.kept hw
  replace h2 := h2.kept hw
  have hbs := hr.lt
  have d0 := b0.cell (j := 1) rfl
  have d1 := b1.cell (j := 1) rfl
  have e0 := b0.cell (j := 0) rfl
  have e1 := b1.cell (j := 0) rfl
  go_wp2_with fail
  refine (compare_any _ _ _ _ _ _ _ _ _ h1 h2).mono ?_
  rintro e w9 ⟨rfl, fc⟩
  replace hw := hw.trans fc (by simp)
  replace b0 := b0.kept fc
  replace b1 := b1.kept fc
  replace hr := hr.kept fc
  replace h1 := h1.kept fc
  replace h2 := h2.kept fc
  replace hbs := hr.lt
  clear d0 d1 e0 e1 fc
  have hc := HC.out
  go_wp2_with fail
  clear hc
  have c0 := b1.cell (j := 0) rfl
  have c1 := b1.cell (j := 1) rfl
  have c2 := b0.cell (j := 1) rfl
  go_region_held3 (fun w' => w'.cell? ⟨w.heap.size + 1, 0, none⟩ = some (.bool true) ∧ w'.cell? ⟨w.heap.size + 1, 1, none⟩ = some (.slice q m d) ∧ w'.cell? ⟨w.heap.size, 1, none⟩ = some (.slice p n c)) (first | exact ⟨k0, k1, k2⟩ | exact ⟨c0, c1, c2⟩ | exact ⟨(set2_far (by omega)).trans k0, (set2_far (by omega)).trans k1, (set2_far (by omega)).trans k2⟩)
    (first
    | (go_at_call 198; refine (sub_any _ _ _ _ _ _ _ _ _ (h2.kept (Fr.refl _ _).drew) (h1.kept (Fr.refl _ _).drew) (by omega) (by omega)).mono ?_; rintro e w1 ⟨p1, cc1, rfl, o1, ff1⟩; have hf1 : Fr [] w9 w1 := ((Fr.refl [] w9).drew).trans ff1 (by simp); have k0 := (b1.kept hf1).cell (j := 0) rfl; have k1 := (b1.kept hf1).cell (j := 1) rfl; have k2 := (b0.kept hf1).cell (j := 1) rfl)
    | (go_at_call 148; refine (signed_any _ _ _ _ _).mono ?_; rintro e w2 ⟨rfl, ff2⟩; have hf2 : Fr [] w9 w2 := (hf1).trans ff2 (by simp); have k0 := (b1.kept hf2).cell (j := 0) rfl; have k1 := (b1.kept hf2).cell (j := 1) rfl; have k2 := (b0.kept hf2).cell (j := 1) rfl; have o2 := o1.kept ff2; have hr2 := hr.kept hf2; have r0 := hr2.cell (j := 0) rfl; have r1 := hr2.cell (j := 1) rfl; have rf := hr2.free 0; have rg := hr2.free 1; have hw2 := hw.trans hf2 (by simp)))
  go_wp2
  exact fin_ret hr2 hw2 o2 (by omega) hbs rfl (by rw [iv_abs]) (by simp only [dg_len_pos, iv_lt, Bool.true_and]) (fun W' c0 c1 => by simp [results, Tryz.results166, go_sem, c0, c1])

set_option maxRecDepth 100000 in
set_option maxHeartbeats 1000000 in
theorem iadd_more_false (p q : Option Addr) (n c m d : Nat) (xs ys : List Nat) (w : World) (h1 : Sl w p n c xs) (h2 : Sl w q m d ys) (_hn : n ≤ 549755813887) (_hm : m ≤ 549755813887) (hl : val ys ≤ val xs) (hc : ((cmpN (val xs) (val ys)) == (-1 : Int)) = false) :
    Calls Tryz.prog 166 #[iw false p n c, iw true q m d] w (RetI w (iv false (val xs) + iv true (val ys))) := by
  rw [iv_add_more (g := false) (h := true) rfl hl]
  have HC := Lib.hid hc
  have HL := Lib.hid hl
  clear hc hl
  go_enter Tryz.func166, Tryz.ntmps166
  go_wp2_with fail
  have hw : Fr [] w (((w.alloc (Obj.cells #[.bool false, .slice p n c] 24)).alloc (Obj.cells #[.bool true, .slice q m d] 24)).alloc (Obj.cells #[.bool false, .slice none 0 0] 24)) := (((Fr.refl _ _).alloc _).alloc _).alloc _
  have b0 : Bx (((w.alloc (Obj.cells #[.bool false, .slice p n c] 24)).alloc (Obj.cells #[.bool true, .slice q m d] 24)).alloc (Obj.cells #[.bool false, .slice none 0 0] 24)) w.heap.size 24 #[.bool false, .slice p n c] := (Bx.made' (by simp) _ _).kept (((Fr.refl _ _).alloc _).alloc _)
  have b1 : Bx (((w.alloc (Obj.cells #[.bool false, .slice p n c] 24)).alloc (Obj.cells #[.bool true, .slice q m d] 24)).alloc (Obj.cells #[.bool false, .slice none 0 0] 24)) (w.heap.size + 1) 24 #[.bool true, .slice q m d] := (Bx.made' (by simp) _ _).kept ((Fr.refl _ _).alloc _)
  have hr : Bx (((w.alloc (Obj.cells #[.bool false, .slice p n c] 24)).alloc (Obj.cells #[.bool true, .slice q m d] 24)).alloc (Obj.cells #[.bool false, .slice none 0 0] 24)) (w.heap.size + 2) 24 #[.bool false, .slice none 0 0] := (Bx.made' (by simp) _ _).kept (Fr.refl _ _)
  generalize (((w.alloc (Obj.cells #[.bool false, .slice p n c] 24)).alloc (Obj.cells #[.bool true, .slice q m d] 24)).alloc (Obj.cells #[.bool false, .slice none 0 0] 24)) = W at *
  replace h1 := h1.kept hw
  replace h2 := h2.kept hw
  have hbs := hr.lt
  have d0 := b0.cell (j := 1) rfl
  have d1 := b1.cell (j := 1) rfl
  have e0 := b0.cell (j := 0) rfl
  have e1 := b1.cell (j := 0) rfl
  go_wp2_with fail
  refine (compare_any _ _ _ _ _ _ _ _ _ h1 h2).mono ?_
  rintro e w9 ⟨rfl, fc⟩
  replace hw := hw.trans fc (by simp)
  replace b0 := b0.kept fc
  replace b1 := b1.kept fc
  replace hr := hr.kept fc
  replace h1 := h1.kept fc
  replace h2 := h2.kept fc
  replace hbs := hr.lt
  clear d0 d1 e0 e1 fc
  have hc := HC.out
  go_wp2_with fail
  clear hc
  have c0 := b0.cell (j := 0) rfl
  have c1 := b0.cell (j := 1) rfl
  have c2 := b1.cell (j := 1) rfl
  go_region_held3 (fun w' => w'.cell? ⟨w.heap.size, 0, none⟩ = some (.bool false) ∧ w'.cell? ⟨w.heap.size, 1, none⟩ = some (.slice p n c) ∧ w'.cell? ⟨w.heap.size + 1, 1, none⟩ = some (.slice q m d)) (first | exact ⟨k0, k1, k2⟩ | exact ⟨c0, c1, c2⟩ | exact ⟨(set2_far (by omega)).trans k0, (set2_far (by omega)).trans k1, (set2_far (by omega)).trans k2⟩)
    (first
    | (go_at_call 198; refine (sub_any _ _ _ _ _ _ _ _ _ (h1.kept (Fr.refl _ _).drew) (h2.kept (Fr.refl _ _).drew) (by omega) (by omega)).mono ?_; rintro e w1 ⟨p1, cc1, rfl, o1, ff1⟩; have hf1 : Fr [] w9 w1 := ((Fr.refl [] w9).drew).trans ff1 (by simp); have k0 := (b0.kept hf1).cell (j := 0) rfl; have k1 := (b0.kept hf1).cell (j := 1) rfl; have k2 := (b1.kept hf1).cell (j := 1) rfl)
    | (go_at_call 148; refine (signed_any _ _ _ _ _).mono ?_; rintro e w2 ⟨rfl, ff2⟩; have hf2 : Fr [] w9 w2 := (hf1).trans ff2 (by simp); have k0 := (b0.kept hf2).cell (j := 0) rfl; have k1 := (b0.kept hf2).cell (j := 1) rfl; have k2 := (b1.kept hf2).cell (j := 1) rfl; have o2 := o1.kept ff2; have hr2 := hr.kept hf2; have r0 := hr2.cell (j := 0) rfl; have r1 := hr2.cell (j := 1) rfl; have rf := hr2.free 0; have rg := hr2.free 1; have hw2 := hw.trans hf2 (by simp)))
  go_wp2
  exact fin_ret hr2 hw2 o2 (by omega) hbs rfl (by rw [iv_abs]) (by simp only [iv_lt, Bool.false_and]) (fun W' c0 c1 => by simp [results, Tryz.results166, go_sem, c0, c1])

set_option maxRecDepth 100000 in
set_option maxHeartbeats 1000000 in
theorem iadd_less_true (p q : Option Addr) (n c m d : Nat) (xs ys : List Nat) (w : World) (h1 : Sl w p n c xs) (h2 : Sl w q m d ys) (_hn : n ≤ 549755813887) (_hm : m ≤ 549755813887) (hl : val xs < val ys) (hc : ((cmpN (val xs) (val ys)) == (-1 : Int)) = true) :
    Calls Tryz.prog 166 #[iw true p n c, iw false q m d] w (RetI w (iv true (val xs) + iv false (val ys))) := by
  rw [iv_add_less (g := true) (h := false) rfl hl]
  have HC := Lib.hid hc
  have HL := Lib.hid hl
  clear hc hl
  go_enter Tryz.func166, Tryz.ntmps166
  go_wp2_with fail
  have hw : Fr [] w (((w.alloc (Obj.cells #[.bool true, .slice p n c] 24)).alloc (Obj.cells #[.bool false, .slice q m d] 24)).alloc (Obj.cells #[.bool false, .slice none 0 0] 24)) := (((Fr.refl _ _).alloc _).alloc _).alloc _
  have b0 : Bx (((w.alloc (Obj.cells #[.bool true, .slice p n c] 24)).alloc (Obj.cells #[.bool false, .slice q m d] 24)).alloc (Obj.cells #[.bool false, .slice none 0 0] 24)) w.heap.size 24 #[.bool true, .slice p n c] := (Bx.made' (by simp) _ _).kept (((Fr.refl _ _).alloc _).alloc _)
  have b1 : Bx (((w.alloc (Obj.cells #[.bool true, .slice p n c] 24)).alloc (Obj.cells #[.bool false, .slice q m d] 24)).alloc (Obj.cells #[.bool false, .slice none 0 0] 24)) (w.heap.size + 1) 24 #[.bool false, .slice q m d] := (Bx.made' (by simp) _ _).kept ((Fr.refl _ _).alloc _)
  have hr : Bx (((w.alloc (Obj.cells #[.bool true, .slice p n c] 24)).alloc (Obj.cells #[.bool false, .slice q m d] 24)).alloc (Obj.cells #[.bool false, .slice none 0 0] 24)) (w.heap.size + 2) 24 #[.bool false, .slice none 0 0] := (Bx.made' (by simp) _ _).kept (Fr.refl _ _)
  generalize (((w.alloc (Obj.cells #[.bool true, .slice p n c] 24)).alloc (Obj.cells #[.bool false, .slice q m d] 24)).alloc (Obj.cells #[.bool false, .slice none 0 0] 24)) = W at *
  replace h1 := h1.kept hw
  replace h2 := h2.kept hw
  have hbs := hr.lt
  have d0 := b0.cell (j := 1) rfl
  have d1 := b1.cell (j := 1) rfl
  have e0 := b0.cell (j := 0) rfl
  have e1 := b1.cell (j := 0) rfl
  go_wp2_with fail
  refine (compare_any _ _ _ _ _ _ _ _ _ h1 h2).mono ?_
  rintro e w9 ⟨rfl, fc⟩
  replace hw := hw.trans fc (by simp)
  replace b0 := b0.kept fc
  replace b1 := b1.kept fc
  replace hr := hr.kept fc
  replace h1 := h1.kept fc
  replace h2 := h2.kept fc
  replace hbs := hr.lt
  clear d0 d1 e0 e1 fc
  have hc := HC.out
  go_wp2_with fail
  clear hc
  have c0 := b1.cell (j := 0) rfl
  have c1 := b1.cell (j := 1) rfl
  have c2 := b0.cell (j := 1) rfl
  go_region_held3 (fun w' => w'.cell? ⟨w.heap.size + 1, 0, none⟩ = some (.bool false) ∧ w'.cell? ⟨w.heap.size + 1, 1, none⟩ = some (.slice q m d) ∧ w'.cell? ⟨w.heap.size, 1, none⟩ = some (.slice p n c)) (first | exact ⟨k0, k1, k2⟩ | exact ⟨c0, c1, c2⟩ | exact ⟨(set2_far (by omega)).trans k0, (set2_far (by omega)).trans k1, (set2_far (by omega)).trans k2⟩)
    (first
    | (go_at_call 198; refine (sub_any _ _ _ _ _ _ _ _ _ (h2.kept (Fr.refl _ _).drew) (h1.kept (Fr.refl _ _).drew) (by omega) (by omega)).mono ?_; rintro e w1 ⟨p1, cc1, rfl, o1, ff1⟩; have hf1 : Fr [] w9 w1 := ((Fr.refl [] w9).drew).trans ff1 (by simp); have k0 := (b1.kept hf1).cell (j := 0) rfl; have k1 := (b1.kept hf1).cell (j := 1) rfl; have k2 := (b0.kept hf1).cell (j := 1) rfl)
    | (go_at_call 148; refine (signed_any _ _ _ _ _).mono ?_; rintro e w2 ⟨rfl, ff2⟩; have hf2 : Fr [] w9 w2 := (hf1).trans ff2 (by simp); have k0 := (b1.kept hf2).cell (j := 0) rfl; have k1 := (b1.kept hf2).cell (j := 1) rfl; have k2 := (b0.kept hf2).cell (j := 1) rfl; have o2 := o1.kept ff2; have hr2 := hr.kept hf2; have r0 := hr2.cell (j := 0) rfl; have r1 := hr2.cell (j := 1) rfl; have rf := hr2.free 0; have rg := hr2.free 1; have hw2 := hw.trans hf2 (by simp)))
  go_wp2
  exact fin_ret hr2 hw2 o2 (by omega) hbs rfl (by rw [iv_abs]) (by simp only [iv_lt, Bool.false_and]) (fun W' c0 c1 => by simp [results, Tryz.results166, go_sem, c0, c1])

set_option maxRecDepth 100000 in
set_option maxHeartbeats 1000000 in
theorem iadd_more_true (p q : Option Addr) (n c m d : Nat) (xs ys : List Nat) (w : World) (h1 : Sl w p n c xs) (h2 : Sl w q m d ys) (_hn : n ≤ 549755813887) (_hm : m ≤ 549755813887) (hl : val ys ≤ val xs) (hc : ((cmpN (val xs) (val ys)) == (-1 : Int)) = false) :
    Calls Tryz.prog 166 #[iw true p n c, iw false q m d] w (RetI w (iv true (val xs) + iv false (val ys))) := by
  rw [iv_add_more (g := true) (h := false) rfl hl]
  have HC := Lib.hid hc
  have HL := Lib.hid hl
  clear hc hl
  go_enter Tryz.func166, Tryz.ntmps166
  go_wp2_with fail
  have hw : Fr [] w (((w.alloc (Obj.cells #[.bool true, .slice p n c] 24)).alloc (Obj.cells #[.bool false, .slice q m d] 24)).alloc (Obj.cells #[.bool false, .slice none 0 0] 24)) := (((Fr.refl _ _).alloc _).alloc _).alloc _
  have b0 : Bx (((w.alloc (Obj.cells #[.bool true, .slice p n c] 24)).alloc (Obj.cells #[.bool false, .slice q m d] 24)).alloc (Obj.cells #[.bool false, .slice none 0 0] 24)) w.heap.size 24 #[.bool true, .slice p n c] := (Bx.made' (by simp) _ _).kept (((Fr.refl _ _).alloc _).alloc _)
  have b1 : Bx (((w.alloc (Obj.cells #[.bool true, .slice p n c] 24)).alloc (Obj.cells #[.bool false, .slice q m d] 24)).alloc (Obj.cells #[.bool false, .slice none 0 0] 24)) (w.heap.size + 1) 24 #[.bool false, .slice q m d] := (Bx.made' (by simp) _ _).kept ((Fr.refl _ _).alloc _)
  have hr : Bx (((w.alloc (Obj.cells #[.bool true, .slice p n c] 24)).alloc (Obj.cells #[.bool false, .slice q m d] 24)).alloc (Obj.cells #[.bool false, .slice none 0 0] 24)) (w.heap.size + 2) 24 #[.bool false, .slice none 0 0] := (Bx.made' (by simp) _ _).kept (Fr.refl _ _)
  generalize (((w.alloc (Obj.cells #[.bool true, .slice p n c] 24)).alloc (Obj.cells #[.bool false, .slice q m d] 24)).alloc (Obj.cells #[.bool false, .slice none 0 0] 24)) = W at *
  replace h1 := h1.kept hw
  replace h2 := h2.kept hw
  have hbs := hr.lt
  have d0 := b0.cell (j := 1) rfl
  have d1 := b1.cell (j := 1) rfl
  have e0 := b0.cell (j := 0) rfl
  have e1 := b1.cell (j := 0) rfl
  go_wp2_with fail
  refine (compare_any _ _ _ _ _ _ _ _ _ h1 h2).mono ?_
  rintro e w9 ⟨rfl, fc⟩
  replace hw := hw.trans fc (by simp)
  replace b0 := b0.kept fc
  replace b1 := b1.kept fc
  replace hr := hr.kept fc
  replace h1 := h1.kept fc
  replace h2 := h2.kept fc
  replace hbs := hr.lt
  clear d0 d1 e0 e1 fc
  have hc := HC.out
  go_wp2_with fail
  clear hc
  have c0 := b0.cell (j := 0) rfl
  have c1 := b0.cell (j := 1) rfl
  have c2 := b1.cell (j := 1) rfl
  go_region_held3 (fun w' => w'.cell? ⟨w.heap.size, 0, none⟩ = some (.bool true) ∧ w'.cell? ⟨w.heap.size, 1, none⟩ = some (.slice p n c) ∧ w'.cell? ⟨w.heap.size + 1, 1, none⟩ = some (.slice q m d)) (first | exact ⟨k0, k1, k2⟩ | exact ⟨c0, c1, c2⟩ | exact ⟨(set2_far (by omega)).trans k0, (set2_far (by omega)).trans k1, (set2_far (by omega)).trans k2⟩)
    (first
    | (go_at_call 198; refine (sub_any _ _ _ _ _ _ _ _ _ (h1.kept (Fr.refl _ _).drew) (h2.kept (Fr.refl _ _).drew) (by omega) (by omega)).mono ?_; rintro e w1 ⟨p1, cc1, rfl, o1, ff1⟩; have hf1 : Fr [] w9 w1 := ((Fr.refl [] w9).drew).trans ff1 (by simp); have k0 := (b0.kept hf1).cell (j := 0) rfl; have k1 := (b0.kept hf1).cell (j := 1) rfl; have k2 := (b1.kept hf1).cell (j := 1) rfl)
    | (go_at_call 148; refine (signed_any _ _ _ _ _).mono ?_; rintro e w2 ⟨rfl, ff2⟩; have hf2 : Fr [] w9 w2 := (hf1).trans ff2 (by simp); have k0 := (b0.kept hf2).cell (j := 0) rfl; have k1 := (b0.kept hf2).cell (j := 1) rfl; have k2 := (b1.kept hf2).cell (j := 1) rfl; have o2 := o1.kept ff2; have hr2 := hr.kept hf2; have r0 := hr2.cell (j := 0) rfl; have r1 := hr2.cell (j := 1) rfl; have rf := hr2.free 0; have rg := hr2.free 1; have hw2 := hw.trans hf2 (by simp)))
  go_wp2
  exact fin_ret hr2 hw2 o2 (by omega) hbs rfl (by rw [iv_abs]) (by simp only [dg_len_pos, iv_lt, Bool.true_and]) (fun W' c0 c1 => by simp [results, Tryz.results166, go_sem, c0, c1])

theorem iadd_any (g h : Bool) (p q : Option Addr) (n c m d : Nat) (xs ys : List Nat) (w : World) (h1 : Sl w p n c xs) (h2 : Sl w q m d ys) (hn : n ≤ 549755813887) (hm : m ≤ 549755813887) :
    Calls Tryz.prog 166 #[iw g p n c, iw h q m d] w (RetI w (iv g (val xs) + iv h (val ys))) := by
  cases g <;> cases h
  · exact iadd_same_false p q n c m d xs ys w h1 h2 hn hm
  · by_cases hl : val xs < val ys
    · exact iadd_less_false p q n c m d xs ys w h1 h2 hn hm hl (cmpN_neg hl)
    · exact iadd_more_false p q n c m d xs ys w h1 h2 hn hm (by omega) (cmpN_nneg (by omega))
  · by_cases hl : val xs < val ys
    · exact iadd_less_true p q n c m d xs ys w h1 h2 hn hm hl (cmpN_neg hl)
    · exact iadd_more_true p q n c m d xs ys w h1 h2 hn hm (by omega) (cmpN_nneg (by omega))
  · exact iadd_same_true p q n c m d xs ys w h1 h2 hn hm

set_option maxRecDepth 100000 in
set_option maxHeartbeats 1000000 in
theorem isign_any (g : Bool) (p : Option Addr) (n c : Nat) (xs : List Nat) (w : World) (h1 : Sl w p n c xs) (_hn : n ≤ 549755813887) :
    Calls Tryz.prog 109 #[iw g p n c] w fun e w' => e = .returned (.int .i64 (iv g (val xs)).sign) ∧ Fr [] w w' := by
  by_cases h0 : val xs = 0
  · have hs : (iv g (val xs)).sign = 0 := by rw [h0]; cases g <;> rfl
    have hd := decide_eq_true h0
    rw [hs]
    clear hs h0
    go_enter Tryz.func109, Tryz.ntmps109
    go_wp2_with fail
    refine (iszero_any _ _ _ _ _ _ (h1.kept (Fr.new _)) (by omega)).mono ?_
    rw [hd]
    rintro e w1 ⟨rfl, ff⟩
    go_wp2
    go_ret
    exact ⟨rfl, (Fr.new _).trans ff (by simp)⟩
  · have hd := decide_eq_false h0
    have b0 : Bx (w.alloc (Obj.cells #[.bool g, .slice p n c] 24)) w.heap.size 24 #[.bool g, .slice p n c] := Bx.made _ _ _
    cases g
    · have hs : (iv false (val xs)).sign = 1 := Int.sign_eq_one_of_pos (by rw [iv_pos]; omega)
      rw [hs]
      clear hs h0
      go_enter Tryz.func109, Tryz.ntmps109
      go_wp2_with fail
      refine (iszero_any _ _ _ _ _ _ (h1.kept (Fr.new _)) (by omega)).mono ?_
      rw [hd]
      rintro e w1 ⟨rfl, ff⟩
      have c0 := (b0.kept ff).cell (j := 0) rfl
      go_wp2
      go_ret
      exact ⟨rfl, (Fr.new _).trans ff (by simp)⟩
    · have hs : (iv true (val xs)).sign = -1 := Int.sign_eq_neg_one_of_neg (by rw [iv_neg]; omega)
      rw [hs]
      clear hs h0
      go_enter Tryz.func109, Tryz.ntmps109
      go_wp2_with fail
      refine (iszero_any _ _ _ _ _ _ (h1.kept (Fr.new _)) (by omega)).mono ?_
      rw [hd]
      rintro e w1 ⟨rfl, ff⟩
      have c0 := (b0.kept ff).cell (j := 0) rfl
      go_wp2
      go_ret
      exact ⟨rfl, (Fr.new _).trans ff (by simp)⟩

set_option maxRecDepth 100000 in
set_option maxHeartbeats 1000000 in
theorem icmp_pp (g h : Bool) (p q : Option Addr) (n c m d : Nat) (xs ys : List Nat) (w : World) (h1 : Sl w p n c xs) (h2 : Sl w q m d ys) (_hn : n ≤ 549755813887) (_hm : m ≤ 549755813887) (ha : decide (iv g (val xs) < 0) = false) (hb : decide (iv h (val ys) < 0) = false) :
    Calls Tryz.prog 110 #[iw g p n c, iw h q m d] w fun e w' => e = .returned (.int .i64 (cmpN (val xs) (val ys))) ∧ Fr [] w w' := by
  go_enter Tryz.func110, Tryz.ntmps110
  go_wp2_with fail
  have g1 := h1
  have g2 := h2
  have hw : Fr [] w ((w.alloc (Obj.cells #[.bool g, .slice p n c] 24)).alloc (Obj.cells #[.bool h, .slice q m d] 24)) := ((Fr.refl _ _).alloc _).alloc _
  have b0 : Bx ((w.alloc (Obj.cells #[.bool g, .slice p n c] 24)).alloc (Obj.cells #[.bool h, .slice q m d] 24)) w.heap.size 24 #[.bool g, .slice p n c] := (Bx.made' (by simp) _ _).kept ((Fr.refl _ _).alloc _)
  have b1 : Bx ((w.alloc (Obj.cells #[.bool g, .slice p n c] 24)).alloc (Obj.cells #[.bool h, .slice q m d] 24)) (w.heap.size + 1) 24 #[.bool h, .slice q m d] := (Bx.made' (by simp) _ _).kept (Fr.refl _ _)
  generalize ((w.alloc (Obj.cells #[.bool g, .slice p n c] 24)).alloc (Obj.cells #[.bool h, .slice q m d] 24)) = W at *
  replace h1 := h1.kept hw
  replace h2 := h2.kept hw
  refine (isneg_any _ _ _ _ _ _ h1 (by omega)).mono ?_
  rw [ha]
  rintro e w1 ⟨rfl, ff⟩
  replace hw := hw.trans ff (by simp)
  replace h1 := h1.kept ff
  replace h2 := h2.kept ff
  replace b0 := b0.kept ff
  replace b1 := b1.kept ff
  have c0 := b1.cell (j := 0) rfl
  have c1 := b1.cell (j := 1) rfl
  clear ff
  go_wp2_with fail
  refine (isneg_any _ _ _ _ _ _ h2 (by omega)).mono ?_
  rw [hb]
  clear c0 c1
  rintro e w2 ⟨rfl, ff⟩
  replace hw := hw.trans ff (by simp)
  replace h1 := h1.kept ff
  replace h2 := h2.kept ff
  replace b0 := b0.kept ff
  replace b1 := b1.kept ff
  have c0 := b1.cell (j := 0) rfl
  have c1 := b1.cell (j := 1) rfl
  have d0 := b0.cell (j := 0) rfl
  have d1 := b0.cell (j := 1) rfl
  have z0 := b0.free 0
  have z1 := b0.free 1
  have z2 := b1.free 0
  have z3 := b1.free 1
  clear ff ha hb
  go_wp2_with fail
  refine (compare_any _ _ _ _ _ _ _ _ _ h1 h2).mono ?_
  rintro e w3 ⟨rfl, ff⟩
  go_wp2
  go_ret
  exact ⟨rfl, hw.trans ff (by simp)⟩

set_option maxRecDepth 100000 in
set_option maxHeartbeats 1000000 in
theorem icmp_nn (g h : Bool) (p q : Option Addr) (n c m d : Nat) (xs ys : List Nat) (w : World) (h1 : Sl w p n c xs) (h2 : Sl w q m d ys) (_hn : n ≤ 549755813887) (_hm : m ≤ 549755813887) (ha : decide (iv g (val xs) < 0) = true) (hb : decide (iv h (val ys) < 0) = true) :
    Calls Tryz.prog 110 #[iw g p n c, iw h q m d] w fun e w' => e = .returned (.int .i64 (cmpN (val ys) (val xs))) ∧ Fr [] w w' := by
  go_enter Tryz.func110, Tryz.ntmps110
  go_wp2_with fail
  have g1 := h1
  have g2 := h2
  have hw : Fr [] w ((w.alloc (Obj.cells #[.bool g, .slice p n c] 24)).alloc (Obj.cells #[.bool h, .slice q m d] 24)) := ((Fr.refl _ _).alloc _).alloc _
  have b0 : Bx ((w.alloc (Obj.cells #[.bool g, .slice p n c] 24)).alloc (Obj.cells #[.bool h, .slice q m d] 24)) w.heap.size 24 #[.bool g, .slice p n c] := (Bx.made' (by simp) _ _).kept ((Fr.refl _ _).alloc _)
  have b1 : Bx ((w.alloc (Obj.cells #[.bool g, .slice p n c] 24)).alloc (Obj.cells #[.bool h, .slice q m d] 24)) (w.heap.size + 1) 24 #[.bool h, .slice q m d] := (Bx.made' (by simp) _ _).kept (Fr.refl _ _)
  generalize ((w.alloc (Obj.cells #[.bool g, .slice p n c] 24)).alloc (Obj.cells #[.bool h, .slice q m d] 24)) = W at *
  replace h1 := h1.kept hw
  replace h2 := h2.kept hw
  refine (isneg_any _ _ _ _ _ _ h1 (by omega)).mono ?_
  rw [ha]
  rintro e w1 ⟨rfl, ff⟩
  replace hw := hw.trans ff (by simp)
  replace h1 := h1.kept ff
  replace h2 := h2.kept ff
  replace b0 := b0.kept ff
  replace b1 := b1.kept ff
  have c0 := b1.cell (j := 0) rfl
  have c1 := b1.cell (j := 1) rfl
  clear ff
  go_wp2_with fail
  refine (isneg_any _ _ _ _ _ _ h2 (by omega)).mono ?_
  rw [hb]
  clear c0 c1
  rintro e w2 ⟨rfl, ff⟩
  replace hw := hw.trans ff (by simp)
  replace h1 := h1.kept ff
  replace h2 := h2.kept ff
  replace b0 := b0.kept ff
  replace b1 := b1.kept ff
  have c0 := b1.cell (j := 0) rfl
  have c1 := b1.cell (j := 1) rfl
  have d0 := b0.cell (j := 0) rfl
  have d1 := b0.cell (j := 1) rfl
  have z0 := b0.free 0
  have z1 := b0.free 1
  have z2 := b1.free 0
  have z3 := b1.free 1
  clear ff ha hb
  go_wp2_with fail
  have hw3 := (((hw.setCell ⟨w.heap.size, 0, none⟩ (.bool h) (fun (h : w.heap.size < _) => by omega)).setCell ⟨w.heap.size, 1, none⟩ (.slice q m d) (fun (h : w.heap.size < _) => by omega)).setCell ⟨w.heap.size + 1, 0, none⟩ (.bool g) (fun (h : w.heap.size + 1 < _) => by omega)).setCell ⟨w.heap.size + 1, 1, none⟩ (.slice p n c) (fun (h : w.heap.size + 1 < _) => by omega)
  refine (compare_any _ _ _ _ _ _ _ _ _ (g2.kept hw3) (g1.kept hw3)).mono ?_
  rintro e w3 ⟨rfl, ff⟩
  go_wp2
  go_ret
  exact ⟨rfl, hw3.trans ff (by simp)⟩

set_option maxRecDepth 100000 in
set_option maxHeartbeats 1000000 in
theorem icmp_np (g h : Bool) (p q : Option Addr) (n c m d : Nat) (xs ys : List Nat) (w : World) (h1 : Sl w p n c xs) (h2 : Sl w q m d ys) (_hn : n ≤ 549755813887) (_hm : m ≤ 549755813887) (ha : decide (iv g (val xs) < 0) = true) (hb : decide (iv h (val ys) < 0) = false) :
    Calls Tryz.prog 110 #[iw g p n c, iw h q m d] w fun e w' => e = .returned (.int .i64 (-1)) ∧ Fr [] w w' := by
  go_enter Tryz.func110, Tryz.ntmps110
  go_wp2_with fail
  have g1 := h1
  have g2 := h2
  have hw : Fr [] w ((w.alloc (Obj.cells #[.bool g, .slice p n c] 24)).alloc (Obj.cells #[.bool h, .slice q m d] 24)) := ((Fr.refl _ _).alloc _).alloc _
  have b0 : Bx ((w.alloc (Obj.cells #[.bool g, .slice p n c] 24)).alloc (Obj.cells #[.bool h, .slice q m d] 24)) w.heap.size 24 #[.bool g, .slice p n c] := (Bx.made' (by simp) _ _).kept ((Fr.refl _ _).alloc _)
  have b1 : Bx ((w.alloc (Obj.cells #[.bool g, .slice p n c] 24)).alloc (Obj.cells #[.bool h, .slice q m d] 24)) (w.heap.size + 1) 24 #[.bool h, .slice q m d] := (Bx.made' (by simp) _ _).kept (Fr.refl _ _)
  generalize ((w.alloc (Obj.cells #[.bool g, .slice p n c] 24)).alloc (Obj.cells #[.bool h, .slice q m d] 24)) = W at *
  replace h1 := h1.kept hw
  replace h2 := h2.kept hw
  refine (isneg_any _ _ _ _ _ _ h1 (by omega)).mono ?_
  rw [ha]
  rintro e w1 ⟨rfl, ff⟩
  replace hw := hw.trans ff (by simp)
  replace h1 := h1.kept ff
  replace h2 := h2.kept ff
  replace b0 := b0.kept ff
  replace b1 := b1.kept ff
  have c0 := b1.cell (j := 0) rfl
  have c1 := b1.cell (j := 1) rfl
  clear ff
  go_wp2_with fail
  refine (isneg_any _ _ _ _ _ _ h2 (by omega)).mono ?_
  rw [hb]
  clear c0 c1
  rintro e w2 ⟨rfl, ff⟩
  replace hw := hw.trans ff (by simp)
  replace h1 := h1.kept ff
  replace h2 := h2.kept ff
  replace b0 := b0.kept ff
  replace b1 := b1.kept ff
  have c0 := b1.cell (j := 0) rfl
  have c1 := b1.cell (j := 1) rfl
  have d0 := b0.cell (j := 0) rfl
  have d1 := b0.cell (j := 1) rfl
  have z0 := b0.free 0
  have z1 := b0.free 1
  have z2 := b1.free 0
  have z3 := b1.free 1
  clear ff ha hb
  go_wp2
  go_ret
  exact ⟨rfl, hw⟩

set_option maxRecDepth 100000 in
set_option maxHeartbeats 1000000 in
theorem icmp_pn (g h : Bool) (p q : Option Addr) (n c m d : Nat) (xs ys : List Nat) (w : World) (h1 : Sl w p n c xs) (h2 : Sl w q m d ys) (_hn : n ≤ 549755813887) (_hm : m ≤ 549755813887) (ha : decide (iv g (val xs) < 0) = false) (hb : decide (iv h (val ys) < 0) = true) :
    Calls Tryz.prog 110 #[iw g p n c, iw h q m d] w fun e w' => e = .returned (.int .i64 1) ∧ Fr [] w w' := by
  go_enter Tryz.func110, Tryz.ntmps110
  go_wp2_with fail
  have g1 := h1
  have g2 := h2
  have hw : Fr [] w ((w.alloc (Obj.cells #[.bool g, .slice p n c] 24)).alloc (Obj.cells #[.bool h, .slice q m d] 24)) := ((Fr.refl _ _).alloc _).alloc _
  have b0 : Bx ((w.alloc (Obj.cells #[.bool g, .slice p n c] 24)).alloc (Obj.cells #[.bool h, .slice q m d] 24)) w.heap.size 24 #[.bool g, .slice p n c] := (Bx.made' (by simp) _ _).kept ((Fr.refl _ _).alloc _)
  have b1 : Bx ((w.alloc (Obj.cells #[.bool g, .slice p n c] 24)).alloc (Obj.cells #[.bool h, .slice q m d] 24)) (w.heap.size + 1) 24 #[.bool h, .slice q m d] := (Bx.made' (by simp) _ _).kept (Fr.refl _ _)
  generalize ((w.alloc (Obj.cells #[.bool g, .slice p n c] 24)).alloc (Obj.cells #[.bool h, .slice q m d] 24)) = W at *
  replace h1 := h1.kept hw
  replace h2 := h2.kept hw
  refine (isneg_any _ _ _ _ _ _ h1 (by omega)).mono ?_
  rw [ha]
  rintro e w1 ⟨rfl, ff⟩
  replace hw := hw.trans ff (by simp)
  replace h1 := h1.kept ff
  replace h2 := h2.kept ff
  replace b0 := b0.kept ff
  replace b1 := b1.kept ff
  have c0 := b1.cell (j := 0) rfl
  have c1 := b1.cell (j := 1) rfl
  clear ff
  go_wp2_with fail
  refine (isneg_any _ _ _ _ _ _ h2 (by omega)).mono ?_
  rw [hb]
  clear c0 c1
  rintro e w2 ⟨rfl, ff⟩
  replace hw := hw.trans ff (by simp)
  replace h1 := h1.kept ff
  replace h2 := h2.kept ff
  replace b0 := b0.kept ff
  replace b1 := b1.kept ff
  have c0 := b1.cell (j := 0) rfl
  have c1 := b1.cell (j := 1) rfl
  have d0 := b0.cell (j := 0) rfl
  have d1 := b0.cell (j := 1) rfl
  have z0 := b0.free 0
  have z1 := b0.free 1
  have z2 := b1.free 0
  have z3 := b1.free 1
  clear ff ha hb
  go_wp2
  go_ret
  exact ⟨rfl, hw⟩

theorem icmp_any (g h : Bool) (p q : Option Addr) (n c m d : Nat) (xs ys : List Nat) (w : World) (h1 : Sl w p n c xs) (h2 : Sl w q m d ys) (hn : n ≤ 549755813887) (hm : m ≤ 549755813887) :
    Calls Tryz.prog 110 #[iw g p n c, iw h q m d] w fun e w' => e = .returned (.int .i64 (cmpZ (iv g (val xs)) (iv h (val ys)))) ∧ Fr [] w w' := by
  have hz : ∀ (k : Bool) (a : Nat), ¬ iv k a < 0 → iv k a = iv false a := by intro k a; cases k <;> simp [iv] <;> omega
  have hy : ∀ (k : Bool) (a : Nat), iv k a < 0 → iv k a = iv true a := by intro k a; cases k <;> simp [iv] <;> omega
  by_cases ha : iv g (val xs) < 0
  · by_cases hb : iv h (val ys) < 0
    · have e : cmpZ (iv g (val xs)) (iv h (val ys)) = cmpN (val ys) (val xs) := by rw [hy _ _ ha, hy _ _ hb, cmpZ_neg]
      rw [e]
      exact icmp_nn g h p q n c m d xs ys w h1 h2 hn hm (decide_eq_true ha) (decide_eq_true hb)
    · rw [cmpZ_lt (by omega)]
      exact icmp_np g h p q n c m d xs ys w h1 h2 hn hm (decide_eq_true ha) (decide_eq_false hb)
  · by_cases hb : iv h (val ys) < 0
    · rw [cmpZ_gt (by omega)]
      exact icmp_pn g h p q n c m d xs ys w h1 h2 hn hm (decide_eq_false ha) (decide_eq_true hb)
    · have e : cmpZ (iv g (val xs)) (iv h (val ys)) = cmpN (val xs) (val ys) := by rw [hz _ _ ha, hz _ _ hb, cmpZ_pos]
      rw [e]
      exact icmp_pp g h p q n c m d xs ys w h1 h2 hn hm (decide_eq_false ha) (decide_eq_false hb)

end Go.Proofs.YtagciepnhjbopaaGreatDoor
