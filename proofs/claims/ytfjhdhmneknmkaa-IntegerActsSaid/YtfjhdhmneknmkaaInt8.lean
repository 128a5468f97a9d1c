/- Integers: Of of the program and of the document. Written by wip/gen/gen_int8.py. -/
import Derived.Test.YtfjhdhmneknmkaaInt7
namespace Go.Proofs.Ytfjhdhmneknmkaa
open Go.RowKit

theorem val_halves (a : Nat) : val [a % 4294967296, a / 4294967296] = a := by simp only [val]; omega
theorem wrap_neg (a : Nat) (ha : a ≤ 9223372036854775808) : IntKind.u64.wrap (-(IntKind.u64.wrap (-(a : Int)))) = a := by
  rw [IntKind.wrap_u64, IntKind.wrap_u64]; omega

set_option maxRecDepth 100000 in
set_option maxHeartbeats 2000000 in
theorem of_nn (a : Nat) (w : World) (ha : a < 9223372036854775808) :
    Calls Try.prog 53 #[.int .i64 ((a : Int))] w (RetI w ((a : Int))) := by
  have hd : decide ((a : Int) < 0) = false := decide_eq_false (by omega)
  have HV := Lib.hid (val_halves a)
  have hxx : ((a : Int) % 4294967296) = ((a % 4294967296 : Nat) : Int) := by omega
  have hyy : ((a : Int) / 4294967296) = ((a / 4294967296 : Nat) : Int) := by omega
  have HX := Lib.hid hxx
  have HY := Lib.hid hyy
  clear hxx hyy
  have hiz : ((a : Int)) = iv false (val [a % 4294967296, a / 4294967296]) := by rw [val_halves]; rfl
  have HZ := Lib.hid hiz
  clear hiz
  go_enter Try.func53, Try.ntmps53
  go_wp2_with fail
  have hw : Fr [] w ((w.alloc (Obj.cells #[.bool false, .slice none 0 0] 40)).alloc (Obj.cells #[.int .u32 ((a : Int) % 4294967296), .int .u32 ((a : Int) / 4294967296)] 57)) := ((Fr.refl _ _).alloc _).alloc _
  have r0 : Bx ((w.alloc (Obj.cells #[.bool false, .slice none 0 0] 40)).alloc (Obj.cells #[.int .u32 ((a : Int) % 4294967296), .int .u32 ((a : Int) / 4294967296)] 57)) w.heap.size 40 #[.bool false, .slice none 0 0] := (Bx.made' (by simp) _ _).kept ((Fr.refl _ _).alloc _)
  have h1 : Sl ((w.alloc (Obj.cells #[.bool false, .slice none 0 0] 40)).alloc (Obj.cells #[.int .u32 ((a : Int) % 4294967296), .int .u32 ((a : Int) / 4294967296)] 57)) (some ⟨w.heap.size + 1, 0, none⟩) 2 2 [a % 4294967296, a / 4294967296] := made2 (w := (w.alloc (Obj.cells #[.bool false, .slice none 0 0] 40))) HX.out HY.out (by simp) (by omega) (by omega)
  generalize ((w.alloc (Obj.cells #[.bool false, .slice none 0 0] 40)).alloc (Obj.cells #[.int .u32 ((a : Int) % 4294967296), .int .u32 ((a : Int) / 4294967296)] 57)) = W at *
  have hbs := r0.lt
  refine (trim_any _ _ _ [a % 4294967296, a / 4294967296] _ h1 (by decide)).mono ?_
  rw [HV.out]
  rintro e w1 ⟨p1, cc1, rfl, o1, ff⟩
  replace hw := hw.trans ff (by simp)
  replace r0 := r0.kept ff
  clear ff
  go_wp2_with fail
  refine (signed_any _ _ _ _ _).mono ?_
  rintro e w2 ⟨rfl, ff⟩
  replace o1 := o1.kept ff
  replace hw := hw.trans ff (by simp)
  replace r0 := r0.kept ff
  clear ff
  have c0 := r0.cell (j := 0) rfl
  have f0 := r0.free 0
  have c1 := r0.cell (j := 1) rfl
  have f1 := r0.free 1
  go_wp2
  exact fin_ret r0 hw o1 (by omega) hbs rfl (by rw [Int.natAbs_natCast]) (by exact hd.symm) (fun W' c0 c1 => by simp [results, Try.results53, go_sem, c0, c1])

set_option maxRecDepth 100000 in
set_option maxHeartbeats 2000000 in
theorem of_neg (a : Nat) (w : World) (ha : a ≤ 9223372036854775808) (h0 : 0 < a) :
    Calls Try.prog 53 #[.int .i64 (-(a : Int))] w (RetI w (-(a : Int))) := by
  have hd : decide (-(a : Int) < 0) = true := decide_eq_true (by omega)
  have HV := Lib.hid (val_halves a)
  have hxx : (IntKind.u64.wrap (-(IntKind.u64.wrap (-(a : Int)))) % 4294967296) = ((a % 4294967296 : Nat) : Int) := by rw [wrap_neg a ha]; omega
  have hyy : (IntKind.u64.wrap (-(IntKind.u64.wrap (-(a : Int)))) / 4294967296 % 4294967296) = ((a / 4294967296 : Nat) : Int) := by rw [wrap_neg a ha]; omega
  have HX := Lib.hid hxx
  have HY := Lib.hid hyy
  clear hxx hyy
  have hiz : (-(a : Int)) = iv true (val [a % 4294967296, a / 4294967296]) := by rw [val_halves]; rfl
  have HZ := Lib.hid hiz
  clear hiz
  go_enter Try.func53, Try.ntmps53
  go_wp2_with fail
  have hw : Fr [] w ((w.alloc (Obj.cells #[.bool false, .slice none 0 0] 40)).alloc (Obj.cells #[.int .u32 (IntKind.u64.wrap (-(IntKind.u64.wrap (-(a : Int)))) % 4294967296), .int .u32 (IntKind.u64.wrap (-(IntKind.u64.wrap (-(a : Int)))) / 4294967296 % 4294967296)] 57)) := ((Fr.refl _ _).alloc _).alloc _
  have r0 : Bx ((w.alloc (Obj.cells #[.bool false, .slice none 0 0] 40)).alloc (Obj.cells #[.int .u32 (IntKind.u64.wrap (-(IntKind.u64.wrap (-(a : Int)))) % 4294967296), .int .u32 (IntKind.u64.wrap (-(IntKind.u64.wrap (-(a : Int)))) / 4294967296 % 4294967296)] 57)) w.heap.size 40 #[.bool false, .slice none 0 0] := (Bx.made' (by simp) _ _).kept ((Fr.refl _ _).alloc _)
  have h1 : Sl ((w.alloc (Obj.cells #[.bool false, .slice none 0 0] 40)).alloc (Obj.cells #[.int .u32 (IntKind.u64.wrap (-(IntKind.u64.wrap (-(a : Int)))) % 4294967296), .int .u32 (IntKind.u64.wrap (-(IntKind.u64.wrap (-(a : Int)))) / 4294967296 % 4294967296)] 57)) (some ⟨w.heap.size + 1, 0, none⟩) 2 2 [a % 4294967296, a / 4294967296] := made2 (w := (w.alloc (Obj.cells #[.bool false, .slice none 0 0] 40))) HX.out HY.out (by simp) (by omega) (by omega)
  generalize ((w.alloc (Obj.cells #[.bool false, .slice none 0 0] 40)).alloc (Obj.cells #[.int .u32 (IntKind.u64.wrap (-(IntKind.u64.wrap (-(a : Int)))) % 4294967296), .int .u32 (IntKind.u64.wrap (-(IntKind.u64.wrap (-(a : Int)))) / 4294967296 % 4294967296)] 57)) = W at *
  have hbs := r0.lt
  refine (trim_any _ _ _ [a % 4294967296, a / 4294967296] _ h1 (by decide)).mono ?_
  rw [HV.out]
  rintro e w1 ⟨p1, cc1, rfl, o1, ff⟩
  replace hw := hw.trans ff (by simp)
  replace r0 := r0.kept ff
  clear ff
  go_wp2_with fail
  refine (signed_any _ _ _ _ _).mono ?_
  rintro e w2 ⟨rfl, ff⟩
  replace o1 := o1.kept ff
  replace hw := hw.trans ff (by simp)
  replace r0 := r0.kept ff
  clear ff
  have c0 := r0.cell (j := 0) rfl
  have f0 := r0.free 0
  have c1 := r0.cell (j := 1) rfl
  have f1 := r0.free 1
  go_wp2
  exact fin_ret r0 hw o1 (by omega) hbs rfl (by rw [Int.natAbs_neg, Int.natAbs_natCast]) (by simp only [dg_len_pos]; exact decide_eq_decide.2 (by omega)) (fun W' c0 c1 => by simp [results, Try.results53, go_sem, c0, c1])

set_option maxRecDepth 100000 in
set_option maxHeartbeats 2000000 in
theorem rof_nn (a : Nat) (w : World) (ha : a < 9223372036854775808) :
    Calls Try.prog 54 #[.int .i64 ((a : Int))] w (RetI w ((a : Int))) := by
  have hd : decide ((a : Int) < 0) = false := decide_eq_false (by omega)
  have HV := Lib.hid (val_halves a)
  have hxx : ((a : Int) % 4294967296) = ((a % 4294967296 : Nat) : Int) := by omega
  have hyy : ((a : Int) / 4294967296) = ((a / 4294967296 : Nat) : Int) := by omega
  have HX := Lib.hid hxx
  have HY := Lib.hid hyy
  clear hxx hyy
  have hiz : ((a : Int)) = iv false (val [a % 4294967296, a / 4294967296]) := by rw [val_halves]; rfl
  have HZ := Lib.hid hiz
  clear hiz
  go_enter Try.func54, Try.ntmps54
  go_wp2_with fail
  have hw : Fr [] w ((w.alloc (Obj.cells #[.bool false, .slice none 0 0] 40)).alloc (Obj.cells #[.int .u32 ((a : Int) % 4294967296), .int .u32 ((a : Int) / 4294967296)] 57)) := ((Fr.refl _ _).alloc _).alloc _
  have r0 : Bx ((w.alloc (Obj.cells #[.bool false, .slice none 0 0] 40)).alloc (Obj.cells #[.int .u32 ((a : Int) % 4294967296), .int .u32 ((a : Int) / 4294967296)] 57)) w.heap.size 40 #[.bool false, .slice none 0 0] := (Bx.made' (by simp) _ _).kept ((Fr.refl _ _).alloc _)
  have h1 : Sl ((w.alloc (Obj.cells #[.bool false, .slice none 0 0] 40)).alloc (Obj.cells #[.int .u32 ((a : Int) % 4294967296), .int .u32 ((a : Int) / 4294967296)] 57)) (some ⟨w.heap.size + 1, 0, none⟩) 2 2 [a % 4294967296, a / 4294967296] := made2 (w := (w.alloc (Obj.cells #[.bool false, .slice none 0 0] 40))) HX.out HY.out (by simp) (by omega) (by omega)
  generalize ((w.alloc (Obj.cells #[.bool false, .slice none 0 0] 40)).alloc (Obj.cells #[.int .u32 ((a : Int) % 4294967296), .int .u32 ((a : Int) / 4294967296)] 57)) = W at *
  have hbs := r0.lt
  refine (calls_ri (b := false) (rtrim_any false _ _ _ [a % 4294967296, a / 4294967296] _ h1 (by decide)) (by rw [← HZ.out]; exact hd) (by rw [iv_abs, HV.out])).mono ?_
  rintro e w1 ⟨p1, cc1, rfl, o1, ff⟩
  replace hw := hw.trans ff (by simp)
  replace r0 := r0.kept ff
  clear ff
  have c0 := r0.cell (j := 0) rfl
  have f0 := r0.free 0
  have c1 := r0.cell (j := 1) rfl
  have f1 := r0.free 1
  go_wp2
  exact fin_ret r0 hw o1 (by omega) hbs rfl (by rw [Int.natAbs_natCast]) (by exact hd.symm) (fun W' c0 c1 => by simp [results, Try.results54, go_sem, c0, c1])

set_option maxRecDepth 100000 in
set_option maxHeartbeats 2000000 in
theorem rof_neg (a : Nat) (w : World) (ha : a ≤ 9223372036854775808) (h0 : 0 < a) :
    Calls Try.prog 54 #[.int .i64 (-(a : Int))] w (RetI w (-(a : Int))) := by
  have hd : decide (-(a : Int) < 0) = true := decide_eq_true (by omega)
  have HV := Lib.hid (val_halves a)
  have hxx : ((-(-(a : Int) + 1) + 1) % 4294967296) = ((a % 4294967296 : Nat) : Int) := by omega
  have hyy : ((-(-(a : Int) + 1) + 1) / 4294967296) = ((a / 4294967296 : Nat) : Int) := by omega
  have HX := Lib.hid hxx
  have HY := Lib.hid hyy
  clear hxx hyy
  have hiz : (-(a : Int)) = iv true (val [a % 4294967296, a / 4294967296]) := by rw [val_halves]; rfl
  have HZ := Lib.hid hiz
  clear hiz
  go_enter Try.func54, Try.ntmps54
  go_wp2_with fail
  have hw : Fr [] w ((w.alloc (Obj.cells #[.bool false, .slice none 0 0] 40)).alloc (Obj.cells #[.int .u32 ((-(-(a : Int) + 1) + 1) % 4294967296), .int .u32 ((-(-(a : Int) + 1) + 1) / 4294967296)] 57)) := ((Fr.refl _ _).alloc _).alloc _
  have r0 : Bx ((w.alloc (Obj.cells #[.bool false, .slice none 0 0] 40)).alloc (Obj.cells #[.int .u32 ((-(-(a : Int) + 1) + 1) % 4294967296), .int .u32 ((-(-(a : Int) + 1) + 1) / 4294967296)] 57)) w.heap.size 40 #[.bool false, .slice none 0 0] := (Bx.made' (by simp) _ _).kept ((Fr.refl _ _).alloc _)
  have h1 : Sl ((w.alloc (Obj.cells #[.bool false, .slice none 0 0] 40)).alloc (Obj.cells #[.int .u32 ((-(-(a : Int) + 1) + 1) % 4294967296), .int .u32 ((-(-(a : Int) + 1) + 1) / 4294967296)] 57)) (some ⟨w.heap.size + 1, 0, none⟩) 2 2 [a % 4294967296, a / 4294967296] := made2 (w := (w.alloc (Obj.cells #[.bool false, .slice none 0 0] 40))) HX.out HY.out (by simp) (by omega) (by omega)
  generalize ((w.alloc (Obj.cells #[.bool false, .slice none 0 0] 40)).alloc (Obj.cells #[.int .u32 ((-(-(a : Int) + 1) + 1) % 4294967296), .int .u32 ((-(-(a : Int) + 1) + 1) / 4294967296)] 57)) = W at *
  have hbs := r0.lt
  refine (calls_ri (b := true) (rtrim_any true _ _ _ [a % 4294967296, a / 4294967296] _ h1 (by decide)) (by rw [← HZ.out]; exact hd) (by rw [iv_abs, HV.out])).mono ?_
  rintro e w1 ⟨p1, cc1, rfl, o1, ff⟩
  replace hw := hw.trans ff (by simp)
  replace r0 := r0.kept ff
  clear ff
  have c0 := r0.cell (j := 0) rfl
  have f0 := r0.free 0
  have c1 := r0.cell (j := 1) rfl
  have f1 := r0.free 1
  go_wp2
  exact fin_ret r0 hw o1 (by omega) hbs rfl (by rw [Int.natAbs_neg, Int.natAbs_natCast]) (by exact hd.symm) (fun W' c0 c1 => by simp [results, Try.results54, go_sem, c0, c1])

theorem of_any (x : Int) (w : World) (h : -9223372036854775808 ≤ x) (h2 : x ≤ 9223372036854775807) : Calls Try.prog 53 #[.int .i64 x] w (RetI w x) := by
  by_cases h0 : x < 0
  · obtain ⟨a, rfl⟩ : ∃ a : Nat, x = -(a : Int) := ⟨x.natAbs, by omega⟩
    exact of_neg a w (by omega) (by omega)
  · obtain ⟨a, rfl⟩ : ∃ a : Nat, x = (a : Int) := ⟨x.natAbs, by omega⟩
    exact of_nn a w (by omega)

theorem rof_any (x : Int) (w : World) (h : -9223372036854775808 ≤ x) (h2 : x ≤ 9223372036854775807) : Calls Try.prog 54 #[.int .i64 x] w (RetI w x) := by
  by_cases h0 : x < 0
  · obtain ⟨a, rfl⟩ : ∃ a : Nat, x = -(a : Int) := ⟨x.natAbs, by omega⟩
    exact rof_neg a w (by omega) (by omega)
  · obtain ⟨a, rfl⟩ : ∃ a : Nat, x = (a : Int) := ⟨x.natAbs, by omega⟩
    exact rof_nn a w (by omega)

end Go.Proofs.Ytfjhdhmneknmkaa
