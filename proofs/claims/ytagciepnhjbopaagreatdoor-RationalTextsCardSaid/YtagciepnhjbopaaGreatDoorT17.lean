/- What the statements of this claim stand on: of Int8, Int11, what they name -/
import Derived.Test.YtagciepnhjbopaaGreatDoorT16

namespace Go.Proofs.YtagciepnhjbopaaGreatDoor
open Go.RowKit

theorem val_halves (a : Nat) : val [a % 4294967296, a / 4294967296] = a := by simp only [val]; omega

theorem wrap_neg (a : Nat) (_ha : a ≤ 9223372036854775808) : IntKind.u64.wrap (-(IntKind.u64.wrap (-(a : Int)))) = a := by
  rw [IntKind.wrap_u64, IntKind.wrap_u64]; omega

set_option maxRecDepth 100000 in
set_option maxHeartbeats 2000000 in
theorem of_nn (a : Nat) (w : World) (_ha : a < 9223372036854775808) :
    Calls Tryz.prog 124 #[.int .i64 ((a : Int))] w (RetI w ((a : Int))) := by
  have hd : decide ((a : Int) < 0) = false := decide_eq_false (by omega)
  have HV := Lib.hid (val_halves a)
  have hxx : ((a : Int) % 4294967296) = ((a % 4294967296 : Nat) : Int) := by omega
  have hyy : ((a : Int) / 4294967296) = ((a / 4294967296 : Nat) : Int) := by omega
  have HX := Lib.hid hxx
  have HY := Lib.hid hyy
  clear hxx hyy
  have hiz : ((a : Int)) = iv false (val [a % 4294967296, a / 4294967296]) := by rw [val_halves]; rfl
  have HZ := Lib.hid hiz
  clear hiz
  go_enter Tryz.func124, Tryz.ntmps124
  go_wp2_with fail
  have hw : Fr [] w ((w.alloc (Obj.cells #[.bool false, .slice none 0 0] 24)).alloc (Obj.cells #[.int .u32 ((a : Int) % 4294967296), .int .u32 ((a : Int) / 4294967296)] 52)) := ((Fr.refl _ _).alloc _).alloc _
  have r0 : Bx ((w.alloc (Obj.cells #[.bool false, .slice none 0 0] 24)).alloc (Obj.cells #[.int .u32 ((a : Int) % 4294967296), .int .u32 ((a : Int) / 4294967296)] 52)) w.heap.size 24 #[.bool false, .slice none 0 0] := (Bx.made' (by simp) _ _).kept ((Fr.refl _ _).alloc _)
  have h1 : Sl ((w.alloc (Obj.cells #[.bool false, .slice none 0 0] 24)).alloc (Obj.cells #[.int .u32 ((a : Int) % 4294967296), .int .u32 ((a : Int) / 4294967296)] 52)) (some ⟨w.heap.size + 1, 0, none⟩) 2 2 [a % 4294967296, a / 4294967296] := made2 (w := (w.alloc (Obj.cells #[.bool false, .slice none 0 0] 24))) HX.out HY.out (by simp) (by omega) (by omega)
  generalize ((w.alloc (Obj.cells #[.bool false, .slice none 0 0] 24)).alloc (Obj.cells #[.int .u32 ((a : Int) % 4294967296), .int .u32 ((a : Int) / 4294967296)] 52)) = W at *
  have hbs := r0.lt
  refine (trim_any _ _ _ [a % 4294967296, a / 4294967296] _ h1 (by decide)).mono ?_
  rw [HV.out]
  rintro e w1 ⟨p1, cc1, rfl, o1, ff⟩
  replace hw := hw.trans ff (by simp)
  replace r0 := r0.kept ff
  clear ff
  go_wp2_with fail
  refine (signed_any _ _ _ _ _).mono ?_
  rintro e w2 ⟨rfl, ff⟩
  replace o1 := o1.kept ff
  replace hw := hw.trans ff (by simp)
  replace r0 := r0.kept ff
  clear ff
  have c0 := r0.cell (j := 0) rfl
  have f0 := r0.free 0
  have c1 := r0.cell (j := 1) rfl
  have f1 := r0.free 1
  go_wp2
  exact fin_ret r0 hw o1 (by omega) hbs rfl (by rw [Int.natAbs_natCast]) (by exact hd.symm) (fun W' c0 c1 => by simp [results, Tryz.results124, go_sem, c0, c1])

set_option maxRecDepth 100000 in
set_option maxHeartbeats 2000000 in
theorem of_neg (a : Nat) (w : World) (ha : a ≤ 9223372036854775808) (_h0 : 0 < a) :
    Calls Tryz.prog 124 #[.int .i64 (-(a : Int))] w (RetI w (-(a : Int))) := by
  have hd : decide (-(a : Int) < 0) = true := decide_eq_true (by omega)
  have HV := Lib.hid (val_halves a)
  have hxx : (IntKind.u64.wrap (-(IntKind.u64.wrap (-(a : Int)))) % 4294967296) = ((a % 4294967296 : Nat) : Int) := by rw [wrap_neg a ha]; omega
  have hyy : (IntKind.u64.wrap (-(IntKind.u64.wrap (-(a : Int)))) / 4294967296 % 4294967296) = ((a / 4294967296 : Nat) : Int) := by rw [wrap_neg a ha]; omega
  have HX := Lib.hid hxx
  have HY := Lib.hid hyy
  clear hxx hyy
  have hiz : (-(a : Int)) = iv true (val [a % 4294967296, a / 4294967296]) := by rw [val_halves]; rfl
  have HZ := Lib.hid hiz
  clear hiz
  go_enter Tryz.func124, Tryz.ntmps124
  go_wp2_with fail
  have hw : Fr [] w ((w.alloc (Obj.cells #[.bool false, .slice none 0 0] 24)).alloc (Obj.cells #[.int .u32 (IntKind.u64.wrap (-(IntKind.u64.wrap (-(a : Int)))) % 4294967296), .int .u32 (IntKind.u64.wrap (-(IntKind.u64.wrap (-(a : Int)))) / 4294967296 % 4294967296)] 52)) := ((Fr.refl _ _).alloc _).alloc _
  have r0 : Bx ((w.alloc (Obj.cells #[.bool false, .slice none 0 0] 24)).alloc (Obj.cells #[.int .u32 (IntKind.u64.wrap (-(IntKind.u64.wrap (-(a : Int)))) % 4294967296), .int .u32 (IntKind.u64.wrap (-(IntKind.u64.wrap (-(a : Int)))) / 4294967296 % 4294967296)] 52)) w.heap.size 24 #[.bool false, .slice none 0 0] := (Bx.made' (by simp) _ _).kept ((Fr.refl _ _).alloc _)
  have h1 : Sl ((w.alloc (Obj.cells #[.bool false, .slice none 0 0] 24)).alloc (Obj.cells #[.int .u32 (IntKind.u64.wrap (-(IntKind.u64.wrap (-(a : Int)))) % 4294967296), .int .u32 (IntKind.u64.wrap (-(IntKind.u64.wrap (-(a : Int)))) / 4294967296 % 4294967296)] 52)) (some ⟨w.heap.size + 1, 0, none⟩) 2 2 [a % 4294967296, a / 4294967296] := made2 (w := (w.alloc (Obj.cells #[.bool false, .slice none 0 0] 24))) HX.out HY.out (by simp) (by omega) (by omega)
  generalize ((w.alloc (Obj.cells #[.bool false, .slice none 0 0] 24)).alloc (Obj.cells #[.int .u32 (IntKind.u64.wrap (-(IntKind.u64.wrap (-(a : Int)))) % 4294967296), .int .u32 (IntKind.u64.wrap (-(IntKind.u64.wrap (-(a : Int)))) / 4294967296 % 4294967296)] 52)) = W at *
  have hbs := r0.lt
  refine (trim_any _ _ _ [a % 4294967296, a / 4294967296] _ h1 (by decide)).mono ?_
  rw [HV.out]
  rintro e w1 ⟨p1, cc1, rfl, o1, ff⟩
  replace hw := hw.trans ff (by simp)
  replace r0 := r0.kept ff
  clear ff
  go_wp2_with fail
  refine (signed_any _ _ _ _ _).mono ?_
  rintro e w2 ⟨rfl, ff⟩
  replace o1 := o1.kept ff
  replace hw := hw.trans ff (by simp)
  replace r0 := r0.kept ff
  clear ff
  have c0 := r0.cell (j := 0) rfl
  have f0 := r0.free 0
  have c1 := r0.cell (j := 1) rfl
  have f1 := r0.free 1
  go_wp2
  exact fin_ret r0 hw o1 (by omega) hbs rfl (by rw [Int.natAbs_neg, Int.natAbs_natCast]) (by simp only [dg_len_pos]; exact decide_eq_decide.2 (by omega)) (fun W' c0 c1 => by simp [results, Tryz.results124, go_sem, c0, c1])

set_option maxRecDepth 100000 in
set_option maxHeartbeats 2000000 in
theorem rof_nn (a : Nat) (w : World) (_ha : a < 9223372036854775808) :
    Calls Tryz.prog 60 #[.int .i64 ((a : Int))] w (RetI w ((a : Int))) := by
  have hd : decide ((a : Int) < 0) = false := decide_eq_false (by omega)
  have HV := Lib.hid (val_halves a)
  have hxx : ((a : Int) % 4294967296) = ((a % 4294967296 : Nat) : Int) := by omega
  have hyy : ((a : Int) / 4294967296) = ((a / 4294967296 : Nat) : Int) := by omega
  have HX := Lib.hid hxx
  have HY := Lib.hid hyy
  clear hxx hyy
  have hiz : ((a : Int)) = iv false (val [a % 4294967296, a / 4294967296]) := by rw [val_halves]; rfl
  have HZ := Lib.hid hiz
  clear hiz
  go_enter Tryz.func60, Tryz.ntmps60
  go_wp2_with fail
  have hw : Fr [] w ((w.alloc (Obj.cells #[.bool false, .slice none 0 0] 24)).alloc (Obj.cells #[.int .u32 ((a : Int) % 4294967296), .int .u32 ((a : Int) / 4294967296)] 52)) := ((Fr.refl _ _).alloc _).alloc _
  have r0 : Bx ((w.alloc (Obj.cells #[.bool false, .slice none 0 0] 24)).alloc (Obj.cells #[.int .u32 ((a : Int) % 4294967296), .int .u32 ((a : Int) / 4294967296)] 52)) w.heap.size 24 #[.bool false, .slice none 0 0] := (Bx.made' (by simp) _ _).kept ((Fr.refl _ _).alloc _)
  have h1 : Sl ((w.alloc (Obj.cells #[.bool false, .slice none 0 0] 24)).alloc (Obj.cells #[.int .u32 ((a : Int) % 4294967296), .int .u32 ((a : Int) / 4294967296)] 52)) (some ⟨w.heap.size + 1, 0, none⟩) 2 2 [a % 4294967296, a / 4294967296] := made2 (w := (w.alloc (Obj.cells #[.bool false, .slice none 0 0] 24))) HX.out HY.out (by simp) (by omega) (by omega)
  generalize ((w.alloc (Obj.cells #[.bool false, .slice none 0 0] 24)).alloc (Obj.cells #[.int .u32 ((a : Int) % 4294967296), .int .u32 ((a : Int) / 4294967296)] 52)) = W at *
  have hbs := r0.lt
  refine (calls_ri (b := false) (rtrim_any false _ _ _ [a % 4294967296, a / 4294967296] _ h1 (by decide)) (by rw [← HZ.out]; exact hd) (by rw [iv_abs, HV.out])).mono ?_
  rintro e w1 ⟨p1, cc1, rfl, o1, ff⟩
  replace hw := hw.trans ff (by simp)
  replace r0 := r0.kept ff
  clear ff
  have c0 := r0.cell (j := 0) rfl
  have f0 := r0.free 0
  have c1 := r0.cell (j := 1) rfl
  have f1 := r0.free 1
  go_wp2
  exact fin_ret r0 hw o1 (by omega) hbs rfl (by rw [Int.natAbs_natCast]) (by exact hd.symm) (fun W' c0 c1 => by simp [results, Tryz.results60, go_sem, c0, c1])

set_option maxRecDepth 100000 in
set_option maxHeartbeats 2000000 in
theorem rof_neg (a : Nat) (w : World) (_ha : a ≤ 9223372036854775808) (_h0 : 0 < a) :
    Calls Tryz.prog 60 #[.int .i64 (-(a : Int))] w (RetI w (-(a : Int))) := by
  have hd : decide (-(a : Int) < 0) = true := decide_eq_true (by omega)
  have HV := Lib.hid (val_halves a)
  have hxx : ((-(-(a : Int) + 1) + 1) % 4294967296) = ((a % 4294967296 : Nat) : Int) := by omega
  have hyy : ((-(-(a : Int) + 1) + 1) / 4294967296) = ((a / 4294967296 : Nat) : Int) := by omega
  have HX := Lib.hid hxx
  have HY := Lib.hid hyy
  clear hxx hyy
  have hiz : (-(a : Int)) = iv true (val [a % 4294967296, a / 4294967296]) := by rw [val_halves]; rfl
  have HZ := Lib.hid hiz
  clear hiz
  go_enter Tryz.func60, Tryz.ntmps60
  go_wp2_with fail
  have hw : Fr [] w ((w.alloc (Obj.cells #[.bool false, .slice none 0 0] 24)).alloc (Obj.cells #[.int .u32 ((-(-(a : Int) + 1) + 1) % 4294967296), .int .u32 ((-(-(a : Int) + 1) + 1) / 4294967296)] 52)) := ((Fr.refl _ _).alloc _).alloc _
  have r0 : Bx ((w.alloc (Obj.cells #[.bool false, .slice none 0 0] 24)).alloc (Obj.cells #[.int .u32 ((-(-(a : Int) + 1) + 1) % 4294967296), .int .u32 ((-(-(a : Int) + 1) + 1) / 4294967296)] 52)) w.heap.size 24 #[.bool false, .slice none 0 0] := (Bx.made' (by simp) _ _).kept ((Fr.refl _ _).alloc _)
  have h1 : Sl ((w.alloc (Obj.cells #[.bool false, .slice none 0 0] 24)).alloc (Obj.cells #[.int .u32 ((-(-(a : Int) + 1) + 1) % 4294967296), .int .u32 ((-(-(a : Int) + 1) + 1) / 4294967296)] 52)) (some ⟨w.heap.size + 1, 0, none⟩) 2 2 [a % 4294967296, a / 4294967296] := made2 (w := (w.alloc (Obj.cells #[.bool false, .slice none 0 0] 24))) HX.out HY.out (by simp) (by omega) (by omega)
  generalize ((w.alloc (Obj.cells #[.bool false, .slice none 0 0] 24)).alloc (Obj.cells #[.int .u32 ((-(-(a : Int) + 1) + 1) % 4294967296), .int .u32 ((-(-(a : Int) + 1) + 1) / 4294967296)] 52)) = W at *
  have hbs := r0.lt
  refine (calls_ri (b := true) (rtrim_any true _ _ _ [a % 4294967296, a / 4294967296] _ h1 (by decide)) (by rw [← HZ.out]; exact hd) (by rw [iv_abs, HV.out])).mono ?_
  rintro e w1 ⟨p1, cc1, rfl, o1, ff⟩
  replace hw := hw.trans ff (by simp)
  replace r0 := r0.kept ff
  clear ff
  have c0 := r0.cell (j := 0) rfl
  have f0 := r0.free 0
  have c1 := r0.cell (j := 1) rfl
  have f1 := r0.free 1
  go_wp2
  exact fin_ret r0 hw o1 (by omega) hbs rfl (by rw [Int.natAbs_neg, Int.natAbs_natCast]) (by exact hd.symm) (fun W' c0 c1 => by simp [results, Tryz.results60, go_sem, c0, c1])

theorem of_any (x : Int) (w : World) (_h : -9223372036854775808 ≤ x) (_h2 : x ≤ 9223372036854775807) : Calls Tryz.prog 124 #[.int .i64 x] w (RetI w x) := by
  by_cases h0 : x < 0
  · obtain ⟨a, rfl⟩ : ∃ a : Nat, x = -(a : Int) := ⟨x.natAbs, by omega⟩
    exact of_neg a w (by omega) (by omega)
  · obtain ⟨a, rfl⟩ : ∃ a : Nat, x = (a : Int) := ⟨x.natAbs, by omega⟩
    exact of_nn a w (by omega)

theorem rof_any (x : Int) (w : World) (_h : -9223372036854775808 ≤ x) (_h2 : x ≤ 9223372036854775807) : Calls Tryz.prog 60 #[.int .i64 x] w (RetI w x) := by
  by_cases h0 : x < 0
  · obtain ⟨a, rfl⟩ : ∃ a : Nat, x = -(a : Int) := ⟨x.natAbs, by omega⟩
    exact rof_neg a w (by omega) (by omega)
  · obtain ⟨a, rfl⟩ : ∃ a : Nat, x = (a : Int) := ⟨x.natAbs, by omega⟩
    exact rof_nn a w (by omega)

end Go.Proofs.YtagciepnhjbopaaGreatDoor

namespace Go.Proofs.YtagciepnhjbopaaGreatDoor
open Go.RowKit

def RetD (w : World) (z y : Int) (e : Ending) (w' : World) : Prop :=
  ∃ p c p' c', e = .returned (.tuple #[iw (decide (z < 0)) p (dg z.natAbs).length c, iw (decide (y < 0)) p' (dg y.natAbs).length c', .int .i64 0]) ∧
    Ow w' w.heap.size p (dg z.natAbs).length c (dg z.natAbs) ∧ Ow w' w.heap.size p' (dg y.natAbs).length c' (dg y.natAbs) ∧ Fr [] w w'

theorem euclid {a b q r : Int} (_hb : b ≠ 0) (h : r + b * q = a) (h0 : 0 ≤ r) (_h1 : r < b.natAbs) : a / b = q ∧ a % b = r := by
  by_cases hp : 0 < b
  · exact (Int.ediv_emod_unique hp).2 ⟨h, h0, by omega⟩
  · obtain ⟨k, rfl⟩ : ∃ k : Int, b = -k := ⟨-b, by omega⟩
    have hk : 0 < k := by omega
    have e : r + k * (-q) = a := by rw [← h, Int.mul_neg, Int.neg_mul]
    obtain ⟨e1, e2⟩ := (Int.ediv_emod_unique hk).2 ⟨e, h0, by omega⟩
    rw [Int.ediv_neg, Int.emod_neg, e1, e2, Int.neg_neg]
    exact ⟨rfl, rfl⟩

theorem div_keep {g h : Bool} {a b : Nat} (hb : b ≠ 0) (hk : g = false ∨ a % b = 0) : iv g a / iv h b = iv (g != h) (a / b) ∧ iv g a % iv h b = ((a % b : Nat) : Int) := by
  have h1 := Nat.div_add_mod a b
  have h2 := Nat.mod_lt a (Nat.pos_of_ne_zero hb)
  have h3 : (b : Int) * ((a / b : Nat) : Int) + ((a % b : Nat) : Int) = a := by rw [← Int.natCast_mul, ← Int.natCast_add, h1]
  refine euclid (by cases h <;> simp [iv] <;> omega) ?_ (by omega) (by rw [iv_abs]; omega)
  rcases hk with rfl | hk
  · cases h <;> simp only [iv, Bool.false_eq_true, if_false, if_true, bne_self_eq_false, Bool.bne_true, Bool.not_false, Int.neg_mul, Int.mul_neg, Int.neg_neg] <;> omega
  · rw [hk] at h3 ⊢
    cases g <;> cases h <;> simp only [iv, Bool.false_eq_true, if_false, if_true, bne_self_eq_false, Bool.bne_true, Bool.bne_false, Bool.not_false, Int.neg_mul, Int.mul_neg, Int.neg_neg] <;> omega

theorem div_up {h : Bool} {a b : Nat} (hb : b ≠ 0) (_hk : a % b ≠ 0) : iv true a / iv h b = iv (true != h) (a / b + 1) ∧ iv true a % iv h b = ((b - a % b : Nat) : Int) := by
  have h1 := Nat.div_add_mod a b
  have h2 := Nat.mod_lt a (Nat.pos_of_ne_zero hb)
  have h3 : (b : Int) * ((a / b : Nat) : Int) + ((a % b : Nat) : Int) = a := by rw [← Int.natCast_mul, ← Int.natCast_add, h1]
  have h4 : (b : Int) * ((a / b + 1 : Nat) : Int) = (b : Int) * ((a / b : Nat) : Int) + b := by rw [Int.natCast_add, Int.mul_add]; simp
  refine euclid (by cases h <;> simp [iv] <;> omega) ?_ (by omega) (by rw [iv_abs]; omega)
  cases h <;> simp only [iv, Bool.false_eq_true, if_false, if_true, bne_self_eq_false, Bool.bne_false, Int.neg_mul, Int.mul_neg] <;> omega

theorem fin_pair {fn : Func} {a : Act} {w w2 : World} {b b' n c n' c' : Nat} {v0 v1 v2 v3 : Value} {g g' : Bool} {p p' : Option Addr} {ys ys' : List Nat} {z y : Int} (hr : Bx w2 b 24 #[v0, v1]) (hr' : Bx w2 b' 24 #[v2, v3]) (hne : b' ≠ b) (hw : Fr [] w w2) {base base' : Nat} (hs : Ow w2 base p n c ys) (hs' : Ow w2 base' p' n' c' ys') (hb : w.heap.size ≤ b) (hb' : w.heap.size ≤ b') (hbb : b < base) (hbb2 : b < base') (hbb3 : b' < base) (hbb4 : b' < base') (hd : a.defers = [])
    (hys : ys = dg z.natAbs) (hg : g = decide (z < 0)) (hys' : ys' = dg y.natAbs) (hg' : g' = decide (y < 0))
    (hf : ∀ W' : World, W'.cell? ⟨b, 0, none⟩ = some (.bool g) → W'.cell? ⟨b, 1, none⟩ = some (.slice p n c) → W'.cell? ⟨b', 0, none⟩ = some (.bool g') → W'.cell? ⟨b', 1, none⟩ = some (.slice p' n' c') → (results fn a.tmps).run Tryz.prog W' = .ok (.tuple #[iw g p n c, iw g' p' n' c', .int .i64 0]) W') :
    bodyPost Tryz.prog fn (RetD w z y) .ret a ((((w2.setCell ⟨b, 0, none⟩ (.bool g)).setCell ⟨b, 1, none⟩ (.slice p n c)).setCell ⟨b', 0, none⟩ (.bool g')).setCell ⟨b', 1, none⟩ (.slice p' n' c')) := by
  have hn := hs.sl.len
  have hn' := hs'.sl.len
  subst hys
  subst hg
  subst hn
  subst hys'
  subst hg'
  subst hn'
  have q1 := (hr.set2 (.bool (decide (z < 0))) (.slice p (dg z.natAbs).length c)).far (b := b') (by omega) (.bool (decide (y < 0))) (.slice p' (dg y.natAbs).length c')
  have q2 := (hr'.far (b := b) hne (.bool (decide (z < 0))) (.slice p (dg z.natAbs).length c)).set2 (.bool (decide (y < 0))) (.slice p' (dg y.natAbs).length c')
  have f2 := (hw.set2 hb (.bool (decide (z < 0))) (.slice p (dg z.natAbs).length c)).set2 hb' (.bool (decide (y < 0))) (.slice p' (dg y.natAbs).length c')
  have s2 := ((hs.set2 hbb (.bool (decide (z < 0))) (.slice p (dg z.natAbs).length c)).set2 hbb3 (.bool (decide (y < 0))) (.slice p' (dg y.natAbs).length c')).mono (show w.heap.size ≤ base by omega)
  have s3 := ((hs'.set2 hbb2 (.bool (decide (z < 0))) (.slice p (dg z.natAbs).length c)).set2 hbb4 (.bool (decide (y < 0))) (.slice p' (dg y.natAbs).length c')).mono (show w.heap.size ≤ base' by omega)
  exact bodyPost_ret (hf _ (q1.cell rfl) (q1.cell rfl) (q2.cell rfl) (q2.cell rfl)) hd ⟨p, c, p', c', rfl, s2, s3, f2⟩

set_option maxRecDepth 100000 in
set_option maxHeartbeats 2000000 in
theorem idiv_pos (h : Bool) (p q : Option Addr) (n c m d : Nat) (xs ys : List Nat) (w : World) (h1 : Sl w p n c xs) (h2 : Sl w q m d ys) (_hn : n ≤ 1048575) (_hm : m ≤ 1048575) (h0 : val ys ≠ 0) :
    Calls Tryz.prog 174 #[iw false p n c, iw h q m d] w (RetD w (iv false (val xs) / iv h (val ys)) (iv false (val xs) % iv h (val ys))) := by
  have hdk := div_keep (g := false) (h := h) (a := val xs) h0 (Or.inl rfl)
  rw [hdk.1, hdk.2]
  have H0 := Lib.hid h0
  clear h0 hdk
  go_enter Tryz.func174, Tryz.ntmps174
  go_wp2_with fail
  have g_h1 := h1
  have g_h2 := h2
  have hw : Fr [] w ((((w.alloc (Obj.cells #[.bool false, .slice p n c] 24)).alloc (Obj.cells #[.bool h, .slice q m d] 24)).alloc (Obj.cells #[.bool false, .slice none 0 0] 24)).alloc (Obj.cells #[.bool false, .slice none 0 0] 24)) := ((((Fr.refl _ _).alloc _).alloc _).alloc _).alloc _
  have b0 : Bx ((((w.alloc (Obj.cells #[.bool false, .slice p n c] 24)).alloc (Obj.cells #[.bool h, .slice q m d] 24)).alloc (Obj.cells #[.bool false, .slice none 0 0] 24)).alloc (Obj.cells #[.bool false, .slice none 0 0] 24)) w.heap.size 24 #[.bool false, .slice p n c] := (Bx.made' (by simp) _ _).kept ((((Fr.refl _ _).alloc _).alloc _).alloc _)
  have b1 : Bx ((((w.alloc (Obj.cells #[.bool false, .slice p n c] 24)).alloc (Obj.cells #[.bool h, .slice q m d] 24)).alloc (Obj.cells #[.bool false, .slice none 0 0] 24)).alloc (Obj.cells #[.bool false, .slice none 0 0] 24)) (w.heap.size + 1) 24 #[.bool h, .slice q m d] := (Bx.made' (by simp) _ _).kept (((Fr.refl _ _).alloc _).alloc _)
  have r0 : Bx ((((w.alloc (Obj.cells #[.bool false, .slice p n c] 24)).alloc (Obj.cells #[.bool h, .slice q m d] 24)).alloc (Obj.cells #[.bool false, .slice none 0 0] 24)).alloc (Obj.cells #[.bool false, .slice none 0 0] 24)) (w.heap.size + 2) 24 #[.bool false, .slice none 0 0] := (Bx.made' (by simp) _ _).kept ((Fr.refl _ _).alloc _)
  have r1 : Bx ((((w.alloc (Obj.cells #[.bool false, .slice p n c] 24)).alloc (Obj.cells #[.bool h, .slice q m d] 24)).alloc (Obj.cells #[.bool false, .slice none 0 0] 24)).alloc (Obj.cells #[.bool false, .slice none 0 0] 24)) (w.heap.size + 3) 24 #[.bool false, .slice none 0 0] := (Bx.made' (by simp) _ _).kept (Fr.refl _ _)
  generalize ((((w.alloc (Obj.cells #[.bool false, .slice p n c] 24)).alloc (Obj.cells #[.bool h, .slice q m d] 24)).alloc (Obj.cells #[.bool false, .slice none 0 0] 24)).alloc (Obj.cells #[.bool false, .slice none 0 0] 24)) = W at *
  have hbs := r1.lt
  replace h1 := h1.kept hw
  replace h2 := h2.kept hw
  have c_b0_0 := b0.cell (j := 0) rfl
  have f_b0_0 := b0.free 0
  have c_b0_1 := b0.cell (j := 1) rfl
  have f_b0_1 := b0.free 1
  have c_b1_0 := b1.cell (j := 0) rfl
  have f_b1_0 := b1.free 0
  have c_b1_1 := b1.cell (j := 1) rfl
  have f_b1_1 := b1.free 1
  have c_r0_0 := r0.cell (j := 0) rfl
  have f_r0_0 := r0.free 0
  have c_r0_1 := r0.cell (j := 1) rfl
  have f_r0_1 := r0.free 1
  have c_r1_0 := r1.cell (j := 0) rfl
  have f_r1_0 := r1.free 0
  have c_r1_1 := r1.cell (j := 1) rfl
  have f_r1_1 := r1.free 1
  go_wp2_with fail
  clear c_b0_0 f_b0_0 c_b0_1 f_b0_1 c_b1_0 f_b1_0 c_b1_1 f_b1_1 c_r0_0 f_r0_0 c_r0_1 f_r0_1 c_r1_0 f_r1_0 c_r1_1 f_r1_1
  refine (divmod_yes _ _ _ _ _ _ _ _ _ h1 h2 (by omega) (by omega) H0.out).mono ?_
  rintro e V1 ⟨p1, cc1, p2, cc2, rfl, o1, o2, ff⟩
  replace hw := hw.trans ff (by simp)
  replace h1 := h1.kept ff
  replace h2 := h2.kept ff
  replace b0 := b0.kept ff
  replace b1 := b1.kept ff
  replace r0 := r0.kept ff
  replace r1 := r1.kept ff
  clear ff
  have c_b0_0 := b0.cell (j := 0) rfl
  have f_b0_0 := b0.free 0
  have c_b0_1 := b0.cell (j := 1) rfl
  have f_b0_1 := b0.free 1
  have c_b1_0 := b1.cell (j := 0) rfl
  have f_b1_0 := b1.free 0
  have c_b1_1 := b1.cell (j := 1) rfl
  have f_b1_1 := b1.free 1
  have c_r0_0 := r0.cell (j := 0) rfl
  have f_r0_0 := r0.free 0
  have c_r0_1 := r0.cell (j := 1) rfl
  have f_r0_1 := r0.free 1
  have c_r1_0 := r1.cell (j := 0) rfl
  have f_r1_0 := r1.free 0
  have c_r1_1 := r1.cell (j := 1) rfl
  have f_r1_1 := r1.free 1
  go_wp2_with fail
  clear c_b0_0 f_b0_0 c_b0_1 f_b0_1 c_b1_0 f_b1_0 c_b1_1 f_b1_1 c_r0_0 f_r0_0 c_r0_1 f_r0_1 c_r1_0 f_r1_0 c_r1_1 f_r1_1
  refine (signed_any _ _ _ _ _).mono ?_
  rintro e V2 ⟨rfl, ff⟩
  have hsz2 := ff.size
  replace hw := hw.trans ff (by simp)
  replace h1 := h1.kept ff
  replace h2 := h2.kept ff
  replace o1 := o1.kept ff
  replace o2 := o2.kept ff
  replace b0 := b0.kept ff
  replace b1 := b1.kept ff
  replace r0 := r0.kept ff
  replace r1 := r1.kept ff
  clear ff
  have c_b0_0 := b0.cell (j := 0) rfl
  have f_b0_0 := b0.free 0
  have c_b0_1 := b0.cell (j := 1) rfl
  have f_b0_1 := b0.free 1
  have c_b1_0 := b1.cell (j := 0) rfl
  have f_b1_0 := b1.free 0
  have c_b1_1 := b1.cell (j := 1) rfl
  have f_b1_1 := b1.free 1
  have c_r0_0 := r0.cell (j := 0) rfl
  have f_r0_0 := r0.free 0
  have c_r0_1 := r0.cell (j := 1) rfl
  have f_r0_1 := r0.free 1
  have c_r1_0 := r1.cell (j := 0) rfl
  have f_r1_0 := r1.free 0
  have c_r1_1 := r1.cell (j := 1) rfl
  have f_r1_1 := r1.free 1
  go_wp2_with fail
  clear c_b0_0 f_b0_0 c_b0_1 f_b0_1 c_b1_0 f_b1_0 c_b1_1 f_b1_1 c_r0_0 f_r0_0 c_r0_1 f_r0_1 c_r1_0 f_r1_0 c_r1_1 f_r1_1
  refine (signed_any _ _ _ _ _).mono ?_
  rintro e V3 ⟨rfl, ff⟩
  have hsz3 := ff.size
  replace hw := hw.trans ff (by simp)
  replace h1 := h1.kept ff
  replace h2 := h2.kept ff
  replace o1 := o1.kept ff
  replace o2 := o2.kept ff
  replace b0 := b0.kept ff
  replace b1 := b1.kept ff
  replace r0 := r0.kept ff
  replace r1 := r1.kept ff
  clear ff
  have c_b0_0 := b0.cell (j := 0) rfl
  have f_b0_0 := b0.free 0
  have c_b0_1 := b0.cell (j := 1) rfl
  have f_b0_1 := b0.free 1
  have c_b1_0 := b1.cell (j := 0) rfl
  have f_b1_0 := b1.free 0
  have c_b1_1 := b1.cell (j := 1) rfl
  have f_b1_1 := b1.free 1
  have c_r0_0 := r0.cell (j := 0) rfl
  have f_r0_0 := r0.free 0
  have c_r0_1 := r0.cell (j := 1) rfl
  have f_r0_1 := r0.free 1
  have c_r1_0 := r1.cell (j := 0) rfl
  have f_r1_0 := r1.free 0
  have c_r1_1 := r1.cell (j := 1) rfl
  have f_r1_1 := r1.free 1
  go_wp2
  exact fin_pair r0 r1 (by omega) hw o1 o2 (by omega) (by omega) (by omega) (by omega) (by omega) (by omega) rfl (by rw [iv_abs]) (by rw [iv_lt, dg_len_pos]; cases h <;> rfl) (by rw [Int.natAbs_natCast]) (decide_eq_false (by omega)).symm (fun W' c0 c1 c2 c3 => by simp [results, Tryz.results174, go_sem, c0, c1, c2, c3])

set_option maxRecDepth 100000 in
set_option maxHeartbeats 2000000 in
theorem idiv_even (h : Bool) (p q : Option Addr) (n c m d : Nat) (xs ys : List Nat) (w : World) (h1 : Sl w p n c xs) (h2 : Sl w q m d ys) (_hn : n ≤ 1048575) (_hm : m ≤ 1048575) (h0 : val ys ≠ 0) (hk : val xs % val ys = 0) :
    Calls Tryz.prog 174 #[iw true p n c, iw h q m d] w (RetD w (iv true (val xs) / iv h (val ys)) (iv true (val xs) % iv h (val ys))) := by
  have hdk := div_keep (g := true) (h := h) (a := val xs) h0 (Or.inr hk)
  rw [hdk.1, hdk.2]
  have hlen : decide (0 < (dg (val xs % val ys)).length) = false := by rw [hk, dg_zero]; rfl
  have hk' := Lib.hid hk
  clear hk
  have H0 := Lib.hid h0
  clear h0 hdk
  go_enter Tryz.func174, Tryz.ntmps174
  go_wp2_with fail
  have g_h1 := h1
  have g_h2 := h2
  have hw : Fr [] w ((((w.alloc (Obj.cells #[.bool true, .slice p n c] 24)).alloc (Obj.cells #[.bool h, .slice q m d] 24)).alloc (Obj.cells #[.bool false, .slice none 0 0] 24)).alloc (Obj.cells #[.bool false, .slice none 0 0] 24)) := ((((Fr.refl _ _).alloc _).alloc _).alloc _).alloc _
  have b0 : Bx ((((w.alloc (Obj.cells #[.bool true, .slice p n c] 24)).alloc (Obj.cells #[.bool h, .slice q m d] 24)).alloc (Obj.cells #[.bool false, .slice none 0 0] 24)).alloc (Obj.cells #[.bool false, .slice none 0 0] 24)) w.heap.size 24 #[.bool true, .slice p n c] := (Bx.made' (by simp) _ _).kept ((((Fr.refl _ _).alloc _).alloc _).alloc _)
  have b1 : Bx ((((w.alloc (Obj.cells #[.bool true, .slice p n c] 24)).alloc (Obj.cells #[.bool h, .slice q m d] 24)).alloc (Obj.cells #[.bool false, .slice none 0 0] 24)).alloc (Obj.cells #[.bool false, .slice none 0 0] 24)) (w.heap.size + 1) 24 #[.bool h, .slice q m d] := (Bx.made' (by simp) _ _).kept (((Fr.refl _ _).alloc _).alloc _)
  have r0 : Bx ((((w.alloc (Obj.cells #[.bool true, .slice p n c] 24)).alloc (Obj.cells #[.bool h, .slice q m d] 24)).alloc (Obj.cells #[.bool false, .slice none 0 0] 24)).alloc (Obj.cells #[.bool false, .slice none 0 0] 24)) (w.heap.size + 2) 24 #[.bool false, .slice none 0 0] := (Bx.made' (by simp) _ _).kept ((Fr.refl _ _).alloc _)
  have r1 : Bx ((((w.alloc (Obj.cells #[.bool true, .slice p n c] 24)).alloc (Obj.cells #[.bool h, .slice q m d] 24)).alloc (Obj.cells #[.bool false, .slice none 0 0] 24)).alloc (Obj.cells #[.bool false, .slice none 0 0] 24)) (w.heap.size + 3) 24 #[.bool false, .slice none 0 0] := (Bx.made' (by simp) _ _).kept (Fr.refl _ _)
  generalize ((((w.alloc (Obj.cells #[.bool true, .slice p n c] 24)).alloc (Obj.cells #[.bool h, .slice q m d] 24)).alloc (Obj.cells #[.bool false, .slice none 0 0] 24)).alloc (Obj.cells #[.bool false, .slice none 0 0] 24)) = W at *
  have hbs := r1.lt
  replace h1 := h1.kept hw
  replace h2 := h2.kept hw
  have c_b0_0 := b0.cell (j := 0) rfl
  have f_b0_0 := b0.free 0
  have c_b0_1 := b0.cell (j := 1) rfl
  have f_b0_1 := b0.free 1
  have c_b1_0 := b1.cell (j := 0) rfl
  have f_b1_0 := b1.free 0
  have c_b1_1 := b1.cell (j := 1) rfl
  have f_b1_1 := b1.free 1
  have c_r0_0 := r0.cell (j := 0) rfl
  have f_r0_0 := r0.free 0
  have c_r0_1 := r0.cell (j := 1) rfl
  have f_r0_1 := r0.free 1
  have c_r1_0 := r1.cell (j := 0) rfl
  have f_r1_0 := r1.free 0
  have c_r1_1 := r1.cell (j := 1) rfl
  have f_r1_1 := r1.free 1
  go_wp2_with fail
  clear c_b0_0 f_b0_0 c_b0_1 f_b0_1 c_b1_0 f_b1_0 c_b1_1 f_b1_1 c_r0_0 f_r0_0 c_r0_1 f_r0_1 c_r1_0 f_r1_0 c_r1_1 f_r1_1
  refine (divmod_yes _ _ _ _ _ _ _ _ _ h1 h2 (by omega) (by omega) H0.out).mono ?_
  rintro e V1 ⟨p1, cc1, p2, cc2, rfl, o1, o2, ff⟩
  replace hw := hw.trans ff (by simp)
  replace h1 := h1.kept ff
  replace h2 := h2.kept ff
  replace b0 := b0.kept ff
  replace b1 := b1.kept ff
  replace r0 := r0.kept ff
  replace r1 := r1.kept ff
  clear ff
  have c_b0_0 := b0.cell (j := 0) rfl
  have f_b0_0 := b0.free 0
  have c_b0_1 := b0.cell (j := 1) rfl
  have f_b0_1 := b0.free 1
  have c_b1_0 := b1.cell (j := 0) rfl
  have f_b1_0 := b1.free 0
  have c_b1_1 := b1.cell (j := 1) rfl
  have f_b1_1 := b1.free 1
  have c_r0_0 := r0.cell (j := 0) rfl
  have f_r0_0 := r0.free 0
  have c_r0_1 := r0.cell (j := 1) rfl
  have f_r0_1 := r0.free 1
  have c_r1_0 := r1.cell (j := 0) rfl
  have f_r1_0 := r1.free 0
  have c_r1_1 := r1.cell (j := 1) rfl
  have f_r1_1 := r1.free 1
  go_wp2_with fail
  clear c_b0_0 f_b0_0 c_b0_1 f_b0_1 c_b1_0 f_b1_0 c_b1_1 f_b1_1 c_r0_0 f_r0_0 c_r0_1 f_r0_1 c_r1_0 f_r1_0 c_r1_1 f_r1_1
  refine (signed_any _ _ _ _ _).mono ?_
  rintro e V2 ⟨rfl, ff⟩
  have hsz2 := ff.size
  replace hw := hw.trans ff (by simp)
  replace h1 := h1.kept ff
  replace h2 := h2.kept ff
  replace o1 := o1.kept ff
  replace o2 := o2.kept ff
  replace b0 := b0.kept ff
  replace b1 := b1.kept ff
  replace r0 := r0.kept ff
  replace r1 := r1.kept ff
  clear ff
  have c_b0_0 := b0.cell (j := 0) rfl
  have f_b0_0 := b0.free 0
  have c_b0_1 := b0.cell (j := 1) rfl
  have f_b0_1 := b0.free 1
  have c_b1_0 := b1.cell (j := 0) rfl
  have f_b1_0 := b1.free 0
  have c_b1_1 := b1.cell (j := 1) rfl
  have f_b1_1 := b1.free 1
  have c_r0_0 := r0.cell (j := 0) rfl
  have f_r0_0 := r0.free 0
  have c_r0_1 := r0.cell (j := 1) rfl
  have f_r0_1 := r0.free 1
  have c_r1_0 := r1.cell (j := 0) rfl
  have f_r1_0 := r1.free 0
  have c_r1_1 := r1.cell (j := 1) rfl
  have f_r1_1 := r1.free 1
  go_wp2_with fail
  clear c_b0_0 f_b0_0 c_b0_1 f_b0_1 c_b1_0 f_b1_0 c_b1_1 f_b1_1 c_r0_0 f_r0_0 c_r0_1 f_r0_1 c_r1_0 f_r1_0 c_r1_1 f_r1_1
  refine (signed_any _ _ _ _ _).mono ?_
  rintro e V3 ⟨rfl, ff⟩
  have hsz3 := ff.size
  replace hw := hw.trans ff (by simp)
  replace h1 := h1.kept ff
  replace h2 := h2.kept ff
  replace o1 := o1.kept ff
  replace o2 := o2.kept ff
  replace b0 := b0.kept ff
  replace b1 := b1.kept ff
  replace r0 := r0.kept ff
  replace r1 := r1.kept ff
  clear ff
  have c_b0_0 := b0.cell (j := 0) rfl
  have f_b0_0 := b0.free 0
  have c_b0_1 := b0.cell (j := 1) rfl
  have f_b0_1 := b0.free 1
  have c_b1_0 := b1.cell (j := 0) rfl
  have f_b1_0 := b1.free 0
  have c_b1_1 := b1.cell (j := 1) rfl
  have f_b1_1 := b1.free 1
  have c_r0_0 := r0.cell (j := 0) rfl
  have f_r0_0 := r0.free 0
  have c_r0_1 := r0.cell (j := 1) rfl
  have f_r0_1 := r0.free 1
  have c_r1_0 := r1.cell (j := 0) rfl
  have f_r1_0 := r1.free 0
  have c_r1_1 := r1.cell (j := 1) rfl
  have f_r1_1 := r1.free 1
  go_wp2
  exact fin_pair r0 r1 (by omega) hw o1 o2 (by omega) (by omega) (by omega) (by omega) (by omega) (by omega) rfl (by rw [iv_abs]) (by rw [iv_lt, dg_len_pos]; cases h <;> rfl) (by rw [Int.natAbs_natCast]) (decide_eq_false (by omega)).symm (fun W' c0 c1 c2 c3 => by simp [results, Tryz.results174, go_sem, c0, c1, c2, c3])

set_option maxRecDepth 100000 in
set_option maxHeartbeats 2000000 in
theorem idiv_up (h : Bool) (p q : Option Addr) (n c m d : Nat) (xs ys : List Nat) (w : World) (h1 : Sl w p n c xs) (h2 : Sl w q m d ys) (_hn : n ≤ 1048575) (_hm : m ≤ 1048575) (h0 : val ys ≠ 0) (hk : val xs % val ys ≠ 0) :
    Calls Tryz.prog 174 #[iw true p n c, iw h q m d] w (RetD w (iv true (val xs) / iv h (val ys)) (iv true (val xs) % iv h (val ys))) := by
  have hdk := div_up (h := h) h0 hk
  rw [hdk.1, hdk.2]
  have hlen : decide (0 < (dg (val xs % val ys)).length) = true := (dg_len_pos (val xs % val ys)).trans (decide_eq_true (by omega))
  have l1 := dg_len_val h1.dig
  rw [h1.len] at l1
  have l2 := dg_len_mono (Nat.div_le_self (val xs) (val ys))
  have l3 := dg_len_mono (Nat.mod_le (val xs) (val ys))
  have hv1 : val (dg (val xs / val ys)) + val [1] = val xs / val ys + 1 := by rw [val_dg, val_one]
  have hv2 : val ys - val (dg (val xs % val ys)) = val ys - val xs % val ys := by rw [val_dg]
  have H0 := Lib.hid h0
  have HV1 := Lib.hid hv1
  have HV2 := Lib.hid hv2
  clear h0 hk hdk hv1 hv2
  go_enter Tryz.func174, Tryz.ntmps174
  go_wp2_with fail
  have g_h1 := h1
  have g_h2 := h2
  have hw : Fr [] w ((((w.alloc (Obj.cells #[.bool true, .slice p n c] 24)).alloc (Obj.cells #[.bool h, .slice q m d] 24)).alloc (Obj.cells #[.bool false, .slice none 0 0] 24)).alloc (Obj.cells #[.bool false, .slice none 0 0] 24)) := ((((Fr.refl _ _).alloc _).alloc _).alloc _).alloc _
  have b0 : Bx ((((w.alloc (Obj.cells #[.bool true, .slice p n c] 24)).alloc (Obj.cells #[.bool h, .slice q m d] 24)).alloc (Obj.cells #[.bool false, .slice none 0 0] 24)).alloc (Obj.cells #[.bool false, .slice none 0 0] 24)) w.heap.size 24 #[.bool true, .slice p n c] := (Bx.made' (by simp) _ _).kept ((((Fr.refl _ _).alloc _).alloc _).alloc _)
  have b1 : Bx ((((w.alloc (Obj.cells #[.bool true, .slice p n c] 24)).alloc (Obj.cells #[.bool h, .slice q m d] 24)).alloc (Obj.cells #[.bool false, .slice none 0 0] 24)).alloc (Obj.cells #[.bool false, .slice none 0 0] 24)) (w.heap.size + 1) 24 #[.bool h, .slice q m d] := (Bx.made' (by simp) _ _).kept (((Fr.refl _ _).alloc _).alloc _)
  have r0 : Bx ((((w.alloc (Obj.cells #[.bool true, .slice p n c] 24)).alloc (Obj.cells #[.bool h, .slice q m d] 24)).alloc (Obj.cells #[.bool false, .slice none 0 0] 24)).alloc (Obj.cells #[.bool false, .slice none 0 0] 24)) (w.heap.size + 2) 24 #[.bool false, .slice none 0 0] := (Bx.made' (by simp) _ _).kept ((Fr.refl _ _).alloc _)
  have r1 : Bx ((((w.alloc (Obj.cells #[.bool true, .slice p n c] 24)).alloc (Obj.cells #[.bool h, .slice q m d] 24)).alloc (Obj.cells #[.bool false, .slice none 0 0] 24)).alloc (Obj.cells #[.bool false, .slice none 0 0] 24)) (w.heap.size + 3) 24 #[.bool false, .slice none 0 0] := (Bx.made' (by simp) _ _).kept (Fr.refl _ _)
  generalize ((((w.alloc (Obj.cells #[.bool true, .slice p n c] 24)).alloc (Obj.cells #[.bool h, .slice q m d] 24)).alloc (Obj.cells #[.bool false, .slice none 0 0] 24)).alloc (Obj.cells #[.bool false, .slice none 0 0] 24)) = W at *
  have hbs := r1.lt
  replace h1 := h1.kept hw
  replace h2 := h2.kept hw
  have c_b0_0 := b0.cell (j := 0) rfl
  have f_b0_0 := b0.free 0
  have c_b0_1 := b0.cell (j := 1) rfl
  have f_b0_1 := b0.free 1
  have c_b1_0 := b1.cell (j := 0) rfl
  have f_b1_0 := b1.free 0
  have c_b1_1 := b1.cell (j := 1) rfl
  have f_b1_1 := b1.free 1
  have c_r0_0 := r0.cell (j := 0) rfl
  have f_r0_0 := r0.free 0
  have c_r0_1 := r0.cell (j := 1) rfl
  have f_r0_1 := r0.free 1
  have c_r1_0 := r1.cell (j := 0) rfl
  have f_r1_0 := r1.free 0
  have c_r1_1 := r1.cell (j := 1) rfl
  have f_r1_1 := r1.free 1
  go_wp2_with fail
  clear c_b0_0 f_b0_0 c_b0_1 f_b0_1 c_b1_0 f_b1_0 c_b1_1 f_b1_1 c_r0_0 f_r0_0 c_r0_1 f_r0_1 c_r1_0 f_r1_0 c_r1_1 f_r1_1
  refine (divmod_yes _ _ _ _ _ _ _ _ _ h1 h2 (by omega) (by omega) H0.out).mono ?_
  rintro e V1 ⟨p1, cc1, p2, cc2, rfl, o1, o2, ff⟩
  have hsz0 := ff.size
  replace hw := hw.trans ff (by simp)
  replace h1 := h1.kept ff
  replace h2 := h2.kept ff
  replace b0 := b0.kept ff
  replace b1 := b1.kept ff
  replace r0 := r0.kept ff
  replace r1 := r1.kept ff
  clear ff
  replace o1 := o1.mono (Nat.le_refl _)
  have c_b0_0 := b0.cell (j := 0) rfl
  have f_b0_0 := b0.free 0
  have c_b0_1 := b0.cell (j := 1) rfl
  have f_b0_1 := b0.free 1
  have c_b1_0 := b1.cell (j := 0) rfl
  have f_b1_0 := b1.free 0
  have c_b1_1 := b1.cell (j := 1) rfl
  have f_b1_1 := b1.free 1
  have c_r0_0 := r0.cell (j := 0) rfl
  have f_r0_0 := r0.free 0
  have c_r0_1 := r0.cell (j := 1) rfl
  have f_r0_1 := r0.free 1
  have c_r1_0 := r1.cell (j := 0) rfl
  have f_r1_0 := r1.free 0
  have c_r1_1 := r1.cell (j := 1) rfl
  have f_r1_1 := r1.free 1
  go_wp2_with fail
  clear c_b0_0 f_b0_0 c_b0_1 f_b0_1 c_b1_0 f_b1_0 c_b1_1 f_b1_1 c_r0_0 f_r0_0 c_r0_1 f_r0_1 c_r1_0 f_r1_0 c_r1_1 f_r1_1
  have k1 := b1.cell (j := 1) rfl
  go_region_held3 (fun w' => w'.cell? ⟨w.heap.size + 1, 1, none⟩ = some (.slice q m d)) (first | exact k1 | exact (b1.kept ((Fr.refl [] V1).drew.alloc _)).cell (j := 1) rfl)
    (first
    | (go_at_call 197; refine (add_any _ _ _ _ _ _ _ [1] _ (o1.sl.kept ((Fr.refl [] V1).drew.alloc _)) (made1 (w := V1.drew) rfl rfl (by decide)) (by omega) (by decide)).mono ?_; rintro e V2 ⟨p3, cc3, rfl, o3, f3⟩; have hf2 : Fr [] V1 V2 := ((Fr.refl [] V1).drew.alloc _).trans f3 (by simp); have k1 := (b1.kept hf2).cell (j := 1) rfl; have hb3 : V1.heap.size ≤ (V1.drew.alloc (Obj.cells #[.int .u32 1] 52)).heap.size := ((Fr.refl [] V1).drew.alloc _).size)
    | (go_at_call 198; (with_reducible refine (sub_any _ _ _ _ _ _ _ _ _ (h2.kept hf2) (o2.sl.kept hf2) (by omega) (by omega)).mono ?_); rintro e V3 ⟨p4, cc4, rfl, o4, f4⟩; have hf3 : Fr [] V1 V3 := hf2.trans f4 (by simp); have k1 := (b1.kept hf3).cell (j := 1) rfl; have o3 := o3.kept f4; have hsz3 := hf2.size))
  rw [HV1.out] at o3 ⊢
  rw [HV2.out] at o4 ⊢
  replace hw := hw.trans hf3 (by simp)
  replace h1 := h1.kept hf3
  replace h2 := h2.kept hf3
  replace b0 := b0.kept hf3
  replace b1 := b1.kept hf3
  replace r0 := r0.kept hf3
  replace r1 := r1.kept hf3
  replace o3 := o3.mono hb3
  replace o4 := o4.mono hsz3
  clear hf2 hf3 f3 f4 k1 o1 o2
  have c_b0_0 := b0.cell (j := 0) rfl
  have f_b0_0 := b0.free 0
  have c_b0_1 := b0.cell (j := 1) rfl
  have f_b0_1 := b0.free 1
  have c_b1_0 := b1.cell (j := 0) rfl
  have f_b1_0 := b1.free 0
  have c_b1_1 := b1.cell (j := 1) rfl
  have f_b1_1 := b1.free 1
  have c_r0_0 := r0.cell (j := 0) rfl
  have f_r0_0 := r0.free 0
  have c_r0_1 := r0.cell (j := 1) rfl
  have f_r0_1 := r0.free 1
  have c_r1_0 := r1.cell (j := 0) rfl
  have f_r1_0 := r1.free 0
  have c_r1_1 := r1.cell (j := 1) rfl
  have f_r1_1 := r1.free 1
  go_wp2_with fail
  clear c_b0_0 f_b0_0 c_b0_1 f_b0_1 c_b1_0 f_b1_0 c_b1_1 f_b1_1 c_r0_0 f_r0_0 c_r0_1 f_r0_1 c_r1_0 f_r1_0 c_r1_1 f_r1_1
  refine (signed_any _ _ _ _ _).mono ?_
  rintro e V4 ⟨rfl, ff⟩
  have hsz4 := ff.size
  replace hw := hw.trans ff (by simp)
  replace h1 := h1.kept ff
  replace h2 := h2.kept ff
  replace o3 := o3.kept ff
  replace o4 := o4.kept ff
  replace b0 := b0.kept ff
  replace b1 := b1.kept ff
  replace r0 := r0.kept ff
  replace r1 := r1.kept ff
  clear ff
  have c_b0_0 := b0.cell (j := 0) rfl
  have f_b0_0 := b0.free 0
  have c_b0_1 := b0.cell (j := 1) rfl
  have f_b0_1 := b0.free 1
  have c_b1_0 := b1.cell (j := 0) rfl
  have f_b1_0 := b1.free 0
  have c_b1_1 := b1.cell (j := 1) rfl
  have f_b1_1 := b1.free 1
  have c_r0_0 := r0.cell (j := 0) rfl
  have f_r0_0 := r0.free 0
  have c_r0_1 := r0.cell (j := 1) rfl
  have f_r0_1 := r0.free 1
  have c_r1_0 := r1.cell (j := 0) rfl
  have f_r1_0 := r1.free 0
  have c_r1_1 := r1.cell (j := 1) rfl
  have f_r1_1 := r1.free 1
  go_wp2_with fail
  clear c_b0_0 f_b0_0 c_b0_1 f_b0_1 c_b1_0 f_b1_0 c_b1_1 f_b1_1 c_r0_0 f_r0_0 c_r0_1 f_r0_1 c_r1_0 f_r1_0 c_r1_1 f_r1_1
  refine (signed_any _ _ _ _ _).mono ?_
  rintro e V5 ⟨rfl, ff⟩
  have hsz5 := ff.size
  replace hw := hw.trans ff (by simp)
  replace h1 := h1.kept ff
  replace h2 := h2.kept ff
  replace o3 := o3.kept ff
  replace o4 := o4.kept ff
  replace b0 := b0.kept ff
  replace b1 := b1.kept ff
  replace r0 := r0.kept ff
  replace r1 := r1.kept ff
  clear ff
  have c_b0_0 := b0.cell (j := 0) rfl
  have f_b0_0 := b0.free 0
  have c_b0_1 := b0.cell (j := 1) rfl
  have f_b0_1 := b0.free 1
  have c_b1_0 := b1.cell (j := 0) rfl
  have f_b1_0 := b1.free 0
  have c_b1_1 := b1.cell (j := 1) rfl
  have f_b1_1 := b1.free 1
  have c_r0_0 := r0.cell (j := 0) rfl
  have f_r0_0 := r0.free 0
  have c_r0_1 := r0.cell (j := 1) rfl
  have f_r0_1 := r0.free 1
  have c_r1_0 := r1.cell (j := 0) rfl
  have f_r1_0 := r1.free 0
  have c_r1_1 := r1.cell (j := 1) rfl
  have f_r1_1 := r1.free 1
  go_wp2
  exact fin_pair r0 r1 (by omega) hw o3 o4 (by omega) (by omega) (by omega) (by omega) (by omega) (by omega) rfl (by rw [iv_abs]) (by rw [iv_lt, dg_len_pos]; cases h <;> rfl) (by rw [Int.natAbs_natCast]) (decide_eq_false (by omega)).symm (fun W' c0 c1 c2 c3 => by simp [results, Tryz.results174, go_sem, c0, c1, c2, c3])

theorem idiv_any (g h : Bool) (p q : Option Addr) (n c m d : Nat) (xs ys : List Nat) (w : World) (h1 : Sl w p n c xs) (h2 : Sl w q m d ys) (hn : n ≤ 1048575) (hm : m ≤ 1048575) (h0 : val ys ≠ 0) :
    Calls Tryz.prog 174 #[iw g p n c, iw h q m d] w (RetD w (iv g (val xs) / iv h (val ys)) (iv g (val xs) % iv h (val ys))) := by
  cases g
  · exact idiv_pos h p q n c m d xs ys w h1 h2 hn hm h0
  · by_cases hk : val xs % val ys = 0
    · exact idiv_even h p q n c m d xs ys w h1 h2 hn hm h0 hk
    · exact idiv_up h p q n c m d xs ys w h1 h2 hn hm h0 hk

end Go.Proofs.YtagciepnhjbopaaGreatDoor
