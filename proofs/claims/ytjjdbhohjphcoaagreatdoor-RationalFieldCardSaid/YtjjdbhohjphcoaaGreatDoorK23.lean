/- What the statements of this claim stand on: of Rat9, what they name -/
import Derived.Test.YtjjdbhohjphcoaaGreatDoorK22

namespace Go.Proofs.YtjjdbhohjphcoaaGreatDoor
open Go.RowKit

set_option maxRecDepth 100000 in
set_option maxHeartbeats 1000000 in
theorem frac_ne (x y : Int) (w : World) (ht : Tab w) (_hx : -9223372036854775808 ≤ x) (_hx2 : x ≤ 9223372036854775807) (_hy : -9223372036854775808 ≤ y) (_hy2 : y ≤ 9223372036854775807) (_hn : y ≠ 0) :
    Calls Tryz.prog 45 #[.int .i64 x, .int .i64 y] w (RetQ w (Rat.divInt x y)) := by
  obtain ⟨s, hs⟩ : ∃ s, decide (x < 0) = s := ⟨_, rfl⟩
  obtain ⟨M, hM⟩ : ∃ M, x.natAbs = M := ⟨_, rfl⟩
  obtain ⟨s', hs'⟩ : ∃ s, decide (y < 0) = s := ⟨_, rfl⟩
  obtain ⟨M', hM'⟩ : ∃ M, y.natAbs = M := ⟨_, rfl⟩
  obtain ⟨r, hr⟩ : ∃ r : Rat, Rat.divInt (iv s (val (dg M))) (iv s' (val (dg M'))) = r := ⟨_, rfl⟩
  have hv : iv s (val (dg M)) = x := by rw [val_dg]; exact iv_eq hs hM
  have hv' : iv s' (val (dg M')) = y := by rw [val_dg]; exact iv_eq hs' hM'
  have e1 : Rat.divInt x y = r := by rw [← hr, hv, hv']
  have h0 : val (dg M') ≠ 0 := by rw [val_dg]; omega
  have hl : (dg M).length ≤ 2 := dg_len_le (by have : pB 2 = 18446744073709551616 := rfl; omega)
  have hl' : (dg M').length ≤ 2 := dg_len_le (by have : pB 2 = 18446744073709551616 := rfl; omega)
  rw [e1]
  have HS := Lib.hid hs
  have HM := Lib.hid hM
  have HS' := Lib.hid hs'
  have HM' := Lib.hid hM'
  have HR := Lib.hid hr
  have H0 := Lib.hid h0
  clear hs hM hs' hM' hr hv hv' e1 h0 _hn
  go_enter Tryz.func45, Tryz.ntmps45
  go_wp2_with fail
  have hw : Fr [] w (w.alloc (Obj.cells #[.bool false, .slice none 0 0, .slice none 0 0] 26)) := (Fr.refl _ _).alloc _
  have r0 : Bx (w.alloc (Obj.cells #[.bool false, .slice none 0 0, .slice none 0 0] 26)) w.heap.size 26 #[.bool false, .slice none 0 0, .slice none 0 0] := (Bx.made' (by simp) _ _).kept (Fr.refl _ _)
  generalize (w.alloc (Obj.cells #[.bool false, .slice none 0 0, .slice none 0 0] 26)) = W at *
  have hbs := r0.lt
  replace ht := ht.kept hw
  have c_r0_0 := r0.cell (j := 0) rfl
  have f_r0_0 := r0.free 0
  have c_r0_1 := r0.cell (j := 1) rfl
  have f_r0_1 := r0.free 1
  have c_r0_2 := r0.cell (j := 2) rfl
  have f_r0_2 := r0.free 2
  go_wp2_with fail
  clear c_r0_0 f_r0_0 c_r0_1 f_r0_1 c_r0_2 f_r0_2
  refine (calls_ri (b := s) (m := M) (of_any x _ (by omega) (by omega)) HS.out HM.out).mono ?_
  rintro e V1 ⟨p1, c1, rfl, o1, ff⟩
  have hsz1 := ff.size
  replace hw := hw.trans ff (by simp)
  replace r0 := r0.kept ff
  replace ht := ht.kept ff
  clear ff
  have c_r0_0 := r0.cell (j := 0) rfl
  have f_r0_0 := r0.free 0
  have c_r0_1 := r0.cell (j := 1) rfl
  have f_r0_1 := r0.free 1
  have c_r0_2 := r0.cell (j := 2) rfl
  have f_r0_2 := r0.free 2
  go_wp2_with fail
  clear c_r0_0 f_r0_0 c_r0_1 f_r0_1 c_r0_2 f_r0_2
  refine (calls_ri (b := s') (m := M') (of_any y _ (by omega) (by omega)) HS'.out HM'.out).mono ?_
  rintro e V2 ⟨p2, c2, rfl, o2, ff⟩
  have hsz2 := ff.size
  replace hw := hw.trans ff (by simp)
  replace o1 := o1.kept ff
  replace r0 := r0.kept ff
  replace ht := ht.kept ff
  clear ff
  have c_r0_0 := r0.cell (j := 0) rfl
  have f_r0_0 := r0.free 0
  have c_r0_1 := r0.cell (j := 1) rfl
  have f_r0_1 := r0.free 1
  have c_r0_2 := r0.cell (j := 2) rfl
  have f_r0_2 := r0.free 2
  go_wp2_with fail
  clear c_r0_0 f_r0_0 c_r0_1 f_r0_1 c_r0_2 f_r0_2
  have hmk := make_any s s' _ _ _ _ _ _ (dg M) (dg M') _ ht o1.sl o2.sl (by omega) (by omega) H0.out
  rw [HR.out] at hmk
  refine (hmk).mono ?_
  rintro e V3 ⟨p3, c3, q3, d3, rfl, o3, o4, ff⟩
  have hsz3 := ff.size
  replace hw := hw.trans ff (by simp)
  replace o1 := o1.kept ff
  replace o2 := o2.kept ff
  replace r0 := r0.kept ff
  replace ht := ht.kept ff
  clear ff
  clear hmk
  have hal : Fr [] V3 (V3.alloc (Obj.cells #[.bool (decide (r.num < 0)), .slice p3 (dg r.num.natAbs).length c3, .slice q3 (dg r.den).length d3] 26)) := (Fr.refl _ _).alloc _
  have c_r0_0 := (r0.kept hal).cell (j := 0) rfl
  have f_r0_0 := (r0.kept hal).free 0
  have c_r0_1 := (r0.kept hal).cell (j := 1) rfl
  have f_r0_1 := (r0.kept hal).free 1
  have c_r0_2 := (r0.kept hal).cell (j := 2) rfl
  have f_r0_2 := (r0.kept hal).free 2
  have q0 : Bx (V3.alloc (Obj.cells #[.bool (decide (r.num < 0)), .slice p3 (dg r.num.natAbs).length c3, .slice q3 (dg r.den).length d3] 26)) V3.heap.size 26 #[.bool (decide (r.num < 0)), .slice p3 (dg r.num.natAbs).length c3, .slice q3 (dg r.den).length d3] := (Bx.made' (by simp) _ _).kept (Fr.refl _ _)
  have c_q0_0 := q0.cell (j := 0) rfl
  have c_q0_1 := q0.cell (j := 1) rfl
  have c_q0_2 := q0.cell (j := 2) rfl
  go_wp2_with fail
  clear c_r0_0 f_r0_0 c_r0_1 f_r0_1 c_r0_2 f_r0_2 c_q0_0 c_q0_1 c_q0_2
  replace hw := hw.trans hal (by simp)
  replace o1 := o1.kept hal
  replace o2 := o2.kept hal
  replace o3 := o3.kept hal
  replace o4 := o4.kept hal
  replace r0 := r0.kept hal
  replace ht := ht.kept hal
  have hsX4 := hal.size
  clear hal
  generalize (V3.alloc (Obj.cells #[.bool (decide (r.num < 0)), .slice p3 (dg r.num.natAbs).length c3, .slice q3 (dg r.den).length d3] 26)) = X4 at *
  exact fin3 r0 hw (by omega) rfl (fun W' c0 c1 c2 => by simp [results, Tryz.results45, go_sem, c0, c1, c2]) (fun W' fb fw => ⟨p3, c3, q3, d3, rfl, (o3.far fb (by omega)).mono (by omega), (o4.far fb (by omega)).mono (by omega), fw⟩)

set_option maxRecDepth 100000 in
set_option maxHeartbeats 1000000 in
theorem frac_zero (x : Int) (w : World) (ht : Tab w) (_hx : -9223372036854775808 ≤ x) (_hx2 : x ≤ 9223372036854775807) :
    Calls Tryz.prog 45 #[.int .i64 x, .int .i64 0] w (RetQ w 0) := by
  obtain ⟨s, hs⟩ : ∃ s, decide (x < 0) = s := ⟨_, rfl⟩
  obtain ⟨M, hM⟩ : ∃ M, x.natAbs = M := ⟨_, rfl⟩
  have hl : (dg M).length ≤ 2 := dg_len_le (by have : pB 2 = 18446744073709551616 := rfl; omega)
  have HS := Lib.hid hs
  have HM := Lib.hid hM
  clear hs hM
  go_enter Tryz.func45, Tryz.ntmps45
  go_wp2_with fail
  have hw : Fr [] w (w.alloc (Obj.cells #[.bool false, .slice none 0 0, .slice none 0 0] 26)) := (Fr.refl _ _).alloc _
  have r0 : Bx (w.alloc (Obj.cells #[.bool false, .slice none 0 0, .slice none 0 0] 26)) w.heap.size 26 #[.bool false, .slice none 0 0, .slice none 0 0] := (Bx.made' (by simp) _ _).kept (Fr.refl _ _)
  generalize (w.alloc (Obj.cells #[.bool false, .slice none 0 0, .slice none 0 0] 26)) = W at *
  have hbs := r0.lt
  replace ht := ht.kept hw
  have c_r0_0 := r0.cell (j := 0) rfl
  have f_r0_0 := r0.free 0
  have c_r0_1 := r0.cell (j := 1) rfl
  have f_r0_1 := r0.free 1
  have c_r0_2 := r0.cell (j := 2) rfl
  have f_r0_2 := r0.free 2
  go_wp2_with fail
  clear c_r0_0 f_r0_0 c_r0_1 f_r0_1 c_r0_2 f_r0_2
  refine (calls_ri (b := s) (m := M) (of_any x _ (by omega) (by omega)) HS.out HM.out).mono ?_
  rintro e V1 ⟨p1, c1, rfl, o1, ff⟩
  have hsz1 := ff.size
  replace hw := hw.trans ff (by simp)
  replace r0 := r0.kept ff
  replace ht := ht.kept ff
  clear ff
  have c_r0_0 := r0.cell (j := 0) rfl
  have f_r0_0 := r0.free 0
  have c_r0_1 := r0.cell (j := 1) rfl
  have f_r0_1 := r0.free 1
  have c_r0_2 := r0.cell (j := 2) rfl
  have f_r0_2 := r0.free 2
  go_wp2_with fail
  clear c_r0_0 f_r0_0 c_r0_1 f_r0_1 c_r0_2 f_r0_2
  refine (calls_ri (b := false) (m := 0) (of_any 0 _ (by omega) (by omega)) (by decide) (by decide)).mono ?_
  rintro e V2 ⟨p2, c2, rfl, o2, ff⟩
  have hsz2 := ff.size
  replace hw := hw.trans ff (by simp)
  replace o1 := o1.kept ff
  replace r0 := r0.kept ff
  replace ht := ht.kept ff
  clear ff
  have c_r0_0 := r0.cell (j := 0) rfl
  have f_r0_0 := r0.free 0
  have c_r0_1 := r0.cell (j := 1) rfl
  have f_r0_1 := r0.free 1
  have c_r0_2 := r0.cell (j := 2) rfl
  have f_r0_2 := r0.free 2
  go_wp2_with fail
  clear c_r0_0 f_r0_0 c_r0_1 f_r0_1 c_r0_2 f_r0_2
  refine (make_zero s false _ _ _ _ _ _ (dg M) (dg 0) _ ht o1.sl o2.sl (by omega) (by rw [dg_zero]; decide) (by rw [val_dg])).mono ?_
  rintro e V3 ⟨rfl, ff⟩
  have hsz3 := ff.size
  replace hw := hw.trans ff (by simp)
  replace o1 := o1.kept ff
  replace o2 := o2.kept ff
  replace r0 := r0.kept ff
  replace ht := ht.kept ff
  clear ff
  have hal : Fr [] V3 (V3.alloc (Obj.cells #[.bool false, .slice none 0 0, .slice none 0 0] 26)) := (Fr.refl _ _).alloc _
  have c_r0_0 := (r0.kept hal).cell (j := 0) rfl
  have f_r0_0 := (r0.kept hal).free 0
  have c_r0_1 := (r0.kept hal).cell (j := 1) rfl
  have f_r0_1 := (r0.kept hal).free 1
  have c_r0_2 := (r0.kept hal).cell (j := 2) rfl
  have f_r0_2 := (r0.kept hal).free 2
  have q0 : Bx (V3.alloc (Obj.cells #[.bool false, .slice none 0 0, .slice none 0 0] 26)) V3.heap.size 26 #[.bool false, .slice none 0 0, .slice none 0 0] := (Bx.made' (by simp) _ _).kept (Fr.refl _ _)
  have c_q0_0 := q0.cell (j := 0) rfl
  have c_q0_1 := q0.cell (j := 1) rfl
  have c_q0_2 := q0.cell (j := 2) rfl
  go_wp2_with fail
  clear c_r0_0 f_r0_0 c_r0_1 f_r0_1 c_r0_2 f_r0_2 c_q0_0 c_q0_1 c_q0_2
  replace hw := hw.trans hal (by simp)
  replace o1 := o1.kept hal
  replace o2 := o2.kept hal
  replace r0 := r0.kept hal
  replace ht := ht.kept hal
  have hsX4 := hal.size
  clear hal
  generalize (V3.alloc (Obj.cells #[.bool false, .slice none 0 0, .slice none 0 0] 26)) = X4 at *
  refine (of_q 0 _ ht (by decide) (by decide)).mono ?_
  rintro e V5 ⟨p3, c3, q3, d3, rfl, o3, o4, ff⟩
  have hsz5 := ff.size
  replace hw := hw.trans ff (by simp)
  replace o1 := o1.kept ff
  replace o2 := o2.kept ff
  replace r0 := r0.kept ff
  replace q0 := q0.kept ff
  replace ht := ht.kept ff
  clear ff
  have c_r0_0 := r0.cell (j := 0) rfl
  have f_r0_0 := r0.free 0
  have c_r0_1 := r0.cell (j := 1) rfl
  have f_r0_1 := r0.free 1
  have c_r0_2 := r0.cell (j := 2) rfl
  have f_r0_2 := r0.free 2
  have c_q0_0 := q0.cell (j := 0) rfl
  have f_q0_0 := q0.free 0
  have c_q0_1 := q0.cell (j := 1) rfl
  have f_q0_1 := q0.free 1
  have c_q0_2 := q0.cell (j := 2) rfl
  have f_q0_2 := q0.free 2
  go_wp2_with fail
  exact fin3 r0 hw (by omega) rfl (fun W' c0 c1 c2 => by simp [results, Tryz.results45, go_sem, c0, c1, c2]) (fun W' fb fw => ⟨p3, c3, q3, d3, rfl, (o3.far fb (by omega)).mono (by omega), (o4.far fb (by omega)).mono (by omega), fw⟩)

theorem frac_any (x y : Int) (w : World) (ht : Tab w) (hx : -9223372036854775808 ≤ x) (hx2 : x ≤ 9223372036854775807) (hy : -9223372036854775808 ≤ y) (hy2 : y ≤ 9223372036854775807) :
    Calls Tryz.prog 45 #[.int .i64 x, .int .i64 y] w (RetQ w (Rat.divInt x y)) := by
  by_cases h : y = 0
  · subst h
    rw [Rat.divInt_zero]
    exact frac_zero x w ht hx hx2
  · exact frac_ne x y w ht hx hx2 hy hy2 h

end Go.Proofs.YtjjdbhohjphcoaaGreatDoor
