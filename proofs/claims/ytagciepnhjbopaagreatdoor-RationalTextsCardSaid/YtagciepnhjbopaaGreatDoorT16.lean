/- What the statements of this claim stand on: of Int6, Int7, what they name -/
import Derived.Test.YtagciepnhjbopaaGreatDoorT14
import Derived.Test.YtagciepnhjbopaaGreatDoorT15

namespace Go.Proofs.YtagciepnhjbopaaGreatDoor
open Go.RowKit

set_option maxRecDepth 100000 in
set_option maxHeartbeats 2000000 in
theorem radd_less_true (g h : Bool) (p q : Option Addr) (n c m d : Nat) (xs ys : List Nat) (w : World) (h1 : Sl w p n c xs) (h2 : Sl w q m d ys) (_hn : n ≤ 1048576) (_hm : m ≤ 1048576) (ha : decide (iv g (val xs) < 0) = true) (hb : decide (iv h (val ys) < 0) = false) (hl : val xs < val ys) :
    Calls Tryz.prog 118 #[iw g p n c, iw h q m d] w (RetI w (iv g (val xs) + iv h (val ys))) := by
  have l1 := dg_len_val h1.dig
  have l2 := dg_len_val h2.dig
  rw [h1.len] at l1
  rw [h2.len] at l2
  have l3 : (dg (val (dg (val ys)) - val (dg (val xs)))).length ≤ 2097153 := by rw [val_dg, val_dg]; have := dg_len_mono (m := val ys - val xs) (n := val ys) (Nat.sub_le _ _); omega
  have e0 : iv g (val xs) + iv h (val ys) = iv false (val (dg (val ys)) - val (dg (val xs))) := by exact r_less ha hb rfl hl
  have E0 := Lib.hid e0
  clear e0
  have hsg : decide (iv false (val (dg (val (dg (val ys)) - val (dg (val xs))))) < 0) = decide (iv false (val (dg (val ys)) - val (dg (val xs))) < 0) := by rw [val_dg]
  have HSG := Lib.hid hsg
  clear hsg
  have HC : Hid (decide (cmpN (val xs) (val ys) ≥ 0) = false) := by rw [cmpN_lt hl]; rfl
  go_enter Tryz.func118, Tryz.ntmps118
  go_wp2_with fail
  have g_h1 := h1
  have g_h2 := h2
  have hw : Fr [] w (((w.alloc (Obj.cells #[.bool g, .slice p n c] 24)).alloc (Obj.cells #[.bool h, .slice q m d] 24)).alloc (Obj.cells #[.bool false, .slice none 0 0] 24)) := (((Fr.refl _ _).alloc _).alloc _).alloc _
  have b0 : Bx (((w.alloc (Obj.cells #[.bool g, .slice p n c] 24)).alloc (Obj.cells #[.bool h, .slice q m d] 24)).alloc (Obj.cells #[.bool false, .slice none 0 0] 24)) w.heap.size 24 #[.bool g, .slice p n c] := (Bx.made' (by simp) _ _).kept (((Fr.refl _ _).alloc _).alloc _)
  have b1 : Bx (((w.alloc (Obj.cells #[.bool g, .slice p n c] 24)).alloc (Obj.cells #[.bool h, .slice q m d] 24)).alloc (Obj.cells #[.bool false, .slice none 0 0] 24)) (w.heap.size + 1) 24 #[.bool h, .slice q m d] := (Bx.made' (by simp) _ _).kept ((Fr.refl _ _).alloc _)
  have r0 : Bx (((w.alloc (Obj.cells #[.bool g, .slice p n c] 24)).alloc (Obj.cells #[.bool h, .slice q m d] 24)).alloc (Obj.cells #[.bool false, .slice none 0 0] 24)) (w.heap.size + 2) 24 #[.bool false, .slice none 0 0] := (Bx.made' (by simp) _ _).kept (Fr.refl _ _)
  generalize (((w.alloc (Obj.cells #[.bool g, .slice p n c] 24)).alloc (Obj.cells #[.bool h, .slice q m d] 24)).alloc (Obj.cells #[.bool false, .slice none 0 0] 24)) = W at *
  have hbs := r0.lt
  replace h1 := h1.kept hw
  replace h2 := h2.kept hw
  go_upto_region 1 with fail
  go_cut [] (fun wx => ∃ (p1 p2 : Option Addr) (cc1 cc2 : Nat), Fr [] w wx ∧ W.heap.size ≤ wx.heap.size ∧ Bx wx w.heap.size 24 #[.bool true, .slice p1 (dg (val xs)).length cc1] ∧ Bx wx (w.heap.size + 1) 24 #[.bool false, .slice p2 (dg (val ys)).length cc2] ∧ Ow wx W.heap.size p1 (dg (val xs)).length cc1 (dg (val xs)) ∧ Ow wx W.heap.size p2 (dg (val ys)).length cc2 (dg (val ys)) ∧ Bx wx (w.heap.size + 2) 24 #[.bool false, .slice none 0 0])
  case first =>
    have HW := (Fr.refl [] W).drew
    have hsw := HW.size
    have c_b0_0 := b0.cell (j := 0) rfl
    have z_b0_0 := b0.free 0
    have c_b0_1 := b0.cell (j := 1) rfl
    have z_b0_1 := b0.free 1
    have c_b1_0 := b1.cell (j := 0) rfl
    have z_b1_0 := b1.free 0
    have c_b1_1 := b1.cell (j := 1) rfl
    have z_b1_1 := b1.free 1
    go_region_with (first
      | (go_at_call 142; (with_reducible refine (calls_ri (rtrim_any g p n c xs _ (h1.kept HW) (by omega)) ha (iv_abs _ _)).mono ?_); rintro e U1 ⟨p1, cc1, rfl, o1, ff⟩; replace HW := HW.trans ff (by simp); have c_b0_0 := (b0.kept HW).cell (j := 0) rfl; have z_b0_0 := (b0.kept HW).free 0; have c_b0_1 := (b0.kept HW).cell (j := 1) rfl; have z_b0_1 := (b0.kept HW).free 1; have c_b1_0 := (b1.kept HW).cell (j := 0) rfl; have z_b1_0 := (b1.kept HW).free 0; have c_b1_1 := (b1.kept HW).cell (j := 1) rfl; have z_b1_1 := (b1.kept HW).free 1; have hs1 := HW.size; clear ff)
      | (go_at_call 142; (with_reducible refine (calls_ri (rtrim_any h q m d ys _ (h2.kept HW) (by omega)) hb (iv_abs _ _)).mono ?_); rintro e U2 ⟨p2, cc2, rfl, o2, ff⟩; replace HW := HW.trans ff (by simp); have c_b0_0 := (b0.kept HW).cell (j := 0) rfl; have z_b0_0 := (b0.kept HW).free 0; have c_b0_1 := (b0.kept HW).cell (j := 1) rfl; have z_b0_1 := (b0.kept HW).free 1; have c_b1_0 := (b1.kept HW).cell (j := 0) rfl; have z_b1_0 := (b1.kept HW).free 0; have c_b1_1 := (b1.kept HW).cell (j := 1) rfl; have z_b1_1 := (b1.kept HW).free 1; replace o1 := o1.kept ff; have hs2 := HW.size; clear ff))
    all_goals
      go_wp2_with fail
      go_meet
      exact ⟨p1, p2, cc1, cc2, ((hw.trans HW (by simp)).set2 (b := w.heap.size) (by omega) _ _).set2 (b := w.heap.size + 1) (by omega) _ _, (by rw [set2_size, set2_size]; exact HW.size), ((b0.kept HW).set2 _ _).far (b := w.heap.size + 1) (by omega) _ _, ((b1.kept HW).far (b := w.heap.size) (by omega) _ _).set2 _ _, ((o1.mono (by omega)).set2 (b := w.heap.size) (by omega) _ _).set2 (b := w.heap.size + 1) (by omega) _ _, ((o2.mono (by omega)).set2 (b := w.heap.size) (by omega) _ _).set2 (b := w.heap.size + 1) (by omega) _ _, ((r0.kept HW).far (b := w.heap.size) (by omega) _ _).far (b := w.heap.size + 1) (by omega) _ _⟩
  case rest =>
    obtain ⟨p1, p2, cc1, cc2, hw, hsz, b0, b1, o1, o2, r0⟩ := hcut
    have c_b0_0 := b0.cell (j := 0) rfl
    have f_b0_0 := b0.free 0
    have c_b0_1 := b0.cell (j := 1) rfl
    have f_b0_1 := b0.free 1
    have c_b1_0 := b1.cell (j := 0) rfl
    have f_b1_0 := b1.free 0
    have c_b1_1 := b1.cell (j := 1) rfl
    have f_b1_1 := b1.free 1
    have c_r0_0 := r0.cell (j := 0) rfl
    have f_r0_0 := r0.free 0
    have c_r0_1 := r0.cell (j := 1) rfl
    have f_r0_1 := r0.free 1
    go_wp2_with fail
    clear c_b0_0 f_b0_0 c_b0_1 f_b0_1 c_b1_0 f_b1_0 c_b1_1 f_b1_1 c_r0_0 f_r0_0 c_r0_1 f_r0_1
    refine (rcompare_any _ _ _ _ _ _ _ _ _ o1.sl o2.sl (by omega) (by omega)).mono ?_
    rw [val_dg, val_dg]
    rintro e V11 ⟨rfl, ff⟩
    have hsz11 := ff.size
    replace hw := hw.trans ff (by simp)
    replace o1 := o1.kept ff
    replace o2 := o2.kept ff
    replace b0 := b0.kept ff
    replace b1 := b1.kept ff
    replace r0 := r0.kept ff
    clear ff
    have hc := HC.out
    have c_b0_0 := b0.cell (j := 0) rfl
    have f_b0_0 := b0.free 0
    have c_b0_1 := b0.cell (j := 1) rfl
    have f_b0_1 := b0.free 1
    have c_b1_0 := b1.cell (j := 0) rfl
    have f_b1_0 := b1.free 0
    have c_b1_1 := b1.cell (j := 1) rfl
    have f_b1_1 := b1.free 1
    have c_r0_0 := r0.cell (j := 0) rfl
    have f_r0_0 := r0.free 0
    have c_r0_1 := r0.cell (j := 1) rfl
    have f_r0_1 := r0.free 1
    go_wp2_with fail
    clear c_b0_0 f_b0_0 c_b0_1 f_b0_1 c_b1_0 f_b1_0 c_b1_1 f_b1_1 c_r0_0 f_r0_0 c_r0_1 f_r0_1
    clear hc
    have c0 := b1.cell (j := 0) rfl
    have c1 := b1.cell (j := 1) rfl
    have c2 := b0.cell (j := 1) rfl
    go_region_held3 (fun w' => w'.cell? ⟨w.heap.size + 1, 0, none⟩ = some (.bool false) ∧ w'.cell? ⟨w.heap.size + 1, 1, none⟩ = some (.slice p2 (dg (val ys)).length cc2) ∧ w'.cell? ⟨w.heap.size, 1, none⟩ = some (.slice p1 (dg (val xs)).length cc1)) (first | exact ⟨k0, k1, k2⟩ | exact ⟨c0, c1, c2⟩ | exact ⟨(set2_far (by omega)).trans k0, (set2_far (by omega)).trans k1, (set2_far (by omega)).trans k2⟩)
      (first
      | (go_at_call 169; (with_reducible refine (rsub_any _ _ _ _ _ _ (dg (val ys)) (dg (val xs)) _ (o2.sl.kept (Fr.refl _ _).drew) (o1.sl.kept (Fr.refl _ _).drew) (by omega) (by omega)).mono ?_); rintro e V12 ⟨p3, cc3, rfl, o3, ff1⟩; have hf1 : Fr [] V11 V12 := ((Fr.refl [] V11).drew).trans ff1 (by simp); have hsz12 := hf1.size; have k0 := (b1.kept hf1).cell (j := 0) rfl; have k1 := (b1.kept hf1).cell (j := 1) rfl; have k2 := (b0.kept hf1).cell (j := 1) rfl)
      | (go_at_call 142; (with_reducible refine (calls_ri (rtrim_any _ _ _ _ _ _ o3.sl (by omega)) HSG.out (by rw [iv_abs, val_dg])).mono ?_); rintro e V13 ⟨p4, cc4, rfl, o4, ff2⟩; have hf2 : Fr [] V11 V13 := (hf1).trans ff2 (by simp); have hsz13 := hf2.size; have k0 := (b1.kept hf2).cell (j := 0) rfl; have k1 := (b1.kept hf2).cell (j := 1) rfl; have k2 := (b0.kept hf2).cell (j := 1) rfl; have o3 := o3.kept ff2; have hw2 := hw.trans hf2 (by simp); have n_b0 := b0.kept hf2; have m_b0_0 := n_b0.cell (j := 0) rfl; have q_b0_0 := n_b0.free 0; have m_b0_1 := n_b0.cell (j := 1) rfl; have q_b0_1 := n_b0.free 1; have n_b1 := b1.kept hf2; have m_b1_0 := n_b1.cell (j := 0) rfl; have q_b1_0 := n_b1.free 0; have m_b1_1 := n_b1.cell (j := 1) rfl; have q_b1_1 := n_b1.free 1; have n_r0 := r0.kept hf2; have m_r0_0 := n_r0.cell (j := 0) rfl; have q_r0_0 := n_r0.free 0; have m_r0_1 := n_r0.cell (j := 1) rfl; have q_r0_1 := n_r0.free 1))
    go_wp2
    exact fin_ret n_r0 hw2 o4 (by omega) (by omega) rfl (by rw [E0.out, iv_abs]) (by rw [E0.out]) (fun W' c0 c1 => by simp [results, Tryz.results118, go_sem, c0, c1])

set_option maxRecDepth 100000 in
set_option maxHeartbeats 2000000 in
theorem radd_more_true (g h : Bool) (p q : Option Addr) (n c m d : Nat) (xs ys : List Nat) (w : World) (h1 : Sl w p n c xs) (h2 : Sl w q m d ys) (_hn : n ≤ 1048576) (_hm : m ≤ 1048576) (ha : decide (iv g (val xs) < 0) = true) (hb : decide (iv h (val ys) < 0) = false) (hl : val ys ≤ val xs) :
    Calls Tryz.prog 118 #[iw g p n c, iw h q m d] w (RetI w (iv g (val xs) + iv h (val ys))) := by
  have l1 := dg_len_val h1.dig
  have l2 := dg_len_val h2.dig
  rw [h1.len] at l1
  rw [h2.len] at l2
  have l3 : (dg (val (dg (val xs)) - val (dg (val ys)))).length ≤ 2097153 := by rw [val_dg, val_dg]; have := dg_len_mono (m := val xs - val ys) (n := val xs) (Nat.sub_le _ _); omega
  have e0 : iv g (val xs) + iv h (val ys) = iv true (val (dg (val xs)) - val (dg (val ys))) := by exact r_more ha hb rfl hl
  have E0 := Lib.hid e0
  clear e0
  have hsg : decide (iv true (val (dg (val (dg (val xs)) - val (dg (val ys))))) < 0) = decide (iv true (val (dg (val xs)) - val (dg (val ys))) < 0) := by rw [val_dg]
  have HSG := Lib.hid hsg
  clear hsg
  have HC : Hid (decide (cmpN (val xs) (val ys) ≥ 0) = true) := cmpN_ge hl
  go_enter Tryz.func118, Tryz.ntmps118
  go_wp2_with fail
  have g_h1 := h1
  have g_h2 := h2
  have hw : Fr [] w (((w.alloc (Obj.cells #[.bool g, .slice p n c] 24)).alloc (Obj.cells #[.bool h, .slice q m d] 24)).alloc (Obj.cells #[.bool false, .slice none 0 0] 24)) := (((Fr.refl _ _).alloc _).alloc _).alloc _
  have b0 : Bx (((w.alloc (Obj.cells #[.bool g, .slice p n c] 24)).alloc (Obj.cells #[.bool h, .slice q m d] 24)).alloc (Obj.cells #[.bool false, .slice none 0 0] 24)) w.heap.size 24 #[.bool g, .slice p n c] := (Bx.made' (by simp) _ _).kept (((Fr.refl _ _).alloc _).alloc _)
  have b1 : Bx (((w.alloc (Obj.cells #[.bool g, .slice p n c] 24)).alloc (Obj.cells #[.bool h, .slice q m d] 24)).alloc (Obj.cells #[.bool false, .slice none 0 0] 24)) (w.heap.size + 1) 24 #[.bool h, .slice q m d] := (Bx.made' (by simp) _ _).kept ((Fr.refl _ _).alloc _)
  have r0 : Bx (((w.alloc (Obj.cells #[.bool g, .slice p n c] 24)).alloc (Obj.cells #[.bool h, .slice q m d] 24)).alloc (Obj.cells #[.bool false, .slice none 0 0] 24)) (w.heap.size + 2) 24 #[.bool false, .slice none 0 0] := (Bx.made' (by simp) _ _).kept (Fr.refl _ _)
  generalize (((w.alloc (Obj.cells #[.bool g, .slice p n c] 24)).alloc (Obj.cells #[.bool h, .slice q m d] 24)).alloc (Obj.cells #[.bool false, .slice none 0 0] 24)) = W at *
  have hbs := r0.lt
  replace h1 := h1.kept hw
  replace h2 := h2.kept hw
  go_upto_region 1 with fail
  go_cut [] (fun wx => ∃ (p1 p2 : Option Addr) (cc1 cc2 : Nat), Fr [] w wx ∧ W.heap.size ≤ wx.heap.size ∧ Bx wx w.heap.size 24 #[.bool true, .slice p1 (dg (val xs)).length cc1] ∧ Bx wx (w.heap.size + 1) 24 #[.bool false, .slice p2 (dg (val ys)).length cc2] ∧ Ow wx W.heap.size p1 (dg (val xs)).length cc1 (dg (val xs)) ∧ Ow wx W.heap.size p2 (dg (val ys)).length cc2 (dg (val ys)) ∧ Bx wx (w.heap.size + 2) 24 #[.bool false, .slice none 0 0])
  case first =>
    have HW := (Fr.refl [] W).drew
    have hsw := HW.size
    have c_b0_0 := b0.cell (j := 0) rfl
    have z_b0_0 := b0.free 0
    have c_b0_1 := b0.cell (j := 1) rfl
    have z_b0_1 := b0.free 1
    have c_b1_0 := b1.cell (j := 0) rfl
    have z_b1_0 := b1.free 0
    have c_b1_1 := b1.cell (j := 1) rfl
    have z_b1_1 := b1.free 1
    go_region_with (first
      | (go_at_call 142; (with_reducible refine (calls_ri (rtrim_any g p n c xs _ (h1.kept HW) (by omega)) ha (iv_abs _ _)).mono ?_); rintro e U1 ⟨p1, cc1, rfl, o1, ff⟩; replace HW := HW.trans ff (by simp); have c_b0_0 := (b0.kept HW).cell (j := 0) rfl; have z_b0_0 := (b0.kept HW).free 0; have c_b0_1 := (b0.kept HW).cell (j := 1) rfl; have z_b0_1 := (b0.kept HW).free 1; have c_b1_0 := (b1.kept HW).cell (j := 0) rfl; have z_b1_0 := (b1.kept HW).free 0; have c_b1_1 := (b1.kept HW).cell (j := 1) rfl; have z_b1_1 := (b1.kept HW).free 1; have hs1 := HW.size; clear ff)
      | (go_at_call 142; (with_reducible refine (calls_ri (rtrim_any h q m d ys _ (h2.kept HW) (by omega)) hb (iv_abs _ _)).mono ?_); rintro e U2 ⟨p2, cc2, rfl, o2, ff⟩; replace HW := HW.trans ff (by simp); have c_b0_0 := (b0.kept HW).cell (j := 0) rfl; have z_b0_0 := (b0.kept HW).free 0; have c_b0_1 := (b0.kept HW).cell (j := 1) rfl; have z_b0_1 := (b0.kept HW).free 1; have c_b1_0 := (b1.kept HW).cell (j := 0) rfl; have z_b1_0 := (b1.kept HW).free 0; have c_b1_1 := (b1.kept HW).cell (j := 1) rfl; have z_b1_1 := (b1.kept HW).free 1; replace o1 := o1.kept ff; have hs2 := HW.size; clear ff))
    all_goals
      go_wp2_with fail
      go_meet
      exact ⟨p1, p2, cc1, cc2, ((hw.trans HW (by simp)).set2 (b := w.heap.size) (by omega) _ _).set2 (b := w.heap.size + 1) (by omega) _ _, (by rw [set2_size, set2_size]; exact HW.size), ((b0.kept HW).set2 _ _).far (b := w.heap.size + 1) (by omega) _ _, ((b1.kept HW).far (b := w.heap.size) (by omega) _ _).set2 _ _, ((o1.mono (by omega)).set2 (b := w.heap.size) (by omega) _ _).set2 (b := w.heap.size + 1) (by omega) _ _, ((o2.mono (by omega)).set2 (b := w.heap.size) (by omega) _ _).set2 (b := w.heap.size + 1) (by omega) _ _, ((r0.kept HW).far (b := w.heap.size) (by omega) _ _).far (b := w.heap.size + 1) (by omega) _ _⟩
  case rest =>
    obtain ⟨p1, p2, cc1, cc2, hw, hsz, b0, b1, o1, o2, r0⟩ := hcut
    have c_b0_0 := b0.cell (j := 0) rfl
    have f_b0_0 := b0.free 0
    have c_b0_1 := b0.cell (j := 1) rfl
    have f_b0_1 := b0.free 1
    have c_b1_0 := b1.cell (j := 0) rfl
    have f_b1_0 := b1.free 0
    have c_b1_1 := b1.cell (j := 1) rfl
    have f_b1_1 := b1.free 1
    have c_r0_0 := r0.cell (j := 0) rfl
    have f_r0_0 := r0.free 0
    have c_r0_1 := r0.cell (j := 1) rfl
    have f_r0_1 := r0.free 1
    go_wp2_with fail
    clear c_b0_0 f_b0_0 c_b0_1 f_b0_1 c_b1_0 f_b1_0 c_b1_1 f_b1_1 c_r0_0 f_r0_0 c_r0_1 f_r0_1
    refine (rcompare_any _ _ _ _ _ _ _ _ _ o1.sl o2.sl (by omega) (by omega)).mono ?_
    rw [val_dg, val_dg]
    rintro e V11 ⟨rfl, ff⟩
    have hsz11 := ff.size
    replace hw := hw.trans ff (by simp)
    replace o1 := o1.kept ff
    replace o2 := o2.kept ff
    replace b0 := b0.kept ff
    replace b1 := b1.kept ff
    replace r0 := r0.kept ff
    clear ff
    have hc := HC.out
    have c_b0_0 := b0.cell (j := 0) rfl
    have f_b0_0 := b0.free 0
    have c_b0_1 := b0.cell (j := 1) rfl
    have f_b0_1 := b0.free 1
    have c_b1_0 := b1.cell (j := 0) rfl
    have f_b1_0 := b1.free 0
    have c_b1_1 := b1.cell (j := 1) rfl
    have f_b1_1 := b1.free 1
    have c_r0_0 := r0.cell (j := 0) rfl
    have f_r0_0 := r0.free 0
    have c_r0_1 := r0.cell (j := 1) rfl
    have f_r0_1 := r0.free 1
    go_wp2_with fail
    clear c_b0_0 f_b0_0 c_b0_1 f_b0_1 c_b1_0 f_b1_0 c_b1_1 f_b1_1 c_r0_0 f_r0_0 c_r0_1 f_r0_1
    clear hc
    have c0 := b0.cell (j := 0) rfl
    have c1 := b0.cell (j := 1) rfl
    have c2 := b1.cell (j := 1) rfl
    go_region_held3 (fun w' => w'.cell? ⟨w.heap.size, 0, none⟩ = some (.bool true) ∧ w'.cell? ⟨w.heap.size, 1, none⟩ = some (.slice p1 (dg (val xs)).length cc1) ∧ w'.cell? ⟨w.heap.size + 1, 1, none⟩ = some (.slice p2 (dg (val ys)).length cc2)) (first | exact ⟨k0, k1, k2⟩ | exact ⟨c0, c1, c2⟩ | exact ⟨(set2_far (by omega)).trans k0, (set2_far (by omega)).trans k1, (set2_far (by omega)).trans k2⟩)
      (first
      | (go_at_call 169; (with_reducible refine (rsub_any _ _ _ _ _ _ (dg (val xs)) (dg (val ys)) _ (o1.sl.kept (Fr.refl _ _).drew) (o2.sl.kept (Fr.refl _ _).drew) (by omega) (by omega)).mono ?_); rintro e V12 ⟨p3, cc3, rfl, o3, ff1⟩; have hf1 : Fr [] V11 V12 := ((Fr.refl [] V11).drew).trans ff1 (by simp); have hsz12 := hf1.size; have k0 := (b0.kept hf1).cell (j := 0) rfl; have k1 := (b0.kept hf1).cell (j := 1) rfl; have k2 := (b1.kept hf1).cell (j := 1) rfl)
      | (go_at_call 142; (with_reducible refine (calls_ri (rtrim_any _ _ _ _ _ _ o3.sl (by omega)) HSG.out (by rw [iv_abs, val_dg])).mono ?_); rintro e V13 ⟨p4, cc4, rfl, o4, ff2⟩; have hf2 : Fr [] V11 V13 := (hf1).trans ff2 (by simp); have hsz13 := hf2.size; have k0 := (b0.kept hf2).cell (j := 0) rfl; have k1 := (b0.kept hf2).cell (j := 1) rfl; have k2 := (b1.kept hf2).cell (j := 1) rfl; have o3 := o3.kept ff2; have hw2 := hw.trans hf2 (by simp); have n_b0 := b0.kept hf2; have m_b0_0 := n_b0.cell (j := 0) rfl; have q_b0_0 := n_b0.free 0; have m_b0_1 := n_b0.cell (j := 1) rfl; have q_b0_1 := n_b0.free 1; have n_b1 := b1.kept hf2; have m_b1_0 := n_b1.cell (j := 0) rfl; have q_b1_0 := n_b1.free 0; have m_b1_1 := n_b1.cell (j := 1) rfl; have q_b1_1 := n_b1.free 1; have n_r0 := r0.kept hf2; have m_r0_0 := n_r0.cell (j := 0) rfl; have q_r0_0 := n_r0.free 0; have m_r0_1 := n_r0.cell (j := 1) rfl; have q_r0_1 := n_r0.free 1))
    go_wp2
    exact fin_ret n_r0 hw2 o4 (by omega) (by omega) rfl (by rw [E0.out, iv_abs]) (by rw [E0.out]) (fun W' c0 c1 => by simp [results, Tryz.results118, go_sem, c0, c1])

end Go.Proofs.YtagciepnhjbopaaGreatDoor

namespace Go.Proofs.YtagciepnhjbopaaGreatDoor
open Go.RowKit

theorem iv_eq {z : Int} {s : Bool} {m : Nat} (hs : decide (z < 0) = s) (hm : z.natAbs = m) : iv s m = z := by
  have := iv_val_dg z
  rw [val_dg, hs, hm] at this
  exact this

theorem iv_mul (g h : Bool) (a b : Nat) : iv g a * iv h b = iv (g != h) (a * b) := by
  cases g <;> cases h <;> simp [iv, Int.neg_mul, Int.mul_neg]

theorem cmpZ_sign (g h : Bool) (a b : Nat) : cmpZ (iv g a) (iv h b) = (iv g a - iv h b).sign := by
  generalize iv g a = x
  generalize iv h b = y
  unfold cmpZ
  by_cases h : x < y
  · rw [if_pos h, Int.sign_eq_neg_one_of_neg (by omega)]
  · by_cases h2 : y < x
    · rw [if_neg h, if_pos h2, Int.sign_eq_one_of_pos (by omega)]
    · rw [if_neg h, if_neg h2]
      have : x - y = 0 := by omega
      rw [this]; rfl

theorem sub_len (g h : Bool) {w : World} {p q : Option Addr} {n c m d : Nat} {xs ys : List Nat} (h1 : Sl w p n c xs) (h2 : Sl w q m d ys) (_hn : n ≤ 524287) (_hm : m ≤ 524287) : (dg (iv g (val xs) - iv h (val ys)).natAbs).length ≤ 1048576 := by
  have l1 := dg_len_val h1.dig
  have l2 := dg_len_val h2.dig
  rw [h1.len] at l1
  rw [h2.len] at l2
  have l3 := dg_add_len (val xs) (val ys)
  have hle : (iv g (val xs) - iv h (val ys)).natAbs ≤ val xs + val ys := by
    have e1 := iv_abs g (val xs)
    have e2 := iv_abs h (val ys)
    omega
  have := dg_len_mono hle
  omega

theorem radd_i (g h : Bool) (p q : Option Addr) (n c m d : Nat) (xs ys : List Nat) (w : World) (h1 : Sl w p n c xs) (h2 : Sl w q m d ys) (hn : n ≤ 1048576) (hm : m ≤ 1048576) :
    Calls Tryz.prog 118 #[iw g p n c, iw h q m d] w (RetI w (iv g (val xs) + iv h (val ys))) := by
  cases ha : decide (iv g (val xs) < 0) <;> cases hb : decide (iv h (val ys) < 0)
  · exact radd_same_false g h p q n c m d xs ys w h1 h2 hn hm ha hb
  · by_cases hl : val xs < val ys
    · exact radd_less_false g h p q n c m d xs ys w h1 h2 hn hm ha hb hl
    · exact radd_more_false g h p q n c m d xs ys w h1 h2 hn hm ha hb (by omega)
  · by_cases hl : val xs < val ys
    · exact radd_less_true g h p q n c m d xs ys w h1 h2 hn hm ha hb hl
    · exact radd_more_true g h p q n c m d xs ys w h1 h2 hn hm ha hb (by omega)
  · exact radd_same_true g h p q n c m d xs ys w h1 h2 hn hm ha hb

set_option maxRecDepth 100000 in
set_option maxHeartbeats 2000000 in
theorem rmul_i (g h : Bool) (p q : Option Addr) (n c m d : Nat) (xs ys : List Nat) (w : World) (h1 : Sl w p n c xs) (h2 : Sl w q m d ys) (_hn : n ≤ 1048576) (_hm : m ≤ 1048576) :
    Calls Tryz.prog 103 #[iw g p n c, iw h q m d] w (RetI w (iv g (val xs) * iv h (val ys))) := by
  have l3 := dg_mul_len (val xs) (val ys)
  have l1 := dg_len_val h1.dig
  have l2 := dg_len_val h2.dig
  rw [h1.len] at l1
  rw [h2.len] at l2
  have hiv : iv (!(g == h)) (val (dg (val xs * val ys))) = iv g (val xs) * iv h (val ys) := by
    rw [val_dg, iv_mul]; rfl
  have HIV := Lib.hid hiv
  clear hiv
  go_enter Tryz.func103, Tryz.ntmps103
  go_wp2_with fail
  have g_h1 := h1
  have g_h2 := h2
  have hw : Fr [] w (((w.alloc (Obj.cells #[.bool g, .slice p n c] 24)).alloc (Obj.cells #[.bool h, .slice q m d] 24)).alloc (Obj.cells #[.bool false, .slice none 0 0] 24)) := (((Fr.refl _ _).alloc _).alloc _).alloc _
  have b0 : Bx (((w.alloc (Obj.cells #[.bool g, .slice p n c] 24)).alloc (Obj.cells #[.bool h, .slice q m d] 24)).alloc (Obj.cells #[.bool false, .slice none 0 0] 24)) w.heap.size 24 #[.bool g, .slice p n c] := (Bx.made' (by simp) _ _).kept (((Fr.refl _ _).alloc _).alloc _)
  have b1 : Bx (((w.alloc (Obj.cells #[.bool g, .slice p n c] 24)).alloc (Obj.cells #[.bool h, .slice q m d] 24)).alloc (Obj.cells #[.bool false, .slice none 0 0] 24)) (w.heap.size + 1) 24 #[.bool h, .slice q m d] := (Bx.made' (by simp) _ _).kept ((Fr.refl _ _).alloc _)
  have r0 : Bx (((w.alloc (Obj.cells #[.bool g, .slice p n c] 24)).alloc (Obj.cells #[.bool h, .slice q m d] 24)).alloc (Obj.cells #[.bool false, .slice none 0 0] 24)) (w.heap.size + 2) 24 #[.bool false, .slice none 0 0] := (Bx.made' (by simp) _ _).kept (Fr.refl _ _)
  generalize (((w.alloc (Obj.cells #[.bool g, .slice p n c] 24)).alloc (Obj.cells #[.bool h, .slice q m d] 24)).alloc (Obj.cells #[.bool false, .slice none 0 0] 24)) = W at *
  have hbs := r0.lt
  replace h1 := h1.kept hw
  replace h2 := h2.kept hw
  have c0 := b0.cell (j := 0) rfl
  have c1 := b0.cell (j := 1) rfl
  have c2 := b1.cell (j := 0) rfl
  have c3 := b1.cell (j := 1) rfl
  go_region_held3 (fun w' => w'.cell? ⟨w.heap.size, 0, none⟩ = some (.bool g) ∧ w'.cell? ⟨w.heap.size, 1, none⟩ = some (.slice p n c) ∧ w'.cell? ⟨w.heap.size + 1, 0, none⟩ = some (.bool h) ∧ w'.cell? ⟨w.heap.size + 1, 1, none⟩ = some (.slice q m d)) (first | exact ⟨k0, k1, k2, k3⟩ | exact ⟨c0, c1, c2, c3⟩ | exact ⟨(set2_far (by omega)).trans k0, (set2_far (by omega)).trans k1, (set2_far (by omega)).trans k2, (set2_far (by omega)).trans k3⟩)
    (first
    | (go_at_call 152; (with_reducible refine (rmul_any _ _ _ _ _ _ _ _ _ (h1.kept (Fr.refl _ _).drew) (h2.kept (Fr.refl _ _).drew) (by omega) (by omega)).mono ?_); rintro e V1 ⟨p3, cc3, rfl, o3, ff1⟩; have hf1 : Fr [] W V1 := ((Fr.refl [] W).drew).trans ff1 (by simp); have hsz1 := hf1.size; have k0 := (b0.kept hf1).cell (j := 0) rfl; have k1 := (b0.kept hf1).cell (j := 1) rfl; have k2 := (b1.kept hf1).cell (j := 0) rfl; have k3 := (b1.kept hf1).cell (j := 1) rfl)
    | (go_at_call 142; (with_reducible refine (calls_ri (rtrim_any (!(g == h)) _ _ _ (dg (val xs * val ys)) _ o3.sl (by omega)) (by rw [HIV.out]) (by rw [iv_abs, val_dg])).mono ?_); rintro e V2 ⟨p4, cc4, rfl, o4, ff2⟩; have hf2 : Fr [] W V2 := (hf1).trans ff2 (by simp); have hsz2 := hf2.size; have k0 := (b0.kept hf2).cell (j := 0) rfl; have k1 := (b0.kept hf2).cell (j := 1) rfl; have k2 := (b1.kept hf2).cell (j := 0) rfl; have k3 := (b1.kept hf2).cell (j := 1) rfl; have o3 := o3.kept ff2; have hw2 := hw.trans hf2 (by simp); have n_b0 := b0.kept hf2; have m_b0_0 := n_b0.cell (j := 0) rfl; have q_b0_0 := n_b0.free 0; have m_b0_1 := n_b0.cell (j := 1) rfl; have q_b0_1 := n_b0.free 1; have n_b1 := b1.kept hf2; have m_b1_0 := n_b1.cell (j := 0) rfl; have q_b1_0 := n_b1.free 0; have m_b1_1 := n_b1.cell (j := 1) rfl; have q_b1_1 := n_b1.free 1; have n_r0 := r0.kept hf2; have m_r0_0 := n_r0.cell (j := 0) rfl; have q_r0_0 := n_r0.free 0; have m_r0_1 := n_r0.cell (j := 1) rfl; have q_r0_1 := n_r0.free 1))
  go_wp2
  exact fin_ret n_r0 hw2 o4 (by omega) (by omega) rfl (by rw [Int.natAbs_mul, iv_abs, iv_abs]) rfl (fun W' c0 c1 => by simp [results, Tryz.results103, go_sem, c0, c1])

set_option maxRecDepth 100000 in
set_option maxHeartbeats 2000000 in
theorem rsub_i (g h : Bool) (p q : Option Addr) (n c m d : Nat) (xs ys : List Nat) (w : World) (h1 : Sl w p n c xs) (h2 : Sl w q m d ys) (hn : n ≤ 1048576) (hm : m ≤ 1048576) :
    Calls Tryz.prog 164 #[iw g p n c, iw h q m d] w (RetI w (iv g (val xs) - iv h (val ys))) := by
  have l2 := dg_len_val h2.dig
  rw [h2.len] at l2
  have l2' : (dg (val ys)).length ≤ 1048576 := by omega
  obtain ⟨sb, hsb⟩ : ∃ sb, decide (-(iv h (val ys)) < 0) = sb := ⟨_, rfl⟩
  have hna : (-(iv h (val ys))).natAbs = val ys := by rw [Int.natAbs_neg, iv_abs]
  have hz : iv g (val xs) + iv sb (val (dg (val ys))) = iv g (val xs) - iv h (val ys) := by rw [val_dg, iv_eq hsb hna]; omega
  have HZ := Lib.hid hz
  have HS := Lib.hid hsb
  clear hz hna hsb
  go_enter Tryz.func164, Tryz.ntmps164
  go_wp2_with fail
  have g_h1 := h1
  have g_h2 := h2
  have hw : Fr [] w (((w.alloc (Obj.cells #[.bool g, .slice p n c] 24)).alloc (Obj.cells #[.bool h, .slice q m d] 24)).alloc (Obj.cells #[.bool false, .slice none 0 0] 24)) := (((Fr.refl _ _).alloc _).alloc _).alloc _
  have b0 : Bx (((w.alloc (Obj.cells #[.bool g, .slice p n c] 24)).alloc (Obj.cells #[.bool h, .slice q m d] 24)).alloc (Obj.cells #[.bool false, .slice none 0 0] 24)) w.heap.size 24 #[.bool g, .slice p n c] := (Bx.made' (by simp) _ _).kept (((Fr.refl _ _).alloc _).alloc _)
  have b1 : Bx (((w.alloc (Obj.cells #[.bool g, .slice p n c] 24)).alloc (Obj.cells #[.bool h, .slice q m d] 24)).alloc (Obj.cells #[.bool false, .slice none 0 0] 24)) (w.heap.size + 1) 24 #[.bool h, .slice q m d] := (Bx.made' (by simp) _ _).kept ((Fr.refl _ _).alloc _)
  have r0 : Bx (((w.alloc (Obj.cells #[.bool g, .slice p n c] 24)).alloc (Obj.cells #[.bool h, .slice q m d] 24)).alloc (Obj.cells #[.bool false, .slice none 0 0] 24)) (w.heap.size + 2) 24 #[.bool false, .slice none 0 0] := (Bx.made' (by simp) _ _).kept (Fr.refl _ _)
  generalize (((w.alloc (Obj.cells #[.bool g, .slice p n c] 24)).alloc (Obj.cells #[.bool h, .slice q m d] 24)).alloc (Obj.cells #[.bool false, .slice none 0 0] 24)) = W at *
  have hbs := r0.lt
  replace h1 := h1.kept hw
  replace h2 := h2.kept hw
  have c0 := b0.cell (j := 0) rfl
  have c1 := b0.cell (j := 1) rfl
  have c2 := b1.cell (j := 0) rfl
  have c3 := b1.cell (j := 1) rfl
  go_region_held3 (fun w' => w'.cell? ⟨w.heap.size, 0, none⟩ = some (.bool g) ∧ w'.cell? ⟨w.heap.size, 1, none⟩ = some (.slice p n c) ∧ w'.cell? ⟨w.heap.size + 1, 0, none⟩ = some (.bool h) ∧ w'.cell? ⟨w.heap.size + 1, 1, none⟩ = some (.slice q m d)) (first | exact ⟨k0, k1, k2, k3⟩ | exact ⟨c0, c1, c2, c3⟩ | exact ⟨(set2_far (by omega)).trans k0, (set2_far (by omega)).trans k1, (set2_far (by omega)).trans k2, (set2_far (by omega)).trans k3⟩)
    (first
    | (go_at_call 114; (with_reducible refine (calls_ri (rneg_any _ _ _ _ _ _ (h2.kept (Fr.refl _ _).drew) hm) HS.out (by rw [Int.natAbs_neg, iv_abs])).mono ?_); rintro e V1 ⟨p3, cc3, rfl, o3, ff1⟩; have hf1 : Fr [] W V1 := ((Fr.refl [] W).drew).trans ff1 (by simp); have hsz1 := hf1.size; have k0 := (b0.kept hf1).cell (j := 0) rfl; have k1 := (b0.kept hf1).cell (j := 1) rfl; have k2 := (b1.kept hf1).cell (j := 0) rfl; have k3 := (b1.kept hf1).cell (j := 1) rfl)
    | (go_at_call 118; (with_reducible refine (calls_ri (radd_i g sb _ _ _ _ _ _ xs (dg (val ys)) _ (h1.kept hf1) o3.sl hn l2') (by rw [HZ.out]) (by rw [HZ.out])).mono ?_); rintro e V2 ⟨p4, cc4, rfl, o4, ff2⟩; have hf2 : Fr [] W V2 := (hf1).trans ff2 (by simp); have hsz2 := hf2.size; have k0 := (b0.kept hf2).cell (j := 0) rfl; have k1 := (b0.kept hf2).cell (j := 1) rfl; have k2 := (b1.kept hf2).cell (j := 0) rfl; have k3 := (b1.kept hf2).cell (j := 1) rfl; have o3 := o3.kept ff2; have hw2 := hw.trans hf2 (by simp); have n_b0 := b0.kept hf2; have m_b0_0 := n_b0.cell (j := 0) rfl; have q_b0_0 := n_b0.free 0; have m_b0_1 := n_b0.cell (j := 1) rfl; have q_b0_1 := n_b0.free 1; have n_b1 := b1.kept hf2; have m_b1_0 := n_b1.cell (j := 0) rfl; have q_b1_0 := n_b1.free 0; have m_b1_1 := n_b1.cell (j := 1) rfl; have q_b1_1 := n_b1.free 1; have n_r0 := r0.kept hf2; have m_r0_0 := n_r0.cell (j := 0) rfl; have q_r0_0 := n_r0.free 0; have m_r0_1 := n_r0.cell (j := 1) rfl; have q_r0_1 := n_r0.free 1))
  go_wp2
  exact fin_ret n_r0 hw2 o4 (by omega) (by omega) rfl rfl rfl (fun W' c0 c1 => by simp [results, Tryz.results164, go_sem, c0, c1])

set_option maxRecDepth 100000 in
set_option maxHeartbeats 2000000 in
theorem rsign_zero (g : Bool) (p : Option Addr) (n c : Nat) (xs : List Nat) (w : World) (h1 : Sl w p n c xs) (_hn : n ≤ 1048576) (_hz : iv g (val xs) = 0) :
    Calls Tryz.prog 101 #[iw g p n c] w (fun e w' => e = .returned (.int .i64 (0)) ∧ Fr [] w w') := by
  have hs : decide (iv g (val xs) < 0) = false := decide_eq_false (by omega)
  have hv := iv_abs g (val xs)
  have hl : (((dg (val xs)).length : Int) == 0) = true := by
    have e : val xs = 0 := by omega
    rw [e, dg_zero]; rfl
  have HS := Lib.hid hs
  clear hs hv _hz
  go_enter Tryz.func101, Tryz.ntmps101
  go_wp2_with fail
  have g_h1 := h1
  have hw : Fr [] w (w.alloc (Obj.cells #[.bool g, .slice p n c] 24)) := (Fr.refl _ _).alloc _
  have b0 : Bx (w.alloc (Obj.cells #[.bool g, .slice p n c] 24)) w.heap.size 24 #[.bool g, .slice p n c] := (Bx.made' (by simp) _ _).kept (Fr.refl _ _)
  generalize (w.alloc (Obj.cells #[.bool g, .slice p n c] 24)) = W at *
  have hbs := b0.lt
  replace h1 := h1.kept hw
  have c_b0_0 := b0.cell (j := 0) rfl
  have f_b0_0 := b0.free 0
  have c_b0_1 := b0.cell (j := 1) rfl
  have f_b0_1 := b0.free 1
  go_wp2_with fail
  clear c_b0_0 f_b0_0 c_b0_1 f_b0_1
  refine (calls_ri (rtrim_any _ _ _ _ _ _ h1 (by omega)) HS.out (iv_abs _ _)).mono ?_
  rintro e V1 ⟨p1, cc1, rfl, o1, ff⟩
  have hsz1 := ff.size
  replace hw := hw.trans ff (by simp)
  replace h1 := h1.kept ff
  replace b0 := b0.kept ff
  clear ff
  have c_b0_0 := b0.cell (j := 0) rfl
  have f_b0_0 := b0.free 0
  have c_b0_1 := b0.cell (j := 1) rfl
  have f_b0_1 := b0.free 1
  go_wp2
  clear c_b0_0 f_b0_0 c_b0_1 f_b0_1
  have hx := set2_fr V1 w.heap.size (.bool false) (.slice p1 (dg (val xs)).length cc1)
  replace hw := hw.set2 (b := w.heap.size) (by omega) (.bool false) (.slice p1 (dg (val xs)).length cc1)
  replace h1 := g_h1.kept hw
  replace o1 := o1.set2 (b := w.heap.size) (by omega) (.bool false) (.slice p1 (dg (val xs)).length cc1)
  replace b0 := b0.set2 (.bool false) (.slice p1 (dg (val xs)).length cc1)
  have hsz : V1.heap.size ≤ (((V1.setCell ⟨w.heap.size, 0, none⟩ (.bool false)).setCell ⟨w.heap.size, 1, none⟩ (.slice p1 (dg (val xs)).length cc1))).heap.size := hx.size
  clear hx
  generalize ((V1.setCell ⟨w.heap.size, 0, none⟩ (.bool false)).setCell ⟨w.heap.size, 1, none⟩ (.slice p1 (dg (val xs)).length cc1)) = V2 at *
  go_ret
  exact ⟨rfl, hw⟩

set_option maxRecDepth 100000 in
set_option maxHeartbeats 2000000 in
theorem rsign_pos (g : Bool) (p : Option Addr) (n c : Nat) (xs : List Nat) (w : World) (h1 : Sl w p n c xs) (_hn : n ≤ 1048576) (_hz : 0 < iv g (val xs)) :
    Calls Tryz.prog 101 #[iw g p n c] w (fun e w' => e = .returned (.int .i64 (1)) ∧ Fr [] w w') := by
  have hs : decide (iv g (val xs) < 0) = false := decide_eq_false (by omega)
  have hv := iv_abs g (val xs)
  have hl : (((dg (val xs)).length : Int) == 0) = false := by
    have e := dg_len_pos (val xs)
    rw [decide_eq_true (p := 0 < val xs) (by omega)] at e
    have := of_decide_eq_true e
    exact beq_eq_false_iff_ne.2 (by omega)
  have HS := Lib.hid hs
  clear hs hv _hz
  go_enter Tryz.func101, Tryz.ntmps101
  go_wp2_with fail
  have g_h1 := h1
  have hw : Fr [] w (w.alloc (Obj.cells #[.bool g, .slice p n c] 24)) := (Fr.refl _ _).alloc _
  have b0 : Bx (w.alloc (Obj.cells #[.bool g, .slice p n c] 24)) w.heap.size 24 #[.bool g, .slice p n c] := (Bx.made' (by simp) _ _).kept (Fr.refl _ _)
  generalize (w.alloc (Obj.cells #[.bool g, .slice p n c] 24)) = W at *
  have hbs := b0.lt
  replace h1 := h1.kept hw
  have c_b0_0 := b0.cell (j := 0) rfl
  have f_b0_0 := b0.free 0
  have c_b0_1 := b0.cell (j := 1) rfl
  have f_b0_1 := b0.free 1
  go_wp2_with fail
  clear c_b0_0 f_b0_0 c_b0_1 f_b0_1
  refine (calls_ri (rtrim_any _ _ _ _ _ _ h1 (by omega)) HS.out (iv_abs _ _)).mono ?_
  rintro e V1 ⟨p1, cc1, rfl, o1, ff⟩
  have hsz1 := ff.size
  replace hw := hw.trans ff (by simp)
  replace h1 := h1.kept ff
  replace b0 := b0.kept ff
  clear ff
  have c_b0_0 := b0.cell (j := 0) rfl
  have f_b0_0 := b0.free 0
  have c_b0_1 := b0.cell (j := 1) rfl
  have f_b0_1 := b0.free 1
  go_wp2
  clear c_b0_0 f_b0_0 c_b0_1 f_b0_1
  have hx := set2_fr V1 w.heap.size (.bool false) (.slice p1 (dg (val xs)).length cc1)
  replace hw := hw.set2 (b := w.heap.size) (by omega) (.bool false) (.slice p1 (dg (val xs)).length cc1)
  replace h1 := g_h1.kept hw
  replace o1 := o1.set2 (b := w.heap.size) (by omega) (.bool false) (.slice p1 (dg (val xs)).length cc1)
  replace b0 := b0.set2 (.bool false) (.slice p1 (dg (val xs)).length cc1)
  have hsz : V1.heap.size ≤ (((V1.setCell ⟨w.heap.size, 0, none⟩ (.bool false)).setCell ⟨w.heap.size, 1, none⟩ (.slice p1 (dg (val xs)).length cc1))).heap.size := hx.size
  clear hx
  generalize ((V1.setCell ⟨w.heap.size, 0, none⟩ (.bool false)).setCell ⟨w.heap.size, 1, none⟩ (.slice p1 (dg (val xs)).length cc1)) = V2 at *
  go_ret
  exact ⟨rfl, hw⟩

set_option maxRecDepth 100000 in
set_option maxHeartbeats 2000000 in
theorem rsign_neg (g : Bool) (p : Option Addr) (n c : Nat) (xs : List Nat) (w : World) (h1 : Sl w p n c xs) (_hn : n ≤ 1048576) (_hz : iv g (val xs) < 0) :
    Calls Tryz.prog 101 #[iw g p n c] w (fun e w' => e = .returned (.int .i64 (-1)) ∧ Fr [] w w') := by
  have hs : decide (iv g (val xs) < 0) = true := decide_eq_true (by omega)
  have hv := iv_abs g (val xs)
  have hl : (((dg (val xs)).length : Int) == 0) = false := by
    have e := dg_len_pos (val xs)
    rw [decide_eq_true (p := 0 < val xs) (by omega)] at e
    have := of_decide_eq_true e
    exact beq_eq_false_iff_ne.2 (by omega)
  have HS := Lib.hid hs
  clear hs hv _hz
  go_enter Tryz.func101, Tryz.ntmps101
  go_wp2_with fail
  have g_h1 := h1
  have hw : Fr [] w (w.alloc (Obj.cells #[.bool g, .slice p n c] 24)) := (Fr.refl _ _).alloc _
  have b0 : Bx (w.alloc (Obj.cells #[.bool g, .slice p n c] 24)) w.heap.size 24 #[.bool g, .slice p n c] := (Bx.made' (by simp) _ _).kept (Fr.refl _ _)
  generalize (w.alloc (Obj.cells #[.bool g, .slice p n c] 24)) = W at *
  have hbs := b0.lt
  replace h1 := h1.kept hw
  have c_b0_0 := b0.cell (j := 0) rfl
  have f_b0_0 := b0.free 0
  have c_b0_1 := b0.cell (j := 1) rfl
  have f_b0_1 := b0.free 1
  go_wp2_with fail
  clear c_b0_0 f_b0_0 c_b0_1 f_b0_1
  refine (calls_ri (rtrim_any _ _ _ _ _ _ h1 (by omega)) HS.out (iv_abs _ _)).mono ?_
  rintro e V1 ⟨p1, cc1, rfl, o1, ff⟩
  have hsz1 := ff.size
  replace hw := hw.trans ff (by simp)
  replace h1 := h1.kept ff
  replace b0 := b0.kept ff
  clear ff
  have c_b0_0 := b0.cell (j := 0) rfl
  have f_b0_0 := b0.free 0
  have c_b0_1 := b0.cell (j := 1) rfl
  have f_b0_1 := b0.free 1
  go_wp2
  clear c_b0_0 f_b0_0 c_b0_1 f_b0_1
  have hx := set2_fr V1 w.heap.size (.bool true) (.slice p1 (dg (val xs)).length cc1)
  replace hw := hw.set2 (b := w.heap.size) (by omega) (.bool true) (.slice p1 (dg (val xs)).length cc1)
  replace h1 := g_h1.kept hw
  replace o1 := o1.set2 (b := w.heap.size) (by omega) (.bool true) (.slice p1 (dg (val xs)).length cc1)
  replace b0 := b0.set2 (.bool true) (.slice p1 (dg (val xs)).length cc1)
  have hsz : V1.heap.size ≤ (((V1.setCell ⟨w.heap.size, 0, none⟩ (.bool true)).setCell ⟨w.heap.size, 1, none⟩ (.slice p1 (dg (val xs)).length cc1))).heap.size := hx.size
  clear hx
  generalize ((V1.setCell ⟨w.heap.size, 0, none⟩ (.bool true)).setCell ⟨w.heap.size, 1, none⟩ (.slice p1 (dg (val xs)).length cc1)) = V2 at *
  go_ret
  exact ⟨rfl, hw⟩

theorem rsign_any (g : Bool) (p : Option Addr) (n c : Nat) (xs : List Nat) (w : World) (h1 : Sl w p n c xs) (hn : n ≤ 1048576) :
    Calls Tryz.prog 101 #[iw g p n c] w fun e w' => e = .returned (.int .i64 (iv g (val xs)).sign) ∧ Fr [] w w' := by
  by_cases h0 : iv g (val xs) = 0
  · rw [h0]; exact rsign_zero g p n c xs w h1 hn h0
  · by_cases hp : 0 < iv g (val xs)
    · rw [Int.sign_eq_one_of_pos hp]; exact rsign_pos g p n c xs w h1 hn hp
    · rw [Int.sign_eq_neg_one_of_neg (by omega)]; exact rsign_neg g p n c xs w h1 hn (by omega)

set_option maxRecDepth 100000 in
set_option maxHeartbeats 2000000 in
theorem rcmp_i (g h : Bool) (p q : Option Addr) (n c m d : Nat) (xs ys : List Nat) (w : World) (h1 : Sl w p n c xs) (h2 : Sl w q m d ys) (hn : n ≤ 524287) (hm : m ≤ 524287) :
    Calls Tryz.prog 111 #[iw g p n c, iw h q m d] w (fun e w' => e = .returned (.int .i64 (cmpZ (iv g (val xs)) (iv h (val ys)))) ∧ Fr [] w w') := by
  have hl := sub_len g h h1 h2 hn hm
  have hz := cmpZ_sign g h (val xs) (val ys)
  have HZ := Lib.hid hz
  clear hz
  obtain ⟨sb, hsb⟩ : ∃ sb, decide (iv g (val xs) - iv h (val ys) < 0) = sb := ⟨_, rfl⟩
  obtain ⟨M, hM⟩ : ∃ M, (iv g (val xs) - iv h (val ys)).natAbs = M := ⟨_, rfl⟩
  rw [hM] at hl
  have he := iv_eq hsb hM
  have HS := Lib.hid hsb
  have HM := Lib.hid hM
  have HE := Lib.hid he
  clear hsb hM he
  go_enter Tryz.func111, Tryz.ntmps111
  go_wp2_with fail
  have g_h1 := h1
  have g_h2 := h2
  have hw : Fr [] w ((w.alloc (Obj.cells #[.bool g, .slice p n c] 24)).alloc (Obj.cells #[.bool h, .slice q m d] 24)) := ((Fr.refl _ _).alloc _).alloc _
  have b0 : Bx ((w.alloc (Obj.cells #[.bool g, .slice p n c] 24)).alloc (Obj.cells #[.bool h, .slice q m d] 24)) w.heap.size 24 #[.bool g, .slice p n c] := (Bx.made' (by simp) _ _).kept ((Fr.refl _ _).alloc _)
  have b1 : Bx ((w.alloc (Obj.cells #[.bool g, .slice p n c] 24)).alloc (Obj.cells #[.bool h, .slice q m d] 24)) (w.heap.size + 1) 24 #[.bool h, .slice q m d] := (Bx.made' (by simp) _ _).kept (Fr.refl _ _)
  generalize ((w.alloc (Obj.cells #[.bool g, .slice p n c] 24)).alloc (Obj.cells #[.bool h, .slice q m d] 24)) = W at *
  have hbs := b1.lt
  replace h1 := h1.kept hw
  replace h2 := h2.kept hw
  have c_b0_0 := b0.cell (j := 0) rfl
  have f_b0_0 := b0.free 0
  have c_b0_1 := b0.cell (j := 1) rfl
  have f_b0_1 := b0.free 1
  have c_b1_0 := b1.cell (j := 0) rfl
  have f_b1_0 := b1.free 0
  have c_b1_1 := b1.cell (j := 1) rfl
  have f_b1_1 := b1.free 1
  go_wp2_with fail
  clear c_b0_0 f_b0_0 c_b0_1 f_b0_1 c_b1_0 f_b1_0 c_b1_1 f_b1_1
  refine (calls_ri (rsub_i _ _ _ _ _ _ _ _ _ _ _ h1 h2 (by omega) (by omega)) HS.out HM.out).mono ?_
  rintro e V1 ⟨p3, cc3, rfl, o3, ff⟩
  have hsz1 := ff.size
  replace hw := hw.trans ff (by simp)
  replace h1 := h1.kept ff
  replace h2 := h2.kept ff
  replace b0 := b0.kept ff
  replace b1 := b1.kept ff
  clear ff
  have c_b0_0 := b0.cell (j := 0) rfl
  have f_b0_0 := b0.free 0
  have c_b0_1 := b0.cell (j := 1) rfl
  have f_b0_1 := b0.free 1
  have c_b1_0 := b1.cell (j := 0) rfl
  have f_b1_0 := b1.free 0
  have c_b1_1 := b1.cell (j := 1) rfl
  have f_b1_1 := b1.free 1
  go_wp2_with fail
  clear c_b0_0 f_b0_0 c_b0_1 f_b0_1 c_b1_0 f_b1_0 c_b1_1 f_b1_1
  refine (rsign_any _ _ _ _ _ _ o3.sl hl).mono ?_
  rw [val_dg, HE.out, ← HZ.out]
  rintro e V2 ⟨rfl, ff⟩
  have hsz2 := ff.size
  replace hw := hw.trans ff (by simp)
  replace h1 := h1.kept ff
  replace h2 := h2.kept ff
  replace o3 := o3.kept ff
  replace b0 := b0.kept ff
  replace b1 := b1.kept ff
  clear ff
  go_wp2
  go_ret
  exact ⟨rfl, hw⟩

end Go.Proofs.YtagciepnhjbopaaGreatDoor
