/- What the statements of this claim stand on: of Int5, what they name -/
import Derived.Test.YtagciepnhjbopaaGreatDoorT14

namespace Go.Proofs.YtagciepnhjbopaaGreatDoor
open Go.RowKit

set_option maxRecDepth 100000 in
set_option maxHeartbeats 2000000 in
theorem radd_less_false (g h : Bool) (p q : Option Addr) (n c m d : Nat) (xs ys : List Nat) (w : World) (h1 : Sl w p n c xs) (h2 : Sl w q m d ys) (_hn : n ≤ 1048576) (_hm : m ≤ 1048576) (ha : decide (iv g (val xs) < 0) = false) (hb : decide (iv h (val ys) < 0) = true) (hl : val xs < val ys) :
    Calls Tryz.prog 118 #[iw g p n c, iw h q m d] w (RetI w (iv g (val xs) + iv h (val ys))) := by
  have l1 := dg_len_val h1.dig
  have l2 := dg_len_val h2.dig
  rw [h1.len] at l1
  rw [h2.len] at l2
  have l3 : (dg (val (dg (val ys)) - val (dg (val xs)))).length ≤ 2097153 := by rw [val_dg, val_dg]; have := dg_len_mono (m := val ys - val xs) (n := val ys) (Nat.sub_le _ _); omega
  have e0 : iv g (val xs) + iv h (val ys) = iv true (val (dg (val ys)) - val (dg (val xs))) := by exact r_less ha hb rfl hl
  have E0 := Lib.hid e0
  clear e0
  have hsg : decide (iv true (val (dg (val (dg (val ys)) - val (dg (val xs))))) < 0) = decide (iv true (val (dg (val ys)) - val (dg (val xs))) < 0) := by rw [val_dg]
  have HSG := Lib.hid hsg
  clear hsg
  have HC : Hid (decide (cmpN (val xs) (val ys) ≥ 0) = false) := by rw [cmpN_lt hl]; rfl
  go_enter Tryz.func118, Tryz.ntmps118
  go_wp2_with fail
  have g_h1 := h1
  have g_h2 := h2
  have hw : Fr [] w (((w.alloc (Obj.cells #[.bool g, .slice p n c] 24)).alloc (Obj.cells #[.bool h, .slice q m d] 24)).alloc (Obj.cells #[.bool false, .slice none 0 0] 24)) := (((Fr.refl _ _).alloc _).alloc _).alloc _
  have b0 : Bx (((w.alloc (Obj.cells #[.bool g, .slice p n c] 24)).alloc (Obj.cells #[.bool h, .slice q m d] 24)).alloc (Obj.cells #[.bool false, .slice none 0 0] 24)) w.heap.size 24 #[.bool g, .slice p n c] := (Bx.made' (by simp) _ _).kept (((Fr.refl _ _).alloc _).alloc _)
  have b1 : Bx (((w.alloc (Obj.cells #[.bool g, .slice p n c] 24)).alloc (Obj.cells #[.bool h, .slice q m d] 24)).alloc (Obj.cells #[.bool false, .slice none 0 0] 24)) (w.heap.size + 1) 24 #[.bool h, .slice q m d] := (Bx.made' (by simp) _ _).kept ((Fr.refl _ _).alloc _)
  have r0 : Bx (((w.alloc (Obj.cells #[.bool g, .slice p n c] 24)).alloc (Obj.cells #[.bool h, .slice q m d] 24)).alloc (Obj.cells #[.bool false, .slice none 0 0] 24)) (w.heap.size + 2) 24 #[.bool false, .slice none 0 0] := (Bx.made' (by simp) _ _).kept (Fr.refl _ _)
  generalize (((w.alloc (Obj.cells #[.bool g, .slice p n c] 24)).alloc (Obj.cells #[.bool h, .slice q m d] 24)).alloc (Obj.cells #[.bool false, .slice none 0 0] 24)) = W at *
  have hbs := r0.lt
  replace h1 := h1.kept hw
  replace h2 := h2.kept hw
  go_upto_region 1 with fail
  go_cut [] (fun wx => ∃ (p1 p2 : Option Addr) (cc1 cc2 : Nat), Fr [] w wx ∧ W.heap.size ≤ wx.heap.size ∧ Bx wx w.heap.size 24 #[.bool false, .slice p1 (dg (val xs)).length cc1] ∧ Bx wx (w.heap.size + 1) 24 #[.bool true, .slice p2 (dg (val ys)).length cc2] ∧ Ow wx W.heap.size p1 (dg (val xs)).length cc1 (dg (val xs)) ∧ Ow wx W.heap.size p2 (dg (val ys)).length cc2 (dg (val ys)) ∧ Bx wx (w.heap.size + 2) 24 #[.bool false, .slice none 0 0])
  case first =>
    have HW := (Fr.refl [] W).drew
    have hsw := HW.size
    have c_b0_0 := b0.cell (j := 0) rfl
    have z_b0_0 := b0.free 0
    have c_b0_1 := b0.cell (j := 1) rfl
    have z_b0_1 := b0.free 1
    have c_b1_0 := b1.cell (j := 0) rfl
    have z_b1_0 := b1.free 0
    have c_b1_1 := b1.cell (j := 1) rfl
    have z_b1_1 := b1.free 1
    go_region_with (first
      | (go_at_call 142; (with_reducible refine (calls_ri (rtrim_any g p n c xs _ (h1.kept HW) (by omega)) ha (iv_abs _ _)).mono ?_); rintro e U1 ⟨p1, cc1, rfl, o1, ff⟩; replace HW := HW.trans ff (by simp); have c_b0_0 := (b0.kept HW).cell (j := 0) rfl; have z_b0_0 := (b0.kept HW).free 0; have c_b0_1 := (b0.kept HW).cell (j := 1) rfl; have z_b0_1 := (b0.kept HW).free 1; have c_b1_0 := (b1.kept HW).cell (j := 0) rfl; have z_b1_0 := (b1.kept HW).free 0; have c_b1_1 := (b1.kept HW).cell (j := 1) rfl; have z_b1_1 := (b1.kept HW).free 1; have hs1 := HW.size; clear ff)
      | (go_at_call 142; (with_reducible refine (calls_ri (rtrim_any h q m d ys _ (h2.kept HW) (by omega)) hb (iv_abs _ _)).mono ?_); rintro e U2 ⟨p2, cc2, rfl, o2, ff⟩; replace HW := HW.trans ff (by simp); have c_b0_0 := (b0.kept HW).cell (j := 0) rfl; have z_b0_0 := (b0.kept HW).free 0; have c_b0_1 := (b0.kept HW).cell (j := 1) rfl; have z_b0_1 := (b0.kept HW).free 1; have c_b1_0 := (b1.kept HW).cell (j := 0) rfl; have z_b1_0 := (b1.kept HW).free 0; have c_b1_1 := (b1.kept HW).cell (j := 1) rfl; have z_b1_1 := (b1.kept HW).free 1; replace o1 := o1.kept ff; have hs2 := HW.size; clear ff))
    all_goals
      go_wp2_with fail
      go_meet
      exact ⟨p1, p2, cc1, cc2, ((hw.trans HW (by simp)).set2 (b := w.heap.size) (by omega) _ _).set2 (b := w.heap.size + 1) (by omega) _ _, (by rw [set2_size, set2_size]; exact HW.size), ((b0.kept HW).set2 _ _).far (b := w.heap.size + 1) (by omega) _ _, ((b1.kept HW).far (b := w.heap.size) (by omega) _ _).set2 _ _, ((o1.mono (by omega)).set2 (b := w.heap.size) (by omega) _ _).set2 (b := w.heap.size + 1) (by omega) _ _, ((o2.mono (by omega)).set2 (b := w.heap.size) (by omega) _ _).set2 (b := w.heap.size + 1) (by omega) _ _, ((r0.kept HW).far (b := w.heap.size) (by omega) _ _).far (b := w.heap.size + 1) (by omega) _ _⟩
  case rest =>
    obtain ⟨p1, p2, cc1, cc2, hw, hsz, b0, b1, o1, o2, r0⟩ := hcut
    have c_b0_0 := b0.cell (j := 0) rfl
    have f_b0_0 := b0.free 0
    have c_b0_1 := b0.cell (j := 1) rfl
    have f_b0_1 := b0.free 1
    have c_b1_0 := b1.cell (j := 0) rfl
    have f_b1_0 := b1.free 0
    have c_b1_1 := b1.cell (j := 1) rfl
    have f_b1_1 := b1.free 1
    have c_r0_0 := r0.cell (j := 0) rfl
    have f_r0_0 := r0.free 0
    have c_r0_1 := r0.cell (j := 1) rfl
    have f_r0_1 := r0.free 1
    go_wp2_with fail
    clear c_b0_0 f_b0_0 c_b0_1 f_b0_1 c_b1_0 f_b1_0 c_b1_1 f_b1_1 c_r0_0 f_r0_0 c_r0_1 f_r0_1
    refine (rcompare_any _ _ _ _ _ _ _ _ _ o1.sl o2.sl (by omega) (by omega)).mono ?_
    rw [val_dg, val_dg]
    rintro e V11 ⟨rfl, ff⟩
    have hsz11 := ff.size
    replace hw := hw.trans ff (by simp)
    replace o1 := o1.kept ff
    replace o2 := o2.kept ff
    replace b0 := b0.kept ff
    replace b1 := b1.kept ff
    replace r0 := r0.kept ff
    clear ff
    have hc := HC.out
    have c_b0_0 := b0.cell (j := 0) rfl
    have f_b0_0 := b0.free 0
    have c_b0_1 := b0.cell (j := 1) rfl
    have f_b0_1 := b0.free 1
    have c_b1_0 := b1.cell (j := 0) rfl
    have f_b1_0 := b1.free 0
    have c_b1_1 := b1.cell (j := 1) rfl
    have f_b1_1 := b1.free 1
    have c_r0_0 := r0.cell (j := 0) rfl
    have f_r0_0 := r0.free 0
    have c_r0_1 := r0.cell (j := 1) rfl
    have f_r0_1 := r0.free 1
    go_wp2_with fail
    clear c_b0_0 f_b0_0 c_b0_1 f_b0_1 c_b1_0 f_b1_0 c_b1_1 f_b1_1 c_r0_0 f_r0_0 c_r0_1 f_r0_1
    clear hc
    have c0 := b1.cell (j := 0) rfl
    have c1 := b1.cell (j := 1) rfl
    have c2 := b0.cell (j := 1) rfl
    go_region_held3 (fun w' => w'.cell? ⟨w.heap.size + 1, 0, none⟩ = some (.bool true) ∧ w'.cell? ⟨w.heap.size + 1, 1, none⟩ = some (.slice p2 (dg (val ys)).length cc2) ∧ w'.cell? ⟨w.heap.size, 1, none⟩ = some (.slice p1 (dg (val xs)).length cc1)) (first | exact ⟨k0, k1, k2⟩ | exact ⟨c0, c1, c2⟩ | exact ⟨(set2_far (by omega)).trans k0, (set2_far (by omega)).trans k1, (set2_far (by omega)).trans k2⟩)
      (first
      | (go_at_call 169; (with_reducible refine (rsub_any _ _ _ _ _ _ (dg (val ys)) (dg (val xs)) _ (o2.sl.kept (Fr.refl _ _).drew) (o1.sl.kept (Fr.refl _ _).drew) (by omega) (by omega)).mono ?_); rintro e V12 ⟨p3, cc3, rfl, o3, ff1⟩; have hf1 : Fr [] V11 V12 := ((Fr.refl [] V11).drew).trans ff1 (by simp); have hsz12 := hf1.size; have k0 := (b1.kept hf1).cell (j := 0) rfl; have k1 := (b1.kept hf1).cell (j := 1) rfl; have k2 := (b0.kept hf1).cell (j := 1) rfl)
      | (go_at_call 142; (with_reducible refine (calls_ri (rtrim_any _ _ _ _ _ _ o3.sl (by omega)) HSG.out (by rw [iv_abs, val_dg])).mono ?_); rintro e V13 ⟨p4, cc4, rfl, o4, ff2⟩; have hf2 : Fr [] V11 V13 := (hf1).trans ff2 (by simp); have hsz13 := hf2.size; have k0 := (b1.kept hf2).cell (j := 0) rfl; have k1 := (b1.kept hf2).cell (j := 1) rfl; have k2 := (b0.kept hf2).cell (j := 1) rfl; have o3 := o3.kept ff2; have hw2 := hw.trans hf2 (by simp); have n_b0 := b0.kept hf2; have m_b0_0 := n_b0.cell (j := 0) rfl; have q_b0_0 := n_b0.free 0; have m_b0_1 := n_b0.cell (j := 1) rfl; have q_b0_1 := n_b0.free 1; have n_b1 := b1.kept hf2; have m_b1_0 := n_b1.cell (j := 0) rfl; have q_b1_0 := n_b1.free 0; have m_b1_1 := n_b1.cell (j := 1) rfl; have q_b1_1 := n_b1.free 1; have n_r0 := r0.kept hf2; have m_r0_0 := n_r0.cell (j := 0) rfl; have q_r0_0 := n_r0.free 0; have m_r0_1 := n_r0.cell (j := 1) rfl; have q_r0_1 := n_r0.free 1))
    go_wp2
    exact fin_ret n_r0 hw2 o4 (by omega) (by omega) rfl (by rw [E0.out, iv_abs]) (by rw [E0.out]) (fun W' c0 c1 => by simp [results, Tryz.results118, go_sem, c0, c1])

set_option maxRecDepth 100000 in
set_option maxHeartbeats 2000000 in
theorem radd_more_false (g h : Bool) (p q : Option Addr) (n c m d : Nat) (xs ys : List Nat) (w : World) (h1 : Sl w p n c xs) (h2 : Sl w q m d ys) (_hn : n ≤ 1048576) (_hm : m ≤ 1048576) (ha : decide (iv g (val xs) < 0) = false) (hb : decide (iv h (val ys) < 0) = true) (hl : val ys ≤ val xs) :
    Calls Tryz.prog 118 #[iw g p n c, iw h q m d] w (RetI w (iv g (val xs) + iv h (val ys))) := by
  have l1 := dg_len_val h1.dig
  have l2 := dg_len_val h2.dig
  rw [h1.len] at l1
  rw [h2.len] at l2
  have l3 : (dg (val (dg (val xs)) - val (dg (val ys)))).length ≤ 2097153 := by rw [val_dg, val_dg]; have := dg_len_mono (m := val xs - val ys) (n := val xs) (Nat.sub_le _ _); omega
  have e0 : iv g (val xs) + iv h (val ys) = iv false (val (dg (val xs)) - val (dg (val ys))) := by exact r_more ha hb rfl hl
  have E0 := Lib.hid e0
  clear e0
  have hsg : decide (iv false (val (dg (val (dg (val xs)) - val (dg (val ys))))) < 0) = decide (iv false (val (dg (val xs)) - val (dg (val ys))) < 0) := by rw [val_dg]
  have HSG := Lib.hid hsg
  clear hsg
  have HC : Hid (decide (cmpN (val xs) (val ys) ≥ 0) = true) := cmpN_ge hl
  go_enter Tryz.func118, Tryz.ntmps118
  go_wp2_with fail
  have g_h1 := h1
  have g_h2 := h2
  have hw : Fr [] w (((w.alloc (Obj.cells #[.bool g, .slice p n c] 24)).alloc (Obj.cells #[.bool h, .slice q m d] 24)).alloc (Obj.cells #[.bool false, .slice none 0 0] 24)) := (((Fr.refl _ _).alloc _).alloc _).alloc _
  have b0 : Bx (((w.alloc (Obj.cells #[.bool g, .slice p n c] 24)).alloc (Obj.cells #[.bool h, .slice q m d] 24)).alloc (Obj.cells #[.bool false, .slice none 0 0] 24)) w.heap.size 24 #[.bool g, .slice p n c] := (Bx.made' (by simp) _ _).kept (((Fr.refl _ _).alloc _).alloc _)
  have b1 : Bx (((w.alloc (Obj.cells #[.bool g, .slice p n c] 24)).alloc (Obj.cells #[.bool h, .slice q m d] 24)).alloc (Obj.cells #[.bool false, .slice none 0 0] 24)) (w.heap.size + 1) 24 #[.bool h, .slice q m d] := (Bx.made' (by simp) _ _).kept ((Fr.refl _ _).alloc _)
  have r0 : Bx (((w.alloc (Obj.cells #[.bool g, .slice p n c] 24)).alloc (Obj.cells #[.bool h, .slice q m d] 24)).alloc (Obj.cells #[.bool false, .slice none 0 0] 24)) (w.heap.size + 2) 24 #[.bool false, .slice none 0 0] := (Bx.made' (by simp) _ _).kept (Fr.refl _ _)
  generalize (((w.alloc (Obj.cells #[.bool g, .slice p n c] 24)).alloc (Obj.cells #[.bool h, .slice q m d] 24)).alloc (Obj.cells #[.bool false, .slice none 0 0] 24)) = W at *
  have hbs := r0.lt
  replace h1 := h1.kept hw
  replace h2 := h2.kept hw
  go_upto_region 1 with fail
  go_cut [] (fun wx => ∃ (p1 p2 : Option Addr) (cc1 cc2 : Nat), Fr [] w wx ∧ W.heap.size ≤ wx.heap.size ∧ Bx wx w.heap.size 24 #[.bool false, .slice p1 (dg (val xs)).length cc1] ∧ Bx wx (w.heap.size + 1) 24 #[.bool true, .slice p2 (dg (val ys)).length cc2] ∧ Ow wx W.heap.size p1 (dg (val xs)).length cc1 (dg (val xs)) ∧ Ow wx W.heap.size p2 (dg (val ys)).length cc2 (dg (val ys)) ∧ Bx wx (w.heap.size + 2) 24 #[.bool false, .slice none 0 0])
  case first =>
    have HW := (Fr.refl [] W).drew
    have hsw := HW.size
    have c_b0_0 := b0.cell (j := 0) rfl
    have z_b0_0 := b0.free 0
    have c_b0_1 := b0.cell (j := 1) rfl
    have z_b0_1 := b0.free 1
    have c_b1_0 := b1.cell (j := 0) rfl
    have z_b1_0 := b1.free 0
    have c_b1_1 := b1.cell (j := 1) rfl
    have z_b1_1 := b1.free 1
    go_region_with (first
      | (go_at_call 142; (with_reducible refine (calls_ri (rtrim_any g p n c xs _ (h1.kept HW) (by omega)) ha (iv_abs _ _)).mono ?_); rintro e U1 ⟨p1, cc1, rfl, o1, ff⟩; replace HW := HW.trans ff (by simp); have c_b0_0 := (b0.kept HW).cell (j := 0) rfl; have z_b0_0 := (b0.kept HW).free 0; have c_b0_1 := (b0.kept HW).cell (j := 1) rfl; have z_b0_1 := (b0.kept HW).free 1; have c_b1_0 := (b1.kept HW).cell (j := 0) rfl; have z_b1_0 := (b1.kept HW).free 0; have c_b1_1 := (b1.kept HW).cell (j := 1) rfl; have z_b1_1 := (b1.kept HW).free 1; have hs1 := HW.size; clear ff)
      | (go_at_call 142; (with_reducible refine (calls_ri (rtrim_any h q m d ys _ (h2.kept HW) (by omega)) hb (iv_abs _ _)).mono ?_); rintro e U2 ⟨p2, cc2, rfl, o2, ff⟩; replace HW := HW.trans ff (by simp); have c_b0_0 := (b0.kept HW).cell (j := 0) rfl; have z_b0_0 := (b0.kept HW).free 0; have c_b0_1 := (b0.kept HW).cell (j := 1) rfl; have z_b0_1 := (b0.kept HW).free 1; have c_b1_0 := (b1.kept HW).cell (j := 0) rfl; have z_b1_0 := (b1.kept HW).free 0; have c_b1_1 := (b1.kept HW).cell (j := 1) rfl; have z_b1_1 := (b1.kept HW).free 1; replace o1 := o1.kept ff; have hs2 := HW.size; clear ff))
    all_goals
      go_wp2_with fail
      go_meet
      exact ⟨p1, p2, cc1, cc2, ((hw.trans HW (by simp)).set2 (b := w.heap.size) (by omega) _ _).set2 (b := w.heap.size + 1) (by omega) _ _, (by rw [set2_size, set2_size]; exact HW.size), ((b0.kept HW).set2 _ _).far (b := w.heap.size + 1) (by omega) _ _, ((b1.kept HW).far (b := w.heap.size) (by omega) _ _).set2 _ _, ((o1.mono (by omega)).set2 (b := w.heap.size) (by omega) _ _).set2 (b := w.heap.size + 1) (by omega) _ _, ((o2.mono (by omega)).set2 (b := w.heap.size) (by omega) _ _).set2 (b := w.heap.size + 1) (by omega) _ _, ((r0.kept HW).far (b := w.heap.size) (by omega) _ _).far (b := w.heap.size + 1) (by omega) _ _⟩
  case rest =>
    obtain ⟨p1, p2, cc1, cc2, hw, hsz, b0, b1, o1, o2, r0⟩ := hcut
    have c_b0_0 := b0.cell (j := 0) rfl
    have f_b0_0 := b0.free 0
    have c_b0_1 := b0.cell (j := 1) rfl
    have f_b0_1 := b0.free 1
    have c_b1_0 := b1.cell (j := 0) rfl
    have f_b1_0 := b1.free 0
    have c_b1_1 := b1.cell (j := 1) rfl
    have f_b1_1 := b1.free 1
    have c_r0_0 := r0.cell (j := 0) rfl
    have f_r0_0 := r0.free 0
    have c_r0_1 := r0.cell (j := 1) rfl
    have f_r0_1 := r0.free 1
    go_wp2_with fail
    clear c_b0_0 f_b0_0 c_b0_1 f_b0_1 c_b1_0 f_b1_0 c_b1_1 f_b1_1 c_r0_0 f_r0_0 c_r0_1 f_r0_1
    refine (rcompare_any _ _ _ _ _ _ _ _ _ o1.sl o2.sl (by omega) (by omega)).mono ?_
    rw [val_dg, val_dg]
    rintro e V11 ⟨rfl, ff⟩
    have hsz11 := ff.size
    replace hw := hw.trans ff (by simp)
    replace o1 := o1.kept ff
    replace o2 := o2.kept ff
    replace b0 := b0.kept ff
    replace b1 := b1.kept ff
    replace r0 := r0.kept ff
    clear ff
    have hc := HC.out
    have c_b0_0 := b0.cell (j := 0) rfl
    have f_b0_0 := b0.free 0
    have c_b0_1 := b0.cell (j := 1) rfl
    have f_b0_1 := b0.free 1
    have c_b1_0 := b1.cell (j := 0) rfl
    have f_b1_0 := b1.free 0
    have c_b1_1 := b1.cell (j := 1) rfl
    have f_b1_1 := b1.free 1
    have c_r0_0 := r0.cell (j := 0) rfl
    have f_r0_0 := r0.free 0
    have c_r0_1 := r0.cell (j := 1) rfl
    have f_r0_1 := r0.free 1
    go_wp2_with fail
    clear c_b0_0 f_b0_0 c_b0_1 f_b0_1 c_b1_0 f_b1_0 c_b1_1 f_b1_1 c_r0_0 f_r0_0 c_r0_1 f_r0_1
    clear hc
    have c0 := b0.cell (j := 0) rfl
    have c1 := b0.cell (j := 1) rfl
    have c2 := b1.cell (j := 1) rfl
    go_region_held3 (fun w' => w'.cell? ⟨w.heap.size, 0, none⟩ = some (.bool false) ∧ w'.cell? ⟨w.heap.size, 1, none⟩ = some (.slice p1 (dg (val xs)).length cc1) ∧ w'.cell? ⟨w.heap.size + 1, 1, none⟩ = some (.slice p2 (dg (val ys)).length cc2)) (first | exact ⟨k0, k1, k2⟩ | exact ⟨c0, c1, c2⟩ | exact ⟨(set2_far (by omega)).trans k0, (set2_far (by omega)).trans k1, (set2_far (by omega)).trans k2⟩)
      (first
      | (go_at_call 169; (with_reducible refine (rsub_any _ _ _ _ _ _ (dg (val xs)) (dg (val ys)) _ (o1.sl.kept (Fr.refl _ _).drew) (o2.sl.kept (Fr.refl _ _).drew) (by omega) (by omega)).mono ?_); rintro e V12 ⟨p3, cc3, rfl, o3, ff1⟩; have hf1 : Fr [] V11 V12 := ((Fr.refl [] V11).drew).trans ff1 (by simp); have hsz12 := hf1.size; have k0 := (b0.kept hf1).cell (j := 0) rfl; have k1 := (b0.kept hf1).cell (j := 1) rfl; have k2 := (b1.kept hf1).cell (j := 1) rfl)
      | (go_at_call 142; (with_reducible refine (calls_ri (rtrim_any _ _ _ _ _ _ o3.sl (by omega)) HSG.out (by rw [iv_abs, val_dg])).mono ?_); rintro e V13 ⟨p4, cc4, rfl, o4, ff2⟩; have hf2 : Fr [] V11 V13 := (hf1).trans ff2 (by simp); have hsz13 := hf2.size; have k0 := (b0.kept hf2).cell (j := 0) rfl; have k1 := (b0.kept hf2).cell (j := 1) rfl; have k2 := (b1.kept hf2).cell (j := 1) rfl; have o3 := o3.kept ff2; have hw2 := hw.trans hf2 (by simp); have n_b0 := b0.kept hf2; have m_b0_0 := n_b0.cell (j := 0) rfl; have q_b0_0 := n_b0.free 0; have m_b0_1 := n_b0.cell (j := 1) rfl; have q_b0_1 := n_b0.free 1; have n_b1 := b1.kept hf2; have m_b1_0 := n_b1.cell (j := 0) rfl; have q_b1_0 := n_b1.free 0; have m_b1_1 := n_b1.cell (j := 1) rfl; have q_b1_1 := n_b1.free 1; have n_r0 := r0.kept hf2; have m_r0_0 := n_r0.cell (j := 0) rfl; have q_r0_0 := n_r0.free 0; have m_r0_1 := n_r0.cell (j := 1) rfl; have q_r0_1 := n_r0.free 1))
    go_wp2
    exact fin_ret n_r0 hw2 o4 (by omega) (by omega) rfl (by rw [E0.out, iv_abs]) (by rw [E0.out]) (fun W' c0 c1 => by simp [results, Tryz.results118, go_sem, c0, c1])

end Go.Proofs.YtagciepnhjbopaaGreatDoor
