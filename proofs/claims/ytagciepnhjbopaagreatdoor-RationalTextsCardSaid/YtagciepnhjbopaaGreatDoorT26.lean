/- What the statements of this claim stand on: of Int14, what they name -/
import Derived.Test.YtagciepnhjbopaaGreatDoorT17
import Derived.Test.YtagciepnhjbopaaGreatDoorT19
import Derived.Test.YtagciepnhjbopaaGreatDoorT21

namespace Go.Proofs.YtagciepnhjbopaaGreatDoor
open Go.RowKit

set_option maxRecDepth 100000 in
set_option maxHeartbeats 4000000 in
theorem rdiv_pos (g h sb : Bool) (p q : Option Addr) (n c m d : Nat) (xs ys : List Nat) (w : World) (h1 : Sl w p n c xs) (h2 : Sl w q m d ys) (_hn : n ≤ 1048575) (_hm : m ≤ 1048575) (ha : decide (iv g (val xs) < 0) = false) (hb : decide (iv h (val ys) < 0) = sb) (h0 : val ys ≠ 0) :
    Calls Tryz.prog 133 #[iw g p n c, iw h q m d] w (RetD w (iv g (val xs) / iv h (val ys)) (iv g (val xs) % iv h (val ys))) := by
  have l1 := dg_len_val h1.dig
  have l2 := dg_len_val h2.dig
  rw [h1.len] at l1
  rw [h2.len] at l2
  have hdk := div_keep (g := false) (h := sb) (a := val xs) h0 (Or.inl rfl)
  rw [iv_of ha, iv_of hb, hdk.1, hdk.2, show (false != sb) = sb by cases sb <;> rfl]
  have h0' : val (dg (val ys)) ≠ 0 := by rw [val_dg]; exact h0
  have lq := dg_len_mono (Nat.div_le_self (val xs) (val ys))
  have hsg : iv sb (val (dg (val xs / val ys))) = iv sb (val xs / val ys) := by rw [val_dg]
  have HSG := Lib.hid hsg
  have H0 := Lib.hid h0'
  clear h0 h0' hsg hdk
  go_enter Tryz.func133, Tryz.ntmps133
  go_wp2_with fail
  have g_h1 := h1
  have g_h2 := h2
  have hw : Fr [] w ((((w.alloc (Obj.cells #[.bool g, .slice p n c] 24)).alloc (Obj.cells #[.bool h, .slice q m d] 24)).alloc (Obj.cells #[.bool false, .slice none 0 0] 24)).alloc (Obj.cells #[.bool false, .slice none 0 0] 24)) := ((((Fr.refl _ _).alloc _).alloc _).alloc _).alloc _
  have b0 : Bx ((((w.alloc (Obj.cells #[.bool g, .slice p n c] 24)).alloc (Obj.cells #[.bool h, .slice q m d] 24)).alloc (Obj.cells #[.bool false, .slice none 0 0] 24)).alloc (Obj.cells #[.bool false, .slice none 0 0] 24)) w.heap.size 24 #[.bool g, .slice p n c] := (Bx.made' (by simp) _ _).kept ((((Fr.refl _ _).alloc _).alloc _).alloc _)
  have b1 : Bx ((((w.alloc (Obj.cells #[.bool g, .slice p n c] 24)).alloc (Obj.cells #[.bool h, .slice q m d] 24)).alloc (Obj.cells #[.bool false, .slice none 0 0] 24)).alloc (Obj.cells #[.bool false, .slice none 0 0] 24)) (w.heap.size + 1) 24 #[.bool h, .slice q m d] := (Bx.made' (by simp) _ _).kept (((Fr.refl _ _).alloc _).alloc _)
  have r0 : Bx ((((w.alloc (Obj.cells #[.bool g, .slice p n c] 24)).alloc (Obj.cells #[.bool h, .slice q m d] 24)).alloc (Obj.cells #[.bool false, .slice none 0 0] 24)).alloc (Obj.cells #[.bool false, .slice none 0 0] 24)) (w.heap.size + 2) 24 #[.bool false, .slice none 0 0] := (Bx.made' (by simp) _ _).kept ((Fr.refl _ _).alloc _)
  have r1 : Bx ((((w.alloc (Obj.cells #[.bool g, .slice p n c] 24)).alloc (Obj.cells #[.bool h, .slice q m d] 24)).alloc (Obj.cells #[.bool false, .slice none 0 0] 24)).alloc (Obj.cells #[.bool false, .slice none 0 0] 24)) (w.heap.size + 3) 24 #[.bool false, .slice none 0 0] := (Bx.made' (by simp) _ _).kept (Fr.refl _ _)
  generalize ((((w.alloc (Obj.cells #[.bool g, .slice p n c] 24)).alloc (Obj.cells #[.bool h, .slice q m d] 24)).alloc (Obj.cells #[.bool false, .slice none 0 0] 24)).alloc (Obj.cells #[.bool false, .slice none 0 0] 24)) = W at *
  have hbs := r1.lt
  replace h1 := h1.kept hw
  replace h2 := h2.kept hw
  go_upto_region 1 with fail
  go_cut [] (fun wx => ∃ (p1 p2 : Option Addr) (cc1 cc2 : Nat), Fr [] w wx ∧ W.heap.size ≤ wx.heap.size ∧ Bx wx w.heap.size 24 #[.bool false, .slice p1 (dg (val xs)).length cc1] ∧ Bx wx (w.heap.size + 1) 24 #[.bool sb, .slice p2 (dg (val ys)).length cc2] ∧ Ow wx W.heap.size p1 (dg (val xs)).length cc1 (dg (val xs)) ∧ Ow wx W.heap.size p2 (dg (val ys)).length cc2 (dg (val ys)) ∧ Bx wx (w.heap.size + 2) 24 #[.bool false, .slice none 0 0] ∧ Bx wx (w.heap.size + 3) 24 #[.bool false, .slice none 0 0])
  case first =>
    have HW := (Fr.refl [] W).drew
    have hsw := HW.size
    have c_b0_0 := b0.cell (j := 0) rfl
    have z_b0_0 := b0.free 0
    have c_b0_1 := b0.cell (j := 1) rfl
    have z_b0_1 := b0.free 1
    have c_b1_0 := b1.cell (j := 0) rfl
    have z_b1_0 := b1.free 0
    have c_b1_1 := b1.cell (j := 1) rfl
    have z_b1_1 := b1.free 1
    go_region_with (first
      | (go_at_call 142; (with_reducible refine (calls_ri (rtrim_any g p n c xs _ (h1.kept HW) (by omega)) ha (iv_abs _ _)).mono ?_); rintro e U1 ⟨p1, cc1, rfl, o1, ff⟩; replace HW := HW.trans ff (by simp); have c_b0_0 := (b0.kept HW).cell (j := 0) rfl; have z_b0_0 := (b0.kept HW).free 0; have c_b0_1 := (b0.kept HW).cell (j := 1) rfl; have z_b0_1 := (b0.kept HW).free 1; have c_b1_0 := (b1.kept HW).cell (j := 0) rfl; have z_b1_0 := (b1.kept HW).free 0; have c_b1_1 := (b1.kept HW).cell (j := 1) rfl; have z_b1_1 := (b1.kept HW).free 1; have hs1 := HW.size; clear ff)
      | (go_at_call 142; (with_reducible refine (calls_ri (rtrim_any h q m d ys _ (h2.kept HW) (by omega)) hb (iv_abs _ _)).mono ?_); rintro e U2 ⟨p2, cc2, rfl, o2, ff⟩; replace HW := HW.trans ff (by simp); have c_b0_0 := (b0.kept HW).cell (j := 0) rfl; have z_b0_0 := (b0.kept HW).free 0; have c_b0_1 := (b0.kept HW).cell (j := 1) rfl; have z_b0_1 := (b0.kept HW).free 1; have c_b1_0 := (b1.kept HW).cell (j := 0) rfl; have z_b1_0 := (b1.kept HW).free 0; have c_b1_1 := (b1.kept HW).cell (j := 1) rfl; have z_b1_1 := (b1.kept HW).free 1; replace o1 := o1.kept ff; have hs2 := HW.size; clear ff))
    all_goals
      go_wp2_with fail
      go_meet
      exact ⟨p1, p2, cc1, cc2, ((hw.trans HW (by simp)).set2 (b := w.heap.size) (by omega) _ _).set2 (b := w.heap.size + 1) (by omega) _ _, (by rw [set2_size, set2_size]; exact HW.size), ((b0.kept HW).set2 _ _).far (b := w.heap.size + 1) (by omega) _ _, ((b1.kept HW).far (b := w.heap.size) (by omega) _ _).set2 _ _, ((o1.mono (by omega)).set2 (b := w.heap.size) (by omega) _ _).set2 (b := w.heap.size + 1) (by omega) _ _, ((o2.mono (by omega)).set2 (b := w.heap.size) (by omega) _ _).set2 (b := w.heap.size + 1) (by omega) _ _, ((r0.kept HW).far (b := w.heap.size) (by omega) _ _).far (b := w.heap.size + 1) (by omega) _ _, ((r1.kept HW).far (b := w.heap.size) (by omega) _ _).far (b := w.heap.size + 1) (by omega) _ _⟩
  case rest =>
    obtain ⟨p1, p2, cc1, cc2, hw, hsz, b0, b1, o1, o2, r0, r1⟩ := hcut
    clear h1 h2 g_h1 g_h2
    have c_b0_0 := b0.cell (j := 0) rfl
    have f_b0_0 := b0.free 0
    have c_b0_1 := b0.cell (j := 1) rfl
    have f_b0_1 := b0.free 1
    have c_b1_0 := b1.cell (j := 0) rfl
    have f_b1_0 := b1.free 0
    have c_b1_1 := b1.cell (j := 1) rfl
    have f_b1_1 := b1.free 1
    have c_r0_0 := r0.cell (j := 0) rfl
    have f_r0_0 := r0.free 0
    have c_r0_1 := r0.cell (j := 1) rfl
    have f_r0_1 := r0.free 1
    have c_r1_0 := r1.cell (j := 0) rfl
    have f_r1_0 := r1.free 0
    have c_r1_1 := r1.cell (j := 1) rfl
    have f_r1_1 := r1.free 1
    go_wp2_with fail
    clear c_b0_0 f_b0_0 c_b0_1 f_b0_1 c_b1_0 f_b1_0 c_b1_1 f_b1_1 c_r0_0 f_r0_0 c_r0_1 f_r0_1 c_r1_0 f_r1_0 c_r1_1 f_r1_1
    refine (rdivmod_yes _ _ _ _ _ _ _ _ _ o1.sl o2.sl (by omega) (by omega) H0.out).mono ?_
    simp only [val_dg]
    rintro e V11 ⟨p3, cc3, p4, cc4, rfl, o3, o4, ff⟩
    have hsz11 := ff.size
    replace hw := hw.trans ff (by simp)
    replace o1 := o1.kept ff
    replace o2 := o2.kept ff
    replace b0 := b0.kept ff
    replace b1 := b1.kept ff
    replace r0 := r0.kept ff
    replace r1 := r1.kept ff
    clear ff
    have c_b0_0 := b0.cell (j := 0) rfl
    have f_b0_0 := b0.free 0
    have c_b0_1 := b0.cell (j := 1) rfl
    have f_b0_1 := b0.free 1
    have c_b1_0 := b1.cell (j := 0) rfl
    have f_b1_0 := b1.free 0
    have c_b1_1 := b1.cell (j := 1) rfl
    have f_b1_1 := b1.free 1
    have c_r0_0 := r0.cell (j := 0) rfl
    have f_r0_0 := r0.free 0
    have c_r0_1 := r0.cell (j := 1) rfl
    have f_r0_1 := r0.free 1
    have c_r1_0 := r1.cell (j := 0) rfl
    have f_r1_0 := r1.free 0
    have c_r1_1 := r1.cell (j := 1) rfl
    have f_r1_1 := r1.free 1
    go_wp2_with fail
    clear c_b0_0 f_b0_0 c_b0_1 f_b0_1 c_b1_0 f_b1_0 c_b1_1 f_b1_1 c_r0_0 f_r0_0 c_r0_1 f_r0_1 c_r1_0 f_r1_0 c_r1_1 f_r1_1
    refine (calls_rj (rtrim_any sb _ _ _ (dg (val xs / val ys)) _ o3.sl (by omega)) HSG.out rfl rfl).mono ?_
    rintro e V12 ⟨p5, cc5, rfl, o5, ff⟩
    have hsz12 := ff.size
    replace hw := hw.trans ff (by simp)
    replace o1 := o1.kept ff
    replace o2 := o2.kept ff
    replace o3 := o3.kept ff
    replace o4 := o4.kept ff
    replace b0 := b0.kept ff
    replace b1 := b1.kept ff
    replace r0 := r0.kept ff
    replace r1 := r1.kept ff
    clear ff
    have c_b0_0 := b0.cell (j := 0) rfl
    have f_b0_0 := b0.free 0
    have c_b0_1 := b0.cell (j := 1) rfl
    have f_b0_1 := b0.free 1
    have c_b1_0 := b1.cell (j := 0) rfl
    have f_b1_0 := b1.free 0
    have c_b1_1 := b1.cell (j := 1) rfl
    have f_b1_1 := b1.free 1
    have c_r0_0 := r0.cell (j := 0) rfl
    have f_r0_0 := r0.free 0
    have c_r0_1 := r0.cell (j := 1) rfl
    have f_r0_1 := r0.free 1
    have c_r1_0 := r1.cell (j := 0) rfl
    have f_r1_0 := r1.free 0
    have c_r1_1 := r1.cell (j := 1) rfl
    have f_r1_1 := r1.free 1
    go_wp2
    have z0 := hsz12
    exact fin_pair (base := V11.heap.size) (base' := wc.heap.size) r0 r1 (by omega) hw o5 o4 (by omega) (by omega) (by omega) (by omega) (by omega) (by omega) rfl rfl rfl (by rw [Int.natAbs_natCast]) (decide_eq_false (by omega)).symm (fun W' c0 c1 c2 c3 => by simp [results, Tryz.results133, go_sem, c0, c1, c2, c3])

set_option maxRecDepth 100000 in
set_option maxHeartbeats 4000000 in
theorem rdiv_even (g h sb : Bool) (p q : Option Addr) (n c m d : Nat) (xs ys : List Nat) (w : World) (h1 : Sl w p n c xs) (h2 : Sl w q m d ys) (_hn : n ≤ 1048575) (_hm : m ≤ 1048575) (ha : decide (iv g (val xs) < 0) = true) (hb : decide (iv h (val ys) < 0) = sb) (h0 : val ys ≠ 0) (hk : val xs % val ys = 0) :
    Calls Tryz.prog 133 #[iw g p n c, iw h q m d] w (RetD w (iv g (val xs) / iv h (val ys)) (iv g (val xs) % iv h (val ys))) := by
  have l1 := dg_len_val h1.dig
  have l2 := dg_len_val h2.dig
  rw [h1.len] at l1
  rw [h2.len] at l2
  have hdk := div_keep (g := true) (h := sb) (a := val xs) h0 (Or.inr hk)
  rw [iv_of ha, iv_of hb, hdk.1, hdk.2, show (true != sb) = (!sb) by cases sb <;> rfl]
  have hlen : decide (0 < (dg (val xs % val ys)).length) = false := by rw [hk, dg_zero]; rfl
  have h0' : val (dg (val ys)) ≠ 0 := by rw [val_dg]; exact h0
  have lq := dg_len_mono (Nat.div_le_self (val xs) (val ys))
  have hsg : iv (!sb) (val (dg (val xs / val ys))) = iv (!sb) (val xs / val ys) := by rw [val_dg]
  have HSG := Lib.hid hsg
  have H0 := Lib.hid h0'
  clear h0 h0' hsg hdk hk
  go_enter Tryz.func133, Tryz.ntmps133
  go_wp2_with fail
  have g_h1 := h1
  have g_h2 := h2
  have hw : Fr [] w ((((w.alloc (Obj.cells #[.bool g, .slice p n c] 24)).alloc (Obj.cells #[.bool h, .slice q m d] 24)).alloc (Obj.cells #[.bool false, .slice none 0 0] 24)).alloc (Obj.cells #[.bool false, .slice none 0 0] 24)) := ((((Fr.refl _ _).alloc _).alloc _).alloc _).alloc _
  have b0 : Bx ((((w.alloc (Obj.cells #[.bool g, .slice p n c] 24)).alloc (Obj.cells #[.bool h, .slice q m d] 24)).alloc (Obj.cells #[.bool false, .slice none 0 0] 24)).alloc (Obj.cells #[.bool false, .slice none 0 0] 24)) w.heap.size 24 #[.bool g, .slice p n c] := (Bx.made' (by simp) _ _).kept ((((Fr.refl _ _).alloc _).alloc _).alloc _)
  have b1 : Bx ((((w.alloc (Obj.cells #[.bool g, .slice p n c] 24)).alloc (Obj.cells #[.bool h, .slice q m d] 24)).alloc (Obj.cells #[.bool false, .slice none 0 0] 24)).alloc (Obj.cells #[.bool false, .slice none 0 0] 24)) (w.heap.size + 1) 24 #[.bool h, .slice q m d] := (Bx.made' (by simp) _ _).kept (((Fr.refl _ _).alloc _).alloc _)
  have r0 : Bx ((((w.alloc (Obj.cells #[.bool g, .slice p n c] 24)).alloc (Obj.cells #[.bool h, .slice q m d] 24)).alloc (Obj.cells #[.bool false, .slice none 0 0] 24)).alloc (Obj.cells #[.bool false, .slice none 0 0] 24)) (w.heap.size + 2) 24 #[.bool false, .slice none 0 0] := (Bx.made' (by simp) _ _).kept ((Fr.refl _ _).alloc _)
  have r1 : Bx ((((w.alloc (Obj.cells #[.bool g, .slice p n c] 24)).alloc (Obj.cells #[.bool h, .slice q m d] 24)).alloc (Obj.cells #[.bool false, .slice none 0 0] 24)).alloc (Obj.cells #[.bool false, .slice none 0 0] 24)) (w.heap.size + 3) 24 #[.bool false, .slice none 0 0] := (Bx.made' (by simp) _ _).kept (Fr.refl _ _)
  generalize ((((w.alloc (Obj.cells #[.bool g, .slice p n c] 24)).alloc (Obj.cells #[.bool h, .slice q m d] 24)).alloc (Obj.cells #[.bool false, .slice none 0 0] 24)).alloc (Obj.cells #[.bool false, .slice none 0 0] 24)) = W at *
  have hbs := r1.lt
  replace h1 := h1.kept hw
  replace h2 := h2.kept hw
  go_upto_region 1 with fail
  go_cut [] (fun wx => ∃ (p1 p2 : Option Addr) (cc1 cc2 : Nat), Fr [] w wx ∧ W.heap.size ≤ wx.heap.size ∧ Bx wx w.heap.size 24 #[.bool true, .slice p1 (dg (val xs)).length cc1] ∧ Bx wx (w.heap.size + 1) 24 #[.bool sb, .slice p2 (dg (val ys)).length cc2] ∧ Ow wx W.heap.size p1 (dg (val xs)).length cc1 (dg (val xs)) ∧ Ow wx W.heap.size p2 (dg (val ys)).length cc2 (dg (val ys)) ∧ Bx wx (w.heap.size + 2) 24 #[.bool false, .slice none 0 0] ∧ Bx wx (w.heap.size + 3) 24 #[.bool false, .slice none 0 0])
  case first =>
    have HW := (Fr.refl [] W).drew
    have hsw := HW.size
    have c_b0_0 := b0.cell (j := 0) rfl
    have z_b0_0 := b0.free 0
    have c_b0_1 := b0.cell (j := 1) rfl
    have z_b0_1 := b0.free 1
    have c_b1_0 := b1.cell (j := 0) rfl
    have z_b1_0 := b1.free 0
    have c_b1_1 := b1.cell (j := 1) rfl
    have z_b1_1 := b1.free 1
    go_region_with (first
      | (go_at_call 142; (with_reducible refine (calls_ri (rtrim_any g p n c xs _ (h1.kept HW) (by omega)) ha (iv_abs _ _)).mono ?_); rintro e U1 ⟨p1, cc1, rfl, o1, ff⟩; replace HW := HW.trans ff (by simp); have c_b0_0 := (b0.kept HW).cell (j := 0) rfl; have z_b0_0 := (b0.kept HW).free 0; have c_b0_1 := (b0.kept HW).cell (j := 1) rfl; have z_b0_1 := (b0.kept HW).free 1; have c_b1_0 := (b1.kept HW).cell (j := 0) rfl; have z_b1_0 := (b1.kept HW).free 0; have c_b1_1 := (b1.kept HW).cell (j := 1) rfl; have z_b1_1 := (b1.kept HW).free 1; have hs1 := HW.size; clear ff)
      | (go_at_call 142; (with_reducible refine (calls_ri (rtrim_any h q m d ys _ (h2.kept HW) (by omega)) hb (iv_abs _ _)).mono ?_); rintro e U2 ⟨p2, cc2, rfl, o2, ff⟩; replace HW := HW.trans ff (by simp); have c_b0_0 := (b0.kept HW).cell (j := 0) rfl; have z_b0_0 := (b0.kept HW).free 0; have c_b0_1 := (b0.kept HW).cell (j := 1) rfl; have z_b0_1 := (b0.kept HW).free 1; have c_b1_0 := (b1.kept HW).cell (j := 0) rfl; have z_b1_0 := (b1.kept HW).free 0; have c_b1_1 := (b1.kept HW).cell (j := 1) rfl; have z_b1_1 := (b1.kept HW).free 1; replace o1 := o1.kept ff; have hs2 := HW.size; clear ff))
    all_goals
      go_wp2_with fail
      go_meet
      exact ⟨p1, p2, cc1, cc2, ((hw.trans HW (by simp)).set2 (b := w.heap.size) (by omega) _ _).set2 (b := w.heap.size + 1) (by omega) _ _, (by rw [set2_size, set2_size]; exact HW.size), ((b0.kept HW).set2 _ _).far (b := w.heap.size + 1) (by omega) _ _, ((b1.kept HW).far (b := w.heap.size) (by omega) _ _).set2 _ _, ((o1.mono (by omega)).set2 (b := w.heap.size) (by omega) _ _).set2 (b := w.heap.size + 1) (by omega) _ _, ((o2.mono (by omega)).set2 (b := w.heap.size) (by omega) _ _).set2 (b := w.heap.size + 1) (by omega) _ _, ((r0.kept HW).far (b := w.heap.size) (by omega) _ _).far (b := w.heap.size + 1) (by omega) _ _, ((r1.kept HW).far (b := w.heap.size) (by omega) _ _).far (b := w.heap.size + 1) (by omega) _ _⟩
  case rest =>
    obtain ⟨p1, p2, cc1, cc2, hw, hsz, b0, b1, o1, o2, r0, r1⟩ := hcut
    clear h1 h2 g_h1 g_h2
    have c_b0_0 := b0.cell (j := 0) rfl
    have f_b0_0 := b0.free 0
    have c_b0_1 := b0.cell (j := 1) rfl
    have f_b0_1 := b0.free 1
    have c_b1_0 := b1.cell (j := 0) rfl
    have f_b1_0 := b1.free 0
    have c_b1_1 := b1.cell (j := 1) rfl
    have f_b1_1 := b1.free 1
    have c_r0_0 := r0.cell (j := 0) rfl
    have f_r0_0 := r0.free 0
    have c_r0_1 := r0.cell (j := 1) rfl
    have f_r0_1 := r0.free 1
    have c_r1_0 := r1.cell (j := 0) rfl
    have f_r1_0 := r1.free 0
    have c_r1_1 := r1.cell (j := 1) rfl
    have f_r1_1 := r1.free 1
    go_wp2_with fail
    clear c_b0_0 f_b0_0 c_b0_1 f_b0_1 c_b1_0 f_b1_0 c_b1_1 f_b1_1 c_r0_0 f_r0_0 c_r0_1 f_r0_1 c_r1_0 f_r1_0 c_r1_1 f_r1_1
    refine (rdivmod_yes _ _ _ _ _ _ _ _ _ o1.sl o2.sl (by omega) (by omega) H0.out).mono ?_
    simp only [val_dg]
    rintro e V11 ⟨p3, cc3, p4, cc4, rfl, o3, o4, ff⟩
    have hsz11 := ff.size
    replace hw := hw.trans ff (by simp)
    replace o1 := o1.kept ff
    replace o2 := o2.kept ff
    replace b0 := b0.kept ff
    replace b1 := b1.kept ff
    replace r0 := r0.kept ff
    replace r1 := r1.kept ff
    clear ff
    have c_b0_0 := b0.cell (j := 0) rfl
    have f_b0_0 := b0.free 0
    have c_b0_1 := b0.cell (j := 1) rfl
    have f_b0_1 := b0.free 1
    have c_b1_0 := b1.cell (j := 0) rfl
    have f_b1_0 := b1.free 0
    have c_b1_1 := b1.cell (j := 1) rfl
    have f_b1_1 := b1.free 1
    have c_r0_0 := r0.cell (j := 0) rfl
    have f_r0_0 := r0.free 0
    have c_r0_1 := r0.cell (j := 1) rfl
    have f_r0_1 := r0.free 1
    have c_r1_0 := r1.cell (j := 0) rfl
    have f_r1_0 := r1.free 0
    have c_r1_1 := r1.cell (j := 1) rfl
    have f_r1_1 := r1.free 1
    go_wp2_with fail
    clear c_b0_0 f_b0_0 c_b0_1 f_b0_1 c_b1_0 f_b1_0 c_b1_1 f_b1_1 c_r0_0 f_r0_0 c_r0_1 f_r0_1 c_r1_0 f_r1_0 c_r1_1 f_r1_1
    refine (calls_rj (rtrim_any (!sb) _ _ _ (dg (val xs / val ys)) _ o3.sl (by omega)) HSG.out rfl rfl).mono ?_
    rintro e V12 ⟨p5, cc5, rfl, o5, ff⟩
    have hsz12 := ff.size
    replace hw := hw.trans ff (by simp)
    replace o1 := o1.kept ff
    replace o2 := o2.kept ff
    replace o3 := o3.kept ff
    replace o4 := o4.kept ff
    replace b0 := b0.kept ff
    replace b1 := b1.kept ff
    replace r0 := r0.kept ff
    replace r1 := r1.kept ff
    clear ff
    have c_b0_0 := b0.cell (j := 0) rfl
    have f_b0_0 := b0.free 0
    have c_b0_1 := b0.cell (j := 1) rfl
    have f_b0_1 := b0.free 1
    have c_b1_0 := b1.cell (j := 0) rfl
    have f_b1_0 := b1.free 0
    have c_b1_1 := b1.cell (j := 1) rfl
    have f_b1_1 := b1.free 1
    have c_r0_0 := r0.cell (j := 0) rfl
    have f_r0_0 := r0.free 0
    have c_r0_1 := r0.cell (j := 1) rfl
    have f_r0_1 := r0.free 1
    have c_r1_0 := r1.cell (j := 0) rfl
    have f_r1_0 := r1.free 0
    have c_r1_1 := r1.cell (j := 1) rfl
    have f_r1_1 := r1.free 1
    go_wp2
    have z0 := hsz12
    exact fin_pair (base := V11.heap.size) (base' := wc.heap.size) r0 r1 (by omega) hw o5 o4 (by omega) (by omega) (by omega) (by omega) (by omega) (by omega) rfl rfl rfl (by rw [Int.natAbs_natCast]) (decide_eq_false (by omega)).symm (fun W' c0 c1 c2 c3 => by simp [results, Tryz.results133, go_sem, c0, c1, c2, c3])

set_option maxRecDepth 100000 in
set_option maxHeartbeats 4000000 in
theorem rdiv_up (g h sb : Bool) (p q : Option Addr) (n c m d : Nat) (xs ys : List Nat) (w : World) (h1 : Sl w p n c xs) (h2 : Sl w q m d ys) (_hn : n ≤ 1048575) (_hm : m ≤ 1048575) (ha : decide (iv g (val xs) < 0) = true) (hb : decide (iv h (val ys) < 0) = sb) (h0 : val ys ≠ 0) (hk : val xs % val ys ≠ 0) :
    Calls Tryz.prog 133 #[iw g p n c, iw h q m d] w (RetD w (iv g (val xs) / iv h (val ys)) (iv g (val xs) % iv h (val ys))) := by
  have l1 := dg_len_val h1.dig
  have l2 := dg_len_val h2.dig
  rw [h1.len] at l1
  rw [h2.len] at l2
  have hdk := div_up (h := sb) (a := val xs) h0 hk
  rw [iv_of ha, iv_of hb, hdk.1, hdk.2, show (true != sb) = (!sb) by cases sb <;> rfl]
  have hlen : decide (0 < (dg (val xs % val ys)).length) = true := (dg_len_pos (val xs % val ys)).trans (decide_eq_true (by omega))
  have h0' : val (dg (val ys)) ≠ 0 := by rw [val_dg]; exact h0
  have lq := dg_len_mono (Nat.div_le_self (val xs) (val ys))
  have lr := dg_len_mono (Nat.mod_le (val xs) (val ys))
  have lq1 := dg_add_len (val xs / val ys) 1
  have l1o : (dg 1).length ≤ 1 := dg_len_le (by decide)
  have hsg : iv (!sb) (val (dg (val xs / val ys + 1))) = iv (!sb) (val xs / val ys + 1) := by rw [val_dg]
  have hv1 : val (dg (val xs / val ys)) + val [1] = val xs / val ys + 1 := by rw [val_dg, val_one]
  have hv2 : val (dg (val ys)) - val (dg (val xs % val ys)) = val ys - val xs % val ys := by rw [val_dg, val_dg]
  have HSG := Lib.hid hsg
  have H0 := Lib.hid h0'
  have HV1 := Lib.hid hv1
  have HV2 := Lib.hid hv2
  clear h0 h0' hsg hdk hk hv1 hv2
  go_enter Tryz.func133, Tryz.ntmps133
  go_wp2_with fail
  have g_h1 := h1
  have g_h2 := h2
  have hw : Fr [] w ((((w.alloc (Obj.cells #[.bool g, .slice p n c] 24)).alloc (Obj.cells #[.bool h, .slice q m d] 24)).alloc (Obj.cells #[.bool false, .slice none 0 0] 24)).alloc (Obj.cells #[.bool false, .slice none 0 0] 24)) := ((((Fr.refl _ _).alloc _).alloc _).alloc _).alloc _
  have b0 : Bx ((((w.alloc (Obj.cells #[.bool g, .slice p n c] 24)).alloc (Obj.cells #[.bool h, .slice q m d] 24)).alloc (Obj.cells #[.bool false, .slice none 0 0] 24)).alloc (Obj.cells #[.bool false, .slice none 0 0] 24)) w.heap.size 24 #[.bool g, .slice p n c] := (Bx.made' (by simp) _ _).kept ((((Fr.refl _ _).alloc _).alloc _).alloc _)
  have b1 : Bx ((((w.alloc (Obj.cells #[.bool g, .slice p n c] 24)).alloc (Obj.cells #[.bool h, .slice q m d] 24)).alloc (Obj.cells #[.bool false, .slice none 0 0] 24)).alloc (Obj.cells #[.bool false, .slice none 0 0] 24)) (w.heap.size + 1) 24 #[.bool h, .slice q m d] := (Bx.made' (by simp) _ _).kept (((Fr.refl _ _).alloc _).alloc _)
  have r0 : Bx ((((w.alloc (Obj.cells #[.bool g, .slice p n c] 24)).alloc (Obj.cells #[.bool h, .slice q m d] 24)).alloc (Obj.cells #[.bool false, .slice none 0 0] 24)).alloc (Obj.cells #[.bool false, .slice none 0 0] 24)) (w.heap.size + 2) 24 #[.bool false, .slice none 0 0] := (Bx.made' (by simp) _ _).kept ((Fr.refl _ _).alloc _)
  have r1 : Bx ((((w.alloc (Obj.cells #[.bool g, .slice p n c] 24)).alloc (Obj.cells #[.bool h, .slice q m d] 24)).alloc (Obj.cells #[.bool false, .slice none 0 0] 24)).alloc (Obj.cells #[.bool false, .slice none 0 0] 24)) (w.heap.size + 3) 24 #[.bool false, .slice none 0 0] := (Bx.made' (by simp) _ _).kept (Fr.refl _ _)
  generalize ((((w.alloc (Obj.cells #[.bool g, .slice p n c] 24)).alloc (Obj.cells #[.bool h, .slice q m d] 24)).alloc (Obj.cells #[.bool false, .slice none 0 0] 24)).alloc (Obj.cells #[.bool false, .slice none 0 0] 24)) = W at *
  have hbs := r1.lt
  replace h1 := h1.kept hw
  replace h2 := h2.kept hw
  go_upto_region 1 with fail
  go_cut [] (fun wx => ∃ (p1 p2 : Option Addr) (cc1 cc2 : Nat), Fr [] w wx ∧ W.heap.size ≤ wx.heap.size ∧ Bx wx w.heap.size 24 #[.bool true, .slice p1 (dg (val xs)).length cc1] ∧ Bx wx (w.heap.size + 1) 24 #[.bool sb, .slice p2 (dg (val ys)).length cc2] ∧ Ow wx W.heap.size p1 (dg (val xs)).length cc1 (dg (val xs)) ∧ Ow wx W.heap.size p2 (dg (val ys)).length cc2 (dg (val ys)) ∧ Bx wx (w.heap.size + 2) 24 #[.bool false, .slice none 0 0] ∧ Bx wx (w.heap.size + 3) 24 #[.bool false, .slice none 0 0])
  case first =>
    have HW := (Fr.refl [] W).drew
    have hsw := HW.size
    have c_b0_0 := b0.cell (j := 0) rfl
    have z_b0_0 := b0.free 0
    have c_b0_1 := b0.cell (j := 1) rfl
    have z_b0_1 := b0.free 1
    have c_b1_0 := b1.cell (j := 0) rfl
    have z_b1_0 := b1.free 0
    have c_b1_1 := b1.cell (j := 1) rfl
    have z_b1_1 := b1.free 1
    go_region_with (first
      | (go_at_call 142; (with_reducible refine (calls_ri (rtrim_any g p n c xs _ (h1.kept HW) (by omega)) ha (iv_abs _ _)).mono ?_); rintro e U1 ⟨p1, cc1, rfl, o1, ff⟩; replace HW := HW.trans ff (by simp); have c_b0_0 := (b0.kept HW).cell (j := 0) rfl; have z_b0_0 := (b0.kept HW).free 0; have c_b0_1 := (b0.kept HW).cell (j := 1) rfl; have z_b0_1 := (b0.kept HW).free 1; have c_b1_0 := (b1.kept HW).cell (j := 0) rfl; have z_b1_0 := (b1.kept HW).free 0; have c_b1_1 := (b1.kept HW).cell (j := 1) rfl; have z_b1_1 := (b1.kept HW).free 1; have hs1 := HW.size; clear ff)
      | (go_at_call 142; (with_reducible refine (calls_ri (rtrim_any h q m d ys _ (h2.kept HW) (by omega)) hb (iv_abs _ _)).mono ?_); rintro e U2 ⟨p2, cc2, rfl, o2, ff⟩; replace HW := HW.trans ff (by simp); have c_b0_0 := (b0.kept HW).cell (j := 0) rfl; have z_b0_0 := (b0.kept HW).free 0; have c_b0_1 := (b0.kept HW).cell (j := 1) rfl; have z_b0_1 := (b0.kept HW).free 1; have c_b1_0 := (b1.kept HW).cell (j := 0) rfl; have z_b1_0 := (b1.kept HW).free 0; have c_b1_1 := (b1.kept HW).cell (j := 1) rfl; have z_b1_1 := (b1.kept HW).free 1; replace o1 := o1.kept ff; have hs2 := HW.size; clear ff))
    all_goals
      go_wp2_with fail
      go_meet
      exact ⟨p1, p2, cc1, cc2, ((hw.trans HW (by simp)).set2 (b := w.heap.size) (by omega) _ _).set2 (b := w.heap.size + 1) (by omega) _ _, (by rw [set2_size, set2_size]; exact HW.size), ((b0.kept HW).set2 _ _).far (b := w.heap.size + 1) (by omega) _ _, ((b1.kept HW).far (b := w.heap.size) (by omega) _ _).set2 _ _, ((o1.mono (by omega)).set2 (b := w.heap.size) (by omega) _ _).set2 (b := w.heap.size + 1) (by omega) _ _, ((o2.mono (by omega)).set2 (b := w.heap.size) (by omega) _ _).set2 (b := w.heap.size + 1) (by omega) _ _, ((r0.kept HW).far (b := w.heap.size) (by omega) _ _).far (b := w.heap.size + 1) (by omega) _ _, ((r1.kept HW).far (b := w.heap.size) (by omega) _ _).far (b := w.heap.size + 1) (by omega) _ _⟩
  case rest =>
    obtain ⟨p1, p2, cc1, cc2, hw, hsz, b0, b1, o1, o2, r0, r1⟩ := hcut
    clear h1 h2 g_h1 g_h2
    have c_b0_0 := b0.cell (j := 0) rfl
    have f_b0_0 := b0.free 0
    have c_b0_1 := b0.cell (j := 1) rfl
    have f_b0_1 := b0.free 1
    have c_b1_0 := b1.cell (j := 0) rfl
    have f_b1_0 := b1.free 0
    have c_b1_1 := b1.cell (j := 1) rfl
    have f_b1_1 := b1.free 1
    have c_r0_0 := r0.cell (j := 0) rfl
    have f_r0_0 := r0.free 0
    have c_r0_1 := r0.cell (j := 1) rfl
    have f_r0_1 := r0.free 1
    have c_r1_0 := r1.cell (j := 0) rfl
    have f_r1_0 := r1.free 0
    have c_r1_1 := r1.cell (j := 1) rfl
    have f_r1_1 := r1.free 1
    go_wp2_with fail
    clear c_b0_0 f_b0_0 c_b0_1 f_b0_1 c_b1_0 f_b1_0 c_b1_1 f_b1_1 c_r0_0 f_r0_0 c_r0_1 f_r0_1 c_r1_0 f_r1_0 c_r1_1 f_r1_1
    refine (rdivmod_yes _ _ _ _ _ _ _ _ _ o1.sl o2.sl (by omega) (by omega) H0.out).mono ?_
    simp only [val_dg]
    rintro e V11 ⟨p3, cc3, p4, cc4, rfl, o3, o4, ff⟩
    have hsz11 := ff.size
    replace hw := hw.trans ff (by simp)
    replace o1 := o1.kept ff
    replace o2 := o2.kept ff
    replace b0 := b0.kept ff
    replace b1 := b1.kept ff
    replace r0 := r0.kept ff
    replace r1 := r1.kept ff
    clear ff
    have c_b0_0 := b0.cell (j := 0) rfl
    have f_b0_0 := b0.free 0
    have c_b0_1 := b0.cell (j := 1) rfl
    have f_b0_1 := b0.free 1
    have c_b1_0 := b1.cell (j := 0) rfl
    have f_b1_0 := b1.free 0
    have c_b1_1 := b1.cell (j := 1) rfl
    have f_b1_1 := b1.free 1
    have c_r0_0 := r0.cell (j := 0) rfl
    have f_r0_0 := r0.free 0
    have c_r0_1 := r0.cell (j := 1) rfl
    have f_r0_1 := r0.free 1
    have c_r1_0 := r1.cell (j := 0) rfl
    have f_r1_0 := r1.free 0
    have c_r1_1 := r1.cell (j := 1) rfl
    have f_r1_1 := r1.free 1
    go_wp2_with fail
    clear c_b0_0 f_b0_0 c_b0_1 f_b0_1 c_b1_0 f_b1_0 c_b1_1 f_b1_1 c_r0_0 f_r0_0 c_r0_1 f_r0_1 c_r1_0 f_r1_0 c_r1_1 f_r1_1
    have k1 := b1.cell (j := 1) rfl
    go_region_held3 (fun w' => w'.cell? ⟨w.heap.size + 1, 1, none⟩ = some (.slice p2 (dg (val ys)).length cc2)) (first | exact k1 | exact (b1.kept ((Fr.refl [] V11).drew.alloc _)).cell (j := 1) rfl)
      (first
      | (go_at_call 167; refine (radd_any _ _ _ _ _ _ _ [1] _ (o3.sl.kept ((Fr.refl [] V11).drew.alloc _)) (made1 (w := V11.drew) rfl rfl (by decide)) (by omega) (by decide)).mono ?_; rintro e V12 ⟨p5, cc5, rfl, o5, f3⟩; have hf2 : Fr [] V11 V12 := ((Fr.refl [] V11).drew.alloc _).trans f3 (by simp); have k1 := (b1.kept hf2).cell (j := 1) rfl; have hb3 : V11.heap.size ≤ (V11.drew.alloc (Obj.cells #[.int .u32 1] 52)).heap.size := ((Fr.refl [] V11).drew.alloc _).size)
      | (go_at_call 169; (with_reducible refine (rsub_any _ _ _ _ _ _ _ _ _ (o2.sl.kept hf2) (o4.sl.kept hf2) (by omega) (by omega)).mono ?_); rintro e V13 ⟨p6, cc6, rfl, o6, f4⟩; have hf3 : Fr [] V11 V13 := hf2.trans f4 (by simp); have k1 := (b1.kept hf3).cell (j := 1) rfl; have o5 := o5.kept f4; have hsz13 := hf2.size; have hsz13c := hf3.size))
    rw [HV1.out] at o5 ⊢
    rw [HV2.out] at o6 ⊢
    replace hw := hw.trans hf3 (by simp)
    replace b0 := b0.kept hf3
    replace b1 := b1.kept hf3
    replace r0 := r0.kept hf3
    replace r1 := r1.kept hf3
    replace o5 := o5.mono hb3
    replace o6 := o6.mono hsz13
    clear hf2 hf3 f3 f4 k1 o1 o2 o3 o4
    have c_b0_0 := b0.cell (j := 0) rfl
    have f_b0_0 := b0.free 0
    have c_b0_1 := b0.cell (j := 1) rfl
    have f_b0_1 := b0.free 1
    have c_b1_0 := b1.cell (j := 0) rfl
    have f_b1_0 := b1.free 0
    have c_b1_1 := b1.cell (j := 1) rfl
    have f_b1_1 := b1.free 1
    have c_r0_0 := r0.cell (j := 0) rfl
    have f_r0_0 := r0.free 0
    have c_r0_1 := r0.cell (j := 1) rfl
    have f_r0_1 := r0.free 1
    have c_r1_0 := r1.cell (j := 0) rfl
    have f_r1_0 := r1.free 0
    have c_r1_1 := r1.cell (j := 1) rfl
    have f_r1_1 := r1.free 1
    go_wp2_with fail
    clear c_b0_0 f_b0_0 c_b0_1 f_b0_1 c_b1_0 f_b1_0 c_b1_1 f_b1_1 c_r0_0 f_r0_0 c_r0_1 f_r0_1 c_r1_0 f_r1_0 c_r1_1 f_r1_1
    refine (calls_rj (rtrim_any (!sb) _ _ _ (dg (val xs / val ys + 1)) _ o5.sl (by omega)) HSG.out rfl rfl).mono ?_
    rintro e V14 ⟨p7, cc7, rfl, o7, ff⟩
    have hsz14 := ff.size
    replace hw := hw.trans ff (by simp)
    replace o5 := o5.kept ff
    replace o6 := o6.kept ff
    replace b0 := b0.kept ff
    replace b1 := b1.kept ff
    replace r0 := r0.kept ff
    replace r1 := r1.kept ff
    clear ff
    have c_b0_0 := b0.cell (j := 0) rfl
    have f_b0_0 := b0.free 0
    have c_b0_1 := b0.cell (j := 1) rfl
    have f_b0_1 := b0.free 1
    have c_b1_0 := b1.cell (j := 0) rfl
    have f_b1_0 := b1.free 0
    have c_b1_1 := b1.cell (j := 1) rfl
    have f_b1_1 := b1.free 1
    have c_r0_0 := r0.cell (j := 0) rfl
    have f_r0_0 := r0.free 0
    have c_r0_1 := r0.cell (j := 1) rfl
    have f_r0_1 := r0.free 1
    have c_r1_0 := r1.cell (j := 0) rfl
    have f_r1_0 := r1.free 0
    have c_r1_1 := r1.cell (j := 1) rfl
    have f_r1_1 := r1.free 1
    go_wp2
    exact fin_pair (base := V13.heap.size) (base' := V11.heap.size) r0 r1 (by omega) hw o7 o6 (by omega) (by omega) (by omega) (by omega) (by omega) (by omega) rfl rfl rfl (by rw [Int.natAbs_natCast]) (decide_eq_false (by omega)).symm (fun W' c0 c1 c2 c3 => by simp [results, Tryz.results133, go_sem, c0, c1, c2, c3])

set_option maxRecDepth 100000 in
set_option maxHeartbeats 2000000 in
theorem iabs_v (g : Bool) (p : Option Addr) (n c : Nat) (xs : List Nat) (w : World) (h1 : Sl w p n c xs) (_hn : n ≤ 1048576) :
    Calls Tryz.prog 115 #[iw g p n c] w (RetI w (((iv g (val xs)).natAbs : Nat) : Int)) := by
  go_enter Tryz.func115, Tryz.ntmps115
  go_wp2_with fail
  have g_h1 := h1
  have hw : Fr [] w ((w.alloc (Obj.cells #[.bool g, .slice p n c] 24)).alloc (Obj.cells #[.bool false, .slice none 0 0] 24)) := ((Fr.refl _ _).alloc _).alloc _
  have b0 : Bx ((w.alloc (Obj.cells #[.bool g, .slice p n c] 24)).alloc (Obj.cells #[.bool false, .slice none 0 0] 24)) w.heap.size 24 #[.bool g, .slice p n c] := (Bx.made' (by simp) _ _).kept ((Fr.refl _ _).alloc _)
  have r0 : Bx ((w.alloc (Obj.cells #[.bool g, .slice p n c] 24)).alloc (Obj.cells #[.bool false, .slice none 0 0] 24)) (w.heap.size + 1) 24 #[.bool false, .slice none 0 0] := (Bx.made' (by simp) _ _).kept (Fr.refl _ _)
  generalize ((w.alloc (Obj.cells #[.bool g, .slice p n c] 24)).alloc (Obj.cells #[.bool false, .slice none 0 0] 24)) = W at *
  have hbs := r0.lt
  replace h1 := h1.kept hw
  have c_b0_0 := b0.cell (j := 0) rfl
  have f_b0_0 := b0.free 0
  have c_b0_1 := b0.cell (j := 1) rfl
  have f_b0_1 := b0.free 1
  have c_r0_0 := r0.cell (j := 0) rfl
  have f_r0_0 := r0.free 0
  have c_r0_1 := r0.cell (j := 1) rfl
  have f_r0_1 := r0.free 1
  go_wp2_with fail
  clear c_b0_0 f_b0_0 c_b0_1 f_b0_1 c_r0_0 f_r0_0 c_r0_1 f_r0_1
  refine (trim_any _ _ _ _ _ h1 (by omega)).mono ?_
  rintro e V1 ⟨p1, cc1, rfl, o1, ff⟩
  have hsz1 := ff.size
  replace hw := hw.trans ff (by simp)
  replace h1 := h1.kept ff
  replace b0 := b0.kept ff
  replace r0 := r0.kept ff
  clear ff
  have c_b0_0 := b0.cell (j := 0) rfl
  have f_b0_0 := b0.free 0
  have c_b0_1 := b0.cell (j := 1) rfl
  have f_b0_1 := b0.free 1
  have c_r0_0 := r0.cell (j := 0) rfl
  have f_r0_0 := r0.free 0
  have c_r0_1 := r0.cell (j := 1) rfl
  have f_r0_1 := r0.free 1
  go_wp2_with fail
  clear c_b0_0 f_b0_0 c_b0_1 f_b0_1 c_r0_0 f_r0_0 c_r0_1 f_r0_1
  refine (signed_any _ _ _ _ _).mono ?_
  rintro e V2 ⟨rfl, ff⟩
  have hsz2 := ff.size
  replace hw := hw.trans ff (by simp)
  replace h1 := h1.kept ff
  replace o1 := o1.kept ff
  replace b0 := b0.kept ff
  replace r0 := r0.kept ff
  clear ff
  have c_b0_0 := b0.cell (j := 0) rfl
  have f_b0_0 := b0.free 0
  have c_b0_1 := b0.cell (j := 1) rfl
  have f_b0_1 := b0.free 1
  have c_r0_0 := r0.cell (j := 0) rfl
  have f_r0_0 := r0.free 0
  have c_r0_1 := r0.cell (j := 1) rfl
  have f_r0_1 := r0.free 1
  go_wp2
  exact fin_ret r0 hw o1 (by omega) (by omega) rfl (by rw [Int.natAbs_natCast, iv_abs]) (by exact (decide_eq_false (by omega)).symm) (fun W' c0 c1 => by simp [results, Tryz.results115, go_sem, c0, c1])

theorem rdiv_any (g h : Bool) (p q : Option Addr) (n c m d : Nat) (xs ys : List Nat) (w : World) (h1 : Sl w p n c xs) (h2 : Sl w q m d ys) (hn : n ≤ 1048575) (hm : m ≤ 1048575) (h0 : val ys ≠ 0) :
    Calls Tryz.prog 133 #[iw g p n c, iw h q m d] w (RetD w (iv g (val xs) / iv h (val ys)) (iv g (val xs) % iv h (val ys))) := by
  cases ha : decide (iv g (val xs) < 0)
  · exact rdiv_pos g h _ p q n c m d xs ys w h1 h2 hn hm ha rfl h0
  · by_cases hk : val xs % val ys = 0
    · exact rdiv_even g h _ p q n c m d xs ys w h1 h2 hn hm ha rfl h0 hk
    · exact rdiv_up g h _ p q n c m d xs ys w h1 h2 hn hm ha rfl h0 hk

end Go.Proofs.YtagciepnhjbopaaGreatDoor
