/- What the statements of this claim stand on: of Rat4, what they name -/
import Derived.Test.YtjjdbhohjphcoaaGreatDoorK20

namespace Go.Proofs.YtjjdbhohjphcoaaGreatDoor
open Go.RowKit

set_option maxRecDepth 100000 in
set_option maxHeartbeats 1000000 in
theorem plus_diff (L K : Nat) (g h : Bool) (p q p' q' : Option Addr) (n c m d n' c' m' d' : Nat) (xs ys xs' ys' : List Nat) (w : World) (h1 : Sl w p n c xs) (h2 : Sl w q m d ys) (h3 : Sl w p' n' c' xs') (h4 : Sl w q' m' d' ys') (_hn : n ≤ 524287) (_hm : m ≤ 524287) (_hn' : n' ≤ 524287) (_hm' : m' ≤ 524287) (_hL : n + m' + (n' + m) + 1 ≤ L) (_hK : m + m' ≤ K) (_hd : val ys ≠ val ys') :
    Calls Tryz.prog 117 #[fw g p n c false q m d, fw h p' n' c' false q' m' d'] w (RetF w (iv g (val xs) * (val ys' : Nat) + iv h (val xs') * (val ys : Nat)) (val ys * val ys') L K) := by
  have l1 := dg_len_val h1.dig
  rw [h1.len] at l1
  have l2 := dg_len_val h2.dig
  rw [h2.len] at l2
  have l3 := dg_len_val h3.dig
  rw [h3.len] at l3
  have l4 := dg_len_val h4.dig
  rw [h4.len] at l4
  obtain ⟨z_a, hz_a⟩ : ∃ z, iv g (val xs) * iv false (val ys') = z := ⟨_, rfl⟩
  obtain ⟨s_a, hs_a⟩ : ∃ s, decide (z_a < 0) = s := ⟨_, rfl⟩
  obtain ⟨M_a, hM_a⟩ : ∃ M, z_a.natAbs = M := ⟨_, rfl⟩
  have hv_a : iv s_a (val (dg M_a)) = z_a := by rw [val_dg]; exact iv_eq hs_a hM_a
  obtain ⟨z_b, hz_b⟩ : ∃ z, iv h (val xs') * iv false (val ys) = z := ⟨_, rfl⟩
  obtain ⟨s_b, hs_b⟩ : ∃ s, decide (z_b < 0) = s := ⟨_, rfl⟩
  obtain ⟨M_b, hM_b⟩ : ∃ M, z_b.natAbs = M := ⟨_, rfl⟩
  have hv_b : iv s_b (val (dg M_b)) = z_b := by rw [val_dg]; exact iv_eq hs_b hM_b
  obtain ⟨z_c, hz_c⟩ : ∃ z, z_a + z_b = z := ⟨_, rfl⟩
  obtain ⟨s_c, hs_c⟩ : ∃ s, decide (z_c < 0) = s := ⟨_, rfl⟩
  obtain ⟨M_c, hM_c⟩ : ∃ M, z_c.natAbs = M := ⟨_, rfl⟩
  have hv_c : iv s_c (val (dg M_c)) = z_c := by rw [val_dg]; exact iv_eq hs_c hM_c
  obtain ⟨z_e, hz_e⟩ : ∃ z, iv false (val ys) * iv false (val ys') = z := ⟨_, rfl⟩
  obtain ⟨s_e, hs_e⟩ : ∃ s, decide (z_e < 0) = s := ⟨_, rfl⟩
  obtain ⟨M_e, hM_e⟩ : ∃ M, z_e.natAbs = M := ⟨_, rfl⟩
  have hv_e : iv s_e (val (dg M_e)) = z_e := by rw [val_dg]; exact iv_eq hs_e hM_e
  have ka := len_mul (iv g (val xs)) (iv false (val ys'))
  rw [hz_a, hM_a, iv_abs, iv_abs] at ka
  have kb := len_mul (iv h (val xs')) (iv false (val ys))
  rw [hz_b, hM_b, iv_abs, iv_abs] at kb
  have kc := len_add z_a z_b
  rw [hz_c, hM_a, hM_b, hM_c] at kc
  have ke := len_mul (iv false (val ys)) (iv false (val ys'))
  rw [hz_e, hM_e, iv_abs, iv_abs] at ke
  have he1 : z_e = ((val ys * val ys' : Nat) : Int) := by rw [← hz_e, Int.natCast_mul]; rfl
  have hse : s_e = false := by rw [← hs_e, he1]; exact decide_eq_false (by omega)
  have hMe : M_e = val ys * val ys' := by rw [← hM_e, he1, Int.natAbs_natCast]
  have hZ : iv g (val xs) * (val ys' : Nat) + iv h (val xs') * (val ys : Nat) = z_c := by rw [← hz_c, ← hz_a, ← hz_b]; rfl
  have hc : (cmpZ (iv false (val ys)) (iv false (val ys')) == 0) = false := by
    apply beq_eq_false_iff_ne.2
    rw [cmpZ_pos]
    unfold cmpN
    split
    · decide
    · split
      · decide
      · omega
  obtain ⟨cz, hcz⟩ : ∃ z, cmpZ (iv false (val ys)) (iv false (val ys')) = z := ⟨_, rfl⟩
  rw [hcz] at hc
  rw [hZ, ← hMe]
  have HCZ := Lib.hid hcz
  have HSE := Lib.hid hse
  have HZ_a := Lib.hid hz_a
  have HS_a := Lib.hid hs_a
  have HM_a := Lib.hid hM_a
  have HV_a := Lib.hid hv_a
  have HZ_b := Lib.hid hz_b
  have HS_b := Lib.hid hs_b
  have HM_b := Lib.hid hM_b
  have HV_b := Lib.hid hv_b
  have HZ_c := Lib.hid hz_c
  have HS_c := Lib.hid hs_c
  have HM_c := Lib.hid hM_c
  have HV_c := Lib.hid hv_c
  have HZ_e := Lib.hid hz_e
  have HS_e := Lib.hid hs_e
  have HM_e := Lib.hid hM_e
  have HV_e := Lib.hid hv_e
  clear hz_a hs_a hM_a hv_a hz_b hs_b hM_b hv_b hz_c hs_c hM_c hv_c hz_e hs_e hM_e hv_e he1 hse hMe hZ hcz _hd
  go_enter Tryz.func117, Tryz.ntmps117
  go_wp2_with fail
  have g_h1 := h1
  have g_h2 := h2
  have g_h3 := h3
  have g_h4 := h4
  have hw : Fr [] w (((w.alloc (Obj.cells #[.bool g, .slice p n c, .bool false, .slice q m d] 75)).alloc (Obj.cells #[.bool h, .slice p' n' c', .bool false, .slice q' m' d'] 75)).alloc (Obj.cells #[.bool false, .slice none 0 0, .bool false, .slice none 0 0] 75)) := (((Fr.refl _ _).alloc _).alloc _).alloc _
  have b0 : Bx (((w.alloc (Obj.cells #[.bool g, .slice p n c, .bool false, .slice q m d] 75)).alloc (Obj.cells #[.bool h, .slice p' n' c', .bool false, .slice q' m' d'] 75)).alloc (Obj.cells #[.bool false, .slice none 0 0, .bool false, .slice none 0 0] 75)) w.heap.size 75 #[.bool g, .slice p n c, .bool false, .slice q m d] := (Bx.made' (by simp) _ _).kept (((Fr.refl _ _).alloc _).alloc _)
  have b1 : Bx (((w.alloc (Obj.cells #[.bool g, .slice p n c, .bool false, .slice q m d] 75)).alloc (Obj.cells #[.bool h, .slice p' n' c', .bool false, .slice q' m' d'] 75)).alloc (Obj.cells #[.bool false, .slice none 0 0, .bool false, .slice none 0 0] 75)) (w.heap.size + 1) 75 #[.bool h, .slice p' n' c', .bool false, .slice q' m' d'] := (Bx.made' (by simp) _ _).kept ((Fr.refl _ _).alloc _)
  have r0 : Bx (((w.alloc (Obj.cells #[.bool g, .slice p n c, .bool false, .slice q m d] 75)).alloc (Obj.cells #[.bool h, .slice p' n' c', .bool false, .slice q' m' d'] 75)).alloc (Obj.cells #[.bool false, .slice none 0 0, .bool false, .slice none 0 0] 75)) (w.heap.size + 2) 75 #[.bool false, .slice none 0 0, .bool false, .slice none 0 0] := (Bx.made' (by simp) _ _).kept (Fr.refl _ _)
  generalize (((w.alloc (Obj.cells #[.bool g, .slice p n c, .bool false, .slice q m d] 75)).alloc (Obj.cells #[.bool h, .slice p' n' c', .bool false, .slice q' m' d'] 75)).alloc (Obj.cells #[.bool false, .slice none 0 0, .bool false, .slice none 0 0] 75)) = W at *
  have hbs := r0.lt
  replace h1 := h1.kept hw
  replace h2 := h2.kept hw
  replace h3 := h3.kept hw
  replace h4 := h4.kept hw
  have c_b0_0 := b0.cell (j := 0) rfl
  have f_b0_0 := b0.free 0
  have c_b0_1 := b0.cell (j := 1) rfl
  have f_b0_1 := b0.free 1
  have c_b0_2 := b0.cell (j := 2) rfl
  have f_b0_2 := b0.free 2
  have c_b0_3 := b0.cell (j := 3) rfl
  have f_b0_3 := b0.free 3
  have c_b1_0 := b1.cell (j := 0) rfl
  have f_b1_0 := b1.free 0
  have c_b1_1 := b1.cell (j := 1) rfl
  have f_b1_1 := b1.free 1
  have c_b1_2 := b1.cell (j := 2) rfl
  have f_b1_2 := b1.free 2
  have c_b1_3 := b1.cell (j := 3) rfl
  have f_b1_3 := b1.free 3
  have c_r0_0 := r0.cell (j := 0) rfl
  have f_r0_0 := r0.free 0
  have c_r0_1 := r0.cell (j := 1) rfl
  have f_r0_1 := r0.free 1
  have c_r0_2 := r0.cell (j := 2) rfl
  have f_r0_2 := r0.free 2
  have c_r0_3 := r0.cell (j := 3) rfl
  have f_r0_3 := r0.free 3
  go_wp2_with fail
  clear c_b0_0 f_b0_0 c_b0_1 f_b0_1 c_b0_2 f_b0_2 c_b0_3 f_b0_3 c_b1_0 f_b1_0 c_b1_1 f_b1_1 c_b1_2 f_b1_2 c_b1_3 f_b1_3 c_r0_0 f_r0_0 c_r0_1 f_r0_1 c_r0_2 f_r0_2 c_r0_3 f_r0_3
  refine (icmp_any false false _ _ _ _ _ _ ys ys' _ h2 h4 (by omega) (by omega)).mono ?_
  rw [HCZ.out]
  rintro e V1 ⟨rfl, ff⟩
  have hsz1 := ff.size
  replace hw := hw.trans ff (by simp)
  replace h1 := h1.kept ff
  replace h2 := h2.kept ff
  replace h3 := h3.kept ff
  replace h4 := h4.kept ff
  replace b0 := b0.kept ff
  replace b1 := b1.kept ff
  replace r0 := r0.kept ff
  clear ff
  have hbW : w.heap.size + 2 < V1.heap.size := by omega
  go_wp2_with fail
  go_upto_region 3 with fail
  go_cut [5] (fun s5 wx => ∃ (A : Nat) (pc : Option Addr) (cc : Nat), s5 = .pointer (some ⟨A, 0, none⟩) ∧ V1.heap.size ≤ A ∧ Bx wx A 24 #[.bool s_c, .slice pc (dg M_c).length cc] ∧ Ow wx V1.heap.size pc (dg M_c).length cc (dg M_c) ∧ Bx wx w.heap.size 75 #[.bool g, .slice p n c, .bool false, .slice q m d] ∧ Bx wx (w.heap.size + 1) 75 #[.bool h, .slice p' n' c', .bool false, .slice q' m' d'] ∧ Bx wx (w.heap.size + 2) 75 #[.bool false, .slice none 0 0, .bool false, .slice none 0 0] ∧ Fr [] w wx)
  case first =>
    have Hw := hw.drew
    have hu0 := ((Fr.refl [] V1).drew).size
    have Nh1 := h1.kept (Fr.refl [] V1).drew
    have Nh2 := h2.kept (Fr.refl [] V1).drew
    have Nh3 := h3.kept (Fr.refl [] V1).drew
    have Nh4 := h4.kept (Fr.refl [] V1).drew
    have Nb0 := b0.kept (Fr.refl [] V1).drew
    have Nb1 := b1.kept (Fr.refl [] V1).drew
    have Nr0 := r0.kept (Fr.refl [] V1).drew
    have c_b0_0 := Nb0.cell (j := 0) rfl
    have c_b0_1 := Nb0.cell (j := 1) rfl
    have c_b0_2 := Nb0.cell (j := 2) rfl
    have c_b0_3 := Nb0.cell (j := 3) rfl
    have c_b1_0 := Nb1.cell (j := 0) rfl
    have c_b1_1 := Nb1.cell (j := 1) rfl
    have c_b1_2 := Nb1.cell (j := 2) rfl
    have c_b1_3 := Nb1.cell (j := 3) rfl
    have e_b0_0 := (b0.kept (((Fr.refl [] V1).alloc (Obj.cells #[.bool false, .slice none 0 0] 24)).drew)).cell (j := 0) rfl
    have e_b0_1 := (b0.kept (((Fr.refl [] V1).alloc (Obj.cells #[.bool false, .slice none 0 0] 24)).drew)).cell (j := 1) rfl
    have e_b0_2 := (b0.kept (((Fr.refl [] V1).alloc (Obj.cells #[.bool false, .slice none 0 0] 24)).drew)).cell (j := 2) rfl
    have e_b0_3 := (b0.kept (((Fr.refl [] V1).alloc (Obj.cells #[.bool false, .slice none 0 0] 24)).drew)).cell (j := 3) rfl
    have e_b1_0 := (b1.kept (((Fr.refl [] V1).alloc (Obj.cells #[.bool false, .slice none 0 0] 24)).drew)).cell (j := 0) rfl
    have e_b1_1 := (b1.kept (((Fr.refl [] V1).alloc (Obj.cells #[.bool false, .slice none 0 0] 24)).drew)).cell (j := 1) rfl
    have e_b1_2 := (b1.kept (((Fr.refl [] V1).alloc (Obj.cells #[.bool false, .slice none 0 0] 24)).drew)).cell (j := 2) rfl
    have e_b1_3 := (b1.kept (((Fr.refl [] V1).alloc (Obj.cells #[.bool false, .slice none 0 0] 24)).drew)).cell (j := 3) rfl
    go_region_held3 (fun w' => w'.cell? ⟨w.heap.size, 0, none⟩ = some (.bool g) ∧ w'.cell? ⟨w.heap.size, 1, none⟩ = some (.slice p n c) ∧ w'.cell? ⟨w.heap.size, 2, none⟩ = some (.bool false) ∧ w'.cell? ⟨w.heap.size, 3, none⟩ = some (.slice q m d) ∧ w'.cell? ⟨w.heap.size + 1, 0, none⟩ = some (.bool h) ∧ w'.cell? ⟨w.heap.size + 1, 1, none⟩ = some (.slice p' n' c') ∧ w'.cell? ⟨w.heap.size + 1, 2, none⟩ = some (.bool false) ∧ w'.cell? ⟨w.heap.size + 1, 3, none⟩ = some (.slice q' m' d')) (first | exact ⟨c_b0_0, c_b0_1, c_b0_2, c_b0_3, c_b1_0, c_b1_1, c_b1_2, c_b1_3⟩ | exact ⟨e_b0_0, e_b0_1, e_b0_2, e_b0_3, e_b1_0, e_b1_1, e_b1_2, e_b1_3⟩ | (with_reducible exact ⟨x_b0_0, x_b0_1, x_b0_2, x_b0_3, x_b1_0, x_b1_1, x_b1_2, x_b1_3⟩) | exact ⟨(Nb0.keep (S := [_]) (bset2_fr U3 _ _ _) (by simp; omega)).cell (j := 0) rfl, (Nb0.keep (S := [_]) (bset2_fr U3 _ _ _) (by simp; omega)).cell (j := 1) rfl, (Nb0.keep (S := [_]) (bset2_fr U3 _ _ _) (by simp; omega)).cell (j := 2) rfl, (Nb0.keep (S := [_]) (bset2_fr U3 _ _ _) (by simp; omega)).cell (j := 3) rfl, (Nb1.keep (S := [_]) (bset2_fr U3 _ _ _) (by simp; omega)).cell (j := 0) rfl, (Nb1.keep (S := [_]) (bset2_fr U3 _ _ _) (by simp; omega)).cell (j := 1) rfl, (Nb1.keep (S := [_]) (bset2_fr U3 _ _ _) (by simp; omega)).cell (j := 2) rfl, (Nb1.keep (S := [_]) (bset2_fr U3 _ _ _) (by simp; omega)).cell (j := 3) rfl⟩ | fail)
      (first
      | (go_at_call 99; (with_reducible refine (calls_ri (b := s_a) (m := M_a) (imul_any g false _ _ _ _ _ _ xs ys' _ Nh1 Nh4 (by omega) (by omega)) (by rw [HZ_a.out]; exact HS_a.out) (by rw [HZ_a.out]; exact HM_a.out)).mono ?_); rintro e U1 ⟨pa, ca, rfl, oa, ff⟩; have hu1 := ff.size; replace Hw := Hw.trans ff (by simp); replace Nh1 := Nh1.kept ff; replace Nh2 := Nh2.kept ff; replace Nh3 := Nh3.kept ff; replace Nh4 := Nh4.kept ff; replace Nb0 := Nb0.kept ff; replace Nb1 := Nb1.kept ff; replace Nr0 := Nr0.kept ff; (try replace Nb5 := Nb5.kept ff); clear ff; replace c_b0_0 := Nb0.cell (j := 0) rfl; replace c_b0_1 := Nb0.cell (j := 1) rfl; replace c_b0_2 := Nb0.cell (j := 2) rfl; replace c_b0_3 := Nb0.cell (j := 3) rfl; replace c_b1_0 := Nb1.cell (j := 0) rfl; replace c_b1_1 := Nb1.cell (j := 1) rfl; replace c_b1_2 := Nb1.cell (j := 2) rfl; replace c_b1_3 := Nb1.cell (j := 3) rfl; replace e_b0_0 := (Nb0.kept (Fr.new (w := U1) (Obj.cells #[.bool false, .slice none 0 0] 24))).cell (j := 0) rfl; replace e_b0_1 := (Nb0.kept (Fr.new (w := U1) (Obj.cells #[.bool false, .slice none 0 0] 24))).cell (j := 1) rfl; replace e_b0_2 := (Nb0.kept (Fr.new (w := U1) (Obj.cells #[.bool false, .slice none 0 0] 24))).cell (j := 2) rfl; replace e_b0_3 := (Nb0.kept (Fr.new (w := U1) (Obj.cells #[.bool false, .slice none 0 0] 24))).cell (j := 3) rfl; replace e_b1_0 := (Nb1.kept (Fr.new (w := U1) (Obj.cells #[.bool false, .slice none 0 0] 24))).cell (j := 0) rfl; replace e_b1_1 := (Nb1.kept (Fr.new (w := U1) (Obj.cells #[.bool false, .slice none 0 0] 24))).cell (j := 1) rfl; replace e_b1_2 := (Nb1.kept (Fr.new (w := U1) (Obj.cells #[.bool false, .slice none 0 0] 24))).cell (j := 2) rfl; replace e_b1_3 := (Nb1.kept (Fr.new (w := U1) (Obj.cells #[.bool false, .slice none 0 0] 24))).cell (j := 3) rfl; (try (have cn0 := Nb5.cell (j := 0) rfl; have fn0 := Nb5.free 0; have cn1 := Nb5.cell (j := 1) rfl; have fn1 := Nb5.free 1)))
      | (go_at_call 99; have hal : Fr [] V1 ((V1.alloc (Obj.cells #[.bool false, .slice none 0 0] 24)).drew) := ((Fr.refl [] V1).alloc _).drew; have hsA := hal.size; have hsB : V1.heap.size < ((V1.alloc (Obj.cells #[.bool false, .slice none 0 0] 24)).drew).heap.size := (by simp); replace Hw := hw.trans hal (by simp); replace Nh1 := h1.kept hal; replace Nh2 := h2.kept hal; replace Nh3 := h3.kept hal; replace Nh4 := h4.kept hal; replace Nb0 := b0.kept hal; replace Nb1 := b1.kept hal; replace Nr0 := r0.kept hal; have Nb5 : Bx ((V1.alloc (Obj.cells #[.bool false, .slice none 0 0] 24)).drew) V1.heap.size 24 #[.bool false, .slice none 0 0] := (Bx.made _ _ _).kept (Fr.refl [] _).drew; clear hal; (with_reducible refine (calls_ri (b := s_a) (m := M_a) (imul_any g false _ _ _ _ _ _ xs ys' _ Nh1 Nh4 (by omega) (by omega)) (by rw [HZ_a.out]; exact HS_a.out) (by rw [HZ_a.out]; exact HM_a.out)).mono ?_); rintro e U1 ⟨pa, ca, rfl, oa, ff⟩; have hu1 := ff.size; replace Hw := Hw.trans ff (by simp); replace Nh1 := Nh1.kept ff; replace Nh2 := Nh2.kept ff; replace Nh3 := Nh3.kept ff; replace Nh4 := Nh4.kept ff; replace Nb0 := Nb0.kept ff; replace Nb1 := Nb1.kept ff; replace Nr0 := Nr0.kept ff; (try replace Nb5 := Nb5.kept ff); clear ff; replace c_b0_0 := Nb0.cell (j := 0) rfl; replace c_b0_1 := Nb0.cell (j := 1) rfl; replace c_b0_2 := Nb0.cell (j := 2) rfl; replace c_b0_3 := Nb0.cell (j := 3) rfl; replace c_b1_0 := Nb1.cell (j := 0) rfl; replace c_b1_1 := Nb1.cell (j := 1) rfl; replace c_b1_2 := Nb1.cell (j := 2) rfl; replace c_b1_3 := Nb1.cell (j := 3) rfl; replace e_b0_0 := (Nb0.kept (Fr.new (w := U1) (Obj.cells #[.bool false, .slice none 0 0] 24))).cell (j := 0) rfl; replace e_b0_1 := (Nb0.kept (Fr.new (w := U1) (Obj.cells #[.bool false, .slice none 0 0] 24))).cell (j := 1) rfl; replace e_b0_2 := (Nb0.kept (Fr.new (w := U1) (Obj.cells #[.bool false, .slice none 0 0] 24))).cell (j := 2) rfl; replace e_b0_3 := (Nb0.kept (Fr.new (w := U1) (Obj.cells #[.bool false, .slice none 0 0] 24))).cell (j := 3) rfl; replace e_b1_0 := (Nb1.kept (Fr.new (w := U1) (Obj.cells #[.bool false, .slice none 0 0] 24))).cell (j := 0) rfl; replace e_b1_1 := (Nb1.kept (Fr.new (w := U1) (Obj.cells #[.bool false, .slice none 0 0] 24))).cell (j := 1) rfl; replace e_b1_2 := (Nb1.kept (Fr.new (w := U1) (Obj.cells #[.bool false, .slice none 0 0] 24))).cell (j := 2) rfl; replace e_b1_3 := (Nb1.kept (Fr.new (w := U1) (Obj.cells #[.bool false, .slice none 0 0] 24))).cell (j := 3) rfl; (try (have cn0 := Nb5.cell (j := 0) rfl; have fn0 := Nb5.free 0; have cn1 := Nb5.cell (j := 1) rfl; have fn1 := Nb5.free 1)))
      | (go_at_call 99; (with_reducible refine (calls_ri (b := s_b) (m := M_b) (imul_any h false _ _ _ _ _ _ xs' ys _ Nh3 Nh2 (by omega) (by omega)) (by rw [HZ_b.out]; exact HS_b.out) (by rw [HZ_b.out]; exact HM_b.out)).mono ?_); rintro e U2 ⟨pb, cb, rfl, ob, ff⟩; have hu2 := ff.size; replace Hw := Hw.trans ff (by simp); replace Nh1 := Nh1.kept ff; replace Nh2 := Nh2.kept ff; replace Nh3 := Nh3.kept ff; replace Nh4 := Nh4.kept ff; replace Nb0 := Nb0.kept ff; replace Nb1 := Nb1.kept ff; replace Nr0 := Nr0.kept ff; replace oa := oa.kept ff; (try replace Nb5 := Nb5.kept ff); clear ff; replace c_b0_0 := Nb0.cell (j := 0) rfl; replace c_b0_1 := Nb0.cell (j := 1) rfl; replace c_b0_2 := Nb0.cell (j := 2) rfl; replace c_b0_3 := Nb0.cell (j := 3) rfl; replace c_b1_0 := Nb1.cell (j := 0) rfl; replace c_b1_1 := Nb1.cell (j := 1) rfl; replace c_b1_2 := Nb1.cell (j := 2) rfl; replace c_b1_3 := Nb1.cell (j := 3) rfl; replace e_b0_0 := (Nb0.kept (Fr.new (w := U2) (Obj.cells #[.bool false, .slice none 0 0] 24))).cell (j := 0) rfl; replace e_b0_1 := (Nb0.kept (Fr.new (w := U2) (Obj.cells #[.bool false, .slice none 0 0] 24))).cell (j := 1) rfl; replace e_b0_2 := (Nb0.kept (Fr.new (w := U2) (Obj.cells #[.bool false, .slice none 0 0] 24))).cell (j := 2) rfl; replace e_b0_3 := (Nb0.kept (Fr.new (w := U2) (Obj.cells #[.bool false, .slice none 0 0] 24))).cell (j := 3) rfl; replace e_b1_0 := (Nb1.kept (Fr.new (w := U2) (Obj.cells #[.bool false, .slice none 0 0] 24))).cell (j := 0) rfl; replace e_b1_1 := (Nb1.kept (Fr.new (w := U2) (Obj.cells #[.bool false, .slice none 0 0] 24))).cell (j := 1) rfl; replace e_b1_2 := (Nb1.kept (Fr.new (w := U2) (Obj.cells #[.bool false, .slice none 0 0] 24))).cell (j := 2) rfl; replace e_b1_3 := (Nb1.kept (Fr.new (w := U2) (Obj.cells #[.bool false, .slice none 0 0] 24))).cell (j := 3) rfl; (try (have cn0 := Nb5.cell (j := 0) rfl; have fn0 := Nb5.free 0; have cn1 := Nb5.cell (j := 1) rfl; have fn1 := Nb5.free 1)))
      | (go_at_call 99; have hal : Fr [] U1 (U1.alloc (Obj.cells #[.bool false, .slice none 0 0] 24)) := Fr.new _; have hsB : U1.heap.size < (U1.alloc (Obj.cells #[.bool false, .slice none 0 0] 24)).heap.size := (by simp); replace Hw := Hw.trans hal (by simp); replace Nh1 := Nh1.kept hal; replace Nh2 := Nh2.kept hal; replace Nh3 := Nh3.kept hal; replace Nh4 := Nh4.kept hal; replace Nb0 := Nb0.kept hal; replace Nb1 := Nb1.kept hal; replace Nr0 := Nr0.kept hal; replace oa := oa.kept hal; (try replace Nb5 := Nb5.kept hal); have Nb5 : Bx (U1.alloc (Obj.cells #[.bool false, .slice none 0 0] 24)) U1.heap.size 24 #[.bool false, .slice none 0 0] := Bx.made _ _ _; clear hal; (with_reducible refine (calls_ri (b := s_b) (m := M_b) (imul_any h false _ _ _ _ _ _ xs' ys _ Nh3 Nh2 (by omega) (by omega)) (by rw [HZ_b.out]; exact HS_b.out) (by rw [HZ_b.out]; exact HM_b.out)).mono ?_); rintro e U2 ⟨pb, cb, rfl, ob, ff⟩; have hu2 := ff.size; replace Hw := Hw.trans ff (by simp); replace Nh1 := Nh1.kept ff; replace Nh2 := Nh2.kept ff; replace Nh3 := Nh3.kept ff; replace Nh4 := Nh4.kept ff; replace Nb0 := Nb0.kept ff; replace Nb1 := Nb1.kept ff; replace Nr0 := Nr0.kept ff; replace oa := oa.kept ff; (try replace Nb5 := Nb5.kept ff); clear ff; replace c_b0_0 := Nb0.cell (j := 0) rfl; replace c_b0_1 := Nb0.cell (j := 1) rfl; replace c_b0_2 := Nb0.cell (j := 2) rfl; replace c_b0_3 := Nb0.cell (j := 3) rfl; replace c_b1_0 := Nb1.cell (j := 0) rfl; replace c_b1_1 := Nb1.cell (j := 1) rfl; replace c_b1_2 := Nb1.cell (j := 2) rfl; replace c_b1_3 := Nb1.cell (j := 3) rfl; replace e_b0_0 := (Nb0.kept (Fr.new (w := U2) (Obj.cells #[.bool false, .slice none 0 0] 24))).cell (j := 0) rfl; replace e_b0_1 := (Nb0.kept (Fr.new (w := U2) (Obj.cells #[.bool false, .slice none 0 0] 24))).cell (j := 1) rfl; replace e_b0_2 := (Nb0.kept (Fr.new (w := U2) (Obj.cells #[.bool false, .slice none 0 0] 24))).cell (j := 2) rfl; replace e_b0_3 := (Nb0.kept (Fr.new (w := U2) (Obj.cells #[.bool false, .slice none 0 0] 24))).cell (j := 3) rfl; replace e_b1_0 := (Nb1.kept (Fr.new (w := U2) (Obj.cells #[.bool false, .slice none 0 0] 24))).cell (j := 0) rfl; replace e_b1_1 := (Nb1.kept (Fr.new (w := U2) (Obj.cells #[.bool false, .slice none 0 0] 24))).cell (j := 1) rfl; replace e_b1_2 := (Nb1.kept (Fr.new (w := U2) (Obj.cells #[.bool false, .slice none 0 0] 24))).cell (j := 2) rfl; replace e_b1_3 := (Nb1.kept (Fr.new (w := U2) (Obj.cells #[.bool false, .slice none 0 0] 24))).cell (j := 3) rfl; (try (have cn0 := Nb5.cell (j := 0) rfl; have fn0 := Nb5.free 0; have cn1 := Nb5.cell (j := 1) rfl; have fn1 := Nb5.free 1)))
      | (go_at_call 166; (with_reducible refine (calls_ri (b := s_c) (m := M_c) (iadd_any s_a s_b _ _ _ _ _ _ (dg M_a) (dg M_b) _ oa.sl ob.sl (by omega) (by omega)) (by rw [HV_a.out, HV_b.out, HZ_c.out]; exact HS_c.out) (by rw [HV_a.out, HV_b.out, HZ_c.out]; exact HM_c.out)).mono ?_); rintro e U3 ⟨pc, cc, rfl, oc, ff⟩; have hu3 := ff.size; replace Hw := Hw.trans ff (by simp); replace Nh1 := Nh1.kept ff; replace Nh2 := Nh2.kept ff; replace Nh3 := Nh3.kept ff; replace Nh4 := Nh4.kept ff; replace Nb0 := Nb0.kept ff; replace Nb1 := Nb1.kept ff; replace Nr0 := Nr0.kept ff; replace oa := oa.kept ff; replace ob := ob.kept ff; (try replace Nb5 := Nb5.kept ff); clear ff; replace c_b0_0 := Nb0.cell (j := 0) rfl; replace c_b0_1 := Nb0.cell (j := 1) rfl; replace c_b0_2 := Nb0.cell (j := 2) rfl; replace c_b0_3 := Nb0.cell (j := 3) rfl; replace c_b1_0 := Nb1.cell (j := 0) rfl; replace c_b1_1 := Nb1.cell (j := 1) rfl; replace c_b1_2 := Nb1.cell (j := 2) rfl; replace c_b1_3 := Nb1.cell (j := 3) rfl; replace e_b0_0 := (Nb0.kept (Fr.new (w := U3) (Obj.cells #[.bool false, .slice none 0 0] 24))).cell (j := 0) rfl; replace e_b0_1 := (Nb0.kept (Fr.new (w := U3) (Obj.cells #[.bool false, .slice none 0 0] 24))).cell (j := 1) rfl; replace e_b0_2 := (Nb0.kept (Fr.new (w := U3) (Obj.cells #[.bool false, .slice none 0 0] 24))).cell (j := 2) rfl; replace e_b0_3 := (Nb0.kept (Fr.new (w := U3) (Obj.cells #[.bool false, .slice none 0 0] 24))).cell (j := 3) rfl; replace e_b1_0 := (Nb1.kept (Fr.new (w := U3) (Obj.cells #[.bool false, .slice none 0 0] 24))).cell (j := 0) rfl; replace e_b1_1 := (Nb1.kept (Fr.new (w := U3) (Obj.cells #[.bool false, .slice none 0 0] 24))).cell (j := 1) rfl; replace e_b1_2 := (Nb1.kept (Fr.new (w := U3) (Obj.cells #[.bool false, .slice none 0 0] 24))).cell (j := 2) rfl; replace e_b1_3 := (Nb1.kept (Fr.new (w := U3) (Obj.cells #[.bool false, .slice none 0 0] 24))).cell (j := 3) rfl; have x_b0_0 : (U3.alloc (Obj.cells #[.bool s_c, .slice pc (dg M_c).length cc] 24)).cell? ⟨w.heap.size, 0, none⟩ = some (.bool g) := (Nb0.kept (Fr.new (w := U3) (Obj.cells #[.bool s_c, .slice pc (dg M_c).length cc] 24))).cell (j := 0) rfl; have x_b0_1 : (U3.alloc (Obj.cells #[.bool s_c, .slice pc (dg M_c).length cc] 24)).cell? ⟨w.heap.size, 1, none⟩ = some (.slice p n c) := (Nb0.kept (Fr.new (w := U3) (Obj.cells #[.bool s_c, .slice pc (dg M_c).length cc] 24))).cell (j := 1) rfl; have x_b0_2 : (U3.alloc (Obj.cells #[.bool s_c, .slice pc (dg M_c).length cc] 24)).cell? ⟨w.heap.size, 2, none⟩ = some (.bool false) := (Nb0.kept (Fr.new (w := U3) (Obj.cells #[.bool s_c, .slice pc (dg M_c).length cc] 24))).cell (j := 2) rfl; have x_b0_3 : (U3.alloc (Obj.cells #[.bool s_c, .slice pc (dg M_c).length cc] 24)).cell? ⟨w.heap.size, 3, none⟩ = some (.slice q m d) := (Nb0.kept (Fr.new (w := U3) (Obj.cells #[.bool s_c, .slice pc (dg M_c).length cc] 24))).cell (j := 3) rfl; have x_b1_0 : (U3.alloc (Obj.cells #[.bool s_c, .slice pc (dg M_c).length cc] 24)).cell? ⟨w.heap.size + 1, 0, none⟩ = some (.bool h) := (Nb1.kept (Fr.new (w := U3) (Obj.cells #[.bool s_c, .slice pc (dg M_c).length cc] 24))).cell (j := 0) rfl; have x_b1_1 : (U3.alloc (Obj.cells #[.bool s_c, .slice pc (dg M_c).length cc] 24)).cell? ⟨w.heap.size + 1, 1, none⟩ = some (.slice p' n' c') := (Nb1.kept (Fr.new (w := U3) (Obj.cells #[.bool s_c, .slice pc (dg M_c).length cc] 24))).cell (j := 1) rfl; have x_b1_2 : (U3.alloc (Obj.cells #[.bool s_c, .slice pc (dg M_c).length cc] 24)).cell? ⟨w.heap.size + 1, 2, none⟩ = some (.bool false) := (Nb1.kept (Fr.new (w := U3) (Obj.cells #[.bool s_c, .slice pc (dg M_c).length cc] 24))).cell (j := 2) rfl; have x_b1_3 : (U3.alloc (Obj.cells #[.bool s_c, .slice pc (dg M_c).length cc] 24)).cell? ⟨w.heap.size + 1, 3, none⟩ = some (.slice q' m' d') := (Nb1.kept (Fr.new (w := U3) (Obj.cells #[.bool s_c, .slice pc (dg M_c).length cc] 24))).cell (j := 3) rfl; (try (have cn0 := Nb5.cell (j := 0) rfl; have fn0 := Nb5.free 0; have cn1 := Nb5.cell (j := 1) rfl; have fn1 := Nb5.free 1)))
      | (go_at_call 166; have hal : Fr [] U2 (U2.alloc (Obj.cells #[.bool false, .slice none 0 0] 24)) := Fr.new _; have hsB : U2.heap.size < (U2.alloc (Obj.cells #[.bool false, .slice none 0 0] 24)).heap.size := (by simp); replace Hw := Hw.trans hal (by simp); replace Nh1 := Nh1.kept hal; replace Nh2 := Nh2.kept hal; replace Nh3 := Nh3.kept hal; replace Nh4 := Nh4.kept hal; replace Nb0 := Nb0.kept hal; replace Nb1 := Nb1.kept hal; replace Nr0 := Nr0.kept hal; replace oa := oa.kept hal; replace ob := ob.kept hal; (try replace Nb5 := Nb5.kept hal); have Nb5 : Bx (U2.alloc (Obj.cells #[.bool false, .slice none 0 0] 24)) U2.heap.size 24 #[.bool false, .slice none 0 0] := Bx.made _ _ _; clear hal; (with_reducible refine (calls_ri (b := s_c) (m := M_c) (iadd_any s_a s_b _ _ _ _ _ _ (dg M_a) (dg M_b) _ oa.sl ob.sl (by omega) (by omega)) (by rw [HV_a.out, HV_b.out, HZ_c.out]; exact HS_c.out) (by rw [HV_a.out, HV_b.out, HZ_c.out]; exact HM_c.out)).mono ?_); rintro e U3 ⟨pc, cc, rfl, oc, ff⟩; have hu3 := ff.size; replace Hw := Hw.trans ff (by simp); replace Nh1 := Nh1.kept ff; replace Nh2 := Nh2.kept ff; replace Nh3 := Nh3.kept ff; replace Nh4 := Nh4.kept ff; replace Nb0 := Nb0.kept ff; replace Nb1 := Nb1.kept ff; replace Nr0 := Nr0.kept ff; replace oa := oa.kept ff; replace ob := ob.kept ff; (try replace Nb5 := Nb5.kept ff); clear ff; replace c_b0_0 := Nb0.cell (j := 0) rfl; replace c_b0_1 := Nb0.cell (j := 1) rfl; replace c_b0_2 := Nb0.cell (j := 2) rfl; replace c_b0_3 := Nb0.cell (j := 3) rfl; replace c_b1_0 := Nb1.cell (j := 0) rfl; replace c_b1_1 := Nb1.cell (j := 1) rfl; replace c_b1_2 := Nb1.cell (j := 2) rfl; replace c_b1_3 := Nb1.cell (j := 3) rfl; replace e_b0_0 := (Nb0.kept (Fr.new (w := U3) (Obj.cells #[.bool false, .slice none 0 0] 24))).cell (j := 0) rfl; replace e_b0_1 := (Nb0.kept (Fr.new (w := U3) (Obj.cells #[.bool false, .slice none 0 0] 24))).cell (j := 1) rfl; replace e_b0_2 := (Nb0.kept (Fr.new (w := U3) (Obj.cells #[.bool false, .slice none 0 0] 24))).cell (j := 2) rfl; replace e_b0_3 := (Nb0.kept (Fr.new (w := U3) (Obj.cells #[.bool false, .slice none 0 0] 24))).cell (j := 3) rfl; replace e_b1_0 := (Nb1.kept (Fr.new (w := U3) (Obj.cells #[.bool false, .slice none 0 0] 24))).cell (j := 0) rfl; replace e_b1_1 := (Nb1.kept (Fr.new (w := U3) (Obj.cells #[.bool false, .slice none 0 0] 24))).cell (j := 1) rfl; replace e_b1_2 := (Nb1.kept (Fr.new (w := U3) (Obj.cells #[.bool false, .slice none 0 0] 24))).cell (j := 2) rfl; replace e_b1_3 := (Nb1.kept (Fr.new (w := U3) (Obj.cells #[.bool false, .slice none 0 0] 24))).cell (j := 3) rfl; have x_b0_0 : (U3.alloc (Obj.cells #[.bool s_c, .slice pc (dg M_c).length cc] 24)).cell? ⟨w.heap.size, 0, none⟩ = some (.bool g) := (Nb0.kept (Fr.new (w := U3) (Obj.cells #[.bool s_c, .slice pc (dg M_c).length cc] 24))).cell (j := 0) rfl; have x_b0_1 : (U3.alloc (Obj.cells #[.bool s_c, .slice pc (dg M_c).length cc] 24)).cell? ⟨w.heap.size, 1, none⟩ = some (.slice p n c) := (Nb0.kept (Fr.new (w := U3) (Obj.cells #[.bool s_c, .slice pc (dg M_c).length cc] 24))).cell (j := 1) rfl; have x_b0_2 : (U3.alloc (Obj.cells #[.bool s_c, .slice pc (dg M_c).length cc] 24)).cell? ⟨w.heap.size, 2, none⟩ = some (.bool false) := (Nb0.kept (Fr.new (w := U3) (Obj.cells #[.bool s_c, .slice pc (dg M_c).length cc] 24))).cell (j := 2) rfl; have x_b0_3 : (U3.alloc (Obj.cells #[.bool s_c, .slice pc (dg M_c).length cc] 24)).cell? ⟨w.heap.size, 3, none⟩ = some (.slice q m d) := (Nb0.kept (Fr.new (w := U3) (Obj.cells #[.bool s_c, .slice pc (dg M_c).length cc] 24))).cell (j := 3) rfl; have x_b1_0 : (U3.alloc (Obj.cells #[.bool s_c, .slice pc (dg M_c).length cc] 24)).cell? ⟨w.heap.size + 1, 0, none⟩ = some (.bool h) := (Nb1.kept (Fr.new (w := U3) (Obj.cells #[.bool s_c, .slice pc (dg M_c).length cc] 24))).cell (j := 0) rfl; have x_b1_1 : (U3.alloc (Obj.cells #[.bool s_c, .slice pc (dg M_c).length cc] 24)).cell? ⟨w.heap.size + 1, 1, none⟩ = some (.slice p' n' c') := (Nb1.kept (Fr.new (w := U3) (Obj.cells #[.bool s_c, .slice pc (dg M_c).length cc] 24))).cell (j := 1) rfl; have x_b1_2 : (U3.alloc (Obj.cells #[.bool s_c, .slice pc (dg M_c).length cc] 24)).cell? ⟨w.heap.size + 1, 2, none⟩ = some (.bool false) := (Nb1.kept (Fr.new (w := U3) (Obj.cells #[.bool s_c, .slice pc (dg M_c).length cc] 24))).cell (j := 2) rfl; have x_b1_3 : (U3.alloc (Obj.cells #[.bool s_c, .slice pc (dg M_c).length cc] 24)).cell? ⟨w.heap.size + 1, 3, none⟩ = some (.slice q' m' d') := (Nb1.kept (Fr.new (w := U3) (Obj.cells #[.bool s_c, .slice pc (dg M_c).length cc] 24))).cell (j := 3) rfl; (try (have cn0 := Nb5.cell (j := 0) rfl; have fn0 := Nb5.free 0; have cn1 := Nb5.cell (j := 1) rfl; have fn1 := Nb5.free 1))))
    all_goals go_wp2_with fail
    all_goals go_meet
    all_goals first
      | exact ⟨_, pc, cc, rfl, (by omega), bset2 Nb5 _ _, ((oc.far (bset2_fr _ _ _ _) (by omega)).mono (by omega)), Nb0.keep (S := [_]) (bset2_fr _ _ _ _) (by simp; omega), Nb1.keep (S := [_]) (bset2_fr _ _ _ _) (by simp; omega), Nr0.keep (S := [_]) (bset2_fr _ _ _ _) (by simp; omega), Hw.trans (T := [_]) (bset2_fr _ _ _ _) (fun x hx hl => by have := List.mem_singleton.1 hx; have := hw.size; omega)⟩
      | exact ⟨_, pc, cc, rfl, (by omega), Bx.made _ _ _, ((oc.kept (Fr.new _)).mono (by omega)), Nb0.kept (Fr.new _), Nb1.kept (Fr.new _), Nr0.kept (Fr.new _), Hw.trans (Fr.new _) (by simp)⟩
  case rest =>
    obtain ⟨A, pc, cc, rfl, hA, b5, oc, b0, b1, r0, hw⟩ := hcut
    have hAl := b5.lt
    replace h1 := g_h1.kept hw
    replace h2 := g_h2.kept hw
    replace h3 := g_h3.kept hw
    replace h4 := g_h4.kept hw
    have c_b0_0 := b0.cell (j := 0) rfl
    have f_b0_0 := b0.free 0
    have c_b0_1 := b0.cell (j := 1) rfl
    have f_b0_1 := b0.free 1
    have c_b0_2 := b0.cell (j := 2) rfl
    have f_b0_2 := b0.free 2
    have c_b0_3 := b0.cell (j := 3) rfl
    have f_b0_3 := b0.free 3
    have c_b1_0 := b1.cell (j := 0) rfl
    have f_b1_0 := b1.free 0
    have c_b1_1 := b1.cell (j := 1) rfl
    have f_b1_1 := b1.free 1
    have c_b1_2 := b1.cell (j := 2) rfl
    have f_b1_2 := b1.free 2
    have c_b1_3 := b1.cell (j := 3) rfl
    have f_b1_3 := b1.free 3
    have c_r0_0 := r0.cell (j := 0) rfl
    have f_r0_0 := r0.free 0
    have c_r0_1 := r0.cell (j := 1) rfl
    have f_r0_1 := r0.free 1
    have c_r0_2 := r0.cell (j := 2) rfl
    have f_r0_2 := r0.free 2
    have c_r0_3 := r0.cell (j := 3) rfl
    have f_r0_3 := r0.free 3
    have c_b5_0 := b5.cell (j := 0) rfl
    have f_b5_0 := b5.free 0
    have c_b5_1 := b5.cell (j := 1) rfl
    have f_b5_1 := b5.free 1
    go_wp2_with fail
    clear c_b0_0 f_b0_0 c_b0_1 f_b0_1 c_b0_2 f_b0_2 c_b0_3 f_b0_3 c_b1_0 f_b1_0 c_b1_1 f_b1_1 c_b1_2 f_b1_2 c_b1_3 f_b1_3 c_r0_0 f_r0_0 c_r0_1 f_r0_1 c_r0_2 f_r0_2 c_r0_3 f_r0_3 c_b5_0 f_b5_0 c_b5_1 f_b5_1
    have Hw := hw.drew
    have hu0 := ((Fr.refl [] wc).drew).size
    have Nh1 := h1.kept (Fr.refl [] wc).drew
    have Nh2 := h2.kept (Fr.refl [] wc).drew
    have Nh3 := h3.kept (Fr.refl [] wc).drew
    have Nh4 := h4.kept (Fr.refl [] wc).drew
    have Noc := oc.kept (Fr.refl [] wc).drew
    have Nb0 := b0.kept (Fr.refl [] wc).drew
    have Nb1 := b1.kept (Fr.refl [] wc).drew
    have Nr0 := r0.kept (Fr.refl [] wc).drew
    have Nb5 := b5.kept (Fr.refl [] wc).drew
    go_region_held3 (fun w' => w'.cell? ⟨A, 0, none⟩ = some (.bool s_c) ∧ w'.cell? ⟨A, 1, none⟩ = some (.slice pc (dg M_c).length cc) ∧ w'.cell? ⟨w.heap.size, 2, none⟩ = some (.bool false) ∧ w'.cell? ⟨w.heap.size, 3, none⟩ = some (.slice q m d) ∧ w'.cell? ⟨w.heap.size + 1, 2, none⟩ = some (.bool false) ∧ w'.cell? ⟨w.heap.size + 1, 3, none⟩ = some (.slice q' m' d')) (first | exact ⟨Nb5.cell (j := 0) rfl, Nb5.cell (j := 1) rfl, Nb0.cell (j := 2) rfl, Nb0.cell (j := 3) rfl, Nb1.cell (j := 2) rfl, Nb1.cell (j := 3) rfl⟩ | exact ⟨(Nb5.keep (S := [(w.heap.size + 2)]) (bset4_fr _ (w.heap.size + 2) _ _ _ _) (by simp; try omega)).cell (j := 0) rfl, (Nb5.keep (S := [(w.heap.size + 2)]) (bset4_fr _ (w.heap.size + 2) _ _ _ _) (by simp; try omega)).cell (j := 1) rfl, (Nb0.keep (S := [(w.heap.size + 2)]) (bset4_fr _ (w.heap.size + 2) _ _ _ _) (by simp; try omega)).cell (j := 2) rfl, (Nb0.keep (S := [(w.heap.size + 2)]) (bset4_fr _ (w.heap.size + 2) _ _ _ _) (by simp; try omega)).cell (j := 3) rfl, (Nb1.keep (S := [(w.heap.size + 2)]) (bset4_fr _ (w.heap.size + 2) _ _ _ _) (by simp; try omega)).cell (j := 2) rfl, (Nb1.keep (S := [(w.heap.size + 2)]) (bset4_fr _ (w.heap.size + 2) _ _ _ _) (by simp; try omega)).cell (j := 3) rfl⟩)
      (first
      | (go_at_call 99; (with_reducible refine (calls_ri (b := s_e) (m := M_e) (imul_any false false _ _ _ _ _ _ ys ys' _ Nh2 Nh4 (by omega) (by omega)) (by rw [HZ_e.out]; exact HS_e.out) (by rw [HZ_e.out]; exact HM_e.out)).mono ?_); rw [HSE.out]; rintro e U1 ⟨pe, ce, rfl, oe, ff⟩; have hu1 := ff.size; replace Hw := Hw.trans ff (by simp); replace Nh1 := Nh1.kept ff; replace Nh2 := Nh2.kept ff; replace Nh3 := Nh3.kept ff; replace Nh4 := Nh4.kept ff; replace Noc := Noc.kept ff; replace Nb0 := Nb0.kept ff; replace Nb1 := Nb1.kept ff; replace Nr0 := Nr0.kept ff; replace Nb5 := Nb5.kept ff; clear ff; have m_b0_0 := Nb0.cell (j := 0) rfl; have q_b0_0 := Nb0.free 0; have m_b0_1 := Nb0.cell (j := 1) rfl; have q_b0_1 := Nb0.free 1; have m_b0_2 := Nb0.cell (j := 2) rfl; have q_b0_2 := Nb0.free 2; have m_b0_3 := Nb0.cell (j := 3) rfl; have q_b0_3 := Nb0.free 3; have m_b1_0 := Nb1.cell (j := 0) rfl; have q_b1_0 := Nb1.free 0; have m_b1_1 := Nb1.cell (j := 1) rfl; have q_b1_1 := Nb1.free 1; have m_b1_2 := Nb1.cell (j := 2) rfl; have q_b1_2 := Nb1.free 2; have m_b1_3 := Nb1.cell (j := 3) rfl; have q_b1_3 := Nb1.free 3; have m_r0_0 := Nr0.cell (j := 0) rfl; have q_r0_0 := Nr0.free 0; have m_r0_1 := Nr0.cell (j := 1) rfl; have q_r0_1 := Nr0.free 1; have m_r0_2 := Nr0.cell (j := 2) rfl; have q_r0_2 := Nr0.free 2; have m_r0_3 := Nr0.cell (j := 3) rfl; have q_r0_3 := Nr0.free 3; have m_b5_0 := Nb5.cell (j := 0) rfl; have q_b5_0 := Nb5.free 0; have m_b5_1 := Nb5.cell (j := 1) rfl; have q_b5_1 := Nb5.free 1))
    go_wp2_with fail
    exact fin4 Nr0 Hw (by omega) rfl (fun W' c0 c1 c2 c3 => by simp [results, Tryz.results117, go_sem, c0, c1, c2, c3]) (fun W' fb fw => ⟨s_c, pc, _, cc, _, pe, _, ce, _, rfl, (Noc.far fb (by omega)).sl, (oe.far fb (by omega)).sl, HV_c.out, val_dg _, by omega, by omega, fw⟩)

theorem plus_any (L K : Nat) (g h : Bool) (p q p' q' : Option Addr) (n c m d n' c' m' d' : Nat) (xs ys xs' ys' : List Nat) (w : World) (h1 : Sl w p n c xs) (h2 : Sl w q m d ys) (h3 : Sl w p' n' c' xs') (h4 : Sl w q' m' d' ys') (hn : n ≤ 524287) (hm : m ≤ 524287) (hn' : n' ≤ 524287) (hm' : m' ≤ 524287) (hL : n + m' + (n' + m) + 1 ≤ L) (hK : m + m' ≤ K) (hy : val ys ≠ 0) (hy' : val ys' ≠ 0) :
    Calls Tryz.prog 117 #[fw g p n c false q m d, fw h p' n' c' false q' m' d'] w fun e w' => ∃ z D, RetF w z D L K e w' ∧ D ≠ 0 ∧ mkRat z D = mkRat (iv g (val xs)) (val ys) + mkRat (iv h (val xs')) (val ys') := by
  by_cases hd : val ys = val ys'
  · exact (plus_same L K g h p q p' q' n c m d n' c' m' d' xs ys xs' ys' w h1 h2 h3 h4 hn hm hn' hm' (by omega) (by omega) hd).mono fun e w' r => ⟨_, _, r, hy, by rw [← hd]; exact (mk_add_same _ _ hy).symm⟩
  · exact (plus_diff L K g h p q p' q' n c m d n' c' m' d' xs ys xs' ys' w h1 h2 h3 h4 hn hm hn' hm' hL hK hd).mono fun e w' r => ⟨_, _, r, Nat.mul_ne_zero hy hy', (Rat.mkRat_add_mkRat _ _ hy hy').symm⟩

end Go.Proofs.YtjjdbhohjphcoaaGreatDoor
