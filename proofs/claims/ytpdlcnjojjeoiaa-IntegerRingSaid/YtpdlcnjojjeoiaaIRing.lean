/- IntegerRing: for every three integers, given by any digits, the laws of a commutative ring. No condition. Written by wip/gen/gen_iring.py. -/
import Derived.Test.YtpdlcnjojjeoiaaInt13
import Derived.Test.YtpdlcnjojjeoiaaIntOpen
namespace Go.Proofs.Ytpdlcnjojjeoiaa
open Go.RowKit Go.ChangeShapes Go.WideShapes Go.ChangeAt

set_option maxRecDepth 100000 in
set_option maxHeartbeats 8000000 in
theorem iring_small (g h f : Bool) (p q r : Option Addr) (n c m d k e : Nat) (xs ys zs : List Nat) (w : World) (h1 : Sl w p n c xs) (h2 : Sl w q m d ys) (h3 : Sl w r k e zs) (B1 : n ≤ 10) (B2 : m ≤ 10) (B3 : k ≤ 10) :
    Calls Try.prog 10 #[iw g p n c, iw h q m d, iw f r k e] w fun e w' => e = .returned (.bool true) ∧ Fr [] w w' := by
  obtain ⟨x, hx⟩ : ∃ x, x = iv g (val xs) := ⟨_, rfl⟩
  obtain ⟨y, hy⟩ : ∃ y, y = iv h (val ys) := ⟨_, rfl⟩
  obtain ⟨z, hz⟩ : ∃ z, z = iv f (val zs) := ⟨_, rfl⟩
  have L_x := iv_len hx h1
  have L_y := iv_len hy h2
  have L_z := iv_len hz h3
  have HX := Lib.hid hx
  have HY := Lib.hid hy
  have HZ := Lib.hid hz
  clear hx hy hz
  go_enter Try.func10, Try.ntmps10
  go_wp2_with fail
  have g_h1 := h1
  have g_h2 := h2
  have g_h3 := h3
  have hw : Fr [] w (((w.alloc (Obj.cells #[.bool g, .slice p n c] 41)).alloc (Obj.cells #[.bool h, .slice q m d] 41)).alloc (Obj.cells #[.bool f, .slice r k e] 41)) := (((Fr.refl _ _).alloc _).alloc _).alloc _
  have b0 : Bx (((w.alloc (Obj.cells #[.bool g, .slice p n c] 41)).alloc (Obj.cells #[.bool h, .slice q m d] 41)).alloc (Obj.cells #[.bool f, .slice r k e] 41)) w.heap.size 41 #[.bool g, .slice p n c] := (Bx.made' (by simp) _ _).kept (((Fr.refl _ _).alloc _).alloc _)
  have b1 : Bx (((w.alloc (Obj.cells #[.bool g, .slice p n c] 41)).alloc (Obj.cells #[.bool h, .slice q m d] 41)).alloc (Obj.cells #[.bool f, .slice r k e] 41)) (w.heap.size + 1) 41 #[.bool h, .slice q m d] := (Bx.made' (by simp) _ _).kept ((Fr.refl _ _).alloc _)
  have b2 : Bx (((w.alloc (Obj.cells #[.bool g, .slice p n c] 41)).alloc (Obj.cells #[.bool h, .slice q m d] 41)).alloc (Obj.cells #[.bool f, .slice r k e] 41)) (w.heap.size + 2) 41 #[.bool f, .slice r k e] := (Bx.made' (by simp) _ _).kept (Fr.refl _ _)
  generalize (((w.alloc (Obj.cells #[.bool g, .slice p n c] 41)).alloc (Obj.cells #[.bool h, .slice q m d] 41)).alloc (Obj.cells #[.bool f, .slice r k e] 41)) = W at *
  have hbs := b2.lt
  replace h1 := h1.kept hw
  replace h2 := h2.kept hw
  replace h3 := h3.kept hw
  have c_b0_0 := b0.cell (j := 0) rfl
  have f_b0_0 := b0.free 0
  have c_b0_1 := b0.cell (j := 1) rfl
  have f_b0_1 := b0.free 1
  have c_b1_0 := b1.cell (j := 0) rfl
  have f_b1_0 := b1.free 0
  have c_b1_1 := b1.cell (j := 1) rfl
  have f_b1_1 := b1.free 1
  have c_b2_0 := b2.cell (j := 0) rfl
  have f_b2_0 := b2.free 0
  have c_b2_1 := b2.cell (j := 1) rfl
  have f_b2_1 := b2.free 1
  go_wp2_with fail
  clear c_b0_0 f_b0_0 c_b0_1 f_b0_1 c_b1_0 f_b1_0 c_b1_1 f_b1_1 c_b2_0 f_b2_0 c_b2_1 f_b2_1
  refine (small_yes _ _ _ _ _ B1).mono ?_
  rintro e V1 ⟨rfl, ff⟩
  have hsz1 := ff.size
  replace hw := hw.trans ff (by simp)
  replace h1 := h1.kept ff
  replace h2 := h2.kept ff
  replace h3 := h3.kept ff
  replace b0 := b0.kept ff
  replace b1 := b1.kept ff
  replace b2 := b2.kept ff
  clear ff
  have c_b0_0 := b0.cell (j := 0) rfl
  have f_b0_0 := b0.free 0
  have c_b0_1 := b0.cell (j := 1) rfl
  have f_b0_1 := b0.free 1
  have c_b1_0 := b1.cell (j := 0) rfl
  have f_b1_0 := b1.free 0
  have c_b1_1 := b1.cell (j := 1) rfl
  have f_b1_1 := b1.free 1
  have c_b2_0 := b2.cell (j := 0) rfl
  have f_b2_0 := b2.free 0
  have c_b2_1 := b2.cell (j := 1) rfl
  have f_b2_1 := b2.free 1
  go_wp2_with fail
  clear c_b0_0 f_b0_0 c_b0_1 f_b0_1 c_b1_0 f_b1_0 c_b1_1 f_b1_1 c_b2_0 f_b2_0 c_b2_1 f_b2_1
  refine (small_yes _ _ _ _ _ B2).mono ?_
  rintro e V2 ⟨rfl, ff⟩
  have hsz2 := ff.size
  replace hw := hw.trans ff (by simp)
  replace h1 := h1.kept ff
  replace h2 := h2.kept ff
  replace h3 := h3.kept ff
  replace b0 := b0.kept ff
  replace b1 := b1.kept ff
  replace b2 := b2.kept ff
  clear ff
  have c_b0_0 := b0.cell (j := 0) rfl
  have f_b0_0 := b0.free 0
  have c_b0_1 := b0.cell (j := 1) rfl
  have f_b0_1 := b0.free 1
  have c_b1_0 := b1.cell (j := 0) rfl
  have f_b1_0 := b1.free 0
  have c_b1_1 := b1.cell (j := 1) rfl
  have f_b1_1 := b1.free 1
  have c_b2_0 := b2.cell (j := 0) rfl
  have f_b2_0 := b2.free 0
  have c_b2_1 := b2.cell (j := 1) rfl
  have f_b2_1 := b2.free 1
  go_wp2_with fail
  clear c_b0_0 f_b0_0 c_b0_1 f_b0_1 c_b1_0 f_b1_0 c_b1_1 f_b1_1 c_b2_0 f_b2_0 c_b2_1 f_b2_1
  refine (small_yes _ _ _ _ _ B3).mono ?_
  rintro e V3 ⟨rfl, ff⟩
  have hsz3 := ff.size
  replace hw := hw.trans ff (by simp)
  replace h1 := h1.kept ff
  replace h2 := h2.kept ff
  replace h3 := h3.kept ff
  replace b0 := b0.kept ff
  replace b1 := b1.kept ff
  replace b2 := b2.kept ff
  clear ff
  have c_b0_0 := b0.cell (j := 0) rfl
  have f_b0_0 := b0.free 0
  have c_b0_1 := b0.cell (j := 1) rfl
  have f_b0_1 := b0.free 1
  have c_b1_0 := b1.cell (j := 0) rfl
  have f_b1_0 := b1.free 0
  have c_b1_1 := b1.cell (j := 1) rfl
  have f_b1_1 := b1.free 1
  have c_b2_0 := b2.cell (j := 0) rfl
  have f_b2_0 := b2.free 0
  have c_b2_1 := b2.cell (j := 1) rfl
  have f_b2_1 := b2.free 1
  go_wp2_with fail
  clear c_b0_0 f_b0_0 c_b0_1 f_b0_1 c_b1_0 f_b1_0 c_b1_1 f_b1_1 c_b2_0 f_b2_0 c_b2_1 f_b2_1
  obtain ⟨s_a, hs_a⟩ : ∃ b, decide (x + y < 0) = b := ⟨_, rfl⟩
  obtain ⟨M_a, hm_a⟩ : ∃ M, (x + y).natAbs = M := ⟨_, rfl⟩
  have L_a := len_add x y
  rw [hm_a] at L_a
  have he_a : iv s_a (val (dg M_a)) = x + y := by rw [val_dg]; exact iv_eq hs_a hm_a
  have HS_a := Lib.hid hs_a
  have HM_a := Lib.hid hm_a
  have HE_a := Lib.hid he_a
  clear hs_a hm_a he_a
  obtain ⟨s_m, hs_m⟩ : ∃ b, decide (x * y < 0) = b := ⟨_, rfl⟩
  obtain ⟨M_m, hm_m⟩ : ∃ M, (x * y).natAbs = M := ⟨_, rfl⟩
  have L_m := len_mul x y
  rw [hm_m] at L_m
  have he_m : iv s_m (val (dg M_m)) = x * y := by rw [val_dg]; exact iv_eq hs_m hm_m
  have HS_m := Lib.hid hs_m
  have HM_m := Lib.hid hm_m
  have HE_m := Lib.hid he_m
  clear hs_m hm_m he_m
  obtain ⟨s_b, hs_b⟩ : ∃ b, decide (y + z < 0) = b := ⟨_, rfl⟩
  obtain ⟨M_b, hm_b⟩ : ∃ M, (y + z).natAbs = M := ⟨_, rfl⟩
  have L_b := len_add y z
  rw [hm_b] at L_b
  have he_b : iv s_b (val (dg M_b)) = y + z := by rw [val_dg]; exact iv_eq hs_b hm_b
  have HS_b := Lib.hid hs_b
  have HM_b := Lib.hid hm_b
  have HE_b := Lib.hid he_b
  clear hs_b hm_b he_b
  obtain ⟨s_s, hs_s⟩ : ∃ b, decide (x + (y + z) < 0) = b := ⟨_, rfl⟩
  obtain ⟨M_s, hm_s⟩ : ∃ M, (x + (y + z)).natAbs = M := ⟨_, rfl⟩
  have L_s := len_add x (y + z)
  rw [hm_s] at L_s
  have he_s : iv s_s (val (dg M_s)) = x + (y + z) := by rw [val_dg]; exact iv_eq hs_s hm_s
  have HS_s := Lib.hid hs_s
  have HM_s := Lib.hid hm_s
  have HE_s := Lib.hid he_s
  clear hs_s hm_s he_s
  rw [HM_b.out] at L_s
  obtain ⟨s_n, hs_n⟩ : ∃ b, decide (y * z < 0) = b := ⟨_, rfl⟩
  obtain ⟨M_n, hm_n⟩ : ∃ M, (y * z).natAbs = M := ⟨_, rfl⟩
  have L_n := len_mul y z
  rw [hm_n] at L_n
  have he_n : iv s_n (val (dg M_n)) = y * z := by rw [val_dg]; exact iv_eq hs_n hm_n
  have HS_n := Lib.hid hs_n
  have HM_n := Lib.hid hm_n
  have HE_n := Lib.hid he_n
  clear hs_n hm_n he_n
  obtain ⟨s_t, hs_t⟩ : ∃ b, decide (x * (y * z) < 0) = b := ⟨_, rfl⟩
  obtain ⟨M_t, hm_t⟩ : ∃ M, (x * (y * z)).natAbs = M := ⟨_, rfl⟩
  have L_t := len_mul x (y * z)
  rw [hm_t] at L_t
  have he_t : iv s_t (val (dg M_t)) = x * (y * z) := by rw [val_dg]; exact iv_eq hs_t hm_t
  have HS_t := Lib.hid hs_t
  have HM_t := Lib.hid hm_t
  have HE_t := Lib.hid he_t
  clear hs_t hm_t he_t
  rw [HM_n.out] at L_t
  obtain ⟨s_u, hs_u⟩ : ∃ b, decide (x * (y + z) < 0) = b := ⟨_, rfl⟩
  obtain ⟨M_u, hm_u⟩ : ∃ M, (x * (y + z)).natAbs = M := ⟨_, rfl⟩
  have L_u := len_mul x (y + z)
  rw [hm_u] at L_u
  have he_u : iv s_u (val (dg M_u)) = x * (y + z) := by rw [val_dg]; exact iv_eq hs_u hm_u
  have HS_u := Lib.hid hs_u
  have HM_u := Lib.hid hm_u
  have HE_u := Lib.hid he_u
  clear hs_u hm_u he_u
  rw [HM_b.out] at L_u
  obtain ⟨s_l, hs_l⟩ : ∃ b, decide (x * z < 0) = b := ⟨_, rfl⟩
  obtain ⟨M_l, hm_l⟩ : ∃ M, (x * z).natAbs = M := ⟨_, rfl⟩
  have L_l := len_mul x z
  rw [hm_l] at L_l
  have he_l : iv s_l (val (dg M_l)) = x * z := by rw [val_dg]; exact iv_eq hs_l hm_l
  have HS_l := Lib.hid hs_l
  have HM_l := Lib.hid hm_l
  have HE_l := Lib.hid he_l
  clear hs_l hm_l he_l
  obtain ⟨s_v, hs_v⟩ : ∃ b, decide (-x < 0) = b := ⟨_, rfl⟩
  obtain ⟨M_v, hm_v⟩ : ∃ M, (-x).natAbs = M := ⟨_, rfl⟩
  have L_v := Nat.le_of_eq (len_neg x)
  rw [hm_v] at L_v
  have he_v : iv s_v (val (dg M_v)) = -x := by rw [val_dg]; exact iv_eq hs_v hm_v
  have HS_v := Lib.hid hs_v
  have HM_v := Lib.hid hm_v
  have HE_v := Lib.hid he_v
  clear hs_v hm_v he_v
  obtain ⟨s_w, hs_w⟩ : ∃ b, decide ((0 : Int) < 0) = b := ⟨_, rfl⟩
  obtain ⟨M_w, hm_w⟩ : ∃ M, ((0 : Int)).natAbs = M := ⟨_, rfl⟩
  have L_w := len_zero
  rw [hm_w] at L_w
  have he_w : iv s_w (val (dg M_w)) = (0 : Int) := by rw [val_dg]; exact iv_eq hs_w hm_w
  have HS_w := Lib.hid hs_w
  have HM_w := Lib.hid hm_w
  have HE_w := Lib.hid he_w
  clear hs_w hm_w he_w
  simp only [List.append_eq, List.cons_append, List.nil_append]
  have Hw := hw.drew
  have Nb0 := b0.kept (Fr.refl [] V3).drew
  have Nb1 := b1.kept (Fr.refl [] V3).drew
  have Nb2 := b2.kept (Fr.refl [] V3).drew
  have Nh1 := h1.kept (Fr.refl [] V3).drew
  have Nh2 := h2.kept (Fr.refl [] V3).drew
  have Nh3 := h3.kept (Fr.refl [] V3).drew
  go_region_held3 (fun w' => w'.cell? ⟨w.heap.size, 0, none⟩ = some (.bool g) ∧ w'.cell? ⟨w.heap.size, 1, none⟩ = some (.slice p n c) ∧ w'.cell? ⟨w.heap.size + 1, 0, none⟩ = some (.bool h) ∧ w'.cell? ⟨w.heap.size + 1, 1, none⟩ = some (.slice q m d) ∧ w'.cell? ⟨w.heap.size + 2, 0, none⟩ = some (.bool f) ∧ w'.cell? ⟨w.heap.size + 2, 1, none⟩ = some (.slice r k e)) (first | exact ⟨(Nb0).cell (j := 0) rfl, (Nb0).cell (j := 1) rfl, (Nb1).cell (j := 0) rfl, (Nb1).cell (j := 1) rfl, (Nb2).cell (j := 0) rfl, (Nb2).cell (j := 1) rfl⟩ | exact ⟨(Nb0.kept (Fr.new _)).cell (j := 0) rfl, (Nb0.kept (Fr.new _)).cell (j := 1) rfl, (Nb1.kept (Fr.new _)).cell (j := 0) rfl, (Nb1.kept (Fr.new _)).cell (j := 1) rfl, (Nb2.kept (Fr.new _)).cell (j := 0) rfl, (Nb2.kept (Fr.new _)).cell (j := 1) rfl⟩)
    (first
    | (go_at_call 40; (with_reducible refine (awake2_any _).mono ?_); rintro e V ⟨rfl, ff⟩; have Hw := Hw.trans ff (by simp); have Nb0 := Nb0.kept ff; have Nb1 := Nb1.kept ff; have Nb2 := Nb2.kept ff; have Nh1 := Nh1.kept ff; have Nh2 := Nh2.kept ff; have Nh3 := Nh3.kept ff; try have xy := xy.kept ff; try have yx := yx.kept ff; try have mxy := mxy.kept ff; try have myx := myx.kept ff; try have xyz := xyz.kept ff; try have yz := yz.kept ff; try have xyz2 := xyz2.kept ff; try have mxyz := mxyz.kept ff; try have myz := myz.kept ff; try have mxyz2 := mxyz2.kept ff; try have d1 := d1.kept ff; try have mxz := mxz.kept ff; try have d2 := d2.kept ff; try have nx := nx.kept ff; try have zz := zz.kept ff)
    | (go_at_call 56; (with_reducible refine (calls_rj (b := s_a) (m := M_a) (iadd_any g h _ _ _ _ _ _ _ _ _ Nh1 Nh2 (by omega) (by omega)) (by rw [← HX.out, ← HY.out]) HS_a.out HM_a.out).mono ?_); rintro e V ⟨p_xy, c_xy, rfl, xy, ff⟩; have Hw := Hw.trans ff (by simp); have Nb0 := Nb0.kept ff; have Nb1 := Nb1.kept ff; have Nb2 := Nb2.kept ff; have Nh1 := Nh1.kept ff; have Nh2 := Nh2.kept ff; have Nh3 := Nh3.kept ff; try have yx := yx.kept ff; try have mxy := mxy.kept ff; try have myx := myx.kept ff; try have xyz := xyz.kept ff; try have yz := yz.kept ff; try have xyz2 := xyz2.kept ff; try have mxyz := mxyz.kept ff; try have myz := myz.kept ff; try have mxyz2 := mxyz2.kept ff; try have d1 := d1.kept ff; try have mxz := mxz.kept ff; try have d2 := d2.kept ff; try have nx := nx.kept ff; try have zz := zz.kept ff)
    | (go_at_call 56; (with_reducible refine (calls_rj (b := s_a) (m := M_a) (iadd_any h g _ _ _ _ _ _ _ _ _ Nh2 Nh1 (by omega) (by omega)) (by rw [← HX.out, ← HY.out]; exact Int.add_comm _ _) HS_a.out HM_a.out).mono ?_); rintro e V ⟨p_yx, c_yx, rfl, yx, ff⟩; have Hw := Hw.trans ff (by simp); have Nb0 := Nb0.kept ff; have Nb1 := Nb1.kept ff; have Nb2 := Nb2.kept ff; have Nh1 := Nh1.kept ff; have Nh2 := Nh2.kept ff; have Nh3 := Nh3.kept ff; try have xy := xy.kept ff; try have mxy := mxy.kept ff; try have myx := myx.kept ff; try have xyz := xyz.kept ff; try have yz := yz.kept ff; try have xyz2 := xyz2.kept ff; try have mxyz := mxyz.kept ff; try have myz := myz.kept ff; try have mxyz2 := mxyz2.kept ff; try have d1 := d1.kept ff; try have mxz := mxz.kept ff; try have d2 := d2.kept ff; try have nx := nx.kept ff; try have zz := zz.kept ff)
    | (go_at_call 49; (with_reducible refine (isame_any s_a _ _ _ _ _ (dg M_a) _ xy.sl yx.sl).mono ?_); rintro e V ⟨rfl, ff⟩; have Hw := Hw.trans ff (by simp); have Nb0 := Nb0.kept ff; have Nb1 := Nb1.kept ff; have Nb2 := Nb2.kept ff; have Nh1 := Nh1.kept ff; have Nh2 := Nh2.kept ff; have Nh3 := Nh3.kept ff; try have xy := xy.kept ff; try have yx := yx.kept ff; try have mxy := mxy.kept ff; try have myx := myx.kept ff; try have xyz := xyz.kept ff; try have yz := yz.kept ff; try have xyz2 := xyz2.kept ff; try have mxyz := mxyz.kept ff; try have myz := myz.kept ff; try have mxyz2 := mxyz2.kept ff; try have d1 := d1.kept ff; try have mxz := mxz.kept ff; try have d2 := d2.kept ff; try have nx := nx.kept ff; try have zz := zz.kept ff)
    | (go_at_call 60; (with_reducible refine (calls_rj (b := s_m) (m := M_m) (imul_any g h _ _ _ _ _ _ _ _ _ Nh1 Nh2 (by omega) (by omega)) (by rw [← HX.out, ← HY.out]) HS_m.out HM_m.out).mono ?_); rintro e V ⟨p_mxy, c_mxy, rfl, mxy, ff⟩; have Hw := Hw.trans ff (by simp); have Nb0 := Nb0.kept ff; have Nb1 := Nb1.kept ff; have Nb2 := Nb2.kept ff; have Nh1 := Nh1.kept ff; have Nh2 := Nh2.kept ff; have Nh3 := Nh3.kept ff; try have xy := xy.kept ff; try have yx := yx.kept ff; try have myx := myx.kept ff; try have xyz := xyz.kept ff; try have yz := yz.kept ff; try have xyz2 := xyz2.kept ff; try have mxyz := mxyz.kept ff; try have myz := myz.kept ff; try have mxyz2 := mxyz2.kept ff; try have d1 := d1.kept ff; try have mxz := mxz.kept ff; try have d2 := d2.kept ff; try have nx := nx.kept ff; try have zz := zz.kept ff)
    | (go_at_call 60; (with_reducible refine (calls_rj (b := s_m) (m := M_m) (imul_any h g _ _ _ _ _ _ _ _ _ Nh2 Nh1 (by omega) (by omega)) (by rw [← HX.out, ← HY.out]; exact Int.mul_comm _ _) HS_m.out HM_m.out).mono ?_); rintro e V ⟨p_myx, c_myx, rfl, myx, ff⟩; have Hw := Hw.trans ff (by simp); have Nb0 := Nb0.kept ff; have Nb1 := Nb1.kept ff; have Nb2 := Nb2.kept ff; have Nh1 := Nh1.kept ff; have Nh2 := Nh2.kept ff; have Nh3 := Nh3.kept ff; try have xy := xy.kept ff; try have yx := yx.kept ff; try have mxy := mxy.kept ff; try have xyz := xyz.kept ff; try have yz := yz.kept ff; try have xyz2 := xyz2.kept ff; try have mxyz := mxyz.kept ff; try have myz := myz.kept ff; try have mxyz2 := mxyz2.kept ff; try have d1 := d1.kept ff; try have mxz := mxz.kept ff; try have d2 := d2.kept ff; try have nx := nx.kept ff; try have zz := zz.kept ff)
    | (go_at_call 49; (with_reducible refine (isame_any s_m _ _ _ _ _ (dg M_m) _ mxy.sl myx.sl).mono ?_); rintro e V ⟨rfl, ff⟩; have Hw := Hw.trans ff (by simp); have Nb0 := Nb0.kept ff; have Nb1 := Nb1.kept ff; have Nb2 := Nb2.kept ff; have Nh1 := Nh1.kept ff; have Nh2 := Nh2.kept ff; have Nh3 := Nh3.kept ff; try have xy := xy.kept ff; try have yx := yx.kept ff; try have mxy := mxy.kept ff; try have myx := myx.kept ff; try have xyz := xyz.kept ff; try have yz := yz.kept ff; try have xyz2 := xyz2.kept ff; try have mxyz := mxyz.kept ff; try have myz := myz.kept ff; try have mxyz2 := mxyz2.kept ff; try have d1 := d1.kept ff; try have mxz := mxz.kept ff; try have d2 := d2.kept ff; try have nx := nx.kept ff; try have zz := zz.kept ff)
    | (go_at_call 56; (with_reducible refine (calls_rj (b := s_s) (m := M_s) (iadd_any s_a f _ _ _ _ _ _ _ _ _ xy.sl Nh3 (by omega) (by omega)) (by rw [HE_a.out, ← HZ.out]; exact Int.add_assoc _ _ _) HS_s.out HM_s.out).mono ?_); rintro e V ⟨p_xyz, c_xyz, rfl, xyz, ff⟩; have Hw := Hw.trans ff (by simp); have Nb0 := Nb0.kept ff; have Nb1 := Nb1.kept ff; have Nb2 := Nb2.kept ff; have Nh1 := Nh1.kept ff; have Nh2 := Nh2.kept ff; have Nh3 := Nh3.kept ff; try have xy := xy.kept ff; try have yx := yx.kept ff; try have mxy := mxy.kept ff; try have myx := myx.kept ff; try have yz := yz.kept ff; try have xyz2 := xyz2.kept ff; try have mxyz := mxyz.kept ff; try have myz := myz.kept ff; try have mxyz2 := mxyz2.kept ff; try have d1 := d1.kept ff; try have mxz := mxz.kept ff; try have d2 := d2.kept ff; try have nx := nx.kept ff; try have zz := zz.kept ff)
    | (go_at_call 56; (with_reducible refine (calls_rj (b := s_b) (m := M_b) (iadd_any h f _ _ _ _ _ _ _ _ _ Nh2 Nh3 (by omega) (by omega)) (by rw [← HY.out, ← HZ.out]) HS_b.out HM_b.out).mono ?_); rintro e V ⟨p_yz, c_yz, rfl, yz, ff⟩; have Hw := Hw.trans ff (by simp); have Nb0 := Nb0.kept ff; have Nb1 := Nb1.kept ff; have Nb2 := Nb2.kept ff; have Nh1 := Nh1.kept ff; have Nh2 := Nh2.kept ff; have Nh3 := Nh3.kept ff; try have xy := xy.kept ff; try have yx := yx.kept ff; try have mxy := mxy.kept ff; try have myx := myx.kept ff; try have xyz := xyz.kept ff; try have xyz2 := xyz2.kept ff; try have mxyz := mxyz.kept ff; try have myz := myz.kept ff; try have mxyz2 := mxyz2.kept ff; try have d1 := d1.kept ff; try have mxz := mxz.kept ff; try have d2 := d2.kept ff; try have nx := nx.kept ff; try have zz := zz.kept ff)
    | (go_at_call 56; (with_reducible refine (calls_rj (b := s_s) (m := M_s) (iadd_any g s_b _ _ _ _ _ _ _ _ _ Nh1 yz.sl (by omega) (by omega)) (by rw [HE_b.out, ← HX.out]) HS_s.out HM_s.out).mono ?_); rintro e V ⟨p_xyz2, c_xyz2, rfl, xyz2, ff⟩; have Hw := Hw.trans ff (by simp); have Nb0 := Nb0.kept ff; have Nb1 := Nb1.kept ff; have Nb2 := Nb2.kept ff; have Nh1 := Nh1.kept ff; have Nh2 := Nh2.kept ff; have Nh3 := Nh3.kept ff; try have xy := xy.kept ff; try have yx := yx.kept ff; try have mxy := mxy.kept ff; try have myx := myx.kept ff; try have xyz := xyz.kept ff; try have yz := yz.kept ff; try have mxyz := mxyz.kept ff; try have myz := myz.kept ff; try have mxyz2 := mxyz2.kept ff; try have d1 := d1.kept ff; try have mxz := mxz.kept ff; try have d2 := d2.kept ff; try have nx := nx.kept ff; try have zz := zz.kept ff)
    | (go_at_call 49; (with_reducible refine (isame_any s_s _ _ _ _ _ (dg M_s) _ xyz.sl xyz2.sl).mono ?_); rintro e V ⟨rfl, ff⟩; have Hw := Hw.trans ff (by simp); have Nb0 := Nb0.kept ff; have Nb1 := Nb1.kept ff; have Nb2 := Nb2.kept ff; have Nh1 := Nh1.kept ff; have Nh2 := Nh2.kept ff; have Nh3 := Nh3.kept ff; try have xy := xy.kept ff; try have yx := yx.kept ff; try have mxy := mxy.kept ff; try have myx := myx.kept ff; try have xyz := xyz.kept ff; try have yz := yz.kept ff; try have xyz2 := xyz2.kept ff; try have mxyz := mxyz.kept ff; try have myz := myz.kept ff; try have mxyz2 := mxyz2.kept ff; try have d1 := d1.kept ff; try have mxz := mxz.kept ff; try have d2 := d2.kept ff; try have nx := nx.kept ff; try have zz := zz.kept ff)
    | (go_at_call 60; (with_reducible refine (calls_rj (b := s_t) (m := M_t) (imul_any s_m f _ _ _ _ _ _ _ _ _ mxy.sl Nh3 (by omega) (by omega)) (by rw [HE_m.out, ← HZ.out]; exact Int.mul_assoc _ _ _) HS_t.out HM_t.out).mono ?_); rintro e V ⟨p_mxyz, c_mxyz, rfl, mxyz, ff⟩; have Hw := Hw.trans ff (by simp); have Nb0 := Nb0.kept ff; have Nb1 := Nb1.kept ff; have Nb2 := Nb2.kept ff; have Nh1 := Nh1.kept ff; have Nh2 := Nh2.kept ff; have Nh3 := Nh3.kept ff; try have xy := xy.kept ff; try have yx := yx.kept ff; try have mxy := mxy.kept ff; try have myx := myx.kept ff; try have xyz := xyz.kept ff; try have yz := yz.kept ff; try have xyz2 := xyz2.kept ff; try have myz := myz.kept ff; try have mxyz2 := mxyz2.kept ff; try have d1 := d1.kept ff; try have mxz := mxz.kept ff; try have d2 := d2.kept ff; try have nx := nx.kept ff; try have zz := zz.kept ff)
    | (go_at_call 60; (with_reducible refine (calls_rj (b := s_n) (m := M_n) (imul_any h f _ _ _ _ _ _ _ _ _ Nh2 Nh3 (by omega) (by omega)) (by rw [← HY.out, ← HZ.out]) HS_n.out HM_n.out).mono ?_); rintro e V ⟨p_myz, c_myz, rfl, myz, ff⟩; have Hw := Hw.trans ff (by simp); have Nb0 := Nb0.kept ff; have Nb1 := Nb1.kept ff; have Nb2 := Nb2.kept ff; have Nh1 := Nh1.kept ff; have Nh2 := Nh2.kept ff; have Nh3 := Nh3.kept ff; try have xy := xy.kept ff; try have yx := yx.kept ff; try have mxy := mxy.kept ff; try have myx := myx.kept ff; try have xyz := xyz.kept ff; try have yz := yz.kept ff; try have xyz2 := xyz2.kept ff; try have mxyz := mxyz.kept ff; try have mxyz2 := mxyz2.kept ff; try have d1 := d1.kept ff; try have mxz := mxz.kept ff; try have d2 := d2.kept ff; try have nx := nx.kept ff; try have zz := zz.kept ff)
    | (go_at_call 60; (with_reducible refine (calls_rj (b := s_t) (m := M_t) (imul_any g s_n _ _ _ _ _ _ _ _ _ Nh1 myz.sl (by omega) (by omega)) (by rw [HE_n.out, ← HX.out]) HS_t.out HM_t.out).mono ?_); rintro e V ⟨p_mxyz2, c_mxyz2, rfl, mxyz2, ff⟩; have Hw := Hw.trans ff (by simp); have Nb0 := Nb0.kept ff; have Nb1 := Nb1.kept ff; have Nb2 := Nb2.kept ff; have Nh1 := Nh1.kept ff; have Nh2 := Nh2.kept ff; have Nh3 := Nh3.kept ff; try have xy := xy.kept ff; try have yx := yx.kept ff; try have mxy := mxy.kept ff; try have myx := myx.kept ff; try have xyz := xyz.kept ff; try have yz := yz.kept ff; try have xyz2 := xyz2.kept ff; try have mxyz := mxyz.kept ff; try have myz := myz.kept ff; try have d1 := d1.kept ff; try have mxz := mxz.kept ff; try have d2 := d2.kept ff; try have nx := nx.kept ff; try have zz := zz.kept ff)
    | (go_at_call 49; (with_reducible refine (isame_any s_t _ _ _ _ _ (dg M_t) _ mxyz.sl mxyz2.sl).mono ?_); rintro e V ⟨rfl, ff⟩; have Hw := Hw.trans ff (by simp); have Nb0 := Nb0.kept ff; have Nb1 := Nb1.kept ff; have Nb2 := Nb2.kept ff; have Nh1 := Nh1.kept ff; have Nh2 := Nh2.kept ff; have Nh3 := Nh3.kept ff; try have xy := xy.kept ff; try have yx := yx.kept ff; try have mxy := mxy.kept ff; try have myx := myx.kept ff; try have xyz := xyz.kept ff; try have yz := yz.kept ff; try have xyz2 := xyz2.kept ff; try have mxyz := mxyz.kept ff; try have myz := myz.kept ff; try have mxyz2 := mxyz2.kept ff; try have d1 := d1.kept ff; try have mxz := mxz.kept ff; try have d2 := d2.kept ff; try have nx := nx.kept ff; try have zz := zz.kept ff)
    | (go_at_call 60; (with_reducible refine (calls_rj (b := s_u) (m := M_u) (imul_any g s_b _ _ _ _ _ _ _ _ _ Nh1 yz.sl (by omega) (by omega)) (by rw [HE_b.out, ← HX.out]) HS_u.out HM_u.out).mono ?_); rintro e V ⟨p_d1, c_d1, rfl, d1, ff⟩; have Hw := Hw.trans ff (by simp); have Nb0 := Nb0.kept ff; have Nb1 := Nb1.kept ff; have Nb2 := Nb2.kept ff; have Nh1 := Nh1.kept ff; have Nh2 := Nh2.kept ff; have Nh3 := Nh3.kept ff; try have xy := xy.kept ff; try have yx := yx.kept ff; try have mxy := mxy.kept ff; try have myx := myx.kept ff; try have xyz := xyz.kept ff; try have yz := yz.kept ff; try have xyz2 := xyz2.kept ff; try have mxyz := mxyz.kept ff; try have myz := myz.kept ff; try have mxyz2 := mxyz2.kept ff; try have mxz := mxz.kept ff; try have d2 := d2.kept ff; try have nx := nx.kept ff; try have zz := zz.kept ff)
    | (go_at_call 60; (with_reducible refine (calls_rj (b := s_l) (m := M_l) (imul_any g f _ _ _ _ _ _ _ _ _ Nh1 Nh3 (by omega) (by omega)) (by rw [← HX.out, ← HZ.out]) HS_l.out HM_l.out).mono ?_); rintro e V ⟨p_mxz, c_mxz, rfl, mxz, ff⟩; have Hw := Hw.trans ff (by simp); have Nb0 := Nb0.kept ff; have Nb1 := Nb1.kept ff; have Nb2 := Nb2.kept ff; have Nh1 := Nh1.kept ff; have Nh2 := Nh2.kept ff; have Nh3 := Nh3.kept ff; try have xy := xy.kept ff; try have yx := yx.kept ff; try have mxy := mxy.kept ff; try have myx := myx.kept ff; try have xyz := xyz.kept ff; try have yz := yz.kept ff; try have xyz2 := xyz2.kept ff; try have mxyz := mxyz.kept ff; try have myz := myz.kept ff; try have mxyz2 := mxyz2.kept ff; try have d1 := d1.kept ff; try have d2 := d2.kept ff; try have nx := nx.kept ff; try have zz := zz.kept ff)
    | (go_at_call 56; (with_reducible refine (calls_rj (b := s_u) (m := M_u) (iadd_any s_m s_l _ _ _ _ _ _ _ _ _ mxy.sl mxz.sl (by omega) (by omega)) (by rw [HE_m.out, HE_l.out]; exact (Int.mul_add _ _ _).symm) HS_u.out HM_u.out).mono ?_); rintro e V ⟨p_d2, c_d2, rfl, d2, ff⟩; have Hw := Hw.trans ff (by simp); have Nb0 := Nb0.kept ff; have Nb1 := Nb1.kept ff; have Nb2 := Nb2.kept ff; have Nh1 := Nh1.kept ff; have Nh2 := Nh2.kept ff; have Nh3 := Nh3.kept ff; try have xy := xy.kept ff; try have yx := yx.kept ff; try have mxy := mxy.kept ff; try have myx := myx.kept ff; try have xyz := xyz.kept ff; try have yz := yz.kept ff; try have xyz2 := xyz2.kept ff; try have mxyz := mxyz.kept ff; try have myz := myz.kept ff; try have mxyz2 := mxyz2.kept ff; try have d1 := d1.kept ff; try have mxz := mxz.kept ff; try have nx := nx.kept ff; try have zz := zz.kept ff)
    | (go_at_call 49; (with_reducible refine (isame_any s_u _ _ _ _ _ (dg M_u) _ d1.sl d2.sl).mono ?_); rintro e V ⟨rfl, ff⟩; have Hw := Hw.trans ff (by simp); have Nb0 := Nb0.kept ff; have Nb1 := Nb1.kept ff; have Nb2 := Nb2.kept ff; have Nh1 := Nh1.kept ff; have Nh2 := Nh2.kept ff; have Nh3 := Nh3.kept ff; try have xy := xy.kept ff; try have yx := yx.kept ff; try have mxy := mxy.kept ff; try have myx := myx.kept ff; try have xyz := xyz.kept ff; try have yz := yz.kept ff; try have xyz2 := xyz2.kept ff; try have mxyz := mxyz.kept ff; try have myz := myz.kept ff; try have mxyz2 := mxyz2.kept ff; try have d1 := d1.kept ff; try have mxz := mxz.kept ff; try have d2 := d2.kept ff; try have nx := nx.kept ff; try have zz := zz.kept ff)
    | (go_at_call 52; (with_reducible refine (calls_rj (b := s_v) (m := M_v) (ineg_any g _ _ _ _ _ Nh1 (by omega)) (by rw [← HX.out]) HS_v.out HM_v.out).mono ?_); rintro e V ⟨p_nx, c_nx, rfl, nx, ff⟩; have Hw := Hw.trans ff (by simp); have Nb0 := Nb0.kept ff; have Nb1 := Nb1.kept ff; have Nb2 := Nb2.kept ff; have Nh1 := Nh1.kept ff; have Nh2 := Nh2.kept ff; have Nh3 := Nh3.kept ff; try have xy := xy.kept ff; try have yx := yx.kept ff; try have mxy := mxy.kept ff; try have myx := myx.kept ff; try have xyz := xyz.kept ff; try have yz := yz.kept ff; try have xyz2 := xyz2.kept ff; try have mxyz := mxyz.kept ff; try have myz := myz.kept ff; try have mxyz2 := mxyz2.kept ff; try have d1 := d1.kept ff; try have mxz := mxz.kept ff; try have d2 := d2.kept ff; try have zz := zz.kept ff)
    | (go_at_call 56; (with_reducible refine (calls_rj (b := s_w) (m := M_w) (iadd_any g s_v _ _ _ _ _ _ _ _ _ Nh1 nx.sl (by omega) (by omega)) (by rw [HE_v.out, ← HX.out]; exact Int.add_right_neg _) HS_w.out HM_w.out).mono ?_); rintro e V ⟨p_zz, c_zz, rfl, zz, ff⟩; have Hw := Hw.trans ff (by simp); have Nb0 := Nb0.kept ff; have Nb1 := Nb1.kept ff; have Nb2 := Nb2.kept ff; have Nh1 := Nh1.kept ff; have Nh2 := Nh2.kept ff; have Nh3 := Nh3.kept ff; try have xy := xy.kept ff; try have yx := yx.kept ff; try have mxy := mxy.kept ff; try have myx := myx.kept ff; try have xyz := xyz.kept ff; try have yz := yz.kept ff; try have xyz2 := xyz2.kept ff; try have mxyz := mxyz.kept ff; try have myz := myz.kept ff; try have mxyz2 := mxyz2.kept ff; try have d1 := d1.kept ff; try have mxz := mxz.kept ff; try have d2 := d2.kept ff; try have nx := nx.kept ff)
    | (go_at_call 45; (with_reducible refine (isign_any s_w _ _ _ (dg M_w) _ zz.sl (by omega)).mono ?_); rw [HE_w.out, Int.sign_zero]; rintro e V ⟨rfl, ff⟩; have Hw := Hw.trans ff (by simp); have Nb0 := Nb0.kept ff; have Nb1 := Nb1.kept ff; have Nb2 := Nb2.kept ff; have Nh1 := Nh1.kept ff; have Nh2 := Nh2.kept ff; have Nh3 := Nh3.kept ff; try have xy := xy.kept ff; try have yx := yx.kept ff; try have mxy := mxy.kept ff; try have myx := myx.kept ff; try have xyz := xyz.kept ff; try have yz := yz.kept ff; try have xyz2 := xyz2.kept ff; try have mxyz := mxyz.kept ff; try have myz := myz.kept ff; try have mxyz2 := mxyz2.kept ff; try have d1 := d1.kept ff; try have mxz := mxz.kept ff; try have d2 := d2.kept ff; try have nx := nx.kept ff; try have zz := zz.kept ff))
  go_wp2
  go_ret
  exact ⟨rfl, Hw⟩

set_option maxRecDepth 100000 in
theorem iring_any (g h f : Bool) (p q r : Option Addr) (n c m d k e : Nat) (xs ys zs : List Nat) (w : World) (h1 : Sl w p n c xs) (h2 : Sl w q m d ys) (h3 : Sl w r k e zs) :
    Calls Try.prog 10 #[iw g p n c, iw h q m d, iw f r k e] w fun e w' => e = .returned (.bool true) ∧ Fr [] w w' := by
  by_cases B1 : n ≤ 10
  case' neg =>
    go_enter Try.func10, Try.ntmps10
    go_wp2_with fail
    have hw : Fr [] w (((w.alloc (Obj.cells #[.bool g, .slice p n c] 41)).alloc (Obj.cells #[.bool h, .slice q m d] 41)).alloc (Obj.cells #[.bool f, .slice r k e] 41)) := (((Fr.refl _ _).alloc _).alloc _).alloc _
    have b0 : Bx (((w.alloc (Obj.cells #[.bool g, .slice p n c] 41)).alloc (Obj.cells #[.bool h, .slice q m d] 41)).alloc (Obj.cells #[.bool f, .slice r k e] 41)) w.heap.size 41 #[.bool g, .slice p n c] := (Bx.made' (by simp) _ _).kept (((Fr.refl _ _).alloc _).alloc _)
    have b1 : Bx (((w.alloc (Obj.cells #[.bool g, .slice p n c] 41)).alloc (Obj.cells #[.bool h, .slice q m d] 41)).alloc (Obj.cells #[.bool f, .slice r k e] 41)) (w.heap.size + 1) 41 #[.bool h, .slice q m d] := (Bx.made' (by simp) _ _).kept ((Fr.refl _ _).alloc _)
    have b2 : Bx (((w.alloc (Obj.cells #[.bool g, .slice p n c] 41)).alloc (Obj.cells #[.bool h, .slice q m d] 41)).alloc (Obj.cells #[.bool f, .slice r k e] 41)) (w.heap.size + 2) 41 #[.bool f, .slice r k e] := (Bx.made' (by simp) _ _).kept (Fr.refl _ _)
    generalize (((w.alloc (Obj.cells #[.bool g, .slice p n c] 41)).alloc (Obj.cells #[.bool h, .slice q m d] 41)).alloc (Obj.cells #[.bool f, .slice r k e] 41)) = W at *
    have hbs := b2.lt
    have c_b0_0 := b0.cell (j := 0) rfl
    have f_b0_0 := b0.free 0
    have c_b0_1 := b0.cell (j := 1) rfl
    have f_b0_1 := b0.free 1
    have c_b1_0 := b1.cell (j := 0) rfl
    have f_b1_0 := b1.free 0
    have c_b1_1 := b1.cell (j := 1) rfl
    have f_b1_1 := b1.free 1
    have c_b2_0 := b2.cell (j := 0) rfl
    have f_b2_0 := b2.free 0
    have c_b2_1 := b2.cell (j := 1) rfl
    have f_b2_1 := b2.free 1
    go_wp2_with fail
    clear c_b0_0 f_b0_0 c_b0_1 f_b0_1 c_b1_0 f_b1_0 c_b1_1 f_b1_1 c_b2_0 f_b2_0 c_b2_1 f_b2_1
    refine (small_no _ _ _ _ _ (by omega)).mono ?_
    rintro e V1 ⟨rfl, ff⟩
    have hsz1 := ff.size
    replace hw := hw.trans ff (by simp)
    replace b0 := b0.kept ff
    replace b1 := b1.kept ff
    replace b2 := b2.kept ff
    clear ff
    have c_b0_0 := b0.cell (j := 0) rfl
    have f_b0_0 := b0.free 0
    have c_b0_1 := b0.cell (j := 1) rfl
    have f_b0_1 := b0.free 1
    have c_b1_0 := b1.cell (j := 0) rfl
    have f_b1_0 := b1.free 0
    have c_b1_1 := b1.cell (j := 1) rfl
    have f_b1_1 := b1.free 1
    have c_b2_0 := b2.cell (j := 0) rfl
    have f_b2_0 := b2.free 0
    have c_b2_1 := b2.cell (j := 1) rfl
    have f_b2_1 := b2.free 1
    go_wp2_with fail
    clear c_b0_0 f_b0_0 c_b0_1 f_b0_1 c_b1_0 f_b1_0 c_b1_1 f_b1_1 c_b2_0 f_b2_0 c_b2_1 f_b2_1
    refine (awake2_any _).mono ?_
    rintro e V2 ⟨rfl, ff⟩
    have hsz2 := ff.size
    replace hw := hw.trans ff (by simp)
    replace b0 := b0.kept ff
    replace b1 := b1.kept ff
    replace b2 := b2.kept ff
    clear ff
    have c_b0_0 := b0.cell (j := 0) rfl
    have f_b0_0 := b0.free 0
    have c_b0_1 := b0.cell (j := 1) rfl
    have f_b0_1 := b0.free 1
    have c_b1_0 := b1.cell (j := 0) rfl
    have f_b1_0 := b1.free 0
    have c_b1_1 := b1.cell (j := 1) rfl
    have f_b1_1 := b1.free 1
    have c_b2_0 := b2.cell (j := 0) rfl
    have f_b2_0 := b2.free 0
    have c_b2_1 := b2.cell (j := 1) rfl
    have f_b2_1 := b2.free 1
    go_wp2
    go_ret
    exact ⟨rfl, hw⟩
  by_cases B2 : m ≤ 10
  case' neg =>
    go_enter Try.func10, Try.ntmps10
    go_wp2_with fail
    have hw : Fr [] w (((w.alloc (Obj.cells #[.bool g, .slice p n c] 41)).alloc (Obj.cells #[.bool h, .slice q m d] 41)).alloc (Obj.cells #[.bool f, .slice r k e] 41)) := (((Fr.refl _ _).alloc _).alloc _).alloc _
    have b0 : Bx (((w.alloc (Obj.cells #[.bool g, .slice p n c] 41)).alloc (Obj.cells #[.bool h, .slice q m d] 41)).alloc (Obj.cells #[.bool f, .slice r k e] 41)) w.heap.size 41 #[.bool g, .slice p n c] := (Bx.made' (by simp) _ _).kept (((Fr.refl _ _).alloc _).alloc _)
    have b1 : Bx (((w.alloc (Obj.cells #[.bool g, .slice p n c] 41)).alloc (Obj.cells #[.bool h, .slice q m d] 41)).alloc (Obj.cells #[.bool f, .slice r k e] 41)) (w.heap.size + 1) 41 #[.bool h, .slice q m d] := (Bx.made' (by simp) _ _).kept ((Fr.refl _ _).alloc _)
    have b2 : Bx (((w.alloc (Obj.cells #[.bool g, .slice p n c] 41)).alloc (Obj.cells #[.bool h, .slice q m d] 41)).alloc (Obj.cells #[.bool f, .slice r k e] 41)) (w.heap.size + 2) 41 #[.bool f, .slice r k e] := (Bx.made' (by simp) _ _).kept (Fr.refl _ _)
    generalize (((w.alloc (Obj.cells #[.bool g, .slice p n c] 41)).alloc (Obj.cells #[.bool h, .slice q m d] 41)).alloc (Obj.cells #[.bool f, .slice r k e] 41)) = W at *
    have hbs := b2.lt
    have c_b0_0 := b0.cell (j := 0) rfl
    have f_b0_0 := b0.free 0
    have c_b0_1 := b0.cell (j := 1) rfl
    have f_b0_1 := b0.free 1
    have c_b1_0 := b1.cell (j := 0) rfl
    have f_b1_0 := b1.free 0
    have c_b1_1 := b1.cell (j := 1) rfl
    have f_b1_1 := b1.free 1
    have c_b2_0 := b2.cell (j := 0) rfl
    have f_b2_0 := b2.free 0
    have c_b2_1 := b2.cell (j := 1) rfl
    have f_b2_1 := b2.free 1
    go_wp2_with fail
    clear c_b0_0 f_b0_0 c_b0_1 f_b0_1 c_b1_0 f_b1_0 c_b1_1 f_b1_1 c_b2_0 f_b2_0 c_b2_1 f_b2_1
    refine (small_yes _ _ _ _ _ B1).mono ?_
    rintro e V1 ⟨rfl, ff⟩
    have hsz1 := ff.size
    replace hw := hw.trans ff (by simp)
    replace b0 := b0.kept ff
    replace b1 := b1.kept ff
    replace b2 := b2.kept ff
    clear ff
    have c_b0_0 := b0.cell (j := 0) rfl
    have f_b0_0 := b0.free 0
    have c_b0_1 := b0.cell (j := 1) rfl
    have f_b0_1 := b0.free 1
    have c_b1_0 := b1.cell (j := 0) rfl
    have f_b1_0 := b1.free 0
    have c_b1_1 := b1.cell (j := 1) rfl
    have f_b1_1 := b1.free 1
    have c_b2_0 := b2.cell (j := 0) rfl
    have f_b2_0 := b2.free 0
    have c_b2_1 := b2.cell (j := 1) rfl
    have f_b2_1 := b2.free 1
    go_wp2_with fail
    clear c_b0_0 f_b0_0 c_b0_1 f_b0_1 c_b1_0 f_b1_0 c_b1_1 f_b1_1 c_b2_0 f_b2_0 c_b2_1 f_b2_1
    refine (small_no _ _ _ _ _ (by omega)).mono ?_
    rintro e V2 ⟨rfl, ff⟩
    have hsz2 := ff.size
    replace hw := hw.trans ff (by simp)
    replace b0 := b0.kept ff
    replace b1 := b1.kept ff
    replace b2 := b2.kept ff
    clear ff
    have c_b0_0 := b0.cell (j := 0) rfl
    have f_b0_0 := b0.free 0
    have c_b0_1 := b0.cell (j := 1) rfl
    have f_b0_1 := b0.free 1
    have c_b1_0 := b1.cell (j := 0) rfl
    have f_b1_0 := b1.free 0
    have c_b1_1 := b1.cell (j := 1) rfl
    have f_b1_1 := b1.free 1
    have c_b2_0 := b2.cell (j := 0) rfl
    have f_b2_0 := b2.free 0
    have c_b2_1 := b2.cell (j := 1) rfl
    have f_b2_1 := b2.free 1
    go_wp2_with fail
    clear c_b0_0 f_b0_0 c_b0_1 f_b0_1 c_b1_0 f_b1_0 c_b1_1 f_b1_1 c_b2_0 f_b2_0 c_b2_1 f_b2_1
    refine (awake2_any _).mono ?_
    rintro e V3 ⟨rfl, ff⟩
    have hsz3 := ff.size
    replace hw := hw.trans ff (by simp)
    replace b0 := b0.kept ff
    replace b1 := b1.kept ff
    replace b2 := b2.kept ff
    clear ff
    have c_b0_0 := b0.cell (j := 0) rfl
    have f_b0_0 := b0.free 0
    have c_b0_1 := b0.cell (j := 1) rfl
    have f_b0_1 := b0.free 1
    have c_b1_0 := b1.cell (j := 0) rfl
    have f_b1_0 := b1.free 0
    have c_b1_1 := b1.cell (j := 1) rfl
    have f_b1_1 := b1.free 1
    have c_b2_0 := b2.cell (j := 0) rfl
    have f_b2_0 := b2.free 0
    have c_b2_1 := b2.cell (j := 1) rfl
    have f_b2_1 := b2.free 1
    go_wp2
    go_ret
    exact ⟨rfl, hw⟩
  by_cases B3 : k ≤ 10
  case' neg =>
    go_enter Try.func10, Try.ntmps10
    go_wp2_with fail
    have hw : Fr [] w (((w.alloc (Obj.cells #[.bool g, .slice p n c] 41)).alloc (Obj.cells #[.bool h, .slice q m d] 41)).alloc (Obj.cells #[.bool f, .slice r k e] 41)) := (((Fr.refl _ _).alloc _).alloc _).alloc _
    have b0 : Bx (((w.alloc (Obj.cells #[.bool g, .slice p n c] 41)).alloc (Obj.cells #[.bool h, .slice q m d] 41)).alloc (Obj.cells #[.bool f, .slice r k e] 41)) w.heap.size 41 #[.bool g, .slice p n c] := (Bx.made' (by simp) _ _).kept (((Fr.refl _ _).alloc _).alloc _)
    have b1 : Bx (((w.alloc (Obj.cells #[.bool g, .slice p n c] 41)).alloc (Obj.cells #[.bool h, .slice q m d] 41)).alloc (Obj.cells #[.bool f, .slice r k e] 41)) (w.heap.size + 1) 41 #[.bool h, .slice q m d] := (Bx.made' (by simp) _ _).kept ((Fr.refl _ _).alloc _)
    have b2 : Bx (((w.alloc (Obj.cells #[.bool g, .slice p n c] 41)).alloc (Obj.cells #[.bool h, .slice q m d] 41)).alloc (Obj.cells #[.bool f, .slice r k e] 41)) (w.heap.size + 2) 41 #[.bool f, .slice r k e] := (Bx.made' (by simp) _ _).kept (Fr.refl _ _)
    generalize (((w.alloc (Obj.cells #[.bool g, .slice p n c] 41)).alloc (Obj.cells #[.bool h, .slice q m d] 41)).alloc (Obj.cells #[.bool f, .slice r k e] 41)) = W at *
    have hbs := b2.lt
    have c_b0_0 := b0.cell (j := 0) rfl
    have f_b0_0 := b0.free 0
    have c_b0_1 := b0.cell (j := 1) rfl
    have f_b0_1 := b0.free 1
    have c_b1_0 := b1.cell (j := 0) rfl
    have f_b1_0 := b1.free 0
    have c_b1_1 := b1.cell (j := 1) rfl
    have f_b1_1 := b1.free 1
    have c_b2_0 := b2.cell (j := 0) rfl
    have f_b2_0 := b2.free 0
    have c_b2_1 := b2.cell (j := 1) rfl
    have f_b2_1 := b2.free 1
    go_wp2_with fail
    clear c_b0_0 f_b0_0 c_b0_1 f_b0_1 c_b1_0 f_b1_0 c_b1_1 f_b1_1 c_b2_0 f_b2_0 c_b2_1 f_b2_1
    refine (small_yes _ _ _ _ _ B1).mono ?_
    rintro e V1 ⟨rfl, ff⟩
    have hsz1 := ff.size
    replace hw := hw.trans ff (by simp)
    replace b0 := b0.kept ff
    replace b1 := b1.kept ff
    replace b2 := b2.kept ff
    clear ff
    have c_b0_0 := b0.cell (j := 0) rfl
    have f_b0_0 := b0.free 0
    have c_b0_1 := b0.cell (j := 1) rfl
    have f_b0_1 := b0.free 1
    have c_b1_0 := b1.cell (j := 0) rfl
    have f_b1_0 := b1.free 0
    have c_b1_1 := b1.cell (j := 1) rfl
    have f_b1_1 := b1.free 1
    have c_b2_0 := b2.cell (j := 0) rfl
    have f_b2_0 := b2.free 0
    have c_b2_1 := b2.cell (j := 1) rfl
    have f_b2_1 := b2.free 1
    go_wp2_with fail
    clear c_b0_0 f_b0_0 c_b0_1 f_b0_1 c_b1_0 f_b1_0 c_b1_1 f_b1_1 c_b2_0 f_b2_0 c_b2_1 f_b2_1
    refine (small_yes _ _ _ _ _ B2).mono ?_
    rintro e V2 ⟨rfl, ff⟩
    have hsz2 := ff.size
    replace hw := hw.trans ff (by simp)
    replace b0 := b0.kept ff
    replace b1 := b1.kept ff
    replace b2 := b2.kept ff
    clear ff
    have c_b0_0 := b0.cell (j := 0) rfl
    have f_b0_0 := b0.free 0
    have c_b0_1 := b0.cell (j := 1) rfl
    have f_b0_1 := b0.free 1
    have c_b1_0 := b1.cell (j := 0) rfl
    have f_b1_0 := b1.free 0
    have c_b1_1 := b1.cell (j := 1) rfl
    have f_b1_1 := b1.free 1
    have c_b2_0 := b2.cell (j := 0) rfl
    have f_b2_0 := b2.free 0
    have c_b2_1 := b2.cell (j := 1) rfl
    have f_b2_1 := b2.free 1
    go_wp2_with fail
    clear c_b0_0 f_b0_0 c_b0_1 f_b0_1 c_b1_0 f_b1_0 c_b1_1 f_b1_1 c_b2_0 f_b2_0 c_b2_1 f_b2_1
    refine (small_no _ _ _ _ _ (by omega)).mono ?_
    rintro e V3 ⟨rfl, ff⟩
    have hsz3 := ff.size
    replace hw := hw.trans ff (by simp)
    replace b0 := b0.kept ff
    replace b1 := b1.kept ff
    replace b2 := b2.kept ff
    clear ff
    have c_b0_0 := b0.cell (j := 0) rfl
    have f_b0_0 := b0.free 0
    have c_b0_1 := b0.cell (j := 1) rfl
    have f_b0_1 := b0.free 1
    have c_b1_0 := b1.cell (j := 0) rfl
    have f_b1_0 := b1.free 0
    have c_b1_1 := b1.cell (j := 1) rfl
    have f_b1_1 := b1.free 1
    have c_b2_0 := b2.cell (j := 0) rfl
    have f_b2_0 := b2.free 0
    have c_b2_1 := b2.cell (j := 1) rfl
    have f_b2_1 := b2.free 1
    go_wp2_with fail
    clear c_b0_0 f_b0_0 c_b0_1 f_b0_1 c_b1_0 f_b1_0 c_b1_1 f_b1_1 c_b2_0 f_b2_0 c_b2_1 f_b2_1
    refine (awake2_any _).mono ?_
    rintro e V4 ⟨rfl, ff⟩
    have hsz4 := ff.size
    replace hw := hw.trans ff (by simp)
    replace b0 := b0.kept ff
    replace b1 := b1.kept ff
    replace b2 := b2.kept ff
    clear ff
    have c_b0_0 := b0.cell (j := 0) rfl
    have f_b0_0 := b0.free 0
    have c_b0_1 := b0.cell (j := 1) rfl
    have f_b0_1 := b0.free 1
    have c_b1_0 := b1.cell (j := 0) rfl
    have f_b1_0 := b1.free 0
    have c_b1_1 := b1.cell (j := 1) rfl
    have f_b1_1 := b1.free 1
    have c_b2_0 := b2.cell (j := 0) rfl
    have f_b2_0 := b2.free 0
    have c_b2_1 := b2.cell (j := 1) rfl
    have f_b2_1 := b2.free 1
    go_wp2
    go_ret
    exact ⟨rfl, hw⟩
  exact iring_small g h f p q r n c m d k e xs ys zs w h1 h2 h3 B1 B2 B3

set_option maxRecDepth 100000 in
theorem integerRing_lifted (os : Os) (started : os.Started) (H : Type) (enc : TypeId × Value → H) :
    ReturnsInHanded {} Try.checked os 10 .any (Rows.integerRingSpec.pre6 enc Try.prog Try.f10 Rows.integerRingRow.domain false) (Rows.integerRingSpec.post enc Try.prog Try.f10 false true false false) := by
  refine returnsInHanded_of_change (C := Try.checked) Try.own started (by kernel_rfl) Try.func10
    (ChangeSpec.witness6 (enc := enc) (C := Try.checked) false ⟨#[], #[.agg #[.bool false, .slice none 0 0], .agg #[.bool false, .slice none 0 0], .agg #[.bool false, .slice none 0 0]], []⟩ 8 (by kernel_rfl) (by kernel_rfl) (by kernel_rfl) (by kernel_rfl)) ?_
  intro W base args ds gs before hval0 hW hcnd _
  have hval : ∀ (j : Nat) t v, Try.f10.params[j]? = some t → args[j]? = some v → Value.okWide Try.prog W .any base t v := hval0
  have hW' := hW
  obtain ⟨p, q, hA0, hV, rfl, hfz, hnd⟩ := hW
  have hA : DataW.TrodAll enc Try.prog W 0 (fun _ => true) true Try.f10.params.toList args.toList ds p := hA0
  rw [Try.params10] at hA hval
  obtain ⟨v0, v1, v2, d0, d1, d2, p0, p1, p2, rfl, rfl, rfl, h0, h1, h2⟩ := trodAll_three hA
  obtain ⟨rfl, rfl⟩ := trodVars_none hV
  obtain ⟨b0, a0, l0, c0, x0, rfl, k0⟩ := view_int (hval 0 41 v0 rfl rfl) h0
  obtain ⟨b1, a1, l1, c1, x1, rfl, k1⟩ := view_int (hval 1 41 v1 rfl rfl) h1
  obtain ⟨b2, a2, l2, c2, x2, rfl, k2⟩ := view_int (hval 2 41 v2 rfl rfl) h2
  clear hA0 hval0
  simp only [List.append_nil] at hW'
  have hlt : ∀ x ∈ p0 ++ (p1 ++ p2), x.block < W.heap.size := fun x hx => hW'.lt x (by simpa using hx)
  refine (iring_any b0 b1 b2 a0 a1 a2 l0 c0 l1 c1 l2 c2 x0 x1 x2 W k0 k1 k2).mono fun e W' ⟨he, hf⟩ => ?_
  subst he
  have hb := hf.below
  exact ⟨_, rfl, _, _, _, _, _, [], hW', trodAll_mk1 (shut_bool Try.underlying4 _),
    trodAll_mk3 (staysI h0 hb (fun x hx => hlt x (by simp [hx]))) (staysI h1 hb (fun x hx => hlt x (by simp [hx]))) (staysI h2 hb (fun x hx => hlt x (by simp [hx]))), rfl, hb.frame _, fun h => by cases h⟩

theorem integerRing_holds : Rows.IntegerRingSaid :=
  OpenClaim.holds_of_wide 10 Try.f10 rfl rfl rfl rfl rfl rfl rfl ⟨rfl, rfl, rfl, rfl, rfl⟩ rfl rfl rfl rfl rfl (by kernel_rfl) Try.func10 (by kernel_rfl)
    (of_decide_eq_true (by kernel_rfl)) (by unfold Func.isWrapper; first | (rw [if_pos (by decide +kernel)]; kernel_rfl) | (rw [if_neg (by decide +kernel)]; exact ⟨rfl, rfl⟩))
    (fun os started H enc _ => integerRing_lifted os started H enc)

#print axioms integerRing_holds

end Go.Proofs.Ytpdlcnjojjeoiaa
