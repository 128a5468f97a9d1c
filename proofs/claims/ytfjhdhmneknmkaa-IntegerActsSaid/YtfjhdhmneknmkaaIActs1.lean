/- IntegerActs: for every two integers, given by any digits, Small, Valid, Sign, Compare, Trim, Neg, Abs, Add, Sub, Mul and Gcd answer as the document's own functions do. No condition. Written by wip/gen/gen_iacts.py. -/
import Derived.Test.YtfjhdhmneknmkaaInt14
import Derived.Test.YtfjhdhmneknmkaaInt13
import Derived.Test.YtfjhdhmneknmkaaGcd
import Derived.Test.YtfjhdhmneknmkaaInt10
import Derived.Test.YtfjhdhmneknmkaaIntOpen
namespace Go.Proofs.Ytfjhdhmneknmkaa
open Go.RowKit Go.ChangeShapes Go.WideShapes Go.ChangeAt

theorem len_sub (x y : Int) : (dg (x - y).natAbs).length ≤ (dg x.natAbs).length + (dg y.natAbs).length + 1 := by
  have := len_add x (-y)
  rw [len_neg, ← Int.sub_eq_add_neg] at this
  exact this
theorem rsmall_no {g : Bool} {p : Option Addr} {n c : Nat} {xs : List Nat} {w : World} (h1 : Sl w p n c xs) (hn : n ≤ 1048576) (hf : ¬ Fits (iv g (val xs))) :
    Calls Try.prog 29 #[iw g p n c] w fun e w' => e = .returned (.tuple #[.int .i64 0, .bool false]) ∧ Fr [] w w' :=
  (rsmall_v g p n c xs w h1 hn).mono fun _ _ ⟨a, b⟩ => ⟨a.elim (fun x => absurd x.1 hf) (fun x => x.2), b⟩
theorem rsmall_yes {g : Bool} {p : Option Addr} {n c : Nat} {xs : List Nat} {w : World} (h1 : Sl w p n c xs) (hn : n ≤ 1048576) (hf : Fits (iv g (val xs))) :
    Calls Try.prog 29 #[iw g p n c] w fun e w' => e = .returned (.tuple #[.int .i64 (iv g (val xs)), .bool true]) ∧ Fr [] w w' :=
  (rsmall_v g p n c xs w h1 hn).mono fun _ _ ⟨a, b⟩ => ⟨a.elim (fun x => x.2) (fun x => absurd hf x.1), b⟩

set_option maxRecDepth 100000 in
set_option maxHeartbeats 8000000 in
theorem iacts_yes (g h : Bool) (p q : Option Addr) (n c m d : Nat) (xs ys : List Nat) (w : World) (h1 : Sl w p n c xs) (h2 : Sl w q m d ys) (B1 : n ≤ 10) (B2 : m ≤ 10) (hf : Fits (iv g (val xs))) :
    Calls Try.prog 5 #[iw g p n c, iw h q m d] w fun e w' => e = .returned (.bool true) ∧ Fr [] w w' := by
  obtain ⟨x, hx⟩ : ∃ x, x = iv g (val xs) := ⟨_, rfl⟩
  obtain ⟨y, hy⟩ : ∃ y, y = iv h (val ys) := ⟨_, rfl⟩
  have L_x := iv_len hx h1
  have L_y := iv_len hy h2
  have l1 := dg_len_val h1.dig
  have l2 := dg_len_val h2.dig
  rw [h1.len] at l1
  rw [h2.len] at l2
  obtain ⟨VB, hvb⟩ : ∃ b, (nmb xs && !(g && decide (n = 0))) = b := ⟨_, rfl⟩
  obtain ⟨SG, hsg⟩ : ∃ z, x.sign = z := ⟨_, rfl⟩
  obtain ⟨CZ, hcz⟩ : ∃ z, cmpZ x y = z := ⟨_, rfl⟩
  have nb : (VB != VB) = false := by cases VB <;> rfl
  have ns : (SG != SG) = false := by simp
  have nz : (CZ != CZ) = false := by simp
  have nx : (x != x) = false := by simp
  have HVB := Lib.hid hvb
  have HSG := Lib.hid hsg
  have HCZ := Lib.hid hcz
  have HF := Lib.hid hf
  have HX := Lib.hid hx
  have HY := Lib.hid hy
  clear hx hy hvb hsg hcz hf
  go_enter Try.func5, Try.ntmps5
  go_wp2_with fail
  have g_h1 := h1
  have g_h2 := h2
  have hw : Fr [] w ((w.alloc (Obj.cells #[.bool g, .slice p n c] 40)).alloc (Obj.cells #[.bool h, .slice q m d] 40)) := ((Fr.refl _ _).alloc _).alloc _
  have b0 : Bx ((w.alloc (Obj.cells #[.bool g, .slice p n c] 40)).alloc (Obj.cells #[.bool h, .slice q m d] 40)) w.heap.size 40 #[.bool g, .slice p n c] := (Bx.made' (by simp) _ _).kept ((Fr.refl _ _).alloc _)
  have b1 : Bx ((w.alloc (Obj.cells #[.bool g, .slice p n c] 40)).alloc (Obj.cells #[.bool h, .slice q m d] 40)) (w.heap.size + 1) 40 #[.bool h, .slice q m d] := (Bx.made' (by simp) _ _).kept (Fr.refl _ _)
  generalize ((w.alloc (Obj.cells #[.bool g, .slice p n c] 40)).alloc (Obj.cells #[.bool h, .slice q m d] 40)) = W at *
  have hbs := b1.lt
  replace h1 := h1.kept hw
  replace h2 := h2.kept hw
  have c_b0_0 := b0.cell (j := 0) rfl
  have f_b0_0 := b0.free 0
  have c_b0_1 := b0.cell (j := 1) rfl
  have f_b0_1 := b0.free 1
  have c_b1_0 := b1.cell (j := 0) rfl
  have f_b1_0 := b1.free 0
  have c_b1_1 := b1.cell (j := 1) rfl
  have f_b1_1 := b1.free 1
  go_wp2_with fail
  clear c_b0_0 f_b0_0 c_b0_1 f_b0_1 c_b1_0 f_b1_0 c_b1_1 f_b1_1
  refine (small_yes _ _ _ _ _ B1).mono ?_
  rintro e V1 ⟨rfl, ff⟩
  have hsz1 := ff.size
  replace hw := hw.trans ff (by simp)
  replace h1 := h1.kept ff
  replace h2 := h2.kept ff
  replace b0 := b0.kept ff
  replace b1 := b1.kept ff
  clear ff
  have c_b0_0 := b0.cell (j := 0) rfl
  have f_b0_0 := b0.free 0
  have c_b0_1 := b0.cell (j := 1) rfl
  have f_b0_1 := b0.free 1
  have c_b1_0 := b1.cell (j := 0) rfl
  have f_b1_0 := b1.free 0
  have c_b1_1 := b1.cell (j := 1) rfl
  have f_b1_1 := b1.free 1
  go_wp2_with fail
  clear c_b0_0 f_b0_0 c_b0_1 f_b0_1 c_b1_0 f_b1_0 c_b1_1 f_b1_1
  refine (small_yes _ _ _ _ _ B2).mono ?_
  rintro e V2 ⟨rfl, ff⟩
  have hsz2 := ff.size
  replace hw := hw.trans ff (by simp)
  replace h1 := h1.kept ff
  replace h2 := h2.kept ff
  replace b0 := b0.kept ff
  replace b1 := b1.kept ff
  clear ff
  have c_b0_0 := b0.cell (j := 0) rfl
  have f_b0_0 := b0.free 0
  have c_b0_1 := b0.cell (j := 1) rfl
  have f_b0_1 := b0.free 1
  have c_b1_0 := b1.cell (j := 0) rfl
  have f_b1_0 := b1.free 0
  have c_b1_1 := b1.cell (j := 1) rfl
  have f_b1_1 := b1.free 1
  go_wp2_with fail
  clear c_b0_0 f_b0_0 c_b0_1 f_b0_1 c_b1_0 f_b1_0 c_b1_1 f_b1_1
  refine (ismall_yes g _ _ _ xs _ h1 (by omega) HF.out).mono ?_
  rw [← HX.out]
  rintro e V3 ⟨rfl, ff⟩
  have hsz3 := ff.size
  replace hw := hw.trans ff (by simp)
  replace h1 := h1.kept ff
  replace h2 := h2.kept ff
  replace b0 := b0.kept ff
  replace b1 := b1.kept ff
  clear ff
  have c_b0_0 := b0.cell (j := 0) rfl
  have f_b0_0 := b0.free 0
  have c_b0_1 := b0.cell (j := 1) rfl
  have f_b0_1 := b0.free 1
  have c_b1_0 := b1.cell (j := 0) rfl
  have f_b1_0 := b1.free 0
  have c_b1_1 := b1.cell (j := 1) rfl
  have f_b1_1 := b1.free 1
  go_wp2_with fail
  clear c_b0_0 f_b0_0 c_b0_1 f_b0_1 c_b1_0 f_b1_0 c_b1_1 f_b1_1
  refine (rsmall_yes h1 (by omega) HF.out).mono ?_
  rw [← HX.out]
  rintro e V4 ⟨rfl, ff⟩
  have hsz4 := ff.size
  replace hw := hw.trans ff (by simp)
  replace h1 := h1.kept ff
  replace h2 := h2.kept ff
  replace b0 := b0.kept ff
  replace b1 := b1.kept ff
  clear ff
  obtain ⟨s_t, hs_t⟩ : ∃ b, decide (x < 0) = b := ⟨_, rfl⟩
  obtain ⟨M_t, hm_t⟩ : ∃ M, (x).natAbs = M := ⟨_, rfl⟩
  have L_t := L_x
  rw [hm_t] at L_t
  have he_t : iv s_t (val (dg M_t)) = x := by rw [val_dg]; exact iv_eq hs_t hm_t
  have HS_t := Lib.hid hs_t
  have HM_t := Lib.hid hm_t
  have HE_t := Lib.hid he_t
  clear hs_t hm_t he_t
  obtain ⟨s_v, hs_v⟩ : ∃ b, decide (-x < 0) = b := ⟨_, rfl⟩
  obtain ⟨M_v, hm_v⟩ : ∃ M, (-x).natAbs = M := ⟨_, rfl⟩
  have L_v := Nat.le_of_eq (len_neg x)
  rw [hm_v] at L_v
  have he_v : iv s_v (val (dg M_v)) = -x := by rw [val_dg]; exact iv_eq hs_v hm_v
  have HS_v := Lib.hid hs_v
  have HM_v := Lib.hid hm_v
  have HE_v := Lib.hid he_v
  clear hs_v hm_v he_v
  obtain ⟨s_ay, hs_ay⟩ : ∃ b, decide ((x.natAbs : Int) < 0) = b := ⟨_, rfl⟩
  obtain ⟨M_ay, hm_ay⟩ : ∃ M, ((x.natAbs : Int)).natAbs = M := ⟨_, rfl⟩
  have L_ay := Nat.le_of_eq (congrArg (fun k => (dg k).length) (Int.natAbs_natCast x.natAbs))
  rw [hm_ay] at L_ay
  have he_ay : iv s_ay (val (dg M_ay)) = (x.natAbs : Int) := by rw [val_dg]; exact iv_eq hs_ay hm_ay
  have HS_ay := Lib.hid hs_ay
  have HM_ay := Lib.hid hm_ay
  have HE_ay := Lib.hid he_ay
  clear hs_ay hm_ay he_ay
  obtain ⟨s_a, hs_a⟩ : ∃ b, decide (x + y < 0) = b := ⟨_, rfl⟩
  obtain ⟨M_a, hm_a⟩ : ∃ M, (x + y).natAbs = M := ⟨_, rfl⟩
  have L_a := len_add x y
  rw [hm_a] at L_a
  have he_a : iv s_a (val (dg M_a)) = x + y := by rw [val_dg]; exact iv_eq hs_a hm_a
  have HS_a := Lib.hid hs_a
  have HM_a := Lib.hid hm_a
  have HE_a := Lib.hid he_a
  clear hs_a hm_a he_a
  obtain ⟨s_s, hs_s⟩ : ∃ b, decide (x - y < 0) = b := ⟨_, rfl⟩
  obtain ⟨M_s, hm_s⟩ : ∃ M, (x - y).natAbs = M := ⟨_, rfl⟩
  have L_s := len_sub x y
  rw [hm_s] at L_s
  have he_s : iv s_s (val (dg M_s)) = x - y := by rw [val_dg]; exact iv_eq hs_s hm_s
  have HS_s := Lib.hid hs_s
  have HM_s := Lib.hid hm_s
  have HE_s := Lib.hid he_s
  clear hs_s hm_s he_s
  obtain ⟨s_m, hs_m⟩ : ∃ b, decide (x * y < 0) = b := ⟨_, rfl⟩
  obtain ⟨M_m, hm_m⟩ : ∃ M, (x * y).natAbs = M := ⟨_, rfl⟩
  have L_m := len_mul x y
  rw [hm_m] at L_m
  have he_m : iv s_m (val (dg M_m)) = x * y := by rw [val_dg]; exact iv_eq hs_m hm_m
  have HS_m := Lib.hid hs_m
  have HM_m := Lib.hid hm_m
  have HE_m := Lib.hid he_m
  clear hs_m hm_m he_m
  obtain ⟨s_g, hs_g⟩ : ∃ b, decide (((Nat.gcd (val xs) (val ys) : Nat) : Int) < 0) = b := ⟨_, rfl⟩
  obtain ⟨M_g, hm_g⟩ : ∃ M, (((Nat.gcd (val xs) (val ys) : Nat) : Int)).natAbs = M := ⟨_, rfl⟩
  have L_g := Nat.le_of_eq (congrArg (fun k => (dg k).length) (Int.natAbs_natCast (Nat.gcd (val xs) (val ys))))
  rw [hm_g] at L_g
  have he_g : iv s_g (val (dg M_g)) = ((Nat.gcd (val xs) (val ys) : Nat) : Int) := by rw [val_dg]; exact iv_eq hs_g hm_g
  have HS_g := Lib.hid hs_g
  have HM_g := Lib.hid hm_g
  have HE_g := Lib.hid he_g
  clear hs_g hm_g he_g
  have c_b0_0 := b0.cell (j := 0) rfl
  have f_b0_0 := b0.free 0
  have c_b0_1 := b0.cell (j := 1) rfl
  have f_b0_1 := b0.free 1
  have c_b1_0 := b1.cell (j := 0) rfl
  have f_b1_0 := b1.free 0
  have c_b1_1 := b1.cell (j := 1) rfl
  have f_b1_1 := b1.free 1
  go_wp2_with fail
  clear c_b0_0 f_b0_0 c_b0_1 f_b0_1 c_b1_0 f_b1_0 c_b1_1 f_b1_1
  have Hw := hw.drew
  have Nb0 := b0.kept (Fr.refl [] V4).drew
  have Nb1 := b1.kept (Fr.refl [] V4).drew
  have Nh1 := h1.kept (Fr.refl [] V4).drew
  have Nh2 := h2.kept (Fr.refl [] V4).drew
  go_region_held3 (fun w' => w'.cell? ⟨w.heap.size, 0, none⟩ = some (.bool g) ∧ w'.cell? ⟨w.heap.size, 1, none⟩ = some (.slice p n c) ∧ w'.cell? ⟨w.heap.size + 1, 0, none⟩ = some (.bool h) ∧ w'.cell? ⟨w.heap.size + 1, 1, none⟩ = some (.slice q m d)) (first | exact ⟨(Nb0).cell (j := 0) rfl, (Nb0).cell (j := 1) rfl, (Nb1).cell (j := 0) rfl, (Nb1).cell (j := 1) rfl⟩ | exact ⟨(Nb0.kept (Fr.new _)).cell (j := 0) rfl, (Nb0.kept (Fr.new _)).cell (j := 1) rfl, (Nb1.kept (Fr.new _)).cell (j := 0) rfl, (Nb1.kept (Fr.new _)).cell (j := 1) rfl⟩)
    (first
    | (go_at_call 30; (with_reducible refine (ivalid_any g _ _ _ xs _ Nh1 (by omega)).mono ?_); rw [HVB.out]; rintro e V ⟨rfl, ff⟩; replace Hw := Hw.trans ff (by simp); replace Nb0 := Nb0.kept ff; replace Nb1 := Nb1.kept ff; replace Nh1 := Nh1.kept ff; replace Nh2 := Nh2.kept ff; clear ff)
    | (go_at_call 31; (with_reducible refine (rvalid_any g _ _ _ xs _ Nh1 (by omega)).mono ?_); rw [HVB.out]; rintro e V ⟨rfl, ff⟩; replace Hw := Hw.trans ff (by simp); replace Nb0 := Nb0.kept ff; replace Nb1 := Nb1.kept ff; replace Nh1 := Nh1.kept ff; replace Nh2 := Nh2.kept ff; clear ff)
    | (go_at_call 32; (with_reducible refine (isign_any g _ _ _ xs _ Nh1 (by omega)).mono ?_); rw [← HX.out, HSG.out]; rintro e V ⟨rfl, ff⟩; replace Hw := Hw.trans ff (by simp); replace Nb0 := Nb0.kept ff; replace Nb1 := Nb1.kept ff; replace Nh1 := Nh1.kept ff; replace Nh2 := Nh2.kept ff; clear ff)
    | (go_at_call 33; (with_reducible refine (rsign_any g _ _ _ xs _ Nh1 (by omega)).mono ?_); rw [← HX.out, HSG.out]; rintro e V ⟨rfl, ff⟩; replace Hw := Hw.trans ff (by simp); replace Nb0 := Nb0.kept ff; replace Nb1 := Nb1.kept ff; replace Nh1 := Nh1.kept ff; replace Nh2 := Nh2.kept ff; clear ff)
    | (go_at_call 34; (with_reducible refine (icmp_any g h _ _ _ _ _ _ xs ys _ Nh1 Nh2 (by omega) (by omega)).mono ?_); rw [← HX.out, ← HY.out, HCZ.out]; rintro e V ⟨rfl, ff⟩; replace Hw := Hw.trans ff (by simp); replace Nb0 := Nb0.kept ff; replace Nb1 := Nb1.kept ff; replace Nh1 := Nh1.kept ff; replace Nh2 := Nh2.kept ff; clear ff)
    | (go_at_call 35; (with_reducible refine (rcmp_i g h _ _ _ _ _ _ xs ys _ Nh1 Nh2 (by omega) (by omega)).mono ?_); rw [← HX.out, ← HY.out, HCZ.out]; rintro e V ⟨rfl, ff⟩; replace Hw := Hw.trans ff (by simp); replace Nb0 := Nb0.kept ff; replace Nb1 := Nb1.kept ff; replace Nh1 := Nh1.kept ff; replace Nh2 := Nh2.kept ff; clear ff))
  replace hw := Hw
  replace b0 := Nb0
  replace b1 := Nb1
  replace h1 := Nh1
  replace h2 := Nh2
  clear Hw Nb0 Nb1 Nh1 Nh2
  have c_b0_0 := b0.cell (j := 0) rfl
  have f_b0_0 := b0.free 0
  have c_b0_1 := b0.cell (j := 1) rfl
  have f_b0_1 := b0.free 1
  have c_b1_0 := b1.cell (j := 0) rfl
  have f_b1_0 := b1.free 0
  have c_b1_1 := b1.cell (j := 1) rfl
  have f_b1_1 := b1.free 1
  go_wp2_with fail
  clear c_b0_0 f_b0_0 c_b0_1 f_b0_1 c_b1_0 f_b1_0 c_b1_1 f_b1_1
  have Hw := hw.drew
  have Nb0 := b0.kept (Fr.refl [] V).drew
  have Nb1 := b1.kept (Fr.refl [] V).drew
  have Nh1 := h1.kept (Fr.refl [] V).drew
  have Nh2 := h2.kept (Fr.refl [] V).drew
  go_region_held3 (fun w' => w'.cell? ⟨w.heap.size, 0, none⟩ = some (.bool g) ∧ w'.cell? ⟨w.heap.size, 1, none⟩ = some (.slice p n c) ∧ w'.cell? ⟨w.heap.size + 1, 0, none⟩ = some (.bool h) ∧ w'.cell? ⟨w.heap.size + 1, 1, none⟩ = some (.slice q m d)) (first | exact ⟨(Nb0).cell (j := 0) rfl, (Nb0).cell (j := 1) rfl, (Nb1).cell (j := 0) rfl, (Nb1).cell (j := 1) rfl⟩ | exact ⟨(Nb0.kept (Fr.new _)).cell (j := 0) rfl, (Nb0.kept (Fr.new _)).cell (j := 1) rfl, (Nb1.kept (Fr.new _)).cell (j := 0) rfl, (Nb1.kept (Fr.new _)).cell (j := 1) rfl⟩)
    (first
    | (go_at_call 27; (with_reducible refine (awake2_any _).mono ?_); rintro e V ⟨rfl, ff⟩; replace Hw := Hw.trans ff (by simp); replace Nb0 := Nb0.kept ff; replace Nb1 := Nb1.kept ff; replace Nh1 := Nh1.kept ff; replace Nh2 := Nh2.kept ff; clear ff)
    | (go_at_call 37; (with_reducible refine (calls_rj (b := s_t) (m := M_t) (itrim_any g _ _ _ _ _ Nh1 (by omega)) (by exact HX.out.symm) HS_t.out HM_t.out).mono ?_); rintro e V ⟨p_o1t, c_o1t, rfl, o1t, ff⟩; replace Hw := Hw.trans ff (by simp); replace Nb0 := Nb0.kept ff; replace Nb1 := Nb1.kept ff; replace Nh1 := Nh1.kept ff; replace Nh2 := Nh2.kept ff; clear ff)
    | (go_at_call 38; (with_reducible refine (calls_rj (b := s_t) (m := M_t) (rtrim_any g _ _ _ _ _ Nh1 (by omega)) (by exact HX.out.symm) HS_t.out HM_t.out).mono ?_); rintro e V ⟨p_o2t, c_o2t, rfl, o2t, ff⟩; replace Hw := Hw.trans ff (by simp); replace Nb0 := Nb0.kept ff; replace Nb1 := Nb1.kept ff; replace Nh1 := Nh1.kept ff; replace Nh2 := Nh2.kept ff; try replace o1t := o1t.kept ff; clear ff)
    | (go_at_call 36; (with_reducible refine (isame_any s_t _ _ _ _ _ (dg M_t) _ o1t.sl o2t.sl).mono ?_); rintro e V ⟨rfl, ff⟩; replace Hw := Hw.trans ff (by simp); replace Nb0 := Nb0.kept ff; replace Nb1 := Nb1.kept ff; replace Nh1 := Nh1.kept ff; replace Nh2 := Nh2.kept ff; clear ff; clear o1t o2t)
    | (go_at_call 39; (with_reducible refine (calls_rj (b := s_v) (m := M_v) (ineg_any g _ _ _ _ _ Nh1 (by omega)) (by rw [← HX.out]) HS_v.out HM_v.out).mono ?_); rintro e V ⟨p_o1v, c_o1v, rfl, o1v, ff⟩; replace Hw := Hw.trans ff (by simp); replace Nb0 := Nb0.kept ff; replace Nb1 := Nb1.kept ff; replace Nh1 := Nh1.kept ff; replace Nh2 := Nh2.kept ff; clear ff)
    | (go_at_call 40; (with_reducible refine (calls_rj (b := s_v) (m := M_v) (rneg_any g _ _ _ _ _ Nh1 (by omega)) (by rw [← HX.out]) HS_v.out HM_v.out).mono ?_); rintro e V ⟨p_o2v, c_o2v, rfl, o2v, ff⟩; replace Hw := Hw.trans ff (by simp); replace Nb0 := Nb0.kept ff; replace Nb1 := Nb1.kept ff; replace Nh1 := Nh1.kept ff; replace Nh2 := Nh2.kept ff; try replace o1v := o1v.kept ff; clear ff)
    | (go_at_call 36; (with_reducible refine (isame_any s_v _ _ _ _ _ (dg M_v) _ o1v.sl o2v.sl).mono ?_); rintro e V ⟨rfl, ff⟩; replace Hw := Hw.trans ff (by simp); replace Nb0 := Nb0.kept ff; replace Nb1 := Nb1.kept ff; replace Nh1 := Nh1.kept ff; replace Nh2 := Nh2.kept ff; clear ff; clear o1v o2v)
    | (go_at_call 41; (with_reducible refine (calls_rj (b := s_ay) (m := M_ay) (iabs_v g _ _ _ _ _ Nh1 (by omega)) (by rw [← HX.out]) HS_ay.out HM_ay.out).mono ?_); rintro e V ⟨p_o1ay, c_o1ay, rfl, o1ay, ff⟩; replace Hw := Hw.trans ff (by simp); replace Nb0 := Nb0.kept ff; replace Nb1 := Nb1.kept ff; replace Nh1 := Nh1.kept ff; replace Nh2 := Nh2.kept ff; clear ff)
    | (go_at_call 42; (with_reducible refine (calls_rj (b := s_ay) (m := M_ay) (rabs_any g _ _ _ _ _ Nh1 (by omega)) (by rw [HX.out, iv_abs]) HS_ay.out HM_ay.out).mono ?_); rintro e V ⟨p_o2ay, c_o2ay, rfl, o2ay, ff⟩; replace Hw := Hw.trans ff (by simp); replace Nb0 := Nb0.kept ff; replace Nb1 := Nb1.kept ff; replace Nh1 := Nh1.kept ff; replace Nh2 := Nh2.kept ff; try replace o1ay := o1ay.kept ff; clear ff)
    | (go_at_call 36; (with_reducible refine (isame_any s_ay _ _ _ _ _ (dg M_ay) _ o1ay.sl o2ay.sl).mono ?_); rintro e V ⟨rfl, ff⟩; replace Hw := Hw.trans ff (by simp); replace Nb0 := Nb0.kept ff; replace Nb1 := Nb1.kept ff; replace Nh1 := Nh1.kept ff; replace Nh2 := Nh2.kept ff; clear ff; clear o1ay o2ay)
    | (go_at_call 43; (with_reducible refine (calls_rj (b := s_a) (m := M_a) (iadd_any g h _ _ _ _ _ _ _ _ _ Nh1 Nh2 (by omega) (by omega)) (by rw [← HX.out, ← HY.out]) HS_a.out HM_a.out).mono ?_); rintro e V ⟨p_o1a, c_o1a, rfl, o1a, ff⟩; replace Hw := Hw.trans ff (by simp); replace Nb0 := Nb0.kept ff; replace Nb1 := Nb1.kept ff; replace Nh1 := Nh1.kept ff; replace Nh2 := Nh2.kept ff; clear ff)
    | (go_at_call 44; (with_reducible refine (calls_rj (b := s_a) (m := M_a) (radd_i g h _ _ _ _ _ _ _ _ _ Nh1 Nh2 (by omega) (by omega)) (by rw [← HX.out, ← HY.out]) HS_a.out HM_a.out).mono ?_); rintro e V ⟨p_o2a, c_o2a, rfl, o2a, ff⟩; replace Hw := Hw.trans ff (by simp); replace Nb0 := Nb0.kept ff; replace Nb1 := Nb1.kept ff; replace Nh1 := Nh1.kept ff; replace Nh2 := Nh2.kept ff; try replace o1a := o1a.kept ff; clear ff)
    | (go_at_call 36; (with_reducible refine (isame_any s_a _ _ _ _ _ (dg M_a) _ o1a.sl o2a.sl).mono ?_); rintro e V ⟨rfl, ff⟩; replace Hw := Hw.trans ff (by simp); replace Nb0 := Nb0.kept ff; replace Nb1 := Nb1.kept ff; replace Nh1 := Nh1.kept ff; replace Nh2 := Nh2.kept ff; clear ff; clear o1a o2a)
    | (go_at_call 45; (with_reducible refine (calls_rj (b := s_s) (m := M_s) (isub_any g h _ _ _ _ _ _ _ _ _ Nh1 Nh2 (by omega) (by omega)) (by rw [← HX.out, ← HY.out]) HS_s.out HM_s.out).mono ?_); rintro e V ⟨p_o1s, c_o1s, rfl, o1s, ff⟩; replace Hw := Hw.trans ff (by simp); replace Nb0 := Nb0.kept ff; replace Nb1 := Nb1.kept ff; replace Nh1 := Nh1.kept ff; replace Nh2 := Nh2.kept ff; clear ff)
    | (go_at_call 46; (with_reducible refine (calls_rj (b := s_s) (m := M_s) (rsub_i g h _ _ _ _ _ _ _ _ _ Nh1 Nh2 (by omega) (by omega)) (by rw [← HX.out, ← HY.out]) HS_s.out HM_s.out).mono ?_); rintro e V ⟨p_o2s, c_o2s, rfl, o2s, ff⟩; replace Hw := Hw.trans ff (by simp); replace Nb0 := Nb0.kept ff; replace Nb1 := Nb1.kept ff; replace Nh1 := Nh1.kept ff; replace Nh2 := Nh2.kept ff; try replace o1s := o1s.kept ff; clear ff)
    | (go_at_call 36; (with_reducible refine (isame_any s_s _ _ _ _ _ (dg M_s) _ o1s.sl o2s.sl).mono ?_); rintro e V ⟨rfl, ff⟩; replace Hw := Hw.trans ff (by simp); replace Nb0 := Nb0.kept ff; replace Nb1 := Nb1.kept ff; replace Nh1 := Nh1.kept ff; replace Nh2 := Nh2.kept ff; clear ff; clear o1s o2s)
    | (go_at_call 47; (with_reducible refine (calls_rj (b := s_m) (m := M_m) (imul_any g h _ _ _ _ _ _ _ _ _ Nh1 Nh2 (by omega) (by omega)) (by rw [← HX.out, ← HY.out]) HS_m.out HM_m.out).mono ?_); rintro e V ⟨p_o1m, c_o1m, rfl, o1m, ff⟩; replace Hw := Hw.trans ff (by simp); replace Nb0 := Nb0.kept ff; replace Nb1 := Nb1.kept ff; replace Nh1 := Nh1.kept ff; replace Nh2 := Nh2.kept ff; clear ff)
    | (go_at_call 48; (with_reducible refine (calls_rj (b := s_m) (m := M_m) (rmul_i g h _ _ _ _ _ _ _ _ _ Nh1 Nh2 (by omega) (by omega)) (by rw [← HX.out, ← HY.out]) HS_m.out HM_m.out).mono ?_); rintro e V ⟨p_o2m, c_o2m, rfl, o2m, ff⟩; replace Hw := Hw.trans ff (by simp); replace Nb0 := Nb0.kept ff; replace Nb1 := Nb1.kept ff; replace Nh1 := Nh1.kept ff; replace Nh2 := Nh2.kept ff; try replace o1m := o1m.kept ff; clear ff)
    | (go_at_call 36; (with_reducible refine (isame_any s_m _ _ _ _ _ (dg M_m) _ o1m.sl o2m.sl).mono ?_); rintro e V ⟨rfl, ff⟩; replace Hw := Hw.trans ff (by simp); replace Nb0 := Nb0.kept ff; replace Nb1 := Nb1.kept ff; replace Nh1 := Nh1.kept ff; replace Nh2 := Nh2.kept ff; clear ff; clear o1m o2m)
    | (go_at_call 49; (with_reducible refine (calls_rj (b := s_g) (m := M_g) (igcd_any g h _ _ _ _ _ _ _ _ _ Nh1 Nh2 (by omega) (by omega)) rfl HS_g.out HM_g.out).mono ?_); rintro e V ⟨p_o1g, c_o1g, rfl, o1g, ff⟩; replace Hw := Hw.trans ff (by simp); replace Nb0 := Nb0.kept ff; replace Nb1 := Nb1.kept ff; replace Nh1 := Nh1.kept ff; replace Nh2 := Nh2.kept ff; clear ff)
    | (go_at_call 50; (with_reducible refine (calls_rj (b := s_g) (m := M_g) (rigcd_any g h _ _ _ _ _ _ _ _ _ Nh1 Nh2 (by omega) (by omega)) rfl HS_g.out HM_g.out).mono ?_); rintro e V ⟨p_o2g, c_o2g, rfl, o2g, ff⟩; replace Hw := Hw.trans ff (by simp); replace Nb0 := Nb0.kept ff; replace Nb1 := Nb1.kept ff; replace Nh1 := Nh1.kept ff; replace Nh2 := Nh2.kept ff; try replace o1g := o1g.kept ff; clear ff)
    | (go_at_call 36; (with_reducible refine (isame_any s_g _ _ _ _ _ (dg M_g) _ o1g.sl o2g.sl).mono ?_); rintro e V ⟨rfl, ff⟩; replace Hw := Hw.trans ff (by simp); replace Nb0 := Nb0.kept ff; replace Nb1 := Nb1.kept ff; replace Nh1 := Nh1.kept ff; replace Nh2 := Nh2.kept ff; clear ff; clear o1g o2g))
  go_wp2
  go_ret
  exact ⟨rfl, Hw⟩


end Go.Proofs.Ytfjhdhmneknmkaa
