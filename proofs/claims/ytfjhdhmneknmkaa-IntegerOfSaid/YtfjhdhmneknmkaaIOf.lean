/- IntegerOf: for every two ints, Of makes a valid integer, as the document's own function does, Small reads it back, and Compare keeps the order. No condition. Written by wip/gen/gen_iof.py. -/
import Derived.Test.YtfjhdhmneknmkaaIntOpen
namespace Go.Proofs.Ytfjhdhmneknmkaa
open Go.RowKit Go.ChangeShapes Go.WideShapes Go.ChangeAt

theorem valid_canon {z : Int} {s : Bool} {M : Nat} (hs : decide (z < 0) = s) (hm : z.natAbs = M) : (nmb (dg M) && !(s && decide ((dg M).length = 0))) = true := by
  have h1 : nmb (dg M) = true := by
    unfold nmb
    apply decide_eq_true
    by_cases h : (dg M).length = 0
    · exact Or.inl h
    · obtain ⟨k, hk⟩ : ∃ k, (dg M).length = k + 1 := ⟨(dg M).length - 1, by omega⟩
      right
      rw [hk, Nat.add_sub_cancel]
      exact dg_last hk
  rw [h1]
  cases s
  · rfl
  · have hz := of_decide_eq_true hs
    have h0 : (dg M).length ≠ 0 := fun e => by
      have := dg_nil.1 (List.eq_nil_of_length_eq_zero e)
      omega
    rw [decide_eq_false h0]
    rfl
theorem small_len {z : Int} {M : Nat} (hm : z.natAbs = M) (h : -9223372036854775808 ≤ z) (h2 : z ≤ 9223372036854775807) : (dg M).length ≤ 2 :=
  dg_len_le (by rw [show pB 2 = 18446744073709551616 by decide]; omega)

set_option maxRecDepth 100000 in
set_option maxHeartbeats 4000000 in
theorem iof_lt (n m : Int) (w : World) (g1 : -9223372036854775808 ≤ n) (g2 : n ≤ 9223372036854775807) (g3 : -9223372036854775808 ≤ m) (g4 : m ≤ 9223372036854775807) (h : n < m) :
    Calls Try.prog 7 #[.int .i64 n, .int .i64 m] w fun e w' => e = .returned (.bool true) ∧ Fr [] w w' := by
  have hd1 : decide (n < m) = true := decide_eq_true (by omega)
  have hcz : cmpZ n m = -1 := by rw [cmpZ_lt h]
  have HC := Lib.hid hcz
  have hnn : (n == n) = true := by simp
  clear hcz h
  obtain ⟨s1, hs1⟩ : ∃ b, decide (n < 0) = b := ⟨_, rfl⟩
  obtain ⟨M1, hm1⟩ : ∃ M, n.natAbs = M := ⟨_, rfl⟩
  obtain ⟨s2, hs2⟩ : ∃ b, decide (m < 0) = b := ⟨_, rfl⟩
  obtain ⟨M2, hm2⟩ : ∃ M, m.natAbs = M := ⟨_, rfl⟩
  have L1 := small_len hm1 g1 g2
  have L2 := small_len hm2 g3 g4
  have he1 : iv s1 (val (dg M1)) = n := by rw [val_dg]; exact iv_eq hs1 hm1
  have he2 : iv s2 (val (dg M2)) = m := by rw [val_dg]; exact iv_eq hs2 hm2
  have hval := valid_canon hs1 hm1
  have HS1 := Lib.hid hs1
  have HM1 := Lib.hid hm1
  have HS2 := Lib.hid hs2
  have HM2 := Lib.hid hm2
  have HE1 := Lib.hid he1
  have HE2 := Lib.hid he2
  have HVL := Lib.hid hval
  clear hs1 hm1 hs2 hm2 he1 he2 hval
  go_enter Try.func7, Try.ntmps7
  go_wp2_with fail
  refine (calls_ri (b := s1) (m := M1) (of_any n w g1 g2) HS1.out HM1.out).mono ?_
  rintro e w1 ⟨p1, c1, rfl, o1, hw⟩
  go_wp2_with fail
  refine (calls_ri (b := s2) (m := M2) (of_any m w1 g3 g4) HS2.out HM2.out).mono ?_
  rintro e w2 ⟨p2, c2, rfl, o2, ff⟩
  replace o1 := o1.kept ff
  replace hw := hw.trans ff (by simp)
  clear ff
  go_wp2_with fail
  have b0 : Bx ((w2.alloc (Obj.cells #[.bool s1, .slice p1 (dg M1).length c1] 40)).alloc (Obj.cells #[.bool s2, .slice p2 (dg M2).length c2] 40)) w2.heap.size 40 #[.bool s1, .slice p1 (dg M1).length c1] := (Bx.made _ _ _).kept (Fr.new _)
  have b1 : Bx ((w2.alloc (Obj.cells #[.bool s1, .slice p1 (dg M1).length c1] 40)).alloc (Obj.cells #[.bool s2, .slice p2 (dg M2).length c2] 40)) (w2.heap.size + 1) 40 #[.bool s2, .slice p2 (dg M2).length c2] := Bx.made' (by simp) _ _
  have s1' := o1.sl.kept ((Fr.new (w := w2) (Obj.cells #[.bool s1, .slice p1 (dg M1).length c1] 40)).alloc (Obj.cells #[.bool s2, .slice p2 (dg M2).length c2] 40))
  have s2' := o2.sl.kept ((Fr.new (w := w2) (Obj.cells #[.bool s1, .slice p1 (dg M1).length c1] 40)).alloc (Obj.cells #[.bool s2, .slice p2 (dg M2).length c2] 40))
  replace hw := (hw.alloc (Obj.cells #[.bool s1, .slice p1 (dg M1).length c1] 40)).alloc (Obj.cells #[.bool s2, .slice p2 (dg M2).length c2] 40)
  generalize ((w2.alloc (Obj.cells #[.bool s1, .slice p1 (dg M1).length c1] 40)).alloc (Obj.cells #[.bool s2, .slice p2 (dg M2).length c2] 40)) = w4 at *
  clear o1 o2
  refine (ismall_yes s1 _ _ _ (dg M1) _ s1' (by omega) (by rw [HE1.out]; exact ⟨g1, by omega⟩)).mono ?_
  rw [HE1.out]
  rintro e w5 ⟨rfl, ff⟩
  replace b0 := b0.kept ff
  replace b1 := b1.kept ff
  replace s1' := s1'.kept ff
  replace s2' := s2'.kept ff
  replace hw := hw.trans ff (by simp)
  clear ff
  go_wp2_with fail
  have Hw := hw.drew
  have B0 := b0.kept (Fr.refl [] w5).drew
  have B1 := b1.kept (Fr.refl [] w5).drew
  have S1 := s1'.kept (Fr.refl [] w5).drew
  have S2 := s2'.kept (Fr.refl [] w5).drew
  go_region_held3 (fun w' => w'.cell? ⟨w2.heap.size, 0, none⟩ = some (.bool s1) ∧ w'.cell? ⟨w2.heap.size, 1, none⟩ = some (.slice p1 (dg M1).length c1) ∧ w'.cell? ⟨w2.heap.size + 1, 0, none⟩ = some (.bool s2) ∧ w'.cell? ⟨w2.heap.size + 1, 1, none⟩ = some (.slice p2 (dg M2).length c2)) (exact ⟨B0.cell (j := 0) rfl, B0.cell (j := 1) rfl, B1.cell (j := 0) rfl, B1.cell (j := 1) rfl⟩)
    (first
    | (go_at_call 27; (with_reducible refine (awake2_any _).mono ?_); rintro e V ⟨rfl, ff⟩; have Hw := Hw.trans ff (by simp); have B0 := B0.kept ff; have B1 := B1.kept ff; have S1 := S1.kept ff; have S2 := S2.kept ff)
    | (go_at_call 30; (with_reducible refine (ivalid_any s1 _ _ _ (dg M1) _ S1 (by omega)).mono ?_); rw [HVL.out]; rintro e V ⟨rfl, ff⟩; have Hw := Hw.trans ff (by simp); have B0 := B0.kept ff; have B1 := B1.kept ff; have S1 := S1.kept ff; have S2 := S2.kept ff)
    | (go_at_call 54; (with_reducible refine (calls_ri (b := s1) (m := M1) (rof_any n _ g1 g2) HS1.out HM1.out).mono ?_); rintro e V ⟨p7, c7, rfl, o7, ff⟩; have Hw := Hw.trans ff (by simp); have B0 := B0.kept ff; have B1 := B1.kept ff; have S1 := S1.kept ff; have S2 := S2.kept ff)
    | (go_at_call 36; (with_reducible refine (isame_any s1 _ _ _ _ _ (dg M1) _ S1 o7.sl).mono ?_); rintro e V ⟨rfl, ff⟩; have Hw := Hw.trans ff (by simp); have B0 := B0.kept ff; have B1 := B1.kept ff; have S1 := S1.kept ff; have S2 := S2.kept ff)
    | (go_at_call 34; (with_reducible refine (icmp_any s1 s2 _ _ _ _ _ _ (dg M1) (dg M2) _ S1 S2 (by omega) (by omega)).mono ?_); rw [HE1.out, HE2.out, HC.out]; rintro e V ⟨rfl, ff⟩; have Hw := Hw.trans ff (by simp); have B0 := B0.kept ff; have B1 := B1.kept ff; have S1 := S1.kept ff; have S2 := S2.kept ff))
  go_wp2
  go_ret
  exact ⟨rfl, Hw⟩

set_option maxRecDepth 100000 in
set_option maxHeartbeats 4000000 in
theorem iof_gt (n m : Int) (w : World) (g1 : -9223372036854775808 ≤ n) (g2 : n ≤ 9223372036854775807) (g3 : -9223372036854775808 ≤ m) (g4 : m ≤ 9223372036854775807) (h : m < n) :
    Calls Try.prog 7 #[.int .i64 n, .int .i64 m] w fun e w' => e = .returned (.bool true) ∧ Fr [] w w' := by
  have hd1 : decide (n < m) = false := decide_eq_false (by omega)
  have hd2 : decide (m < n) = true := decide_eq_true (by omega)
  have hcz : cmpZ n m = 1 := by rw [cmpZ_gt h]
  have HC := Lib.hid hcz
  have hnn : (n == n) = true := by simp
  clear hcz h
  obtain ⟨s1, hs1⟩ : ∃ b, decide (n < 0) = b := ⟨_, rfl⟩
  obtain ⟨M1, hm1⟩ : ∃ M, n.natAbs = M := ⟨_, rfl⟩
  obtain ⟨s2, hs2⟩ : ∃ b, decide (m < 0) = b := ⟨_, rfl⟩
  obtain ⟨M2, hm2⟩ : ∃ M, m.natAbs = M := ⟨_, rfl⟩
  have L1 := small_len hm1 g1 g2
  have L2 := small_len hm2 g3 g4
  have he1 : iv s1 (val (dg M1)) = n := by rw [val_dg]; exact iv_eq hs1 hm1
  have he2 : iv s2 (val (dg M2)) = m := by rw [val_dg]; exact iv_eq hs2 hm2
  have hval := valid_canon hs1 hm1
  have HS1 := Lib.hid hs1
  have HM1 := Lib.hid hm1
  have HS2 := Lib.hid hs2
  have HM2 := Lib.hid hm2
  have HE1 := Lib.hid he1
  have HE2 := Lib.hid he2
  have HVL := Lib.hid hval
  clear hs1 hm1 hs2 hm2 he1 he2 hval
  go_enter Try.func7, Try.ntmps7
  go_wp2_with fail
  refine (calls_ri (b := s1) (m := M1) (of_any n w g1 g2) HS1.out HM1.out).mono ?_
  rintro e w1 ⟨p1, c1, rfl, o1, hw⟩
  go_wp2_with fail
  refine (calls_ri (b := s2) (m := M2) (of_any m w1 g3 g4) HS2.out HM2.out).mono ?_
  rintro e w2 ⟨p2, c2, rfl, o2, ff⟩
  replace o1 := o1.kept ff
  replace hw := hw.trans ff (by simp)
  clear ff
  go_wp2_with fail
  have b0 : Bx ((w2.alloc (Obj.cells #[.bool s1, .slice p1 (dg M1).length c1] 40)).alloc (Obj.cells #[.bool s2, .slice p2 (dg M2).length c2] 40)) w2.heap.size 40 #[.bool s1, .slice p1 (dg M1).length c1] := (Bx.made _ _ _).kept (Fr.new _)
  have b1 : Bx ((w2.alloc (Obj.cells #[.bool s1, .slice p1 (dg M1).length c1] 40)).alloc (Obj.cells #[.bool s2, .slice p2 (dg M2).length c2] 40)) (w2.heap.size + 1) 40 #[.bool s2, .slice p2 (dg M2).length c2] := Bx.made' (by simp) _ _
  have s1' := o1.sl.kept ((Fr.new (w := w2) (Obj.cells #[.bool s1, .slice p1 (dg M1).length c1] 40)).alloc (Obj.cells #[.bool s2, .slice p2 (dg M2).length c2] 40))
  have s2' := o2.sl.kept ((Fr.new (w := w2) (Obj.cells #[.bool s1, .slice p1 (dg M1).length c1] 40)).alloc (Obj.cells #[.bool s2, .slice p2 (dg M2).length c2] 40))
  replace hw := (hw.alloc (Obj.cells #[.bool s1, .slice p1 (dg M1).length c1] 40)).alloc (Obj.cells #[.bool s2, .slice p2 (dg M2).length c2] 40)
  generalize ((w2.alloc (Obj.cells #[.bool s1, .slice p1 (dg M1).length c1] 40)).alloc (Obj.cells #[.bool s2, .slice p2 (dg M2).length c2] 40)) = w4 at *
  clear o1 o2
  refine (ismall_yes s1 _ _ _ (dg M1) _ s1' (by omega) (by rw [HE1.out]; exact ⟨g1, by omega⟩)).mono ?_
  rw [HE1.out]
  rintro e w5 ⟨rfl, ff⟩
  replace b0 := b0.kept ff
  replace b1 := b1.kept ff
  replace s1' := s1'.kept ff
  replace s2' := s2'.kept ff
  replace hw := hw.trans ff (by simp)
  clear ff
  go_wp2_with fail
  have Hw := hw.drew
  have B0 := b0.kept (Fr.refl [] w5).drew
  have B1 := b1.kept (Fr.refl [] w5).drew
  have S1 := s1'.kept (Fr.refl [] w5).drew
  have S2 := s2'.kept (Fr.refl [] w5).drew
  go_region_held3 (fun w' => w'.cell? ⟨w2.heap.size, 0, none⟩ = some (.bool s1) ∧ w'.cell? ⟨w2.heap.size, 1, none⟩ = some (.slice p1 (dg M1).length c1) ∧ w'.cell? ⟨w2.heap.size + 1, 0, none⟩ = some (.bool s2) ∧ w'.cell? ⟨w2.heap.size + 1, 1, none⟩ = some (.slice p2 (dg M2).length c2)) (exact ⟨B0.cell (j := 0) rfl, B0.cell (j := 1) rfl, B1.cell (j := 0) rfl, B1.cell (j := 1) rfl⟩)
    (first
    | (go_at_call 27; (with_reducible refine (awake2_any _).mono ?_); rintro e V ⟨rfl, ff⟩; have Hw := Hw.trans ff (by simp); have B0 := B0.kept ff; have B1 := B1.kept ff; have S1 := S1.kept ff; have S2 := S2.kept ff)
    | (go_at_call 30; (with_reducible refine (ivalid_any s1 _ _ _ (dg M1) _ S1 (by omega)).mono ?_); rw [HVL.out]; rintro e V ⟨rfl, ff⟩; have Hw := Hw.trans ff (by simp); have B0 := B0.kept ff; have B1 := B1.kept ff; have S1 := S1.kept ff; have S2 := S2.kept ff)
    | (go_at_call 54; (with_reducible refine (calls_ri (b := s1) (m := M1) (rof_any n _ g1 g2) HS1.out HM1.out).mono ?_); rintro e V ⟨p7, c7, rfl, o7, ff⟩; have Hw := Hw.trans ff (by simp); have B0 := B0.kept ff; have B1 := B1.kept ff; have S1 := S1.kept ff; have S2 := S2.kept ff)
    | (go_at_call 36; (with_reducible refine (isame_any s1 _ _ _ _ _ (dg M1) _ S1 o7.sl).mono ?_); rintro e V ⟨rfl, ff⟩; have Hw := Hw.trans ff (by simp); have B0 := B0.kept ff; have B1 := B1.kept ff; have S1 := S1.kept ff; have S2 := S2.kept ff)
    | (go_at_call 34; (with_reducible refine (icmp_any s1 s2 _ _ _ _ _ _ (dg M1) (dg M2) _ S1 S2 (by omega) (by omega)).mono ?_); rw [HE1.out, HE2.out, HC.out]; rintro e V ⟨rfl, ff⟩; have Hw := Hw.trans ff (by simp); have B0 := B0.kept ff; have B1 := B1.kept ff; have S1 := S1.kept ff; have S2 := S2.kept ff))
  go_wp2
  go_ret
  exact ⟨rfl, Hw⟩

set_option maxRecDepth 100000 in
set_option maxHeartbeats 4000000 in
theorem iof_eq (n m : Int) (w : World) (g1 : -9223372036854775808 ≤ n) (g2 : n ≤ 9223372036854775807) (g3 : -9223372036854775808 ≤ m) (g4 : m ≤ 9223372036854775807) (h : n = m) :
    Calls Try.prog 7 #[.int .i64 n, .int .i64 m] w fun e w' => e = .returned (.bool true) ∧ Fr [] w w' := by
  have hd1 : decide (n < m) = false := decide_eq_false (by omega)
  have hd2 : decide (m < n) = false := decide_eq_false (by omega)
  have hcz : cmpZ n m = 0 := by rw [h]; exact cmpZ_refl _
  have HC := Lib.hid hcz
  have hnn : (n == n) = true := by simp
  clear hcz h
  obtain ⟨s1, hs1⟩ : ∃ b, decide (n < 0) = b := ⟨_, rfl⟩
  obtain ⟨M1, hm1⟩ : ∃ M, n.natAbs = M := ⟨_, rfl⟩
  obtain ⟨s2, hs2⟩ : ∃ b, decide (m < 0) = b := ⟨_, rfl⟩
  obtain ⟨M2, hm2⟩ : ∃ M, m.natAbs = M := ⟨_, rfl⟩
  have L1 := small_len hm1 g1 g2
  have L2 := small_len hm2 g3 g4
  have he1 : iv s1 (val (dg M1)) = n := by rw [val_dg]; exact iv_eq hs1 hm1
  have he2 : iv s2 (val (dg M2)) = m := by rw [val_dg]; exact iv_eq hs2 hm2
  have hval := valid_canon hs1 hm1
  have HS1 := Lib.hid hs1
  have HM1 := Lib.hid hm1
  have HS2 := Lib.hid hs2
  have HM2 := Lib.hid hm2
  have HE1 := Lib.hid he1
  have HE2 := Lib.hid he2
  have HVL := Lib.hid hval
  clear hs1 hm1 hs2 hm2 he1 he2 hval
  go_enter Try.func7, Try.ntmps7
  go_wp2_with fail
  refine (calls_ri (b := s1) (m := M1) (of_any n w g1 g2) HS1.out HM1.out).mono ?_
  rintro e w1 ⟨p1, c1, rfl, o1, hw⟩
  go_wp2_with fail
  refine (calls_ri (b := s2) (m := M2) (of_any m w1 g3 g4) HS2.out HM2.out).mono ?_
  rintro e w2 ⟨p2, c2, rfl, o2, ff⟩
  replace o1 := o1.kept ff
  replace hw := hw.trans ff (by simp)
  clear ff
  go_wp2_with fail
  have b0 : Bx ((w2.alloc (Obj.cells #[.bool s1, .slice p1 (dg M1).length c1] 40)).alloc (Obj.cells #[.bool s2, .slice p2 (dg M2).length c2] 40)) w2.heap.size 40 #[.bool s1, .slice p1 (dg M1).length c1] := (Bx.made _ _ _).kept (Fr.new _)
  have b1 : Bx ((w2.alloc (Obj.cells #[.bool s1, .slice p1 (dg M1).length c1] 40)).alloc (Obj.cells #[.bool s2, .slice p2 (dg M2).length c2] 40)) (w2.heap.size + 1) 40 #[.bool s2, .slice p2 (dg M2).length c2] := Bx.made' (by simp) _ _
  have s1' := o1.sl.kept ((Fr.new (w := w2) (Obj.cells #[.bool s1, .slice p1 (dg M1).length c1] 40)).alloc (Obj.cells #[.bool s2, .slice p2 (dg M2).length c2] 40))
  have s2' := o2.sl.kept ((Fr.new (w := w2) (Obj.cells #[.bool s1, .slice p1 (dg M1).length c1] 40)).alloc (Obj.cells #[.bool s2, .slice p2 (dg M2).length c2] 40))
  replace hw := (hw.alloc (Obj.cells #[.bool s1, .slice p1 (dg M1).length c1] 40)).alloc (Obj.cells #[.bool s2, .slice p2 (dg M2).length c2] 40)
  generalize ((w2.alloc (Obj.cells #[.bool s1, .slice p1 (dg M1).length c1] 40)).alloc (Obj.cells #[.bool s2, .slice p2 (dg M2).length c2] 40)) = w4 at *
  clear o1 o2
  refine (ismall_yes s1 _ _ _ (dg M1) _ s1' (by omega) (by rw [HE1.out]; exact ⟨g1, by omega⟩)).mono ?_
  rw [HE1.out]
  rintro e w5 ⟨rfl, ff⟩
  replace b0 := b0.kept ff
  replace b1 := b1.kept ff
  replace s1' := s1'.kept ff
  replace s2' := s2'.kept ff
  replace hw := hw.trans ff (by simp)
  clear ff
  go_wp2_with fail
  have Hw := hw.drew
  have B0 := b0.kept (Fr.refl [] w5).drew
  have B1 := b1.kept (Fr.refl [] w5).drew
  have S1 := s1'.kept (Fr.refl [] w5).drew
  have S2 := s2'.kept (Fr.refl [] w5).drew
  go_region_held3 (fun w' => w'.cell? ⟨w2.heap.size, 0, none⟩ = some (.bool s1) ∧ w'.cell? ⟨w2.heap.size, 1, none⟩ = some (.slice p1 (dg M1).length c1) ∧ w'.cell? ⟨w2.heap.size + 1, 0, none⟩ = some (.bool s2) ∧ w'.cell? ⟨w2.heap.size + 1, 1, none⟩ = some (.slice p2 (dg M2).length c2)) (exact ⟨B0.cell (j := 0) rfl, B0.cell (j := 1) rfl, B1.cell (j := 0) rfl, B1.cell (j := 1) rfl⟩)
    (first
    | (go_at_call 27; (with_reducible refine (awake2_any _).mono ?_); rintro e V ⟨rfl, ff⟩; have Hw := Hw.trans ff (by simp); have B0 := B0.kept ff; have B1 := B1.kept ff; have S1 := S1.kept ff; have S2 := S2.kept ff)
    | (go_at_call 30; (with_reducible refine (ivalid_any s1 _ _ _ (dg M1) _ S1 (by omega)).mono ?_); rw [HVL.out]; rintro e V ⟨rfl, ff⟩; have Hw := Hw.trans ff (by simp); have B0 := B0.kept ff; have B1 := B1.kept ff; have S1 := S1.kept ff; have S2 := S2.kept ff)
    | (go_at_call 54; (with_reducible refine (calls_ri (b := s1) (m := M1) (rof_any n _ g1 g2) HS1.out HM1.out).mono ?_); rintro e V ⟨p7, c7, rfl, o7, ff⟩; have Hw := Hw.trans ff (by simp); have B0 := B0.kept ff; have B1 := B1.kept ff; have S1 := S1.kept ff; have S2 := S2.kept ff)
    | (go_at_call 36; (with_reducible refine (isame_any s1 _ _ _ _ _ (dg M1) _ S1 o7.sl).mono ?_); rintro e V ⟨rfl, ff⟩; have Hw := Hw.trans ff (by simp); have B0 := B0.kept ff; have B1 := B1.kept ff; have S1 := S1.kept ff; have S2 := S2.kept ff)
    | (go_at_call 34; (with_reducible refine (icmp_any s1 s2 _ _ _ _ _ _ (dg M1) (dg M2) _ S1 S2 (by omega) (by omega)).mono ?_); rw [HE1.out, HE2.out, HC.out]; rintro e V ⟨rfl, ff⟩; have Hw := Hw.trans ff (by simp); have B0 := B0.kept ff; have B1 := B1.kept ff; have S1 := S1.kept ff; have S2 := S2.kept ff))
  go_wp2
  go_ret
  exact ⟨rfl, Hw⟩

theorem iof_any (n m : Int) (w : World) (g1 : -9223372036854775808 ≤ n) (g2 : n ≤ 9223372036854775807) (g3 : -9223372036854775808 ≤ m) (g4 : m ≤ 9223372036854775807) :
    Calls Try.prog 7 #[.int .i64 n, .int .i64 m] w fun e w' => e = .returned (.bool true) ∧ Fr [] w w' := by
  by_cases h : n < m
  · exact iof_lt n m w g1 g2 g3 g4 h
  · by_cases h2 : m < n
    · exact iof_gt n m w g1 g2 g3 g4 h2
    · exact iof_eq n m w g1 g2 g3 g4 (by omega)

theorem int_of_wf {n : Int} (h : (Lit.int .i64 n).wf = true) : -9223372036854775808 ≤ n ∧ n ≤ 9223372036854775807 := by
  simp [Lit.wf, IntKind.min, IntKind.max, IntKind.signed, IntKind.bits] at h
  omega

set_option maxRecDepth 100000 in
theorem integerOf_lifted (os : Os) (started : os.Started) (H : Type) (enc : TypeId × Value → H) :
    ReturnsInHanded {} Try.checked os 7 .any (Rows.integerOfSpec.pre6 enc Try.prog Try.f7 Rows.integerOfRow.domain false) (Rows.integerOfSpec.post enc Try.prog Try.f7 false true false false) := by
  refine returnsInHanded_of_change (C := Try.checked) Try.own started (by kernel_rfl) Try.func7
    (ChangeSpec.witness6 (enc := enc) (C := Try.checked) false ⟨#[], #[.int .i64 0, .int .i64 0], []⟩ 8 (by kernel_rfl) (by kernel_rfl) (by kernel_rfl) (by kernel_rfl)) ?_
  intro W base args ds gs before hval0 hW hcnd _
  have hval : ∀ (j : Nat) t v, Try.f7.params[j]? = some t → args[j]? = some v → Value.okWide Try.prog W .any base t v := hval0
  have hW' := hW
  obtain ⟨p, q, hA0, hV, rfl, hfz, hnd⟩ := hW
  have hA : DataW.TrodAll enc Try.prog W 0 (fun _ => true) true Try.f7.params.toList args.toList ds p := hA0
  rw [Try.params7] at hA hval
  obtain ⟨v0, v1, d0, d1, p0, p1, rfl, rfl, rfl, h0, h1⟩ := trodAll_two hA
  obtain ⟨rfl, rfl⟩ := trodVars_none hV
  obtain ⟨z0, rfl, rfl, rfl, u0⟩ := open_int Try.underlying3 (hval 0 3 v0 rfl rfl) h0
  obtain ⟨z1, rfl, rfl, rfl, u1⟩ := open_int Try.underlying3 (hval 1 3 v1 rfl rfl) h1
  clear hA0 hval0
  simp only [List.append_nil] at hW'
  refine (iof_any z0 z1 W (int_of_wf u0).1 (int_of_wf u0).2 (int_of_wf u1).1 (int_of_wf u1).2).mono fun e W' ⟨he, hf⟩ => ?_
  subst he
  have hb := hf.below
  exact ⟨_, rfl, _, _, _, _, _, [], hW', trodAll_mk1 (shut_bool Try.underlying4 _),
    trodAll_mk2 (shut_int Try.underlying3 u0) (shut_int Try.underlying3 u1), rfl, hb.frame _, fun h => by cases h⟩

theorem integerOf_holds : Rows.IntegerOfSaid :=
  OpenClaim.holds_of_wide 7 Try.f7 rfl rfl rfl rfl rfl rfl rfl ⟨rfl, rfl, rfl, rfl, rfl⟩ rfl rfl rfl rfl rfl (by kernel_rfl) Try.func7 (by kernel_rfl)
    (of_decide_eq_true (by kernel_rfl)) (by unfold Func.isWrapper; first | (rw [if_pos (by decide +kernel)]; kernel_rfl) | (rw [if_neg (by decide +kernel)]; exact ⟨rfl, rfl⟩))
    (fun os started H enc _ => integerOf_lifted os started H enc)

#print axioms integerOf_holds

end Go.Proofs.Ytfjhdhmneknmkaa
