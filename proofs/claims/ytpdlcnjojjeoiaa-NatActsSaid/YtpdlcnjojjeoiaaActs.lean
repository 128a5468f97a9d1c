/- NatActs: for every two lists, Normal, Trim, Compare, Add, Sub, Mul and DivMod answer as the document's own functions do. No condition. -/
import Derived.Test.YtpdlcnjojjeoiaaRef11
import Derived.Test.YtpdlcnjojjeoiaaOpen
namespace Go.Proofs.Ytpdlcnjojjeoiaa
open Go.RowKit Go.ChangeShapes Go.WideShapes Go.ChangeAt

set_option maxRecDepth 100000 in
set_option maxHeartbeats 4000000 in
theorem acts_zero (p q : Option Addr) (n c m d : Nat) (xs ys : List Nat) (w : World) (h1 : Sl w p n c xs) (h2 : Sl w q m d ys) (b1 : n ≤ 10) (b2 : m ≤ 10) (h0 : val ys = 0) :
    Calls Try.prog 3 #[.slice p n c, .slice q m d] w fun e w' => e = .returned (.bool true) ∧ Fr [] w w' := by
  have H0 := Lib.hid h0
  clear h0
  have hcc : ((cmpN (val xs) (val ys)) == (cmpN (val xs) (val ys))) = true := by simp
  have hnn : (nmb xs == nmb xs) = true := by simp
  go_enter Try.func3, Try.ntmps3
  go_wp2_with fail
  refine (digits_yes _ _ _ _ b1).mono ?_
  rintro e w' ⟨rfl, rfl⟩
  go_wp2_with fail
  refine (digits_yes _ _ _ _ b2).mono ?_
  rintro e w' ⟨rfl, rfl⟩
  go_wp2_with fail
  refine (divmod_no _ _ _ _ _ _ _ _ _ h1 h2 H0.out).mono ?_
  rintro e w' ⟨rfl, rfl⟩
  go_wp2_with fail
  refine (rdivmod_zero _ _ _ _ _ _ _ _ _ h1 h2 (by omega) (by omega) H0.out).mono ?_
  rintro e w1 ⟨rfl, f1⟩
  replace h1 := h1.kept f1
  replace h2 := h2.kept f1
  have hw := f1
  clear f1
  go_wp2_with fail
  refine (awake_any _).mono ?_
  rintro e w2 ⟨rfl, f2⟩
  replace h1 := h1.kept f2
  replace h2 := h2.kept f2
  replace hw := hw.trans f2 (by simp)
  clear f2
  go_wp2_with fail
  refine (same_any none none 0 0 0 [] _ (Sl.zero _) (Sl.zero _)).mono ?_
  rintro e w3 ⟨rfl, f3⟩
  replace h1 := h1.kept f3
  replace h2 := h2.kept f3
  replace hw := hw.trans f3 (by simp)
  clear f3
  go_wp2_with fail
  refine (same_any none none 0 0 0 [] _ (Sl.zero _) (Sl.zero _)).mono ?_
  rintro e w4 ⟨rfl, f4⟩
  replace h1 := h1.kept f4
  replace h2 := h2.kept f4
  replace hw := hw.trans f4 (by simp)
  clear f4
  go_wp2_with fail
  refine (isnormal_any _ _ _ _ _ h1 (by omega)).mono ?_
  rintro e w' ⟨rfl, rfl⟩
  go_wp2_with fail
  refine (rnormal_any _ _ _ _ _ h1 (by omega)).mono ?_
  rintro e w' ⟨rfl, rfl⟩
  go_wp2_with fail
  refine (trim_any _ _ _ _ _ h1 (by omega)).mono ?_
  rintro e w5 ⟨p1, c2, rfl, o5, f5⟩
  replace h1 := h1.kept f5
  replace h2 := h2.kept f5
  have s1 := o5.sl
  replace hw := hw.trans f5 (by simp)
  clear o5 f5
  go_wp2_with fail
  refine (rcut_any _ _ _ _ _ h1 (by omega)).mono ?_
  rintro e w6 ⟨p3, c4, rfl, o6, f6⟩
  replace h1 := h1.kept f6
  replace h2 := h2.kept f6
  replace s1 := s1.kept f6
  have s2 := o6.sl
  replace hw := hw.trans f6 (by simp)
  clear o6 f6
  go_wp2_with fail
  refine (same_any _ _ _ _ _ _ _ s1 s2).mono ?_
  rintro e w7 ⟨rfl, f7⟩
  replace h1 := h1.kept f7
  replace h2 := h2.kept f7
  replace s1 := s1.kept f7
  replace s2 := s2.kept f7
  replace hw := hw.trans f7 (by simp)
  clear f7
  clear s1 s2
  go_wp2_with fail
  refine (compare_any _ _ _ _ _ _ _ _ _ h1 h2).mono ?_
  rintro e w8 ⟨rfl, f8⟩
  replace h1 := h1.kept f8
  replace h2 := h2.kept f8
  replace hw := hw.trans f8 (by simp)
  clear f8
  go_wp2_with fail
  refine (rcompare_any _ _ _ _ _ _ _ _ _ h1 h2 (by omega) (by omega)).mono ?_
  rintro e w9 ⟨rfl, f9⟩
  replace h1 := h1.kept f9
  replace h2 := h2.kept f9
  replace hw := hw.trans f9 (by simp)
  clear f9
  go_wp2_with fail
  refine (add_any _ _ _ _ _ _ _ _ _ h1 h2 (by omega) (by omega)).mono ?_
  rintro e w10 ⟨p5, c6, rfl, o10, f10⟩
  replace h1 := h1.kept f10
  replace h2 := h2.kept f10
  have s1 := o10.sl
  replace hw := hw.trans f10 (by simp)
  clear o10 f10
  go_wp2_with fail
  refine (radd_any _ _ _ _ _ _ _ _ _ h1 h2 (by omega) (by omega)).mono ?_
  rintro e w11 ⟨p7, c8, rfl, o11, f11⟩
  replace h1 := h1.kept f11
  replace h2 := h2.kept f11
  replace s1 := s1.kept f11
  have s2 := o11.sl
  replace hw := hw.trans f11 (by simp)
  clear o11 f11
  go_wp2_with fail
  refine (same_any _ _ _ _ _ _ _ s1 s2).mono ?_
  rintro e w12 ⟨rfl, f12⟩
  replace h1 := h1.kept f12
  replace h2 := h2.kept f12
  replace s1 := s1.kept f12
  replace s2 := s2.kept f12
  replace hw := hw.trans f12 (by simp)
  clear f12
  clear s1 s2
  go_wp2_with fail
  refine (sub_any _ _ _ _ _ _ _ _ _ h1 h2 (by omega) (by omega)).mono ?_
  rintro e w13 ⟨p9, c10, rfl, o13, f13⟩
  replace h1 := h1.kept f13
  replace h2 := h2.kept f13
  have s1 := o13.sl
  replace hw := hw.trans f13 (by simp)
  clear o13 f13
  go_wp2_with fail
  refine (rsub_any _ _ _ _ _ _ _ _ _ h1 h2 (by omega) (by omega)).mono ?_
  rintro e w14 ⟨p11, c12, rfl, o14, f14⟩
  replace h1 := h1.kept f14
  replace h2 := h2.kept f14
  replace s1 := s1.kept f14
  have s2 := o14.sl
  replace hw := hw.trans f14 (by simp)
  clear o14 f14
  go_wp2_with fail
  refine (same_any _ _ _ _ _ _ _ s1 s2).mono ?_
  rintro e w15 ⟨rfl, f15⟩
  replace h1 := h1.kept f15
  replace h2 := h2.kept f15
  replace s1 := s1.kept f15
  replace s2 := s2.kept f15
  replace hw := hw.trans f15 (by simp)
  clear f15
  clear s1 s2
  go_wp2_with fail
  refine (mul_any _ _ _ _ _ _ _ _ _ h1 h2 (by omega) (by omega)).mono ?_
  rintro e w16 ⟨p13, c14, rfl, o16, f16⟩
  replace h1 := h1.kept f16
  replace h2 := h2.kept f16
  have s1 := o16.sl
  replace hw := hw.trans f16 (by simp)
  clear o16 f16
  go_wp2_with fail
  refine (rmul_any _ _ _ _ _ _ _ _ _ h1 h2 (by omega) (by omega)).mono ?_
  rintro e w17 ⟨p15, c16, rfl, o17, f17⟩
  replace h1 := h1.kept f17
  replace h2 := h2.kept f17
  replace s1 := s1.kept f17
  have s2 := o17.sl
  replace hw := hw.trans f17 (by simp)
  clear o17 f17
  go_wp2_with fail
  refine (same_any _ _ _ _ _ _ _ s1 s2).mono ?_
  rintro e w18 ⟨rfl, f18⟩
  replace h1 := h1.kept f18
  replace h2 := h2.kept f18
  replace s1 := s1.kept f18
  replace s2 := s2.kept f18
  replace hw := hw.trans f18 (by simp)
  clear f18
  clear s1 s2
  go_wp2_with fail
  go_ret
  exact ⟨rfl, hw⟩

set_option maxRecDepth 100000 in
set_option maxHeartbeats 4000000 in
theorem acts_pos (p q : Option Addr) (n c m d : Nat) (xs ys : List Nat) (w : World) (h1 : Sl w p n c xs) (h2 : Sl w q m d ys) (b1 : n ≤ 10) (b2 : m ≤ 10) (h0 : val ys ≠ 0) :
    Calls Try.prog 3 #[.slice p n c, .slice q m d] w fun e w' => e = .returned (.bool true) ∧ Fr [] w w' := by
  have H0 := Lib.hid h0
  clear h0
  have hcc : ((cmpN (val xs) (val ys)) == (cmpN (val xs) (val ys))) = true := by simp
  have hnn : (nmb xs == nmb xs) = true := by simp
  go_enter Try.func3, Try.ntmps3
  go_wp2_with fail
  refine (digits_yes _ _ _ _ b1).mono ?_
  rintro e w' ⟨rfl, rfl⟩
  go_wp2_with fail
  refine (digits_yes _ _ _ _ b2).mono ?_
  rintro e w' ⟨rfl, rfl⟩
  go_wp2_with fail
  refine (divmod_yes _ _ _ _ _ _ _ _ _ h1 h2 (by omega) (by omega) H0.out).mono ?_
  rintro e wa ⟨pq, cq, pr, cr, rfl, oq, or', hw⟩
  replace h1 := h1.kept hw
  replace h2 := h2.kept hw
  have sq := oq.sl
  have sr := or'.sl
  clear oq or'
  go_wp2_with fail
  refine (rdivmod_yes _ _ _ _ _ _ _ _ _ h1 h2 (by omega) (by omega) H0.out).mono ?_
  rintro e wb ⟨pq2, cq2, pr2, cr2, rfl, oq, or', ff⟩
  replace h1 := h1.kept ff
  replace h2 := h2.kept ff
  replace sq := sq.kept ff
  replace sr := sr.kept ff
  have tq := oq.sl
  have tr := or'.sl
  replace hw := hw.trans ff (by simp)
  clear oq or' ff
  go_wp2_with fail
  refine (awake_any _).mono ?_
  rintro e w1 ⟨rfl, f1⟩
  replace h1 := h1.kept f1
  replace h2 := h2.kept f1
  replace sq := sq.kept f1
  replace sr := sr.kept f1
  replace tq := tq.kept f1
  replace tr := tr.kept f1
  replace hw := hw.trans f1 (by simp)
  clear f1
  go_wp2_with fail
  refine (same_any _ _ _ _ _ _ _ sq tq).mono ?_
  rintro e w2 ⟨rfl, f2⟩
  replace h1 := h1.kept f2
  replace h2 := h2.kept f2
  replace sq := sq.kept f2
  replace sr := sr.kept f2
  replace tq := tq.kept f2
  replace tr := tr.kept f2
  replace hw := hw.trans f2 (by simp)
  clear f2
  clear sq tq
  go_wp2_with fail
  refine (same_any _ _ _ _ _ _ _ sr tr).mono ?_
  rintro e w3 ⟨rfl, f3⟩
  replace h1 := h1.kept f3
  replace h2 := h2.kept f3
  replace sr := sr.kept f3
  replace tr := tr.kept f3
  replace hw := hw.trans f3 (by simp)
  clear f3
  clear sr tr
  go_wp2_with fail
  refine (isnormal_any _ _ _ _ _ h1 (by omega)).mono ?_
  rintro e w' ⟨rfl, rfl⟩
  go_wp2_with fail
  refine (rnormal_any _ _ _ _ _ h1 (by omega)).mono ?_
  rintro e w' ⟨rfl, rfl⟩
  go_wp2_with fail
  refine (trim_any _ _ _ _ _ h1 (by omega)).mono ?_
  rintro e w4 ⟨p1, c2, rfl, o4, f4⟩
  replace h1 := h1.kept f4
  replace h2 := h2.kept f4
  have s1 := o4.sl
  replace hw := hw.trans f4 (by simp)
  clear o4 f4
  go_wp2_with fail
  refine (rcut_any _ _ _ _ _ h1 (by omega)).mono ?_
  rintro e w5 ⟨p3, c4, rfl, o5, f5⟩
  replace h1 := h1.kept f5
  replace h2 := h2.kept f5
  replace s1 := s1.kept f5
  have s2 := o5.sl
  replace hw := hw.trans f5 (by simp)
  clear o5 f5
  go_wp2_with fail
  refine (same_any _ _ _ _ _ _ _ s1 s2).mono ?_
  rintro e w6 ⟨rfl, f6⟩
  replace h1 := h1.kept f6
  replace h2 := h2.kept f6
  replace s1 := s1.kept f6
  replace s2 := s2.kept f6
  replace hw := hw.trans f6 (by simp)
  clear f6
  clear s1 s2
  go_wp2_with fail
  refine (compare_any _ _ _ _ _ _ _ _ _ h1 h2).mono ?_
  rintro e w7 ⟨rfl, f7⟩
  replace h1 := h1.kept f7
  replace h2 := h2.kept f7
  replace hw := hw.trans f7 (by simp)
  clear f7
  go_wp2_with fail
  refine (rcompare_any _ _ _ _ _ _ _ _ _ h1 h2 (by omega) (by omega)).mono ?_
  rintro e w8 ⟨rfl, f8⟩
  replace h1 := h1.kept f8
  replace h2 := h2.kept f8
  replace hw := hw.trans f8 (by simp)
  clear f8
  go_wp2_with fail
  refine (add_any _ _ _ _ _ _ _ _ _ h1 h2 (by omega) (by omega)).mono ?_
  rintro e w9 ⟨p5, c6, rfl, o9, f9⟩
  replace h1 := h1.kept f9
  replace h2 := h2.kept f9
  have s1 := o9.sl
  replace hw := hw.trans f9 (by simp)
  clear o9 f9
  go_wp2_with fail
  refine (radd_any _ _ _ _ _ _ _ _ _ h1 h2 (by omega) (by omega)).mono ?_
  rintro e w10 ⟨p7, c8, rfl, o10, f10⟩
  replace h1 := h1.kept f10
  replace h2 := h2.kept f10
  replace s1 := s1.kept f10
  have s2 := o10.sl
  replace hw := hw.trans f10 (by simp)
  clear o10 f10
  go_wp2_with fail
  refine (same_any _ _ _ _ _ _ _ s1 s2).mono ?_
  rintro e w11 ⟨rfl, f11⟩
  replace h1 := h1.kept f11
  replace h2 := h2.kept f11
  replace s1 := s1.kept f11
  replace s2 := s2.kept f11
  replace hw := hw.trans f11 (by simp)
  clear f11
  clear s1 s2
  go_wp2_with fail
  refine (sub_any _ _ _ _ _ _ _ _ _ h1 h2 (by omega) (by omega)).mono ?_
  rintro e w12 ⟨p9, c10, rfl, o12, f12⟩
  replace h1 := h1.kept f12
  replace h2 := h2.kept f12
  have s1 := o12.sl
  replace hw := hw.trans f12 (by simp)
  clear o12 f12
  go_wp2_with fail
  refine (rsub_any _ _ _ _ _ _ _ _ _ h1 h2 (by omega) (by omega)).mono ?_
  rintro e w13 ⟨p11, c12, rfl, o13, f13⟩
  replace h1 := h1.kept f13
  replace h2 := h2.kept f13
  replace s1 := s1.kept f13
  have s2 := o13.sl
  replace hw := hw.trans f13 (by simp)
  clear o13 f13
  go_wp2_with fail
  refine (same_any _ _ _ _ _ _ _ s1 s2).mono ?_
  rintro e w14 ⟨rfl, f14⟩
  replace h1 := h1.kept f14
  replace h2 := h2.kept f14
  replace s1 := s1.kept f14
  replace s2 := s2.kept f14
  replace hw := hw.trans f14 (by simp)
  clear f14
  clear s1 s2
  go_wp2_with fail
  refine (mul_any _ _ _ _ _ _ _ _ _ h1 h2 (by omega) (by omega)).mono ?_
  rintro e w15 ⟨p13, c14, rfl, o15, f15⟩
  replace h1 := h1.kept f15
  replace h2 := h2.kept f15
  have s1 := o15.sl
  replace hw := hw.trans f15 (by simp)
  clear o15 f15
  go_wp2_with fail
  refine (rmul_any _ _ _ _ _ _ _ _ _ h1 h2 (by omega) (by omega)).mono ?_
  rintro e w16 ⟨p15, c16, rfl, o16, f16⟩
  replace h1 := h1.kept f16
  replace h2 := h2.kept f16
  replace s1 := s1.kept f16
  have s2 := o16.sl
  replace hw := hw.trans f16 (by simp)
  clear o16 f16
  go_wp2_with fail
  refine (same_any _ _ _ _ _ _ _ s1 s2).mono ?_
  rintro e w17 ⟨rfl, f17⟩
  replace h1 := h1.kept f17
  replace h2 := h2.kept f17
  replace s1 := s1.kept f17
  replace s2 := s2.kept f17
  replace hw := hw.trans f17 (by simp)
  clear f17
  clear s1 s2
  go_wp2_with fail
  go_ret
  exact ⟨rfl, hw⟩

theorem acts_small (p q : Option Addr) (n c m d : Nat) (xs ys : List Nat) (w : World) (h1 : Sl w p n c xs) (h2 : Sl w q m d ys) (b1 : n ≤ 10) (b2 : m ≤ 10) :
    Calls Try.prog 3 #[.slice p n c, .slice q m d] w fun e w' => e = .returned (.bool true) ∧ Fr [] w w' := by
  by_cases h0 : val ys = 0
  · exact acts_zero p q n c m d xs ys w h1 h2 b1 b2 h0
  · exact acts_pos p q n c m d xs ys w h1 h2 b1 b2 h0

set_option maxRecDepth 100000 in
theorem acts_any (p q : Option Addr) (n c m d : Nat) (xs ys : List Nat) (w : World) (h1 : Sl w p n c xs) (h2 : Sl w q m d ys) :
    Calls Try.prog 3 #[.slice p n c, .slice q m d] w fun e w' => e = .returned (.bool true) ∧ Fr [] w w' := by
  by_cases b1 : n ≤ 10
  case' neg =>
    go_enter Try.func3, Try.ntmps3
    go_wp2_with fail
    refine (digits_no _ _ _ _ (by omega)).mono ?_
    rintro e w' ⟨rfl, rfl⟩
    go_wp2_with fail
    refine (awake_any _).mono ?_
    rintro e w1 ⟨rfl, hw⟩
    go_wp2_with fail
    go_ret
    exact ⟨rfl, hw⟩
  by_cases b2 : m ≤ 10
  case' neg =>
    go_enter Try.func3, Try.ntmps3
    go_wp2_with fail
    refine (digits_yes _ _ _ _ b1).mono ?_
    rintro e w' ⟨rfl, rfl⟩
    go_wp2_with fail
    refine (digits_no _ _ _ _ (by omega)).mono ?_
    rintro e w' ⟨rfl, rfl⟩
    go_wp2_with fail
    refine (awake_any _).mono ?_
    rintro e w1 ⟨rfl, hw⟩
    go_wp2_with fail
    go_ret
    exact ⟨rfl, hw⟩
  exact acts_small p q n c m d xs ys w h1 h2 b1 b2

set_option maxRecDepth 100000 in
theorem natActs_lifted (os : Os) (started : os.Started) (H : Type) (enc : TypeId × Value → H) :
    ReturnsInHanded {} Try.checked os 3 .any (Rows.natActsSpec.pre6 enc Try.prog Try.f3 Rows.natActsRow.domain false) (Rows.natActsSpec.post enc Try.prog Try.f3 false true false false) := by
  refine returnsInHanded_of_change (C := Try.checked) Try.own started (by kernel_rfl) Try.func3
    (ChangeSpec.witness6 (enc := enc) (C := Try.checked) false ⟨#[], #[.slice none 0 0, .slice none 0 0], []⟩ 8 (by kernel_rfl) (by kernel_rfl) (by kernel_rfl) (by kernel_rfl)) ?_
  intro W base args ds gs before hval0 hW hcnd _
  have hval : ∀ (j : Nat) t v, Try.f3.params[j]? = some t → args[j]? = some v → Value.okWide Try.prog W .any base t v := hval0
  have hW' := hW
  obtain ⟨p, q, hA0, hV, rfl, hfz, hnd⟩ := hW
  have hA : DataW.TrodAll enc Try.prog W 0 (fun _ => true) true Try.f3.params.toList args.toList ds p := hA0
  rw [Try.params3] at hA hval
  obtain ⟨v0, v1, d0, d1, p0, p1, rfl, rfl, rfl, h0, h1⟩ := trodAll_two hA
  obtain ⟨rfl, rfl⟩ := trodVars_none hV
  obtain ⟨a0, l0, c0, rfl⟩ := okWide_slice Try.underlying22 (hval 0 22 v0 rfl rfl)
  obtain ⟨a1, l1, c1, rfl⟩ := okWide_slice Try.underlying22 (hval 1 22 v1 rfl rfl)
  clear hA0 hval0
  simp only [List.append_nil] at hW'
  have hlt : ∀ x ∈ p0 ++ p1, x.block < W.heap.size := fun x hx => hW'.lt x (by simpa using hx)
  obtain ⟨x0, g0⟩ := view_digits h0
  obtain ⟨x1, g1⟩ := view_digits h1
  refine (acts_any a0 a1 l0 c0 l1 c1 x0 x1 W g0 g1).mono fun e W' ⟨he, hf⟩ => ?_
  subst he
  have hb := hf.below
  exact ⟨_, rfl, _, _, _, _, _, [], hW', trodAll_mk1 (shut_bool Try.underlying4 _),
    trodAll_mk2 (stays h0 hb (fun x hx => hlt x (by simp [hx]))) (stays h1 hb (fun x hx => hlt x (by simp [hx]))), rfl, hb.frame _, fun h => by cases h⟩

theorem natActs_holds : Rows.NatActsSaid :=
  OpenClaim.holds_of_wide 3 Try.f3 rfl rfl rfl rfl rfl rfl rfl ⟨rfl, rfl, rfl, rfl, rfl⟩ rfl rfl rfl rfl rfl (by kernel_rfl) Try.func3 (by kernel_rfl)
    (of_decide_eq_true (by kernel_rfl)) (by unfold Func.isWrapper; first | (rw [if_pos (by decide +kernel)]; kernel_rfl) | (rw [if_neg (by decide +kernel)]; exact ⟨rfl, rfl⟩))
    (fun os started H enc _ => natActs_lifted os started H enc)

#print axioms natActs_holds

end Go.Proofs.Ytpdlcnjojjeoiaa
