/- NatRing: for every three lists, Add and Mul are commutative, associative and distributive, and Sub undoes Add. No condition. -/
import Derived.Test.YtebmjjofeddkoaaAwake
import Derived.Test.YtebmjjofeddkoaaOpen
namespace Go.Proofs.Ytebmjjofeddkoaa
open Go.RowKit Go.ChangeShapes Go.WideShapes Go.ChangeAt

set_option maxHeartbeats 4000000 in
theorem ring_small (p q r : Option Addr) (n c m d k e : Nat) (xs ys zs : List Nat) (w : World) (h1 : Sl w p n c xs) (h2 : Sl w q m d ys) (h3 : Sl w r k e zs) (b1 : n ≤ 10) (b2 : m ≤ 10) (b3 : k ≤ 10) :
    Calls Try.prog 6 #[.slice p n c, .slice q m d, .slice r k e] w fun e w' => e = .returned (.bool true) ∧ Fr [] w w' := by
  go_enter Try.func6, Try.ntmps6
  go_wp2_with fail
  refine (digits_yes _ _ _ _ b1).mono ?_
  rintro e w' ⟨rfl, rfl⟩
  go_wp2_with fail
  refine (digits_yes _ _ _ _ b2).mono ?_
  rintro e w' ⟨rfl, rfl⟩
  go_wp2_with fail
  refine (digits_yes _ _ _ _ b3).mono ?_
  rintro e w' ⟨rfl, rfl⟩
  have l1 := dg_len_val h1.dig
  have l2 := dg_len_val h2.dig
  have l3 := dg_len_val h3.dig
  rw [h1.len] at l1
  rw [h2.len] at l2
  rw [h3.len] at l3
  go_wp2_with fail
  refine (awake_any _).mono ?_
  rintro e w1 ⟨rfl, f1⟩
  replace h1 := h1.kept f1
  replace h2 := h2.kept f1
  replace h3 := h3.kept f1
  have hw := f1
  clear f1
  have k1 := dg_add_len (val xs) (val ys)
  have k2 := dg_add_len (val ys) (val zs)
  have k3 := dg_mul_len (val xs) (val ys)
  have k4 := dg_mul_len (val ys) (val zs)
  have k5 := dg_mul_len (val xs) (val zs)
  go_wp2_with fail
  refine (add_any _ _ _ _ _ _ _ _ _ h1 h2 (by omega) (by omega)).mono ?_
  try simp only [val_dg]
  rintro e w2 ⟨p1, c2, rfl, o2, f2⟩
  replace h1 := h1.kept f2
  replace h2 := h2.kept f2
  replace h3 := h3.kept f2
  have s1 := o2.sl
  replace hw := hw.trans f2 (by simp)
  clear o2 f2
  go_wp2_with fail
  refine (add_any _ _ _ _ _ _ _ _ _ h2 h1 (by omega) (by omega)).mono ?_
  try simp only [val_dg]
  rintro e w3 ⟨p3, c4, rfl, o3, f3⟩
  replace h1 := h1.kept f3
  replace h2 := h2.kept f3
  replace h3 := h3.kept f3
  replace s1 := s1.kept f3
  have s2 := o3.sl
  replace hw := hw.trans f3 (by simp)
  clear o3 f3
  have q5 : val ys + val xs = val xs + val ys := Nat.add_comm _ _
  rw [q5] at s2 ⊢
  clear q5
  go_wp2_with fail
  refine (same_any _ _ _ _ _ _ _ s1 s2).mono ?_
  rintro e w4 ⟨rfl, f4⟩
  replace h1 := h1.kept f4
  replace h2 := h2.kept f4
  replace h3 := h3.kept f4
  replace s1 := s1.kept f4
  replace s2 := s2.kept f4
  replace hw := hw.trans f4 (by simp)
  clear f4
  clear s1 s2
  go_wp2_with fail
  refine (mul_any _ _ _ _ _ _ _ _ _ h1 h2 (by omega) (by omega)).mono ?_
  try simp only [val_dg]
  rintro e w5 ⟨p6, c7, rfl, o5, f5⟩
  replace h1 := h1.kept f5
  replace h2 := h2.kept f5
  replace h3 := h3.kept f5
  have s1 := o5.sl
  replace hw := hw.trans f5 (by simp)
  clear o5 f5
  go_wp2_with fail
  refine (mul_any _ _ _ _ _ _ _ _ _ h2 h1 (by omega) (by omega)).mono ?_
  try simp only [val_dg]
  rintro e w6 ⟨p8, c9, rfl, o6, f6⟩
  replace h1 := h1.kept f6
  replace h2 := h2.kept f6
  replace h3 := h3.kept f6
  replace s1 := s1.kept f6
  have s2 := o6.sl
  replace hw := hw.trans f6 (by simp)
  clear o6 f6
  have q10 : val ys * val xs = val xs * val ys := Nat.mul_comm _ _
  rw [q10] at s2 ⊢
  clear q10
  go_wp2_with fail
  refine (same_any _ _ _ _ _ _ _ s1 s2).mono ?_
  rintro e w7 ⟨rfl, f7⟩
  replace h1 := h1.kept f7
  replace h2 := h2.kept f7
  replace h3 := h3.kept f7
  replace s1 := s1.kept f7
  replace s2 := s2.kept f7
  replace hw := hw.trans f7 (by simp)
  clear f7
  clear s1 s2
  go_wp2_with fail
  refine (add_any _ _ _ _ _ _ _ _ _ h1 h2 (by omega) (by omega)).mono ?_
  try simp only [val_dg]
  rintro e w8 ⟨p11, c12, rfl, o8, f8⟩
  replace h1 := h1.kept f8
  replace h2 := h2.kept f8
  replace h3 := h3.kept f8
  have s1 := o8.sl
  replace hw := hw.trans f8 (by simp)
  clear o8 f8
  go_wp2_with fail
  refine (add_any _ _ _ _ _ _ _ _ _ s1 h3 (by omega) (by omega)).mono ?_
  try simp only [val_dg]
  rintro e w9 ⟨p13, c14, rfl, o9, f9⟩
  replace h1 := h1.kept f9
  replace h2 := h2.kept f9
  replace h3 := h3.kept f9
  replace s1 := s1.kept f9
  have s2 := o9.sl
  replace hw := hw.trans f9 (by simp)
  clear o9 f9
  go_wp2_with fail
  refine (add_any _ _ _ _ _ _ _ _ _ h2 h3 (by omega) (by omega)).mono ?_
  try simp only [val_dg]
  rintro e w10 ⟨p15, c16, rfl, o10, f10⟩
  replace h1 := h1.kept f10
  replace h2 := h2.kept f10
  replace h3 := h3.kept f10
  replace s1 := s1.kept f10
  replace s2 := s2.kept f10
  have s3 := o10.sl
  replace hw := hw.trans f10 (by simp)
  clear o10 f10
  go_wp2_with fail
  refine (add_any _ _ _ _ _ _ _ _ _ h1 s3 (by omega) (by omega)).mono ?_
  try simp only [val_dg]
  rintro e w11 ⟨p17, c18, rfl, o11, f11⟩
  replace h1 := h1.kept f11
  replace h2 := h2.kept f11
  replace h3 := h3.kept f11
  replace s1 := s1.kept f11
  replace s2 := s2.kept f11
  replace s3 := s3.kept f11
  have s4 := o11.sl
  replace hw := hw.trans f11 (by simp)
  clear o11 f11
  have q19 : val xs + (val ys + val zs) = val xs + val ys + val zs := (Nat.add_assoc _ _ _).symm
  rw [q19] at s4 ⊢
  clear q19
  go_wp2_with fail
  refine (same_any _ _ _ _ _ _ _ s2 s4).mono ?_
  rintro e w12 ⟨rfl, f12⟩
  replace h1 := h1.kept f12
  replace h2 := h2.kept f12
  replace h3 := h3.kept f12
  replace s1 := s1.kept f12
  replace s2 := s2.kept f12
  replace s3 := s3.kept f12
  replace s4 := s4.kept f12
  replace hw := hw.trans f12 (by simp)
  clear f12
  clear s1 s2 s3 s4
  go_wp2_with fail
  refine (mul_any _ _ _ _ _ _ _ _ _ h1 h2 (by omega) (by omega)).mono ?_
  try simp only [val_dg]
  rintro e w13 ⟨p20, c21, rfl, o13, f13⟩
  replace h1 := h1.kept f13
  replace h2 := h2.kept f13
  replace h3 := h3.kept f13
  have s1 := o13.sl
  replace hw := hw.trans f13 (by simp)
  clear o13 f13
  go_wp2_with fail
  refine (mul_any _ _ _ _ _ _ _ _ _ s1 h3 (by omega) (by omega)).mono ?_
  try simp only [val_dg]
  rintro e w14 ⟨p22, c23, rfl, o14, f14⟩
  replace h1 := h1.kept f14
  replace h2 := h2.kept f14
  replace h3 := h3.kept f14
  replace s1 := s1.kept f14
  have s2 := o14.sl
  replace hw := hw.trans f14 (by simp)
  clear o14 f14
  go_wp2_with fail
  refine (mul_any _ _ _ _ _ _ _ _ _ h2 h3 (by omega) (by omega)).mono ?_
  try simp only [val_dg]
  rintro e w15 ⟨p24, c25, rfl, o15, f15⟩
  replace h1 := h1.kept f15
  replace h2 := h2.kept f15
  replace h3 := h3.kept f15
  replace s1 := s1.kept f15
  replace s2 := s2.kept f15
  have s3 := o15.sl
  replace hw := hw.trans f15 (by simp)
  clear o15 f15
  go_wp2_with fail
  refine (mul_any _ _ _ _ _ _ _ _ _ h1 s3 (by omega) (by omega)).mono ?_
  try simp only [val_dg]
  rintro e w16 ⟨p26, c27, rfl, o16, f16⟩
  replace h1 := h1.kept f16
  replace h2 := h2.kept f16
  replace h3 := h3.kept f16
  replace s1 := s1.kept f16
  replace s2 := s2.kept f16
  replace s3 := s3.kept f16
  have s4 := o16.sl
  replace hw := hw.trans f16 (by simp)
  clear o16 f16
  have q28 : val xs * (val ys * val zs) = val xs * val ys * val zs := (Nat.mul_assoc _ _ _).symm
  rw [q28] at s4 ⊢
  clear q28
  go_wp2_with fail
  refine (same_any _ _ _ _ _ _ _ s2 s4).mono ?_
  rintro e w17 ⟨rfl, f17⟩
  replace h1 := h1.kept f17
  replace h2 := h2.kept f17
  replace h3 := h3.kept f17
  replace s1 := s1.kept f17
  replace s2 := s2.kept f17
  replace s3 := s3.kept f17
  replace s4 := s4.kept f17
  replace hw := hw.trans f17 (by simp)
  clear f17
  clear s1 s2 s3 s4
  go_wp2_with fail
  refine (add_any _ _ _ _ _ _ _ _ _ h2 h3 (by omega) (by omega)).mono ?_
  try simp only [val_dg]
  rintro e w18 ⟨p29, c30, rfl, o18, f18⟩
  replace h1 := h1.kept f18
  replace h2 := h2.kept f18
  replace h3 := h3.kept f18
  have s1 := o18.sl
  replace hw := hw.trans f18 (by simp)
  clear o18 f18
  go_wp2_with fail
  refine (mul_any _ _ _ _ _ _ _ _ _ h1 s1 (by omega) (by omega)).mono ?_
  try simp only [val_dg]
  rintro e w19 ⟨p31, c32, rfl, o19, f19⟩
  replace h1 := h1.kept f19
  replace h2 := h2.kept f19
  replace h3 := h3.kept f19
  replace s1 := s1.kept f19
  have s2 := o19.sl
  replace hw := hw.trans f19 (by simp)
  clear o19 f19
  go_wp2_with fail
  refine (mul_any _ _ _ _ _ _ _ _ _ h1 h2 (by omega) (by omega)).mono ?_
  try simp only [val_dg]
  rintro e w20 ⟨p33, c34, rfl, o20, f20⟩
  replace h1 := h1.kept f20
  replace h2 := h2.kept f20
  replace h3 := h3.kept f20
  replace s1 := s1.kept f20
  replace s2 := s2.kept f20
  have s3 := o20.sl
  replace hw := hw.trans f20 (by simp)
  clear o20 f20
  go_wp2_with fail
  refine (mul_any _ _ _ _ _ _ _ _ _ h1 h3 (by omega) (by omega)).mono ?_
  try simp only [val_dg]
  rintro e w21 ⟨p35, c36, rfl, o21, f21⟩
  replace h1 := h1.kept f21
  replace h2 := h2.kept f21
  replace h3 := h3.kept f21
  replace s1 := s1.kept f21
  replace s2 := s2.kept f21
  replace s3 := s3.kept f21
  have s4 := o21.sl
  replace hw := hw.trans f21 (by simp)
  clear o21 f21
  go_wp2_with fail
  refine (add_any _ _ _ _ _ _ _ _ _ s3 s4 (by omega) (by omega)).mono ?_
  try simp only [val_dg]
  rintro e w22 ⟨p37, c38, rfl, o22, f22⟩
  replace h1 := h1.kept f22
  replace h2 := h2.kept f22
  replace h3 := h3.kept f22
  replace s1 := s1.kept f22
  replace s2 := s2.kept f22
  replace s3 := s3.kept f22
  replace s4 := s4.kept f22
  have s5 := o22.sl
  replace hw := hw.trans f22 (by simp)
  clear o22 f22
  have q39 : val xs * val ys + val xs * val zs = val xs * (val ys + val zs) := (Nat.mul_add _ _ _).symm
  rw [q39] at s5 ⊢
  clear q39
  go_wp2_with fail
  refine (same_any _ _ _ _ _ _ _ s2 s5).mono ?_
  rintro e w23 ⟨rfl, f23⟩
  replace h1 := h1.kept f23
  replace h2 := h2.kept f23
  replace h3 := h3.kept f23
  replace s1 := s1.kept f23
  replace s2 := s2.kept f23
  replace s3 := s3.kept f23
  replace s4 := s4.kept f23
  replace s5 := s5.kept f23
  replace hw := hw.trans f23 (by simp)
  clear f23
  clear s1 s2 s3 s4 s5
  go_wp2_with fail
  refine (add_any _ _ _ _ _ _ _ _ _ h1 h2 (by omega) (by omega)).mono ?_
  try simp only [val_dg]
  rintro e w24 ⟨p40, c41, rfl, o24, f24⟩
  replace h1 := h1.kept f24
  replace h2 := h2.kept f24
  replace h3 := h3.kept f24
  have s1 := o24.sl
  replace hw := hw.trans f24 (by simp)
  clear o24 f24
  go_wp2_with fail
  refine (sub_any _ _ _ _ _ _ _ _ _ s1 h2 (by omega) (by omega)).mono ?_
  try simp only [val_dg]
  rintro e w25 ⟨p42, c43, rfl, o25, f25⟩
  replace h1 := h1.kept f25
  replace h2 := h2.kept f25
  replace h3 := h3.kept f25
  replace s1 := s1.kept f25
  have s2 := o25.sl
  replace hw := hw.trans f25 (by simp)
  clear o25 f25
  go_wp2_with fail
  refine (trim_any _ _ _ _ _ h1 (by omega)).mono ?_
  try simp only [val_dg]
  rintro e w26 ⟨p44, c45, rfl, o26, f26⟩
  replace h1 := h1.kept f26
  replace h2 := h2.kept f26
  replace h3 := h3.kept f26
  replace s1 := s1.kept f26
  replace s2 := s2.kept f26
  have s3 := o26.sl
  replace hw := hw.trans f26 (by simp)
  clear o26 f26
  have q0 : val xs + val ys - val ys = val xs := Nat.add_sub_cancel _ _
  rw [q0] at s2
  clear q0
  go_wp2_with fail
  refine (same_any _ _ _ _ _ _ _ s2 s3).mono ?_
  rintro e w27 ⟨rfl, f27⟩
  replace h1 := h1.kept f27
  replace h2 := h2.kept f27
  replace h3 := h3.kept f27
  replace s1 := s1.kept f27
  replace s2 := s2.kept f27
  replace s3 := s3.kept f27
  replace hw := hw.trans f27 (by simp)
  clear f27
  go_wp2_with fail
  go_ret
  exact ⟨rfl, hw⟩

theorem ring_any (p q r : Option Addr) (n c m d k e : Nat) (xs ys zs : List Nat) (w : World) (h1 : Sl w p n c xs) (h2 : Sl w q m d ys) (h3 : Sl w r k e zs) :
    Calls Try.prog 6 #[.slice p n c, .slice q m d, .slice r k e] w fun e w' => e = .returned (.bool true) ∧ Fr [] w w' := by
  by_cases b1 : n ≤ 10
  case' neg =>
    go_enter Try.func6, Try.ntmps6
    go_wp2_with fail
    refine (digits_no _ _ _ _ (by omega)).mono ?_
    rintro e w' ⟨rfl, rfl⟩
    go_wp2_with fail
    refine (awake_any _).mono ?_
    rintro e w1 ⟨rfl, hw⟩
    go_wp2_with fail
    go_ret
    exact ⟨rfl, hw⟩
  by_cases b2 : m ≤ 10
  case' neg =>
    go_enter Try.func6, Try.ntmps6
    go_wp2_with fail
    refine (digits_yes _ _ _ _ b1).mono ?_
    rintro e w' ⟨rfl, rfl⟩
    go_wp2_with fail
    refine (digits_no _ _ _ _ (by omega)).mono ?_
    rintro e w' ⟨rfl, rfl⟩
    go_wp2_with fail
    refine (awake_any _).mono ?_
    rintro e w1 ⟨rfl, hw⟩
    go_wp2_with fail
    go_ret
    exact ⟨rfl, hw⟩
  by_cases b3 : k ≤ 10
  case' neg =>
    go_enter Try.func6, Try.ntmps6
    go_wp2_with fail
    refine (digits_yes _ _ _ _ b1).mono ?_
    rintro e w' ⟨rfl, rfl⟩
    go_wp2_with fail
    refine (digits_yes _ _ _ _ b2).mono ?_
    rintro e w' ⟨rfl, rfl⟩
    go_wp2_with fail
    refine (digits_no _ _ _ _ (by omega)).mono ?_
    rintro e w' ⟨rfl, rfl⟩
    go_wp2_with fail
    refine (awake_any _).mono ?_
    rintro e w1 ⟨rfl, hw⟩
    go_wp2_with fail
    go_ret
    exact ⟨rfl, hw⟩
  exact ring_small p q r n c m d k e xs ys zs w h1 h2 h3 b1 b2 b3

set_option maxRecDepth 100000 in
theorem natRing_lifted (os : Os) (started : os.Started) (H : Type) (enc : TypeId × Value → H) :
    ReturnsInHanded {} Try.checked os 6 .any (Rows.natRingSpec.pre6 enc Try.prog Try.f6 Rows.natRingRow.domain false) (Rows.natRingSpec.post enc Try.prog Try.f6 false true false false) := by
  refine returnsInHanded_of_change (C := Try.checked) Try.own started (by kernel_rfl) Try.func6
    (ChangeSpec.witness6 (enc := enc) (C := Try.checked) false ⟨#[], #[.slice none 0 0, .slice none 0 0, .slice none 0 0], []⟩ 8 (by kernel_rfl) (by kernel_rfl) (by kernel_rfl) (by kernel_rfl)) ?_
  intro W base args ds gs before hval0 hW hcnd _
  have hval : ∀ (j : Nat) t v, Try.f6.params[j]? = some t → args[j]? = some v → Value.okWide Try.prog W .any base t v := hval0
  have hW' := hW
  obtain ⟨p, q, hA0, hV, rfl, hfz, hnd⟩ := hW
  have hA : DataW.TrodAll enc Try.prog W 0 (fun _ => true) true Try.f6.params.toList args.toList ds p := hA0
  rw [Try.params6] at hA hval
  obtain ⟨v0, v1, v2, d0, d1, d2, p0, p1, p2, rfl, rfl, rfl, h0, h1, h2⟩ := trodAll_three hA
  obtain ⟨rfl, rfl⟩ := trodVars_none hV
  obtain ⟨a0, l0, c0, rfl⟩ := okWide_slice Try.underlying22 (hval 0 22 v0 rfl rfl)
  obtain ⟨a1, l1, c1, rfl⟩ := okWide_slice Try.underlying22 (hval 1 22 v1 rfl rfl)
  obtain ⟨a2, l2, c2, rfl⟩ := okWide_slice Try.underlying22 (hval 2 22 v2 rfl rfl)
  clear hA0 hval0
  simp only [List.append_nil] at hW'
  have hlt : ∀ x ∈ p0 ++ (p1 ++ p2), x.block < W.heap.size := fun x hx => hW'.lt x (by simpa using hx)
  obtain ⟨x0, g0⟩ := view_digits h0
  obtain ⟨x1, g1⟩ := view_digits h1
  obtain ⟨x2, g2⟩ := view_digits h2
  refine (ring_any a0 a1 a2 l0 c0 l1 c1 l2 c2 x0 x1 x2 W g0 g1 g2).mono fun e W' ⟨he, hf⟩ => ?_
  subst he
  have hb := hf.below
  exact ⟨_, rfl, _, _, _, _, _, [], hW', trodAll_mk1 (shut_bool Try.underlying4 _),
    trodAll_mk3 (stays h0 hb (fun x hx => hlt x (by simp [hx]))) (stays h1 hb (fun x hx => hlt x (by simp [hx]))) (stays h2 hb (fun x hx => hlt x (by simp [hx]))), rfl, hb.frame _, fun h => by cases h⟩

theorem natRing_holds : Rows.NatRingSaid :=
  OpenClaim.holds_of_wide 6 Try.f6 rfl rfl rfl rfl rfl rfl rfl ⟨rfl, rfl, rfl, rfl, rfl⟩ rfl rfl rfl rfl rfl (by kernel_rfl) Try.func6 (by kernel_rfl)
    (of_decide_eq_true (by kernel_rfl)) (by unfold Func.isWrapper; first | (rw [if_pos (by decide +kernel)]; kernel_rfl) | (rw [if_neg (by decide +kernel)]; exact ⟨rfl, rfl⟩))
    (fun os started H enc _ => natRing_lifted os started H enc)

#print axioms natRing_holds

end Go.Proofs.Ytebmjjofeddkoaa
