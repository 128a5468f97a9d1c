/- NatGcds: for every three lists, Gcd divides both numbers, and grows with a common factor. No condition. -/
import Derived.Test.YtfjhdhmneknmkaaGcd6
import Derived.Test.YtfjhdhmneknmkaaOpen
namespace Go.Proofs.Ytfjhdhmneknmkaa
open Go.RowKit Go.ChangeShapes Go.WideShapes Go.ChangeAt

set_option maxRecDepth 100000 in
set_option maxHeartbeats 4000000 in
theorem gcds_zero (p q r : Option Addr) (n c m d k e : Nat) (xs ys zs : List Nat) (w : World) (h1 : Sl w p n c xs) (h2 : Sl w q m d ys) (h3 : Sl w r k e zs) (b1 : n ≤ 5) (b2 : m ≤ 5) (b3 : k ≤ 5) (h0 : Nat.gcd (val xs) (val ys) = 0) :
    Calls Try.prog 4 #[.slice p n c, .slice q m d, .slice r k e] w fun e w' => e = .returned (.bool true) ∧ Fr [] w w' := by
  have hd1 : decide ((5 : Int) < (n : Int)) = false := decide_eq_false (by omega)
  have hd2 : decide ((5 : Int) < (m : Int)) = false := decide_eq_false (by omega)
  have hd3 : decide ((5 : Int) < (k : Int)) = false := decide_eq_false (by omega)
  have z1 : val xs = 0 := Nat.eq_zero_of_gcd_eq_zero_left h0
  have z2 : val ys = 0 := Nat.eq_zero_of_gcd_eq_zero_right h0
  have hz : dg (Nat.gcd (val xs) (val ys)) = [] := by rw [h0, dg_zero]
  have hz1 : dg (val xs) = [] := by rw [z1, dg_zero]
  have hz2 : dg (val ys) = [] := by rw [z2, dg_zero]
  have HZ := Lib.hid hz
  have HZ1 := Lib.hid hz1
  have HZ2 := Lib.hid hz2
  clear h0 z1 z2 hz hz1 hz2
  go_enter Try.func4, Try.ntmps4
  go_wp2_with fail
  refine (gcd_any _ _ _ _ _ _ _ _ _ h1 h2 (by omega) (by omega)).mono ?_
  rw [HZ.out]
  rintro e w1 ⟨p1, c2, rfl, o1, f1⟩
  replace h1 := h1.kept f1
  replace h2 := h2.kept f1
  replace h3 := h3.kept f1
  have sg := o1.sl
  have hw := f1
  clear o1 f1
  go_wp2_with fail
  refine (awake_any _).mono ?_
  rintro e w2 ⟨rfl, f2⟩
  replace h1 := h1.kept f2
  replace h2 := h2.kept f2
  replace h3 := h3.kept f2
  replace sg := sg.kept f2
  replace hw := hw.trans f2 (by simp)
  clear f2
  go_wp2_with fail
  refine (rcut_any _ _ _ _ _ h1 (by omega)).mono ?_
  rw [HZ1.out]
  rintro e w3 ⟨p3, c4, rfl, o3, f3⟩
  replace h1 := h1.kept f3
  replace h2 := h2.kept f3
  replace h3 := h3.kept f3
  replace sg := sg.kept f3
  have s1 := o3.sl
  replace hw := hw.trans f3 (by simp)
  clear o3 f3
  go_wp2_with fail
  refine (rcut_any _ _ _ _ _ h2 (by omega)).mono ?_
  rw [HZ2.out]
  rintro e w4 ⟨p5, c6, rfl, o4, f4⟩
  replace h1 := h1.kept f4
  replace h2 := h2.kept f4
  replace h3 := h3.kept f4
  replace sg := sg.kept f4
  replace s1 := s1.kept f4
  have s2 := o4.sl
  replace hw := hw.trans f4 (by simp)
  clear o4 f4
  go_wp2_with fail
  go_ret
  exact ⟨rfl, hw⟩

set_option maxRecDepth 100000 in
set_option maxHeartbeats 4000000 in
theorem gcds_pos (p q r : Option Addr) (n c m d k e : Nat) (xs ys zs : List Nat) (w : World) (h1 : Sl w p n c xs) (h2 : Sl w q m d ys) (h3 : Sl w r k e zs) (b1 : n ≤ 5) (b2 : m ≤ 5) (b3 : k ≤ 5) (h0 : Nat.gcd (val xs) (val ys) ≠ 0) :
    Calls Try.prog 4 #[.slice p n c, .slice q m d, .slice r k e] w fun e w' => e = .returned (.bool true) ∧ Fr [] w w' := by
  have hd1 : decide ((5 : Int) < (n : Int)) = false := decide_eq_false (by omega)
  have hd2 : decide ((5 : Int) < (m : Int)) = false := decide_eq_false (by omega)
  have hd3 : decide ((5 : Int) < (k : Int)) = false := decide_eq_false (by omega)
  have l1 := dg_len_val h1.dig
  have l2 := dg_len_val h2.dig
  have l3 := dg_len_val h3.dig
  rw [h1.len] at l1
  rw [h2.len] at l2
  rw [h3.len] at l3
  obtain ⟨G, hG⟩ : ∃ G, G = Nat.gcd (val xs) (val ys) := ⟨_, rfl⟩
  have lg := gcd_len (val xs) (val ys)
  rw [← hG] at h0 lg
  have hgl : (dg G).length ≠ 0 := fun e => h0 (dg_nil.1 (List.eq_nil_of_length_eq_zero e))
  have hgp : ((dg G).length : Int) ≠ 0 := by omega
  have hge : (((dg G).length : Int) == 0) = false := beq_eq_false_iff_ne.2 hgp
  have d1 : val xs % G = 0 := Nat.mod_eq_zero_of_dvd (by rw [hG]; exact Nat.gcd_dvd_left _ _)
  have d2 : val ys % G = 0 := Nat.mod_eq_zero_of_dvd (by rw [hG]; exact Nat.gcd_dvd_right _ _)
  have d3 : Nat.gcd (val xs * val zs) (val ys * val zs) = G * val zs := by rw [hG]; exact Nat.gcd_mul_right _ _ _
  have m1 := dg_mul_len (val xs) (val zs)
  have m2 := dg_mul_len (val ys) (val zs)
  have HG := Lib.hid hG
  have H0 := Lib.hid h0
  have D1 := Lib.hid d1
  have D2 := Lib.hid d2
  have D3 := Lib.hid d3
  clear hG h0 d1 d2 d3 hgp
  go_enter Try.func4, Try.ntmps4
  go_wp2_with fail
  refine (gcd_any _ _ _ _ _ _ _ _ _ h1 h2 (by omega) (by omega)).mono ?_
  rw [← HG.out]
  rintro e w1 ⟨p1, c2, rfl, o1, f1⟩
  replace h1 := h1.kept f1
  replace h2 := h2.kept f1
  replace h3 := h3.kept f1
  have sg := o1.sl
  have hw := f1
  clear o1 f1
  go_wp2_with fail
  refine (divmod_yes _ _ _ _ _ _ _ _ _ h1 sg (by omega) (by omega) (by rw [val_dg]; exact H0.out)).mono ?_
  rw [val_dg, D1.out, dg_zero]
  rintro e w2 ⟨pqh1, cqh1, prh1, crh1, rfl, oqh1, orh1, f2⟩
  replace h1 := h1.kept f2
  replace h2 := h2.kept f2
  replace h3 := h3.kept f2
  replace sg := sg.kept f2
  replace hw := hw.trans f2 (by simp)
  clear f2
  clear oqh1 orh1
  go_wp2_with fail
  refine (divmod_yes _ _ _ _ _ _ _ _ _ h2 sg (by omega) (by omega) (by rw [val_dg]; exact H0.out)).mono ?_
  rw [val_dg, D2.out, dg_zero]
  rintro e w3 ⟨pqh2, cqh2, prh2, crh2, rfl, oqh2, orh2, f3⟩
  replace h1 := h1.kept f3
  replace h2 := h2.kept f3
  replace h3 := h3.kept f3
  replace sg := sg.kept f3
  replace hw := hw.trans f3 (by simp)
  clear f3
  clear oqh2 orh2
  go_wp2_with fail
  refine (awake_any _).mono ?_
  rintro e w4 ⟨rfl, f4⟩
  replace h1 := h1.kept f4
  replace h2 := h2.kept f4
  replace h3 := h3.kept f4
  replace sg := sg.kept f4
  replace hw := hw.trans f4 (by simp)
  clear f4
  go_wp2_with fail
  refine (mul_any _ _ _ _ _ _ _ _ _ h1 h3 (by omega) (by omega)).mono ?_
  rintro e w5 ⟨p3, c4, rfl, o5, f5⟩
  replace h1 := h1.kept f5
  replace h2 := h2.kept f5
  replace h3 := h3.kept f5
  replace sg := sg.kept f5
  have s1 := o5.sl
  replace hw := hw.trans f5 (by simp)
  clear o5 f5
  go_wp2_with fail
  refine (mul_any _ _ _ _ _ _ _ _ _ h2 h3 (by omega) (by omega)).mono ?_
  rintro e w6 ⟨p5, c6, rfl, o6, f6⟩
  replace h1 := h1.kept f6
  replace h2 := h2.kept f6
  replace h3 := h3.kept f6
  replace sg := sg.kept f6
  replace s1 := s1.kept f6
  have s2 := o6.sl
  replace hw := hw.trans f6 (by simp)
  clear o6 f6
  go_wp2_with fail
  refine (gcd_any _ _ _ _ _ _ _ _ _ s1 s2 (by omega) (by omega)).mono ?_
  rw [val_dg, val_dg, D3.out]
  rintro e w7 ⟨p7, c8, rfl, o7, f7⟩
  replace h1 := h1.kept f7
  replace h2 := h2.kept f7
  replace h3 := h3.kept f7
  replace sg := sg.kept f7
  replace s1 := s1.kept f7
  replace s2 := s2.kept f7
  have s3 := o7.sl
  replace hw := hw.trans f7 (by simp)
  clear o7 f7
  go_wp2_with fail
  refine (mul_any _ _ _ _ _ _ _ _ _ sg h3 (by omega) (by omega)).mono ?_
  rw [val_dg]
  rintro e w8 ⟨p9, c10, rfl, o8, f8⟩
  replace h1 := h1.kept f8
  replace h2 := h2.kept f8
  replace h3 := h3.kept f8
  replace sg := sg.kept f8
  replace s1 := s1.kept f8
  replace s2 := s2.kept f8
  replace s3 := s3.kept f8
  have s4 := o8.sl
  replace hw := hw.trans f8 (by simp)
  clear o8 f8
  go_wp2_with fail
  refine (same_any _ _ _ _ _ _ _ s3 s4).mono ?_
  rintro e w9 ⟨rfl, f9⟩
  replace h1 := h1.kept f9
  replace h2 := h2.kept f9
  replace h3 := h3.kept f9
  replace sg := sg.kept f9
  replace s1 := s1.kept f9
  replace s2 := s2.kept f9
  replace s3 := s3.kept f9
  replace s4 := s4.kept f9
  replace hw := hw.trans f9 (by simp)
  clear f9
  go_wp2_with fail
  go_ret
  exact ⟨rfl, hw⟩

set_option maxRecDepth 100000 in
set_option maxHeartbeats 4000000 in
theorem gcds_small (p q r : Option Addr) (n c m d k e : Nat) (xs ys zs : List Nat) (w : World) (h1 : Sl w p n c xs) (h2 : Sl w q m d ys) (h3 : Sl w r k e zs) (b1 : n ≤ 5) (b2 : m ≤ 5) (b3 : k ≤ 5) :
    Calls Try.prog 4 #[.slice p n c, .slice q m d, .slice r k e] w fun e w' => e = .returned (.bool true) ∧ Fr [] w w' := by
  by_cases h0 : Nat.gcd (val xs) (val ys) = 0
  · exact gcds_zero p q r n c m d k e xs ys zs w h1 h2 h3 b1 b2 b3 h0
  · exact gcds_pos p q r n c m d k e xs ys zs w h1 h2 h3 b1 b2 b3 h0

set_option maxRecDepth 100000 in
set_option maxHeartbeats 4000000 in
theorem gcds_any (p q r : Option Addr) (n c m d k e : Nat) (xs ys zs : List Nat) (w : World) (h1 : Sl w p n c xs) (h2 : Sl w q m d ys) (h3 : Sl w r k e zs) :
    Calls Try.prog 4 #[.slice p n c, .slice q m d, .slice r k e] w fun e w' => e = .returned (.bool true) ∧ Fr [] w w' := by
  by_cases b1 : n ≤ 5
  case' neg =>
    have hd1 : decide ((5 : Int) < (n : Int)) = true := decide_eq_true (by omega)
    go_enter Try.func4, Try.ntmps4
    go_wp2_with fail
    refine (awake_any _).mono ?_
    rintro e w1 ⟨rfl, hw⟩
    go_wp2_with fail
    go_ret
    exact ⟨rfl, hw⟩
  by_cases b2 : m ≤ 5
  case' neg =>
    have hd1 : decide ((5 : Int) < (n : Int)) = false := decide_eq_false (by omega)
    have hd2 : decide ((5 : Int) < (m : Int)) = true := decide_eq_true (by omega)
    go_enter Try.func4, Try.ntmps4
    go_wp2_with fail
    refine (awake_any _).mono ?_
    rintro e w1 ⟨rfl, hw⟩
    go_wp2_with fail
    go_ret
    exact ⟨rfl, hw⟩
  by_cases b3 : k ≤ 5
  case' neg =>
    have hd1 : decide ((5 : Int) < (n : Int)) = false := decide_eq_false (by omega)
    have hd2 : decide ((5 : Int) < (m : Int)) = false := decide_eq_false (by omega)
    have hd3 : decide ((5 : Int) < (k : Int)) = true := decide_eq_true (by omega)
    go_enter Try.func4, Try.ntmps4
    go_wp2_with fail
    refine (awake_any _).mono ?_
    rintro e w1 ⟨rfl, hw⟩
    go_wp2_with fail
    go_ret
    exact ⟨rfl, hw⟩
  exact gcds_small p q r n c m d k e xs ys zs w h1 h2 h3 b1 b2 b3

set_option maxRecDepth 100000 in
theorem natGcds_lifted (os : Os) (started : os.Started) (H : Type) (enc : TypeId × Value → H) :
    ReturnsInHanded {} Try.checked os 4 .any (Rows.natGcdsSpec.pre6 enc Try.prog Try.f4 Rows.natGcdsRow.domain false) (Rows.natGcdsSpec.post enc Try.prog Try.f4 false true false false) := by
  refine returnsInHanded_of_change (C := Try.checked) Try.own started (by kernel_rfl) Try.func4
    (ChangeSpec.witness6 (enc := enc) (C := Try.checked) false ⟨#[], #[.slice none 0 0, .slice none 0 0, .slice none 0 0], []⟩ 8 (by kernel_rfl) (by kernel_rfl) (by kernel_rfl) (by kernel_rfl)) ?_
  intro W base args ds gs before hval0 hW hcnd _
  have hval : ∀ (j : Nat) t v, Try.f4.params[j]? = some t → args[j]? = some v → Value.okWide Try.prog W .any base t v := hval0
  have hW' := hW
  obtain ⟨p, q, hA0, hV, rfl, hfz, hnd⟩ := hW
  have hA : DataW.TrodAll enc Try.prog W 0 (fun _ => true) true Try.f4.params.toList args.toList ds p := hA0
  rw [Try.params4] at hA hval
  obtain ⟨v0, v1, v2, d0, d1, d2, p0, p1, p2, rfl, rfl, rfl, h0, h1, h2⟩ := trodAll_three hA
  obtain ⟨rfl, rfl⟩ := trodVars_none hV
  obtain ⟨a0, l0, c0, rfl⟩ := okWide_slice Try.underlying22 (hval 0 22 v0 rfl rfl)
  obtain ⟨a1, l1, c1, rfl⟩ := okWide_slice Try.underlying22 (hval 1 22 v1 rfl rfl)
  obtain ⟨a2, l2, c2, rfl⟩ := okWide_slice Try.underlying22 (hval 2 22 v2 rfl rfl)
  clear hA0 hval0
  simp only [List.append_nil] at hW'
  have hlt : ∀ x ∈ p0 ++ (p1 ++ p2), x.block < W.heap.size := fun x hx => hW'.lt x (by simpa using hx)
  obtain ⟨x0, g0⟩ := view_digits h0
  obtain ⟨x1, g1⟩ := view_digits h1
  obtain ⟨x2, g2⟩ := view_digits h2
  refine (gcds_any a0 a1 a2 l0 c0 l1 c1 l2 c2 x0 x1 x2 W g0 g1 g2).mono fun e W' ⟨he, hf⟩ => ?_
  subst he
  have hb := hf.below
  exact ⟨_, rfl, _, _, _, _, _, [], hW', trodAll_mk1 (shut_bool Try.underlying4 _),
    trodAll_mk3 (stays h0 hb (fun x hx => hlt x (by simp [hx]))) (stays h1 hb (fun x hx => hlt x (by simp [hx]))) (stays h2 hb (fun x hx => hlt x (by simp [hx]))), rfl, hb.frame _, fun h => by cases h⟩

theorem natGcds_holds : Rows.NatGcdsSaid :=
  OpenClaim.holds_of_wide 4 Try.f4 rfl rfl rfl rfl rfl rfl rfl ⟨rfl, rfl, rfl, rfl, rfl⟩ rfl rfl rfl rfl rfl (by kernel_rfl) Try.func4 (by kernel_rfl)
    (of_decide_eq_true (by kernel_rfl)) (by unfold Func.isWrapper; first | (rw [if_pos (by decide +kernel)]; kernel_rfl) | (rw [if_neg (by decide +kernel)]; exact ⟨rfl, rfl⟩))
    (fun os started H enc _ => natGcds_lifted os started H enc)

#print axioms natGcds_holds

end Go.Proofs.Ytfjhdhmneknmkaa
