/- NatDivides: for every two lists the quotient times the divisor plus the remainder is the dividend, the remainder is less than the divisor, and a product is divided without remainder. No condition. -/
import Derived.Test.YtebmjjofeddkoaaAwake
import Derived.Test.YtebmjjofeddkoaaOpen
namespace Go.Proofs.Ytebmjjofeddkoaa
open Go.RowKit Go.ChangeShapes Go.WideShapes Go.ChangeAt

set_option maxHeartbeats 4000000 in
theorem divides_small (p q : Option Addr) (n c m d : Nat) (xs ys : List Nat) (w : World) (h1 : Sl w p n c xs) (h2 : Sl w q m d ys) (hn : n ≤ 10) (hm : m ≤ 10) :
    Calls Try.prog 7 #[.slice p n c, .slice q m d] w fun e w' => e = .returned (.bool true) ∧ Fr [] w w' := by
  go_enter Try.func7, Try.ntmps7
  go_wp2_with fail
  refine (digits_yes _ _ _ _ hn).mono ?_
  rintro e w1 ⟨rfl, rfl⟩
  go_wp2_with fail
  refine (digits_yes _ _ _ _ hm).mono ?_
  rintro e w1 ⟨rfl, rfl⟩
  by_cases h0 : val ys = 0
  · have hz : (dg (val ys)).length = 0 := by rw [h0, dg_zero]; rfl
    have HZ := Lib.hid hz
    have H0 := Lib.hid h0
    clear hz h0
    go_wp2_with fail
    refine (divmod_no _ _ _ _ _ _ _ _ _ h1 h2 H0.out).mono ?_
    rintro e w1 ⟨rfl, rfl⟩
    go_wp2_with fail
    refine (awake_any _).mono ?_
    rintro e w2 ⟨rfl, hf⟩
    have h3 := h2.kept hf
    go_wp2_with fail
    refine (rcut_any _ _ _ _ _ h3 (by omega)).mono ?_
    rintro e w3 ⟨p3, c3, rfl, ho3, hf3⟩
    have hff : Fr [] w w3 := hf.trans hf3 (by simp)
    rw [HZ.out]
    go_wp2_with fail
    go_ret
    exact ⟨rfl, hff⟩
  · have H0 := Lib.hid h0
    clear h0
    have hpos : Hid (0 < val ys) := Nat.pos_of_ne_zero H0.out
    have l1 := dg_len_val h1.dig
    have l2 := dg_len_val h2.dig
    rw [h1.len] at l1
    rw [h2.len] at l2
    have lq := dg_len_mono (Nat.div_le_self (val xs) (val ys))
    have lr := dg_len_mono (Nat.mod_le (val xs) (val ys))
    have lm := dg_mul_len (val xs) (val ys)
    have lm2 := dg_mul_len (val xs / val ys) (val ys)
    have hmod : Hid (val xs % val ys < val ys) := Nat.mod_lt _ hpos.out
    have hsum : Hid (val xs / val ys * val ys + val xs % val ys = val xs) := by show _ = _; rw [Nat.mul_comm]; exact Nat.div_add_mod _ _
    have hback : Hid (val xs * val ys / val ys = val xs) := Nat.mul_div_cancel _ hpos.out
    have hbackr : Hid (val xs * val ys % val ys = 0) := Nat.mul_mod_left _ _
    have hposl : Hid (0 < (dg (val ys)).length) := by
      have : (dg (val ys)).length ≠ 0 := fun e => H0.out (dg_nil.1 (List.eq_nil_of_length_eq_zero e))
      exact Nat.pos_of_ne_zero this
    go_wp2_with fail
    refine (divmod_yes _ _ _ _ _ _ _ _ _ h1 h2 (by omega) (by omega) H0.out).mono ?_
    rintro e w1 ⟨pq, cq, pr, cr, rfl, hq, hr, hf1⟩
    have a1 := h1.kept hf1
    have a2 := h2.kept hf1
    go_wp2_with fail
    refine (mul_any _ _ _ _ _ _ _ _ _ a1 a2 (by omega) (by omega)).mono ?_
    rintro e w2 ⟨pm, cm, rfl, hm', hf2⟩
    have b2 := a2.kept hf2
    go_wp2_with fail
    refine (divmod_yes _ _ _ _ _ _ _ _ _ hm'.sl b2 (by omega) (by omega) H0.out).mono ?_
    rw [val_dg, hback.out, hbackr.out, dg_zero]
    rintro e w3 ⟨px, cx, py, cy, rfl, hx, hy, hf3⟩
    have f3 : Fr [] w1 w3 := hf2.trans hf3 (by simp)
    clear hm' b2
    go_wp2_with fail
    refine (awake_any _).mono ?_
    rintro e w4 ⟨rfl, hf4⟩
    have f4 : Fr [] w1 w4 := f3.trans hf4 (by simp)
    have c2 := a2.kept f4
    go_wp2_with fail
    refine (rcut_any _ _ _ _ _ c2 (by omega)).mono ?_
    rintro e w5 ⟨p5, c5, rfl, ho5, hf5⟩
    have f5 : Fr [] w1 w5 := f4.trans hf5 (by simp)
    have d2 := a2.kept f5
    have r5 := (hr.kept f5).sl
    have hp5 := hposl.out
    clear ho5 c2
    generalize (dg (val ys)).length = ly at *
    go_wp2_with fail
    refine (compare_any _ _ _ _ _ _ _ _ _ r5 d2).mono ?_
    rw [val_dg, cmpN_lt hmod.out]
    rintro e w6 ⟨rfl, hf6⟩
    have f6 : Fr [] w1 w6 := f5.trans hf6 (by simp)
    have q6 := (hq.kept f6).sl
    have e2 := a2.kept f6
    go_wp2_with fail
    refine (mul_any _ _ _ _ _ _ _ _ _ q6 e2 (by omega) (by omega)).mono ?_
    rw [val_dg]
    rintro e w7 ⟨p7, c7, rfl, ho7, hf7⟩
    have f7 : Fr [] w1 w7 := f6.trans hf7 (by simp)
    have r7 := (hr.kept f7).sl
    go_wp2_with fail
    refine (add_any _ _ _ _ _ _ _ _ _ ho7.sl r7 (by omega) (by omega)).mono ?_
    rw [val_dg, val_dg, hsum.out]
    rintro e w8 ⟨p8, c8, rfl, ho8, hf8⟩
    have f8 : Fr [] w1 w8 := f7.trans hf8 (by simp)
    have a8 := a1.kept f8
    go_wp2_with fail
    refine (rcut_any _ _ _ _ _ a8 (by omega)).mono ?_
    rintro e w9 ⟨p9, c9, rfl, ho9, hf9⟩
    have f9 : Fr [] w1 w9 := f8.trans hf9 (by simp)
    have s9 := (ho8.kept hf9).sl
    go_wp2_with fail
    refine (same_any _ _ _ _ _ _ _ s9 ho9.sl).mono ?_
    rintro e w10 ⟨rfl, hf10⟩
    have f10 : Fr [] w1 w10 := f9.trans hf10 (by simp)
    have a10 := a1.kept f10
    have g10 : Fr [] w3 w10 := ((((((hf4.trans hf5 (by simp)).trans hf6 (by simp)).trans hf7 (by simp)).trans hf8 (by simp)).trans hf9 (by simp)).trans hf10 (by simp))
    go_wp2_with fail
    refine (rcut_any _ _ _ _ _ a10 (by omega)).mono ?_
    rintro e w11 ⟨p11, c11, rfl, ho11, hf11⟩
    have x11 := (hx.kept (g10.trans hf11 (by simp))).sl
    go_wp2_with fail
    refine (same_any _ _ _ _ _ _ _ x11 ho11.sl).mono ?_
    rintro e w12 ⟨rfl, hf12⟩
    have f12 : Fr [] w w12 := (((hf1.trans f10 (by simp)).trans hf11 (by simp)).trans hf12 (by simp))
    go_wp2_with fail
    go_ret
    exact ⟨rfl, f12⟩

theorem divides_any (p q : Option Addr) (n c m d : Nat) (xs ys : List Nat) (w : World) (h1 : Sl w p n c xs) (h2 : Sl w q m d ys) :
    Calls Try.prog 7 #[.slice p n c, .slice q m d] w fun e w' => e = .returned (.bool true) ∧ Fr [] w w' := by
  by_cases hn : n ≤ 10
  · by_cases hm : m ≤ 10
    · exact divides_small p q n c m d xs ys w h1 h2 hn hm
    · go_enter Try.func7, Try.ntmps7
      go_wp2_with fail
      refine (digits_yes _ _ _ _ hn).mono ?_
      rintro e w1 ⟨rfl, rfl⟩
      go_wp2_with fail
      refine (digits_no _ _ _ _ (by omega)).mono ?_
      rintro e w1 ⟨rfl, rfl⟩
      go_wp2_with fail
      refine (awake_any _).mono ?_
      rintro e w1 ⟨rfl, hf⟩
      go_wp2_with fail
      go_ret
      exact ⟨rfl, hf⟩
  · go_enter Try.func7, Try.ntmps7
    go_wp2_with fail
    refine (digits_no _ _ _ _ (by omega)).mono ?_
    rintro e w1 ⟨rfl, rfl⟩
    go_wp2_with fail
    refine (awake_any _).mono ?_
    rintro e w1 ⟨rfl, hf⟩
    go_wp2_with fail
    go_ret
    exact ⟨rfl, hf⟩

set_option maxRecDepth 100000 in
theorem natDivides_lifted (os : Os) (started : os.Started) (H : Type) (enc : TypeId × Value → H) :
    ReturnsInHanded {} Try.checked os 7 .any (Rows.natDividesSpec.pre6 enc Try.prog Try.f7 Rows.natDividesRow.domain false) (Rows.natDividesSpec.post enc Try.prog Try.f7 false true false false) := by
  refine returnsInHanded_of_change (C := Try.checked) Try.own started (by kernel_rfl) Try.func7
    (ChangeSpec.witness6 (enc := enc) (C := Try.checked) false ⟨#[], #[.slice none 0 0, .slice none 0 0], []⟩ 8 (by kernel_rfl) (by kernel_rfl) (by kernel_rfl) (by kernel_rfl)) ?_
  intro W base args ds gs before hval0 hW hcnd _
  have hval : ∀ (j : Nat) t v, Try.f7.params[j]? = some t → args[j]? = some v → Value.okWide Try.prog W .any base t v := hval0
  have hW' := hW
  obtain ⟨p, q, hA0, hV, rfl, hfz, hnd⟩ := hW
  have hA : DataW.TrodAll enc Try.prog W 0 (fun _ => true) true Try.f7.params.toList args.toList ds p := hA0
  rw [Try.params7] at hA hval
  obtain ⟨v0, v1, d0, d1, p0, p1, rfl, rfl, rfl, h0, h1⟩ := trodAll_two hA
  obtain ⟨rfl, rfl⟩ := trodVars_none hV
  obtain ⟨a0, la, ca, rfl⟩ := okWide_slice Try.underlying22 (hval 0 22 v0 rfl rfl)
  obtain ⟨b0, lb, cb, rfl⟩ := okWide_slice Try.underlying22 (hval 1 22 v1 rfl rfl)
  clear hA0 hval0
  simp only [List.append_nil] at hW'
  have hlt : ∀ x ∈ p0 ++ p1, x.block < W.heap.size := fun x hx => by simpa using hW'.lt x hx
  obtain ⟨xs, hx⟩ := view_digits h0
  obtain ⟨ys, hy⟩ := view_digits h1
  refine (divides_any a0 b0 la ca lb cb xs ys W hx hy).mono fun e W' ⟨he, hf⟩ => ?_
  subst he
  have hb := hf.below
  exact ⟨_, rfl, _, _, _, _, _, [], hW', trodAll_mk1 (shut_bool Try.underlying4 _),
    trodAll_mk2 (stays h0 hb (fun x hx => hlt x (by simp [hx]))) (stays h1 hb (fun x hx => hlt x (by simp [hx]))), rfl, hb.frame _, fun h => by cases h⟩

theorem natDivides_holds : Rows.NatDividesSaid :=
  OpenClaim.holds_of_wide 7 Try.f7 rfl rfl rfl rfl rfl rfl rfl ⟨rfl, rfl, rfl, rfl, rfl⟩ rfl rfl rfl rfl rfl (by kernel_rfl) Try.func7 (by kernel_rfl)
    (of_decide_eq_true (by kernel_rfl)) (by unfold Func.isWrapper; first | (rw [if_pos (by decide +kernel)]; kernel_rfl) | (rw [if_neg (by decide +kernel)]; exact ⟨rfl, rfl⟩))
    (fun os started H enc _ => natDivides_lifted os started H enc)

#print axioms natDivides_holds

end Go.Proofs.Ytebmjjofeddkoaa
