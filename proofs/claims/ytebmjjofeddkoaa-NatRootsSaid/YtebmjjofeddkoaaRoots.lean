/- NatRoots: for every list and every byte, the power of the root is at most the number, and that of the next number is greater. No condition. -/
import Derived.Test.YtebmjjofeddkoaaAwake
import Derived.Test.YtebmjjofeddkoaaOpen
namespace Go.Proofs.Ytebmjjofeddkoaa
open Go.RowKit Go.ChangeShapes Go.WideShapes Go.ChangeAt

set_option maxHeartbeats 4000000 in
theorem roots_small (p : Option Addr) (n c K : Nat) (xs : List Nat) (w : World) (h1 : Sl w p n c xs) (hK : K < 256) (b1 : n ≤ 10) :
    Calls Try.prog 9 #[.slice p n c, .int .u8 K] w fun e w' => e = .returned (.bool true) ∧ Fr [] w w' := by
  have l1 := dg_len_val h1.dig
  rw [h1.len] at l1
  obtain ⟨e0, he0⟩ : ∃ e0, e0 = 1 + K % 64 := ⟨_, rfl⟩
  have he1 : 1 ≤ e0 := by omega
  have he2 : e0 ≤ 64 := by omega
  have hcast : 1 + (K : Int) % 64 = (e0 : Int) := by omega
  have l2 := dg_len_mono (rt_le (n := e0) (v := val xs) he1)
  have l3 := dg_add_len (rt e0 (val xs)) 1
  have l4 := dg_len_le (n := 1) (k := 1) (by decide)
  have r1 := Lib.hid (rt_pow (n := e0) (v := val xs) he1)
  have r2 := Lib.hid (rt_lt (n := e0) (v := val xs) he1)
  clear he0
  go_enter Try.func9, Try.ntmps9
  go_wp2_with fail
  refine (digits_yes _ _ _ _ b1).mono ?_
  rintro e w' ⟨rfl, rfl⟩
  go_wp2_with fail
  refine (root_yes _ _ _ e0 _ _ h1 (by omega) he1 he2).mono ?_
  rintro e w1 ⟨q1, d1, rfl, o1, f1⟩
  replace h1 := h1.kept f1
  have hw := f1
  clear f1
  have s1 := o1.sl
  clear o1
  go_wp2_with fail
  refine (pow_yes _ _ _ e0 _ _ s1 (by omega) he2).mono ?_
  try simp only [val_dg]
  rintro e w2 ⟨q2, d2, rfl, o2, f2⟩
  replace h1 := h1.kept f2
  replace s1 := s1.kept f2
  replace hw := hw.trans f2 (by simp)
  clear f2
  have s2 := o2.sl
  clear o2
  have m1 : ∀ w' : World, Sl (w'.alloc (.cells #[.int .u32 1] 43)) (some ⟨w'.heap.size, 0, none⟩) 1 1 [1] := fun w' => made1 rfl rfl (by decide)
  go_wp2_with fail
  have fa : Fr [] w2 (w2.alloc (.cells #[.int .u32 1] 43)) := Fr.new _
  replace hw := hw.trans fa (by simp)
  replace h1 := h1.kept fa
  replace s1 := s1.kept fa
  replace s2 := s2.kept fa
  refine (add_any _ _ _ _ _ _ _ _ _ s1 (m1 _) (by omega) (by omega)).mono ?_
  simp only [val_dg, val_one]
  rintro e w3 ⟨q3, d3, rfl, o3, f3⟩
  replace h1 := h1.kept f3
  replace s1 := s1.kept f3
  replace s2 := s2.kept f3
  replace hw := hw.trans f3 (by simp)
  have s3 := o3.sl
  clear o3 f3 fa
  go_wp2_with fail
  refine (pow_yes _ _ _ e0 _ _ s3 (by omega) he2).mono ?_
  try simp only [val_dg]
  rintro e w4 ⟨q4, d4, rfl, o4, f4⟩
  replace h1 := h1.kept f4
  replace s1 := s1.kept f4
  replace s2 := s2.kept f4
  replace s3 := s3.kept f4
  replace hw := hw.trans f4 (by simp)
  clear f4
  have s4 := o4.sl
  clear o4
  go_wp2_with fail
  refine (awake_any _).mono ?_
  rintro e w5 ⟨rfl, f5⟩
  replace h1 := h1.kept f5
  replace s1 := s1.kept f5
  replace s2 := s2.kept f5
  replace s3 := s3.kept f5
  replace s4 := s4.kept f5
  replace hw := hw.trans f5 (by simp)
  clear f5
  have c1 : Hid (cmpN (rt e0 (val xs) ^ e0) (val xs) = -1 ∨ cmpN (rt e0 (val xs) ^ e0) (val xs) = 0) := by
    by_cases hh : rt e0 (val xs) ^ e0 < val xs
    · exact Or.inl (cmpN_lt hh)
    · exact Or.inr (cmpN_eq (Nat.le_antisymm r1.out (Nat.le_of_not_lt hh)))
  have c2 : Hid (cmpN (val xs) ((rt e0 (val xs) + 1) ^ e0) = -1) := cmpN_lt r2.out
  go_wp2_with fail
  refine (compare_any _ _ _ _ _ _ _ _ _ s2 h1).mono ?_
  try simp only [val_dg]
  rintro e w6 ⟨rfl, f1⟩
  replace h1 := h1.kept f1
  replace s1 := s1.kept f1
  replace s2 := s2.kept f1
  replace s3 := s3.kept f1
  replace s4 := s4.kept f1
  replace hw := hw.trans f1 (by simp)
  clear f1
  rcases c1.out with c3 | c3
  all_goals
    rw [c3]
    clear c3
    go_wp2_with fail
    refine (compare_any _ _ _ _ _ _ _ _ _ h1 s4).mono ?_
    try simp only [val_dg]
    rw [c2.out]
    rintro e w' ⟨rfl, f1⟩
    replace hw := hw.trans f1 (by simp)
    clear f1
    go_wp2_with fail
    go_ret
    exact ⟨rfl, hw⟩

theorem roots_any (p : Option Addr) (n c K : Nat) (xs : List Nat) (w : World) (h1 : Sl w p n c xs) (hK : K < 256) :
    Calls Try.prog 9 #[.slice p n c, .int .u8 K] w fun e w' => e = .returned (.bool true) ∧ Fr [] w w' := by
  by_cases b1 : n ≤ 10
  · exact roots_small p n c K xs w h1 hK b1
  · go_enter Try.func9, Try.ntmps9
    go_wp2_with fail
    refine (digits_no _ _ _ _ (by omega)).mono ?_
    rintro e w' ⟨rfl, rfl⟩
    go_wp2_with fail
    refine (awake_any _).mono ?_
    rintro e w1 ⟨rfl, hw⟩
    go_wp2_with fail
    go_ret
    exact ⟨rfl, hw⟩

theorem byte_of_wf {x : Int} (h : (Lit.int .u8 x).wf = true) : 0 ≤ x ∧ x < 256 := by
  simp [Lit.wf, IntKind.min, IntKind.max, IntKind.signed, IntKind.bits] at h
  omega

set_option maxRecDepth 100000 in
theorem natRoots_lifted (os : Os) (started : os.Started) (H : Type) (enc : TypeId × Value → H) :
    ReturnsInHanded {} Try.checked os 9 .any (Rows.natRootsSpec.pre6 enc Try.prog Try.f9 Rows.natRootsRow.domain false) (Rows.natRootsSpec.post enc Try.prog Try.f9 false true false false) := by
  refine returnsInHanded_of_change (C := Try.checked) Try.own started (by kernel_rfl) Try.func9
    (ChangeSpec.witness6 (enc := enc) (C := Try.checked) false ⟨#[], #[.slice none 0 0, .int .u8 0], []⟩ 8 (by kernel_rfl) (by kernel_rfl) (by kernel_rfl) (by kernel_rfl)) ?_
  intro W base args ds gs before hval0 hW hcnd _
  have hval : ∀ (j : Nat) t v, Try.f9.params[j]? = some t → args[j]? = some v → Value.okWide Try.prog W .any base t v := hval0
  have hW' := hW
  obtain ⟨p, q, hA0, hV, rfl, hfz, hnd⟩ := hW
  have hA : DataW.TrodAll enc Try.prog W 0 (fun _ => true) true Try.f9.params.toList args.toList ds p := hA0
  rw [Try.params9] at hA hval
  obtain ⟨v0, v1, d0, d1, p0, p1, rfl, rfl, rfl, h0, h1⟩ := trodAll_two hA
  obtain ⟨rfl, rfl⟩ := trodVars_none hV
  obtain ⟨a0, l0, c0, rfl⟩ := okWide_slice Try.underlying22 (hval 0 22 v0 rfl rfl)
  obtain ⟨z, rfl, rfl, rfl, wz⟩ := open_int Try.underlying5 (hval 1 5 v1 rfl rfl) h1
  obtain ⟨K, rfl⟩ := Int.eq_ofNat_of_zero_le (byte_of_wf wz).1
  clear hA0 hval0
  simp only [List.append_nil] at hW'
  have hlt : ∀ x ∈ p0, x.block < W.heap.size := fun x hx => hW'.lt x (by simpa using hx)
  obtain ⟨x0, g0⟩ := view_digits h0
  refine (roots_any a0 l0 c0 K x0 W g0 (by have := (byte_of_wf wz).2; omega)).mono fun e W' ⟨he, hf⟩ => ?_
  subst he
  have hb := hf.below
  exact ⟨_, rfl, _, _, _, _, _, [], hW', trodAll_mk1 (shut_bool Try.underlying4 _),
    trodAll_mk2 (stays h0 hb (fun x hx => hlt x (by simp [hx]))) (shut_int Try.underlying5 wz), rfl, hb.frame _, fun h => by cases h⟩

theorem natRoots_holds : Rows.NatRootsSaid :=
  OpenClaim.holds_of_wide 9 Try.f9 rfl rfl rfl rfl rfl rfl rfl ⟨rfl, rfl, rfl, rfl, rfl⟩ rfl rfl rfl rfl rfl (by kernel_rfl) Try.func9 (by kernel_rfl)
    (of_decide_eq_true (by kernel_rfl)) (by unfold Func.isWrapper; first | (rw [if_pos (by decide +kernel)]; kernel_rfl) | (rw [if_neg (by decide +kernel)]; exact ⟨rfl, rfl⟩))
    (fun os started H enc _ => natRoots_lifted os started H enc)

#print axioms natRoots_holds

end Go.Proofs.Ytebmjjofeddkoaa
