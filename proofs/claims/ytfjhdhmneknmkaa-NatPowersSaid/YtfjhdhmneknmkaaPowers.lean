/- NatPowers: for every two lists and every two ints, Gcd, BitLen, Shift, Pow and Root answer as the document's own functions do. No condition. -/
import Derived.Test.YtfjhdhmneknmkaaGcd6
import Derived.Test.YtfjhdhmneknmkaaOpen
namespace Go.Proofs.Ytfjhdhmneknmkaa
open Go.RowKit Go.ChangeShapes Go.WideShapes Go.ChangeAt

set_option maxRecDepth 100000 in
set_option maxHeartbeats 8000000 in
theorem powers_small (p q : Option Addr) (n c m d : Nat) (N K : Int) (xs ys : List Nat) (w : World) (h1 : Sl w p n c xs) (h2 : Sl w q m d ys) (g1 : -9223372036854775808 ≤ N) (g2 : N ≤ 9223372036854775807) (g3 : -9223372036854775808 ≤ K) (g4 : K ≤ 9223372036854775807) (b1 : n ≤ 4) (b2 : m ≤ 10) :
    Calls Try.prog 3 #[.slice p n c, .slice q m d, .int .i64 N, .int .i64 K] w fun e w' => e = .returned (.bool true) ∧ Fr [] w w' := by
  have hd1 : decide ((4 : Int) < (n : Int)) = false := decide_eq_false (by omega)
  have l1 := dg_len_val h1.dig
  have l2 := dg_len_val h2.dig
  rw [h1.len] at l1
  rw [h2.len] at l2
  go_enter Try.func3, Try.ntmps3
  go_wp2_with fail
  refine (digits_yes _ _ _ _ b2).mono ?_
  rintro e w' ⟨rfl, rfl⟩
  go_wp2_with fail
  refine (mod_any K 12 _ (by omega) (by omega) g3 g4).mono ?_
  rintro e w' ⟨rfl, rfl⟩
  obtain ⟨R, hR⟩ : ∃ R, R = K % 12 := ⟨_, rfl⟩
  have hR0 : 0 ≤ R := by omega
  have hR1 : R < 12 := by omega
  rw [← hR]
  clear hR
  go_wp2_with fail
  have b0 : Bx (w.alloc (Obj.cells #[.int .i64 N, .int .i64 (R - 1)] 3)) w.heap.size 3 #[.int .i64 N, .int .i64 (R - 1)] := Bx.made _ _ _
  have hw0 : Fr [] w (w.alloc (Obj.cells #[.int .i64 N, .int .i64 (R - 1)] 3)) := Fr.new _
  generalize w.alloc (Obj.cells #[.int .i64 N, .int .i64 (R - 1)] 3) = W at *
  go_loopw [36] (fun s wr => ∃ i : Nat, i ≤ 2 ∧ s = .int .i64 i ∧ Bx wr w.heap.size 3 #[.int .i64 N, .int .i64 (R - 1)] ∧ Fr [] w wr) (fun s _ => 2 - (intOf s).toNat)
  case atStart => exact ⟨0, by omega, rfl, b0, hw0⟩
  case round =>
    obtain ⟨i, hi, rfl, bx, hw⟩ := hrel
    clear b0 hw0
    replace h1 := h1.kept hw
    replace h2 := h2.kept hw
    by_cases hlt : i < 2
    · have hV : ∃ V : Int, wr.cell? ⟨w.heap.size, i, none⟩ = some (.int .i64 V) ∧ -9223372036854775808 ≤ V ∧ V ≤ 9223372036854775807 := by
        match i, hlt with
        | 0, _ => exact ⟨N, bx.cell rfl, g1, g2⟩
        | 1, _ => exact ⟨R - 1, bx.cell rfl, by omega, by omega⟩
      obtain ⟨V, hc, v1, v2⟩ := hV
      rcases (show (V < 0 ∨ 64 < V) ∨ V = 0 ∨ (1 ≤ V ∧ V ≤ 64) by omega) with hV | hV | hV
      · have HV := Lib.hid hV
        have HV1 : Hid (V < 1 ∨ 64 < V) := by show _ ∨ _; omega
        clear hV
        go_wp2_with fail
        refine (pow_no _ _ _ V _ HV.out).mono ?_
        rintro e w' ⟨rfl, rfl⟩
        go_wp2_with fail
        refine (rpow_no _ _ _ V _ HV.out).mono ?_
        rintro e w' ⟨rfl, rfl⟩
        go_wp2_with fail
        refine (root_no _ _ _ V _ HV1.out).mono ?_
        rintro e w' ⟨rfl, rfl⟩
        go_wp2_with fail
        refine (rroot_no _ _ _ V _ HV1.out).mono ?_
        rintro e w' ⟨rfl, rfl⟩
        go_wp2_with fail
        refine (same_any none none 0 0 0 [] _ (Sl.zero _) (Sl.zero _)).mono ?_
        rintro e w2 ⟨rfl, f2⟩
        replace h1 := h1.kept f2
        replace h2 := h2.kept f2
        replace bx := bx.kept f2
        replace hw := hw.trans f2 (by simp)
        clear f2
        go_wp2_with fail
        refine (same_any none none 0 0 0 [] _ (Sl.zero _) (Sl.zero _)).mono ?_
        rintro e w3 ⟨rfl, f3⟩
        replace h1 := h1.kept f3
        replace h2 := h2.kept f3
        replace bx := bx.kept f3
        replace hw := hw.trans f3 (by simp)
        clear f3
        go_wp2_with fail
        go_roundw
        case rel => exact ⟨i + 1, by omega, by go_num, bx, hw⟩
        case measure => simp [intOf]; omega
      · subst hV
        go_wp2_with fail
        refine (pow_yes _ _ _ 0 _ _ h1 (by omega) (by omega)).mono ?_
        rintro e w2 ⟨qa, da, rfl, oa, f2⟩
        replace h1 := h1.kept f2
        replace h2 := h2.kept f2
        replace bx := bx.kept f2
        replace hw := hw.trans f2 (by simp)
        clear f2
        have sa := oa.sl
        clear oa
        go_wp2_with fail
        refine (rpow_yes _ _ _ 0 _ _ h1 (by omega) (by omega)).mono ?_
        rintro e w3 ⟨qb, db, rfl, ob, f3⟩
        replace h1 := h1.kept f3
        replace h2 := h2.kept f3
        replace bx := bx.kept f3
        replace sa := sa.kept f3
        replace hw := hw.trans f3 (by simp)
        clear f3
        have sb := ob.sl
        clear ob
        go_wp2_with fail
        refine (root_no _ _ _ 0 _ (Or.inl (by decide))).mono ?_
        rintro e w' ⟨rfl, rfl⟩
        go_wp2_with fail
        refine (rroot_no _ _ _ 0 _ (Or.inl (by decide))).mono ?_
        rintro e w' ⟨rfl, rfl⟩
        go_wp2_with fail
        refine (same_any _ _ _ _ _ _ _ sa sb).mono ?_
        rintro e w4 ⟨rfl, f4⟩
        replace h1 := h1.kept f4
        replace h2 := h2.kept f4
        replace bx := bx.kept f4
        replace sa := sa.kept f4
        replace sb := sb.kept f4
        replace hw := hw.trans f4 (by simp)
        clear f4
        clear sa sb
        go_wp2_with fail
        refine (same_any none none 0 0 0 [] _ (Sl.zero _) (Sl.zero _)).mono ?_
        rintro e w5 ⟨rfl, f5⟩
        replace h1 := h1.kept f5
        replace h2 := h2.kept f5
        replace bx := bx.kept f5
        replace hw := hw.trans f5 (by simp)
        clear f5
        go_wp2_with fail
        go_roundw
        case rel => exact ⟨i + 1, by omega, by go_num, bx, hw⟩
        case measure => simp [intOf]; omega
      · obtain ⟨e0, rfl⟩ := Int.eq_ofNat_of_zero_le (show 0 ≤ V by omega)
        have he1 : 1 ≤ e0 := by omega
        have he2 : e0 ≤ 64 := by omega
        clear hV
        go_wp2_with fail
        refine (pow_yes _ _ _ e0 _ _ h1 (by omega) (by omega)).mono ?_
        rintro e w2 ⟨qa, da, rfl, oa, f2⟩
        replace h1 := h1.kept f2
        replace h2 := h2.kept f2
        replace bx := bx.kept f2
        replace hw := hw.trans f2 (by simp)
        clear f2
        have sa := oa.sl
        clear oa
        go_wp2_with fail
        refine (rpow_yes _ _ _ e0 _ _ h1 (by omega) (by omega)).mono ?_
        rintro e w3 ⟨qb, db, rfl, ob, f3⟩
        replace h1 := h1.kept f3
        replace h2 := h2.kept f3
        replace bx := bx.kept f3
        replace sa := sa.kept f3
        replace hw := hw.trans f3 (by simp)
        clear f3
        have sb := ob.sl
        clear ob
        go_wp2_with fail
        refine (root_yes _ _ _ e0 _ _ h2 (by omega) he1 he2).mono ?_
        rintro e w4 ⟨qc, dc, rfl, oc, f4⟩
        replace h1 := h1.kept f4
        replace h2 := h2.kept f4
        replace bx := bx.kept f4
        replace sa := sa.kept f4
        replace sb := sb.kept f4
        replace hw := hw.trans f4 (by simp)
        clear f4
        have sc := oc.sl
        clear oc
        go_wp2_with fail
        refine (rroot_yes _ _ _ e0 _ _ h2 (by omega) he1 he2).mono ?_
        rintro e w5 ⟨qd, dd, rfl, sd, f5⟩
        replace h1 := h1.kept f5
        replace h2 := h2.kept f5
        replace bx := bx.kept f5
        replace sa := sa.kept f5
        replace sb := sb.kept f5
        replace sc := sc.kept f5
        replace hw := hw.trans f5 (by simp)
        clear f5
        go_wp2_with fail
        refine (same_any _ _ _ _ _ _ _ sa sb).mono ?_
        rintro e w6 ⟨rfl, f6⟩
        replace h1 := h1.kept f6
        replace h2 := h2.kept f6
        replace bx := bx.kept f6
        replace sa := sa.kept f6
        replace sb := sb.kept f6
        replace sc := sc.kept f6
        replace sd := sd.kept f6
        replace hw := hw.trans f6 (by simp)
        clear f6
        clear sa sb
        go_wp2_with fail
        refine (same_any _ _ _ _ _ _ _ sc sd).mono ?_
        rintro e w7 ⟨rfl, f7⟩
        replace h1 := h1.kept f7
        replace h2 := h2.kept f7
        replace bx := bx.kept f7
        replace sc := sc.kept f7
        replace sd := sd.kept f7
        replace hw := hw.trans f7 (by simp)
        clear f7
        clear sc sd
        go_wp2_with fail
        go_roundw
        case rel => exact ⟨i + 1, by omega, by go_num, bx, hw⟩
        case measure => simp [intOf]; omega
    · obtain rfl : i = 2 := by omega
      clear bx
      obtain ⟨wo, hwo⟩ : ∃ wo, wo = wr := ⟨_, rfl⟩
      subst hwo
      go_wp2_with fail
      refine (mod_any K 400 _ (by omega) (by omega) g3 g4).mono ?_
      rintro e w' ⟨rfl, rfl⟩
      obtain ⟨S, hS⟩ : ∃ S, S = K % 400 := ⟨_, rfl⟩
      have hS0 : 0 ≤ S := by omega
      have hS1 : S < 400 := by omega
      rw [← hS]
      clear hS
      go_wp2_with fail
      have b0 : Bx (wo.alloc (Obj.cells #[.int .i64 N, .int .i64 (S - 200), .int .i64 K] 3)) wo.heap.size 3 #[.int .i64 N, .int .i64 (S - 200), .int .i64 K] := Bx.made _ _ _
      have hw0 : Fr [] wo (wo.alloc (Obj.cells #[.int .i64 N, .int .i64 (S - 200), .int .i64 K] 3)) := Fr.new _
      generalize wo.alloc (Obj.cells #[.int .i64 N, .int .i64 (S - 200), .int .i64 K] 3) = W2 at *
      go_loopw [92] (fun s wr => ∃ i : Nat, i ≤ 3 ∧ s = .int .i64 i ∧ Bx wr wo.heap.size 3 #[.int .i64 N, .int .i64 (S - 200), .int .i64 K] ∧ Fr [] wo wr) (fun s _ => 3 - (intOf s).toNat)
      case atStart => exact ⟨0, by omega, rfl, b0, hw0⟩
      case round =>
        obtain ⟨i, hi, rfl, bx, hf⟩ := hrel
        clear b0 hw0
        replace h1 := h1.kept hf
        replace h2 := h2.kept hf
        replace hw := hw.trans hf (by simp)
        by_cases hlt : i < 3
        · have hV : ∃ V : Int, wr.cell? ⟨wo.heap.size, i, none⟩ = some (.int .i64 V) ∧ -9223372036854775808 ≤ V ∧ V ≤ 9223372036854775807 := by
            match i, hlt with
            | 0, _ => exact ⟨N, bx.cell rfl, g1, g2⟩
            | 1, _ => exact ⟨S - 200, bx.cell rfl, by omega, by omega⟩
            | 2, _ => exact ⟨K, bx.cell rfl, g3, g4⟩
          obtain ⟨V, hc, v1, v2⟩ := hV
          go_wp2_with fail
          refine (shift_any _ _ _ V _ _ h2 (by omega) v1 v2).mono ?_
          rintro e w2 ⟨pa, ca, rfl, oa, f2⟩
          replace h2 := h2.kept f2
          replace bx := bx.kept f2
          replace hf := hf.trans f2 (by simp)
          have sa := oa.sl
          clear oa f2
          go_wp2_with fail
          refine (rshift_any _ _ _ V _ _ h2 (by omega) v1 v2).mono ?_
          rintro e w3 ⟨pb, cb, rfl, ob, f3⟩
          replace h2 := h2.kept f3
          replace bx := bx.kept f3
          replace sa := sa.kept f3
          replace hf := hf.trans f3 (by simp)
          have sb := ob.sl
          clear ob f3
          clear hw
          go_wp2_with fail
          refine (same_any _ _ _ _ _ _ _ sa sb).mono ?_
          rintro e w9 ⟨rfl, f9⟩
          replace bx := bx.kept f9
          replace hf := hf.trans f9 (by simp)
          clear f9 sa sb
          go_wp2_with fail
          go_roundw
          case rel => exact ⟨i + 1, by omega, by go_num, bx, hf⟩
          case measure => simp [intOf]; omega
        · obtain rfl : i = 3 := by omega
          clear bx hf
          have hbb : ((bl (val ys) : Int) == (bl (val ys) : Int)) = true := by simp
          go_wp2_with fail
          refine (awake_any _).mono ?_
          rintro e w2 ⟨rfl, f2⟩
          replace h1 := h1.kept f2
          replace h2 := h2.kept f2
          replace hw := hw.trans f2 (by simp)
          clear f2
          go_wp2_with fail
          refine (bitLen_any _ _ _ _ _ h2 (by omega)).mono ?_
          rintro e w' ⟨rfl, rfl⟩
          go_wp2_with fail
          refine (rbitlen_any _ _ _ _ _ h2 (by omega)).mono ?_
          rintro e w3 ⟨rfl, f3⟩
          replace h1 := h1.kept f3
          replace h2 := h2.kept f3
          replace hw := hw.trans f3 (by simp)
          clear f3
          go_wp2_with fail
          refine (gcd_any _ _ _ _ _ _ _ _ _ h1 h2 (by omega) (by omega)).mono ?_
          rintro e w4 ⟨p1, c2, rfl, o4, f4⟩
          replace h1 := h1.kept f4
          replace h2 := h2.kept f4
          have sa := o4.sl
          replace hw := hw.trans f4 (by simp)
          clear o4 f4
          go_wp2_with fail
          refine (rgcd_any _ _ _ _ _ _ _ _ _ h1 h2 (by omega) (by omega)).mono ?_
          rintro e w5 ⟨p3, c4, rfl, o5, f5⟩
          replace h1 := h1.kept f5
          replace h2 := h2.kept f5
          replace sa := sa.kept f5
          have sb := o5.sl
          replace hw := hw.trans f5 (by simp)
          clear o5 f5
          go_wp2_with fail
          refine (same_any _ _ _ _ _ _ _ sa sb).mono ?_
          rintro e w6 ⟨rfl, f6⟩
          replace h1 := h1.kept f6
          replace h2 := h2.kept f6
          replace sa := sa.kept f6
          replace sb := sb.kept f6
          replace hw := hw.trans f6 (by simp)
          clear f6
          go_wp2_with fail
          go_ret
          exact ⟨rfl, hw⟩

set_option maxRecDepth 100000 in
set_option maxHeartbeats 8000000 in
theorem powers_any (p q : Option Addr) (n c m d : Nat) (N K : Int) (xs ys : List Nat) (w : World) (h1 : Sl w p n c xs) (h2 : Sl w q m d ys) (g1 : -9223372036854775808 ≤ N) (g2 : N ≤ 9223372036854775807) (g3 : -9223372036854775808 ≤ K) (g4 : K ≤ 9223372036854775807) :
    Calls Try.prog 3 #[.slice p n c, .slice q m d, .int .i64 N, .int .i64 K] w fun e w' => e = .returned (.bool true) ∧ Fr [] w w' := by
  by_cases b1 : n ≤ 4
  case' neg =>
    have hd1 : decide ((4 : Int) < (n : Int)) = true := decide_eq_true (by omega)
    go_enter Try.func3, Try.ntmps3
    go_wp2_with fail
    refine (awake_any _).mono ?_
    rintro e w1 ⟨rfl, hw⟩
    go_wp2_with fail
    go_ret
    exact ⟨rfl, hw⟩
  by_cases b2 : m ≤ 10
  case' neg =>
    have hd1 : decide ((4 : Int) < (n : Int)) = false := decide_eq_false (by omega)
    go_enter Try.func3, Try.ntmps3
    go_wp2_with fail
    refine (digits_no _ _ _ _ (by omega)).mono ?_
    rintro e w' ⟨rfl, rfl⟩
    go_wp2_with fail
    refine (awake_any _).mono ?_
    rintro e w1 ⟨rfl, hw⟩
    go_wp2_with fail
    go_ret
    exact ⟨rfl, hw⟩
  exact powers_small p q n c m d N K xs ys w h1 h2 g1 g2 g3 g4 b1 b2

theorem int_of_wf' {n : Int} (h : (Lit.int .i64 n).wf = true) : -9223372036854775808 ≤ n ∧ n ≤ 9223372036854775807 := by
  simp [Lit.wf, IntKind.min, IntKind.max, IntKind.signed, IntKind.bits] at h
  omega

set_option maxRecDepth 100000 in
theorem natPowers_lifted (os : Os) (started : os.Started) (H : Type) (enc : TypeId × Value → H) :
    ReturnsInHanded {} Try.checked os 3 .any (Rows.natPowersSpec.pre6 enc Try.prog Try.f3 Rows.natPowersRow.domain false) (Rows.natPowersSpec.post enc Try.prog Try.f3 false true false false) := by
  refine returnsInHanded_of_change (C := Try.checked) Try.own started (by kernel_rfl) Try.func3
    (ChangeSpec.witness6 (enc := enc) (C := Try.checked) false ⟨#[], #[.slice none 0 0, .slice none 0 0, .int .i64 0, .int .i64 0], []⟩ 8 (by kernel_rfl) (by kernel_rfl) (by kernel_rfl) (by kernel_rfl)) ?_
  intro W base args ds gs before hval0 hW hcnd _
  have hval : ∀ (j : Nat) t v, Try.f3.params[j]? = some t → args[j]? = some v → Value.okWide Try.prog W .any base t v := hval0
  have hW' := hW
  obtain ⟨p, q, hA0, hV, rfl, hfz, hnd⟩ := hW
  have hA : DataW.TrodAll enc Try.prog W 0 (fun _ => true) true Try.f3.params.toList args.toList ds p := hA0
  rw [Try.params3] at hA hval
  obtain ⟨v0, v1, v2, v3, d0, d1, d2, d3, p0, p1, p2, p3, rfl, rfl, rfl, h0, h1, h2, h3⟩ := trodAll_four hA
  obtain ⟨rfl, rfl⟩ := trodVars_none hV
  obtain ⟨a0, l0, c0, rfl⟩ := okWide_slice Try.underlying22 (hval 0 22 v0 rfl rfl)
  obtain ⟨x0, k0⟩ := view_digits h0
  obtain ⟨a1, l1, c1, rfl⟩ := okWide_slice Try.underlying22 (hval 1 22 v1 rfl rfl)
  obtain ⟨x1, k1⟩ := view_digits h1
  obtain ⟨z2, rfl, rfl, rfl, u2⟩ := open_int Try.underlying3 (hval 2 3 v2 rfl rfl) h2
  obtain ⟨z3, rfl, rfl, rfl, u3⟩ := open_int Try.underlying3 (hval 3 3 v3 rfl rfl) h3
  clear hA0 hval0
  simp only [List.append_nil] at hW'
  have hlt : ∀ x ∈ p0 ++ p1, x.block < W.heap.size := fun x hx => hW'.lt x (by simpa using hx)
  refine (powers_any a0 a1 l0 c0 l1 c1 z2 z3 x0 x1 W k0 k1 (int_of_wf' u2).1 (int_of_wf' u2).2 (int_of_wf' u3).1 (int_of_wf' u3).2).mono fun e W' ⟨he, hf⟩ => ?_
  subst he
  have hb := hf.below
  exact ⟨_, rfl, _, _, _, _, _, [], hW', trodAll_mk1 (shut_bool Try.underlying4 _),
    trodAll_mk4 (stays h0 hb (fun x hx => hlt x (by simp [hx]))) (stays h1 hb (fun x hx => hlt x (by simp [hx]))) (shut_int Try.underlying3 u2) (shut_int Try.underlying3 u3), rfl, hb.frame _, fun h => by cases h⟩

theorem natPowers_holds : Rows.NatPowersSaid :=
  OpenClaim.holds_of_wide 3 Try.f3 rfl rfl rfl rfl rfl rfl rfl ⟨rfl, rfl, rfl, rfl, rfl⟩ rfl rfl rfl rfl rfl (by kernel_rfl) Try.func3 (by kernel_rfl)
    (of_decide_eq_true (by kernel_rfl)) (by unfold Func.isWrapper; first | (rw [if_pos (by decide +kernel)]; kernel_rfl) | (rw [if_neg (by decide +kernel)]; exact ⟨rfl, rfl⟩))
    (fun os started H enc _ => natPowers_lifted os started H enc)

#print axioms natPowers_holds

end Go.Proofs.Ytfjhdhmneknmkaa
