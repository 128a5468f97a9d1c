/- NatFresh: for every two lists, Add, Trim and Mul change neither their arguments nor earlier results, even where results are written to afterwards. No condition. -/
import Derived.Test.YtebmjjofeddkoaaAwake
import Derived.Test.YtebmjjofeddkoaaOpen
namespace Go.Proofs.Ytebmjjofeddkoaa
open Go.RowKit Go.ChangeShapes Go.WideShapes Go.ChangeAt

/-- 'append([]uint32(nil), s...)': a copy. -/
theorem wpList_app_nil {w : World} {ops : Array Oper} {rest : List Oper} {o : Oper} {a : Act} {Q : Exit → Act → World → Prop} (hgd : o.guard = none) (s x : Operand)
    (ho : o.op = .call { callee := .builtin .append, args := #[s, x], argTypes := #[22, 22] }) (hs : a.eval s = .slice none 0 0)
    (p : Option Addr) (n c : Nat) (xs : List Nat) (hx : a.eval x = .slice p n c) (h : Sl w p n c xs) (hb : n ≤ 1099511627776)
    (hK : ∀ p' c' w', Ow w' w.heap.size p' n c' xs → Fr [] w w' → wpList Try.prog ops Q rest (a.put o.dst (.slice p' n c')) w') : wpList Try.prog ops Q (o :: rest) a w := by
  obtain ⟨i0, hi, hz0, hz1, hz2⟩ := info_parts Try.infoU
  rcases h.src with ⟨rfl, rfl, rfl, rfl⟩ | ⟨ad, rfl⟩
  · exact wpList_append_own_none hgd s x 22 ho w.heap.size 43 i0 1 Try.underlying22 hi _ _ _ hs (row_nil w _) hx (hK none 0 w (Ow.zero _ _) (Fr.refl _ _))
  · refine wpList_append_own _ hgd s x 22 ho w.heap.size 43 i0 (.int .u32 0) 1 4 Try.underlying22 hi hz0 hz1 hz2 rfl (by decide) _ _ _ hs (row_nil w _) ad n c (xs.map dv) hx (by simp [h.len]) h.rd.news (dv_oneCell _) (by unfold maxLen; omega) (by omega) (Nat.le_refl _) ?_
    intro v' w' hown hgrow _
    obtain ⟨p', c', rfl, ho'⟩ := ow_of_row (ds := xs) (by simpa using hown) h.dig
    rw [h.len] at ho' ⊢
    exact hK p' c' w' ho' ((Fr.refl _ _).grown hgrow (by intro k hk; simp [Value.ownBlock] at hk))

/-- One digit of a slice of the call's own is written. -/
theorem Ow.set {w : World} {base : Nat} {p : Option Addr} {n c k v : Nat} {xs : List Nat} (h : Ow w base p n c xs) (hk : k < n) (hv : v < 4294967296) :
    ∃ g, p = some ⟨g, 0, none⟩ ∧ base ≤ g ∧ w.cell? ⟨g, k, none⟩ = some (dv (gd xs k)) ∧ w.frozen? ⟨g, k, none⟩ = false ∧ Ow (w.setCell ⟨g, k, none⟩ (dv v)) base p n c (xs.set k v) := by
  have hs := h.sl
  have hl := hs.len
  obtain ⟨g, L, rfl, h1, hb, hL, ht⟩ := h.own.resolve_left (by intro e; subst e; simp at hl; omega)
  have hc := ht.2 k (by omega)
  rw [Nat.zero_add] at hc
  have hb' := hb.set k (dv v)
  have ht' : Sg (L.set k (dv v)) 0 (xs.set k v) := by
    refine ⟨by have := ht.1; simpa using this, fun j hj => ?_⟩
    rw [List.length_set] at hj
    rw [Nat.zero_add, List.getElem?_set]
    by_cases e : k = j
    · subst e
      rw [if_pos rfl, if_pos (by have := ht.1; omega), gd_set_eq hj]
    · rw [if_neg e, gd_set_ne e]
      have := ht.2 j hj
      rwa [Nat.zero_add] at this
  exact ⟨g, rfl, h1, hb.cell hc, hb.free k, ⟨⟨by rw [List.length_set]; exact hl, hs.le, hs.cap, hs.nil, ht'.rd hb', hs.dig.set hv k⟩, Or.inr ⟨g, _, rfl, h1, hb', by rw [List.length_set]; exact hL, ht'⟩⟩⟩

set_option maxHeartbeats 4000000 in
theorem fresh_small (p q : Option Addr) (n c m d : Nat) (xs ys : List Nat) (w : World) (h1 : Sl w p n c xs) (h2 : Sl w q m d ys) (b1 : n ≤ 10) (b2 : m ≤ 10) :
    Calls Try.prog 10 #[.slice p n c, .slice q m d] w fun e w' => e = .returned (.bool true) ∧ Fr [] w w' := by
  have l1 := dg_len_val h1.dig
  have l2 := dg_len_val h2.dig
  rw [h1.len] at l1
  rw [h2.len] at l2
  have k0 := dg_add_len (val xs) (val ys)
  have k1 : (dg (val xs + val ys)).length ≤ 21 := by omega
  have k2 : (dg ((val xs + val ys) * val ys)).length ≤ 31 := by
    have := dg_mul_len (val xs + val ys) (val ys)
    omega
  clear k0
  go_enter Try.func10, Try.ntmps10
  go_wp2_with fail
  refine (digits_yes _ _ _ _ b1).mono ?_
  rintro e w' ⟨rfl, rfl⟩
  go_wp2_with fail
  refine (digits_yes _ _ _ _ b2).mono ?_
  rintro e w' ⟨rfl, rfl⟩
  go_wp2_with (at_builtin; refine wpList_app_nil rfl _ _ rfl rfl p n c xs rfl (by exact h1) (by omega) ?_)
  intro p1 c1 w1 o1 f1
  have s1 := o1.sl
  replace h1 := h1.kept f1
  replace h2 := h2.kept f1
  clear o1
  go_wp2_with (at_builtin; refine wpList_app_nil rfl _ _ rfl rfl q m d ys rfl (by exact h2) (by omega) ?_)
  intro p2 c2 w2 o2 f2
  have s2 := o2.sl
  replace h1 := h1.kept f2
  replace h2 := h2.kept f2
  replace s1 := s1.kept f2
  have hw := f1.trans f2 (by simp)
  clear o2 f1 f2
  go_wp2_with fail
  refine (add_any _ _ _ _ _ _ _ _ _ h1 h2 (by omega) (by omega)).mono ?_
  rintro e w3 ⟨p3, c3, rfl, o3, f3⟩
  have s3 := o3.sl
  replace h1 := h1.kept f3
  replace h2 := h2.kept f3
  replace s1 := s1.kept f3
  replace s2 := s2.kept f3
  replace hw := hw.trans f3 (by simp)
  clear o3 f3
  go_wp2_with (at_builtin; refine wpList_app_nil rfl _ _ rfl rfl p3 _ c3 _ rfl (by exact s3) (by omega) ?_)
  intro p4 c4 w4 o4 f4
  have s4 := o4.sl
  replace h1 := h1.kept f4
  replace h2 := h2.kept f4
  replace s1 := s1.kept f4
  replace s2 := s2.kept f4
  replace s3 := s3.kept f4
  replace hw := hw.trans f4 (by simp)
  clear o4 f4
  go_wp2_with fail
  refine (trim_any _ _ _ _ _ h1 (by omega)).mono ?_
  rintro e w5 ⟨p5, c5, rfl, o5, f5⟩
  obtain ⟨N, hN⟩ : ∃ N, N = (dg (val xs)).length := ⟨_, rfl⟩
  rw [← hN] at o5 l1
  rw [← hN]
  obtain ⟨ts, hts⟩ : ∃ ts, ts = dg (val xs) := ⟨_, rfl⟩
  rw [← hts] at o5
  clear hN hts
  go_wp2
  go_loopw [35] (fun s wr => ∃ (k : Nat) (us : List Nat), k ≤ N ∧ s = .int .i64 k ∧ Ow wr w4.heap.size p5 N c5 us ∧ Fr [] w4 wr) (fun s _ => N - (intOf s).toNat)
  case atStart => exact ⟨0, ts, Nat.zero_le _, rfl, o5, f5⟩
  case round =>
    obtain ⟨k, us, hk, rfl, ho, hf⟩ := hrel
    clear o5 f5
    by_cases hlt : k < N
    · have hd := ho.sl.dig.at k
      obtain ⟨v, hv⟩ : ∃ v, v = (gd us k + 1) % 4294967296 := ⟨_, rfl⟩
      have hvl : v < 4294967296 := by omega
      obtain ⟨g, rfl, hg, hc, hfr, ho'⟩ := ho.set hlt hvl
      have hwr : IntKind.u32.wrap ((gd us k : Nat) + 1) = (v : Int) := by rw [IntKind.wrap_u32]; omega
      have HO := Lib.hid ho'
      have hfx : Fr [] w4 (wr.setCell ⟨g, k, none⟩ (dv v)) := hf.setCell _ _ (by simp; omega)
      generalize gd us k = u at *
      clear hv ho ho'
      go_wp2
      go_roundw
      case rel => exact ⟨k + 1, us.set k v, by omega, by go_num, HO.out, hfx⟩
      case measure => simp [intOf]; omega
    · replace h1 := h1.kept hf
      replace h2 := h2.kept hf
      replace s1 := s1.kept hf
      replace s2 := s2.kept hf
      replace s3 := s3.kept hf
      replace s4 := s4.kept hf
      replace hw := hw.trans hf (by simp)
      clear ho hf
      go_wp2_with fail
      refine (mul_any _ _ _ _ _ _ _ _ _ s3 h2 (by omega) (by omega)).mono ?_
      simp only [val_dg]
      rintro e w6 ⟨p6, c6, rfl, o6, f6⟩
      obtain ⟨M, hM⟩ : ∃ M, M = (dg ((val xs + val ys) * val ys)).length := ⟨_, rfl⟩
      rw [← hM] at o6 k2
      rw [← hM]
      obtain ⟨ps, hps⟩ : ∃ ps, ps = dg ((val xs + val ys) * val ys) := ⟨_, rfl⟩
      rw [← hps] at o6
      clear hM hps
      obtain ⟨wo, hwo⟩ : ∃ wo : World, wo = wr := ⟨_, rfl⟩
      subst hwo
      go_wp2
      go_loopw [50] (fun s wr => ∃ (k : Nat) (us : List Nat), k ≤ M ∧ s = .int .i64 k ∧ Ow wr wo.heap.size p6 M c6 us ∧ Fr [] wo wr) (fun s _ => M - (intOf s).toNat)
      case atStart => exact ⟨0, ps, Nat.zero_le _, rfl, o6, f6⟩
      case round =>
        obtain ⟨k', us', hk', rfl, ho, hf⟩ := hrel
        clear o6 f6
        by_cases hlt' : k' < M
        · have hd := ho.sl.dig.at k'
          obtain ⟨v, hv⟩ : ∃ v, v = (gd us' k' + 1) % 4294967296 := ⟨_, rfl⟩
          have hvl : v < 4294967296 := by omega
          obtain ⟨g, rfl, hg, hc, hfr, ho'⟩ := ho.set hlt' hvl
          have hwr : IntKind.u32.wrap ((gd us' k' : Nat) + 1) = (v : Int) := by rw [IntKind.wrap_u32]; omega
          have HO := Lib.hid ho'
          have hfx : Fr [] wo (wr.setCell ⟨g, k', none⟩ (dv v)) := hf.setCell _ _ (by simp; omega)
          generalize gd us' k' = u at *
          clear hv ho ho'
          go_wp2
          go_roundw
          case rel => exact ⟨k' + 1, us'.set k' v, by omega, by go_num, HO.out, hfx⟩
          case measure => simp [intOf]; omega
        · replace h1 := h1.kept hf
          replace h2 := h2.kept hf
          replace s1 := s1.kept hf
          replace s2 := s2.kept hf
          replace s3 := s3.kept hf
          replace s4 := s4.kept hf
          replace hw := hw.trans hf (by simp)
          clear ho hf
          go_wp2_with fail
          refine (awake_any _).mono ?_
          rintro e w7 ⟨rfl, f7⟩
          replace h1 := h1.kept f7
          replace h2 := h2.kept f7
          replace s1 := s1.kept f7
          replace s2 := s2.kept f7
          replace s3 := s3.kept f7
          replace s4 := s4.kept f7
          replace hw := hw.trans f7 (by simp)
          clear f7
          go_wp2_with fail
          refine (same_any _ _ _ _ _ _ _ h1 s1).mono ?_
          rintro e w8 ⟨rfl, f8⟩
          replace h2 := h2.kept f8
          replace s2 := s2.kept f8
          replace s3 := s3.kept f8
          replace s4 := s4.kept f8
          replace hw := hw.trans f8 (by simp)
          clear f8
          go_wp2_with fail
          refine (same_any _ _ _ _ _ _ _ h2 s2).mono ?_
          rintro e w9 ⟨rfl, f9⟩
          replace s3 := s3.kept f9
          replace s4 := s4.kept f9
          replace hw := hw.trans f9 (by simp)
          clear f9
          go_wp2_with fail
          refine (same_any _ _ _ _ _ _ _ s3 s4).mono ?_
          rintro e w10 ⟨rfl, f10⟩
          replace hw := hw.trans f10 (by simp)
          clear f10
          go_wp2_with fail
          go_ret
          exact ⟨rfl, hw⟩

-- THE REST, BY gen_fresh.py
theorem fresh_any (p q : Option Addr) (n c m d : Nat) (xs ys : List Nat) (w : World) (h1 : Sl w p n c xs) (h2 : Sl w q m d ys) :
    Calls Try.prog 10 #[.slice p n c, .slice q m d] w fun e w' => e = .returned (.bool true) ∧ Fr [] w w' := by
  by_cases b1 : n ≤ 10
  case' neg =>
    go_enter Try.func10, Try.ntmps10
    go_wp2_with fail
    refine (digits_no _ _ _ _ (by omega)).mono ?_
    rintro e w' ⟨rfl, rfl⟩
    go_wp2_with fail
    refine (awake_any _).mono ?_
    rintro e w1 ⟨rfl, hw⟩
    go_wp2_with fail
    go_ret
    exact ⟨rfl, hw⟩
  by_cases b2 : m ≤ 10
  case' neg =>
    go_enter Try.func10, Try.ntmps10
    go_wp2_with fail
    refine (digits_yes _ _ _ _ b1).mono ?_
    rintro e w' ⟨rfl, rfl⟩
    go_wp2_with fail
    refine (digits_no _ _ _ _ (by omega)).mono ?_
    rintro e w' ⟨rfl, rfl⟩
    go_wp2_with fail
    refine (awake_any _).mono ?_
    rintro e w1 ⟨rfl, hw⟩
    go_wp2_with fail
    go_ret
    exact ⟨rfl, hw⟩
  exact fresh_small p q n c m d xs ys w h1 h2 b1 b2

set_option maxRecDepth 100000 in
theorem natFresh_lifted (os : Os) (started : os.Started) (H : Type) (enc : TypeId × Value → H) :
    ReturnsInHanded {} Try.checked os 10 .any (Rows.natFreshSpec.pre6 enc Try.prog Try.f10 Rows.natFreshRow.domain false) (Rows.natFreshSpec.post enc Try.prog Try.f10 false true false false) := by
  refine returnsInHanded_of_change (C := Try.checked) Try.own started (by kernel_rfl) Try.func10
    (ChangeSpec.witness6 (enc := enc) (C := Try.checked) false ⟨#[], #[.slice none 0 0, .slice none 0 0], []⟩ 8 (by kernel_rfl) (by kernel_rfl) (by kernel_rfl) (by kernel_rfl)) ?_
  intro W base args ds gs before hval0 hW hcnd _
  have hval : ∀ (j : Nat) t v, Try.f10.params[j]? = some t → args[j]? = some v → Value.okWide Try.prog W .any base t v := hval0
  have hW' := hW
  obtain ⟨p, q, hA0, hV, rfl, hfz, hnd⟩ := hW
  have hA : DataW.TrodAll enc Try.prog W 0 (fun _ => true) true Try.f10.params.toList args.toList ds p := hA0
  rw [Try.params10] at hA hval
  obtain ⟨v0, v1, d0, d1, p0, p1, rfl, rfl, rfl, h0, h1⟩ := trodAll_two hA
  obtain ⟨rfl, rfl⟩ := trodVars_none hV
  obtain ⟨a0, l0, c0, rfl⟩ := okWide_slice Try.underlying22 (hval 0 22 v0 rfl rfl)
  obtain ⟨a1, l1, c1, rfl⟩ := okWide_slice Try.underlying22 (hval 1 22 v1 rfl rfl)
  clear hA0 hval0
  simp only [List.append_nil] at hW'
  have hlt : ∀ x ∈ p0 ++ p1, x.block < W.heap.size := fun x hx => by simpa using hW'.lt x hx
  obtain ⟨x0, g0⟩ := view_digits h0
  obtain ⟨x1, g1⟩ := view_digits h1
  refine (fresh_any a0 a1 l0 c0 l1 c1 x0 x1 W g0 g1).mono fun e W' ⟨he, hf⟩ => ?_
  subst he
  have hb := hf.below
  exact ⟨_, rfl, _, _, _, _, _, [], hW', trodAll_mk1 (shut_bool Try.underlying4 _),
    trodAll_mk2 (stays h0 hb (fun x hx => hlt x (by simp [hx]))) (stays h1 hb (fun x hx => hlt x (by simp [hx]))), rfl, hb.frame _, fun h => by cases h⟩

theorem natFresh_holds : Rows.NatFreshSaid :=
  OpenClaim.holds_of_wide 10 Try.f10 rfl rfl rfl rfl rfl rfl rfl ⟨rfl, rfl, rfl, rfl, rfl⟩ rfl rfl rfl rfl rfl (by kernel_rfl) Try.func10 (by kernel_rfl)
    (of_decide_eq_true (by kernel_rfl)) (by unfold Func.isWrapper; first | (rw [if_pos (by decide +kernel)]; kernel_rfl) | (rw [if_neg (by decide +kernel)]; exact ⟨rfl, rfl⟩))
    (fun os started H enc _ => natFresh_lifted os started H enc)

#print axioms natFresh_holds

end Go.Proofs.Ytebmjjofeddkoaa
