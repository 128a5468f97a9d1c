/- NatTexts: for every list and every text, Format and Parse return what the document's own functions return, and undo each other. No condition. -/
import Derived.Test.YtebmjjofeddkoaaTxt3
import Derived.Test.YtebmjjofeddkoaaOpen
import Derived.ChangeMaps5
namespace Go.Proofs.Ytebmjjofeddkoaa
open Go.RowKit Go.ChangeShapes Go.WideShapes Go.ChangeAt Go.ChangeMaps

open Classical in
/-- What Parse returns. -/
noncomputable def prx (s : ByteArray) : List Nat := if Good s then dg (pv (by' s) s.size) else []
open Classical in
noncomputable def pre (s : ByteArray) : Int := if Good s then 0 else 6

theorem parse_sl (s : ByteArray) (w : World) (h : s.size ≤ 4096) :
    Calls Try.prog 39 #[.string s] w fun e w' => ∃ p c, e = .returned (.tuple #[.slice p (prx s).length c, .int .i64 (pre s)]) ∧ Sl w' p (prx s).length c (prx s) ∧ Fr [] w w' := by
  refine (parse_any s w h).mono ?_
  rintro e w' ⟨hf, ⟨hg, p, c, rfl, ho⟩ | ⟨hb, rfl⟩⟩
  · have e1 : prx s = dg (pv (by' s) s.size) := if_pos hg
    have e2 : pre s = 0 := if_pos hg
    rw [e1, e2]
    exact ⟨p, c, rfl, ho.sl, hf⟩
  · have e1 : prx s = [] := if_neg hb
    have e2 : pre s = 6 := if_neg hb
    rw [e1, e2]
    exact ⟨none, 0, rfl, Sl.zero _, hf⟩
theorem rparse_sl (s : ByteArray) (w : World) (h : s.size ≤ 4096) :
    Calls Try.prog 40 #[.string s] w fun e w' => ∃ p c, e = .returned (.tuple #[.slice p (prx s).length c, .int .i64 (pre s)]) ∧ Sl w' p (prx s).length c (prx s) ∧ Fr [] w w' := by
  refine (rparse_any s w h).mono ?_
  rintro e w' ⟨hf, ⟨hg, p, c, rfl, ho⟩ | ⟨hb, rfl⟩⟩
  · have e1 : prx s = dg (pv (by' s) s.size) := if_pos hg
    have e2 : pre s = 0 := if_pos hg
    rw [e1, e2]
    exact ⟨p, c, rfl, ho, hf⟩
  · have e1 : prx s = [] := if_neg hb
    have e2 : pre s = 6 := if_neg hb
    rw [e1, e2]
    exact ⟨none, 0, rfl, Sl.zero _, hf⟩

theorem by'_txt {S : List Nat} (hd : Dd S) {k : Nat} (hk : k < S.length) : by' (txt S) k = 48 + gd S k := by
  unfold by' txt
  rw [List.getD_eq_getElem?_getD]
  simp only [List.toList_toArray, List.getElem?_map, List.getElem?_eq_getElem hk, Option.map_some, Option.getD_some]
  have h6 : S[k] < 10 := hd _ (List.getElem_mem _)
  rw [gd_lt hk]
  exact UInt8.toNat_ofNat_of_lt' (by show _ < 256; omega)
theorem pv_txt {S : List Nat} (hd : Dd S) (k : Nat) (hk : k ≤ S.length) : pv (by' (txt S)) k = dvB (S.take k) := by
  induction k with
  | zero => rfl
  | succ k ih =>
    rw [pv, ih (by omega), by'_txt hd (by omega)]
    rw [List.take_succ_eq_append_getElem (by omega), dvB_snoc, gd_lt (by omega)]
    omega
theorem dB_head (n : Nat) : n ≠ 0 → gd (dB n) 0 ≠ 0 ∧ dB n ≠ [] := by
  induction n using Nat.strongRecOn with
  | ind n ih =>
    intro h
    rw [dB_pos h]
    by_cases h0 : n / 10 = 0
    · rw [h0, dB_zero]
      exact ⟨by show n % 10 ≠ 0; omega, by simp⟩
    · have h1 := ih (n / 10) (by omega) h0
      have h2 : 0 < (dB (n / 10)).length := List.length_pos_iff.2 h1.2
      exact ⟨by rw [gd_append_left h2]; exact h1.1, by simp⟩
theorem fmt_dd (n : Nat) : Dd (fmt n) := by
  unfold fmt
  split
  · exact Dd.cons (by decide) Dd.nil
  · exact dB_dd n
theorem fmt_val (n : Nat) : dvB (fmt n) = n := by
  unfold fmt
  split
  · next h => rw [h]; rfl
  · exact dvB_dB n
theorem fmt_good (n : Nat) : Good (txt (fmt n)) := by
  have hd := fmt_dd n
  have hl : 0 < (fmt n).length := by
    unfold fmt
    split
    · decide
    · next h => exact List.length_pos_iff.2 (dB_head n h).2
  refine ⟨by rw [txt_size]; omega, fun h0 => ?_, fun j hj => ?_⟩
  · rw [by'_txt hd hl] at h0
    have h1 : gd (fmt n) 0 = 0 := by omega
    rw [txt_size]
    by_cases hn : n = 0
    · unfold fmt
      rw [if_pos hn]
      rfl
    · unfold fmt at h1
      rw [if_neg hn] at h1
      exact absurd h1 (dB_head n hn).1
  · rw [txt_size] at hj
    rw [by'_txt hd hj, gd_lt hj]
    have h6 : (fmt n)[j] < 10 := hd _ (List.getElem_mem _)
    omega
theorem prx_fmt (n : Nat) : prx (txt (fmt n)) = dg n := by
  have e : prx (txt (fmt n)) = dg (pv (by' (txt (fmt n))) (txt (fmt n)).size) := if_pos (fmt_good n)
  rw [e, txt_size, pv_txt (fmt_dd n) _ (Nat.le_refl _), List.take_length, fmt_val]
theorem pre_fmt (n : Nat) : pre (txt (fmt n)) = 0 := if_pos (fmt_good n)
theorem fmt_len {n L : Nat} (h : n < pB L) (hL : L ≤ 10) : (txt (fmt n)).size ≤ 4096 := by
  rw [txt_size]
  unfold fmt
  split
  · decide
  · next h0 =>
    have h1 := dB_len_pow n h0
    have h2 := dec_len h1 h
    omega

set_option maxHeartbeats 4000000 in
theorem texts_small (p : Option Addr) (n c : Nat) (xs : List Nat) (s : ByteArray) (w : World) (h1 : Sl w p n c xs) (hn : n ≤ 10) (hs : s.size ≤ 200) :
    Calls Try.prog 5 #[.slice p n c, .string s] w fun e w' => e = .returned (.bool true) ∧ Fr [] w w' := by
  have hd2 : decide ((200 : Int) < (s.size : Int)) = false := by simp; omega
  have hsz := val_lt h1.dig
  rw [h1.len] at hsz
  have HSZ := Lib.hid (fmt_len hsz hn)
  clear hsz
  go_enter Try.func5, Try.ntmps5
  go_wp2_with fail
  refine (digits_yes _ _ _ _ hn).mono ?_
  rintro e w' ⟨rfl, rfl⟩
  go_wp2_with fail
  refine (parse_sl s _ (by omega)).mono ?_
  rintro e w1 ⟨p1, c1, rfl, s1, f1⟩
  replace h1 := h1.kept f1
  have hw := f1
  clear f1
  go_wp2_with fail
  refine (rparse_sl s _ (by omega)).mono ?_
  rintro e w2 ⟨p2, c2, rfl, s2, f2⟩
  replace h1 := h1.kept f2
  replace s1 := s1.kept f2
  replace hw := hw.trans f2 (by simp)
  clear f2
  generalize prx s = X at *
  generalize pre s = E at *
  go_wp2_with fail
  refine (format_any _ _ _ _ _ h1 (by omega)).mono ?_
  rintro e w3 ⟨rfl, f3⟩
  replace h1 := h1.kept f3
  replace s1 := s1.kept f3
  replace s2 := s2.kept f3
  replace hw := hw.trans f3 (by simp)
  clear f3
  go_wp2_with fail
  refine (parse_sl _ _ HSZ.out).mono ?_
  rw [prx_fmt, pre_fmt]
  rintro e w4 ⟨p4, c4, rfl, s4, f4⟩
  replace h1 := h1.kept f4
  replace s1 := s1.kept f4
  replace s2 := s2.kept f4
  replace hw := hw.trans f4 (by simp)
  clear f4
  go_wp2_with fail
  refine (awake_any _).mono ?_
  rintro e w5 ⟨rfl, f5⟩
  replace h1 := h1.kept f5
  replace s1 := s1.kept f5
  replace s2 := s2.kept f5
  replace s4 := s4.kept f5
  replace hw := hw.trans f5 (by simp)
  clear f5
  have hEE : (E == E) = true := by simp
  go_wp2_with fail
  refine (same_any _ _ _ _ _ _ _ s1 s2).mono ?_
  rintro e w6 ⟨rfl, f6⟩
  replace h1 := h1.kept f6
  replace s4 := s4.kept f6
  replace hw := hw.trans f6 (by simp)
  clear f6 s1 s2
  go_wp2_with fail
  refine (format_any _ _ _ _ _ h1 (by omega)).mono ?_
  rintro e w7 ⟨rfl, f7⟩
  replace h1 := h1.kept f7
  replace s4 := s4.kept f7
  replace hw := hw.trans f7 (by simp)
  clear f7
  go_wp2_with fail
  refine (rformat_any _ _ _ _ _ h1 (by omega)).mono ?_
  rintro e w8 ⟨rfl, f8⟩
  replace h1 := h1.kept f8
  replace s4 := s4.kept f8
  replace hw := hw.trans f8 (by simp)
  clear f8
  generalize txt (fmt (val xs)) = T at *
  have hTT : (T.toList == T.toList) = true := by simp
  go_wp2_with fail
  refine (rcut_any _ _ _ _ _ h1 (by omega)).mono ?_
  rintro e w9 ⟨p9, c9, rfl, o9, f9⟩
  have s9 := o9.sl
  replace s4 := s4.kept f9
  replace hw := hw.trans f9 (by simp)
  clear f9 o9
  go_wp2_with fail
  refine (same_any _ _ _ _ _ _ _ s4 s9).mono ?_
  rintro e w10 ⟨rfl, f10⟩
  replace hw := hw.trans f10 (by simp)
  clear f10
  go_wp2_with fail
  go_ret
  exact ⟨rfl, hw⟩

theorem texts_any (p : Option Addr) (n c : Nat) (xs : List Nat) (s : ByteArray) (w : World) (h1 : Sl w p n c xs) :
    Calls Try.prog 5 #[.slice p n c, .string s] w fun e w' => e = .returned (.bool true) ∧ Fr [] w w' := by
  by_cases b1 : n ≤ 10
  case' neg =>
    go_enter Try.func5, Try.ntmps5
    go_wp2_with fail
    refine (digits_no _ _ _ _ (by omega)).mono ?_
    rintro e w' ⟨rfl, rfl⟩
    go_wp2_with fail
    refine (awake_any _).mono ?_
    rintro e w1 ⟨rfl, hw⟩
    go_wp2_with fail
    go_ret
    exact ⟨rfl, hw⟩
  by_cases b2 : s.size ≤ 200
  case' neg =>
    have hd2 : decide ((200 : Int) < (s.size : Int)) = true := by simp; omega
    go_enter Try.func5, Try.ntmps5
    go_wp2_with fail
    refine (digits_yes _ _ _ _ b1).mono ?_
    rintro e w' ⟨rfl, rfl⟩
    go_wp2_with fail
    refine (awake_any _).mono ?_
    rintro e w1 ⟨rfl, hw⟩
    go_wp2_with fail
    go_ret
    exact ⟨rfl, hw⟩
  exact texts_small p n c xs s w h1 b1 b2

set_option maxRecDepth 100000 in
theorem natTexts_lifted (os : Os) (started : os.Started) (H : Type) (enc : TypeId × Value → H) :
    ReturnsInHanded {} Try.checked os 5 .any (Rows.natTextsSpec.pre6 enc Try.prog Try.f5 Rows.natTextsRow.domain false) (Rows.natTextsSpec.post enc Try.prog Try.f5 false true false false) := by
  refine returnsInHanded_of_change (C := Try.checked) Try.own started (by kernel_rfl) Try.func5
    (ChangeSpec.witness6 (enc := enc) (C := Try.checked) false ⟨#[], #[.slice none 0 0, .string ⟨#[]⟩], []⟩ 8 (by kernel_rfl) (by kernel_rfl) (by kernel_rfl) (by kernel_rfl)) ?_
  intro W base args ds gs before hval0 hW hcnd _
  have hval : ∀ (j : Nat) t v, Try.f5.params[j]? = some t → args[j]? = some v → Value.okWide Try.prog W .any base t v := hval0
  have hW' := hW
  obtain ⟨p, q, hA0, hV, rfl, hfz, hnd⟩ := hW
  have hA : DataW.TrodAll enc Try.prog W 0 (fun _ => true) true Try.f5.params.toList args.toList ds p := hA0
  rw [Try.params5] at hA hval
  obtain ⟨v0, v1, d0, d1, p0, p1, rfl, rfl, rfl, h0, h1⟩ := trodAll_two hA
  obtain ⟨rfl, rfl⟩ := trodVars_none hV
  obtain ⟨a0, l0, c0, rfl⟩ := okWide_slice Try.underlying22 (hval 0 22 v0 rfl rfl)
  obtain ⟨z, rfl, rfl, rfl, wz⟩ := open_string Try.underlying9 (hval 1 9 v1 rfl rfl) h1
  clear hA0 hval0
  simp only [List.append_nil] at hW'
  have hlt : ∀ x ∈ p0, x.block < W.heap.size := fun x hx => hW'.lt x (by simpa using hx)
  obtain ⟨x0, g0⟩ := view_digits h0
  refine (texts_any a0 l0 c0 x0 z W g0).mono fun e W' ⟨he, hf⟩ => ?_
  subst he
  have hb := hf.below
  exact ⟨_, rfl, _, _, _, _, _, [], hW', trodAll_mk1 (shut_bool Try.underlying4 _),
    trodAll_mk2 (stays h0 hb (fun x hx => hlt x (by simp [hx]))) (shut_string Try.underlying9 wz), rfl, hb.frame _, fun h => by cases h⟩

theorem natTexts_holds : Rows.NatTextsSaid :=
  OpenClaim.holds_of_wide 5 Try.f5 rfl rfl rfl rfl rfl rfl rfl ⟨rfl, rfl, rfl, rfl, rfl⟩ rfl rfl rfl rfl rfl (by kernel_rfl) Try.func5 (by kernel_rfl)
    (of_decide_eq_true (by kernel_rfl)) (by unfold Func.isWrapper; first | (rw [if_pos (by decide +kernel)]; kernel_rfl) | (rw [if_neg (by decide +kernel)]; exact ⟨rfl, rfl⟩))
    (fun os started H enc _ => natTexts_lifted os started H enc)

#print axioms natTexts_holds

end Go.Proofs.Ytebmjjofeddkoaa
