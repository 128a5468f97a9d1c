/- What the statements of this claim stand on: of Txt2, Txt3, Txt4, Int12, Int13, what they name -/
import Derived.ChangeMaps5
import Derived.Deep.RegionWith
import Derived.WalkMore
import Derived.Test.YtagciepnhjbopaaGreatDoorT12
import Derived.Test.YtagciepnhjbopaaGreatDoorT17

namespace Go.Proofs.YtagciepnhjbopaaGreatDoor
open Go.RowKit

def pv (B : Nat → Nat) : Nat → Nat
  | 0 => 0
  | k + 1 => 10 * pv B k + (B k - 48)

def by' (s : ByteArray) (k : Nat) : Nat := (s.data.toList.getD k 0).toNat

def Good (s : ByteArray) : Prop := s.size ≠ 0 ∧ (by' s 0 = 48 → s.size = 1) ∧ ∀ j, j < s.size → 48 ≤ by' s j ∧ by' s j ≤ 57

theorem by'_at (s : ByteArray) (k : Nat) (h : k < s.size) : (s[k]'h).toNat = by' s k := by
  unfold by'
  have hl : k < s.data.toList.length := by rw [Array.length_toList]; exact h
  rw [List.getD_eq_getElem?_getD, List.getElem?_eq_getElem hl]
  rfl

theorem not_empty {s : ByteArray} (h : s.size ≠ 0) : s.toList.isEmpty = false := by
  rw [Lib.toList_data]
  have hl : s.data.toList.length ≠ 0 := by rw [Array.length_toList]; exact h
  cases hs : s.data.toList with
  | nil => rw [hs] at hl; exact absurd rfl hl
  | cons x l => rfl

theorem is_zero {s : ByteArray} (h0 : by' s 0 = 48) (h : s.size = 1) : (s.toList == [48]) = true := by
  rw [Lib.toList_data]
  have hl : s.data.toList.length = 1 := by rw [Array.length_toList]; exact h
  unfold by' at h0
  match hs : s.data.toList, hl with
  | [x], _ =>
    rw [hs] at h0
    have h1 : x.toNat = 48 := h0
    have h2 : x = 48 := UInt8.toNat_inj.1 h1
    rw [h2]
    rfl

theorem not_zero {s : ByteArray} (h : s.size ≠ 1) : (s.toList == [48]) = false := by
  rw [Lib.toList_data]
  have hl : s.data.toList.length ≠ 1 := by rw [Array.length_toList]; exact h
  rw [beq_eq_false_iff_ne]
  intro e
  rw [e] at hl
  exact hl rfl

set_option maxRecDepth 100000 in
set_option maxHeartbeats 4000000 in
theorem parse_any (s : ByteArray) (w : World) (h : s.size ≤ 4096) :
    Calls Tryz.prog 136 #[.string s] w fun e w' => Fr [] w w' ∧
      ((Good s ∧ ∃ p c, e = .returned (.tuple #[.slice p (dg (pv (by' s) s.size)).length c, .int .i64 0]) ∧ Ow w' w.heap.size p (dg (pv (by' s) s.size)).length c (dg (pv (by' s) s.size)))
       ∨ (¬ Good s ∧ e = .returned (.tuple #[.slice none 0 0, .int .i64 6]))) := by
  by_cases h0 : s.size = 0
  · have hng : ¬ Good s := fun h => h.1 h0
    have HN := Lib.hid hng
    have he : s.toList.isEmpty = true := by
      rw [Lib.toList_data]
      have hl : s.data.toList.length = 0 := by rw [Array.length_toList]; exact h0
      rw [List.eq_nil_of_length_eq_zero hl]
      rfl
    clear hng
    go_enter Tryz.func136, Tryz.ntmps136
    go_wp2
    go_step3
    go_wp2
    simp only [Exit.noGoto]
    go_ret2
    exact ⟨Fr.refl _ _, Or.inr ⟨HN.out, rfl⟩⟩
  · have hE := not_empty h0
    have hpos : 0 < s.size := by omega
    have hby := by'_at s
    have hdec : decide ((4096 : Int) < (s.size : Int)) = false := by simp; omega
    by_cases hA : by' s 0 = 48 ∧ s.size ≠ 1
    · have hng : ¬ Good s := fun h => hA.2 (h.2.1 hA.1)
      have HN := Lib.hid hng
      have hz := not_zero hA.2
      have h48 := hA.1
      clear hng hA
      go_enter Tryz.func136, Tryz.ntmps136
      go_wp2
      go_step3
      go_wp2
      simp only [Exit.noGoto]
      go_ret2
      exact ⟨Fr.refl _ _, Or.inr ⟨HN.out, rfl⟩⟩
    · obtain ⟨i0, hi, hz0, hz1, hz2⟩ := info_parts Tryz.infoU
      have HG1 : Hid (by' s 0 = 48 → s.size = 1) := fun e => by
        show s.size = 1
        by_cases e1 : s.size = 1
        · exact e1
        · exact absurd ⟨e, e1⟩ hA
      by_cases h48 : by' s 0 = 48
      case' pos => have hz := is_zero h48 (HG1.out h48)
      case' neg => have hz : ((by' s 0 : Int) == 48) = false := beq_eq_false_iff_ne.2 (by omega)
      all_goals
        clear hA
        go_enter Tryz.func136, Tryz.ntmps136
        go_wp2
        go_step3
        go_wp2_with (at_make; refine wpList_make_own _ rfl _ _ 22 rfl w.heap.size 52 i0 (.int .u32 0) 1 Tryz.underlying22 hi hz0 hz1 _ _ _ (s.size / 9 + 1) rfl rfl (by omega) (by rw [hz2]; omega) (by unfold maxLen; omega) (Nat.le_refl _) ?_)
        intro w0 hown hgrow
        have hR0 : Rw' w0 w.heap.size (.slice (some ⟨w.heap.size, 0, none⟩) 0 (s.size / 9 + 1)) 0 [] := hown
        have hf0 : Fr [] w w0 := (Fr.refl _ _).grown hgrow (by simp)
        clear hown hgrow hz h48
        generalize Value.slice (some ⟨w.heap.size, 0, none⟩) 0 (s.size / 9 + 1) = v0 at *
        go_wp2
        go_step3
        go_wp2
        go_loopw [4, 5] (fun v t wr => ∃ (r : Nat) (xs : List Nat), r ≤ s.size ∧ t = .int .i64 r ∧ Rw' wr w.heap.size v xs.length xs ∧ Dg xs ∧ val xs = pv (by' s) r ∧ (∀ j, j < r → 48 ≤ by' s j ∧ by' s j ≤ 57) ∧ xs.length ≤ r ∧ Fr [] w wr) (fun _ t _ => s.size - (intOf t).toNat)
        case atStart => exact ⟨0, [], Nat.zero_le _, rfl, hR0, Dg.nil, rfl, fun j hj => absurd hj (Nat.not_lt_zero _), Nat.le_refl _, hf0⟩
        case round =>
          obtain ⟨r, xs, hr, rfl, hR, hxd, hv, hdig, hxl, hf⟩ := hrel
          have HV := Lib.hid hv
          have HD := Lib.hid hdig
          clear hR0 hf0 hv hdig
          by_cases hlt : r < s.size
          · obtain ⟨m, hm, hm9, hrm, hm0⟩ : ∃ m : Nat, min 9 ((s.size : Int) - r) = m ∧ m ≤ 9 ∧ r + m ≤ s.size ∧ 0 < m := ⟨min 9 (s.size - r), by omega, by omega, by omega, by omega⟩
            go_wp2
            clear hm
            go_loop [5, 6, 7, 37] (fun t g c u => ∃ (j k G P : Nat), j ≤ m ∧ k = r + j ∧ t = .int .i64 k ∧ g = .int .u32 G ∧ c = .int .u32 P ∧ u = .int .i64 j ∧ P = 10 ^ j ∧ G < P ∧ pv (by' s) k = G + P * pv (by' s) r ∧ ∀ i, i < k → 48 ≤ by' s i ∧ by' s i ≤ 57) (fun _ _ _ u => m - (intOf u).toNat)
            case atStart => exact ⟨0, r, 0, 1, Nat.zero_le _, rfl, rfl, rfl, rfl, rfl, rfl, by decide, by simp, HD.out⟩
            case round =>
              obtain ⟨j, k, G, P, hj, hk, rfl, rfl, rfl, rfl, hP, hGP, hpv, hdg⟩ := hrel
              have HP := Lib.hid hP
              have HPV := Lib.hid hpv
              have HDG := Lib.hid hdg
              have HK := Lib.hid hk
              have hks : j < m → k < s.size := fun _ => by omega
              have hkl : s.size ≤ 4096 → k ≤ 4105 := fun _ => by omega
              replace hkl := hkl h
              clear hP hpv hdg HD hk
              by_cases hlj : j < m
              · have hP9 : P ≤ 100000000 := by
                  have : (10 : Nat) ^ j ≤ 10 ^ 8 := Nat.pow_le_pow_right (by decide) (by omega)
                  rw [HP.out]
                  exact this
                replace hks := hks hlj
                by_cases hdk : 48 ≤ by' s k ∧ by' s k ≤ 57
                · have hc1 := hdk.1
                  have hc2 := hdk.2
                  have HN : Hid (∀ i, i < k + 1 → 48 ≤ by' s i ∧ by' s i ≤ 57) := fun i hi => by
                    show 48 ≤ by' s i ∧ by' s i ≤ 57
                    by_cases e : i = k
                    · subst e; exact ⟨hc1, hc2⟩
                    · exact HDG.out i (by omega)
                  have HPN : Hid (pv (by' s) (k + 1) = (10 * G + (by' s k - 48)) + (P * 10) * pv (by' s) r) := by
                    show 10 * pv (by' s) k + (by' s k - 48) = _
                    rw [HPV.out]
                    grind
                  have HPP : Hid (P * 10 = 10 ^ (j + 1)) := by
                    show P * 10 = _
                    rw [Nat.pow_succ, HP.out]
                  clear hdk
                  go_wp2
                  go_round
                  case rel =>
                    have hk := HK.out
                    exact ⟨j + 1, k + 1, 10 * G + (by' s k - 48), P * 10, by omega, by omega, by go_num, congrArg (Value.int .u32) (by omega), congrArg (Value.int .u32) (by omega), by go_num, HPP.out, by omega, HPN.out, HN.out⟩
                  case measure => simp [intOf]; omega
                · have hng : ¬ Good s := fun h => hdk (h.2.2 k hks)
                  have HN := Lib.hid hng
                  have hbad : by' s k < 48 ∨ 57 < by' s k := by omega
                  clear hdk hng
                  rcases hbad with hb | hb
                  · go_wp2
                    try simp only [Exit.noGoto]
                    go_ret2
                    exact ⟨hf, Or.inr ⟨HN.out, rfl⟩⟩
                  · go_wp2
                    try simp only [Exit.noGoto]
                    go_ret2
                    exact ⟨hf, Or.inr ⟨HN.out, rfl⟩⟩
              · obtain rfl : j = m := by omega
                have hk := HK.out
                clear HK hks hkl
                subst hk
                have hP9 : P ≤ 1000000000 := by
                  have : (10 : Nat) ^ j ≤ 10 ^ 9 := Nat.pow_le_pow_right (by decide) hm9
                  rw [HP.out]
                  exact this
                go_wp2_with fail
                refine (scale_any w.heap.size _ P G _ xs wr w hR hxd hP9 (by omega) (by omega) hf (Nat.le_refl _) hf.size).mono ?_
                rintro e w2 ⟨v', ys, rfl, hR2, hyd, hyv, hyl, hf2⟩
                have HY : Hid (val ys = pv (by' s) (r + j)) := by
                  show val ys = _
                  rw [hyv, HPV.out, HV.out]
                clear hyv
                go_wp2
                go_roundw
                case rel => exact ⟨r + j, ys, by omega, by go_num, hR2, hyd, HY.out, HDG.out, by omega, hf2⟩
                case measure => simp [intOf]; omega
          · obtain rfl : r = s.size := by omega
            have hgood : Good s := ⟨h0, HG1.out, HD.out⟩
            have HGd := Lib.hid hgood
            obtain ⟨p', c', rfl, ho⟩ := ow_of_row hR hxd
            clear hgood HD
            go_wp2_with fail
            refine (normal_any _ _ _ _ _ _ ho).mono ?_
            rintro e w2 ⟨⟨p2, c2, rfl, ho2⟩, rfl⟩
            rw [HV.out] at ho2 ⊢
            go_wp2_with fail
            simp only [Exit.noGoto]
            go_ret2
            exact ⟨hf, Or.inl ⟨HGd.out, p2, c2, rfl, ho2⟩⟩

end Go.Proofs.YtagciepnhjbopaaGreatDoor

namespace Go.Proofs.YtagciepnhjbopaaGreatDoor
open Go.RowKit

theorem dg_ten {a d : Nat} (_hd : d ≤ 9) : (dg (10 * a + d)).length ≤ (dg a).length + 1 := by
  apply dg_len_le
  have := dg_lt a
  rw [pB_succ]
  omega

set_option maxRecDepth 100000 in
set_option maxHeartbeats 4000000 in
theorem rparse_any (s : ByteArray) (w : World) (h : s.size ≤ 4096) :
    Calls Tryz.prog 138 #[.string s] w fun e w' => Fr [] w w' ∧
      ((Good s ∧ ∃ p c, e = .returned (.tuple #[.slice p (dg (pv (by' s) s.size)).length c, .int .i64 0]) ∧ Ow w' w.heap.size p (dg (pv (by' s) s.size)).length c (dg (pv (by' s) s.size)))
       ∨ (¬ Good s ∧ e = .returned (.tuple #[.slice none 0 0, .int .i64 6]))) := by
  by_cases h0 : s.size = 0
  · have hng : ¬ Good s := fun h => h.1 h0
    have HN := Lib.hid hng
    have he : ((s.size : Int) == 0) = true := by rw [h0]; rfl
    clear hng
    go_enter Tryz.func138, Tryz.ntmps138
    go_wp2
    go_ret2
    exact ⟨Fr.refl _ _, Or.inr ⟨HN.out, rfl⟩⟩
  · have hpos : 0 < s.size := by omega
    have hby := by'_at s
    have hdec : decide ((4096 : Int) < (s.size : Int)) = false := by simp; omega
    have he : ((s.size : Int) == 0) = false := beq_eq_false_iff_ne.2 (by omega)
    by_cases hA : by' s 0 = 48 ∧ s.size ≠ 1
    · have hng : ¬ Good s := fun h => hA.2 (h.2.1 hA.1)
      have HN := Lib.hid hng
      have hz : decide ((1 : Int) < (s.size : Int)) = true := by simp; omega
      have h48 := hA.1
      clear hng hA
      go_enter Tryz.func138, Tryz.ntmps138
      go_wp2
      go_ret2
      exact ⟨Fr.refl _ _, Or.inr ⟨HN.out, rfl⟩⟩
    · have HG1 : Hid (by' s 0 = 48 → s.size = 1) := fun e => by
        show s.size = 1
        by_cases e1 : s.size = 1
        · exact e1
        · exact absurd ⟨e, e1⟩ hA
      by_cases h48 : s.size = 1
      case' pos => have hz : decide ((1 : Int) < (s.size : Int)) = false := by simp; omega
      case' neg => have hz : decide ((1 : Int) < (s.size : Int)) = true := by simp; omega
      case' neg => have hz2 : ((by' s 0 : Int) == 48) = false := beq_eq_false_iff_ne.2 (by intro e; exact h48 (HG1.out (by omega)))
      all_goals
        clear hA h48
        go_enter Tryz.func138, Tryz.ntmps138
        go_wp2
        go_loopw [4, 5] (fun v t wr => ∃ (r : Nat) (p : Option Addr) (c : Nat), r ≤ s.size ∧ t = .int .i64 r ∧ v = .slice p (dg (pv (by' s) r)).length c ∧ Ow wr w.heap.size p (dg (pv (by' s) r)).length c (dg (pv (by' s) r)) ∧ (∀ j, j < r → 48 ≤ by' s j ∧ by' s j ≤ 57) ∧ (dg (pv (by' s) r)).length ≤ r ∧ Fr [] w wr) (fun _ t _ => s.size - (intOf t).toNat)
        case atStart => exact ⟨0, none, 0, Nat.zero_le _, rfl, by rw [pv, dg_zero]; rfl, by rw [pv, dg_zero]; exact Ow.zero _ _, fun j hj => absurd hj (Nat.not_lt_zero _), by rw [pv, dg_zero]; exact Nat.le_refl _, Fr.refl _ _⟩
        case round =>
          obtain ⟨r, p, c, hr, rfl, rfl, hs0, hdig, hrl, hf⟩ := hrel
          have hs := hs0.sl
          have HD := Lib.hid hdig
          clear hdig
          by_cases hlt : r < s.size
          · by_cases hdk : 48 ≤ by' s r ∧ by' s r ≤ 57
            · have hc1 := hdk.1
              have hc2 := hdk.2
              clear hdk
              go_wp2_with fail
              have hlen10 : (dg (pv (by' s) r)).length ≤ 549755813886 := by omega
              have hlen11 : (dg (val (dg (pv (by' s) r)) * val [10])).length ≤ 1099511627774 := by
                rw [val_dg, val_one, Nat.mul_comm]
                have := dg_ten (a := pv (by' s) r) (d := 0) (by decide)
                rw [Nat.add_zero] at this
                omega
              have HX : Hid (IntKind.u32.wrap (IntKind.u8.wrap ((by' s r : Int) - 48)) = ((by' s r - 48 : Nat) : Int)) := by
                show _ = _
                rw [IntKind.wrap_u8, IntKind.wrap_u32]
                omega
              have HDN : Hid (∀ i, i < r + 1 → 48 ≤ by' s i ∧ by' s i ≤ 57) := fun i hi => by
                show 48 ≤ by' s i ∧ by' s i ≤ 57
                by_cases e : i = r
                · subst e; exact ⟨hc1, hc2⟩
                · exact HD.out i (by omega)
              have HE : Hid (val (dg (val (dg (pv (by' s) r)) * val [10])) + val [by' s r - 48] = pv (by' s) (r + 1)) := by
                show _ = 10 * pv (by' s) r + (by' s r - 48)
                rw [val_dg, val_dg, val_one, val_one, Nat.mul_comm]
              have HL : Hid ((dg (pv (by' s) (r + 1))).length ≤ r + 1) := by
                have := dg_ten (a := pv (by' s) r) (d := by' s r - 48) (by omega)
                show (dg (10 * pv (by' s) r + (by' s r - 48))).length ≤ r + 1
                omega
              have hdl : by' s r - 48 < 4294967296 := by omega
              go_region_with (first
                | (go_at_call 152; refine (rmul_any _ _ _ _ _ _ (dg (pv (by' s) r)) [10] _ ?_ ?_ hlen10 (by decide)).mono ?_; exact hs.kept ((Fr.new _).drew); exact (made1 rfl rfl (by decide)).kept ((Fr.refl _ _).drew); rintro e w2 ⟨p2, c2, rfl, o2, f2⟩; have f2w := ((Fr.new _).drew).trans f2 (by simp); have k2 := Nat.zero_le 0; clear f2)
                | (go_at_call 152; refine (rmul_any _ _ _ _ _ _ (dg (pv (by' s) r)) [10] _ ?_ ?_ hlen10 (by decide)).mono ?_; exact hs.kept (((Fr.new _).alloc _).drew); exact (made1 rfl rfl (by decide)).kept ((Fr.new _).drew); rintro e w2 ⟨p2, c2, rfl, o2, f2⟩; have f2w := (((Fr.new _).alloc _).drew).trans f2 (by simp); have k2 := ((made1 (w := wr.alloc (.cells #[.int .u32 10] 52)) (g := wr.heap.size + 1) HX.out (by simp) hdl).kept ((Fr.refl _ _).drew)).kept f2; clear f2)
                | (go_at_call 152; refine (rmul_any _ _ _ _ _ _ (dg (pv (by' s) r)) [10] _ ?_ ?_ hlen10 (by decide)).mono ?_; exact hs.kept (((Fr.new _).alloc _).drew); exact (made1 (w := wr.alloc (.cells #[.int .u32 (IntKind.u32.wrap (IntKind.u8.wrap ((by' s r : Int) - 48)))] 52)) (g := wr.heap.size + 1) rfl (by simp) (by decide)).kept ((Fr.refl _ _).drew); rintro e w2 ⟨p2, c2, rfl, o2, f2⟩; have f2w := (((Fr.new _).alloc _).drew).trans f2 (by simp); have k2 := ((made1 (w := wr) (g := wr.heap.size) HX.out rfl hdl).kept (((Fr.new _)).drew)).kept f2; clear f2)
                | (go_at_call 167; refine (radd_any _ _ _ _ _ _ (dg (val (dg (pv (by' s) r)) * val [10])) [by' s r - 48] _ ?_ ?_ hlen11 (by decide)).mono ?_; exact o2.sl.kept (Fr.new _); exact made1 HX.out rfl hdl; rintro e w3 ⟨p3, c3, rfl, o3, f3⟩; have f3w := (Fr.new _).trans f3 (by simp); clear f3)
                | (go_at_call 167; refine (radd_any _ _ _ _ _ _ (dg (val (dg (pv (by' s) r)) * val [10])) [by' s r - 48] _ ?_ ?_ hlen11 (by decide)).mono ?_; exact o2.sl; exact k2; rintro e w3 ⟨p3, c3, rfl, o3, f3⟩; have f3w := f3; clear f3))
              all_goals
                rw [HE.out] at o3 ⊢
                have hsz := (hf.trans f2w (by simp)).size
                have s3 := o3.mono (by first | exact hsz | exact Nat.le_trans hsz (Fr.new _).size)
                have hfw := (hf.trans f2w (by simp)).trans f3w (by simp)
                have HL2 := HL.out
                clear o3 o2 k2 f2w f3w hlen10 hlen11 HE hs hs0 hsz hf hby HL
                go_wp2_with fail
                go_roundw
                case rel => exact ⟨r + 1, p3, c3, by omega, by go_num, rfl, s3, HDN.out, HL2, hfw⟩
                case measure => simp [intOf]; omega
            · have hng : ¬ Good s := fun h => hdk (h.2.2 r hlt)
              have HN := Lib.hid hng
              have hbad : by' s r < 48 ∨ 57 < by' s r := by omega
              clear hdk hng
              rcases hbad with hb | hb
              · go_wp2
                go_ret2
                exact ⟨hf, Or.inr ⟨HN.out, rfl⟩⟩
              · go_wp2
                go_ret2
                exact ⟨hf, Or.inr ⟨HN.out, rfl⟩⟩
          · obtain rfl : r = s.size := by omega
            have hgood : Good s := ⟨h0, HG1.out, HD.out⟩
            have HGd := Lib.hid hgood
            clear hgood HD
            go_wp2
            go_ret2
            exact ⟨hf, Or.inl ⟨HGd.out, p, c, rfl, hs0⟩⟩

end Go.Proofs.YtagciepnhjbopaaGreatDoor

namespace Go.Proofs.YtagciepnhjbopaaGreatDoor
open Go.RowKit

open Classical in

noncomputable def prx (s : ByteArray) : List Nat := if Good s then dg (pv (by' s) s.size) else []

open Classical in

noncomputable def pre (s : ByteArray) : Int := if Good s then 0 else 6

theorem parse_sl (s : ByteArray) (w : World) (h : s.size ≤ 4096) :
    Calls Tryz.prog 136 #[.string s] w fun e w' => ∃ p c, e = .returned (.tuple #[.slice p (prx s).length c, .int .i64 (pre s)]) ∧ Ow w' w.heap.size p (prx s).length c (prx s) ∧ Fr [] w w' := by
  refine (parse_any s w h).mono ?_
  rintro e w' ⟨hf, ⟨hg, p, c, rfl, ho⟩ | ⟨hb, rfl⟩⟩
  · have e1 : prx s = dg (pv (by' s) s.size) := if_pos hg
    have e2 : pre s = 0 := if_pos hg
    rw [e1, e2]
    exact ⟨p, c, rfl, ho, hf⟩
  · have e1 : prx s = [] := if_neg hb
    have e2 : pre s = 6 := if_neg hb
    rw [e1, e2]
    exact ⟨none, 0, rfl, Ow.zero _ _, hf⟩

theorem rparse_sl (s : ByteArray) (w : World) (h : s.size ≤ 4096) :
    Calls Tryz.prog 138 #[.string s] w fun e w' => ∃ p c, e = .returned (.tuple #[.slice p (prx s).length c, .int .i64 (pre s)]) ∧ Ow w' w.heap.size p (prx s).length c (prx s) ∧ Fr [] w w' := by
  refine (rparse_any s w h).mono ?_
  rintro e w' ⟨hf, ⟨hg, p, c, rfl, ho⟩ | ⟨hb, rfl⟩⟩
  · have e1 : prx s = dg (pv (by' s) s.size) := if_pos hg
    have e2 : pre s = 0 := if_pos hg
    rw [e1, e2]
    exact ⟨p, c, rfl, ho, hf⟩
  · have e1 : prx s = [] := if_neg hb
    have e2 : pre s = 6 := if_neg hb
    rw [e1, e2]
    exact ⟨none, 0, rfl, Ow.zero _ _, hf⟩

theorem parse_s (s : ByteArray) (w : World) (h : s.size ≤ 4096) :
    Calls Tryz.prog 136 #[.string s] w fun e w' => ∃ p c, e = .returned (.tuple #[.slice p (prx s).length c, .int .i64 (pre s)]) ∧ Sl w' p (prx s).length c (prx s) ∧ Fr [] w w' :=
  (parse_sl s w h).mono fun _ _ ⟨p, c, h1, h2, h3⟩ => ⟨p, c, h1, h2.sl, h3⟩

theorem rparse_s (s : ByteArray) (w : World) (h : s.size ≤ 4096) :
    Calls Tryz.prog 138 #[.string s] w fun e w' => ∃ p c, e = .returned (.tuple #[.slice p (prx s).length c, .int .i64 (pre s)]) ∧ Sl w' p (prx s).length c (prx s) ∧ Fr [] w w' :=
  (rparse_sl s w h).mono fun _ _ ⟨p, c, h1, h2, h3⟩ => ⟨p, c, h1, h2.sl, h3⟩

theorem by'_txt {S : List Nat} (hd : Dd S) {k : Nat} (hk : k < S.length) : by' (txt S) k = 48 + gd S k := by
  unfold by' txt
  rw [List.getD_eq_getElem?_getD]
  simp only [List.getElem?_map, List.getElem?_eq_getElem hk, Option.map_some, Option.getD_some]
  have h6 : S[k] < 10 := hd _ (List.getElem_mem _)
  rw [gd_lt hk]
  exact UInt8.toNat_ofNat_of_lt' (by show _ < 256; omega)

theorem pv_txt {S : List Nat} (hd : Dd S) (k : Nat) (_hk : k ≤ S.length) : pv (by' (txt S)) k = dvB (S.take k) := by
  induction k with
  | zero => rfl
  | succ k ih =>
    rw [pv, ih (by omega), by'_txt hd (by omega)]
    rw [List.take_succ_eq_append_getElem (by omega), dvB_snoc, gd_lt (by omega)]
    omega

theorem dB_head (n : Nat) : n ≠ 0 → gd (dB n) 0 ≠ 0 ∧ dB n ≠ [] := by
  induction n using Nat.strongRecOn with
  | ind n ih =>
    intro h
    rw [dB_pos h]
    by_cases h0 : n / 10 = 0
    · rw [h0, dB_zero]
      exact ⟨by show n % 10 ≠ 0; omega, by simp⟩
    · have h1 := ih (n / 10) (by omega) h0
      have h2 : 0 < (dB (n / 10)).length := List.length_pos_iff.2 h1.2
      exact ⟨by rw [gd_append_left h2]; exact h1.1, by simp⟩

theorem fmt_dd (n : Nat) : Dd (fmt n) := by
  unfold fmt
  split
  · exact Dd.cons (by decide) Dd.nil
  · exact dB_dd n

theorem fmt_val (n : Nat) : dvB (fmt n) = n := by
  unfold fmt
  split
  · next h => rw [h]; rfl
  · exact dvB_dB n

theorem fmt_good (n : Nat) : Good (txt (fmt n)) := by
  have hd := fmt_dd n
  have hl : 0 < (fmt n).length := by
    unfold fmt
    split
    · decide
    · next h => exact List.length_pos_iff.2 (dB_head n h).2
  refine ⟨by rw [txt_size]; omega, fun h0 => ?_, fun j hj => ?_⟩
  · rw [by'_txt hd hl] at h0
    have h1 : gd (fmt n) 0 = 0 := by omega
    rw [txt_size]
    by_cases hn : n = 0
    · unfold fmt
      rw [if_pos hn]
      rfl
    · unfold fmt at h1
      rw [if_neg hn] at h1
      exact absurd h1 (dB_head n hn).1
  · rw [txt_size] at hj
    rw [by'_txt hd hj, gd_lt hj]
    have h6 : (fmt n)[j] < 10 := hd _ (List.getElem_mem _)
    omega

theorem prx_fmt (n : Nat) : prx (txt (fmt n)) = dg n := by
  have e : prx (txt (fmt n)) = dg (pv (by' (txt (fmt n))) (txt (fmt n)).size) := if_pos (fmt_good n)
  rw [e, txt_size, pv_txt (fmt_dd n) _ (Nat.le_refl _), List.take_length, fmt_val]

theorem pre_fmt (n : Nat) : pre (txt (fmt n)) = 0 := if_pos (fmt_good n)

theorem fmt_len {n L : Nat} (h : n < pB L) (_hL : L ≤ 10) : (txt (fmt n)).size ≤ 4096 := by
  rw [txt_size]
  unfold fmt
  split
  · decide
  · next h0 =>
    have h1 := dB_len_pow n h0
    have h2 := dec_len h1 h
    omega

end Go.Proofs.YtagciepnhjbopaaGreatDoor

namespace Go.Proofs.YtagciepnhjbopaaGreatDoor
open Go.RowKit

theorem sign_dec {z : Int} {s : Bool} (h : decide (z < 0) = s) : decide (z.sign < 0) = s := by
  rw [← h]
  apply decide_eq_decide.2
  by_cases h0 : z < 0
  · rw [Int.sign_eq_neg_one_of_neg h0]; omega
  · by_cases h1 : z = 0
    · rw [h1]; decide
    · rw [Int.sign_eq_one_of_pos (by omega)]; omega

set_option maxRecDepth 100000 in
set_option maxHeartbeats 2000000 in
theorem iformat_false (g : Bool) (p : Option Addr) (n c : Nat) (xs : List Nat) (w : World) (h1 : Sl w p n c xs) (_hn : n ≤ 1048576) (hb : decide (iv g (val xs) < 0) = false) (_hz : (txt (fmt (val xs))).size ≤ 4096) :
    Calls Tryz.prog 139 #[iw g p n c] w (fun e w' => e = .returned (.string (txt (fmt (val xs)))) ∧ Fr [] w w') := by
  have HB := Lib.hid hb
  clear hb
  have hz2 : ¬ 9223372036854775807 < 1 + (txt (fmt (val xs))).size := by omega
  go_enter Tryz.func139, Tryz.ntmps139
  go_wp2_with fail
  have g_h1 := h1
  have hw : Fr [] w (w.alloc (Obj.cells #[.bool g, .slice p n c] 24)) := (Fr.refl _ _).alloc _
  have b0 : Bx (w.alloc (Obj.cells #[.bool g, .slice p n c] 24)) w.heap.size 24 #[.bool g, .slice p n c] := (Bx.made' (by simp) _ _).kept (Fr.refl _ _)
  generalize (w.alloc (Obj.cells #[.bool g, .slice p n c] 24)) = W at *
  have hbs := b0.lt
  replace h1 := h1.kept hw
  have c_b0_0 := b0.cell (j := 0) rfl
  have f_b0_0 := b0.free 0
  have c_b0_1 := b0.cell (j := 1) rfl
  have f_b0_1 := b0.free 1
  go_wp2_with fail
  clear c_b0_0 f_b0_0 c_b0_1 f_b0_1
  refine (format_any _ _ _ _ _ h1 (by omega)).mono ?_
  rintro e V1 ⟨rfl, ff⟩
  have hsz1 := ff.size
  replace hw := hw.trans ff (by simp)
  replace h1 := h1.kept ff
  replace b0 := b0.kept ff
  clear ff
  have c_b0_0 := b0.cell (j := 0) rfl
  have f_b0_0 := b0.free 0
  have c_b0_1 := b0.cell (j := 1) rfl
  have f_b0_1 := b0.free 1
  go_wp2_with fail
  clear c_b0_0 f_b0_0 c_b0_1 f_b0_1
  refine (isneg_any _ _ _ _ _ _ h1 (by omega)).mono ?_
  rw [HB.out]
  rintro e V2 ⟨rfl, ff⟩
  have hsz2 := ff.size
  replace hw := hw.trans ff (by simp)
  replace h1 := h1.kept ff
  replace b0 := b0.kept ff
  clear ff
  have c_b0_0 := b0.cell (j := 0) rfl
  have f_b0_0 := b0.free 0
  have c_b0_1 := b0.cell (j := 1) rfl
  have f_b0_1 := b0.free 1
  go_wp2
  go_ret
  exact ⟨rfl, hw⟩

set_option maxRecDepth 100000 in
set_option maxHeartbeats 2000000 in
theorem rformat_false (g : Bool) (p : Option Addr) (n c : Nat) (xs : List Nat) (w : World) (h1 : Sl w p n c xs) (hn : n ≤ 1048576) (hb : decide (iv g (val xs) < 0) = false) (_hz : (txt (fmt (val xs))).size ≤ 4096) :
    Calls Tryz.prog 140 #[iw g p n c] w (fun e w' => e = .returned (.string (txt (fmt (val xs)))) ∧ Fr [] w w') := by
  have hs : decide ((iv g (val xs)).sign < 0) = false := sign_dec hb
  have hz2 : ¬ 9223372036854775807 < 1 + (txt (fmt (val xs))).size := by omega
  go_enter Tryz.func140, Tryz.ntmps140
  go_wp2_with fail
  have g_h1 := h1
  have hw : Fr [] w (w.alloc (Obj.cells #[.bool g, .slice p n c] 24)) := (Fr.refl _ _).alloc _
  have b0 : Bx (w.alloc (Obj.cells #[.bool g, .slice p n c] 24)) w.heap.size 24 #[.bool g, .slice p n c] := (Bx.made' (by simp) _ _).kept (Fr.refl _ _)
  generalize (w.alloc (Obj.cells #[.bool g, .slice p n c] 24)) = W at *
  have hbs := b0.lt
  replace h1 := h1.kept hw
  have c_b0_0 := b0.cell (j := 0) rfl
  have f_b0_0 := b0.free 0
  have c_b0_1 := b0.cell (j := 1) rfl
  have f_b0_1 := b0.free 1
  go_wp2_with fail
  clear c_b0_0 f_b0_0 c_b0_1 f_b0_1
  refine (rsign_any _ _ _ _ _ _ h1 hn).mono ?_
  rintro e V1 ⟨rfl, ff⟩
  have hsz1 := ff.size
  replace hw := hw.trans ff (by simp)
  replace h1 := h1.kept ff
  replace b0 := b0.kept ff
  clear ff
  have c_b0_0 := b0.cell (j := 0) rfl
  have f_b0_0 := b0.free 0
  have c_b0_1 := b0.cell (j := 1) rfl
  have f_b0_1 := b0.free 1
  go_wp2_with fail
  clear c_b0_0 f_b0_0 c_b0_1 f_b0_1
  refine (rformat_any _ _ _ _ _ h1 (by omega)).mono ?_
  rintro e V2 ⟨rfl, ff⟩
  have hsz2 := ff.size
  replace hw := hw.trans ff (by simp)
  replace h1 := h1.kept ff
  replace b0 := b0.kept ff
  clear ff
  have c_b0_0 := b0.cell (j := 0) rfl
  have f_b0_0 := b0.free 0
  have c_b0_1 := b0.cell (j := 1) rfl
  have f_b0_1 := b0.free 1
  go_wp2
  go_ret
  exact ⟨rfl, hw⟩

set_option maxRecDepth 100000 in
set_option maxHeartbeats 2000000 in
theorem iformat_true (g : Bool) (p : Option Addr) (n c : Nat) (xs : List Nat) (w : World) (h1 : Sl w p n c xs) (_hn : n ≤ 1048576) (hb : decide (iv g (val xs) < 0) = true) (_hz : (txt (fmt (val xs))).size ≤ 4096) :
    Calls Tryz.prog 139 #[iw g p n c] w (fun e w' => e = .returned (.string (({ data := #[45] } : ByteArray) ++ txt (fmt (val xs)))) ∧ Fr [] w w') := by
  have HB := Lib.hid hb
  clear hb
  have hz2 : ¬ 9223372036854775807 < 1 + (txt (fmt (val xs))).size := by omega
  go_enter Tryz.func139, Tryz.ntmps139
  go_wp2_with fail
  have g_h1 := h1
  have hw : Fr [] w (w.alloc (Obj.cells #[.bool g, .slice p n c] 24)) := (Fr.refl _ _).alloc _
  have b0 : Bx (w.alloc (Obj.cells #[.bool g, .slice p n c] 24)) w.heap.size 24 #[.bool g, .slice p n c] := (Bx.made' (by simp) _ _).kept (Fr.refl _ _)
  generalize (w.alloc (Obj.cells #[.bool g, .slice p n c] 24)) = W at *
  have hbs := b0.lt
  replace h1 := h1.kept hw
  have c_b0_0 := b0.cell (j := 0) rfl
  have f_b0_0 := b0.free 0
  have c_b0_1 := b0.cell (j := 1) rfl
  have f_b0_1 := b0.free 1
  go_wp2_with fail
  clear c_b0_0 f_b0_0 c_b0_1 f_b0_1
  refine (format_any _ _ _ _ _ h1 (by omega)).mono ?_
  rintro e V1 ⟨rfl, ff⟩
  have hsz1 := ff.size
  replace hw := hw.trans ff (by simp)
  replace h1 := h1.kept ff
  replace b0 := b0.kept ff
  clear ff
  have c_b0_0 := b0.cell (j := 0) rfl
  have f_b0_0 := b0.free 0
  have c_b0_1 := b0.cell (j := 1) rfl
  have f_b0_1 := b0.free 1
  go_wp2_with fail
  clear c_b0_0 f_b0_0 c_b0_1 f_b0_1
  refine (isneg_any _ _ _ _ _ _ h1 (by omega)).mono ?_
  rw [HB.out]
  rintro e V2 ⟨rfl, ff⟩
  have hsz2 := ff.size
  replace hw := hw.trans ff (by simp)
  replace h1 := h1.kept ff
  replace b0 := b0.kept ff
  clear ff
  have c_b0_0 := b0.cell (j := 0) rfl
  have f_b0_0 := b0.free 0
  have c_b0_1 := b0.cell (j := 1) rfl
  have f_b0_1 := b0.free 1
  go_wp2
  go_ret
  exact ⟨rfl, hw⟩

set_option maxRecDepth 100000 in
set_option maxHeartbeats 2000000 in
theorem rformat_true (g : Bool) (p : Option Addr) (n c : Nat) (xs : List Nat) (w : World) (h1 : Sl w p n c xs) (hn : n ≤ 1048576) (hb : decide (iv g (val xs) < 0) = true) (_hz : (txt (fmt (val xs))).size ≤ 4096) :
    Calls Tryz.prog 140 #[iw g p n c] w (fun e w' => e = .returned (.string (({ data := #[45] } : ByteArray) ++ txt (fmt (val xs)))) ∧ Fr [] w w') := by
  have hs : decide ((iv g (val xs)).sign < 0) = true := sign_dec hb
  have hz2 : ¬ 9223372036854775807 < 1 + (txt (fmt (val xs))).size := by omega
  have hp : iv g (val xs) < 0 := of_decide_eq_true hb
  have hp2 : decide (0 ≤ iv g (val xs)) = false := decide_eq_false (by omega)
  go_enter Tryz.func140, Tryz.ntmps140
  go_wp2_with fail
  have g_h1 := h1
  have hw : Fr [] w (w.alloc (Obj.cells #[.bool g, .slice p n c] 24)) := (Fr.refl _ _).alloc _
  have b0 : Bx (w.alloc (Obj.cells #[.bool g, .slice p n c] 24)) w.heap.size 24 #[.bool g, .slice p n c] := (Bx.made' (by simp) _ _).kept (Fr.refl _ _)
  generalize (w.alloc (Obj.cells #[.bool g, .slice p n c] 24)) = W at *
  have hbs := b0.lt
  replace h1 := h1.kept hw
  have c_b0_0 := b0.cell (j := 0) rfl
  have f_b0_0 := b0.free 0
  have c_b0_1 := b0.cell (j := 1) rfl
  have f_b0_1 := b0.free 1
  go_wp2_with fail
  clear c_b0_0 f_b0_0 c_b0_1 f_b0_1
  refine (rsign_any _ _ _ _ _ _ h1 hn).mono ?_
  rintro e V1 ⟨rfl, ff⟩
  have hsz1 := ff.size
  replace hw := hw.trans ff (by simp)
  replace h1 := h1.kept ff
  replace b0 := b0.kept ff
  clear ff
  have c_b0_0 := b0.cell (j := 0) rfl
  have f_b0_0 := b0.free 0
  have c_b0_1 := b0.cell (j := 1) rfl
  have f_b0_1 := b0.free 1
  go_wp2_with fail
  clear c_b0_0 f_b0_0 c_b0_1 f_b0_1
  refine (rformat_any _ _ _ _ _ h1 (by omega)).mono ?_
  rintro e V2 ⟨rfl, ff⟩
  have hsz2 := ff.size
  replace hw := hw.trans ff (by simp)
  replace h1 := h1.kept ff
  replace b0 := b0.kept ff
  clear ff
  have c_b0_0 := b0.cell (j := 0) rfl
  have f_b0_0 := b0.free 0
  have c_b0_1 := b0.cell (j := 1) rfl
  have f_b0_1 := b0.free 1
  go_wp2
  go_ret
  exact ⟨rfl, hw⟩

set_option maxRecDepth 100000 in
set_option maxHeartbeats 2000000 in
theorem ivalid_false_false_z (p : Option Addr) (n c : Nat) (xs : List Nat) (w : World) (h1 : Sl w p n c xs) (_hn : n ≤ 1048576) (hb : nmb xs = false) (hz : n = 0) :
    Calls Tryz.prog 105 #[iw false p n c] w (fun e w' => e = .returned (.bool false) ∧ Fr [] w w') := by
  have HB := Lib.hid hb
  clear hb
  subst hz
  have d1 : ((0 : Int) == 0) = true := rfl
  have d2 : decide ((0 : Int) < 0) = false := rfl
  have d3 : (((0 : Nat) : Int) == 0) = true := rfl
  go_enter Tryz.func105, Tryz.ntmps105
  go_wp2_with fail
  have g_h1 := h1
  have hw : Fr [] w (w.alloc (Obj.cells #[.bool false, .slice p 0 c] 24)) := (Fr.refl _ _).alloc _
  have b0 : Bx (w.alloc (Obj.cells #[.bool false, .slice p 0 c] 24)) w.heap.size 24 #[.bool false, .slice p 0 c] := (Bx.made' (by simp) _ _).kept (Fr.refl _ _)
  generalize (w.alloc (Obj.cells #[.bool false, .slice p 0 c] 24)) = W at *
  have hbs := b0.lt
  replace h1 := h1.kept hw
  replace h1 := h1
  have c_b0_0 := b0.cell (j := 0) rfl
  have f_b0_0 := b0.free 0
  have c_b0_1 := b0.cell (j := 1) rfl
  have f_b0_1 := b0.free 1
  go_wp2_with fail
  refine (isnormal_any _ _ _ _ _ h1 (by omega)).mono ?_
  rw [HB.out]
  rintro e w' ⟨rfl, rfl⟩
  go_wp2
  go_ret
  exact ⟨rfl, hw⟩

set_option maxRecDepth 100000 in
set_option maxHeartbeats 2000000 in
theorem ivalid_false_false_p (p : Option Addr) (n c : Nat) (xs : List Nat) (w : World) (h1 : Sl w p n c xs) (_hn : n ≤ 1048576) (hb : nmb xs = false) (hz : 0 < n) :
    Calls Tryz.prog 105 #[iw false p n c] w (fun e w' => e = .returned (.bool false) ∧ Fr [] w w') := by
  have HB := Lib.hid hb
  clear hb
  have d1 : ((n : Int) == 0) = false := beq_eq_false_iff_ne.2 (by omega)
  have d2 : decide (0 < n) = true := decide_eq_true hz
  go_enter Tryz.func105, Tryz.ntmps105
  go_wp2_with fail
  have g_h1 := h1
  have hw : Fr [] w (w.alloc (Obj.cells #[.bool false, .slice p n c] 24)) := (Fr.refl _ _).alloc _
  have b0 : Bx (w.alloc (Obj.cells #[.bool false, .slice p n c] 24)) w.heap.size 24 #[.bool false, .slice p n c] := (Bx.made' (by simp) _ _).kept (Fr.refl _ _)
  generalize (w.alloc (Obj.cells #[.bool false, .slice p n c] 24)) = W at *
  have hbs := b0.lt
  replace h1 := h1.kept hw
  replace h1 := h1
  have c_b0_0 := b0.cell (j := 0) rfl
  have f_b0_0 := b0.free 0
  have c_b0_1 := b0.cell (j := 1) rfl
  have f_b0_1 := b0.free 1
  go_wp2_with fail
  refine (isnormal_any _ _ _ _ _ h1 (by omega)).mono ?_
  rw [HB.out]
  rintro e w' ⟨rfl, rfl⟩
  go_wp2
  go_ret
  exact ⟨rfl, hw⟩

set_option maxRecDepth 100000 in
set_option maxHeartbeats 2000000 in
theorem ivalid_false_true_z (p : Option Addr) (n c : Nat) (xs : List Nat) (w : World) (h1 : Sl w p n c xs) (_hn : n ≤ 1048576) (hb : nmb xs = true) (hz : n = 0) :
    Calls Tryz.prog 105 #[iw false p n c] w (fun e w' => e = .returned (.bool true) ∧ Fr [] w w') := by
  have HB := Lib.hid hb
  clear hb
  subst hz
  have d1 : ((0 : Int) == 0) = true := rfl
  have d2 : decide ((0 : Int) < 0) = false := rfl
  have d3 : (((0 : Nat) : Int) == 0) = true := rfl
  go_enter Tryz.func105, Tryz.ntmps105
  go_wp2_with fail
  have g_h1 := h1
  have hw : Fr [] w (w.alloc (Obj.cells #[.bool false, .slice p 0 c] 24)) := (Fr.refl _ _).alloc _
  have b0 : Bx (w.alloc (Obj.cells #[.bool false, .slice p 0 c] 24)) w.heap.size 24 #[.bool false, .slice p 0 c] := (Bx.made' (by simp) _ _).kept (Fr.refl _ _)
  generalize (w.alloc (Obj.cells #[.bool false, .slice p 0 c] 24)) = W at *
  have hbs := b0.lt
  replace h1 := h1.kept hw
  replace h1 := h1
  have c_b0_0 := b0.cell (j := 0) rfl
  have f_b0_0 := b0.free 0
  have c_b0_1 := b0.cell (j := 1) rfl
  have f_b0_1 := b0.free 1
  go_wp2_with fail
  refine (isnormal_any _ _ _ _ _ h1 (by omega)).mono ?_
  rw [HB.out]
  rintro e w' ⟨rfl, rfl⟩
  go_wp2
  go_ret
  exact ⟨rfl, hw⟩

set_option maxRecDepth 100000 in
set_option maxHeartbeats 2000000 in
theorem ivalid_false_true_p (p : Option Addr) (n c : Nat) (xs : List Nat) (w : World) (h1 : Sl w p n c xs) (_hn : n ≤ 1048576) (hb : nmb xs = true) (hz : 0 < n) :
    Calls Tryz.prog 105 #[iw false p n c] w (fun e w' => e = .returned (.bool true) ∧ Fr [] w w') := by
  have HB := Lib.hid hb
  clear hb
  have d1 : ((n : Int) == 0) = false := beq_eq_false_iff_ne.2 (by omega)
  have d2 : decide (0 < n) = true := decide_eq_true hz
  go_enter Tryz.func105, Tryz.ntmps105
  go_wp2_with fail
  have g_h1 := h1
  have hw : Fr [] w (w.alloc (Obj.cells #[.bool false, .slice p n c] 24)) := (Fr.refl _ _).alloc _
  have b0 : Bx (w.alloc (Obj.cells #[.bool false, .slice p n c] 24)) w.heap.size 24 #[.bool false, .slice p n c] := (Bx.made' (by simp) _ _).kept (Fr.refl _ _)
  generalize (w.alloc (Obj.cells #[.bool false, .slice p n c] 24)) = W at *
  have hbs := b0.lt
  replace h1 := h1.kept hw
  replace h1 := h1
  have c_b0_0 := b0.cell (j := 0) rfl
  have f_b0_0 := b0.free 0
  have c_b0_1 := b0.cell (j := 1) rfl
  have f_b0_1 := b0.free 1
  go_wp2_with fail
  refine (isnormal_any _ _ _ _ _ h1 (by omega)).mono ?_
  rw [HB.out]
  rintro e w' ⟨rfl, rfl⟩
  go_wp2
  go_ret
  exact ⟨rfl, hw⟩

set_option maxRecDepth 100000 in
set_option maxHeartbeats 2000000 in
theorem ivalid_true_false_z (p : Option Addr) (n c : Nat) (xs : List Nat) (w : World) (h1 : Sl w p n c xs) (_hn : n ≤ 1048576) (hb : nmb xs = false) (hz : n = 0) :
    Calls Tryz.prog 105 #[iw true p n c] w (fun e w' => e = .returned (.bool false) ∧ Fr [] w w') := by
  have HB := Lib.hid hb
  clear hb
  subst hz
  have d1 : ((0 : Int) == 0) = true := rfl
  have d2 : decide ((0 : Int) < 0) = false := rfl
  have d3 : (((0 : Nat) : Int) == 0) = true := rfl
  go_enter Tryz.func105, Tryz.ntmps105
  go_wp2_with fail
  have g_h1 := h1
  have hw : Fr [] w (w.alloc (Obj.cells #[.bool true, .slice p 0 c] 24)) := (Fr.refl _ _).alloc _
  have b0 : Bx (w.alloc (Obj.cells #[.bool true, .slice p 0 c] 24)) w.heap.size 24 #[.bool true, .slice p 0 c] := (Bx.made' (by simp) _ _).kept (Fr.refl _ _)
  generalize (w.alloc (Obj.cells #[.bool true, .slice p 0 c] 24)) = W at *
  have hbs := b0.lt
  replace h1 := h1.kept hw
  replace h1 := h1
  have c_b0_0 := b0.cell (j := 0) rfl
  have f_b0_0 := b0.free 0
  have c_b0_1 := b0.cell (j := 1) rfl
  have f_b0_1 := b0.free 1
  go_wp2_with fail
  refine (isnormal_any _ _ _ _ _ h1 (by omega)).mono ?_
  rw [HB.out]
  rintro e w' ⟨rfl, rfl⟩
  go_wp2
  go_ret
  exact ⟨rfl, hw⟩

set_option maxRecDepth 100000 in
set_option maxHeartbeats 2000000 in
theorem ivalid_true_false_p (p : Option Addr) (n c : Nat) (xs : List Nat) (w : World) (h1 : Sl w p n c xs) (_hn : n ≤ 1048576) (hb : nmb xs = false) (hz : 0 < n) :
    Calls Tryz.prog 105 #[iw true p n c] w (fun e w' => e = .returned (.bool false) ∧ Fr [] w w') := by
  have HB := Lib.hid hb
  clear hb
  have d1 : ((n : Int) == 0) = false := beq_eq_false_iff_ne.2 (by omega)
  have d2 : decide (0 < n) = true := decide_eq_true hz
  go_enter Tryz.func105, Tryz.ntmps105
  go_wp2_with fail
  have g_h1 := h1
  have hw : Fr [] w (w.alloc (Obj.cells #[.bool true, .slice p n c] 24)) := (Fr.refl _ _).alloc _
  have b0 : Bx (w.alloc (Obj.cells #[.bool true, .slice p n c] 24)) w.heap.size 24 #[.bool true, .slice p n c] := (Bx.made' (by simp) _ _).kept (Fr.refl _ _)
  generalize (w.alloc (Obj.cells #[.bool true, .slice p n c] 24)) = W at *
  have hbs := b0.lt
  replace h1 := h1.kept hw
  replace h1 := h1
  have c_b0_0 := b0.cell (j := 0) rfl
  have f_b0_0 := b0.free 0
  have c_b0_1 := b0.cell (j := 1) rfl
  have f_b0_1 := b0.free 1
  go_wp2_with fail
  refine (isnormal_any _ _ _ _ _ h1 (by omega)).mono ?_
  rw [HB.out]
  rintro e w' ⟨rfl, rfl⟩
  go_wp2
  go_ret
  exact ⟨rfl, hw⟩

set_option maxRecDepth 100000 in
set_option maxHeartbeats 2000000 in
theorem ivalid_true_true_z (p : Option Addr) (n c : Nat) (xs : List Nat) (w : World) (h1 : Sl w p n c xs) (_hn : n ≤ 1048576) (hb : nmb xs = true) (hz : n = 0) :
    Calls Tryz.prog 105 #[iw true p n c] w (fun e w' => e = .returned (.bool false) ∧ Fr [] w w') := by
  have HB := Lib.hid hb
  clear hb
  subst hz
  have d1 : ((0 : Int) == 0) = true := rfl
  have d2 : decide ((0 : Int) < 0) = false := rfl
  have d3 : (((0 : Nat) : Int) == 0) = true := rfl
  go_enter Tryz.func105, Tryz.ntmps105
  go_wp2_with fail
  have g_h1 := h1
  have hw : Fr [] w (w.alloc (Obj.cells #[.bool true, .slice p 0 c] 24)) := (Fr.refl _ _).alloc _
  have b0 : Bx (w.alloc (Obj.cells #[.bool true, .slice p 0 c] 24)) w.heap.size 24 #[.bool true, .slice p 0 c] := (Bx.made' (by simp) _ _).kept (Fr.refl _ _)
  generalize (w.alloc (Obj.cells #[.bool true, .slice p 0 c] 24)) = W at *
  have hbs := b0.lt
  replace h1 := h1.kept hw
  replace h1 := h1
  have c_b0_0 := b0.cell (j := 0) rfl
  have f_b0_0 := b0.free 0
  have c_b0_1 := b0.cell (j := 1) rfl
  have f_b0_1 := b0.free 1
  go_wp2_with fail
  refine (isnormal_any _ _ _ _ _ h1 (by omega)).mono ?_
  rw [HB.out]
  rintro e w' ⟨rfl, rfl⟩
  go_wp2
  go_ret
  exact ⟨rfl, hw⟩

set_option maxRecDepth 100000 in
set_option maxHeartbeats 2000000 in
theorem ivalid_true_true_p (p : Option Addr) (n c : Nat) (xs : List Nat) (w : World) (h1 : Sl w p n c xs) (_hn : n ≤ 1048576) (hb : nmb xs = true) (hz : 0 < n) :
    Calls Tryz.prog 105 #[iw true p n c] w (fun e w' => e = .returned (.bool true) ∧ Fr [] w w') := by
  have HB := Lib.hid hb
  clear hb
  have d1 : ((n : Int) == 0) = false := beq_eq_false_iff_ne.2 (by omega)
  have d2 : decide (0 < n) = true := decide_eq_true hz
  go_enter Tryz.func105, Tryz.ntmps105
  go_wp2_with fail
  have g_h1 := h1
  have hw : Fr [] w (w.alloc (Obj.cells #[.bool true, .slice p n c] 24)) := (Fr.refl _ _).alloc _
  have b0 : Bx (w.alloc (Obj.cells #[.bool true, .slice p n c] 24)) w.heap.size 24 #[.bool true, .slice p n c] := (Bx.made' (by simp) _ _).kept (Fr.refl _ _)
  generalize (w.alloc (Obj.cells #[.bool true, .slice p n c] 24)) = W at *
  have hbs := b0.lt
  replace h1 := h1.kept hw
  replace h1 := h1
  have c_b0_0 := b0.cell (j := 0) rfl
  have f_b0_0 := b0.free 0
  have c_b0_1 := b0.cell (j := 1) rfl
  have f_b0_1 := b0.free 1
  go_wp2_with fail
  refine (isnormal_any _ _ _ _ _ h1 (by omega)).mono ?_
  rw [HB.out]
  rintro e w' ⟨rfl, rfl⟩
  go_wp2
  go_ret
  exact ⟨rfl, hw⟩

theorem ivalid_any (g : Bool) (p : Option Addr) (n c : Nat) (xs : List Nat) (w : World) (h1 : Sl w p n c xs) (hn : n ≤ 1048576) : Calls Tryz.prog 105 #[iw g p n c] w fun e w' => e = .returned (.bool (nmb xs && !(g && decide (n = 0)))) ∧ Fr [] w w' := by
  cases hb : nmb xs <;> cases g <;> by_cases hz : n = 0
  · rw [decide_eq_true hz]; exact ivalid_false_false_z p n c xs w h1 hn hb hz
  · rw [decide_eq_false hz]; exact ivalid_false_false_p p n c xs w h1 hn hb (by omega)
  · rw [decide_eq_true hz]; exact ivalid_true_false_z p n c xs w h1 hn hb hz
  · rw [decide_eq_false hz]; exact ivalid_true_false_p p n c xs w h1 hn hb (by omega)
  · rw [decide_eq_true hz]; exact ivalid_false_true_z p n c xs w h1 hn hb hz
  · rw [decide_eq_false hz]; exact ivalid_false_true_p p n c xs w h1 hn hb (by omega)
  · rw [decide_eq_true hz]; exact ivalid_true_true_z p n c xs w h1 hn hb hz
  · rw [decide_eq_false hz]; exact ivalid_true_true_p p n c xs w h1 hn hb (by omega)

end Go.Proofs.YtagciepnhjbopaaGreatDoor

namespace Go.Proofs.YtagciepnhjbopaaGreatDoor
open Go.RowKit

theorem calls_rd {P : Program} {f : FuncId} {vs : Array Value} {w : World} {z y : Int} (h : Calls P f vs w (RetD w z y)) {b b' : Bool} {m m' : Nat} (hb : decide (z < 0) = b) (hm : z.natAbs = m) (hb' : decide (y < 0) = b') (hm' : y.natAbs = m') :
    Calls P f vs w fun e w' => ∃ p c p' c', e = .returned (.tuple #[iw b p (dg m).length c, iw b' p' (dg m').length c', .int .i64 0]) ∧ Ow w' w.heap.size p (dg m).length c (dg m) ∧ Ow w' w.heap.size p' (dg m').length c' (dg m') ∧ Fr [] w w' := by
  subst hb
  subst hm
  subst hb'
  subst hm'
  exact h

end Go.Proofs.YtagciepnhjbopaaGreatDoor
