/- The document's own Parse. -/
import Derived.Test.YtfjhdhmneknmkaaTxt2
import Derived.Deep.RegionWith
namespace Go.Proofs.Ytfjhdhmneknmkaa
open Go.RowKit

theorem dg_ten {a d : Nat} (hd : d ≤ 9) : (dg (10 * a + d)).length ≤ (dg a).length + 1 := by
  apply dg_len_le
  have := dg_lt a
  rw [pB_succ]
  omega

set_option maxRecDepth 100000 in
set_option maxHeartbeats 4000000 in
theorem rparse_any (s : ByteArray) (w : World) (h : s.size ≤ 4096) :
    Calls Try.prog 91 #[.string s] w fun e w' => Fr [] w w' ∧
      ((Good s ∧ ∃ p c, e = .returned (.tuple #[.slice p (dg (pv (by' s) s.size)).length c, .int .i64 0]) ∧ Ow w' w.heap.size p (dg (pv (by' s) s.size)).length c (dg (pv (by' s) s.size)))
       ∨ (¬ Good s ∧ e = .returned (.tuple #[.slice none 0 0, .int .i64 6]))) := by
  by_cases h0 : s.size = 0
  · have hng : ¬ Good s := fun h => h.1 h0
    have HN := Lib.hid hng
    have he : ((s.size : Int) == 0) = true := by rw [h0]; rfl
    clear hng
    go_enter Try.func91, Try.ntmps91
    go_wp2
    go_ret2
    exact ⟨Fr.refl _ _, Or.inr ⟨HN.out, rfl⟩⟩
  · have hpos : 0 < s.size := by omega
    have hby := by'_at s
    have hdec : decide ((4096 : Int) < (s.size : Int)) = false := by simp; omega
    have he : ((s.size : Int) == 0) = false := beq_eq_false_iff_ne.2 (by omega)
    by_cases hA : by' s 0 = 48 ∧ s.size ≠ 1
    · have hng : ¬ Good s := fun h => hA.2 (h.2.1 hA.1)
      have HN := Lib.hid hng
      have hz : decide ((1 : Int) < (s.size : Int)) = true := by simp; omega
      have h48 := hA.1
      clear hng hA
      go_enter Try.func91, Try.ntmps91
      go_wp2
      go_ret2
      exact ⟨Fr.refl _ _, Or.inr ⟨HN.out, rfl⟩⟩
    · have HG1 : Hid (by' s 0 = 48 → s.size = 1) := fun e => by
        show s.size = 1
        by_cases e1 : s.size = 1
        · exact e1
        · exact absurd ⟨e, e1⟩ hA
      by_cases h48 : s.size = 1
      case' pos => have hz : decide ((1 : Int) < (s.size : Int)) = false := by simp; omega
      case' neg => have hz : decide ((1 : Int) < (s.size : Int)) = true := by simp; omega
      case' neg => have hz2 : ((by' s 0 : Int) == 48) = false := beq_eq_false_iff_ne.2 (by intro e; exact h48 (HG1.out (by omega)))
      all_goals
        clear hA h48
        go_enter Try.func91, Try.ntmps91
        go_wp2
        go_loopw [4, 5] (fun v t wr => ∃ (r : Nat) (p : Option Addr) (c : Nat), r ≤ s.size ∧ t = .int .i64 r ∧ v = .slice p (dg (pv (by' s) r)).length c ∧ Ow wr w.heap.size p (dg (pv (by' s) r)).length c (dg (pv (by' s) r)) ∧ (∀ j, j < r → 48 ≤ by' s j ∧ by' s j ≤ 57) ∧ (dg (pv (by' s) r)).length ≤ r ∧ Fr [] w wr) (fun _ t _ => s.size - (intOf t).toNat)
        case atStart => exact ⟨0, none, 0, Nat.zero_le _, rfl, by rw [pv, dg_zero]; rfl, by rw [pv, dg_zero]; exact Ow.zero _ _, fun j hj => absurd hj (Nat.not_lt_zero _), by rw [pv, dg_zero]; exact Nat.le_refl _, Fr.refl _ _⟩
        case round =>
          obtain ⟨r, p, c, hr, rfl, rfl, hs0, hdig, hrl, hf⟩ := hrel
          have hs := hs0.sl
          have HD := Lib.hid hdig
          clear hdig
          by_cases hlt : r < s.size
          · by_cases hdk : 48 ≤ by' s r ∧ by' s r ≤ 57
            · have hc1 := hdk.1
              have hc2 := hdk.2
              clear hdk
              go_wp2_with fail
              have hlen10 : (dg (pv (by' s) r)).length ≤ 549755813886 := by omega
              have hlen11 : (dg (val (dg (pv (by' s) r)) * val [10])).length ≤ 1099511627774 := by
                rw [val_dg, val_one, Nat.mul_comm]
                have := dg_ten (a := pv (by' s) r) (d := 0) (by decide)
                rw [Nat.add_zero] at this
                omega
              have HX : Hid (IntKind.u32.wrap (IntKind.u8.wrap ((by' s r : Int) - 48)) = ((by' s r - 48 : Nat) : Int)) := by
                show _ = _
                rw [IntKind.wrap_u8, IntKind.wrap_u32]
                omega
              have HDN : Hid (∀ i, i < r + 1 → 48 ≤ by' s i ∧ by' s i ≤ 57) := fun i hi => by
                show 48 ≤ by' s i ∧ by' s i ≤ 57
                by_cases e : i = r
                · subst e; exact ⟨hc1, hc2⟩
                · exact HD.out i (by omega)
              have HE : Hid (val (dg (val (dg (pv (by' s) r)) * val [10])) + val [by' s r - 48] = pv (by' s) (r + 1)) := by
                show _ = 10 * pv (by' s) r + (by' s r - 48)
                rw [val_dg, val_dg, val_one, val_one, Nat.mul_comm]
              have HL : Hid ((dg (pv (by' s) (r + 1))).length ≤ r + 1) := by
                have := dg_ten (a := pv (by' s) r) (d := by' s r - 48) (by omega)
                show (dg (10 * pv (by' s) r + (by' s r - 48))).length ≤ r + 1
                omega
              have hdl : by' s r - 48 < 4294967296 := by omega
              go_region_with (first
                | (go_at_call 62; refine (rmul_any _ _ _ _ _ _ (dg (pv (by' s) r)) [10] _ ?_ ?_ hlen10 (by decide)).mono ?_; exact hs.kept ((Fr.new _).drew); exact (made1 rfl rfl (by decide)).kept ((Fr.refl _ _).drew); rintro e w2 ⟨p2, c2, rfl, o2, f2⟩; have f2w := ((Fr.new _).drew).trans f2 (by simp); have k2 := Nat.zero_le 0; clear f2)
                | (go_at_call 62; refine (rmul_any _ _ _ _ _ _ (dg (pv (by' s) r)) [10] _ ?_ ?_ hlen10 (by decide)).mono ?_; exact hs.kept (((Fr.new _).alloc _).drew); exact (made1 rfl rfl (by decide)).kept ((Fr.new _).drew); rintro e w2 ⟨p2, c2, rfl, o2, f2⟩; have f2w := (((Fr.new _).alloc _).drew).trans f2 (by simp); have k2 := ((made1 (w := wr.alloc (.cells #[.int .u32 10] 57)) (g := wr.heap.size + 1) HX.out (by simp) hdl).kept ((Fr.refl _ _).drew)).kept f2; clear f2)
                | (go_at_call 62; refine (rmul_any _ _ _ _ _ _ (dg (pv (by' s) r)) [10] _ ?_ ?_ hlen10 (by decide)).mono ?_; exact hs.kept (((Fr.new _).alloc _).drew); exact (made1 (w := wr.alloc (.cells #[.int .u32 (IntKind.u32.wrap (IntKind.u8.wrap ((by' s r : Int) - 48)))] 57)) (g := wr.heap.size + 1) rfl (by simp) (by decide)).kept ((Fr.refl _ _).drew); rintro e w2 ⟨p2, c2, rfl, o2, f2⟩; have f2w := (((Fr.new _).alloc _).drew).trans f2 (by simp); have k2 := ((made1 (w := wr) (g := wr.heap.size) HX.out rfl hdl).kept (((Fr.new _)).drew)).kept f2; clear f2)
                | (go_at_call 64; refine (radd_any _ _ _ _ _ _ (dg (val (dg (pv (by' s) r)) * val [10])) [by' s r - 48] _ ?_ ?_ hlen11 (by decide)).mono ?_; exact o2.sl.kept (Fr.new _); exact made1 HX.out rfl hdl; rintro e w3 ⟨p3, c3, rfl, o3, f3⟩; have f3w := (Fr.new _).trans f3 (by simp); clear f3)
                | (go_at_call 64; refine (radd_any _ _ _ _ _ _ (dg (val (dg (pv (by' s) r)) * val [10])) [by' s r - 48] _ ?_ ?_ hlen11 (by decide)).mono ?_; exact o2.sl; exact k2; rintro e w3 ⟨p3, c3, rfl, o3, f3⟩; have f3w := f3; clear f3))
              all_goals
                rw [HE.out] at o3 ⊢
                have hsz := (hf.trans f2w (by simp)).size
                have s3 := o3.mono (by first | exact hsz | exact Nat.le_trans hsz (Fr.new _).size)
                have hfw := (hf.trans f2w (by simp)).trans f3w (by simp)
                have HL2 := HL.out
                clear o3 o2 k2 f2w f3w hlen10 hlen11 HE hs hs0 hsz hf hby HL
                go_wp2_with fail
                go_roundw
                case rel => exact ⟨r + 1, p3, c3, by omega, by go_num, rfl, s3, HDN.out, HL2, hfw⟩
                case measure => simp [intOf]; omega
            · have hng : ¬ Good s := fun h => hdk (h.2.2 r hlt)
              have HN := Lib.hid hng
              have hbad : by' s r < 48 ∨ 57 < by' s r := by omega
              clear hdk hng
              rcases hbad with hb | hb
              · go_wp2
                go_ret2
                exact ⟨hf, Or.inr ⟨HN.out, rfl⟩⟩
              · go_wp2
                go_ret2
                exact ⟨hf, Or.inr ⟨HN.out, rfl⟩⟩
          · obtain rfl : r = s.size := by omega
            have hgood : Good s := ⟨h0, HG1.out, HD.out⟩
            have HGd := Lib.hid hgood
            clear hgood HD
            go_wp2
            go_ret2
            exact ⟨hf, Or.inl ⟨HGd.out, p, c, rfl, hs0⟩⟩

end Go.Proofs.Ytfjhdhmneknmkaa
