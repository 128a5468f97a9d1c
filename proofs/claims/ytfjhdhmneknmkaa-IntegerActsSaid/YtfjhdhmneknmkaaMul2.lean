/- nat.Sub, nat.Mul. -/
import Derived.Test.YtfjhdhmneknmkaaMul
namespace Go.Proofs.Ytfjhdhmneknmkaa
open Go.RowKit

theorem cmpN_lt {a b : Nat} (h : a < b) : cmpN a b = -1 := by unfold cmpN; rw [if_pos h]
theorem cmpN_gt {a b : Nat} (h : b < a) : cmpN a b = 1 := by unfold cmpN; rw [if_neg (by omega), if_pos h]
theorem cmpN_eq {a b : Nat} (h : a = b) : cmpN a b = 0 := by rw [h]; exact cmpN_refl b

/-- One step of a difference: d is the digit, C' the borrow. -/
theorem sub_step {xs ys Z : List Nat} {k C D C' : Nat} (hZ : Z.length = k) (h : val Z + val (ys.take k) = val (xs.take k) + pB k * C) (hD : D + gd ys k + C = gd xs k + 4294967296 * C') :
    val (Z ++ [D]) + val (ys.take (k + 1)) = val (xs.take (k + 1)) + pB (k + 1) * C' := by
  rw [val_append, val_one, hZ, val_take_succ, val_take_succ, pB_succ]
  have e : pB k * (D + gd ys k + C) = pB k * (gd xs k + 4294967296 * C') := by rw [hD]
  rw [Nat.mul_add, Nat.mul_add, Nat.mul_add, ← Nat.mul_assoc, Nat.mul_comm (pB k) 4294967296] at e
  omega

/-- The digits above the value are 0. -/
theorem val_take_all {ys : List Nat} {k : Nat} (h : val ys < pB k) : val (ys.take k) = val ys := by
  by_cases hk : k ≤ ys.length
  · have e := val_split ys k hk
    have h0 : val (ys.drop k) = 0 := by
      apply Nat.eq_zero_of_not_pos
      intro hp
      have : pB k * 1 ≤ pB k * val (ys.drop k) := Nat.mul_le_mul_left _ hp
      omega
    rw [e, h0]; omega
  · rw [List.take_of_length_le (by omega)]

theorem sub_word (x y C : Nat) (hx : x < 4294967296) (hy : y < 4294967296) (hC : C ≤ 1) : ∃ D C' : Nat, D < 4294967296 ∧ C' ≤ 1 ∧
    IntKind.u64.wrap (IntKind.u64.wrap ((x : Int) - y) - C) / 9223372036854775808 = C' ∧ IntKind.u64.wrap (IntKind.u64.wrap ((x : Int) - y) - C) % 4294967296 = D ∧ D + y + C = x + 4294967296 * C' := by
  rw [IntKind.wrap_u64, IntKind.wrap_u64]
  by_cases h : y + C ≤ x
  · refine ⟨x - y - C, 0, by omega, by omega, by omega, by omega, by omega⟩
  · refine ⟨x + 4294967296 - y - C, 1, by omega, by omega, by omega, by omega, by omega⟩

set_option maxRecDepth 100000 in
set_option maxHeartbeats 1000000 in
theorem sub_any (p q : Option Addr) (n c m d : Nat) (xs ys : List Nat) (w : World) (h1 : Sl w p n c xs) (h2 : Sl w q m d ys) (hn : n ≤ 1099511627775) (hm : m ≤ 1099511627775) :
    Calls Try.prog 87 #[.slice p n c, .slice q m d] w (RetOwn w (dg (val xs - val ys))) := by
  by_cases hlt : val ys < val xs
  · obtain ⟨i0, hi, hz0, hz1, hz2⟩ := info_parts Try.infoU
    have hcmp := Lib.hid (cmpN_gt hlt)
    go_enter Try.func87, Try.ntmps87
    go_wp2_with fail
    refine (compare_any _ _ _ _ _ _ _ _ _ h1 h2).mono ?_
    rintro e w1 ⟨rfl, hf1⟩
    rw [hcmp.out]
    replace h1 := h1.kept hf1
    replace h2 := h2.kept hf1
    go_wp2_with fail
    refine (cut_any _ _ _ _ _ h1).mono ?_
    rintro e w' ⟨rfl, rfl⟩
    have l1 := dg_len_val h1.dig
    rw [h1.len] at l1
    have KX := h1.cut
    have Hlt := Lib.hid hlt
    have HV := Lib.hid (val_dg (val xs))
    have HB : Hid (val (ys.take (dg (val xs)).length) = val ys) := val_take_all (Nat.lt_trans hlt (dg_lt _))
    clear h1 hlt
    generalize dg (val xs) = X at *
    have LX := KX.len
    go_wp2_with (at_make; refine wpList_make_full _ rfl _ _ 22 rfl 0 57 i0 (.int .u32 0) 1 Try.underlying22 hi hz0 hz1 _ _ _ _ X.length rfl rfl (by simp) (by simp) (by rw [hz2]; omega) (by unfold maxLen; omega) (Nat.zero_le _) ?_)
    intro w0 hown hgrow
    have hB0 := blk_of_made hown
    have hf0 : Fr [] w1 w0 := (Fr.refl _ _).grown hgrow (by simp)
    clear hown hgrow
    have hg0 := hB0.lt
    generalize hg : w1.heap.size = g at *
    have HG := Lib.hid hg
    clear hg
    go_wp2
    go_loopw [6, 21] (fun s t wr => ∃ (k C : Nat) (Z : List Nat), k ≤ X.length ∧ s = .int .u64 C ∧ t = .int .i64 k ∧ C ≤ 1 ∧ Z.length = k ∧ Dg Z ∧ val Z + val (ys.take k) = val (X.take k) + pB k * C ∧ Fb wr g X.length Z ∧ Fr [] w1 wr) (fun _ t _ => X.length - (intOf t).toNat)
    case atStart => exact ⟨0, 0, [], Nat.zero_le _, rfl, rfl, by omega, rfl, Dg.nil, rfl, Fb.start hB0, hf0⟩
    case round =>
      obtain ⟨k, C, Z, hk, rfl, rfl, hC, hZ, hZd, hv, hB, hf⟩ := hrel
      have HZ := Lib.hid hZ
      have Hv := Lib.hid hv
      clear hZ hv hB0 hf0
      by_cases hlt : k < X.length
      · obtain ⟨b1, o1, rfl, _, m1⟩ := (KX.kept hf).rd.open (by omega)
        have c1 := m1 k (by omega)
        have c3 := hB.free k
        have c4 := hB.cell hlt (by rw [HZ.out]; exact Nat.le_refl _)
        have d1 := KX.dig.at k
        have d2 := h2.dig.at k
        have HT : Hid (∀ D C', D + gd ys k + C = gd X k + 4294967296 * C' → _) := fun D C' => sub_step HZ.out Hv.out
        have HW := Lib.hid (hB.set hlt HZ.out)
        clear m1
        generalize gd X k = x at *
        go_wp2_with fail
        refine (digit_any _ _ _ _ _ _ (h2.kept hf) (by omega) (by omega) (by omega)).mono ?_
        rintro e w' ⟨rfl, rfl⟩
        rw [Int.toNat_natCast]
        generalize gd ys k = y at *
        go_wp2_with fail
        go_roundw
        case rel =>
          obtain ⟨D, C', hD, hC', e1, e2, e3⟩ := sub_word x y C d1 d2 hC
          rw [e1, e2]
          exact ⟨k + 1, C', Z ++ [D], by omega, rfl, by go_num, hC', by simp [HZ.out], hZd.append (Dg.one hD), HT.out _ _ e3, HW.out _, hf.setCell _ _ (by have := HG.out; simp; omega)⟩
        case measure => simp [intOf]; omega
      · obtain rfl : k = X.length := by omega
        have hv := Hv.out
        rw [List.take_length, HB.out, HV.out] at hv
        have hC0 : C = 0 := by
          apply Nat.eq_zero_of_not_pos
          intro hp
          have h3 := val_lt hZd
          rw [HZ.out] at h3
          have h4 : pB X.length * 1 ≤ pB X.length * C := Nat.mul_le_mul_left _ hp
          have h5 := Hlt.out
          omega
        have HO := Lib.hid (Ow.of_blk (base := g) (hB.full HZ.out) (Nat.le_refl _) (by rw [HZ.out]; omega) hZd)
        have Hval : Hid (val Z = val xs - val ys) := by show val Z = _; rw [hC0] at hv; have := Hlt.out; omega
        rw [HZ.out] at HO
        clear hv hC0
        go_wp2_with fail
        refine (normal_any _ _ _ _ _ _ HO.out).mono ?_
        rw [Hval.out]
        rintro e w' ⟨⟨p', c', rfl, ho'⟩, rfl⟩
        go_wp2_with fail
        go_ret
        have := hf1.size
        have := HG.out
        exact ⟨p', c', rfl, ho'.mono (by omega), hf1.trans hf (by simp)⟩
  · have e0 : val xs - val ys = 0 := by omega
    have hcl : Hid (cmpN (val xs) (val ys) = -1 ∨ cmpN (val xs) (val ys) = 0) := by
      by_cases h : val xs < val ys
      · exact Or.inl (cmpN_lt h)
      · exact Or.inr (cmpN_eq (by omega))
    rw [e0, dg_zero]
    go_enter Try.func87, Try.ntmps87
    go_wp2_with fail
    refine (compare_any _ _ _ _ _ _ _ _ _ h1 h2).mono ?_
    rintro e w1 ⟨rfl, hf1⟩
    rcases hcl.out with hc | hc
    all_goals
      rw [hc]
      clear hc
      go_wp2
      go_ret
      exact ⟨none, 0, rfl, Ow.zero _ _, hf1⟩


theorem spl_spl {L : List Value} {k : Nat} {Q Z : List Nat} (hL : Q.length ≤ L.length) (h : k + Z.length ≤ Q.length) : spl (spl L 0 Q) k Z = spl L 0 (Q.take k ++ Z ++ Q.drop (k + Z.length)) := by
  have e : (Q.take k ++ Z ++ Q.drop (k + Z.length)).length = Q.length := by simp; omega
  have hl := spl_len (L := L) (o := 0) (Z := Q) (by omega)
  apply spl_ext (by omega)
  intro j
  rw [spl_at (by omega), spl_at (by omega)]
  rw [e]
  simp only [Nat.zero_add, Nat.not_lt_zero, if_false, Nat.sub_zero]
  by_cases h1 : j < k
  · have hj : j < Q.length := by omega
    rw [if_pos h1, if_pos hj, if_pos hj, gd_append_left (by simp; omega), gd_append_left (by simp; omega), gd_take h1]
  · rw [if_neg h1]
    by_cases h2 : j < k + Z.length
    · rw [if_pos h2, if_pos (by omega), gd_append_left (by simp; omega), gd_append_right (by simp; omega)]
      congr 3
      simp; omega
    · rw [if_neg h2]
      by_cases h3 : j < Q.length
      · rw [if_pos h3, if_pos h3, gd_append_right (by simp; omega), gd_drop]
        congr 3
        simp; omega
      · rw [if_neg h3, if_neg h3]

/-- One row of a product: z + B^k (x b) for the digits of z above k. -/
theorem mul_step {X Q Z B : List Nat} {k r m : Nat} (hQ : Q.length = k + m) (hZ : Z.length = m) (h : val Q = val (X.take k) * val B) (h2 : val Z + pB m * r = val (Q.drop k) + gd X k * val B) :
    val (Q.take k ++ Z ++ [r]) = val (X.take (k + 1)) * val B := by
  rw [val_append, val_append, val_one, val_take_succ, Nat.add_mul, ← h, val_split Q k (by omega)]
  have e : (Q.take k).length = k := by simp; omega
  rw [List.length_append, e, hZ, pB_add]
  have e2 : pB k * (val Z + pB m * r) = pB k * (val (Q.drop k) + gd X k * val B) := by rw [h2]
  rw [Nat.mul_add, Nat.mul_add, ← Nat.mul_assoc, ← Nat.mul_assoc] at e2
  omega

set_option maxRecDepth 100000 in
set_option maxHeartbeats 1000000 in
theorem mul_any (p q : Option Addr) (n c m d : Nat) (xs ys : List Nat) (w : World) (h1 : Sl w p n c xs) (h2 : Sl w q m d ys) (hn : n ≤ 549755813887) (hm : m ≤ 549755813887) :
    Calls Try.prog 25 #[.slice p n c, .slice q m d] w (RetOwn w (dg (val xs * val ys))) := by
  obtain ⟨i0, hi, hz0, hz1, hz2⟩ := info_parts Try.infoU
  go_enter Try.func25, Try.ntmps25
  go_wp2_with fail
  refine (cut_any _ _ _ _ _ h1).mono ?_
  rintro e w' ⟨rfl, rfl⟩
  go_wp2_with fail
  refine (cut_any _ _ _ _ _ h2).mono ?_
  rintro e w' ⟨rfl, rfl⟩
  have l1 := dg_len_val h1.dig
  have l2 := dg_len_val h2.dig
  rw [h1.len] at l1
  rw [h2.len] at l2
  have KX := h1.cut
  have KY := h2.cut
  have HVX := Lib.hid (val_dg (val xs))
  have HVY := Lib.hid (val_dg (val ys))
  clear h1 h2
  generalize dg (val xs) = X at *
  generalize dg (val ys) = Y at *
  go_wp2_with (at_make; refine wpList_make_full _ rfl _ _ 22 rfl 0 57 i0 (.int .u32 0) 1 Try.underlying22 hi hz0 hz1 _ _ _ _ (X.length + Y.length) rfl rfl (by simp) (by simp) (by rw [hz2]; omega) (by unfold maxLen; omega) (Nat.zero_le _) ?_)
  intro w0 hown hgrow
  have hB0 := blk_of_made hown
  have hf0 : Fr [] w w0 := (Fr.refl _ _).grown hgrow (by simp)
  clear hown hgrow
  have hg0 := hB0.lt
  generalize hg : w.heap.size = g at *
  have HG := Lib.hid hg
  clear hg
  have hstart : Fb w0 g (X.length + Y.length) (List.replicate Y.length 0) := by
    unfold Fb
    rw [spl_map]
    have : (List.replicate (X.length + Y.length) 0).take 0 ++ List.replicate Y.length 0 ++ (List.replicate (X.length + Y.length) 0).drop (0 + (List.replicate Y.length 0).length) = List.replicate (X.length + Y.length) 0 := by
      simp [List.replicate_append_replicate]
      omega
    rw [this]
    exact hB0
  go_wp2
  go_loopw [20] (fun t wr => ∃ (k : Nat) (Q : List Nat), k ≤ X.length ∧ t = .int .i64 k ∧ Q.length = k + Y.length ∧ Dg Q ∧ val Q = val (X.take k) * val Y ∧ Fb wr g (X.length + Y.length) Q ∧ Fr [] w wr) (fun t _ => X.length - (intOf t).toNat)
  case atStart => exact ⟨0, _, Nat.zero_le _, rfl, by simp, Dg.zeros _, by rw [val_zeros]; simp [val], hstart, hf0⟩
  case round =>
    obtain ⟨k, Q, hk, rfl, hQ, hQd, hv, hB, hf⟩ := hrel
    have HQ := Lib.hid hQ
    have Hv := Lib.hid hv
    clear hQ hv hB0 hf0 hstart
    by_cases hlt : k < X.length
    · obtain ⟨b1, o1, rfl, _, m1⟩ := (KX.kept hf).rd.open (by omega)
      have c1 := m1 k (by omega)
      have d1 := KX.dig.at k
      have HT : Hid (∀ (Z : List Nat) (r : Nat), Z.length = Y.length → val Z + pB Y.length * r = val (Q.drop k) + gd X k * val Y → val (Q.take k ++ Z ++ [r]) = val (X.take (k + 1)) * val Y) := fun Z r hZ h => mul_step HQ.out hZ Hv.out h
      clear m1
      generalize gd X k = x at *
      have hsg : Sg (spl ((List.replicate (X.length + Y.length) 0).map dv) 0 Q) k (Q.drop k) := by
        have h1 := (spl_sg (L := (List.replicate (X.length + Y.length) 0).map dv) (o := 0) (Z := Q) (by simp [HQ.out]; omega)).sub k Y.length (by rw [HQ.out]; exact Nat.le_refl _)
        rw [Nat.zero_add, List.take_of_length_le (by simp [HQ.out])] at h1
        exact h1
      have HQK : Hid ((Q.drop k).length = Y.length) := by show _ = _; simp [HQ.out]
      go_wp2_with fail
      refine (addProduct_any g k _ _ _ x q _ _ _ _ hB hsg (hQd.drop _) HQK.out (KY.kept hf) ?_ d1 (by omega)).mono ?_
      · intro h0 a ha
        have := HG.out
        obtain ⟨b, o, h2, h3, _⟩ := KY.rd.open h0
        rw [h2] at ha
        cases ha
        show b ≠ g
        omega
      rintro e w2 ⟨Z, r, rfl, hZ, hZd, hr, hv, hB2, hf2⟩
      have hB3 : Fb w2 g (X.length + Y.length) (Q.take k ++ Z) := by
        unfold Fb
        rw [spl_spl (by simp [HQ.out]; omega) (by rw [HQ.out, hZ]; exact Nat.le_refl _), List.drop_of_length_le (by rw [HQ.out, hZ]; exact Nat.le_refl _), List.append_nil] at hB2
        exact hB2
      have hl3 : (Q.take k ++ Z).length = k + Y.length := by simp [HQ.out, hZ]
      have c3 := hB3.free (k + Y.length)
      have c4 := hB3.cell (show k + Y.length < X.length + Y.length by omega) (by rw [hl3]; exact Nat.le_refl _)
      have HW := Lib.hid (hB3.set (show k + Y.length < X.length + Y.length by omega) hl3 r)
      have HV2 := Lib.hid (HT.out Z r hZ hv)
      have HL3 := Lib.hid hl3
      have hf3 : Fr [] w w2 := hf.trans hf2 (by have := HG.out; simp; omega)
      clear hZ hv hB2 hl3 hsg
      go_wp2_with fail
      go_roundw
      case rel =>
        exact ⟨k + 1, Q.take k ++ Z ++ [r], by omega, by go_num, by rw [List.length_append, HL3.out]; simp; omega, ((hQd.take _).append hZd).append (Dg.one hr), HV2.out, HW.out, hf3.setCell _ _ (by have := HG.out; simp; omega)⟩
      case measure => simp [intOf]; omega
    · obtain rfl : k = X.length := by omega
      have hv := Hv.out
      rw [List.take_length, HVX.out, HVY.out] at hv
      have HO := Lib.hid (Ow.of_blk (base := g) (hB.full HQ.out) (Nat.le_refl _) (by rw [HQ.out]; omega) hQd)
      have HVQ := Lib.hid hv
      rw [HQ.out] at HO
      clear hv
      go_wp2_with fail
      refine (normal_any _ _ _ _ _ _ HO.out).mono ?_
      rw [HVQ.out]
      rintro e w' ⟨⟨p', c', rfl, ho'⟩, rfl⟩
      go_wp2_with fail
      go_ret
      exact ⟨p', c', rfl, by rw [HG.out]; exact ho', hf⟩

end Go.Proofs.Ytfjhdhmneknmkaa
