/- The document's own Mul, and division by a digit. -/
import Derived.Test.YtfjhdhmneknmkaaRef1
namespace Go.Proofs.Ytfjhdhmneknmkaa
open Go.RowKit

set_option maxRecDepth 100000 in
set_option maxHeartbeats 2000000 in
theorem rmul_any (p q : Option Addr) (n c m d : Nat) (xs ys : List Nat) (w : World) (h1 : Sl w p n c xs) (h2 : Sl w q m d ys) (hn : n ≤ 549755813886) (hm : m ≤ 549755813886) :
    Calls Try.prog 62 #[.slice p n c, .slice q m d] w (RetOwn w (dg (val xs * val ys))) := by
  obtain ⟨i0, hi, hz0, hz1, hz2⟩ := info_parts Try.infoU
  have LX := h1.len
  have LY := h2.len
  go_enter Try.func62, Try.ntmps62
  go_wp2_with (at_make; refine wpList_make_full _ rfl _ _ 22 rfl 0 57 i0 (.int .u32 0) 1 Try.underlying22 hi hz0 hz1 _ _ _ _ (n + m + 1) rfl rfl (by simp) (by simp) (by rw [hz2]; omega) (by unfold maxLen; omega) (Nat.zero_le _) ?_)
  intro w0 hown hgrow
  have hB0 := blk_of_made hown
  have hf0 : Fr [] w w0 := (Fr.refl _ _).grown hgrow (by simp)
  clear hown hgrow
  have hg0 := hB0.lt
  generalize hg : w.heap.size = g at *
  have HG := Lib.hid hg
  clear hg
  have hstart : Fb w0 g (n + m + 1) (List.replicate m 0) := by
    unfold Fb
    rw [spl_map]
    have : (List.replicate (n + m + 1) 0).take 0 ++ List.replicate m 0 ++ (List.replicate (n + m + 1) 0).drop (0 + (List.replicate m 0).length) = List.replicate (n + m + 1) 0 := by
      simp [List.replicate_append_replicate]
      omega
    rw [this]
    exact hB0
  go_wp2
  go_loopw [6] (fun t wr => ∃ (k : Nat) (Q : List Nat), k ≤ n ∧ t = .int .i64 k ∧ Q.length = k + m ∧ Dg Q ∧ val Q = val (xs.take k) * val ys ∧ Fb wr g (n + m + 1) Q ∧ Fr [] w wr) (fun t _ => n - (intOf t).toNat)
  case atStart => exact ⟨0, _, Nat.zero_le _, rfl, by simp, Dg.zeros _, by rw [val_zeros]; simp [val], hstart, hf0⟩
  case round =>
    obtain ⟨k, Q, hk, rfl, hQ, hQd, hv, hB, hf⟩ := hrel
    have HQ := Lib.hid hQ
    have Hv := Lib.hid hv
    clear hQ hv hB0 hf0 hstart
    by_cases hlt : k < n
    · obtain ⟨b1, o1, hp, hb1, m1⟩ := h1.rd.open (by omega)
      subst hp
      have d1 := h1.dig.at k
      have HC : Hid (w.cell? ⟨b1, o1 + k, none⟩ = some (dv (gd xs k))) := m1 k (by omega)
      have HT : Hid (∀ (Z : List Nat) (r : Nat), Z.length = m → val Z + pB m * r = val (Q.drop k) + gd xs k * val ys → val (Q.take k ++ Z ++ [r]) = val (xs.take (k + 1)) * val ys) := fun Z r hZ h => mul_step HQ.out hZ Hv.out h
      clear m1
      obtain ⟨x, hgx⟩ : ∃ x, x = gd xs k := ⟨_, rfl⟩
      rw [← hgx] at d1 HC HT
      clear hgx
      obtain ⟨L, hL⟩ : ∃ L, L = spl ((List.replicate (n + m + 1) 0).map dv) 0 Q := ⟨_, rfl⟩
      have hLl : L.length = n + m + 1 := by rw [hL, spl_len (by simp [HQ.out]; omega)]; simp
      have hsg : Sg L k (Q.drop k) := by
        have h1 := (spl_sg (L := (List.replicate (n + m + 1) 0).map dv) (o := 0) (Z := Q) (by simp [HQ.out]; omega)).sub k m (by rw [HQ.out]; exact Nat.le_refl _)
        rw [Nat.zero_add, List.take_of_length_le (by simp [HQ.out])] at h1
        rw [hL]
        exact h1
      have hQK : (Q.drop k).length = m := by simp [HQ.out]
      have hBL : Blk wr g L := by rw [hL]; exact hB
      have HL := Lib.hid hL
      clear hL
      obtain ⟨wo, hwo⟩ : ∃ wo : World, wo = wr := ⟨_, rfl⟩
      subst hwo
      go_wp2
      go_loopw [7, 8] (fun s t wr => ∃ (j C : Nat) (Z : List Nat), j ≤ m ∧ s = .int .u64 C ∧ t = .int .i64 j ∧ C ≤ 4294967295 ∧ Z.length = j ∧ Dg Z ∧ val Z + pB j * C = val ((Q.drop k).take j) + x * val (ys.take j) ∧ Blk wr g (spl L k Z) ∧ Fr [g] wo wr) (fun _ t _ => m - (intOf t).toNat)
      case atStart => exact ⟨0, 0, [], Nat.zero_le _, rfl, rfl, by omega, rfl, Dg.nil, rfl, by rw [spl_nil]; exact hBL, Fr.refl _ _⟩
      case round =>
        obtain ⟨j, C, Z, hj, rfl, rfl, hC, hZ, hZd, hvz, hB2, hf2⟩ := hrel
        have HZ := Lib.hid hZ
        have Hvz := Lib.hid hvz
        have hfw : Fr [] w wr := hf.trans hf2 (by have := HG.out; simp; omega)
        have c0 : wr.cell? ⟨b1, o1 + k, none⟩ = some (dv x) := (hfw.cell (p := ⟨b1, o1 + k, none⟩) hb1 (by simp)).trans HC.out
        clear hZ hvz
        by_cases hlj : j < m
        · obtain ⟨b2, o2, rfl, _, m2⟩ := (h2.kept hfw).rd.open (by omega)
          have c1 := m2 j (by omega)
          have c2 : wr.cell? ⟨g, k + j, none⟩ = some (dv (gd (Q.drop k) j)) := hB2.cell (by rw [spl_at (by rw [HZ.out]; omega), if_neg (by omega), if_neg (by rw [HZ.out]; omega)]; exact hsg.2 j (by omega))
          have c3 := hB2.free (k + j)
          have d2 := h2.dig.at j
          have d3 := (hQd.drop k).at j
          have HT2 : Hid (∀ T, T = C + (x * gd ys j + gd (Q.drop k) j) → _) := fun T => addp_step HZ.out Hvz.out
          have HW := Lib.hid (hB2.set (k + j))
          have HS : Hid (∀ v, (spl L k Z).set (k + j) (dv v) = spl L k (Z ++ [v])) := fun v => by
            have := spl_set (L := L) (o := k) (Z := Z) (by rw [HZ.out]; omega) v
            rwa [HZ.out] at this
          have hbd := mul_small d1 d2
          have hbd' : (x : Int) * (gd ys j : Nat) ≤ 18446744065119617025 := by
            rw [← Int.natCast_mul]; omega
          have hbd0 : (0 : Int) ≤ (x : Int) * (gd ys j : Nat) := by rw [← Int.natCast_mul]; omega
          generalize gd ys j = y at *
          generalize gd (Q.drop k) j = z at *
          clear m2
          go_wp2
          go_quiet (fail)
          go_wp2
          go_roundw
          case rel =>
            have eT : (C : Int) + ((x : Int) * y + z) = ((C + (x * y + z) : Nat) : Int) := by simp
            have eM : ((C : Int) + ((x : Int) * y + z)) % 4294967296 = (((C + (x * y + z)) % 4294967296 : Nat) : Int) := by rw [eT]; omega
            have eD : ((C : Int) + ((x : Int) * y + z)) / 4294967296 = (((C + (x * y + z)) / 4294967296 : Nat) : Int) := by rw [eT]; omega
            rw [eM, eD]
            refine ⟨j + 1, _, Z ++ [(C + (x * y + z)) % 4294967296], by omega, rfl, by go_num, by omega, by simp [HZ.out], hZd.append (Dg.one (by omega)), HT2.out _ rfl, ?_, (hf2.drewN _).setCell _ _ (by simp)⟩
            rw [← HS.out]
            exact HW.out _
          case measure => simp [intOf]; omega
        · obtain rfl : j = m := by omega
          have hv := Hvz.out
          rw [List.take_of_length_le (by omega), List.take_of_length_le (by omega)] at hv
          have hB3 : Fb wr g (n + j + 1) (Q.take k ++ Z) := by
            unfold Fb
            rw [HL.out, spl_spl (by simp [HQ.out]; omega) (by rw [HQ.out, HZ.out]; exact Nat.le_refl _), List.drop_of_length_le (by rw [HQ.out, HZ.out]; exact Nat.le_refl _), List.append_nil] at hB2
            exact hB2
          have hl3 : (Q.take k ++ Z).length = k + j := by simp [HQ.out, HZ.out]
          have c3 := hB3.free (k + j)
          have c4 := hB3.cell (show k + j < n + j + 1 by omega) (by rw [hl3]; exact Nat.le_refl _)
          have HW := Lib.hid (hB3.set (show k + j < n + j + 1 by omega) hl3 C)
          have HV2 := Lib.hid (HT.out Z C HZ.out hv)
          have HL3 := Lib.hid hl3
          have HCe : (C : Int) % 4294967296 = C := by omega
          clear hv hB2 hl3 hsg hBL
          go_wp2
          go_roundw
          case rel =>
            exact ⟨k + 1, Q.take k ++ Z ++ [C], by omega, by go_num, by rw [List.length_append, HL3.out]; simp; omega, ((hQd.take _).append hZd).append (Dg.one (by omega)), HV2.out, HW.out, hfw.setCell _ _ (by have := HG.out; simp; omega)⟩
          case measure => simp [intOf]; omega
    · obtain rfl : k = n := by omega
      have hv := Hv.out
      rw [List.take_of_length_le (by omega)] at hv
      have hB3 := hB.set (show k + m < k + m + 1 by omega) HQ.out 0
      have hlen : (Q ++ [0]).length = k + m + 1 := by simp [HQ.out]
      have hfull : Blk wr g ((Q ++ [0]).map dv) := by
        have hB' := hB
        unfold Fb at hB'
        rw [spl_map] at hB'
        have e : (List.replicate (k + m + 1) 0).take 0 ++ Q ++ (List.replicate (k + m + 1) 0).drop (0 + Q.length) = Q ++ [0] := by
          rw [HQ.out]
          simp
        rw [e] at hB'
        exact hB'
      have HO := Ow.of_blk (base := g) hfull (Nat.le_refl _) (by rw [hlen]; omega) (hQd.append (Dg.one (by omega)))
      have hval : val (Q ++ [0]) = val xs * val ys := by rw [val_append, val_one, hv]; simp
      rw [hlen] at HO
      have HO2 := Lib.hid HO
      have HV2 := Lib.hid hval
      clear HO hval hlen hfull hB3 hv hB
      go_wp2_with fail
      refine (rcut_any _ _ _ _ _ HO2.out.sl (by omega)).mono ?_
      rw [HV2.out]
      rintro e w2 ⟨p2, c2, rfl, ho2, hf2⟩
      go_wp2_with fail
      go_ret
      exact ⟨p2, c2, rfl, ho2.mono hf.size, hf.trans hf2 (by simp)⟩

end Go.Proofs.Ytfjhdhmneknmkaa
