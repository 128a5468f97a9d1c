/- The document's own Shift, to the right; both. -/
import Derived.Test.YtfjhdhmneknmkaaRef6
namespace Go.Proofs.Ytfjhdhmneknmkaa
open Go.RowKit

theorem shr_digit {y y1 W' r : Nat} (hr : r ≤ 31) (hy : y < 4294967296) :
    (y + 4294967296 * (y1 + 4294967296 * W')) / 2 ^ r = ((y + y1 * 4294967296) / 2 ^ r) % 4294967296 + 4294967296 * ((y1 + 4294967296 * W') / 2 ^ r) := by
  have hPQ : 2 ^ r * 2 ^ (32 - r) = 4294967296 := by rw [← Nat.pow_add, Nat.add_sub_cancel' (by omega)]
  have hP : 0 < 2 ^ r := Nat.two_pow_pos r
  have e1 : (y + 4294967296 * (y1 + 4294967296 * W')) / 2 ^ r / 4294967296 = (y1 + 4294967296 * W') / 2 ^ r := by
    rw [Nat.div_div_eq_div_mul, Nat.mul_comm (2 ^ r) 4294967296, ← Nat.div_div_eq_div_mul]
    congr 1
    omega
  have e2 : (y + 4294967296 * (y1 + 4294967296 * W')) / 2 ^ r = (y + y1 * 4294967296) / 2 ^ r + 4294967296 * (2 ^ (32 - r) * W') := by
    have : y + 4294967296 * (y1 + 4294967296 * W') = (y + y1 * 4294967296) + 2 ^ r * (4294967296 * (2 ^ (32 - r) * W')) := by
      have h : 2 ^ r * (4294967296 * (2 ^ (32 - r) * W')) = 4294967296 * ((2 ^ r * 2 ^ (32 - r)) * W') := by grind
      rw [h, hPQ]
      omega
    rw [this, Nat.add_mul_div_left _ _ hP]
  have e3 : (y + 4294967296 * (y1 + 4294967296 * W')) / 2 ^ r % 4294967296 = (y + y1 * 4294967296) / 2 ^ r % 4294967296 := by
    rw [e2, Nat.add_mul_mod_self_left]
  have e4 := Nat.div_add_mod ((y + 4294967296 * (y1 + 4294967296 * W')) / 2 ^ r) 4294967296
  rw [e1, e3] at e4
  omega
theorem shr_step {Y Z : List Nat} {j r : Nat} (hr : r ≤ 31) (hj : j < Y.length) (hd : Dg Y) (hZ : Z.length = j) (h : val Z + pB j * (val (Y.drop j) / 2 ^ r) = val Y / 2 ^ r) :
    val (Z ++ [((gd Y j + gd Y (j + 1) * 4294967296) / 2 ^ r) % 4294967296]) + pB (j + 1) * (val (Y.drop (j + 1)) / 2 ^ r) = val Y / 2 ^ r := by
  obtain ⟨W', hW⟩ : ∃ W', val (Y.drop (j + 1)) = gd Y (j + 1) + 4294967296 * W' := by
    by_cases h1 : j + 1 < Y.length
    · exact ⟨val (Y.drop (j + 2)), by rw [drop_cons_gd h1]; rfl⟩
    · exact ⟨0, by rw [List.drop_of_length_le (by omega), gd_ge (by omega)]; rfl⟩
  have e1 : val (Y.drop j) = gd Y j + 4294967296 * val (Y.drop (j + 1)) := by rw [drop_cons_gd hj]; rfl
  rw [e1, hW, shr_digit hr (hd.at j), Nat.mul_add] at h
  rw [val_append, val_one, hZ, pB_succ, hW]
  rw [← Nat.mul_assoc, Nat.mul_comm (pB j) 4294967296] at h
  omega

set_option maxRecDepth 100000 in
set_option maxHeartbeats 4000000 in
theorem rshr_any (p : Option Addr) (n c m : Nat) (xs : List Nat) (w : World) (h : Sl w p n c xs) (hn : n ≤ 1048576) (hm0 : 0 < m) (hm : m ≤ 9223372036854775808) (h0 : val xs ≠ 0) :
    Calls Try.prog 18 #[.slice p n c, .int .i64 (-(m : Int))] w (RetOwn w (dg (val xs / 2 ^ m))) := by
  have l1 := dg_len_val h.dig
  rw [h.len] at l1
  have hlz : (dg (val xs)).length ≠ 0 := fun e => h0 (dg_nil.1 (List.eq_nil_of_length_eq_zero e))
  have hd1 : decide ((65536 : Int) < -(m : Int)) = false := decide_eq_false (by omega)
  have hd2 : (((dg (val xs)).length : Int) == 0) = false := beq_eq_false_iff_ne.2 (by omega)
  have hd3 : decide (-(m : Int) < 0) = true := decide_eq_true (by omega)
  have hAd := Dg_dg (val xs)
  by_cases hbig : 32 * (dg (val xs)).length < m
  · have hz : val xs / 2 ^ m = 0 := by
      have h1 := dg_lt (val xs)
      rw [pB_two] at h1
      have h2 : 2 ^ (32 * (dg (val xs)).length) ≤ 2 ^ m := Nat.pow_le_pow_right (by decide) (by omega)
      exact Nat.div_eq_of_lt (by omega)
    rw [hz, dg_zero]
    clear hz
    go_enter Try.func18, Try.ntmps18
    go_wp2_with fail
    refine (rcut_any _ _ _ _ _ h (by omega)).mono ?_
    rintro e w1 ⟨p1, c1, rfl, o1, f1⟩
    clear h o1 h0 hAd
    generalize (dg (val xs)).length = L at *
    go_wp2
    go_ret
    exact ⟨none, 0, rfl, Ow.zero _ _, f1⟩
  · have hdl : decide (-(m : Int) < -32 * ((dg (val xs)).length : Int)) = false := decide_eq_false (by omega)
    have hfin : Hid (val ((dg (val xs)).drop (m / 32)) / 2 ^ (m % 32) = val xs / 2 ^ m) := by
      show _ = _
      rw [val_drop_div hAd, val_dg, shr_split]
    go_enter Try.func18, Try.ntmps18
    go_wp2_with fail
    refine (rcut_any _ _ _ _ _ h (by omega)).mono ?_
    rintro e w1 ⟨p1, c1, rfl, o1, f1⟩
    have s1 := o1.sl
    clear h o1 h0
    generalize dg (val xs) = A at *
    obtain ⟨r, hr⟩ : ∃ r, r = m % 32 := ⟨_, rfl⟩
    obtain ⟨q, hq⟩ : ∃ q, q = m / 32 := ⟨_, rfl⟩
    have hr31 : r ≤ 31 := by omega
    have hqA : q ≤ A.length := by omega
    have hm2 : m ≤ 32 * A.length := by omega
    rw [← hr, ← hq] at hfin
    have hmr : (m : Int) % 32 = (r : Int) := by omega
    have hmq : (m : Int) / 32 = (q : Int) := by omega
    have hYd : Dg (A.drop q) := hAd.drop q
    have hYl : (A.drop q).length = A.length - q := List.length_drop
    have HYL := Lib.hid hYl
    clear hr hq hYl hbig
    go_wp2
    go_loopw [5, 6] (fun v t wr => ∃ (j : Nat) (Z : List Nat), q + j ≤ A.length ∧ t = .int .i64 ((q + j : Nat) : Int) ∧ Z.length = j ∧ Dg Z ∧ val Z + pB j * (val ((A.drop q).drop j) / 2 ^ r) = val (A.drop q) / 2 ^ r ∧ Rw' wr w1.heap.size v j Z ∧ Fr [] w1 wr) (fun _ t _ => A.length - (intOf t).toNat)
    case atStart => exact ⟨0, [], by omega, rfl, rfl, Dg.nil, by simp [val, pB_zero], row_nil _ _, Fr.refl _ _⟩
    case round =>
      obtain ⟨j, Z, hj, rfl, hZ, hZd, hv, hR, hf⟩ := hrel
      have HZ := Lib.hid hZ
      have Hv := Lib.hid hv
      clear hZ hv
      obtain ⟨k, hk⟩ : ∃ k, k = q + j := ⟨_, rfl⟩
      rw [← hk] at hj ⊢
      have HK := Lib.hid hk
      by_cases hlt : k < A.length
      · have HT := Lib.hid (shr_step hr31 (show j < (A.drop q).length by rw [HYL.out]; omega) hYd HZ.out Hv.out)
        have g1 : gd (A.drop q) j = gd A k := by rw [gd_drop, hk]
        have g2 : gd (A.drop q) (j + 1) = gd A (k + 1) := by rw [gd_drop, hk]; rfl
        rw [g1, g2] at HT
        clear hk g1 g2
        obtain ⟨b1, o1, rfl, _, m1⟩ := (s1.kept hf).rd.open (by omega)
        have ca := m1 k (by omega)
        have d1 := hAd.at k
        have d2 := hAd.at (k + 1)
        have hjl : j ≤ 1048576 := by have := HK.out; omega
        have hdv : (gd A k + gd A (k + 1) * 4294967296) / 2 ^ r ≤ gd A k + gd A (k + 1) * 4294967296 := Nat.div_le_self _ _
        by_cases hlt2 : k + 1 < A.length
        · have cb := m1 (k + 1) hlt2
          generalize gd A k = x at *
          generalize gd A (k + 1) = y at *
          have hor : bits .or .u64 (x : Int) ((y : Int) * 4294967296) = (x : Int) + (y : Int) * 4294967296 := by
            have h1 := or64c y x 32 (by omega) (by omega)
            have h2 : ((y * 2 ^ 32 : Nat) : Int) = (y : Int) * 4294967296 := by simp
            rw [h2] at h1
            rw [h1]
            simp
          have EV : Hid (((x : Int) + (y : Int) * 4294967296) / 2 ^ r % 4294967296 = (((x + y * 4294967296) / 2 ^ r % 4294967296 : Nat) : Int)) := by
            show _ = _
            simp
          clear m1
          go_wp2_with (at_builtin; refine wpList_app1 rfl _ _ rfl w1.heap.size _ j Z rfl (by exact row_kept hR ((Fr.refl _ _).alloc _)) _ _ ((x + y * 4294967296) / 2 ^ r % 4294967296) rfl _ (by exact blk_cell0' _ _) (by exact EV.out) (by omega) (by have := hf.size; simp; omega) w1 (hf.alloc _) (Nat.le_refl _) ?_)
          intro v' w' hR' hf'
          go_wp2
          go_roundw
          case rel =>
            have hk := HK.out
            exact ⟨j + 1, Z ++ [(x + y * 4294967296) / 2 ^ r % 4294967296], by omega, congrArg (Value.int .i64) (by omega), by simp [HZ.out], hZd.append (Dg.one (by omega)), HT.out, hR', hf'⟩
          case measure => simp [intOf]; omega
        · have hy0 : gd A (k + 1) = 0 := gd_ge (by omega)
          rw [hy0] at HT hdv
          clear hy0 d2 m1
          generalize gd A k = x at *
          rw [Nat.zero_mul, Nat.add_zero] at HT
          have EV : Hid ((x : Int) / 2 ^ r % 4294967296 = ((x / 2 ^ r % 4294967296 : Nat) : Int)) := by
            show _ = _
            simp
          go_wp2_with (at_builtin; refine wpList_app1 rfl _ _ rfl w1.heap.size _ j Z rfl (by exact row_kept hR ((Fr.refl _ _).alloc _)) _ _ (x / 2 ^ r % 4294967296) rfl _ (by exact blk_cell0' _ _) (by exact EV.out) (by omega) (by have := hf.size; simp; omega) w1 (hf.alloc _) (Nat.le_refl _) ?_)
          intro v' w' hR' hf'
          go_wp2
          go_roundw
          case rel =>
            have hk := HK.out
            exact ⟨j + 1, Z ++ [x / 2 ^ r % 4294967296], by omega, congrArg (Value.int .i64) (by omega), by simp [HZ.out], hZd.append (Dg.one (by omega)), HT.out, hR', hf'⟩
          case measure => simp [intOf]; omega
      · have hke : k = A.length := by omega
        have hv := Hv.out
        have hj2 : j = (A.drop q).length := by have := HK.out; rw [HYL.out]; omega
        rw [hj2, List.drop_of_length_le (Nat.le_refl _)] at hv
        have hval : val Z = val xs / 2 ^ m := by
          rw [← hfin.out, ← hv]
          simp [val]
        have HVL := Lib.hid hval
        have hjl : j ≤ 1048576 := by have := HK.out; omega
        obtain ⟨p', c', rfl, ho⟩ := ow_of_row (by rw [← HZ.out] at hR; exact hR) hZd
        rw [HZ.out] at ho ⊢
        clear hv hval hj2 hk hR hlt
        go_wp2_with fail
        refine (rcut_any _ _ _ _ _ ho.sl (by omega)).mono ?_
        rw [HVL.out]
        rintro e w4 ⟨p4, c4, rfl, o4, f4⟩
        go_wp2_with fail
        go_ret
        have hs1 := f1.size
        have hs2 := hf.size
        exact ⟨p4, c4, rfl, o4.mono (by omega), (f1.trans hf (by simp)).trans f4 (by simp)⟩

set_option maxRecDepth 100000 in
set_option maxHeartbeats 1000000 in
theorem rshift_any (p : Option Addr) (n c : Nat) (s : Int) (xs : List Nat) (w : World) (h : Sl w p n c xs) (hn : n ≤ 1048576) (hs : -9223372036854775808 ≤ s) (hs2 : s ≤ 9223372036854775807) :
    Calls Try.prog 18 #[.slice p n c, .int .i64 s] w (RetOwn w (dg (shiftN (val xs) s))) := by
  by_cases h1 : 65536 < s
  · have e : dg (shiftN (val xs) s) = [] := by rw [shiftN, if_pos h1, dg_zero]
    rw [e]
    clear e
    go_enter Try.func18, Try.ntmps18
    go_wp2_with fail
    refine (rcut_any _ _ _ _ _ h (by omega)).mono ?_
    rintro e w1 ⟨p1, c1, rfl, o1, f1⟩
    clear o1 h
    go_wp2
    go_ret
    exact ⟨none, 0, rfl, Ow.zero _ _, f1⟩
  · by_cases h0 : val xs = 0
    · have e : dg (shiftN (val xs) s) = [] := by
        rw [h0, shiftN, if_neg h1]
        split
        · rw [Nat.zero_div, dg_zero]
        · rw [Nat.zero_mul, dg_zero]
      have hl : (dg (val xs)).length = 0 := by rw [h0, dg_zero]; rfl
      have HL := Lib.hid hl
      have hd1 : decide ((65536 : Int) < s) = false := decide_eq_false h1
      rw [e]
      clear e h0 hl h1
      go_enter Try.func18, Try.ntmps18
      go_wp2_with fail
      refine (rcut_any _ _ _ _ _ h (by omega)).mono ?_
      rintro e w1 ⟨p1, c1, rfl, o1, f1⟩
      rw [HL.out]
      clear o1 h
      go_wp2
      go_ret
      exact ⟨none, 0, rfl, Ow.zero _ _, f1⟩
    · by_cases h2 : s < 0
      · have e : shiftN (val xs) s = val xs / 2 ^ (-s).toNat := by rw [shiftN, if_neg h1, if_pos h2]
        rw [e]
        obtain ⟨m, hm⟩ : ∃ m : Nat, s = -(m : Int) := ⟨(-s).toNat, by omega⟩
        subst hm
        have e2 : (- -(m : Int)).toNat = m := by omega
        rw [e2]
        exact rshr_any p n c m xs w h hn (by omega) (by omega) h0
      · have e : shiftN (val xs) s = val xs * 2 ^ s.toNat := by rw [shiftN, if_neg h1, if_neg h2]
        rw [e]
        obtain ⟨m, rfl⟩ := Int.eq_ofNat_of_zero_le (show 0 ≤ s by omega)
        rw [Int.toNat_natCast]
        exact rshl_any p n c m xs w h hn (by omega) h0

end Go.Proofs.Ytfjhdhmneknmkaa
