/- dspcompilermake.Mod, the document's own Pow and Root. -/
import Derived.Test.YtfjhdhmneknmkaaRef8
namespace Go.Proofs.Ytfjhdhmneknmkaa
open Go.RowKit

set_option maxRecDepth 100000 in
set_option maxHeartbeats 400000 in
theorem mod_any (x m : Int) (w : World) (hm : 1 ≤ m) (hm2 : m ≤ 1000000) (_hx : -9223372036854775808 ≤ x) (_hx2 : x ≤ 9223372036854775807) :
    Calls Try.prog 11 #[.int .i64 x, .int .i64 m] w fun e w' => e = .returned (.int .i64 (x % m)) ∧ w = w' := by
  have hd : decide (m < 1) = false := decide_eq_false (by omega)
  have hne : (m == 0) = false := beq_eq_false_iff_ne.2 (by omega)
  have hl := Int.emod_lt_of_pos x (show 0 < m by omega)
  have hg := Int.emod_nonneg x (show m ≠ 0 by omega)
  have ht : (x.tmod m = x % m) ∨ (x.tmod m = x % m - m) := by
    by_cases h0 : 0 ≤ x
    · exact Or.inl (Int.tmod_eq_emod_of_nonneg h0)
    · rw [Int.tmod_eq_emod]
      have hn : (m.natAbs : Int) = m := by omega
      split
      · exact Or.inl (by simp)
      · exact Or.inr (by rw [hn])
  generalize x % m = R at *
  rcases ht with ht | ht
  · have hb : decide (R < 0) = false := decide_eq_false (by omega)
    go_enter Try.func11, Try.ntmps11
    go_wp2
    go_ret
    exact ⟨rfl, rfl⟩
  · have hb : decide (R - m < 0) = true := decide_eq_true (by omega)
    go_enter Try.func11, Try.ntmps11
    go_wp2
    go_ret
    exact ⟨ret_int (by omega), rfl⟩

set_option maxRecDepth 100000 in
set_option maxHeartbeats 1000000 in
theorem rpow_yes (p : Option Addr) (n c e : Nat) (xs : List Nat) (w : World) (h : Sl w p n c xs) (hn : n ≤ 1048576) (he : e ≤ 64) :
    Calls Try.prog 13 #[.slice p n c, .int .i64 e] w fun e1 w' => ∃ q cq, e1 = .returned (.tuple #[.slice q (dg (val xs ^ e)).length cq, .int .i64 0]) ∧ Ow w' w.heap.size q (dg (val xs ^ e)).length cq (dg (val xs ^ e)) ∧ Fr [] w w' := by
  have hd1 : decide ((e : Int) < 0) = false := decide_eq_false (by omega)
  have hd2 : decide ((64 : Int) < (e : Int)) = false := decide_eq_false (by omega)
  have hplen : ∀ k, (dg (val xs ^ k)).length ≤ n * k + 1 := fun k => by have := pow_len h.dig k; rw [h.len] at this; exact this
  have HP := Lib.hid hplen
  have h0 := Ow.made w (base := w.heap.size) [1] (Nat.le_refl _) (by simp) (Dg.one (by decide))
  simp only [List.map_cons, List.map_nil, List.length_cons, List.length_nil, Nat.zero_add] at h0
  have H0 := Lib.hid h0
  clear hplen h0
  go_enter Try.func13, Try.ntmps13
  go_wp2
  go_loopw [1, 6] (fun s v wr => ∃ (k : Nat) (q : Option Addr) (cq : Nat), k ≤ e ∧ s = .int .i64 ((e - k : Nat) : Int) ∧ v = .slice q (dg (val xs ^ k)).length cq ∧ Ow wr w.heap.size q (dg (val xs ^ k)).length cq (dg (val xs ^ k)) ∧ Fr [] w wr) (fun s _ _ => (intOf s).toNat)
  case atStart => exact ⟨0, some ⟨w.heap.size, 0, none⟩, 1, Nat.zero_le _, rfl, by rw [Nat.pow_zero, dg_one]; rfl, by rw [Nat.pow_zero, dg_one]; exact H0.out, Fr.new _⟩
  case round =>
    obtain ⟨k, q, cq, hk, rfl, rfl, ho, hf⟩ := hrel
    by_cases hlt : k < e
    · have hlen : (dg (val xs ^ k)).length ≤ 549755813886 := by
        have h1 := HP.out k
        have h2 : n * k ≤ 1048576 * 64 := Nat.mul_le_mul hn (by omega)
        omega
      have hpos : decide ((0 : Int) < ((e - k : Nat) : Int)) = true := decide_eq_true (by omega)
      have hpos2 : 0 < e - k := by omega
      have hsub : ((e - k : Nat) : Int) - 1 = ((e - (k + 1) : Nat) : Int) := by omega
      have HSUB := Lib.hid hsub
      have heb : e - k ≤ 64 := by omega
      clear hsub
      go_wp2_with fail
      refine (rmul_any _ _ _ _ _ _ _ _ _ ho.sl (h.kept hf) hlen (by omega)).mono ?_
      rw [val_dg, ← Nat.pow_succ]
      rintro e1 w2 ⟨q2, c2, rfl, o2, f2⟩
      have hsz := hf.size
      have o3 := o2.mono hsz
      clear o2 ho
      go_wp2_with fail
      go_roundw
      case rel => exact ⟨k + 1, q2, c2, by omega, congrArg (Value.int .i64) HSUB.out, rfl, o3, hf.trans f2 (by simp)⟩
      case measure => simp [intOf]; omega
    · obtain rfl : k = e := by omega
      rw [Nat.sub_self]
      go_wp2
      go_ret2
      exact ⟨q, cq, rfl, ho, hf⟩
theorem rpow_no (p : Option Addr) (n c : Nat) (e : Int) (w : World) (he : e < 0 ∨ 64 < e) :
    Calls Try.prog 13 #[.slice p n c, .int .i64 e] w fun e1 w' => e1 = .returned (.tuple #[.slice none 0 0, .int .i64 1]) ∧ w = w' := by
  by_cases h0 : e < 0
  · go_enter Try.func13, Try.ntmps13
    go_wp2
    go_ret2
    exact ⟨rfl, rfl⟩
  · have h1 : 64 < e := by omega
    go_enter Try.func13, Try.ntmps13
    go_wp2
    go_ret2
    exact ⟨rfl, rfl⟩

theorem dg_pow_len {b L : Nat} (h : b < 32 * L) : (dg (2 ^ b)).length ≤ L := dg_len_le (by rw [pB_two]; exact Nat.pow_lt_pow_right (by decide) h)
theorem root_start {v e : Nat} (he : 1 ≤ e) : v < (0 + 2 ^ (bl v / e + 1)) ^ e := by
  rw [Nat.zero_add, ← Nat.pow_mul]
  have h1 := bl_lt v
  have h2 : bl v ≤ (bl v / e + 1) * e := by
    have := Nat.div_add_mod (bl v) e
    have h3 := Nat.mod_lt (bl v) (show 0 < e by omega)
    rw [Nat.add_mul, Nat.one_mul, Nat.mul_comm (bl v / e) e]
    omega
  exact Nat.lt_of_lt_of_le h1 (Nat.pow_le_pow_right (by decide) h2)

set_option maxRecDepth 100000 in
set_option maxHeartbeats 2000000 in
theorem rroot_yes (p : Option Addr) (n c e : Nat) (xs : List Nat) (w : World) (h : Sl w p n c xs) (hn : n ≤ 2048) (he : 1 ≤ e) (he2 : e ≤ 64) :
    Calls Try.prog 15 #[.slice p n c, .int .i64 e] w fun e1 w' => ∃ q cq, e1 = .returned (.tuple #[.slice q (dg (rt e (val xs))).length cq, .int .i64 0]) ∧ Sl w' q (dg (rt e (val xs))).length cq (dg (rt e (val xs))) ∧ Fr [] w w' := by
  have hd1 : decide ((e : Int) < 1) = false := decide_eq_false (by omega)
  have hd2 : decide ((64 : Int) < (e : Int)) = false := decide_eq_false (by omega)
  have hne : ((e : Int) == 0) = false := beq_eq_false_iff_ne.2 (by omega)
  have hvb : bl (val xs) ≤ 65536 := by
    have h1 := val_lt h.dig
    rw [h.len, pB_two] at h1
    have h2 := bl_le h1
    omega
  have hln : (dg (val xs)).length ≤ n := by
    have := dg_len_val h.dig
    rw [h.len] at this
    exact this
  obtain ⟨K, hK⟩ : ∃ K, K = bl (val xs) / e := ⟨_, rfl⟩
  have hK1 : ((bl (val xs) : Nat) : Int) / (e : Int) = (K : Int) := by rw [hK]; exact (Int.natCast_ediv _ _).symm
  have hK2 : Int.tdiv ((bl (val xs) : Nat) : Int) (e : Int) = (K : Int) := by rw [Int.tdiv_eq_ediv_of_nonneg (by omega)]; exact hK1
  have hst := root_start (v := val xs) he
  rw [← hK] at hst
  have hKb : K ≤ 65536 := by
    rw [hK]
    exact Nat.le_trans (Nat.div_le_self _ _) hvb
  have HST := Lib.hid hst
  clear hK hst
  go_enter Try.func15, Try.ntmps15
  go_wp2_with fail
  refine (rbitlen_any _ _ _ _ _ h (by omega)).mono ?_
  rintro e1 w1 ⟨rfl, f1⟩
  go_wp2_with fail
  go_loopw [6, 7] (fun s t wr => ∃ (b r : Nat) (q : Option Addr) (cq : Nat), b ≤ K + 1 ∧ t = .int .i64 ((b : Int) - 1) ∧ s = .slice q (dg r).length cq ∧ Sl wr q (dg r).length cq (dg r) ∧ r ^ e ≤ val xs ∧ val xs < (r + 2 ^ b) ^ e ∧ Fr [] w wr) (fun _ t _ => (intOf t + 1).toNat)
  case atStart => exact ⟨K + 1, 0, none, 0, Nat.le_refl _, congrArg (Value.int .i64) (by omega), by rw [dg_zero]; rfl, by rw [dg_zero]; exact Sl.zero _, by rw [Nat.zero_pow (by omega)]; exact Nat.zero_le _, HST.out, f1⟩
  case round =>
    obtain ⟨b, r, q, cq, hb, rfl, rfl, hs, hlo, hhi, hf⟩ := hrel
    have hrv : r ≤ val xs := Nat.le_trans (le_pow_self he) hlo
    have hrl := dg_len_mono hrv
    have HLO := Lib.hid hlo
    have HHI := Lib.hid hhi
    clear hlo hhi f1 hrv
    cases b with
    | zero =>
      have hrt : rt e (val xs) = r := rt_unique he HLO.out HHI.out
      have HR := Lib.hid hrt
      clear hrt
      rw [show (((0 : Nat) : Int) - 1) = -1 from rfl]
      go_wp2
      go_ret2
      rw [HR.out]
      exact ⟨q, cq, rfl, hs, hf⟩
    | succ b =>
      rw [show (((b + 1 : Nat) : Int) - 1) = b from by omega]
      have hb' : b ≤ 65536 := by omega
      have hsh : shiftN (val [1]) (b : Int) = 2 ^ b := by
        rw [shiftN, if_neg (by omega), if_neg (by omega), val_one, Nat.one_mul, Int.toNat_natCast]
      have HSH := Lib.hid hsh
      have hl2 : (dg (2 ^ b)).length ≤ 2049 := dg_pow_len (by omega)
      have hl3 := dg_add_len r (2 ^ b)
      clear hsh
      go_wp2_with fail
      refine (rshift_any _ 1 1 (b : Int) [1] _ (made1 rfl rfl (by decide)) (by decide) (by omega) (by omega)).mono ?_
      rw [HSH.out]
      rintro e1 w2 ⟨p2, c2, rfl, o2, f2⟩
      have f2w := (Fr.new (w := wr) _).trans f2 (by simp)
      have s2 := o2.sl
      replace hs := hs.kept f2w
      have hfw := hf.trans f2w (by simp)
      clear o2 f2 f2w hf
      go_wp2_with fail
      refine (radd_any _ _ _ _ _ _ _ _ _ hs s2 (by omega) (by omega)).mono ?_
      rw [val_dg, val_dg]
      rintro e1 w3 ⟨p3, c3, rfl, o3, f3⟩
      have s3 := o3.sl
      replace hs := hs.kept f3
      replace hfw := hfw.trans f3 (by simp)
      clear o3 f3 s2
      go_wp2_with fail
      refine (rpow_yes _ _ _ e _ _ s3 (by omega) he2).mono ?_
      rw [val_dg]
      rintro e1 w4 ⟨p4, c4, rfl, o4, f4⟩
      have s4 := o4.sl
      replace hs := hs.kept f4
      replace s3 := s3.kept f4
      replace hfw := hfw.trans f4 (by simp)
      have hpl : (dg ((r + 2 ^ b) ^ e)).length ≤ 1099511627776 := by
        have h1 := pow_len (Dg_dg (r + 2 ^ b)) e
        rw [val_dg] at h1
        have h2 : (dg (r + 2 ^ b)).length * e ≤ 4200 * 64 := Nat.mul_le_mul (by omega) he2
        omega
      clear o4 f4
      go_wp2_with fail
      refine (rcompare_any _ _ _ _ _ _ _ _ _ s4 (h.kept hfw) hpl (by omega)).mono ?_
      rw [val_dg]
      by_cases hle : (r + 2 ^ b) ^ e ≤ val xs
      · have hN : Hid (val xs < (r + 2 ^ b + 2 ^ b) ^ e) := by
          have h1 := HHI.out
          rw [Nat.pow_succ] at h1
          show val xs < _
          have h2 : r + 2 ^ b + 2 ^ b = r + 2 ^ b * 2 := by omega
          rw [h2]
          exact h1
        have hc : decide (cmpN ((r + 2 ^ b) ^ e) (val xs) ≤ 0) = true := decide_eq_true (by unfold cmpN; split; decide; rw [if_neg (by omega)]; decide)
        have HL := Lib.hid hle
        rintro e1 w5 ⟨rfl, f5⟩
        generalize cmpN ((r + 2 ^ b) ^ e) (val xs) = z at *
        replace s3 := s3.kept f5
        replace hfw := hfw.trans f5 (by simp)
        clear s4 hs f5 hle hl3 hl2 hrl hpl
        go_wp2_with fail
        go_roundw
        case rel => exact ⟨b, r + 2 ^ b, p3, c3, by omega, rfl, rfl, s3, HL.out, hN.out, hfw⟩
        case measure => simp [intOf]
      · have HL : Hid (val xs < (r + 2 ^ b) ^ e) := by show _ < _; omega
        have hc : decide (cmpN ((r + 2 ^ b) ^ e) (val xs) ≤ 0) = false := decide_eq_false (by rw [cmpN_gt (by omega)]; decide)
        rintro e1 w5 ⟨rfl, f5⟩
        generalize cmpN ((r + 2 ^ b) ^ e) (val xs) = z at *
        replace hs := hs.kept f5
        replace hfw := hfw.trans f5 (by simp)
        clear s4 s3 f5 hle hl3 hl2 hrl hpl
        go_wp2_with fail
        go_roundw
        case rel => exact ⟨b, r, q, cq, by omega, rfl, rfl, hs, HLO.out, HL.out, hfw⟩
        case measure => simp [intOf]
theorem rroot_no (p : Option Addr) (n c : Nat) (e : Int) (w : World) (he : e < 1 ∨ 64 < e) :
    Calls Try.prog 15 #[.slice p n c, .int .i64 e] w fun e1 w' => e1 = .returned (.tuple #[.slice none 0 0, .int .i64 1]) ∧ w = w' := by
  by_cases h0 : e < 1
  · go_enter Try.func15, Try.ntmps15
    go_wp2
    go_ret2
    exact ⟨rfl, rfl⟩
  · have h1 : 64 < e := by omega
    go_enter Try.func15, Try.ntmps15
    go_wp2
    go_ret2
    exact ⟨rfl, rfl⟩

end Go.Proofs.Ytfjhdhmneknmkaa
