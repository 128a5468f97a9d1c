/- The document's own Shift. -/
import Derived.Test.YtfjhdhmneknmkaaRef5
import Derived.Test.YtfjhdhmneknmkaaTxt1
namespace Go.Proofs.Ytfjhdhmneknmkaa
open Go.RowKit

theorem made_list (n : Nat) : (madeCells #[Value.int .u32 0] n).toList = (List.replicate n 0).map dv := by
  simp only [madeCells, Array.toList_map, Array.toList_range]
  rw [List.map_replicate]
  apply List.ext_getElem (by simp)
  intro i h1 h2
  simp [Nat.mod_one]

theorem or64c (x y : Nat) (k : Nat) (hy : y < 2 ^ k) (h : y + x * 2 ^ k < 18446744073709551616) : bits .or .u64 (y : Int) ((x * 2 ^ k : Nat) : Int) = ((y + x * 2 ^ k : Nat) : Int) := by
  rw [bits_or_u64_nat _ _ (by omega) (by omega), Nat.or_comm, or_add x k y hy, Nat.add_comm]

set_option maxRecDepth 100000 in
set_option maxHeartbeats 4000000 in
theorem rshl_any (p : Option Addr) (n c m : Nat) (xs : List Nat) (w : World) (h : Sl w p n c xs) (hn : n ≤ 1048576) (hm : m ≤ 65536) (h0 : val xs ≠ 0) :
    Calls Try.prog 18 #[.slice p n c, .int .i64 m] w (RetOwn w (dg (val xs * 2 ^ m))) := by
  obtain ⟨i0, hi, hz0, hz1, hz2⟩ := info_parts Try.infoU
  have l1 := dg_len_val h.dig
  rw [h.len] at l1
  have hlz : (dg (val xs)).length ≠ 0 := fun e => h0 (dg_nil.1 (List.eq_nil_of_length_eq_zero e))
  have hd1 : decide ((65536 : Int) < (m : Int)) = false := by simp; omega
  have hd2 : (((dg (val xs)).length : Int) == 0) = false := beq_eq_false_iff_ne.2 (by omega)
  have hd3 : decide ((m : Int) < 0) = false := by simp
  have hAd := Dg_dg (val xs)
  have HV : Hid (∀ Z : List Nat, val Z = 2 ^ (m % 32) * val (dg (val xs)) → val (List.replicate (m / 32) 0 ++ Z) = val xs * 2 ^ m) := by
    intro Z hZ
    rw [val_append, val_zeros, List.length_replicate, hZ, val_dg, Nat.zero_add, Nat.mul_comm (2 ^ _)]
    exact shl_split _ _
  go_enter Try.func18, Try.ntmps18
  go_wp2_with fail
  refine (rcut_any _ _ _ _ _ h (by omega)).mono ?_
  rintro e w1 ⟨p1, c1, rfl, o1, f1⟩
  have s1 := o1.sl
  clear h o1 h0
  have hA1 := s1.len
  generalize dg (val xs) = A at *
  obtain ⟨r, hr⟩ : ∃ r, r = m % 32 := ⟨_, rfl⟩
  obtain ⟨q, hq⟩ : ∃ q, q = m / 32 := ⟨_, rfl⟩
  have hr31 : r ≤ 31 := by omega
  have hq31 : q ≤ 2048 := by omega
  rw [← hr, ← hq] at HV
  have hmr : (m : Int) % 32 = (r : Int) := by omega
  have hmq : (m : Int) / 32 = (q : Int) := by omega
  clear hr hq
  go_wp2_with (at_make; refine wpList_make_full _ rfl _ _ 22 rfl w1.heap.size 57 i0 (.int .u32 0) 1 Try.underlying22 hi hz0 hz1 _ _ _ _ q rfl rfl (by omega) (by omega) (by rw [hz2]; omega) (by unfold maxLen; omega) (Nat.le_refl _) ?_)
  intro w2 hown hgrow
  have hR0 : Rw' w2 w1.heap.size (.slice (some ⟨w1.heap.size, 0, none⟩) q q) q (List.replicate q 0) := by
    have e := made_list q
    have hown2 := hown
    show w2.ownsRow _ _ _ _ _ _
    rw [← e]
    exact hown2
  have hf2 : Fr [] w1 w2 := (Fr.refl _ _).grown hgrow (by simp)
  clear hown hgrow hA1
  generalize Value.slice (some ⟨w1.heap.size, 0, none⟩) q q = v0 at *
  have hP31 : 2 ^ r ≤ 2147483648 := Nat.pow_le_pow_right (n := 2) (i := r) (j := 31) (by decide) hr31
  go_wp2
  go_loopw [8, 9, 10] (fun v s t wr => ∃ (k C : Nat) (Z : List Nat), k ≤ A.length ∧ s = .int .u64 C ∧ t = .int .i64 k ∧ C < 2 ^ r ∧ Z.length = k ∧ Dg Z ∧ val Z + pB k * C = 0 + 2 ^ r * val (A.take k) ∧ Rw' wr w1.heap.size v (q + k) (List.replicate q 0 ++ Z) ∧ Fr [] w1 wr) (fun _ _ t _ => A.length - (intOf t).toNat)
  case atStart => exact ⟨0, 0, [], Nat.zero_le _, rfl, rfl, Nat.two_pow_pos _, rfl, Dg.nil, by simp [val], by simpa using hR0, hf2⟩
  case round =>
    obtain ⟨k, C, Z, hk, rfl, rfl, hC, hZ, hZd, hv, hR, hf⟩ := hrel
    have HZ := Lib.hid hZ
    have Hv := Lib.hid hv
    clear hZ hv hR0 hf2
    by_cases hlt : k < A.length
    · obtain ⟨b1, o1, rfl, _, m1⟩ := (s1.kept hf).rd.open (by omega)
      have ca := m1 k (by omega)
      have d1 := hAd.at k
      have HT : Hid (∀ T, T = C + gd A k * 2 ^ r → val (Z ++ [T % 4294967296]) + pB (k + 1) * (T / 4294967296) = 0 + 2 ^ r * val (A.take (k + 1))) := fun T => scale_step HZ.out Hv.out
      have hbd : gd A k * 2 ^ r ≤ 4294967295 * 2 ^ r := Nat.mul_le_mul_right _ (by omega)
      generalize gd A k = x at *
      have hsh : ((x : Nat) : Int) * 2 ^ r = ((x * 2 ^ r : Nat) : Int) := by simp
      have hor : bits .or .u64 (C : Int) ((x : Int) * 2 ^ r) = (C : Int) + (x : Int) * 2 ^ r := by
        rw [hsh, or64c x C r hC (by omega)]
        simp
      have hb0 : (0 : Int) ≤ (x : Int) * 2 ^ r := by rw [hsh]; omega
      have hb1 : (x : Int) * 2 ^ r ≤ 4294967295 * 2147483648 := by rw [hsh]; omega
      have hwr : IntKind.u64.wrap ((x : Int) * 2 ^ r) = (x : Int) * 2 ^ r := wrap_u64_lt hb0 (by omega)
      have hCb : C < 4294967296 := by omega
      have HC := Lib.hid hC
      have HB := Lib.hid hbd
      have HSH := Lib.hid hsh
      clear m1 hsh hC hbd
      go_wp2_with (at_builtin; refine wpList_app1 rfl _ _ rfl w1.heap.size _ (q + k) (List.replicate q 0 ++ Z) rfl (by exact row_kept hR ((Fr.refl _ _).alloc _)) _ _ ((C + x * 2 ^ r) % 4294967296) rfl _ (by exact blk_cell0' _ _) (by rw [HSH.out]; omega) (by omega) (by have := hf.size; simp; omega) w1 (hf.alloc _) (Nat.le_refl _) ?_)
      intro v' w' hR' hf'
      go_wp2
      go_roundw
      case rel =>
        have hT := HT.out (C + x * 2 ^ r) rfl
        have hC' : (C + x * 2 ^ r) / 4294967296 < 2 ^ r := by
          have h1 := HC.out
          have h2 : x * 2 ^ r ≤ 4294967295 * 2 ^ r := Nat.mul_le_mul_right _ (by omega)
          omega
        have eD : ((C : Int) + (x : Int) * 2 ^ r) / 4294967296 = (((C + x * 2 ^ r) / 4294967296 : Nat) : Int) := by rw [HSH.out]; omega
        rw [eD]
        exact ⟨k + 1, _, Z ++ [(C + x * 2 ^ r) % 4294967296], by omega, rfl, by go_num, hC', by simp [HZ.out], hZd.append (Dg.one (by omega)), hT, hR', hf'⟩
      case measure => simp [intOf]; omega
    · obtain rfl : k = A.length := by omega
      have hv := Hv.out
      rw [List.take_length, Nat.zero_add] at hv
      have hvc : val (Z ++ [C]) = 2 ^ r * val A := by rw [val_append, val_one, HZ.out, hv]
      have hval := HV.out _ hvc
      have HVL := Lib.hid hval
      have hlen : (List.replicate q 0 ++ (Z ++ [C])).length = q + A.length + 1 := by simp [HZ.out]; omega
      have HLN := Lib.hid hlen
      have hdg : Dg (List.replicate q 0 ++ (Z ++ [C])) := (Dg.zeros _).append (hZd.append (Dg.one (by omega)))
      have hCb : C < 4294967296 := by omega
      clear hv hvc hval hlen hC
      go_wp2_with (at_builtin; refine wpList_app1 rfl _ _ rfl w1.heap.size _ (q + A.length) (List.replicate q 0 ++ Z) rfl (by exact row_kept hR ((Fr.refl _ _).alloc _)) _ _ C rfl _ (by exact blk_cell0' _ _) (by omega) (by omega) (by have := hf.size; simp; omega) w1 (hf.alloc _) (Nat.le_refl _) ?_)
      intro v' w' hR' hf'
      have hR2 : Rw' w' w1.heap.size v' (List.replicate q 0 ++ (Z ++ [C])).length (List.replicate q 0 ++ (Z ++ [C])) := by rw [HLN.out]; exact hR'
      obtain ⟨p', c', rfl, ho⟩ := ow_of_row hR2 hdg
      rw [HLN.out] at ho ⊢
      clear hR' hR2 hR
      go_wp2_with fail
      refine (rcut_any _ _ _ _ _ ho.sl (by omega)).mono ?_
      rw [HVL.out]
      rintro e w4 ⟨p4, c4, rfl, o4, f4⟩
      go_wp2_with fail
      go_ret
      have hs1 := f1.size
      have hs2 := hf'.size
      exact ⟨p4, c4, rfl, o4.mono (by omega), (f1.trans hf' (by simp)).trans f4 (by simp)⟩

end Go.Proofs.Ytfjhdhmneknmkaa
