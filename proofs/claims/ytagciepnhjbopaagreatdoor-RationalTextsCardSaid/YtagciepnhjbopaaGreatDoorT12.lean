/- What the statements of this claim stand on: of Txt1, Ref6, Ref7, Ref8, Ref9, Int1, what they name -/
import Derived.Deep.DeepCutAuto
import Derived.Deep.RegionHeld3
import Derived.Test.YtagciepnhjbopaaGreatDoorT11

namespace Go.Proofs.YtagciepnhjbopaaGreatDoor
open Go.RowKit

theorem row_at {w : World} {base n c k : Nat} {p : Option Addr} {xs : List Nat} (h : Rw' w base (.slice p n c) n xs) (hk : k < n) :
    ∃ g, p = some ⟨g, 0, none⟩ ∧ base ≤ g ∧ w.cell? ⟨g, k, none⟩ = some (dv (gd xs k)) ∧ w.frozen? ⟨g, k, none⟩ = false ∧ ∀ d, Rw' (w.setCell ⟨g, k, none⟩ (dv d)) base (.slice p n c) n (xs.set k d) := by
  have hl : xs.length = n := by simpa using h.1
  rcases h.2 with ⟨h0, h1⟩ | ⟨g, cap, cur, h0, h1, h2, h3, h4, h5, h6⟩
  · omega
  · cases h0
    have hb : Blk w g cur.toList := by simpa [Blk] using h2
    rw [Nat.mul_one] at h5 h6
    have hcur : cur.toList[k]? = some (dv (gd xs k)) := by
      have e : (cur.toList.take n)[k]? = (xs.map dv)[k]? := by rw [h6]
      rw [List.getElem?_take, if_pos hk, List.getElem?_map, List.getElem?_eq_getElem (l := xs) (by omega)] at e
      rw [e, gd_lt (by omega)]
      rfl
    refine ⟨g, rfl, h1, hb.cell hcur, hb.free k, fun d => ⟨by simpa using hl, Or.inr ⟨g, c, (cur.toList.set k (dv d)).toArray, rfl, h1, hb.set k (dv d), h3, h4, by simpa using h5, ?_⟩⟩⟩
    rw [Nat.mul_one, List.toList_toArray, List.take_set, h6, List.map_set]

theorem scale_step {xs Z : List Nat} {s a k C T : Nat} (hZ : Z.length = k) (_h : val Z + pB k * C = a + s * val (xs.take k)) (hT : T = C + gd xs k * s) :
    val (Z ++ [T % 4294967296]) + pB (k + 1) * (T / 4294967296) = a + s * val (xs.take (k + 1)) := by
  rw [val_append, val_one, hZ, val_take_succ, pB_succ]
  have e1 : pB k * (T % 4294967296) + 4294967296 * pB k * (T / 4294967296) = pB k * T := by
    have : T = T % 4294967296 + 4294967296 * (T / 4294967296) := by omega
    conv => rhs; rw [this, Nat.mul_add]
    rw [Nat.mul_comm 4294967296 (pB k), Nat.mul_assoc]
  have e2 : pB k * T = pB k * C + s * (pB k * gd xs k) := by
    rw [hT, Nat.mul_add]
    grind
  rw [Nat.mul_add]
  omega

theorem set_mid {xs Z : List Nat} {k d : Nat} (hZ : Z.length = k) (hk : k < xs.length) : (Z ++ xs.drop k).set k d = (Z ++ [d]) ++ xs.drop (k + 1) := by
  rw [List.set_append_right _ _ (by omega), hZ, Nat.sub_self, List.drop_eq_getElem_cons hk, List.set_cons_zero, List.append_assoc, List.singleton_append]

set_option maxRecDepth 100000 in
set_option maxHeartbeats 1000000 in
theorem scale_any (base n s a : Nat) (v : Value) (xs : List Nat) (w w0 : World) (h : Rw' w base v n xs) (hx : Dg xs) (hs : s ≤ 1000000000) (_ha : a < 4294967296) (_hn : n ≤ 1048576) (f : Fr [] w0 w) (hb0 : w0.heap.size ≤ base) (hb : base ≤ w.heap.size) :
    Calls Tryz.prog 181 #[v, .int .u32 s, .int .u32 a] w fun e w' => ∃ v' ys, e = .returned v' ∧ Rw' w' base v' ys.length ys ∧ Dg ys ∧ val ys = a + s * val xs ∧ ys.length ≤ n + 1 ∧ Fr [] w0 w' := by
  have hxl : xs.length = n := by simpa using h.1
  obtain ⟨p, c, rfl⟩ : ∃ p c, v = .slice p n c := by
    rcases h.2 with ⟨h0, h1⟩ | ⟨g, cap, cur, h0, _⟩
    · exact ⟨none, 0, by rw [h0, h1]⟩
    · exact ⟨_, _, h0⟩
  go_enter Tryz.func181, Tryz.ntmps181
  go_wp2
  go_loopw [7, 14] (fun r t wr => ∃ (k C : Nat) (Z : List Nat), k ≤ n ∧ r = .int .u64 C ∧ t = .int .i64 k ∧ C ≤ 4294967295 ∧ Z.length = k ∧ Dg Z ∧ val Z + pB k * C = a + s * val (xs.take k) ∧ Rw' wr base (.slice p n c) n (Z ++ xs.drop k) ∧ Fr [] w0 wr ∧ base ≤ wr.heap.size) (fun _ t _ => n - (intOf t).toNat)
  case atStart => exact ⟨0, a, [], Nat.zero_le _, rfl, rfl, by omega, rfl, Dg.nil, by simp [val, pB_zero], by simpa using h, f, hb⟩
  case round =>
    obtain ⟨k, C, Z, hk, rfl, rfl, hC, hZ, hZd, hv, hR, hf, hbs⟩ := hrel
    have HZ := Lib.hid hZ
    have Hv := Lib.hid hv
    clear hZ hv h f
    by_cases hlt : k < n
    · obtain ⟨g, rfl, hg, c1, c3, hset⟩ := row_at hR hlt
      have hgx : gd (Z ++ xs.drop k) k = gd xs k := by rw [gd_append_right (by rw [HZ.out]; exact Nat.le_refl _), gd_drop, HZ.out, Nat.sub_self, Nat.add_zero]
      rw [hgx] at c1
      have d1 := hx.at k
      have HT : Hid (∀ T, T = C + gd xs k * s → _) := fun T => scale_step HZ.out Hv.out
      have HS : Hid (∀ d, Rw' (wr.setCell ⟨g, k, none⟩ (dv d)) base (.slice (some ⟨g, 0, none⟩) n c) n ((Z ++ [d]) ++ xs.drop (k + 1))) := fun d => by
        have := hset d
        rwa [set_mid HZ.out (by omega)] at this
      have hbd := mul_small d1 (show s < 4294967296 by omega)
      have hbd2 : gd xs k * s ≤ 4294967295 * 1000000000 := Nat.mul_le_mul (by omega) hs
      have hbd' : (gd xs k : Int) * (s : Int) ≤ 4294967295000000000 := by rw [← Int.natCast_mul]; omega
      have hbd0 : (0 : Int) ≤ (gd xs k : Int) * (s : Int) := by rw [← Int.natCast_mul]; omega
      clear hset hgx hR
      generalize gd xs k = x at *
      go_wp2
      go_roundw
      case rel =>
        have eT : (C : Int) + (x : Int) * s = ((C + x * s : Nat) : Int) := by simp
        have eM : ((C : Int) + (x : Int) * s) % 4294967296 = (((C + x * s) % 4294967296 : Nat) : Int) := by rw [eT]; omega
        have eD : ((C : Int) + (x : Int) * s) / 4294967296 = (((C + x * s) / 4294967296 : Nat) : Int) := by rw [eT]; omega
        rw [eM, eD]
        refine ⟨k + 1, _, Z ++ [(C + x * s) % 4294967296], by omega, rfl, by go_num, by omega, by simp [HZ.out], hZd.append (Dg.one (by omega)), HT.out _ rfl, HS.out _, hf.setCell _ _ (by simp; omega), by simpa [World.setCell] using hbs⟩
      case measure => simp [intOf]; omega
    · obtain rfl : k = n := by omega
      rw [List.drop_of_length_le (by omega), List.append_nil] at hR
      have hv := Hv.out
      rw [List.take_of_length_le (by omega)] at hv
      by_cases hC0 : C = 0
      · subst hC0
        rw [Nat.mul_zero, Nat.add_zero] at hv
        have hv2 := Lib.hid hv
        have hR2 : Rw' wr base (.slice p k c) Z.length Z := by rw [HZ.out]; exact hR
        clear hv
        go_wp2
        go_ret
        exact ⟨_, Z, rfl, hR2, hZd, hv2.out, by rw [HZ.out]; omega, hf⟩
      · have hval : val (Z ++ [C]) = a + s * val xs := by rw [val_append, val_one, HZ.out, hv]
        have HV := Lib.hid hval
        have hne : ((C : Int) == 0) = false := beq_eq_false_iff_ne.2 (by omega)
        clear hv hval hC0
        go_wp2_with (at_builtin; refine wpList_app1 rfl _ _ rfl base _ k Z rfl (by exact row_kept hR ((Fr.refl _ _).alloc _)) _ _ C rfl _ (by exact blk_cell0' _ _) (by omega) (by omega) (by simp; omega) w0 (hf.alloc _) hb0 ?_)
        intro v' w' hR' hf'
        have hR2 : Rw' w' base v' (Z ++ [C]).length (Z ++ [C]) := by rw [List.length_append, List.length_singleton, HZ.out]; exact hR'
        go_wp2
        go_ret
        exact ⟨v', Z ++ [C], rfl, hR2, hZd.append (Dg.one (by omega)), HV.out, by simp [HZ.out], hf'⟩

end Go.Proofs.YtagciepnhjbopaaGreatDoor

namespace Go.Proofs.YtagciepnhjbopaaGreatDoor
open Go.RowKit

theorem made_list (n : Nat) : (madeCells #[Value.int .u32 0] n).toList = (List.replicate n 0).map dv := by
  simp only [madeCells, Array.toList_map, Array.toList_range]
  rw [List.map_replicate]
  apply List.ext_getElem (by simp)
  intro i h1 h2
  simp [Nat.mod_one]

theorem or64c (x y : Nat) (k : Nat) (hy : y < 2 ^ k) (_h : y + x * 2 ^ k < 18446744073709551616) : bits .or .u64 (y : Int) ((x * 2 ^ k : Nat) : Int) = ((y + x * 2 ^ k : Nat) : Int) := by
  rw [bits_or_u64_nat _ _ (by omega) (by omega), Nat.or_comm, or_add x k y hy, Nat.add_comm]

set_option maxRecDepth 100000 in
set_option maxHeartbeats 4000000 in
theorem rshl_any (p : Option Addr) (n c m : Nat) (xs : List Nat) (w : World) (h : Sl w p n c xs) (_hn : n ≤ 1048576) (_hm : m ≤ 65536) (h0 : val xs ≠ 0) :
    Calls Tryz.prog 177 #[.slice p n c, .int .i64 m] w (RetOwn w (dg (val xs * 2 ^ m))) := by
  obtain ⟨i0, hi, hz0, hz1, hz2⟩ := info_parts Tryz.infoU
  have l1 := dg_len_val h.dig
  rw [h.len] at l1
  have hlz : (dg (val xs)).length ≠ 0 := fun e => h0 (dg_nil.1 (List.eq_nil_of_length_eq_zero e))
  have hd1 : decide ((65536 : Int) < (m : Int)) = false := by simp; omega
  have hd2 : (((dg (val xs)).length : Int) == 0) = false := beq_eq_false_iff_ne.2 (by omega)
  have hd3 : decide ((m : Int) < 0) = false := by simp
  have hAd := Dg_dg (val xs)
  have HV : Hid (∀ Z : List Nat, val Z = 2 ^ (m % 32) * val (dg (val xs)) → val (List.replicate (m / 32) 0 ++ Z) = val xs * 2 ^ m) := by
    intro Z hZ
    rw [val_append, val_zeros, List.length_replicate, hZ, val_dg, Nat.zero_add, Nat.mul_comm (2 ^ _)]
    exact shl_split _ _
  go_enter Tryz.func177, Tryz.ntmps177
  go_wp2_with fail
  refine (rcut_any _ _ _ _ _ h (by omega)).mono ?_
  rintro e w1 ⟨p1, c1, rfl, o1, f1⟩
  have s1 := o1.sl
  clear h o1 h0
  have hA1 := s1.len
  generalize dg (val xs) = A at *
  obtain ⟨r, hr⟩ : ∃ r, r = m % 32 := ⟨_, rfl⟩
  obtain ⟨q, hq⟩ : ∃ q, q = m / 32 := ⟨_, rfl⟩
  have hr31 : r ≤ 31 := by omega
  have hq31 : q ≤ 2048 := by omega
  rw [← hr, ← hq] at HV
  have hmr : (m : Int) % 32 = (r : Int) := by omega
  have hmq : (m : Int) / 32 = (q : Int) := by omega
  clear hr hq
  go_wp2_with (at_make; refine wpList_make_full _ rfl _ _ 22 rfl w1.heap.size 52 i0 (.int .u32 0) 1 Tryz.underlying22 hi hz0 hz1 _ _ _ _ q rfl rfl (by omega) (by omega) (by rw [hz2]; omega) (by unfold maxLen; omega) (Nat.le_refl _) ?_)
  intro w2 hown hgrow
  have hR0 : Rw' w2 w1.heap.size (.slice (some ⟨w1.heap.size, 0, none⟩) q q) q (List.replicate q 0) := by
    have e := made_list q
    have hown2 := hown
    show w2.ownsRow _ _ _ _ _ _
    rw [← e]
    exact hown2
  have hf2 : Fr [] w1 w2 := (Fr.refl _ _).grown hgrow (by simp)
  clear hown hgrow hA1
  generalize Value.slice (some ⟨w1.heap.size, 0, none⟩) q q = v0 at *
  have hP31 : 2 ^ r ≤ 2147483648 := Nat.pow_le_pow_right (n := 2) (i := r) (j := 31) (by decide) hr31
  go_wp2
  go_loopw [8, 9, 10] (fun v s t wr => ∃ (k C : Nat) (Z : List Nat), k ≤ A.length ∧ s = .int .u64 C ∧ t = .int .i64 k ∧ C < 2 ^ r ∧ Z.length = k ∧ Dg Z ∧ val Z + pB k * C = 0 + 2 ^ r * val (A.take k) ∧ Rw' wr w1.heap.size v (q + k) (List.replicate q 0 ++ Z) ∧ Fr [] w1 wr) (fun _ _ t _ => A.length - (intOf t).toNat)
  case atStart => exact ⟨0, 0, [], Nat.zero_le _, rfl, rfl, Nat.two_pow_pos _, rfl, Dg.nil, by simp [val], by simpa using hR0, hf2⟩
  case round =>
    obtain ⟨k, C, Z, hk, rfl, rfl, hC, hZ, hZd, hv, hR, hf⟩ := hrel
    have HZ := Lib.hid hZ
    have Hv := Lib.hid hv
    clear hZ hv hR0 hf2
    by_cases hlt : k < A.length
    · obtain ⟨b1, o1, rfl, _, m1⟩ := (s1.kept hf).rd.open (by omega)
      have ca := m1 k (by omega)
      have d1 := hAd.at k
      have HT : Hid (∀ T, T = C + gd A k * 2 ^ r → val (Z ++ [T % 4294967296]) + pB (k + 1) * (T / 4294967296) = 0 + 2 ^ r * val (A.take (k + 1))) := fun T => scale_step HZ.out Hv.out
      have hbd : gd A k * 2 ^ r ≤ 4294967295 * 2 ^ r := Nat.mul_le_mul_right _ (by omega)
      generalize gd A k = x at *
      have hsh : ((x : Nat) : Int) * 2 ^ r = ((x * 2 ^ r : Nat) : Int) := by simp
      have hor : bits .or .u64 (C : Int) ((x : Int) * 2 ^ r) = (C : Int) + (x : Int) * 2 ^ r := by
        rw [hsh, or64c x C r hC (by omega)]
        simp
      have hb0 : (0 : Int) ≤ (x : Int) * 2 ^ r := by rw [hsh]; omega
      have hb1 : (x : Int) * 2 ^ r ≤ 4294967295 * 2147483648 := by rw [hsh]; omega
      have hwr : IntKind.u64.wrap ((x : Int) * 2 ^ r) = (x : Int) * 2 ^ r := wrap_u64_lt hb0 (by omega)
      have hCb : C < 4294967296 := by omega
      have HC := Lib.hid hC
      have HB := Lib.hid hbd
      have HSH := Lib.hid hsh
      clear m1 hsh hC hbd
      go_wp2_with (at_builtin; refine wpList_app1 rfl _ _ rfl w1.heap.size _ (q + k) (List.replicate q 0 ++ Z) rfl (by exact row_kept hR ((Fr.refl _ _).alloc _)) _ _ ((C + x * 2 ^ r) % 4294967296) rfl _ (by exact blk_cell0' _ _) (by rw [HSH.out]; omega) (by omega) (by have := hf.size; simp; omega) w1 (hf.alloc _) (Nat.le_refl _) ?_)
      intro v' w' hR' hf'
      go_wp2
      go_roundw
      case rel =>
        have hT := HT.out (C + x * 2 ^ r) rfl
        have hC' : (C + x * 2 ^ r) / 4294967296 < 2 ^ r := by
          have h1 := HC.out
          have h2 : x * 2 ^ r ≤ 4294967295 * 2 ^ r := Nat.mul_le_mul_right _ (by omega)
          omega
        have eD : ((C : Int) + (x : Int) * 2 ^ r) / 4294967296 = (((C + x * 2 ^ r) / 4294967296 : Nat) : Int) := by rw [HSH.out]; omega
        rw [eD]
        exact ⟨k + 1, _, Z ++ [(C + x * 2 ^ r) % 4294967296], by omega, rfl, by go_num, hC', by simp [HZ.out], hZd.append (Dg.one (by omega)), hT, hR', hf'⟩
      case measure => simp [intOf]; omega
    · obtain rfl : k = A.length := by omega
      have hv := Hv.out
      rw [List.take_length, Nat.zero_add] at hv
      have hvc : val (Z ++ [C]) = 2 ^ r * val A := by rw [val_append, val_one, HZ.out, hv]
      have hval := HV.out _ hvc
      have HVL := Lib.hid hval
      have hlen : (List.replicate q 0 ++ (Z ++ [C])).length = q + A.length + 1 := by simp [HZ.out]; omega
      have HLN := Lib.hid hlen
      have hdg : Dg (List.replicate q 0 ++ (Z ++ [C])) := (Dg.zeros _).append (hZd.append (Dg.one (by omega)))
      have hCb : C < 4294967296 := by omega
      clear hv hvc hval hlen hC
      go_wp2_with (at_builtin; refine wpList_app1 rfl _ _ rfl w1.heap.size _ (q + A.length) (List.replicate q 0 ++ Z) rfl (by exact row_kept hR ((Fr.refl _ _).alloc _)) _ _ C rfl _ (by exact blk_cell0' _ _) (by omega) (by omega) (by have := hf.size; simp; omega) w1 (hf.alloc _) (Nat.le_refl _) ?_)
      intro v' w' hR' hf'
      have hR2 : Rw' w' w1.heap.size v' (List.replicate q 0 ++ (Z ++ [C])).length (List.replicate q 0 ++ (Z ++ [C])) := by rw [HLN.out]; exact hR'
      obtain ⟨p', c', rfl, ho⟩ := ow_of_row hR2 hdg
      rw [HLN.out] at ho ⊢
      clear hR' hR2 hR
      go_wp2_with fail
      refine (rcut_any _ _ _ _ _ ho.sl (by omega)).mono ?_
      rw [HVL.out]
      rintro e w4 ⟨p4, c4, rfl, o4, f4⟩
      go_wp2_with fail
      go_ret
      have hs1 := f1.size
      have hs2 := hf'.size
      exact ⟨p4, c4, rfl, o4.mono (by omega), (f1.trans hf' (by simp)).trans f4 (by simp)⟩

end Go.Proofs.YtagciepnhjbopaaGreatDoor

namespace Go.Proofs.YtagciepnhjbopaaGreatDoor
open Go.RowKit

theorem shr_digit {y y1 W' r : Nat} (_hr : r ≤ 31) (_hy : y < 4294967296) :
    (y + 4294967296 * (y1 + 4294967296 * W')) / 2 ^ r = ((y + y1 * 4294967296) / 2 ^ r) % 4294967296 + 4294967296 * ((y1 + 4294967296 * W') / 2 ^ r) := by
  have hPQ : 2 ^ r * 2 ^ (32 - r) = 4294967296 := by rw [← Nat.pow_add, Nat.add_sub_cancel' (by omega)]
  have hP : 0 < 2 ^ r := Nat.two_pow_pos r
  have e1 : (y + 4294967296 * (y1 + 4294967296 * W')) / 2 ^ r / 4294967296 = (y1 + 4294967296 * W') / 2 ^ r := by
    rw [Nat.div_div_eq_div_mul, Nat.mul_comm (2 ^ r) 4294967296, ← Nat.div_div_eq_div_mul]
    congr 1
    omega
  have e2 : (y + 4294967296 * (y1 + 4294967296 * W')) / 2 ^ r = (y + y1 * 4294967296) / 2 ^ r + 4294967296 * (2 ^ (32 - r) * W') := by
    have : y + 4294967296 * (y1 + 4294967296 * W') = (y + y1 * 4294967296) + 2 ^ r * (4294967296 * (2 ^ (32 - r) * W')) := by
      have h : 2 ^ r * (4294967296 * (2 ^ (32 - r) * W')) = 4294967296 * ((2 ^ r * 2 ^ (32 - r)) * W') := by grind
      rw [h, hPQ]
      omega
    rw [this, Nat.add_mul_div_left _ _ hP]
  have e3 : (y + 4294967296 * (y1 + 4294967296 * W')) / 2 ^ r % 4294967296 = (y + y1 * 4294967296) / 2 ^ r % 4294967296 := by
    rw [e2, Nat.add_mul_mod_self_left]
  have e4 := Nat.div_add_mod ((y + 4294967296 * (y1 + 4294967296 * W')) / 2 ^ r) 4294967296
  rw [e1, e3] at e4
  omega

theorem shr_step {Y Z : List Nat} {j r : Nat} (hr : r ≤ 31) (hj : j < Y.length) (hd : Dg Y) (hZ : Z.length = j) (h : val Z + pB j * (val (Y.drop j) / 2 ^ r) = val Y / 2 ^ r) :
    val (Z ++ [((gd Y j + gd Y (j + 1) * 4294967296) / 2 ^ r) % 4294967296]) + pB (j + 1) * (val (Y.drop (j + 1)) / 2 ^ r) = val Y / 2 ^ r := by
  obtain ⟨W', hW⟩ : ∃ W', val (Y.drop (j + 1)) = gd Y (j + 1) + 4294967296 * W' := by
    by_cases h1 : j + 1 < Y.length
    · exact ⟨val (Y.drop (j + 2)), by rw [drop_cons_gd h1]; rfl⟩
    · exact ⟨0, by rw [List.drop_of_length_le (by omega), gd_ge (by omega)]; rfl⟩
  have e1 : val (Y.drop j) = gd Y j + 4294967296 * val (Y.drop (j + 1)) := by rw [drop_cons_gd hj]; rfl
  rw [e1, hW, shr_digit hr (hd.at j), Nat.mul_add] at h
  rw [val_append, val_one, hZ, pB_succ, hW]
  rw [← Nat.mul_assoc, Nat.mul_comm (pB j) 4294967296] at h
  omega

set_option maxRecDepth 100000 in
set_option maxHeartbeats 4000000 in
theorem rshr_any (p : Option Addr) (n c m : Nat) (xs : List Nat) (w : World) (h : Sl w p n c xs) (_hn : n ≤ 1048576) (_hm0 : 0 < m) (_hm : m ≤ 9223372036854775808) (h0 : val xs ≠ 0) :
    Calls Tryz.prog 177 #[.slice p n c, .int .i64 (-(m : Int))] w (RetOwn w (dg (val xs / 2 ^ m))) := by
  have l1 := dg_len_val h.dig
  rw [h.len] at l1
  have hlz : (dg (val xs)).length ≠ 0 := fun e => h0 (dg_nil.1 (List.eq_nil_of_length_eq_zero e))
  have hd1 : decide ((65536 : Int) < -(m : Int)) = false := decide_eq_false (by omega)
  have hd2 : (((dg (val xs)).length : Int) == 0) = false := beq_eq_false_iff_ne.2 (by omega)
  have hd3 : decide (-(m : Int) < 0) = true := decide_eq_true (by omega)
  have hAd := Dg_dg (val xs)
  by_cases hbig : 32 * (dg (val xs)).length < m
  · have hz : val xs / 2 ^ m = 0 := by
      have h1 := dg_lt (val xs)
      rw [pB_two] at h1
      have h2 : 2 ^ (32 * (dg (val xs)).length) ≤ 2 ^ m := Nat.pow_le_pow_right (by decide) (by omega)
      exact Nat.div_eq_of_lt (by omega)
    rw [hz, dg_zero]
    clear hz
    go_enter Tryz.func177, Tryz.ntmps177
    go_wp2_with fail
    refine (rcut_any _ _ _ _ _ h (by omega)).mono ?_
    rintro e w1 ⟨p1, c1, rfl, o1, f1⟩
    clear h o1 h0 hAd
    generalize (dg (val xs)).length = L at *
    go_wp2
    go_ret
    exact ⟨none, 0, rfl, Ow.zero _ _, f1⟩
  · have hdl : decide (-(m : Int) < -32 * ((dg (val xs)).length : Int)) = false := decide_eq_false (by omega)
    have hfin : Hid (val ((dg (val xs)).drop (m / 32)) / 2 ^ (m % 32) = val xs / 2 ^ m) := by
      show _ = _
      rw [val_drop_div hAd, val_dg, shr_split]
    go_enter Tryz.func177, Tryz.ntmps177
    go_wp2_with fail
    refine (rcut_any _ _ _ _ _ h (by omega)).mono ?_
    rintro e w1 ⟨p1, c1, rfl, o1, f1⟩
    have s1 := o1.sl
    clear h o1 h0
    generalize dg (val xs) = A at *
    obtain ⟨r, hr⟩ : ∃ r, r = m % 32 := ⟨_, rfl⟩
    obtain ⟨q, hq⟩ : ∃ q, q = m / 32 := ⟨_, rfl⟩
    have hr31 : r ≤ 31 := by omega
    have hqA : q ≤ A.length := by omega
    have hm2 : m ≤ 32 * A.length := by omega
    rw [← hr, ← hq] at hfin
    have hmr : (m : Int) % 32 = (r : Int) := by omega
    have hmq : (m : Int) / 32 = (q : Int) := by omega
    have hYd : Dg (A.drop q) := hAd.drop q
    have hYl : (A.drop q).length = A.length - q := List.length_drop
    have HYL := Lib.hid hYl
    clear hr hq hYl hbig
    go_wp2
    go_loopw [5, 6] (fun v t wr => ∃ (j : Nat) (Z : List Nat), q + j ≤ A.length ∧ t = .int .i64 ((q + j : Nat) : Int) ∧ Z.length = j ∧ Dg Z ∧ val Z + pB j * (val ((A.drop q).drop j) / 2 ^ r) = val (A.drop q) / 2 ^ r ∧ Rw' wr w1.heap.size v j Z ∧ Fr [] w1 wr) (fun _ t _ => A.length - (intOf t).toNat)
    case atStart => exact ⟨0, [], by omega, rfl, rfl, Dg.nil, by simp [val, pB_zero], row_nil _ _, Fr.refl _ _⟩
    case round =>
      obtain ⟨j, Z, hj, rfl, hZ, hZd, hv, hR, hf⟩ := hrel
      have HZ := Lib.hid hZ
      have Hv := Lib.hid hv
      clear hZ hv
      obtain ⟨k, hk⟩ : ∃ k, k = q + j := ⟨_, rfl⟩
      rw [← hk] at hj ⊢
      have HK := Lib.hid hk
      by_cases hlt : k < A.length
      · have HT := Lib.hid (shr_step hr31 (show j < (A.drop q).length by rw [HYL.out]; omega) hYd HZ.out Hv.out)
        have g1 : gd (A.drop q) j = gd A k := by rw [gd_drop, hk]
        have g2 : gd (A.drop q) (j + 1) = gd A (k + 1) := by rw [gd_drop, hk]; rfl
        rw [g1, g2] at HT
        clear hk g1 g2
        obtain ⟨b1, o1, rfl, _, m1⟩ := (s1.kept hf).rd.open (by omega)
        have ca := m1 k (by omega)
        have d1 := hAd.at k
        have d2 := hAd.at (k + 1)
        have hjl : j ≤ 1048576 := by have := HK.out; omega
        have hdv : (gd A k + gd A (k + 1) * 4294967296) / 2 ^ r ≤ gd A k + gd A (k + 1) * 4294967296 := Nat.div_le_self _ _
        by_cases hlt2 : k + 1 < A.length
        · have cb := m1 (k + 1) hlt2
          generalize gd A k = x at *
          generalize gd A (k + 1) = y at *
          have hor : bits .or .u64 (x : Int) ((y : Int) * 4294967296) = (x : Int) + (y : Int) * 4294967296 := by
            have h1 := or64c y x 32 (by omega) (by omega)
            have h2 : ((y * 2 ^ 32 : Nat) : Int) = (y : Int) * 4294967296 := by simp
            rw [h2] at h1
            rw [h1]
            simp
          have EV : Hid (((x : Int) + (y : Int) * 4294967296) / 2 ^ r % 4294967296 = (((x + y * 4294967296) / 2 ^ r % 4294967296 : Nat) : Int)) := by
            show _ = _
            simp
          clear m1
          go_wp2_with (at_builtin; refine wpList_app1 rfl _ _ rfl w1.heap.size _ j Z rfl (by exact row_kept hR ((Fr.refl _ _).alloc _)) _ _ ((x + y * 4294967296) / 2 ^ r % 4294967296) rfl _ (by exact blk_cell0' _ _) (by exact EV.out) (by omega) (by have := hf.size; simp; omega) w1 (hf.alloc _) (Nat.le_refl _) ?_)
          intro v' w' hR' hf'
          go_wp2
          go_roundw
          case rel =>
            have hk := HK.out
            exact ⟨j + 1, Z ++ [(x + y * 4294967296) / 2 ^ r % 4294967296], by omega, congrArg (Value.int .i64) (by omega), by simp [HZ.out], hZd.append (Dg.one (by omega)), HT.out, hR', hf'⟩
          case measure => simp [intOf]; omega
        · have hy0 : gd A (k + 1) = 0 := gd_ge (by omega)
          rw [hy0] at HT hdv
          clear hy0 d2 m1
          generalize gd A k = x at *
          rw [Nat.zero_mul, Nat.add_zero] at HT
          have EV : Hid ((x : Int) / 2 ^ r % 4294967296 = ((x / 2 ^ r % 4294967296 : Nat) : Int)) := by
            show _ = _
            simp
          go_wp2_with (at_builtin; refine wpList_app1 rfl _ _ rfl w1.heap.size _ j Z rfl (by exact row_kept hR ((Fr.refl _ _).alloc _)) _ _ (x / 2 ^ r % 4294967296) rfl _ (by exact blk_cell0' _ _) (by exact EV.out) (by omega) (by have := hf.size; simp; omega) w1 (hf.alloc _) (Nat.le_refl _) ?_)
          intro v' w' hR' hf'
          go_wp2
          go_roundw
          case rel =>
            have hk := HK.out
            exact ⟨j + 1, Z ++ [x / 2 ^ r % 4294967296], by omega, congrArg (Value.int .i64) (by omega), by simp [HZ.out], hZd.append (Dg.one (by omega)), HT.out, hR', hf'⟩
          case measure => simp [intOf]; omega
      · have hke : k = A.length := by omega
        have hv := Hv.out
        have hj2 : j = (A.drop q).length := by have := HK.out; rw [HYL.out]; omega
        rw [hj2, List.drop_of_length_le (Nat.le_refl _)] at hv
        have hval : val Z = val xs / 2 ^ m := by
          rw [← hfin.out, ← hv]
          simp [val]
        have HVL := Lib.hid hval
        have hjl : j ≤ 1048576 := by have := HK.out; omega
        obtain ⟨p', c', rfl, ho⟩ := ow_of_row (by rw [← HZ.out] at hR; exact hR) hZd
        rw [HZ.out] at ho ⊢
        clear hv hval hj2 hk hR hlt
        go_wp2_with fail
        refine (rcut_any _ _ _ _ _ ho.sl (by omega)).mono ?_
        rw [HVL.out]
        rintro e w4 ⟨p4, c4, rfl, o4, f4⟩
        go_wp2_with fail
        go_ret
        have hs1 := f1.size
        have hs2 := hf.size
        exact ⟨p4, c4, rfl, o4.mono (by omega), (f1.trans hf (by simp)).trans f4 (by simp)⟩

set_option maxRecDepth 100000 in
set_option maxHeartbeats 1000000 in
theorem rshift_any (p : Option Addr) (n c : Nat) (s : Int) (xs : List Nat) (w : World) (h : Sl w p n c xs) (hn : n ≤ 1048576) (_hs : -9223372036854775808 ≤ s) (_hs2 : s ≤ 9223372036854775807) :
    Calls Tryz.prog 177 #[.slice p n c, .int .i64 s] w (RetOwn w (dg (shiftN (val xs) s))) := by
  by_cases h1 : 65536 < s
  · have e : dg (shiftN (val xs) s) = [] := by rw [shiftN, if_pos h1, dg_zero]
    rw [e]
    clear e
    go_enter Tryz.func177, Tryz.ntmps177
    go_wp2_with fail
    refine (rcut_any _ _ _ _ _ h (by omega)).mono ?_
    rintro e w1 ⟨p1, c1, rfl, o1, f1⟩
    clear o1 h
    go_wp2
    go_ret
    exact ⟨none, 0, rfl, Ow.zero _ _, f1⟩
  · by_cases h0 : val xs = 0
    · have e : dg (shiftN (val xs) s) = [] := by
        rw [h0, shiftN, if_neg h1]
        split
        · rw [Nat.zero_div, dg_zero]
        · rw [Nat.zero_mul, dg_zero]
      have hl : (dg (val xs)).length = 0 := by rw [h0, dg_zero]; rfl
      have HL := Lib.hid hl
      have hd1 : decide ((65536 : Int) < s) = false := decide_eq_false h1
      rw [e]
      clear e h0 hl h1
      go_enter Tryz.func177, Tryz.ntmps177
      go_wp2_with fail
      refine (rcut_any _ _ _ _ _ h (by omega)).mono ?_
      rintro e w1 ⟨p1, c1, rfl, o1, f1⟩
      rw [HL.out]
      clear o1 h
      go_wp2
      go_ret
      exact ⟨none, 0, rfl, Ow.zero _ _, f1⟩
    · by_cases h2 : s < 0
      · have e : shiftN (val xs) s = val xs / 2 ^ (-s).toNat := by rw [shiftN, if_neg h1, if_pos h2]
        rw [e]
        obtain ⟨m, hm⟩ : ∃ m : Nat, s = -(m : Int) := ⟨(-s).toNat, by omega⟩
        subst hm
        have e2 : (- -(m : Int)).toNat = m := by omega
        rw [e2]
        exact rshr_any p n c m xs w h hn (by omega) (by omega) h0
      · have e : shiftN (val xs) s = val xs * 2 ^ s.toNat := by rw [shiftN, if_neg h1, if_neg h2]
        rw [e]
        obtain ⟨m, rfl⟩ := Int.eq_ofNat_of_zero_le (show 0 ≤ s by omega)
        rw [Int.toNat_natCast]
        exact rshl_any p n c m xs w h hn (by omega) h0

end Go.Proofs.YtagciepnhjbopaaGreatDoor

namespace Go.Proofs.YtagciepnhjbopaaGreatDoor
open Go.RowKit

set_option maxRecDepth 100000 in
set_option maxHeartbeats 2000000 in
theorem rdivmod_one (p q : Option Addr) (n c m d : Nat) (xs ys : List Nat) (w : World) (h1 : Sl w p n c xs) (h2 : Sl w q m d ys) (_hn : n ≤ 1048576) (_hm : m ≤ 1048576) (hv : (dg (val ys)).length = 1) :
    Calls Tryz.prog 178 #[.slice p n c, .slice q m d] w fun e w' => ∃ pq cq pr cr, e = .returned (.tuple #[.slice pq (dg (val xs / val ys)).length cq, .slice pr (dg (val xs % val ys)).length cr, .int .i64 0]) ∧
      Ow w' w.heap.size pq (dg (val xs / val ys)).length cq (dg (val xs / val ys)) ∧ Ow w' w.heap.size pr (dg (val xs % val ys)).length cr (dg (val xs % val ys)) ∧ Fr [] w w' := by
  have hvl := dg_lt (val ys)
  rw [hv, pB_one] at hvl
  have hvn : val ys ≠ 0 := fun e => by rw [e, dg_zero] at hv; cases hv
  have hg : gd (dg (val ys)) 0 = val ys := by
    rw [dg_pos hvn, gd_cons_zero, Nat.mod_eq_of_lt hvl]
  have l1 := dg_len_val h1.dig
  rw [h1.len] at l1
  have HL := Lib.hid hv
  clear hv
  go_enter Tryz.func178, Tryz.ntmps178
  go_wp2_with fail
  refine (rcut_any _ _ _ _ _ h1 (by omega)).mono ?_
  rintro e w1 ⟨p1, c1, rfl, o1, f1⟩
  replace h2 := h2.kept f1
  have s1 := o1.sl
  go_wp2_with fail
  refine (rcut_any _ _ _ _ _ h2 (by omega)).mono ?_
  rintro e w2 ⟨p2, c2, rfl, o2, f2⟩
  have s2 := o2.sl
  replace s1 := s1.kept f2
  have hw := f1.trans f2 (by simp)
  rw [HL.out] at s2 ⊢
  obtain ⟨b, off, rfl, _, hcell⟩ := s2.rd.open (by rw [HL.out]; decide)
  have hc0 := hcell 0 (by rw [HL.out]; decide)
  rw [Nat.add_zero] at hc0
  have HG := Lib.hid hg
  rw [hg] at hc0
  clear o1 o2 h1 h2 f1 f2 hcell s2 hg
  go_wp2_with fail
  refine (rsmall_any _ _ _ (val ys) _ _ s1 (by omega) hvl (by omega)).mono ?_
  rw [val_dg]
  rintro e w3 ⟨pq, cq, rfl, oq, f3⟩
  have sq := oq.mono hw.size
  replace hw := hw.trans f3 (by simp)
  have hmod : val xs % val ys < 4294967296 := Nat.lt_trans (Nat.mod_lt _ (by omega)) hvl
  clear s1 oq f3 hc0
  go_wp2_with fail
  refine (rcut_any _ 1 1 [val xs % val ys] _ (made1 rfl rfl hmod) (by decide)).mono ?_
  rw [val_one]
  rintro e w4 ⟨pr, cr, rfl, oR, f4⟩
  have sr := oR.mono (show w.heap.size ≤ (w3.alloc _).heap.size from Nat.le_trans hw.size (Fr.new _).size)
  have f4' := (Fr.new (w := w3) _).trans f4 (by simp)
  replace sq := sq.kept f4'
  go_wp2_with fail
  go_ret3
  exact ⟨pq, cq, pr, cr, rfl, sq, sr, hw.trans f4' (by simp)⟩

set_option maxRecDepth 100000 in
set_option maxHeartbeats 2000000 in
theorem rdivmod_less (p q : Option Addr) (n c m d : Nat) (xs ys : List Nat) (w : World) (h1 : Sl w p n c xs) (h2 : Sl w q m d ys) (_hn : n ≤ 1048576) (_hm : m ≤ 1048576) (_hv : 1 < (dg (val ys)).length) (hlt : val xs < val ys) :
    Calls Tryz.prog 178 #[.slice p n c, .slice q m d] w fun e w' => ∃ pq cq pr cr, e = .returned (.tuple #[.slice pq (dg (val xs / val ys)).length cq, .slice pr (dg (val xs % val ys)).length cr, .int .i64 0]) ∧
      Ow w' w.heap.size pq (dg (val xs / val ys)).length cq (dg (val xs / val ys)) ∧ Ow w' w.heap.size pr (dg (val xs % val ys)).length cr (dg (val xs % val ys)) ∧ Fr [] w w' := by
  rw [Nat.div_eq_of_lt hlt, Nat.mod_eq_of_lt hlt, dg_zero]
  have l1 := dg_len_val h1.dig
  rw [h1.len] at l1
  have l2 := dg_len_val h2.dig
  rw [h2.len] at l2
  have hcm := Lib.hid (cmpN_lt hlt)
  have hb1 : (((dg (val ys)).length : Int) == 0) = false := beq_eq_false_iff_ne.2 (by omega)
  have hb2 : (((dg (val ys)).length : Int) == 1) = false := beq_eq_false_iff_ne.2 (by omega)
  clear hlt
  go_enter Tryz.func178, Tryz.ntmps178
  go_wp2_with fail
  refine (rcut_any _ _ _ _ _ h1 (by omega)).mono ?_
  rintro e w1 ⟨p1, c1, rfl, o1, f1⟩
  replace h2 := h2.kept f1
  have s1 := o1.sl
  go_wp2_with fail
  refine (rcut_any _ _ _ _ _ h2 (by omega)).mono ?_
  rintro e w2 ⟨p2, c2, rfl, o2, f2⟩
  have s2 := o2.sl
  replace s1 := s1.kept f2
  replace o1 := o1.kept f2
  have hw := f1.trans f2 (by simp)
  clear o2 h1 h2 f1 f2
  go_wp2_with fail
  refine (rcompare_any _ _ _ _ _ _ _ _ _ s1 s2 (by omega) (by omega)).mono ?_
  rw [val_dg, val_dg, hcm.out]
  rintro e w3 ⟨rfl, f3⟩
  replace o1 := o1.kept f3
  go_wp2_with fail
  go_ret3
  exact ⟨none, 0, p1, c1, rfl, Ow.zero _ _, o1, hw.trans f3 (by simp)⟩

end Go.Proofs.YtagciepnhjbopaaGreatDoor

namespace Go.Proofs.YtagciepnhjbopaaGreatDoor
open Go.RowKit

set_option maxRecDepth 100000 in
set_option maxHeartbeats 400000 in
theorem mod_any (x m : Int) (w : World) (_hm : 1 ≤ m) (_hm2 : m ≤ 1000000) (_hx : -9223372036854775808 ≤ x) (_hx2 : x ≤ 9223372036854775807) :
    Calls Tryz.prog 40 #[.int .i64 x, .int .i64 m] w fun e w' => e = .returned (.int .i64 (x % m)) ∧ w = w' := by
  have hd : decide (m < 1) = false := decide_eq_false (by omega)
  have hne : (m == 0) = false := beq_eq_false_iff_ne.2 (by omega)
  have hl := Int.emod_lt_of_pos x (show 0 < m by omega)
  have hg := Int.emod_nonneg x (show m ≠ 0 by omega)
  have ht : (x.tmod m = x % m) ∨ (x.tmod m = x % m - m) := by
    by_cases h0 : 0 ≤ x
    · exact Or.inl (Int.tmod_eq_emod_of_nonneg h0)
    · rw [Int.tmod_eq_emod]
      have hn : (m.natAbs : Int) = m := by omega
      split
      · exact Or.inl (by simp)
      · exact Or.inr (by rw [hn])
  generalize x % m = R at *
  rcases ht with ht | ht
  · have hb : decide (R < 0) = false := decide_eq_false (by omega)
    go_enter Tryz.func40, Tryz.ntmps40
    go_wp2
    go_ret
    exact ⟨rfl, rfl⟩
  · have hb : decide (R - m < 0) = true := decide_eq_true (by omega)
    go_enter Tryz.func40, Tryz.ntmps40
    go_wp2
    go_ret
    exact ⟨ret_int (by omega), rfl⟩

theorem dg_pow_len {b L : Nat} (h : b < 32 * L) : (dg (2 ^ b)).length ≤ L := dg_len_le (by rw [pB_two]; exact Nat.pow_lt_pow_right (by decide) h)

end Go.Proofs.YtagciepnhjbopaaGreatDoor

namespace Go.Proofs.YtagciepnhjbopaaGreatDoor
open Go.RowKit

def iv (g : Bool) (m : Nat) : Int := if g then -(m : Int) else m

abbrev iw (g : Bool) (p : Option Addr) (n c : Nat) : Value := .agg #[.bool g, .slice p n c]

def RetI (w : World) (z : Int) (e : Ending) (w' : World) : Prop :=
  ∃ p c, e = .returned (iw (decide (z < 0)) p (dg z.natAbs).length c) ∧ Ow w' w.heap.size p (dg z.natAbs).length c (dg z.natAbs) ∧ Fr [] w w'

theorem iv_pos (m : Nat) : iv false m = m := rfl

theorem iv_neg (m : Nat) : iv true m = -(m : Int) := rfl

theorem iv_abs (g : Bool) (m : Nat) : (iv g m).natAbs = m := by cases g <;> simp [iv]

theorem iv_lt (g : Bool) (m : Nat) : decide (iv g m < 0) = (g && decide (0 < m)) := by
  cases g <;> simp [iv] <;> omega

theorem dg_len_pos (m : Nat) : decide (0 < (dg m).length) = decide (0 < m) := by
  by_cases h : m = 0
  · subst h; rw [dg_zero]; rfl
  · rw [dg_pos h, decide_eq_true (by simp), decide_eq_true (by omega)]

theorem iv_val_dg (z : Int) : iv (decide (z < 0)) (val (dg z.natAbs)) = z := by
  rw [val_dg]
  unfold iv
  by_cases h : z < 0
  · rw [if_pos (decide_eq_true h)]; omega
  · rw [if_neg (by simp; omega)]; omega

def Bx (w : World) (b : Nat) (T : TypeId) (vs : Array Value) : Prop := w.heap[b]? = some (.cells vs T (0, 0))

theorem Bx.lt {w : World} {b : Nat} {T : TypeId} {vs : Array Value} (h : Bx w b T vs) : b < w.heap.size := (Array.getElem?_eq_some_iff.1 h).1

theorem Bx.cell {w : World} {b : Nat} {T : TypeId} {vs : Array Value} (h : Bx w b T vs) {j : Nat} {v : Value} (hj : vs[j]? = some v) : w.cell? ⟨b, j, none⟩ = some v := by
  rw [cell_of_row w b j _ _ _ h]
  simpa using hj

theorem Bx.kept {w w' : World} {b : Nat} {T : TypeId} {vs : Array Value} (h : Bx w b T vs) (f : Fr [] w w') : Bx w' b T vs := (f.block b h.lt (by simp)).trans h

theorem Bx.made (w : World) (T : TypeId) (vs : Array Value) : Bx (w.alloc (.cells vs T)) w.heap.size T vs := by
  unfold Bx
  exact heap_alloc_new w _

theorem Bx.made' {w : World} {b : Nat} (hb : b = w.heap.size) (T : TypeId) (vs : Array Value) : Bx (w.alloc (.cells vs T)) b T vs := by subst hb; exact Bx.made w T vs

theorem Bx.free {w : World} {b : Nat} {T : TypeId} {vs : Array Value} (h : Bx w b T vs) (j : Nat) : w.frozen? ⟨b, j, none⟩ = false := by
  have h' : w.heap[b]? = some (.cells vs T (0, 0)) := h
  simp [World.frozen?, h']

theorem Bx.set2 {w : World} {b : Nat} {T : TypeId} {v0 v1 : Value} (h : Bx w b T #[v0, v1]) (u0 u1 : Value) : Bx ((w.setCell ⟨b, 0, none⟩ u0).setCell ⟨b, 1, none⟩ u1) b T #[u0, u1] := by
  have h' : w.heap[b]? = some (.cells #[v0, v1] T (0, 0)) := h
  unfold Bx
  simp [World.setCell, Array.getElem?_modify, h']

theorem set2_fr (w : World) (b : Nat) (u0 u1 : Value) : Fr [b] w ((w.setCell ⟨b, 0, none⟩ u0).setCell ⟨b, 1, none⟩ u1) :=
  ((Fr.refl _ _).setCell ⟨b, 0, none⟩ _ (fun _ => List.mem_singleton.2 rfl)).setCell ⟨b, 1, none⟩ _ (fun _ => List.mem_singleton.2 rfl)

theorem set2_far {w : World} {b k j : Nat} {u0 u1 : Value} (h : k ≠ b) : ((w.setCell ⟨b, 0, none⟩ u0).setCell ⟨b, 1, none⟩ u1).cell? ⟨k, j, none⟩ = w.cell? ⟨k, j, none⟩ := by
  rw [World.cell?_setCell_far _ _ _ _ (fun e : b = k => h e.symm), World.cell?_setCell_far _ _ _ _ (fun e : b = k => h e.symm)]

theorem mul_sign (g h : Bool) (a b : Nat) : ((g != h) && decide (0 < a * b)) = decide (iv g a * iv h b < 0) := by
  have e : 0 < a * b ↔ (0 : Int) < (a : Int) * (b : Int) := by rw [← Int.natCast_mul]; omega
  cases g <;> cases h <;> simp only [iv, Bool.false_eq_true, if_false, if_true, bne_self_eq_false, Bool.false_and, Bool.true_and, Bool.bne_true, Bool.bne_false, Bool.not_false, Int.neg_mul, Int.mul_neg, Int.neg_neg]
  · exact (decide_eq_false (by have := Int.mul_nonneg (Int.natCast_nonneg a) (Int.natCast_nonneg b); omega)).symm
  · exact decide_eq_decide.2 (by omega)
  · exact decide_eq_decide.2 (by omega)
  · exact (decide_eq_false (by have := Int.mul_nonneg (Int.natCast_nonneg a) (Int.natCast_nonneg b); omega)).symm

theorem fin_ret {fn : Func} {a : Act} {w w2 : World} {b n c : Nat} {v0 v1 : Value} {g : Bool} {p : Option Addr} {ys : List Nat} {z : Int} (hr : Bx w2 b 24 #[v0, v1]) (hw : Fr [] w w2) {base : Nat} (hs : Ow w2 base p n c ys) (_hb : w.heap.size ≤ b) (_hbb : b < base) (hd : a.defers = [])
    (hys : ys = dg z.natAbs) (hg : g = decide (z < 0))
    (hf : ∀ W' : World, W'.cell? ⟨b, 0, none⟩ = some (.bool g) → W'.cell? ⟨b, 1, none⟩ = some (.slice p n c) → (results fn a.tmps).run Tryz.prog W' = .ok (iw g p n c) W') :
    bodyPost Tryz.prog fn (RetI w z) .ret a ((w2.setCell ⟨b, 0, none⟩ (.bool g)).setCell ⟨b, 1, none⟩ (.slice p n c)) := by
  have h2 := hr.set2 (.bool g) (.slice p n c)
  have f3 := set2_fr w2 b (.bool g) (.slice p n c)
  have f2 := hw.trans f3 (fun x hx hl => by have := List.mem_singleton.1 hx; omega)
  have s2 := (hs.keep f3 (fun k h1 _ h2 => by have := List.mem_singleton.1 h2; omega)).mono (show w.heap.size ≤ base by omega)
  have hn := hs.sl.len
  subst hys
  subst hg
  subst hn
  exact bodyPost_ret (hf _ (h2.cell rfl) (h2.cell rfl)) hd ⟨p, c, rfl, s2, f2⟩

theorem bl_zero_iff (x : Nat) : (((bl x : Nat) : Int) == 0) = decide (x = 0) := by
  by_cases h : x = 0
  · subst h; rfl
  · have := bl_pos h
    rw [beq_eq_false_iff_ne.2 (by omega), decide_eq_false h]

set_option maxRecDepth 100000 in
set_option maxHeartbeats 1000000 in
theorem iszero_any (g : Bool) (p : Option Addr) (n c : Nat) (xs : List Nat) (w : World) (h1 : Sl w p n c xs) (_hn : n ≤ 549755813887) :
    Calls Tryz.prog 162 #[iw g p n c] w (fun e w' => e = .returned (.bool (decide (val xs = 0))) ∧ Fr [] w w') := by
  have hz := bl_zero_iff (val xs)
  go_enter Tryz.func162, Tryz.ntmps162
  go_wp2_with fail
  refine (bitLen_any _ _ _ _ _ (h1.kept (Fr.new _)) (by omega)).mono ?_
  rintro e w' ⟨rfl, rfl⟩
  go_wp2
  go_ret
  exact ⟨rfl, Fr.new _⟩

set_option maxRecDepth 100000 in
set_option maxHeartbeats 1000000 in
theorem signed_any (g : Bool) (p : Option Addr) (n c : Nat) (w : World) :
    Calls Tryz.prog 148 #[.bool g, .slice p n c] w fun e w' => e = .returned (iw (g && decide (0 < n)) p n c) ∧ Fr [] w w' := by
  cases g
  · go_enter Tryz.func148, Tryz.ntmps148
    go_wp2
    exact bodyPost_ret (v := iw false p n c) (by simp [results, Tryz.results148, go_sem]) rfl ⟨rfl, Fr.new _⟩
  · go_enter Tryz.func148, Tryz.ntmps148
    go_wp2
    exact bodyPost_ret (v := iw (decide (0 < n)) p n c) (by simp [results, Tryz.results148, go_sem]) rfl ⟨rfl, Fr.new _⟩

set_option maxRecDepth 100000 in
set_option maxHeartbeats 1000000 in
theorem isneg_any (g : Bool) (p : Option Addr) (n c : Nat) (xs : List Nat) (w : World) (h1 : Sl w p n c xs) (_hn : n ≤ 549755813887) :
    Calls Tryz.prog 163 #[iw g p n c] w (fun e w' => e = .returned (.bool (decide (iv g (val xs) < 0))) ∧ Fr [] w w') := by
  cases g
  · have hz : decide (iv false (val xs) < 0) = false := by rw [iv_lt]; rfl
    rw [hz]
    clear hz
    go_enter Tryz.func163, Tryz.ntmps163
    go_wp2
    go_ret
    exact ⟨rfl, Fr.new _⟩
  · have hz : decide (iv true (val xs) < 0) = !decide (val xs = 0) := by rw [iv_lt, Bool.true_and, ← decide_not]; exact decide_eq_decide.2 (by omega)
    rw [hz]
    clear hz
    go_enter Tryz.func163, Tryz.ntmps163
    go_wp2_with fail
    refine (iszero_any _ _ _ _ _ _ (h1.kept (Fr.new _)) (by omega)).mono ?_
    rintro e w1 ⟨rfl, hf⟩
    go_wp2
    go_ret
    exact ⟨rfl, (Fr.new _).trans hf (by simp)⟩

set_option maxRecDepth 100000 in
set_option maxHeartbeats 1000000 in
theorem ineg_any (g : Bool) (p : Option Addr) (n c : Nat) (xs : List Nat) (w : World) (h1 : Sl w p n c xs) (_hn : n ≤ 549755813887) :
    Calls Tryz.prog 119 #[iw g p n c] w (RetI w (-(iv g (val xs)))) := by
  go_enter Tryz.func119, Tryz.ntmps119
  go_wp2_with fail
  have hw : Fr [] w ((w.alloc (Obj.cells #[.bool g, .slice p n c] 24)).alloc (Obj.cells #[.bool false, .slice none 0 0] 24)) := ((Fr.refl _ _).alloc _).alloc _
  have b0 : Bx ((w.alloc (Obj.cells #[.bool g, .slice p n c] 24)).alloc (Obj.cells #[.bool false, .slice none 0 0] 24)) w.heap.size 24 #[.bool g, .slice p n c] := (Bx.made' (by simp) _ _).kept ((Fr.refl _ _).alloc _)
  have hr : Bx ((w.alloc (Obj.cells #[.bool g, .slice p n c] 24)).alloc (Obj.cells #[.bool false, .slice none 0 0] 24)) (w.heap.size + 1) 24 #[.bool false, .slice none 0 0] := (Bx.made' (by simp) _ _).kept (Fr.refl _ _)
  generalize ((w.alloc (Obj.cells #[.bool g, .slice p n c] 24)).alloc (Obj.cells #[.bool false, .slice none 0 0] 24)) = W at *
  replace h1 := h1.kept hw
  have hbs := hr.lt
  have c0 := b0.cell (j := 0) rfl
  have c1 := b0.cell (j := 1) rfl
  go_region_held3 (fun w' => w'.cell? ⟨w.heap.size, 0, none⟩ = some (.bool g) ∧ w'.cell? ⟨w.heap.size, 1, none⟩ = some (.slice p n c)) (first | exact ⟨k0, k1⟩ | exact ⟨c0, c1⟩ | exact ⟨(set2_far (by omega)).trans k0, (set2_far (by omega)).trans k1⟩)
    (first
    | (go_at_call 165; refine (trim_any _ _ _ _ _ (h1.kept (Fr.refl _ _).drew) (by omega)).mono ?_; rintro e w1 ⟨p1, cc1, rfl, o1, ff1⟩; have hf1 : Fr [] W w1 := ((Fr.refl [] W).drew).trans ff1 (by simp); have k0 := (b0.kept hf1).cell (j := 0) rfl; have k1 := (b0.kept hf1).cell (j := 1) rfl)
    | (go_at_call 148; refine (signed_any _ _ _ _ _).mono ?_; rintro e w2 ⟨rfl, ff2⟩; have hf2 : Fr [] W w2 := (hf1).trans ff2 (by simp); have k0 := (b0.kept hf2).cell (j := 0) rfl; have k1 := (b0.kept hf2).cell (j := 1) rfl; have o2 := o1.kept ff2; have hr2 := hr.kept hf2; have r0 := hr2.cell (j := 0) rfl; have r1 := hr2.cell (j := 1) rfl; have rf := hr2.free 0; have rg := hr2.free 1; have hw2 := hw.trans hf2 (by simp)))
  go_wp2
  exact fin_ret hr2 hw2 o2 (by omega) hbs rfl (by rw [Int.natAbs_neg, iv_abs]) (by rw [dg_len_pos]; cases g <;> simp [iv] <;> omega) (fun W' c0 c1 => by simp [results, Tryz.results119, go_sem, c0, c1])

set_option maxRecDepth 100000 in
set_option maxHeartbeats 1000000 in
theorem imul_any (g h : Bool) (p q : Option Addr) (n c m d : Nat) (xs ys : List Nat) (w : World) (h1 : Sl w p n c xs) (h2 : Sl w q m d ys) (_hn : n ≤ 549755813887) (_hm : m ≤ 549755813887) :
    Calls Tryz.prog 99 #[iw g p n c, iw h q m d] w (RetI w (iv g (val xs) * iv h (val ys))) := by
  go_enter Tryz.func99, Tryz.ntmps99
  go_wp2_with fail
  have hw : Fr [] w (((w.alloc (Obj.cells #[.bool g, .slice p n c] 24)).alloc (Obj.cells #[.bool h, .slice q m d] 24)).alloc (Obj.cells #[.bool false, .slice none 0 0] 24)) := (((Fr.refl _ _).alloc _).alloc _).alloc _
  have b0 : Bx (((w.alloc (Obj.cells #[.bool g, .slice p n c] 24)).alloc (Obj.cells #[.bool h, .slice q m d] 24)).alloc (Obj.cells #[.bool false, .slice none 0 0] 24)) w.heap.size 24 #[.bool g, .slice p n c] := (Bx.made' (by simp) _ _).kept (((Fr.refl _ _).alloc _).alloc _)
  have b1 : Bx (((w.alloc (Obj.cells #[.bool g, .slice p n c] 24)).alloc (Obj.cells #[.bool h, .slice q m d] 24)).alloc (Obj.cells #[.bool false, .slice none 0 0] 24)) (w.heap.size + 1) 24 #[.bool h, .slice q m d] := (Bx.made' (by simp) _ _).kept ((Fr.refl _ _).alloc _)
  have hr : Bx (((w.alloc (Obj.cells #[.bool g, .slice p n c] 24)).alloc (Obj.cells #[.bool h, .slice q m d] 24)).alloc (Obj.cells #[.bool false, .slice none 0 0] 24)) (w.heap.size + 2) 24 #[.bool false, .slice none 0 0] := (Bx.made' (by simp) _ _).kept (Fr.refl _ _)
  generalize (((w.alloc (Obj.cells #[.bool g, .slice p n c] 24)).alloc (Obj.cells #[.bool h, .slice q m d] 24)).alloc (Obj.cells #[.bool false, .slice none 0 0] 24)) = W at *
  replace h1 := h1.kept hw
  replace h2 := h2.kept hw
  have hbs := hr.lt
  have c0 := b0.cell (j := 0) rfl
  have c1 := b0.cell (j := 1) rfl
  have c2 := b1.cell (j := 0) rfl
  have c3 := b1.cell (j := 1) rfl
  go_region_held3 (fun w' => w'.cell? ⟨w.heap.size, 0, none⟩ = some (.bool g) ∧ w'.cell? ⟨w.heap.size, 1, none⟩ = some (.slice p n c) ∧ w'.cell? ⟨w.heap.size + 1, 0, none⟩ = some (.bool h) ∧ w'.cell? ⟨w.heap.size + 1, 1, none⟩ = some (.slice q m d)) (first | exact ⟨k0, k1, k2, k3⟩ | exact ⟨c0, c1, c2, c3⟩ | exact ⟨(set2_far (by omega)).trans k0, (set2_far (by omega)).trans k1, (set2_far (by omega)).trans k2, (set2_far (by omega)).trans k3⟩)
    (first
    | (go_at_call 149; refine (mul_any _ _ _ _ _ _ _ _ _ (h1.kept (Fr.refl _ _).drew) (h2.kept (Fr.refl _ _).drew) (by omega) (by omega)).mono ?_; rintro e w1 ⟨p1, cc1, rfl, o1, ff1⟩; have hf1 : Fr [] W w1 := ((Fr.refl [] W).drew).trans ff1 (by simp); have k0 := (b0.kept hf1).cell (j := 0) rfl; have k1 := (b0.kept hf1).cell (j := 1) rfl; have k2 := (b1.kept hf1).cell (j := 0) rfl; have k3 := (b1.kept hf1).cell (j := 1) rfl)
    | (go_at_call 148; refine (signed_any _ _ _ _ _).mono ?_; rintro e w2 ⟨rfl, ff2⟩; have hf2 : Fr [] W w2 := (hf1).trans ff2 (by simp); have k0 := (b0.kept hf2).cell (j := 0) rfl; have k1 := (b0.kept hf2).cell (j := 1) rfl; have k2 := (b1.kept hf2).cell (j := 0) rfl; have k3 := (b1.kept hf2).cell (j := 1) rfl; have o2 := o1.kept ff2; have hr2 := hr.kept hf2; have r0 := hr2.cell (j := 0) rfl; have r1 := hr2.cell (j := 1) rfl; have rf := hr2.free 0; have rg := hr2.free 1; have hw2 := hw.trans hf2 (by simp)))
  go_wp2
  exact fin_ret hr2 hw2 o2 (by omega) hbs rfl (by rw [Int.natAbs_mul, iv_abs, iv_abs]) (by rw [dg_len_pos]; exact mul_sign g h _ _) (fun W' c0 c1 => by simp [results, Tryz.results99, go_sem, c0, c1])

end Go.Proofs.YtagciepnhjbopaaGreatDoor
