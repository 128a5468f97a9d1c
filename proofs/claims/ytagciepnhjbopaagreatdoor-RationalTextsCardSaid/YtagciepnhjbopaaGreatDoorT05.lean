/- What the statements of this claim stand on: of Mul, Mul2, Div1, what they name -/
import Derived.StillTailTactics
import Derived.Test.YtagciepnhjbopaaGreatDoorT04

namespace Go.Proofs.YtagciepnhjbopaaGreatDoor
open Go.RowKit

theorem blk_of_made {w : World} {base g n : Nat} (h : w.ownsRow base 52 1 (.slice (some ⟨g, 0, none⟩) n n) n (madeCells #[Value.int .u32 0] n).toList) : Blk w g ((List.replicate n 0).map dv) := by
  rcases h.2 with ⟨h1, _⟩ | ⟨g', cap, cur, hv, _, hh, _, _, hs, ht⟩
  · cases h1
  · cases hv
    have e : cur.toList = (madeCells #[Value.int .u32 0] n).toList := by
      rw [← ht, List.take_of_length_le (by simp; omega)]
    have e2 : (madeCells #[Value.int .u32 0] n).toList = (List.replicate n 0).map dv := by
      simp only [madeCells, Array.toList_map, Array.toList_range]
      rw [List.map_replicate]
      apply List.ext_getElem (by simp)
      intro i h1 h2
      simp [Nat.mod_one]
    unfold Blk
    rw [← e2, ← e]
    exact hh

def Fb (w : World) (g n : Nat) (Z : List Nat) : Prop := Blk w g (spl ((List.replicate n 0).map dv) 0 Z)

theorem Fb.start {w : World} {g n : Nat} (h : Blk w g ((List.replicate n 0).map dv)) : Fb w g n [] := by unfold Fb; rw [spl_nil]; exact h

theorem Fb.free {w : World} {g n : Nat} {Z : List Nat} (h : Fb w g n Z) (j : Nat) : w.frozen? ⟨g, j, none⟩ = false := Blk.free h j

theorem Fb.cell {w : World} {g n k : Nat} {Z : List Nat} (h : Fb w g n Z) (hk : k < n) (_hz : Z.length ≤ k) : w.cell? ⟨g, k, none⟩ = some (dv 0) := by
  refine Blk.cell h ?_
  rw [spl_at (by simp; omega), if_neg (by omega), if_neg (by omega)]
  simp [hk]

theorem Fb.set {w : World} {g n k : Nat} {Z : List Nat} (h : Fb w g n Z) (_hk : k < n) (hz : Z.length = k) (v : Nat) : Fb (w.setCell ⟨g, k, none⟩ (dv v)) g n (Z ++ [v]) := by
  have h1 := Blk.set h k (dv v)
  have h2 := spl_set (L := (List.replicate n 0).map dv) (o := 0) (Z := Z) (by simp; omega) v
  rw [Nat.zero_add, hz] at h2
  rw [h2] at h1
  exact h1

theorem Fb.full {w : World} {g n : Nat} {Z : List Nat} (h : Fb w g n Z) (hz : Z.length = n) : Blk w g (Z.map dv) := by
  unfold Fb at h
  rw [spl_map] at h
  simpa [hz] using h

theorem mul_small {x y : Nat} (hx : x < 4294967296) (hy : y < 4294967296) : x * y ≤ 18446744065119617025 := Nat.mul_le_mul (Nat.le_of_lt_succ hx) (Nat.le_of_lt_succ hy)

theorem addp_step {zs ys Z : List Nat} {x k C T : Nat} (hZ : Z.length = k) (_h : val Z + pB k * C = val (zs.take k) + x * val (ys.take k)) (hT : T = C + (x * gd ys k + gd zs k)) :
    val (Z ++ [T % 4294967296]) + pB (k + 1) * (T / 4294967296) = val (zs.take (k + 1)) + x * val (ys.take (k + 1)) := by
  rw [val_append, val_one, hZ, val_take_succ, val_take_succ, pB_succ]
  have e1 : pB k * (T % 4294967296) + 4294967296 * pB k * (T / 4294967296) = pB k * T := by
    have : T = T % 4294967296 + 4294967296 * (T / 4294967296) := by omega
    conv => rhs; rw [this, Nat.mul_add]
    rw [Nat.mul_comm 4294967296 (pB k), Nat.mul_assoc]
  have e2 : pB k * T = pB k * C + (x * (pB k * gd ys k) + pB k * gd zs k) := by
    rw [hT, Nat.mul_add, Nat.mul_add]
    rw [Nat.mul_left_comm (pB k) x]
  rw [Nat.mul_add]
  omega

set_option maxRecDepth 100000 in
set_option maxHeartbeats 1000000 in
theorem addProduct_any (g o c m d x : Nat) (q : Option Addr) (L : List Value) (zs ys : List Nat) (w : World) (hb : Blk w g L) (hz : Sg L o zs) (hzd : Dg zs) (_hzl : zs.length = m)
    (hy : Sl w q m d ys) (hq : 0 < m → ∀ a, q = some a → a.block ≠ g) (hx : x < 4294967296) (_hm : m ≤ 1099511627776) :
    Calls Tryz.prog 186 #[.slice (some ⟨g, o, none⟩) m c, .slice q m d, .int .u32 x] w fun e w' =>
      ∃ Z r, e = .returned (.int .u32 (r : Nat)) ∧ Z.length = m ∧ Dg Z ∧ r < 4294967296 ∧ val Z + pB m * r = val zs + x * val ys ∧ Blk w' g (spl L o Z) ∧ Fr [g] w w' := by
  have hyl := hy.len
  go_enter Tryz.func186, Tryz.ntmps186
  go_wp2
  go_loopw [7, 12] (fun s t wr => ∃ (k C : Nat) (Z : List Nat), k ≤ m ∧ s = .int .u64 C ∧ t = .int .i64 k ∧ C ≤ 4294967295 ∧ Z.length = k ∧ Dg Z ∧ val Z + pB k * C = val (zs.take k) + x * val (ys.take k) ∧ Blk wr g (spl L o Z) ∧ Fr [g] w wr) (fun _ t _ => m - (intOf t).toNat)
  case atStart => exact ⟨0, 0, [], Nat.zero_le _, rfl, rfl, by omega, rfl, Dg.nil, rfl, by rw [spl_nil]; exact hb, Fr.refl _ _⟩
  case round =>
    obtain ⟨k, C, Z, hk, rfl, rfl, hC, hZ, hZd, hv, hB, hf⟩ := hrel
    have HZ := Lib.hid hZ
    have Hv := Lib.hid hv
    have HL := hz.1
    clear hZ hv
    by_cases hlt : k < m
    · obtain ⟨b1, o1, rfl, _, m1⟩ := (hy.keep hf (by intro a ha _; simpa using hq (by omega) a ha)).rd.open (by omega)
      have c1 := m1 k (by omega)
      have c2 : wr.cell? ⟨g, o + k, none⟩ = some (dv (gd zs k)) := hB.cell (by rw [spl_at (by rw [HZ.out]; omega), if_neg (by omega), if_neg (by rw [HZ.out]; omega)]; exact hz.2 k (by omega))
      have c3 := hB.free (o + k)
      have d1 := hy.dig.at k
      have d2 := hzd.at k
      have hT : ∀ T, T = C + (x * gd ys k + gd zs k) → _ := fun T => addp_step HZ.out Hv.out
      have hset := hB.set (o + k)
      have hs2 : ∀ v, (spl L o Z).set (o + k) (dv v) = spl L o (Z ++ [v]) := fun v => by
        have := spl_set (L := L) (o := o) (Z := Z) (by rw [HZ.out]; omega) v
        rwa [HZ.out] at this
      have hbd := mul_small hx d1
      have hbd' : (x : Int) * (gd ys k : Nat) ≤ 18446744065119617025 := by
        rw [← Int.natCast_mul]; omega
      have hbd0 : (0 : Int) ≤ (x : Int) * (gd ys k : Nat) := by rw [← Int.natCast_mul]; omega
      generalize gd ys k = y at *
      generalize gd zs k = z at *
      have HT := Lib.hid hT
      have HS := Lib.hid hs2
      have HW := Lib.hid hset
      clear hT hs2 hset m1
      go_wp2
      go_roundw
      case rel =>
        have eT : (C : Int) + ((x : Int) * y + z) = ((C + (x * y + z) : Nat) : Int) := by simp
        have eM : ((C : Int) + ((x : Int) * y + z)) % 4294967296 = (((C + (x * y + z)) % 4294967296 : Nat) : Int) := by rw [eT]; omega
        have eD : ((C : Int) + ((x : Int) * y + z)) / 4294967296 = (((C + (x * y + z)) / 4294967296 : Nat) : Int) := by rw [eT]; omega
        rw [eM, eD]
        refine ⟨k + 1, _, Z ++ [(C + (x * y + z)) % 4294967296], by omega, rfl, by go_num, by omega, by simp [HZ.out], hZd.append (Dg.one (by omega)), HT.out _ rfl, ?_, hf.setCell _ _ (by simp)⟩
        rw [← HS.out]
        exact HW.out _
      case measure => simp [intOf]; omega
    · obtain rfl : k = m := by omega
      have hv := Hv.out
      rw [List.take_of_length_le (by omega), List.take_of_length_le (by omega)] at hv
      go_wp2
      go_ret
      exact ⟨Z, C, rfl, HZ.out, hZd, by omega, hv, hB, hf⟩

theorem add_step {xs ys Z : List Nat} {k C T : Nat} (hZ : Z.length = k) (_h : val Z + pB k * C = val (xs.take k) + val (ys.take k)) (_hT : T = C + (gd xs k + gd ys k)) :
    val (Z ++ [T % 4294967296]) + pB (k + 1) * (T / 4294967296) = val (xs.take (k + 1)) + val (ys.take (k + 1)) := by
  have := addp_step (zs := xs) (ys := ys) (Z := Z) (x := 1) (k := k) (C := C) (T := T) hZ (by omega) (by omega)
  omega

set_option maxRecDepth 100000 in
set_option maxHeartbeats 1000000 in
theorem add_any (p q : Option Addr) (n c m d : Nat) (xs ys : List Nat) (w : World) (h1 : Sl w p n c xs) (h2 : Sl w q m d ys) (_hn : n ≤ 1099511627775) (_hm : m ≤ 1099511627775) :
    Calls Tryz.prog 197 #[.slice p n c, .slice q m d] w (RetOwn w (dg (val xs + val ys))) := by
  obtain ⟨i0, hi, hz0, hz1, hz2⟩ := info_parts Tryz.infoU
  have k1 := h1.cut
  have k2 := h2.cut
  have l1 := dg_len_val h1.dig
  have l2 := dg_len_val h2.dig
  rw [h1.len] at l1
  rw [h2.len] at l2
  have v1 := val_dg (val xs)
  have v2 := val_dg (val ys)
  go_enter Tryz.func197, Tryz.ntmps197
  go_wp2_with fail
  refine (cut_any _ _ _ _ _ h1).mono ?_
  rintro e w' ⟨rfl, rfl⟩
  go_wp2_with fail
  refine (cut_any _ _ _ _ _ h2).mono ?_
  rintro e w' ⟨rfl, rfl⟩
  clear h1 h2
  have hfin : ∃ s, s = val xs + val ys := ⟨_, rfl⟩
  obtain ⟨s, hs⟩ := hfin
  have HS0 := Lib.hid hs
  rw [← v1, ← v2] at hs
  have Hs := Lib.hid hs
  clear hs v1 v2
  generalize dg (val xs) = A at *
  generalize dg (val ys) = B at *
  obtain ⟨X, Y, px, py, cx, cy, hX⟩ : ∃ X Y px py cx cy, (A.length < B.length ∧ X = B ∧ Y = A ∧ px = q ∧ py = p ∧ cx = d ∧ cy = c) ∨ (¬ A.length < B.length ∧ X = A ∧ Y = B ∧ px = p ∧ py = q ∧ cx = c ∧ cy = d) := by
    by_cases h : A.length < B.length
    · exact ⟨B, A, q, p, d, c, Or.inl ⟨h, rfl, rfl, rfl, rfl, rfl, rfl⟩⟩
    · exact ⟨A, B, p, q, c, d, Or.inr ⟨h, rfl, rfl, rfl, rfl, rfl, rfl⟩⟩
  have KX : Sl w px X.length cx X := by rcases hX with ⟨_, rfl, _, rfl, _, rfl, _⟩ | ⟨_, rfl, _, rfl, _, rfl, _⟩ <;> assumption
  have KY : Sl w py Y.length cy Y := by rcases hX with ⟨_, _, rfl, _, rfl, _, rfl⟩ | ⟨_, _, rfl, _, rfl, _, rfl⟩ <;> assumption
  have hle : Y.length ≤ X.length := by rcases hX with ⟨_, rfl, rfl, _⟩ | ⟨_, rfl, rfl, _⟩ <;> omega
  have hXl : X.length ≤ 1099511627775 := by rcases hX with ⟨_, rfl, rfl, _⟩ | ⟨_, rfl, rfl, _⟩ <;> omega
  have Hs2 : Hid (s = val X + val Y) := by
    rcases hX with ⟨_, rfl, rfl, _⟩ | ⟨_, rfl, rfl, _⟩
    · exact Hs.out.trans (Nat.add_comm _ _)
    · exact Hs.out
  have sX := KX.src
  rcases hX with ⟨hlt, rfl, rfl, rfl, rfl, rfl, rfl⟩ | ⟨hlt, rfl, rfl, rfl, rfl, rfl, rfl⟩
  case' inl => have hdec : decide (Y.length < X.length) = true := by simpa using hlt
  case' inr => have hdec : decide (X.length < Y.length) = false := by simpa using hlt
  all_goals
    clear hlt k1 k2 l1 l2 Hs
    go_wp2_with (at_make; refine wpList_make_full _ rfl _ _ 22 rfl 0 52 i0 (.int .u32 0) 1 Tryz.underlying22 hi hz0 hz1 _ _ _ _ (X.length + 1) rfl rfl (by simp) (by simp) (by rw [hz2]; omega) (by unfold maxLen; omega) (Nat.zero_le _) ?_)
    intro w0 hown hgrow
    have hB0 := blk_of_made hown
    have hf0 : Fr [] w w0 := (Fr.refl _ _).grown hgrow (by simp)
    clear hown hgrow
    have hg0 := hB0.lt
    generalize hg : w.heap.size = g at *
    go_wp2
    go_loopw [6, 26] (fun s t wr => ∃ (k C : Nat) (Z : List Nat), k ≤ X.length ∧ s = .int .u64 C ∧ t = .int .i64 k ∧ C ≤ 1 ∧ Z.length = k ∧ Dg Z ∧ val Z + pB k * C = val (X.take k) + val (Y.take k) ∧ Fb wr g (X.length + 1) Z ∧ Fr [] w wr) (fun _ t _ => X.length - (intOf t).toNat)
    case atStart => exact ⟨0, 0, [], Nat.zero_le _, rfl, rfl, by omega, rfl, Dg.nil, rfl, Fb.start hB0, hf0⟩
    case round =>
      obtain ⟨k, C, Z, hk, rfl, rfl, hC, hZ, hZd, hv, hB, hf⟩ := hrel
      have HZ := Lib.hid hZ
      have Hv := Lib.hid hv
      have HG := Lib.hid hg
      clear hZ hv hg hB0 hf0
      by_cases hlt : k < X.length
      · obtain ⟨b1, o1, rfl, _, m1⟩ := (KX.kept hf).rd.open (by omega)
        have c1 := m1 k (by omega)
        have c3 := hB.free k
        have c4 := hB.cell (show k < X.length + 1 by omega) (by rw [HZ.out]; exact Nat.le_refl _)
        have d1 := KX.dig.at k
        have d2 := KY.dig.at k
        have hT : ∀ T, T = C + (gd X k + gd Y k) → _ := fun T => add_step HZ.out Hv.out
        have HT := Lib.hid hT
        have HW := Lib.hid (hB.set (show k < X.length + 1 by omega) HZ.out)
        clear hT m1
        generalize gd X k = x at *
        go_wp2_with fail
        refine (digit_any _ _ _ _ _ _ (KY.kept hf) (by omega) (by omega) (by omega)).mono ?_
        rintro e w' ⟨rfl, rfl⟩
        rw [Int.toNat_natCast]
        generalize gd Y k = y at *
        go_wp2_with fail
        go_roundw
        case rel =>
          have eM : ((C : Int) + ((x : Int) + y)) % 4294967296 = (((C + (x + y)) % 4294967296 : Nat) : Int) := by omega
          have eD : ((C : Int) + ((x : Int) + y)) / 4294967296 = (((C + (x + y)) / 4294967296 : Nat) : Int) := by omega
          rw [eM, eD]
          exact ⟨k + 1, _, Z ++ [(C + (x + y)) % 4294967296], by omega, rfl, by go_num, by omega, by simp [HZ.out], hZd.append (Dg.one (by omega)), HT.out _ rfl, HW.out _, hf.setCell _ _ (by have := HG.out; simp; omega)⟩
        case measure => simp [intOf]; omega
      · obtain rfl : k = X.length := by omega
        have hv := Hv.out
        rw [List.take_length, List.take_of_length_le hle] at hv
        have c3 := hB.free X.length
        have c4 := hB.cell (show X.length < X.length + 1 by omega) (by rw [HZ.out]; exact Nat.le_refl _)
        have HW := hB.set (show X.length < X.length + 1 by omega) HZ.out C
        have HO := Ow.of_blk (base := g) (HW.full (by simp [HZ.out])) (Nat.le_refl _) (by simp [HZ.out]; omega) (hZd.append (Dg.one (by omega)))
        have Hval : val (Z ++ [C]) = s := by rw [val_append, val_one, HZ.out, hv, Hs2.out]
        have Hlen : (Z ++ [C]).length = X.length + 1 := by simp [HZ.out]
        rw [Hlen] at HO
        have HO' := Lib.hid HO
        have Hval' := Lib.hid Hval
        clear HO Hval Hlen HW hv
        go_wp2_with fail
        refine (normal_any _ _ _ _ _ _ HO'.out).mono ?_
        rw [Hval'.out]
        rintro e w' ⟨⟨p', c', rfl, ho'⟩, rfl⟩
        go_wp2_with fail
        go_ret
        have e0 := HS0.out
        subst e0
        exact ⟨p', c', rfl, by rw [HG.out]; exact ho', hf.setCell _ _ (by have := HG.out; simp; omega)⟩

end Go.Proofs.YtagciepnhjbopaaGreatDoor

namespace Go.Proofs.YtagciepnhjbopaaGreatDoor
open Go.RowKit

theorem cmpN_lt {a b : Nat} (h : a < b) : cmpN a b = -1 := by unfold cmpN; rw [if_pos h]

theorem cmpN_gt {a b : Nat} (h : b < a) : cmpN a b = 1 := by unfold cmpN; rw [if_neg (by omega), if_pos h]

theorem cmpN_eq {a b : Nat} (h : a = b) : cmpN a b = 0 := by rw [h]; exact cmpN_refl b

theorem sub_step {xs ys Z : List Nat} {k C D C' : Nat} (hZ : Z.length = k) (_h : val Z + val (ys.take k) = val (xs.take k) + pB k * C) (hD : D + gd ys k + C = gd xs k + 4294967296 * C') :
    val (Z ++ [D]) + val (ys.take (k + 1)) = val (xs.take (k + 1)) + pB (k + 1) * C' := by
  rw [val_append, val_one, hZ, val_take_succ, val_take_succ, pB_succ]
  have e : pB k * (D + gd ys k + C) = pB k * (gd xs k + 4294967296 * C') := by rw [hD]
  rw [Nat.mul_add, Nat.mul_add, Nat.mul_add, ← Nat.mul_assoc, Nat.mul_comm (pB k) 4294967296] at e
  omega

theorem val_take_all {ys : List Nat} {k : Nat} (_h : val ys < pB k) : val (ys.take k) = val ys := by
  by_cases hk : k ≤ ys.length
  · have e := val_split ys k hk
    have h0 : val (ys.drop k) = 0 := by
      apply Nat.eq_zero_of_not_pos
      intro hp
      have : pB k * 1 ≤ pB k * val (ys.drop k) := Nat.mul_le_mul_left _ hp
      omega
    rw [e, h0]; omega
  · rw [List.take_of_length_le (by omega)]

theorem sub_word (x y C : Nat) (_hx : x < 4294967296) (_hy : y < 4294967296) (_hC : C ≤ 1) : ∃ D C' : Nat, D < 4294967296 ∧ C' ≤ 1 ∧
    IntKind.u64.wrap (IntKind.u64.wrap ((x : Int) - y) - C) / 9223372036854775808 = C' ∧ IntKind.u64.wrap (IntKind.u64.wrap ((x : Int) - y) - C) % 4294967296 = D ∧ D + y + C = x + 4294967296 * C' := by
  rw [IntKind.wrap_u64, IntKind.wrap_u64]
  by_cases h : y + C ≤ x
  · refine ⟨x - y - C, 0, by omega, by omega, by omega, by omega, by omega⟩
  · refine ⟨x + 4294967296 - y - C, 1, by omega, by omega, by omega, by omega, by omega⟩

set_option maxRecDepth 100000 in
set_option maxHeartbeats 1000000 in
theorem sub_any (p q : Option Addr) (n c m d : Nat) (xs ys : List Nat) (w : World) (h1 : Sl w p n c xs) (h2 : Sl w q m d ys) (_hn : n ≤ 1099511627775) (_hm : m ≤ 1099511627775) :
    Calls Tryz.prog 198 #[.slice p n c, .slice q m d] w (RetOwn w (dg (val xs - val ys))) := by
  by_cases hlt : val ys < val xs
  · obtain ⟨i0, hi, hz0, hz1, hz2⟩ := info_parts Tryz.infoU
    have hcmp := Lib.hid (cmpN_gt hlt)
    go_enter Tryz.func198, Tryz.ntmps198
    go_wp2_with fail
    refine (compare_any _ _ _ _ _ _ _ _ _ h1 h2).mono ?_
    rintro e w1 ⟨rfl, hf1⟩
    rw [hcmp.out]
    replace h1 := h1.kept hf1
    replace h2 := h2.kept hf1
    go_wp2_with fail
    refine (cut_any _ _ _ _ _ h1).mono ?_
    rintro e w' ⟨rfl, rfl⟩
    have l1 := dg_len_val h1.dig
    rw [h1.len] at l1
    have KX := h1.cut
    have Hlt := Lib.hid hlt
    have HV := Lib.hid (val_dg (val xs))
    have HB : Hid (val (ys.take (dg (val xs)).length) = val ys) := val_take_all (Nat.lt_trans hlt (dg_lt _))
    clear h1 hlt
    generalize dg (val xs) = X at *
    have LX := KX.len
    go_wp2_with (at_make; refine wpList_make_full _ rfl _ _ 22 rfl 0 52 i0 (.int .u32 0) 1 Tryz.underlying22 hi hz0 hz1 _ _ _ _ X.length rfl rfl (by simp) (by simp) (by rw [hz2]; omega) (by unfold maxLen; omega) (Nat.zero_le _) ?_)
    intro w0 hown hgrow
    have hB0 := blk_of_made hown
    have hf0 : Fr [] w1 w0 := (Fr.refl _ _).grown hgrow (by simp)
    clear hown hgrow
    have hg0 := hB0.lt
    generalize hg : w1.heap.size = g at *
    have HG := Lib.hid hg
    clear hg
    go_wp2
    go_loopw [6, 21] (fun s t wr => ∃ (k C : Nat) (Z : List Nat), k ≤ X.length ∧ s = .int .u64 C ∧ t = .int .i64 k ∧ C ≤ 1 ∧ Z.length = k ∧ Dg Z ∧ val Z + val (ys.take k) = val (X.take k) + pB k * C ∧ Fb wr g X.length Z ∧ Fr [] w1 wr) (fun _ t _ => X.length - (intOf t).toNat)
    case atStart => exact ⟨0, 0, [], Nat.zero_le _, rfl, rfl, by omega, rfl, Dg.nil, rfl, Fb.start hB0, hf0⟩
    case round =>
      obtain ⟨k, C, Z, hk, rfl, rfl, hC, hZ, hZd, hv, hB, hf⟩ := hrel
      have HZ := Lib.hid hZ
      have Hv := Lib.hid hv
      clear hZ hv hB0 hf0
      by_cases hlt : k < X.length
      · obtain ⟨b1, o1, rfl, _, m1⟩ := (KX.kept hf).rd.open (by omega)
        have c1 := m1 k (by omega)
        have c3 := hB.free k
        have c4 := hB.cell hlt (by rw [HZ.out]; exact Nat.le_refl _)
        have d1 := KX.dig.at k
        have d2 := h2.dig.at k
        have HT : Hid (∀ D C', D + gd ys k + C = gd X k + 4294967296 * C' → _) := fun D C' => sub_step HZ.out Hv.out
        have HW := Lib.hid (hB.set hlt HZ.out)
        clear m1
        generalize gd X k = x at *
        go_wp2_with fail
        refine (digit_any _ _ _ _ _ _ (h2.kept hf) (by omega) (by omega) (by omega)).mono ?_
        rintro e w' ⟨rfl, rfl⟩
        rw [Int.toNat_natCast]
        generalize gd ys k = y at *
        go_wp2_with fail
        go_roundw
        case rel =>
          obtain ⟨D, C', hD, hC', e1, e2, e3⟩ := sub_word x y C d1 d2 hC
          rw [e1, e2]
          exact ⟨k + 1, C', Z ++ [D], by omega, rfl, by go_num, hC', by simp [HZ.out], hZd.append (Dg.one hD), HT.out _ _ e3, HW.out _, hf.setCell _ _ (by have := HG.out; simp; omega)⟩
        case measure => simp [intOf]; omega
      · obtain rfl : k = X.length := by omega
        have hv := Hv.out
        rw [List.take_length, HB.out, HV.out] at hv
        have hC0 : C = 0 := by
          apply Nat.eq_zero_of_not_pos
          intro hp
          have h3 := val_lt hZd
          rw [HZ.out] at h3
          have h4 : pB X.length * 1 ≤ pB X.length * C := Nat.mul_le_mul_left _ hp
          have h5 := Hlt.out
          omega
        have HO := Lib.hid (Ow.of_blk (base := g) (hB.full HZ.out) (Nat.le_refl _) (by rw [HZ.out]; omega) hZd)
        have Hval : Hid (val Z = val xs - val ys) := by show val Z = _; rw [hC0] at hv; have := Hlt.out; omega
        rw [HZ.out] at HO
        clear hv hC0
        go_wp2_with fail
        refine (normal_any _ _ _ _ _ _ HO.out).mono ?_
        rw [Hval.out]
        rintro e w' ⟨⟨p', c', rfl, ho'⟩, rfl⟩
        go_wp2_with fail
        go_ret
        have := hf1.size
        have := HG.out
        exact ⟨p', c', rfl, ho'.mono (by omega), hf1.trans hf (by simp)⟩
  · have e0 : val xs - val ys = 0 := by omega
    have hcl : Hid (cmpN (val xs) (val ys) = -1 ∨ cmpN (val xs) (val ys) = 0) := by
      by_cases h : val xs < val ys
      · exact Or.inl (cmpN_lt h)
      · exact Or.inr (cmpN_eq (by omega))
    rw [e0, dg_zero]
    go_enter Tryz.func198, Tryz.ntmps198
    go_wp2_with fail
    refine (compare_any _ _ _ _ _ _ _ _ _ h1 h2).mono ?_
    rintro e w1 ⟨rfl, hf1⟩
    rcases hcl.out with hc | hc
    all_goals
      rw [hc]
      clear hc
      go_wp2
      go_ret
      exact ⟨none, 0, rfl, Ow.zero _ _, hf1⟩

theorem spl_spl {L : List Value} {k : Nat} {Q Z : List Nat} (_hL : Q.length ≤ L.length) (_h : k + Z.length ≤ Q.length) : spl (spl L 0 Q) k Z = spl L 0 (Q.take k ++ Z ++ Q.drop (k + Z.length)) := by
  have e : (Q.take k ++ Z ++ Q.drop (k + Z.length)).length = Q.length := by simp; omega
  have hl := spl_len (L := L) (o := 0) (Z := Q) (by omega)
  apply spl_ext (by omega)
  intro j
  rw [spl_at (by omega), spl_at (by omega)]
  rw [e]
  simp only [Nat.zero_add, Nat.not_lt_zero, if_false, Nat.sub_zero]
  by_cases h1 : j < k
  · have hj : j < Q.length := by omega
    rw [if_pos h1, if_pos hj, if_pos hj, gd_append_left (by simp; omega), gd_append_left (by simp; omega), gd_take h1]
  · rw [if_neg h1]
    by_cases h2 : j < k + Z.length
    · rw [if_pos h2, if_pos (by omega), gd_append_left (by simp; omega), gd_append_right (by simp; omega)]
      congr 3
      simp; omega
    · rw [if_neg h2]
      by_cases h3 : j < Q.length
      · rw [if_pos h3, if_pos h3, gd_append_right (by simp; omega), gd_drop]
        congr 3
        simp; omega
      · rw [if_neg h3, if_neg h3]

theorem mul_step {X Q Z B : List Nat} {k r m : Nat} (_hQ : Q.length = k + m) (hZ : Z.length = m) (h : val Q = val (X.take k) * val B) (h2 : val Z + pB m * r = val (Q.drop k) + gd X k * val B) :
    val (Q.take k ++ Z ++ [r]) = val (X.take (k + 1)) * val B := by
  rw [val_append, val_append, val_one, val_take_succ, Nat.add_mul, ← h, val_split Q k (by omega)]
  have e : (Q.take k).length = k := by simp; omega
  rw [List.length_append, e, hZ, pB_add]
  have e2 : pB k * (val Z + pB m * r) = pB k * (val (Q.drop k) + gd X k * val B) := by rw [h2]
  rw [Nat.mul_add, Nat.mul_add, ← Nat.mul_assoc, ← Nat.mul_assoc] at e2
  omega

set_option maxRecDepth 100000 in
set_option maxHeartbeats 1000000 in
theorem mul_any (p q : Option Addr) (n c m d : Nat) (xs ys : List Nat) (w : World) (h1 : Sl w p n c xs) (h2 : Sl w q m d ys) (_hn : n ≤ 549755813887) (_hm : m ≤ 549755813887) :
    Calls Tryz.prog 149 #[.slice p n c, .slice q m d] w (RetOwn w (dg (val xs * val ys))) := by
  obtain ⟨i0, hi, hz0, hz1, hz2⟩ := info_parts Tryz.infoU
  go_enter Tryz.func149, Tryz.ntmps149
  go_wp2_with fail
  refine (cut_any _ _ _ _ _ h1).mono ?_
  rintro e w' ⟨rfl, rfl⟩
  go_wp2_with fail
  refine (cut_any _ _ _ _ _ h2).mono ?_
  rintro e w' ⟨rfl, rfl⟩
  have l1 := dg_len_val h1.dig
  have l2 := dg_len_val h2.dig
  rw [h1.len] at l1
  rw [h2.len] at l2
  have KX := h1.cut
  have KY := h2.cut
  have HVX := Lib.hid (val_dg (val xs))
  have HVY := Lib.hid (val_dg (val ys))
  clear h1 h2
  generalize dg (val xs) = X at *
  generalize dg (val ys) = Y at *
  go_wp2_with (at_make; refine wpList_make_full _ rfl _ _ 22 rfl 0 52 i0 (.int .u32 0) 1 Tryz.underlying22 hi hz0 hz1 _ _ _ _ (X.length + Y.length) rfl rfl (by simp) (by simp) (by rw [hz2]; omega) (by unfold maxLen; omega) (Nat.zero_le _) ?_)
  intro w0 hown hgrow
  have hB0 := blk_of_made hown
  have hf0 : Fr [] w w0 := (Fr.refl _ _).grown hgrow (by simp)
  clear hown hgrow
  have hg0 := hB0.lt
  generalize hg : w.heap.size = g at *
  have HG := Lib.hid hg
  clear hg
  have hstart : Fb w0 g (X.length + Y.length) (List.replicate Y.length 0) := by
    unfold Fb
    rw [spl_map]
    have : (List.replicate (X.length + Y.length) 0).take 0 ++ List.replicate Y.length 0 ++ (List.replicate (X.length + Y.length) 0).drop (0 + (List.replicate Y.length 0).length) = List.replicate (X.length + Y.length) 0 := by
      simp [List.replicate_append_replicate]
      omega
    rw [this]
    exact hB0
  go_wp2
  go_loopw [20] (fun t wr => ∃ (k : Nat) (Q : List Nat), k ≤ X.length ∧ t = .int .i64 k ∧ Q.length = k + Y.length ∧ Dg Q ∧ val Q = val (X.take k) * val Y ∧ Fb wr g (X.length + Y.length) Q ∧ Fr [] w wr) (fun t _ => X.length - (intOf t).toNat)
  case atStart => exact ⟨0, _, Nat.zero_le _, rfl, by simp, Dg.zeros _, by rw [val_zeros]; simp [val], hstart, hf0⟩
  case round =>
    obtain ⟨k, Q, hk, rfl, hQ, hQd, hv, hB, hf⟩ := hrel
    have HQ := Lib.hid hQ
    have Hv := Lib.hid hv
    clear hQ hv hB0 hf0 hstart
    by_cases hlt : k < X.length
    · obtain ⟨b1, o1, rfl, _, m1⟩ := (KX.kept hf).rd.open (by omega)
      have c1 := m1 k (by omega)
      have d1 := KX.dig.at k
      have HT : Hid (∀ (Z : List Nat) (r : Nat), Z.length = Y.length → val Z + pB Y.length * r = val (Q.drop k) + gd X k * val Y → val (Q.take k ++ Z ++ [r]) = val (X.take (k + 1)) * val Y) := fun Z r hZ h => mul_step HQ.out hZ Hv.out h
      clear m1
      generalize gd X k = x at *
      have hsg : Sg (spl ((List.replicate (X.length + Y.length) 0).map dv) 0 Q) k (Q.drop k) := by
        have h1 := (spl_sg (L := (List.replicate (X.length + Y.length) 0).map dv) (o := 0) (Z := Q) (by simp [HQ.out]; omega)).sub k Y.length (by rw [HQ.out]; exact Nat.le_refl _)
        rw [Nat.zero_add, List.take_of_length_le (by simp [HQ.out])] at h1
        exact h1
      have HQK : Hid ((Q.drop k).length = Y.length) := by show _ = _; simp [HQ.out]
      go_wp2_with fail
      refine (addProduct_any g k _ _ _ x q _ _ _ _ hB hsg (hQd.drop _) HQK.out (KY.kept hf) ?_ d1 (by omega)).mono ?_
      · intro h0 a ha
        have := HG.out
        obtain ⟨b, o, h2, h3, _⟩ := KY.rd.open h0
        rw [h2] at ha
        cases ha
        show b ≠ g
        omega
      rintro e w2 ⟨Z, r, rfl, hZ, hZd, hr, hv, hB2, hf2⟩
      have hB3 : Fb w2 g (X.length + Y.length) (Q.take k ++ Z) := by
        unfold Fb
        rw [spl_spl (by simp [HQ.out]; omega) (by rw [HQ.out, hZ]; exact Nat.le_refl _), List.drop_of_length_le (by rw [HQ.out, hZ]; exact Nat.le_refl _), List.append_nil] at hB2
        exact hB2
      have hl3 : (Q.take k ++ Z).length = k + Y.length := by simp [HQ.out, hZ]
      have c3 := hB3.free (k + Y.length)
      have c4 := hB3.cell (show k + Y.length < X.length + Y.length by omega) (by rw [hl3]; exact Nat.le_refl _)
      have HW := Lib.hid (hB3.set (show k + Y.length < X.length + Y.length by omega) hl3 r)
      have HV2 := Lib.hid (HT.out Z r hZ hv)
      have HL3 := Lib.hid hl3
      have hf3 : Fr [] w w2 := hf.trans hf2 (by have := HG.out; simp; omega)
      clear hZ hv hB2 hl3 hsg
      go_wp2_with fail
      go_roundw
      case rel =>
        exact ⟨k + 1, Q.take k ++ Z ++ [r], by omega, by go_num, by rw [List.length_append, HL3.out]; simp; omega, ((hQd.take _).append hZd).append (Dg.one hr), HV2.out, HW.out, hf3.setCell _ _ (by have := HG.out; simp; omega)⟩
      case measure => simp [intOf]; omega
    · obtain rfl : k = X.length := by omega
      have hv := Hv.out
      rw [List.take_length, HVX.out, HVY.out] at hv
      have HO := Lib.hid (Ow.of_blk (base := g) (hB.full HQ.out) (Nat.le_refl _) (by rw [HQ.out]; omega) hQd)
      have HVQ := Lib.hid hv
      rw [HQ.out] at HO
      clear hv
      go_wp2_with fail
      refine (normal_any _ _ _ _ _ _ HO.out).mono ?_
      rw [HVQ.out]
      rintro e w' ⟨⟨p', c', rfl, ho'⟩, rfl⟩
      go_wp2_with fail
      go_ret
      exact ⟨p', c', rfl, by rw [HG.out]; exact ho', hf⟩

end Go.Proofs.YtagciepnhjbopaaGreatDoor

namespace Go.Proofs.YtagciepnhjbopaaGreatDoor
open Go.RowKit

def pbn (p : Option Addr) (n : Nat) : List Nat := if n = 0 then [] else (p.map (·.block)).toList

theorem Ow.pbn_ge {w : World} {base : Nat} {p : Option Addr} {n c : Nat} {xs : List Nat} (h : Ow w base p n c xs) : ∀ x, x ∈ pbn p n → base ≤ x := by
  intro x hx
  unfold pbn at hx
  split at hx
  · simp at hx
  · rcases h.own with rfl | ⟨g, L, rfl, h1, _⟩
    · have := h.sl.len; simp at this; omega
    · simp at hx; omega

theorem Ow.frame {w0 w w' : World} {base : Nat} {p : Option Addr} {n c : Nat} {xs : List Nat} (h : Ow w base p n c xs) (_hb : w0.heap.size ≤ base) (f : Fr [] w0 w) (f2 : Fr (pbn p n) w w') : Fr [] w0 w' :=
  f.trans f2 (fun x hx hl => by have := h.pbn_ge x hx; omega)

theorem drop_cons_gd {xs : List Nat} {k : Nat} (h : k < xs.length) : xs.drop k = gd xs k :: xs.drop (k + 1) := by
  rw [List.drop_eq_getElem_cons h, gd_lt h]

theorem divd_step {xs Q : List Nat} {k d R : Nat} (hk : k < xs.length) (h : val (xs.drop (k + 1)) = val Q * d + R) :
    val (xs.drop k) = val ((R * 4294967296 + gd xs k) / d :: Q) * d + (R * 4294967296 + gd xs k) % d := by
  rw [drop_cons_gd hk, val, val, h]
  have e := Nat.div_add_mod (R * 4294967296 + gd xs k) d
  rw [Nat.add_mul, Nat.mul_assoc 4294967296 (val Q) d, Nat.mul_comm ((R * 4294967296 + gd xs k) / d) d]
  generalize val Q * d = z at *
  generalize d * ((R * 4294967296 + gd xs k) / d) = y at *
  generalize (R * 4294967296 + gd xs k) % d = u at *
  omega

theorem div_small {R x d : Nat} (hR : R < d) (_hx : x < 4294967296) : (R * 4294967296 + x) / d < 4294967296 := by
  have hd : 0 < d := by omega
  rw [Nat.div_lt_iff_lt_mul hd]
  have : (R + 1) * 4294967296 ≤ d * 4294967296 := Nat.mul_le_mul_right _ hR
  omega

set_option maxRecDepth 100000 in
set_option maxHeartbeats 1000000 in
theorem divd_blk (g n c d : Nat) (L : List Value) (xs : List Nat) (w : World) (hb : Blk w g L) (hz : Sg L 0 xs) (hzd : Dg xs) (_hzl : xs.length = n) (hd : 0 < d) (_hd2 : d < 4294967296) (_hn : n ≤ 1099511627776) :
    Calls Tryz.prog 193 #[.slice (some ⟨g, 0, none⟩) n c, .int .u32 d] w fun e w' =>
      e = .returned (.int .u32 (val xs % d : Nat)) ∧ ∃ Q, Q.length = n ∧ Dg Q ∧ val Q = val xs / d ∧ Blk w' g (spl L 0 Q) ∧ Fr [g] w w' := by
  go_enter Tryz.func193, Tryz.ntmps193
  go_wp2
  go_loopw [5, 6] (fun s t wr => ∃ (k R : Nat) (Q : List Nat), k ≤ n ∧ s = .int .u64 R ∧ t = .int .i64 ((k : Int) - 1) ∧ R < d ∧ Q.length = n - k ∧ Dg Q ∧ val (xs.drop k) = val Q * d + R ∧ Blk wr g (spl L k Q) ∧ Fr [g] w wr) (fun _ t _ => (intOf t + 1).toNat)
  case atStart => exact ⟨n, 0, [], Nat.le_refl _, rfl, rfl, hd, by simp, Dg.nil, by rw [List.drop_of_length_le (by omega)]; simp [val], by rw [spl_nil]; exact hb, Fr.refl _ _⟩
  case round =>
    obtain ⟨k, R, Q, hk, rfl, rfl, hR, hQ, hQd, hv, hB, hf⟩ := hrel
    have HQ := Lib.hid hQ
    have Hv := Lib.hid hv
    have HL := hz.1
    clear hQ hv
    cases k with
    | zero =>
      rw [show (((0 : Nat) : Int) - 1) = -1 from rfl]
      have hv := Hv.out
      rw [List.drop_zero] at hv
      have e1 : val xs % d = R := by rw [hv, Nat.mul_comm, Nat.mul_add_mod, Nat.mod_eq_of_lt hR]
      have e2 : val Q = val xs / d := by rw [hv, Nat.mul_comm, Nat.mul_add_div hd, Nat.div_eq_of_lt hR]; rfl
      rw [Nat.sub_zero] at HQ
      have H1 := Lib.hid e1
      have H2 := Lib.hid e2
      clear hv e1 e2
      go_wp2
      go_ret
      rw [H1.out]
      exact ⟨rfl, Q, HQ.out, hQd, H2.out, hB, hf⟩
    | succ k =>
      rw [show (((k + 1 : Nat) : Int) - 1) = k from by omega]
      have c2 : wr.cell? ⟨g, k, none⟩ = some (dv (gd xs k)) := hB.cell (by rw [spl_at (by rw [HQ.out]; omega), if_pos (by omega)]; have := hz.2 k (by omega); rwa [Nat.zero_add] at this)
      have c3 := hB.free k
      have d2 := hzd.at k
      have HT := Lib.hid (divd_step (show k < xs.length by omega) Hv.out)
      have HD := Lib.hid (div_small hR d2)
      have HW := Lib.hid (hB.set k)
      have HS : Hid (∀ v, (spl L (k + 1) Q).set k (dv v) = spl L k (v :: Q)) := fun v => spl_down (by rw [HQ.out]; omega) v
      have hor := or64i ((R : Int) * 4294967296) (gd xs k : Nat) R 32 (by omega) (by omega) (by omega) (by omega)
      have hw1 : IntKind.u64.wrap ((R : Int) * 4294967296) = (R : Int) * 4294967296 := wrap_u64_lt (by omega) (by omega)
      generalize gd xs k = x at *
      go_wp2
      go_roundw
      case rel =>
        have hD := HD.out
        have e0 : (R : Int) * 4294967296 + x = ((R * 4294967296 + x : Nat) : Int) := by omega
        have e1 : ((R : Int) * 4294967296 + x) / d = (((R * 4294967296 + x) / d : Nat) : Int) := by rw [e0]; exact (Int.natCast_ediv _ _).symm
        have e2 : ((R : Int) * 4294967296 + x) % d = (((R * 4294967296 + x) % d : Nat) : Int) := by rw [e0]; exact (Int.natCast_emod _ _).symm
        have ht := HT.out
        have hml : (R * 4294967296 + x) % d < d := Nat.mod_lt _ hd
        rw [e1, e2]
        clear HT e0 e1 e2 HD
        generalize (R * 4294967296 + x) / d = qq at *
        generalize (R * 4294967296 + x) % d = rr at *
        have e3 : (qq : Int) % 4294967296 = qq := by omega
        rw [e3]
        refine ⟨k, rr, qq :: Q, by omega, rfl, rfl, hml, by simp [HQ.out]; omega, Dg.cons hD hQd, ht, ?_, hf.setCell _ _ (by simp)⟩
        rw [← HS.out]
        exact HW.out _
      case measure => simp [intOf]

theorem divd_any (p : Option Addr) (n c d base : Nat) (xs : List Nat) (w : World) (ho : Ow w base p n c xs) (hd : 0 < d) (hd2 : d < 4294967296) (hn : n ≤ 1099511627776) :
    Calls Tryz.prog 193 #[.slice p n c, .int .u32 d] w fun e w' =>
      e = .returned (.int .u32 (val xs % d : Nat)) ∧ ∃ Q, Q.length = n ∧ val Q = val xs / d ∧ Ow w' base p n c Q ∧ Fr (pbn p n) w w' := by
  have hs := ho.sl
  by_cases hxs : xs = []
  · subst hxs
    have hn0 : n = 0 := hs.len.symm
    subst hn0
    have e1 : val [] % d = 0 := by simp [val]
    rw [e1]
    have H1 := Lib.hid ho
    clear hs ho e1
    go_enter Tryz.func193, Tryz.ntmps193
    go_wp2
    go_loop [5, 6] (fun r s => r = .int .u64 0 ∧ s = .int .i64 (-1)) (fun _ _ => 0)
    case atStart => exact ⟨rfl, rfl⟩
    case round =>
      obtain ⟨rfl, rfl⟩ := hrel
      go_wp2
      go_ret
      exact ⟨rfl, by simp [val], H1.out, Fr.refl _ _⟩
  · obtain ⟨g, L, rfl, h1, hb, hl, ht⟩ := ho.own.resolve_left hxs
    refine (divd_blk g n c d L xs w hb ht hs.dig hs.len hd hd2 hn).mono ?_
    rintro e w' ⟨h2, Q, h3, h4, h5, h6, h7⟩
    have hle : 0 + Q.length ≤ L.length := by rw [h3]; have := hs.le; omega
    have hn0 : n ≠ 0 := fun e => hxs (List.eq_nil_of_length_eq_zero (hs.len.trans e))
    have h7' : Fr (pbn (some ⟨g, 0, none⟩) n) w w' := by
      unfold pbn
      rw [if_neg hn0]
      exact h7
    refine ⟨h2, Q, h3, h5, ⟨⟨h3, hs.le, hs.cap, hs.nil, (spl_sg hle).rd h6, h4⟩, Or.inr ⟨g, _, rfl, h1, h6, ?_, spl_sg hle⟩⟩, h7'⟩
    rw [spl_len hle, hl]

theorem shl_parts {x s : Nat} (_hs : s ≤ 31) (hx : x < 4294967296) : x * 2 ^ s = x % 2 ^ (32 - s) * 2 ^ s + 4294967296 * (x / 2 ^ (32 - s)) ∧ x % 2 ^ (32 - s) * 2 ^ s + 2 ^ s ≤ 4294967296 ∧ x / 2 ^ (32 - s) < 2 ^ s := by
  have hp : 2 ^ (32 - s) * 2 ^ s = 4294967296 := by rw [← Nat.pow_add, Nat.sub_add_cancel (by omega)]
  have hm := Nat.div_add_mod x (2 ^ (32 - s))
  have hl := Nat.mod_lt x (Nat.two_pow_pos (32 - s))
  refine ⟨?_, ?_, ?_⟩
  · have e : x * 2 ^ s = (2 ^ (32 - s) * (x / 2 ^ (32 - s)) + x % 2 ^ (32 - s)) * 2 ^ s := by rw [hm]
    rw [e, Nat.add_mul, Nat.mul_right_comm, hp]
    omega
  · have : (x % 2 ^ (32 - s) + 1) * 2 ^ s ≤ 2 ^ (32 - s) * 2 ^ s := Nat.mul_le_mul_right _ hl
    rw [Nat.add_mul, hp] at this
    omega
  · rw [Nat.div_lt_iff_lt_mul (Nat.two_pow_pos _), Nat.mul_comm, hp]
    exact hx

theorem raise_step {xs Z : List Nat} {k s C : Nat} (hZ : Z.length = k) (hs : s ≤ 31) (hx : gd xs k < 4294967296) (h : val Z + pB k * C = val (xs.take k) * 2 ^ s) :
    val (Z ++ [gd xs k % 2 ^ (32 - s) * 2 ^ s + C]) + pB (k + 1) * (gd xs k / 2 ^ (32 - s)) = val (xs.take (k + 1)) * 2 ^ s := by
  obtain ⟨h1, _, _⟩ := shl_parts hs hx
  rw [val_append, val_one, hZ, val_take_succ, pB_succ, Nat.add_mul, ← h, Nat.mul_assoc (pB k), h1]
  rw [Nat.mul_add, Nat.mul_add, Nat.mul_comm 4294967296 (pB k), Nat.mul_assoc (pB k) 4294967296]
  omega

set_option maxRecDepth 100000 in
set_option maxHeartbeats 1000000 in
theorem raiseBits_any (p : Option Addr) (n c s : Nat) (xs : List Nat) (w : World) (h : Sl w p n c xs) (hs : s ≤ 31) (_hn : n ≤ 1099511627775) :
    Calls Tryz.prog 210 #[.slice p n c, .int .i64 s] w fun e w' =>
      ∃ g Z, e = .returned (.slice (some ⟨g, 0, none⟩) (n + 1) (n + 1)) ∧ w.heap.size ≤ g ∧ Blk w' g (Z.map dv) ∧ Z.length = n + 1 ∧ Dg Z ∧ val Z = val xs * 2 ^ s ∧ Fr [] w w' := by
  obtain ⟨i0, hi, hz0, hz1, hz2⟩ := info_parts Tryz.infoU
  have hx := h.len
  go_enter Tryz.func210, Tryz.ntmps210
  go_wp2_with (at_make; refine wpList_make_full _ rfl _ _ 22 rfl 0 52 i0 (.int .u32 0) 1 Tryz.underlying22 hi hz0 hz1 _ _ _ _ (n + 1) rfl rfl (by simp) (by simp) (by rw [hz2]; omega) (by unfold maxLen; omega) (Nat.zero_le _) ?_)
  intro w0 hown hgrow
  have hB0 := blk_of_made hown
  have hf0 : Fr [] w w0 := (Fr.refl _ _).grown hgrow (by simp)
  clear hown hgrow
  have hg0 := hB0.lt
  generalize hg : w.heap.size = g at *
  have HG := Lib.hid hg
  clear hg
  go_wp2
  go_loopw [6, 15] (fun r t wr => ∃ (k C : Nat) (Z : List Nat), k ≤ n ∧ r = .int .u32 C ∧ t = .int .i64 k ∧ C < 2 ^ s ∧ Z.length = k ∧ Dg Z ∧ val Z + pB k * C = val (xs.take k) * 2 ^ s ∧ Fb wr g (n + 1) Z ∧ Fr [] w wr) (fun _ t _ => n - (intOf t).toNat)
  case atStart => exact ⟨0, 0, [], Nat.zero_le _, rfl, rfl, Nat.two_pow_pos _, rfl, Dg.nil, by simp [val], Fb.start hB0, hf0⟩
  case round =>
    obtain ⟨k, C, Z, hk, rfl, rfl, hC, hZ, hZd, hv, hB, hf⟩ := hrel
    have HZ := Lib.hid hZ
    have Hv := Lib.hid hv
    have HC := Lib.hid hC
    have hp31 : 2 ^ s ≤ 2 ^ 31 := Nat.pow_le_pow_right (by decide) hs
    have hC2 : C < 4294967296 := by omega
    clear hZ hv hB0 hf0 hC hp31
    by_cases hlt : k < n
    · obtain ⟨b1, o1, rfl, _, m1⟩ := (h.kept hf).rd.open (by omega)
      have c1 := m1 k (by omega)
      have c3 := hB.free k
      have c4 := hB.cell (show k < n + 1 by omega) (by rw [HZ.out]; exact Nat.le_refl _)
      have d1 := h.dig.at k
      have HT := Lib.hid (raise_step HZ.out hs d1 Hv.out)
      have HP := Lib.hid (shl_parts hs d1)
      have HW := Lib.hid (hB.set (show k < n + 1 by omega) HZ.out)
      clear m1
      generalize gd xs k = x at *
      go_wp2
      go_roundw
      case rel =>
        obtain ⟨p1, p2, p3⟩ := HP.out
        have hc := HC.out
        have ht := HT.out
        have ed : (x : Int) / 2 ^ (32 - s) = ((x / 2 ^ (32 - s) : Nat) : Int) := by simp
        have em : (x : Int) * 2 ^ s % 4294967296 = ((x % 2 ^ (32 - s) * 2 ^ s : Nat) : Int) := by
          have : (x : Int) * 2 ^ s = ((x * 2 ^ s : Nat) : Int) := by simp
          rw [this, p1]
          generalize x % 2 ^ (32 - s) * 2 ^ s = y at *
          generalize 2 ^ s = z at *
          omega
        have ho : bits .or .u32 ((x % 2 ^ (32 - s) * 2 ^ s : Nat) : Int) (C : Int) = ((x % 2 ^ (32 - s) * 2 ^ s + C : Nat) : Int) := by
          rw [or32i _ _ (x % 2 ^ (32 - s)) s rfl (by omega) (by omega) (by omega)]
          omega
        rw [ed, em, ho]
        exact ⟨k + 1, _, Z ++ [x % 2 ^ (32 - s) * 2 ^ s + C], by omega, rfl, by go_num, p3, by simp [HZ.out], hZd.append (Dg.one (by omega)), ht, HW.out _, hf.setCell _ _ (by have := HG.out; simp; omega)⟩
      case measure => simp [intOf]; omega
    · obtain rfl : k = n := by omega
      have hv := Hv.out
      rw [List.take_of_length_le (by omega)] at hv
      have c3 := hB.free k
      have c4 := hB.cell (show k < k + 1 by omega) (by rw [HZ.out]; exact Nat.le_refl _)
      have HW := Lib.hid ((hB.set (show k < k + 1 by omega) HZ.out C).full (by simp [HZ.out]))
      have HV2 : Hid (val (Z ++ [C]) = val xs * 2 ^ s) := by show _ = _; rw [val_append, val_one, HZ.out, hv]
      clear hv
      go_wp2
      go_ret
      exact ⟨g, Z ++ [C], rfl, by rw [HG.out]; exact Nat.le_refl _, HW.out, by simp [HZ.out], hZd.append (Dg.one hC2), HV2.out, hf.setCell _ _ (by have := HG.out; simp; omega)⟩

theorem shr_parts {x y s : Nat} (_hs : s ≤ 31) (hx : x < 4294967296) :
    y * 2 ^ (32 - s) % 4294967296 = y % 2 ^ s * 2 ^ (32 - s) ∧ x / 2 ^ s < 2 ^ (32 - s) ∧ y % 2 ^ s * 2 ^ (32 - s) + 2 ^ (32 - s) ≤ 4294967296 ∧ (y % 2 ^ s * 2 ^ (32 - s)) * 2 ^ s = 4294967296 * (y % 2 ^ s) := by
  have hp : 2 ^ (32 - s) * 2 ^ s = 4294967296 := by rw [← Nat.pow_add, Nat.sub_add_cancel (by omega)]
  have hp' : 2 ^ s * 2 ^ (32 - s) = 4294967296 := by rw [Nat.mul_comm]; exact hp
  have hl := Nat.mod_lt y (Nat.two_pow_pos s)
  refine ⟨?_, ?_, ?_, ?_⟩
  · rw [← hp', Nat.mul_mod_mul_right]
  · rw [Nat.div_lt_iff_lt_mul (Nat.two_pow_pos _), hp]; exact hx
  · have : (y % 2 ^ s + 1) * 2 ^ (32 - s) ≤ 2 ^ s * 2 ^ (32 - s) := Nat.mul_le_mul_right _ hl
    rw [Nat.add_mul, hp'] at this
    omega
  · rw [Nat.mul_assoc, hp, Nat.mul_comm]

theorem lower_step {xs Z : List Nat} {k s r : Nat} (hZ : Z.length = k) (hs : s ≤ 31) (hx : gd xs k < 4294967296) (_h : 2 ^ s * val Z + r = val (xs.take k) + pB k * (gd xs k % 2 ^ s)) :
    2 ^ s * val (Z ++ [gd xs k / 2 ^ s + gd xs (k + 1) % 2 ^ s * 2 ^ (32 - s)]) + r = val (xs.take (k + 1)) + pB (k + 1) * (gd xs (k + 1) % 2 ^ s) := by
  obtain ⟨_, _, _, h4⟩ := shr_parts (y := gd xs (k + 1)) hs hx
  have hm := Nat.div_add_mod (gd xs k) (2 ^ s)
  rw [val_append, val_one, hZ, val_take_succ, pB_succ, Nat.mul_add, Nat.mul_left_comm (2 ^ s) (pB k), Nat.mul_add (2 ^ s), Nat.mul_comm (2 ^ s) (gd xs (k + 1) % 2 ^ s * 2 ^ (32 - s)), h4]
  have e : pB k * (2 ^ s * (gd xs k / 2 ^ s) + gd xs k % 2 ^ s) = pB k * gd xs k := by rw [hm]
  rw [Nat.mul_add] at e
  rw [Nat.mul_add (pB k), Nat.mul_comm 4294967296 (pB k), Nat.mul_assoc (pB k) 4294967296]
  omega

theorem lower_end {xs Z : List Nat} {n s : Nat} (hn : xs.length ≤ n) (h : 2 ^ s * val Z + gd xs 0 % 2 ^ s = val (xs.take n) + pB n * (gd xs n % 2 ^ s)) : val Z = val xs / 2 ^ s := by
  rw [gd_ge hn, Nat.zero_mod, Nat.mul_zero, List.take_of_length_le hn] at h
  rw [Nat.add_zero] at h
  rw [← h, Nat.mul_add_div (Nat.two_pow_pos _), Nat.div_eq_of_lt (Nat.mod_lt _ (Nat.two_pow_pos _))]
  rfl

set_option maxRecDepth 100000 in
set_option maxHeartbeats 1000000 in
theorem lowerBits_any (p : Option Addr) (n c s : Nat) (xs : List Nat) (w : World) (h : Sl w p n c xs) (hs : s ≤ 31) (_hn : n ≤ 1099511627775) :
    Calls Tryz.prog 213 #[.slice p n c, .int .i64 s] w fun e w' =>
      ∃ g Z, e = .returned (.slice (some ⟨g, 0, none⟩) n n) ∧ w.heap.size ≤ g ∧ Blk w' g (Z.map dv) ∧ Z.length = n ∧ Dg Z ∧ val Z = val xs / 2 ^ s ∧ Fr [] w w' := by
  obtain ⟨i0, hi, hz0, hz1, hz2⟩ := info_parts Tryz.infoU
  have hx := h.len
  go_enter Tryz.func213, Tryz.ntmps213
  go_wp2_with (at_make; refine wpList_make_full _ rfl _ _ 22 rfl 0 52 i0 (.int .u32 0) 1 Tryz.underlying22 hi hz0 hz1 _ _ _ _ n rfl rfl (by simp) (by simp) (by rw [hz2]; omega) (by unfold maxLen; omega) (Nat.zero_le _) ?_)
  intro w0 hown hgrow
  have hB0 := blk_of_made hown
  have hf0 : Fr [] w w0 := (Fr.refl _ _).grown hgrow (by simp)
  clear hown hgrow
  have hg0 := hB0.lt
  generalize hg : w.heap.size = g at *
  have HG := Lib.hid hg
  clear hg
  go_wp2
  go_loopw [13] (fun t wr => ∃ (k : Nat) (Z : List Nat), k ≤ n ∧ t = .int .i64 k ∧ Z.length = k ∧ Dg Z ∧ 2 ^ s * val Z + gd xs 0 % 2 ^ s = val (xs.take k) + pB k * (gd xs k % 2 ^ s) ∧ Fb wr g n Z ∧ Fr [] w wr) (fun t _ => n - (intOf t).toNat)
  case atStart => exact ⟨0, [], Nat.zero_le _, rfl, rfl, Dg.nil, by simp [val, pB_zero], Fb.start hB0, hf0⟩
  case round =>
    obtain ⟨k, Z, hk, rfl, hZ, hZd, hv, hB, hf⟩ := hrel
    have HZ := Lib.hid hZ
    have Hv := Lib.hid hv
    clear hZ hv hB0 hf0
    by_cases hlt : k < n
    · obtain ⟨b1, o1, rfl, _, m1⟩ := (h.kept hf).rd.open (by omega)
      have c1 := m1 k (by omega)
      have c3 := hB.free k
      have c4 := hB.cell hlt (by rw [HZ.out]; exact Nat.le_refl _)
      have d1 := h.dig.at k
      have d2 := h.dig.at (k + 1)
      have HT := Lib.hid (lower_step HZ.out hs d1 Hv.out)
      have HP := Lib.hid (shr_parts (y := gd xs (k + 1)) hs d1)
      have HW := Lib.hid (hB.set hlt HZ.out)
      clear m1
      generalize gd xs k = x at *
      go_wp2_with fail
      have hfq : Fr [] w ({ wr with drawn := wr.drawn + 1 } : World) := hf.drew
      have c1' : ({ wr with drawn := wr.drawn + 1 } : World).cell? ⟨b1, o1 + k, none⟩ = some (dv x) := c1
      have c3' : ({ wr with drawn := wr.drawn + 1 } : World).frozen? ⟨g, k, none⟩ = false := c3
      have c4' : ({ wr with drawn := wr.drawn + 1 } : World).cell? ⟨g, k, none⟩ = some (dv 0) := c4
      have HW' : Hid (∀ v : Nat, Fb (({ wr with drawn := wr.drawn + 1 } : World).setCell ⟨g, k, none⟩ (dv v)) g n (Z ++ [v])) := HW
      refine wp_region_still_tail 15 (by kernel_rfl) (by kernel_rfl) ?_
      generalize ({ wr with drawn := wr.drawn + 1 } : World) = wq at *
      clear c1 c3 c4 HW hf hB
      simp only [List.take_succ_cons, List.take_zero, List.drop_succ_cons, List.drop_zero]
      have hk1 : IntKind.i64.wrap ((k : Int) + 1) = (k : Int) + 1 := IntWalk.i64_in _ (by omega)
      have hs1 : IntKind.i64.wrap (32 - (s : Int)) = ((32 - s : Nat) : Int) := by rw [IntWalk.i64_in _ (by omega)]; omega
      iterate 8 still_step
      still_call ((digit_any (some ⟨b1, o1, none⟩) n c ((k : Int) + 1) xs wq (h.kept hfq) (by omega) (by omega) (by omega)).mono (fun _ _ h => ⟨h.1, h.2.symm⟩))
      rw [show ((k : Int) + 1).toNat = k + 1 by omega]
      iterate 6 still_step
      refine wpStill_nil ?_
      have eD : bits .or .u32 ((x : Int) / 2 ^ s) (IntKind.u32.wrap (IntKind.u64.wrap ((gd xs (k + 1) : Nat) * 2 ^ (32 - s)))) = ((x / 2 ^ s + gd xs (k + 1) % 2 ^ s * 2 ^ (32 - s) : Nat) : Int) := by
        obtain ⟨p1, p2, p3, _⟩ := HP.out
        have hp : 2 ^ (32 - s) ≤ 2 ^ 32 := Nat.pow_le_pow_right (by decide) (by omega)
        have h1 : ((gd xs (k + 1) : Nat) : Int) * 2 ^ (32 - s) = ((gd xs (k + 1) * 2 ^ (32 - s) : Nat) : Int) := by simp
        have h2 : gd xs (k + 1) * 2 ^ (32 - s) ≤ 4294967295 * 4294967296 := Nat.mul_le_mul (by omega) (by simpa using hp)
        have h3 : (x : Int) / 2 ^ s = ((x / 2 ^ s : Nat) : Int) := by simp
        rw [h1, wrap_u64_nat, wrap_u32_nat, Nat.mod_eq_of_lt (a := gd xs (k + 1) * 2 ^ (32 - s)) (by omega), p1, h3]
        exact or32j _ _ _ _ rfl p2 (by omega)
      have hDl : x / 2 ^ s + gd xs (k + 1) % 2 ^ s * 2 ^ (32 - s) < 4294967296 := by
        obtain ⟨_, p2, p3, _⟩ := HP.out
        omega
      rw [eD]
      have ht := HT.out
      clear HT HP eD hs1 hk1
      generalize x / 2 ^ s + gd xs (k + 1) % 2 ^ s * 2 ^ (32 - s) = D at *
      have Ht := Lib.hid ht
      clear ht
      go_wp2
      go_roundw
      case rel => exact ⟨k + 1, Z ++ [D], by omega, by go_num, by simp [HZ.out], hZd.append (Dg.one hDl), Ht.out, HW'.out _, hfq.setCell _ _ (by have := HG.out; simp; omega)⟩
      case measure => simp [intOf]; omega
    · obtain rfl : k = n := by omega
      have HV2 := Lib.hid (lower_end (by omega) Hv.out)
      have HB2 := Lib.hid (hB.full HZ.out)
      go_wp2
      go_ret
      exact ⟨g, Z, rfl, by rw [HG.out]; exact Nat.le_refl _, HB2.out, HZ.out, hZd, HV2.out, hf⟩

end Go.Proofs.YtagciepnhjbopaaGreatDoor
