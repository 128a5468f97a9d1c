/- addProduct, Add, Sub, Mul. -/
import Derived.Test.YtfjhdhmneknmkaaCmp
namespace Go.Proofs.Ytfjhdhmneknmkaa
open Go.RowKit

theorem blk_of_made {w : World} {base g n : Nat} (h : w.ownsRow base 57 1 (.slice (some ⟨g, 0, none⟩) n n) n (madeCells #[Value.int .u32 0] n).toList) : Blk w g ((List.replicate n 0).map dv) := by
  rcases h.2 with ⟨h1, _⟩ | ⟨g', cap, cur, hv, _, hh, _, _, hs, ht⟩
  · cases h1
  · cases hv
    have e : cur.toList = (madeCells #[Value.int .u32 0] n).toList := by
      rw [← ht, List.take_of_length_le (by simp; omega)]
    have e2 : (madeCells #[Value.int .u32 0] n).toList = (List.replicate n 0).map dv := by
      simp only [madeCells, Array.toList_map, Array.toList_range]
      rw [List.map_replicate]
      apply List.ext_getElem (by simp)
      intro i h1 h2
      simp [Nat.mod_one]
    unfold Blk
    rw [← e2, ← e]
    exact hh

/-- Block g: n digits, filled with Z from below, with zeros above. -/
def Fb (w : World) (g n : Nat) (Z : List Nat) : Prop := Blk w g (spl ((List.replicate n 0).map dv) 0 Z)
theorem Fb.start {w : World} {g n : Nat} (h : Blk w g ((List.replicate n 0).map dv)) : Fb w g n [] := by unfold Fb; rw [spl_nil]; exact h
theorem Fb.free {w : World} {g n : Nat} {Z : List Nat} (h : Fb w g n Z) (j : Nat) : w.frozen? ⟨g, j, none⟩ = false := Blk.free h j
theorem Fb.cell {w : World} {g n k : Nat} {Z : List Nat} (h : Fb w g n Z) (hk : k < n) (hz : Z.length ≤ k) : w.cell? ⟨g, k, none⟩ = some (dv 0) := by
  refine Blk.cell h ?_
  rw [spl_at (by simp; omega), if_neg (by omega), if_neg (by omega)]
  simp [hk]
theorem Fb.set {w : World} {g n k : Nat} {Z : List Nat} (h : Fb w g n Z) (hk : k < n) (hz : Z.length = k) (v : Nat) : Fb (w.setCell ⟨g, k, none⟩ (dv v)) g n (Z ++ [v]) := by
  have h1 := Blk.set h k (dv v)
  have h2 := spl_set (L := (List.replicate n 0).map dv) (o := 0) (Z := Z) (by simp; omega) v
  rw [Nat.zero_add, hz] at h2
  rw [h2] at h1
  exact h1
theorem Fb.full {w : World} {g n : Nat} {Z : List Nat} (h : Fb w g n Z) (hz : Z.length = n) : Blk w g (Z.map dv) := by
  unfold Fb at h
  rw [spl_map] at h
  simpa [hz] using h

theorem mul_small {x y : Nat} (hx : x < 4294967296) (hy : y < 4294967296) : x * y ≤ 18446744065119617025 := Nat.mul_le_mul (Nat.le_of_lt_succ hx) (Nat.le_of_lt_succ hy)

/-- One step of a product by a digit. -/
theorem addp_step {zs ys Z : List Nat} {x k C T : Nat} (hZ : Z.length = k) (h : val Z + pB k * C = val (zs.take k) + x * val (ys.take k)) (hT : T = C + (x * gd ys k + gd zs k)) :
    val (Z ++ [T % 4294967296]) + pB (k + 1) * (T / 4294967296) = val (zs.take (k + 1)) + x * val (ys.take (k + 1)) := by
  rw [val_append, val_one, hZ, val_take_succ, val_take_succ, pB_succ]
  have e1 : pB k * (T % 4294967296) + 4294967296 * pB k * (T / 4294967296) = pB k * T := by
    have : T = T % 4294967296 + 4294967296 * (T / 4294967296) := by omega
    conv => rhs; rw [this, Nat.mul_add]
    rw [Nat.mul_comm 4294967296 (pB k), Nat.mul_assoc]
  have e2 : pB k * T = pB k * C + (x * (pB k * gd ys k) + pB k * gd zs k) := by
    rw [hT, Nat.mul_add, Nat.mul_add]
    rw [Nat.mul_left_comm (pB k) x]
  rw [Nat.mul_add]
  omega

set_option maxRecDepth 100000 in
set_option maxHeartbeats 1000000 in
theorem addProduct_any (g o c m d x : Nat) (q : Option Addr) (L : List Value) (zs ys : List Nat) (w : World) (hb : Blk w g L) (hz : Sg L o zs) (hzd : Dg zs) (hzl : zs.length = m)
    (hy : Sl w q m d ys) (hq : 0 < m → ∀ a, q = some a → a.block ≠ g) (hx : x < 4294967296) (hm : m ≤ 1099511627776) :
    Calls Try.prog 80 #[.slice (some ⟨g, o, none⟩) m c, .slice q m d, .int .u32 x] w fun e w' =>
      ∃ Z r, e = .returned (.int .u32 (r : Nat)) ∧ Z.length = m ∧ Dg Z ∧ r < 4294967296 ∧ val Z + pB m * r = val zs + x * val ys ∧ Blk w' g (spl L o Z) ∧ Fr [g] w w' := by
  have hyl := hy.len
  go_enter Try.func80, Try.ntmps80
  go_wp2
  go_loopw [7, 12] (fun s t wr => ∃ (k C : Nat) (Z : List Nat), k ≤ m ∧ s = .int .u64 C ∧ t = .int .i64 k ∧ C ≤ 4294967295 ∧ Z.length = k ∧ Dg Z ∧ val Z + pB k * C = val (zs.take k) + x * val (ys.take k) ∧ Blk wr g (spl L o Z) ∧ Fr [g] w wr) (fun _ t _ => m - (intOf t).toNat)
  case atStart => exact ⟨0, 0, [], Nat.zero_le _, rfl, rfl, by omega, rfl, Dg.nil, rfl, by rw [spl_nil]; exact hb, Fr.refl _ _⟩
  case round =>
    obtain ⟨k, C, Z, hk, rfl, rfl, hC, hZ, hZd, hv, hB, hf⟩ := hrel
    have HZ := Lib.hid hZ
    have Hv := Lib.hid hv
    have HL := hz.1
    clear hZ hv
    by_cases hlt : k < m
    · obtain ⟨b1, o1, rfl, _, m1⟩ := (hy.keep hf (by intro a ha _; simpa using hq (by omega) a ha)).rd.open (by omega)
      have c1 := m1 k (by omega)
      have c2 : wr.cell? ⟨g, o + k, none⟩ = some (dv (gd zs k)) := hB.cell (by rw [spl_at (by rw [HZ.out]; omega), if_neg (by omega), if_neg (by rw [HZ.out]; omega)]; exact hz.2 k (by omega))
      have c3 := hB.free (o + k)
      have d1 := hy.dig.at k
      have d2 := hzd.at k
      have hT : ∀ T, T = C + (x * gd ys k + gd zs k) → _ := fun T => addp_step HZ.out Hv.out
      have hset := hB.set (o + k)
      have hs2 : ∀ v, (spl L o Z).set (o + k) (dv v) = spl L o (Z ++ [v]) := fun v => by
        have := spl_set (L := L) (o := o) (Z := Z) (by rw [HZ.out]; omega) v
        rwa [HZ.out] at this
      have hbd := mul_small hx d1
      have hbd' : (x : Int) * (gd ys k : Nat) ≤ 18446744065119617025 := by
        rw [← Int.natCast_mul]; omega
      have hbd0 : (0 : Int) ≤ (x : Int) * (gd ys k : Nat) := by rw [← Int.natCast_mul]; omega
      generalize gd ys k = y at *
      generalize gd zs k = z at *
      have HT := Lib.hid hT
      have HS := Lib.hid hs2
      have HW := Lib.hid hset
      clear hT hs2 hset m1
      go_wp2
      go_roundw
      case rel =>
        have eT : (C : Int) + ((x : Int) * y + z) = ((C + (x * y + z) : Nat) : Int) := by simp
        have eM : ((C : Int) + ((x : Int) * y + z)) % 4294967296 = (((C + (x * y + z)) % 4294967296 : Nat) : Int) := by rw [eT]; omega
        have eD : ((C : Int) + ((x : Int) * y + z)) / 4294967296 = (((C + (x * y + z)) / 4294967296 : Nat) : Int) := by rw [eT]; omega
        rw [eM, eD]
        refine ⟨k + 1, _, Z ++ [(C + (x * y + z)) % 4294967296], by omega, rfl, by go_num, by omega, by simp [HZ.out], hZd.append (Dg.one (by omega)), HT.out _ rfl, ?_, hf.setCell _ _ (by simp)⟩
        rw [← HS.out]
        exact HW.out _
      case measure => simp [intOf]; omega
    · obtain rfl : k = m := by omega
      have hv := Hv.out
      rw [List.take_of_length_le (by omega), List.take_of_length_le (by omega)] at hv
      go_wp2
      go_ret
      exact ⟨Z, C, rfl, HZ.out, hZd, by omega, hv, hB, hf⟩


/-- One step of a sum. -/
theorem add_step {xs ys Z : List Nat} {k C T : Nat} (hZ : Z.length = k) (h : val Z + pB k * C = val (xs.take k) + val (ys.take k)) (hT : T = C + (gd xs k + gd ys k)) :
    val (Z ++ [T % 4294967296]) + pB (k + 1) * (T / 4294967296) = val (xs.take (k + 1)) + val (ys.take (k + 1)) := by
  have := addp_step (zs := xs) (ys := ys) (Z := Z) (x := 1) (k := k) (C := C) (T := T) hZ (by omega) (by omega)
  omega

set_option maxRecDepth 100000 in
set_option maxHeartbeats 1000000 in
theorem add_any (p q : Option Addr) (n c m d : Nat) (xs ys : List Nat) (w : World) (h1 : Sl w p n c xs) (h2 : Sl w q m d ys) (hn : n ≤ 1099511627775) (hm : m ≤ 1099511627775) :
    Calls Try.prog 60 #[.slice p n c, .slice q m d] w (RetOwn w (dg (val xs + val ys))) := by
  obtain ⟨i0, hi, hz0, hz1, hz2⟩ := info_parts Try.infoU
  have k1 := h1.cut
  have k2 := h2.cut
  have l1 := dg_len_val h1.dig
  have l2 := dg_len_val h2.dig
  rw [h1.len] at l1
  rw [h2.len] at l2
  have v1 := val_dg (val xs)
  have v2 := val_dg (val ys)
  go_enter Try.func60, Try.ntmps60
  go_wp2_with fail
  refine (cut_any _ _ _ _ _ h1).mono ?_
  rintro e w' ⟨rfl, rfl⟩
  go_wp2_with fail
  refine (cut_any _ _ _ _ _ h2).mono ?_
  rintro e w' ⟨rfl, rfl⟩
  clear h1 h2
  have hfin : ∃ s, s = val xs + val ys := ⟨_, rfl⟩
  obtain ⟨s, hs⟩ := hfin
  have HS0 := Lib.hid hs
  rw [← v1, ← v2] at hs
  have Hs := Lib.hid hs
  clear hs v1 v2
  generalize dg (val xs) = A at *
  generalize dg (val ys) = B at *
  obtain ⟨X, Y, px, py, cx, cy, hX⟩ : ∃ X Y px py cx cy, (A.length < B.length ∧ X = B ∧ Y = A ∧ px = q ∧ py = p ∧ cx = d ∧ cy = c) ∨ (¬ A.length < B.length ∧ X = A ∧ Y = B ∧ px = p ∧ py = q ∧ cx = c ∧ cy = d) := by
    by_cases h : A.length < B.length
    · exact ⟨B, A, q, p, d, c, Or.inl ⟨h, rfl, rfl, rfl, rfl, rfl, rfl⟩⟩
    · exact ⟨A, B, p, q, c, d, Or.inr ⟨h, rfl, rfl, rfl, rfl, rfl, rfl⟩⟩
  have KX : Sl w px X.length cx X := by rcases hX with ⟨_, rfl, _, rfl, _, rfl, _⟩ | ⟨_, rfl, _, rfl, _, rfl, _⟩ <;> assumption
  have KY : Sl w py Y.length cy Y := by rcases hX with ⟨_, _, rfl, _, rfl, _, rfl⟩ | ⟨_, _, rfl, _, rfl, _, rfl⟩ <;> assumption
  have hle : Y.length ≤ X.length := by rcases hX with ⟨_, rfl, rfl, _⟩ | ⟨_, rfl, rfl, _⟩ <;> omega
  have hXl : X.length ≤ 1099511627775 := by rcases hX with ⟨_, rfl, rfl, _⟩ | ⟨_, rfl, rfl, _⟩ <;> omega
  have Hs2 : Hid (s = val X + val Y) := by
    rcases hX with ⟨_, rfl, rfl, _⟩ | ⟨_, rfl, rfl, _⟩
    · exact Hs.out.trans (Nat.add_comm _ _)
    · exact Hs.out
  have sX := KX.src
  rcases hX with ⟨hlt, rfl, rfl, rfl, rfl, rfl, rfl⟩ | ⟨hlt, rfl, rfl, rfl, rfl, rfl, rfl⟩
  case' inl => have hdec : decide (Y.length < X.length) = true := by simpa using hlt
  case' inr => have hdec : decide (X.length < Y.length) = false := by simpa using hlt
  all_goals
    clear hlt k1 k2 l1 l2 Hs
    go_wp2_with (at_make; refine wpList_make_full _ rfl _ _ 22 rfl 0 57 i0 (.int .u32 0) 1 Try.underlying22 hi hz0 hz1 _ _ _ _ (X.length + 1) rfl rfl (by simp) (by simp) (by rw [hz2]; omega) (by unfold maxLen; omega) (Nat.zero_le _) ?_)
    intro w0 hown hgrow
    have hB0 := blk_of_made hown
    have hf0 : Fr [] w w0 := (Fr.refl _ _).grown hgrow (by simp)
    clear hown hgrow
    have hg0 := hB0.lt
    generalize hg : w.heap.size = g at *
    go_wp2
    go_loopw [6, 26] (fun s t wr => ∃ (k C : Nat) (Z : List Nat), k ≤ X.length ∧ s = .int .u64 C ∧ t = .int .i64 k ∧ C ≤ 1 ∧ Z.length = k ∧ Dg Z ∧ val Z + pB k * C = val (X.take k) + val (Y.take k) ∧ Fb wr g (X.length + 1) Z ∧ Fr [] w wr) (fun _ t _ => X.length - (intOf t).toNat)
    case atStart => exact ⟨0, 0, [], Nat.zero_le _, rfl, rfl, by omega, rfl, Dg.nil, rfl, Fb.start hB0, hf0⟩
    case round =>
      obtain ⟨k, C, Z, hk, rfl, rfl, hC, hZ, hZd, hv, hB, hf⟩ := hrel
      have HZ := Lib.hid hZ
      have Hv := Lib.hid hv
      have HG := Lib.hid hg
      clear hZ hv hg hB0 hf0
      by_cases hlt : k < X.length
      · obtain ⟨b1, o1, rfl, _, m1⟩ := (KX.kept hf).rd.open (by omega)
        have c1 := m1 k (by omega)
        have c3 := hB.free k
        have c4 := hB.cell (show k < X.length + 1 by omega) (by rw [HZ.out]; exact Nat.le_refl _)
        have d1 := KX.dig.at k
        have d2 := KY.dig.at k
        have hT : ∀ T, T = C + (gd X k + gd Y k) → _ := fun T => add_step HZ.out Hv.out
        have HT := Lib.hid hT
        have HW := Lib.hid (hB.set (show k < X.length + 1 by omega) HZ.out)
        clear hT m1
        generalize gd X k = x at *
        go_wp2_with fail
        refine (digit_any _ _ _ _ _ _ (KY.kept hf) (by omega) (by omega) (by omega)).mono ?_
        rintro e w' ⟨rfl, rfl⟩
        rw [Int.toNat_natCast]
        generalize gd Y k = y at *
        go_wp2_with fail
        go_roundw
        case rel =>
          have eM : ((C : Int) + ((x : Int) + y)) % 4294967296 = (((C + (x + y)) % 4294967296 : Nat) : Int) := by omega
          have eD : ((C : Int) + ((x : Int) + y)) / 4294967296 = (((C + (x + y)) / 4294967296 : Nat) : Int) := by omega
          rw [eM, eD]
          exact ⟨k + 1, _, Z ++ [(C + (x + y)) % 4294967296], by omega, rfl, by go_num, by omega, by simp [HZ.out], hZd.append (Dg.one (by omega)), HT.out _ rfl, HW.out _, hf.setCell _ _ (by have := HG.out; simp; omega)⟩
        case measure => simp [intOf]; omega
      · obtain rfl : k = X.length := by omega
        have hv := Hv.out
        rw [List.take_length, List.take_of_length_le hle] at hv
        have c3 := hB.free X.length
        have c4 := hB.cell (show X.length < X.length + 1 by omega) (by rw [HZ.out]; exact Nat.le_refl _)
        have HW := hB.set (show X.length < X.length + 1 by omega) HZ.out C
        have HO := Ow.of_blk (base := g) (HW.full (by simp [HZ.out])) (Nat.le_refl _) (by simp [HZ.out]; omega) (hZd.append (Dg.one (by omega)))
        have Hval : val (Z ++ [C]) = s := by rw [val_append, val_one, HZ.out, hv, Hs2.out]
        have Hlen : (Z ++ [C]).length = X.length + 1 := by simp [HZ.out]
        rw [Hlen] at HO
        have HO' := Lib.hid HO
        have Hval' := Lib.hid Hval
        clear HO Hval Hlen HW hv
        go_wp2_with fail
        refine (normal_any _ _ _ _ _ _ HO'.out).mono ?_
        rw [Hval'.out]
        rintro e w' ⟨⟨p', c', rfl, ho'⟩, rfl⟩
        go_wp2_with fail
        go_ret
        have e0 := HS0.out
        subst e0
        exact ⟨p', c', rfl, by rw [HG.out]; exact ho', hf.setCell _ _ (by have := HG.out; simp; omega)⟩

end Go.Proofs.Ytfjhdhmneknmkaa
