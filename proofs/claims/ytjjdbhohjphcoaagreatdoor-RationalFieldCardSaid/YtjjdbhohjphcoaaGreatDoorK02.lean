/- What the statements of this claim stand on: of Cmp, Mul, Mul2, what they name -/
import Derived.BigQuiet
import Derived.Deep.QuietTactic
import Derived.Test.YtjjdbhohjphcoaaGreatDoorK01

namespace Go.Proofs.YtjjdbhohjphcoaaGreatDoor
open Go.RowKit

theorem drop_eq_succ {A B : List Nat} {k : Nat} (hl : A.length = B.length) (hk : k < A.length) (h : A.drop (k + 1) = B.drop (k + 1)) (hd : gd A k = gd B k) : A.drop k = B.drop k := by
  rw [List.drop_eq_getElem_cons hk, List.drop_eq_getElem_cons (l := B) (i := k) (by omega), h]
  rw [gd_lt hk, gd_lt (xs := B) (j := k) (by omega)] at hd
  rw [hd]

theorem top_lt {A B : List Nat} {k : Nat} (hA : Dg A) (hl : A.length = B.length) (hk : k < A.length) (h : A.drop (k + 1) = B.drop (k + 1)) (hd : gd A k < gd B k) : val A < val B := by
  rw [val_split A (k + 1) (by omega), val_split B (k + 1) (by omega), h, val_take_succ, val_take_succ]
  have h1 := val_lt (hA.take k)
  rw [List.length_take, Nat.min_eq_left (by omega)] at h1
  have h2 : pB k * (gd A k + 1) ≤ pB k * gd B k := Nat.mul_le_mul_left _ hd
  rw [Nat.mul_add] at h2
  omega

def cmpI (x y : Int) : Int := if x < y then -1 else if x > y then 1 else 0

theorem cmpI_lt {x y : Int} (h : x < y) : cmpI x y = -1 := by simp [cmpI, h]

theorem cmpI_gt {x y : Int} (h : y < x) : cmpI x y = 1 := by unfold cmpI; rw [if_neg (by omega), if_pos h]

theorem cmpI_eq (x : Int) : cmpI x x = 0 := by unfold cmpI; rw [if_neg (by omega), if_neg (by omega)]

set_option maxRecDepth 100000 in
set_option maxHeartbeats 400000 in
theorem cmpInt_any (x y : Int) (w : World) : Calls Tryz.prog 188 #[.int .i64 x, .int .i64 y] w fun e w' => e = .returned (.int .i64 (cmpI x y)) ∧ w = w' := by
  by_cases h1 : x < y
  · rw [cmpI_lt h1]
    go_enter Tryz.func188, Tryz.ntmps188
    go_wp2
    go_ret
    exact ⟨rfl, rfl⟩
  · by_cases h2 : y < x
    · rw [cmpI_gt h2]
      go_enter Tryz.func188, Tryz.ntmps188
      go_wp2
      go_ret
      exact ⟨rfl, rfl⟩
    · obtain rfl : x = y := by omega
      rw [cmpI_eq]
      go_enter Tryz.func188, Tryz.ntmps188
      go_wp2
      go_ret
      exact ⟨rfl, rfl⟩

set_option maxRecDepth 100000 in
set_option maxHeartbeats 400000 in
theorem cmpU_any (x y : Int) (w : World) : Calls Tryz.prog 189 #[.int .u32 x, .int .u32 y] w fun e w' => e = .returned (.int .i64 (cmpI x y)) ∧ w = w' := by
  by_cases h1 : x < y
  · rw [cmpI_lt h1]
    go_enter Tryz.func189, Tryz.ntmps189
    go_wp2
    go_ret
    exact ⟨rfl, rfl⟩
  · by_cases h2 : y < x
    · rw [cmpI_gt h2]
      go_enter Tryz.func189, Tryz.ntmps189
      go_wp2
      go_ret
      exact ⟨rfl, rfl⟩
    · obtain rfl : x = y := by omega
      rw [cmpI_eq]
      go_enter Tryz.func189, Tryz.ntmps189
      go_wp2
      go_ret
      exact ⟨rfl, rfl⟩

set_option maxRecDepth 100000 in
set_option maxHeartbeats 400000 in
theorem same_any (p q : Option Addr) (n c d : Nat) (xs : List Nat) (w : World) (h1 : Sl w p n c xs) (h2 : Sl w q n d xs) :
    Calls Tryz.prog 104 #[.slice p n c, .slice q n d] w fun e w' => e = .returned (.bool true) ∧ Fr [] w w' := by
  have hx := h1.len
  have hc := h1.le
  have hm := h1.cap
  have hne : ((n : Int) != n) = false := by simp
  go_enter Tryz.func104, Tryz.ntmps104
  go_wp2
  go_loopw [5] (fun s wr => ∃ k : Nat, k ≤ n ∧ s = .int .i64 k ∧ Fr [] w wr) (fun s _ => n - (intOf s).toNat)
  case atStart => exact ⟨0, Nat.zero_le _, rfl, Fr.refl _ _⟩
  case round =>
    obtain ⟨k, hk, rfl, hf⟩ := hrel
    have g1 := (h1.kept hf).rd
    have g2 := (h2.kept hf).rd
    clear h1 h2
    by_cases hlt : k < n
    · obtain ⟨b1, o1, rfl, _, k1⟩ := g1.open (by omega)
      obtain ⟨b2, o2, rfl, _, k2⟩ := g2.open (by omega)
      have c1 := k1 k (by omega)
      have c2 := k2 k (by omega)
      generalize gd xs k = x at *
      have hxx : ((x : Int) != x) = false := by simp
      clear k1 k2
      go_wp2
      go_quiet (fail)
      go_wp2
      go_roundw
      case rel => exact ⟨k + 1, by omega, by go_num, hf.drewN _⟩
      case measure => simp [intOf]; omega
    · go_wp2
      go_ret
      exact ⟨rfl, hf⟩

def cmpN (a b : Nat) : Int := if a < b then -1 else if b < a then 1 else 0

theorem cmpN_len_lt {a b : Nat} (h : (dg a).length < (dg b).length) : cmpN a b = cmpI (dg a).length (dg b).length := by
  have : a < b := by
    by_cases hh : a < b
    · exact hh
    · have := dg_len_mono (m := b) (n := a) (by omega); omega
  rw [cmpI_lt (by omega), cmpN, if_pos this]

theorem cmpN_len_gt {a b : Nat} (h : (dg b).length < (dg a).length) : cmpN a b = cmpI (dg a).length (dg b).length := by
  have : b < a := by
    by_cases hh : b < a
    · exact hh
    · have := dg_len_mono (m := a) (n := b) (by omega); omega
  rw [cmpI_gt (by omega), cmpN, if_neg (by omega), if_pos this]

theorem cmpN_dig_lt {a b k : Nat} (hl : (dg a).length = (dg b).length) (hk : k < (dg a).length) (h : (dg a).drop (k + 1) = (dg b).drop (k + 1)) (hd : gd (dg a) k < gd (dg b) k) : cmpN a b = -1 := by
  have := top_lt (Dg_dg a) hl hk h hd
  rw [val_dg, val_dg] at this
  rw [cmpN, if_pos this]

theorem cmpN_dig_gt {a b k : Nat} (hl : (dg a).length = (dg b).length) (hk : k < (dg a).length) (h : (dg a).drop (k + 1) = (dg b).drop (k + 1)) (hd : gd (dg b) k < gd (dg a) k) : cmpN a b = 1 := by
  have := top_lt (Dg_dg b) hl.symm (by omega) h.symm hd
  rw [val_dg, val_dg] at this
  rw [cmpN, if_neg (by omega), if_pos this]

theorem cmpN_refl (a : Nat) : cmpN a a = 0 := by unfold cmpN; rw [if_neg (by omega), if_neg (by omega)]

theorem cmpN_dig {a b k : Nat} (hl : (dg a).length = (dg b).length) (hk : k < (dg a).length) (h : (dg a).drop (k + 1) = (dg b).drop (k + 1)) (hd : gd (dg a) k ≠ gd (dg b) k) : cmpI (gd (dg a) k) (gd (dg b) k) = cmpN a b := by
  by_cases h1 : gd (dg a) k < gd (dg b) k
  · rw [cmpN_dig_lt hl hk h h1, cmpI_lt (by omega)]
  · rw [cmpN_dig_gt hl hk h (by omega), cmpI_gt (by omega)]

set_option maxRecDepth 100000 in
set_option maxHeartbeats 1000000 in
theorem compare_any (p q : Option Addr) (n c m d : Nat) (xs ys : List Nat) (w : World) (h1 : Sl w p n c xs) (h2 : Sl w q m d ys) :
    Calls Tryz.prog 154 #[.slice p n c, .slice q m d] w fun e w' => e = .returned (.int .i64 (cmpN (val xs) (val ys))) ∧ Fr [] w w' := by
  have k1 := h1.cut
  have k2 := h2.cut
  go_enter Tryz.func154, Tryz.ntmps154
  go_wp2_with fail
  refine (cut_any _ _ _ _ _ h1).mono ?_
  rintro e w' ⟨rfl, rfl⟩
  go_wp2_with fail
  refine (cut_any _ _ _ _ _ h2).mono ?_
  rintro e w' ⟨rfl, rfl⟩
  have hc := k1.le
  have hm := k1.cap
  have L1 : ∀ h : (dg (val xs)).length < (dg (val ys)).length, _ := fun h => cmpN_len_lt h
  have L2 : ∀ h : (dg (val ys)).length < (dg (val xs)).length, _ := fun h => cmpN_len_gt h
  have L3 : ∀ h : (dg (val xs)).length = (dg (val ys)).length, ∀ k, k < (dg (val xs)).length → (dg (val xs)).drop (k + 1) = (dg (val ys)).drop (k + 1) → gd (dg (val xs)) k ≠ gd (dg (val ys)) k → cmpI (gd (dg (val xs)) k) (gd (dg (val ys)) k) = cmpN (val xs) (val ys) := fun h k => cmpN_dig h
  have L4 : dg (val xs) = dg (val ys) → cmpN (val xs) (val ys) = 0 := fun h => by rw [dg_inj h]; exact cmpN_refl _
  clear h1 h2
  generalize dg (val xs) = A at *
  generalize dg (val ys) = B at *
  by_cases hlen : A.length = B.length
  · have H3 := Lib.hid (L3 hlen)
    have H4 := Lib.hid L4
    clear L1 L2 L3 L4
    have hL := Lib.hid hlen
    rw [← hlen] at k2
    rw [← hlen]
    have hne : ((A.length : Int) != A.length) = false := by simp
    clear hlen
    generalize hn : A.length = n' at *
    have hN := Lib.hid hn
    clear hn
    go_wp2
    go_loopw [5] (fun s wr => ∃ k : Nat, k ≤ n' ∧ s = .int .i64 ((k : Int) - 1) ∧ A.drop k = B.drop k ∧ Fr [] w wr) (fun s _ => (intOf s + 1).toNat)
    case atStart => exact ⟨n', Nat.le_refl _, rfl, by rw [List.drop_of_length_le (by rw [hN.out]; exact Nat.le_refl _), List.drop_of_length_le (by rw [← hL.out]; exact Nat.le_refl _)], Fr.refl _ _⟩
    case round =>
      obtain ⟨k, hk, rfl, hdr, hf⟩ := hrel
      have hdr' := Lib.hid hdr
      clear hdr
      have g1 := (k1.kept hf).rd
      have g2 := (k2.kept hf).rd
      cases k with
      | zero =>
        rw [show (((0 : Nat) : Int) - 1) = -1 from rfl]
        go_wp2
        go_ret
        exact ⟨ret_int (H4.out hdr'.out).symm, hf⟩
      | succ k =>
        rw [show (((k + 1 : Nat) : Int) - 1) = k from by omega]
        have e1 := hN.out
        obtain ⟨b1, o1, rfl, _, m1⟩ := g1.open (by omega)
        obtain ⟨b2, o2, rfl, _, m2⟩ := g2.open (by rw [← hL.out]; omega)
        have c1 := m1 k (by omega)
        have c2 := m2 k (by rw [← hL.out]; omega)
        have d1 := k1.dig.at k
        have d2 := k2.dig.at k
        clear m1 m2
        by_cases hd : gd A k = gd B k
        · have hdd := Lib.hid (drop_eq_succ (hN.out.trans hL.out) (by omega) hdr'.out hd)
          rw [hd] at c1
          clear d1 hd e1
          generalize gd B k = x at *
          have hxx : ((x : Int) != x) = false := by simp
          go_wp2
          go_quiet (fail)
          go_wp2
          go_roundw
          case rel => exact ⟨k, by omega, by go_num, hdd.out, hf.drewN _⟩
          case measure => simp [intOf]
        · have hr := Lib.hid (H3.out k (by omega) hdr'.out hd)
          generalize gd A k = x at *
          generalize gd B k = y at *
          have hxy : ((x : Int) != y) = true := by rw [bne_iff_ne]; omega
          clear e1 hd
          go_wp2
          go_quiet (fail)
          have hf2 := hf.drewN nq
          generalize hwq : wr.drewN nq = wq at *
          have c1' : wq.cell? ⟨b1, o1 + k, none⟩ = some (dv x) := by rw [← hwq]; exact c1
          have c2' : wq.cell? ⟨b2, o2 + k, none⟩ = some (dv y) := by rw [← hwq]; exact c2
          clear hwq c1 c2 hf k1 k2 g1 g2
          go_wp2
          go_quiet ((go_at_call 189; exact Calls.quiet_of_same ((cmpU_any _ _ _).mono fun _ _ h => ⟨h.1, h.2.symm⟩)))
          go_wp2
          go_ret
          exact ⟨ret_int hr.out, hf2.drewN _⟩
  · have hL1 := Lib.hid L1
    have hL2 := Lib.hid L2
    have hne : ((A.length : Int) != B.length) = true := by rw [bne_iff_ne]; omega
    have hfin : Hid (cmpI A.length B.length = cmpN (val xs) (val ys)) := by
      by_cases h : A.length < B.length
      · exact (L1 h).symm
      · exact (L2 (by omega)).symm
    clear L1 L2 L3 L4 hL1 hL2
    go_wp2_with fail
    refine (cmpInt_any _ _ _).mono ?_
    rintro e w' ⟨rfl, rfl⟩
    go_wp2_with fail
    go_ret
    exact ⟨ret_int hfin.out, Fr.refl _ _⟩

end Go.Proofs.YtjjdbhohjphcoaaGreatDoor

namespace Go.Proofs.YtjjdbhohjphcoaaGreatDoor
open Go.RowKit

theorem blk_of_made {w : World} {base g n : Nat} (h : w.ownsRow base 52 1 (.slice (some ⟨g, 0, none⟩) n n) n (madeCells #[Value.int .u32 0] n).toList) : Blk w g ((List.replicate n 0).map dv) := by
  rcases h.2 with ⟨h1, _⟩ | ⟨g', cap, cur, hv, _, hh, _, _, hs, ht⟩
  · cases h1
  · cases hv
    have e : cur.toList = (madeCells #[Value.int .u32 0] n).toList := by
      rw [← ht, List.take_of_length_le (by simp; omega)]
    have e2 : (madeCells #[Value.int .u32 0] n).toList = (List.replicate n 0).map dv := by
      simp only [madeCells, Array.toList_map, Array.toList_range]
      rw [List.map_replicate]
      apply List.ext_getElem (by simp)
      intro i h1 h2
      simp [Nat.mod_one]
    unfold Blk
    rw [← e2, ← e]
    exact hh

def Fb (w : World) (g n : Nat) (Z : List Nat) : Prop := Blk w g (spl ((List.replicate n 0).map dv) 0 Z)

theorem Fb.start {w : World} {g n : Nat} (h : Blk w g ((List.replicate n 0).map dv)) : Fb w g n [] := by unfold Fb; rw [spl_nil]; exact h

theorem Fb.free {w : World} {g n : Nat} {Z : List Nat} (h : Fb w g n Z) (j : Nat) : w.frozen? ⟨g, j, none⟩ = false := Blk.free h j

theorem Fb.cell {w : World} {g n k : Nat} {Z : List Nat} (h : Fb w g n Z) (hk : k < n) (hz : Z.length ≤ k) : w.cell? ⟨g, k, none⟩ = some (dv 0) := by
  refine Blk.cell h ?_
  rw [spl_at (by simp; omega), if_neg (by omega), if_neg (by omega)]
  simp [hk]

theorem Fb.set {w : World} {g n k : Nat} {Z : List Nat} (h : Fb w g n Z) (hk : k < n) (hz : Z.length = k) (v : Nat) : Fb (w.setCell ⟨g, k, none⟩ (dv v)) g n (Z ++ [v]) := by
  have h1 := Blk.set h k (dv v)
  have h2 := spl_set (L := (List.replicate n 0).map dv) (o := 0) (Z := Z) (by simp; omega) v
  rw [Nat.zero_add, hz] at h2
  rw [h2] at h1
  exact h1

theorem Fb.full {w : World} {g n : Nat} {Z : List Nat} (h : Fb w g n Z) (hz : Z.length = n) : Blk w g (Z.map dv) := by
  unfold Fb at h
  rw [spl_map] at h
  simpa [hz] using h

theorem mul_small {x y : Nat} (hx : x < 4294967296) (hy : y < 4294967296) : x * y ≤ 18446744065119617025 := Nat.mul_le_mul (Nat.le_of_lt_succ hx) (Nat.le_of_lt_succ hy)

theorem addp_step {zs ys Z : List Nat} {x k C T : Nat} (hZ : Z.length = k) (h : val Z + pB k * C = val (zs.take k) + x * val (ys.take k)) (hT : T = C + (x * gd ys k + gd zs k)) :
    val (Z ++ [T % 4294967296]) + pB (k + 1) * (T / 4294967296) = val (zs.take (k + 1)) + x * val (ys.take (k + 1)) := by
  rw [val_append, val_one, hZ, val_take_succ, val_take_succ, pB_succ]
  have e1 : pB k * (T % 4294967296) + 4294967296 * pB k * (T / 4294967296) = pB k * T := by
    have : T = T % 4294967296 + 4294967296 * (T / 4294967296) := by omega
    conv => rhs; rw [this, Nat.mul_add]
    rw [Nat.mul_comm 4294967296 (pB k), Nat.mul_assoc]
  have e2 : pB k * T = pB k * C + (x * (pB k * gd ys k) + pB k * gd zs k) := by
    rw [hT, Nat.mul_add, Nat.mul_add]
    rw [Nat.mul_left_comm (pB k) x]
  rw [Nat.mul_add]
  omega

set_option maxRecDepth 100000 in
set_option maxHeartbeats 1000000 in
theorem addProduct_any (g o c m d x : Nat) (q : Option Addr) (L : List Value) (zs ys : List Nat) (w : World) (hb : Blk w g L) (hz : Sg L o zs) (hzd : Dg zs) (hzl : zs.length = m)
    (hy : Sl w q m d ys) (hq : 0 < m → ∀ a, q = some a → a.block ≠ g) (hx : x < 4294967296) (hm : m ≤ 1099511627776) :
    Calls Tryz.prog 186 #[.slice (some ⟨g, o, none⟩) m c, .slice q m d, .int .u32 x] w fun e w' =>
      ∃ Z r, e = .returned (.int .u32 (r : Nat)) ∧ Z.length = m ∧ Dg Z ∧ r < 4294967296 ∧ val Z + pB m * r = val zs + x * val ys ∧ Blk w' g (spl L o Z) ∧ Fr [g] w w' := by
  have hyl := hy.len
  go_enter Tryz.func186, Tryz.ntmps186
  go_wp2
  go_loopw [7, 12] (fun s t wr => ∃ (k C : Nat) (Z : List Nat), k ≤ m ∧ s = .int .u64 C ∧ t = .int .i64 k ∧ C ≤ 4294967295 ∧ Z.length = k ∧ Dg Z ∧ val Z + pB k * C = val (zs.take k) + x * val (ys.take k) ∧ Blk wr g (spl L o Z) ∧ Fr [g] w wr) (fun _ t _ => m - (intOf t).toNat)
  case atStart => exact ⟨0, 0, [], Nat.zero_le _, rfl, rfl, by omega, rfl, Dg.nil, rfl, by rw [spl_nil]; exact hb, Fr.refl _ _⟩
  case round =>
    obtain ⟨k, C, Z, hk, rfl, rfl, hC, hZ, hZd, hv, hB, hf⟩ := hrel
    have HZ := Lib.hid hZ
    have Hv := Lib.hid hv
    have HL := hz.1
    clear hZ hv
    by_cases hlt : k < m
    · obtain ⟨b1, o1, rfl, _, m1⟩ := (hy.keep hf (by intro a ha _; simpa using hq (by omega) a ha)).rd.open (by omega)
      have c1 := m1 k (by omega)
      have c2 : wr.cell? ⟨g, o + k, none⟩ = some (dv (gd zs k)) := hB.cell (by rw [spl_at (by rw [HZ.out]; omega), if_neg (by omega), if_neg (by rw [HZ.out]; omega)]; exact hz.2 k (by omega))
      have c3 := hB.free (o + k)
      have d1 := hy.dig.at k
      have d2 := hzd.at k
      have hT : ∀ T, T = C + (x * gd ys k + gd zs k) → _ := fun T => addp_step HZ.out Hv.out
      have hset := hB.set (o + k)
      have hs2 : ∀ v, (spl L o Z).set (o + k) (dv v) = spl L o (Z ++ [v]) := fun v => by
        have := spl_set (L := L) (o := o) (Z := Z) (by rw [HZ.out]; omega) v
        rwa [HZ.out] at this
      have hbd := mul_small hx d1
      have hbd' : (x : Int) * (gd ys k : Nat) ≤ 18446744065119617025 := by
        rw [← Int.natCast_mul]; omega
      have hbd0 : (0 : Int) ≤ (x : Int) * (gd ys k : Nat) := by rw [← Int.natCast_mul]; omega
      generalize gd ys k = y at *
      generalize gd zs k = z at *
      have HT := Lib.hid hT
      have HS := Lib.hid hs2
      have HW := Lib.hid hset
      clear hT hs2 hset m1
      go_wp2
      go_roundw
      case rel =>
        have eT : (C : Int) + ((x : Int) * y + z) = ((C + (x * y + z) : Nat) : Int) := by simp
        have eM : ((C : Int) + ((x : Int) * y + z)) % 4294967296 = (((C + (x * y + z)) % 4294967296 : Nat) : Int) := by rw [eT]; omega
        have eD : ((C : Int) + ((x : Int) * y + z)) / 4294967296 = (((C + (x * y + z)) / 4294967296 : Nat) : Int) := by rw [eT]; omega
        rw [eM, eD]
        refine ⟨k + 1, _, Z ++ [(C + (x * y + z)) % 4294967296], by omega, rfl, by go_num, by omega, by simp [HZ.out], hZd.append (Dg.one (by omega)), HT.out _ rfl, ?_, hf.setCell _ _ (by simp)⟩
        rw [← HS.out]
        exact HW.out _
      case measure => simp [intOf]; omega
    · obtain rfl : k = m := by omega
      have hv := Hv.out
      rw [List.take_of_length_le (by omega), List.take_of_length_le (by omega)] at hv
      go_wp2
      go_ret
      exact ⟨Z, C, rfl, HZ.out, hZd, by omega, hv, hB, hf⟩

theorem add_step {xs ys Z : List Nat} {k C T : Nat} (hZ : Z.length = k) (h : val Z + pB k * C = val (xs.take k) + val (ys.take k)) (hT : T = C + (gd xs k + gd ys k)) :
    val (Z ++ [T % 4294967296]) + pB (k + 1) * (T / 4294967296) = val (xs.take (k + 1)) + val (ys.take (k + 1)) := by
  have := addp_step (zs := xs) (ys := ys) (Z := Z) (x := 1) (k := k) (C := C) (T := T) hZ (by omega) (by omega)
  omega

set_option maxRecDepth 100000 in
set_option maxHeartbeats 1000000 in
theorem add_any (p q : Option Addr) (n c m d : Nat) (xs ys : List Nat) (w : World) (h1 : Sl w p n c xs) (h2 : Sl w q m d ys) (hn : n ≤ 1099511627775) (hm : m ≤ 1099511627775) :
    Calls Tryz.prog 197 #[.slice p n c, .slice q m d] w (RetOwn w (dg (val xs + val ys))) := by
  obtain ⟨i0, hi, hz0, hz1, hz2⟩ := info_parts Tryz.infoU
  have k1 := h1.cut
  have k2 := h2.cut
  have l1 := dg_len_val h1.dig
  have l2 := dg_len_val h2.dig
  rw [h1.len] at l1
  rw [h2.len] at l2
  have v1 := val_dg (val xs)
  have v2 := val_dg (val ys)
  go_enter Tryz.func197, Tryz.ntmps197
  go_wp2_with fail
  refine (cut_any _ _ _ _ _ h1).mono ?_
  rintro e w' ⟨rfl, rfl⟩
  go_wp2_with fail
  refine (cut_any _ _ _ _ _ h2).mono ?_
  rintro e w' ⟨rfl, rfl⟩
  clear h1 h2
  have hfin : ∃ s, s = val xs + val ys := ⟨_, rfl⟩
  obtain ⟨s, hs⟩ := hfin
  have HS0 := Lib.hid hs
  rw [← v1, ← v2] at hs
  have Hs := Lib.hid hs
  clear hs v1 v2
  generalize dg (val xs) = A at *
  generalize dg (val ys) = B at *
  obtain ⟨X, Y, px, py, cx, cy, hX⟩ : ∃ X Y px py cx cy, (A.length < B.length ∧ X = B ∧ Y = A ∧ px = q ∧ py = p ∧ cx = d ∧ cy = c) ∨ (¬ A.length < B.length ∧ X = A ∧ Y = B ∧ px = p ∧ py = q ∧ cx = c ∧ cy = d) := by
    by_cases h : A.length < B.length
    · exact ⟨B, A, q, p, d, c, Or.inl ⟨h, rfl, rfl, rfl, rfl, rfl, rfl⟩⟩
    · exact ⟨A, B, p, q, c, d, Or.inr ⟨h, rfl, rfl, rfl, rfl, rfl, rfl⟩⟩
  have KX : Sl w px X.length cx X := by rcases hX with ⟨_, rfl, _, rfl, _, rfl, _⟩ | ⟨_, rfl, _, rfl, _, rfl, _⟩ <;> assumption
  have KY : Sl w py Y.length cy Y := by rcases hX with ⟨_, _, rfl, _, rfl, _, rfl⟩ | ⟨_, _, rfl, _, rfl, _, rfl⟩ <;> assumption
  have hle : Y.length ≤ X.length := by rcases hX with ⟨_, rfl, rfl, _⟩ | ⟨_, rfl, rfl, _⟩ <;> omega
  have hXl : X.length ≤ 1099511627775 := by rcases hX with ⟨_, rfl, rfl, _⟩ | ⟨_, rfl, rfl, _⟩ <;> omega
  have Hs2 : Hid (s = val X + val Y) := by
    rcases hX with ⟨_, rfl, rfl, _⟩ | ⟨_, rfl, rfl, _⟩
    · exact Hs.out.trans (Nat.add_comm _ _)
    · exact Hs.out
  have sX := KX.src
  rcases hX with ⟨hlt, rfl, rfl, rfl, rfl, rfl, rfl⟩ | ⟨hlt, rfl, rfl, rfl, rfl, rfl, rfl⟩
  case' inl => have hdec : decide (Y.length < X.length) = true := by simpa using hlt
  case' inr => have hdec : decide (X.length < Y.length) = false := by simpa using hlt
  all_goals
    clear hlt k1 k2 l1 l2 Hs
    go_wp2_with (at_make; refine wpList_make_full _ rfl _ _ 22 rfl 0 52 i0 (.int .u32 0) 1 Tryz.underlying22 hi hz0 hz1 _ _ _ _ (X.length + 1) rfl rfl (by simp) (by simp) (by rw [hz2]; omega) (by unfold maxLen; omega) (Nat.zero_le _) ?_)
    intro w0 hown hgrow
    have hB0 := blk_of_made hown
    have hf0 : Fr [] w w0 := (Fr.refl _ _).grown hgrow (by simp)
    clear hown hgrow
    have hg0 := hB0.lt
    generalize hg : w.heap.size = g at *
    go_wp2
    go_loopw [6, 26] (fun s t wr => ∃ (k C : Nat) (Z : List Nat), k ≤ X.length ∧ s = .int .u64 C ∧ t = .int .i64 k ∧ C ≤ 1 ∧ Z.length = k ∧ Dg Z ∧ val Z + pB k * C = val (X.take k) + val (Y.take k) ∧ Fb wr g (X.length + 1) Z ∧ Fr [] w wr) (fun _ t _ => X.length - (intOf t).toNat)
    case atStart => exact ⟨0, 0, [], Nat.zero_le _, rfl, rfl, by omega, rfl, Dg.nil, rfl, Fb.start hB0, hf0⟩
    case round =>
      obtain ⟨k, C, Z, hk, rfl, rfl, hC, hZ, hZd, hv, hB, hf⟩ := hrel
      have HZ := Lib.hid hZ
      have Hv := Lib.hid hv
      have HG := Lib.hid hg
      clear hZ hv hg hB0 hf0
      by_cases hlt : k < X.length
      · obtain ⟨b1, o1, rfl, _, m1⟩ := (KX.kept hf).rd.open (by omega)
        have c1 := m1 k (by omega)
        have c3 := hB.free k
        have c4 := hB.cell (show k < X.length + 1 by omega) (by rw [HZ.out]; exact Nat.le_refl _)
        have d1 := KX.dig.at k
        have d2 := KY.dig.at k
        have hT : ∀ T, T = C + (gd X k + gd Y k) → _ := fun T => add_step HZ.out Hv.out
        have HT := Lib.hid hT
        have HW := Lib.hid (hB.set (show k < X.length + 1 by omega) HZ.out)
        clear hT m1
        generalize gd X k = x at *
        go_wp2_with fail
        refine (digit_any _ _ _ _ _ _ (KY.kept hf) (by omega) (by omega) (by omega)).mono ?_
        rintro e w' ⟨rfl, rfl⟩
        rw [Int.toNat_natCast]
        generalize gd Y k = y at *
        go_wp2_with fail
        go_roundw
        case rel =>
          have eM : ((C : Int) + ((x : Int) + y)) % 4294967296 = (((C + (x + y)) % 4294967296 : Nat) : Int) := by omega
          have eD : ((C : Int) + ((x : Int) + y)) / 4294967296 = (((C + (x + y)) / 4294967296 : Nat) : Int) := by omega
          rw [eM, eD]
          exact ⟨k + 1, _, Z ++ [(C + (x + y)) % 4294967296], by omega, rfl, by go_num, by omega, by simp [HZ.out], hZd.append (Dg.one (by omega)), HT.out _ rfl, HW.out _, hf.setCell _ _ (by have := HG.out; simp; omega)⟩
        case measure => simp [intOf]; omega
      · obtain rfl : k = X.length := by omega
        have hv := Hv.out
        rw [List.take_length, List.take_of_length_le hle] at hv
        have c3 := hB.free X.length
        have c4 := hB.cell (show X.length < X.length + 1 by omega) (by rw [HZ.out]; exact Nat.le_refl _)
        have HW := hB.set (show X.length < X.length + 1 by omega) HZ.out C
        have HO := Ow.of_blk (base := g) (HW.full (by simp [HZ.out])) (Nat.le_refl _) (by simp [HZ.out]; omega) (hZd.append (Dg.one (by omega)))
        have Hval : val (Z ++ [C]) = s := by rw [val_append, val_one, HZ.out, hv, Hs2.out]
        have Hlen : (Z ++ [C]).length = X.length + 1 := by simp [HZ.out]
        rw [Hlen] at HO
        have HO' := Lib.hid HO
        have Hval' := Lib.hid Hval
        clear HO Hval Hlen HW hv
        go_wp2_with fail
        refine (normal_any _ _ _ _ _ _ HO'.out).mono ?_
        rw [Hval'.out]
        rintro e w' ⟨⟨p', c', rfl, ho'⟩, rfl⟩
        go_wp2_with fail
        go_ret
        have e0 := HS0.out
        subst e0
        exact ⟨p', c', rfl, by rw [HG.out]; exact ho', hf.setCell _ _ (by have := HG.out; simp; omega)⟩

end Go.Proofs.YtjjdbhohjphcoaaGreatDoor

namespace Go.Proofs.YtjjdbhohjphcoaaGreatDoor
open Go.RowKit

theorem cmpN_lt {a b : Nat} (h : a < b) : cmpN a b = -1 := by unfold cmpN; rw [if_pos h]

theorem cmpN_gt {a b : Nat} (h : b < a) : cmpN a b = 1 := by unfold cmpN; rw [if_neg (by omega), if_pos h]

theorem cmpN_eq {a b : Nat} (h : a = b) : cmpN a b = 0 := by rw [h]; exact cmpN_refl b

theorem sub_step {xs ys Z : List Nat} {k C D C' : Nat} (hZ : Z.length = k) (h : val Z + val (ys.take k) = val (xs.take k) + pB k * C) (hD : D + gd ys k + C = gd xs k + 4294967296 * C') :
    val (Z ++ [D]) + val (ys.take (k + 1)) = val (xs.take (k + 1)) + pB (k + 1) * C' := by
  rw [val_append, val_one, hZ, val_take_succ, val_take_succ, pB_succ]
  have e : pB k * (D + gd ys k + C) = pB k * (gd xs k + 4294967296 * C') := by rw [hD]
  rw [Nat.mul_add, Nat.mul_add, Nat.mul_add, ← Nat.mul_assoc, Nat.mul_comm (pB k) 4294967296] at e
  omega

theorem val_take_all {ys : List Nat} {k : Nat} (h : val ys < pB k) : val (ys.take k) = val ys := by
  by_cases hk : k ≤ ys.length
  · have e := val_split ys k hk
    have h0 : val (ys.drop k) = 0 := by
      apply Nat.eq_zero_of_not_pos
      intro hp
      have : pB k * 1 ≤ pB k * val (ys.drop k) := Nat.mul_le_mul_left _ hp
      omega
    rw [e, h0]; omega
  · rw [List.take_of_length_le (by omega)]

theorem sub_word (x y C : Nat) (hx : x < 4294967296) (hy : y < 4294967296) (hC : C ≤ 1) : ∃ D C' : Nat, D < 4294967296 ∧ C' ≤ 1 ∧
    IntKind.u64.wrap (IntKind.u64.wrap ((x : Int) - y) - C) / 9223372036854775808 = C' ∧ IntKind.u64.wrap (IntKind.u64.wrap ((x : Int) - y) - C) % 4294967296 = D ∧ D + y + C = x + 4294967296 * C' := by
  rw [IntKind.wrap_u64, IntKind.wrap_u64]
  by_cases h : y + C ≤ x
  · refine ⟨x - y - C, 0, by omega, by omega, by omega, by omega, by omega⟩
  · refine ⟨x + 4294967296 - y - C, 1, by omega, by omega, by omega, by omega, by omega⟩

set_option maxRecDepth 100000 in
set_option maxHeartbeats 1000000 in
theorem sub_any (p q : Option Addr) (n c m d : Nat) (xs ys : List Nat) (w : World) (h1 : Sl w p n c xs) (h2 : Sl w q m d ys) (hn : n ≤ 1099511627775) (hm : m ≤ 1099511627775) :
    Calls Tryz.prog 198 #[.slice p n c, .slice q m d] w (RetOwn w (dg (val xs - val ys))) := by
  by_cases hlt : val ys < val xs
  · obtain ⟨i0, hi, hz0, hz1, hz2⟩ := info_parts Tryz.infoU
    have hcmp := Lib.hid (cmpN_gt hlt)
    go_enter Tryz.func198, Tryz.ntmps198
    go_wp2_with fail
    refine (compare_any _ _ _ _ _ _ _ _ _ h1 h2).mono ?_
    rintro e w1 ⟨rfl, hf1⟩
    rw [hcmp.out]
    replace h1 := h1.kept hf1
    replace h2 := h2.kept hf1
    go_wp2_with fail
    refine (cut_any _ _ _ _ _ h1).mono ?_
    rintro e w' ⟨rfl, rfl⟩
    have l1 := dg_len_val h1.dig
    rw [h1.len] at l1
    have KX := h1.cut
    have Hlt := Lib.hid hlt
    have HV := Lib.hid (val_dg (val xs))
    have HB : Hid (val (ys.take (dg (val xs)).length) = val ys) := val_take_all (Nat.lt_trans hlt (dg_lt _))
    clear h1 hlt
    generalize dg (val xs) = X at *
    have LX := KX.len
    go_wp2_with (at_make; refine wpList_make_full _ rfl _ _ 22 rfl 0 52 i0 (.int .u32 0) 1 Tryz.underlying22 hi hz0 hz1 _ _ _ _ X.length rfl rfl (by simp) (by simp) (by rw [hz2]; omega) (by unfold maxLen; omega) (Nat.zero_le _) ?_)
    intro w0 hown hgrow
    have hB0 := blk_of_made hown
    have hf0 : Fr [] w1 w0 := (Fr.refl _ _).grown hgrow (by simp)
    clear hown hgrow
    have hg0 := hB0.lt
    generalize hg : w1.heap.size = g at *
    have HG := Lib.hid hg
    clear hg
    go_wp2
    go_loopw [6, 21] (fun s t wr => ∃ (k C : Nat) (Z : List Nat), k ≤ X.length ∧ s = .int .u64 C ∧ t = .int .i64 k ∧ C ≤ 1 ∧ Z.length = k ∧ Dg Z ∧ val Z + val (ys.take k) = val (X.take k) + pB k * C ∧ Fb wr g X.length Z ∧ Fr [] w1 wr) (fun _ t _ => X.length - (intOf t).toNat)
    case atStart => exact ⟨0, 0, [], Nat.zero_le _, rfl, rfl, by omega, rfl, Dg.nil, rfl, Fb.start hB0, hf0⟩
    case round =>
      obtain ⟨k, C, Z, hk, rfl, rfl, hC, hZ, hZd, hv, hB, hf⟩ := hrel
      have HZ := Lib.hid hZ
      have Hv := Lib.hid hv
      clear hZ hv hB0 hf0
      by_cases hlt : k < X.length
      · obtain ⟨b1, o1, rfl, _, m1⟩ := (KX.kept hf).rd.open (by omega)
        have c1 := m1 k (by omega)
        have c3 := hB.free k
        have c4 := hB.cell hlt (by rw [HZ.out]; exact Nat.le_refl _)
        have d1 := KX.dig.at k
        have d2 := h2.dig.at k
        have HT : Hid (∀ D C', D + gd ys k + C = gd X k + 4294967296 * C' → _) := fun D C' => sub_step HZ.out Hv.out
        have HW := Lib.hid (hB.set hlt HZ.out)
        clear m1
        generalize gd X k = x at *
        go_wp2_with fail
        refine (digit_any _ _ _ _ _ _ (h2.kept hf) (by omega) (by omega) (by omega)).mono ?_
        rintro e w' ⟨rfl, rfl⟩
        rw [Int.toNat_natCast]
        generalize gd ys k = y at *
        go_wp2_with fail
        go_roundw
        case rel =>
          obtain ⟨D, C', hD, hC', e1, e2, e3⟩ := sub_word x y C d1 d2 hC
          rw [e1, e2]
          exact ⟨k + 1, C', Z ++ [D], by omega, rfl, by go_num, hC', by simp [HZ.out], hZd.append (Dg.one hD), HT.out _ _ e3, HW.out _, hf.setCell _ _ (by have := HG.out; simp; omega)⟩
        case measure => simp [intOf]; omega
      · obtain rfl : k = X.length := by omega
        have hv := Hv.out
        rw [List.take_length, HB.out, HV.out] at hv
        have hC0 : C = 0 := by
          apply Nat.eq_zero_of_not_pos
          intro hp
          have h3 := val_lt hZd
          rw [HZ.out] at h3
          have h4 : pB X.length * 1 ≤ pB X.length * C := Nat.mul_le_mul_left _ hp
          have h5 := Hlt.out
          omega
        have HO := Lib.hid (Ow.of_blk (base := g) (hB.full HZ.out) (Nat.le_refl _) (by rw [HZ.out]; omega) hZd)
        have Hval : Hid (val Z = val xs - val ys) := by show val Z = _; rw [hC0] at hv; have := Hlt.out; omega
        rw [HZ.out] at HO
        clear hv hC0
        go_wp2_with fail
        refine (normal_any _ _ _ _ _ _ HO.out).mono ?_
        rw [Hval.out]
        rintro e w' ⟨⟨p', c', rfl, ho'⟩, rfl⟩
        go_wp2_with fail
        go_ret
        have := hf1.size
        have := HG.out
        exact ⟨p', c', rfl, ho'.mono (by omega), hf1.trans hf (by simp)⟩
  · have e0 : val xs - val ys = 0 := by omega
    have hcl : Hid (cmpN (val xs) (val ys) = -1 ∨ cmpN (val xs) (val ys) = 0) := by
      by_cases h : val xs < val ys
      · exact Or.inl (cmpN_lt h)
      · exact Or.inr (cmpN_eq (by omega))
    rw [e0, dg_zero]
    go_enter Tryz.func198, Tryz.ntmps198
    go_wp2_with fail
    refine (compare_any _ _ _ _ _ _ _ _ _ h1 h2).mono ?_
    rintro e w1 ⟨rfl, hf1⟩
    rcases hcl.out with hc | hc
    all_goals
      rw [hc]
      clear hc
      go_wp2
      go_ret
      exact ⟨none, 0, rfl, Ow.zero _ _, hf1⟩

theorem spl_spl {L : List Value} {k : Nat} {Q Z : List Nat} (hL : Q.length ≤ L.length) (h : k + Z.length ≤ Q.length) : spl (spl L 0 Q) k Z = spl L 0 (Q.take k ++ Z ++ Q.drop (k + Z.length)) := by
  have e : (Q.take k ++ Z ++ Q.drop (k + Z.length)).length = Q.length := by simp; omega
  have hl := spl_len (L := L) (o := 0) (Z := Q) (by omega)
  apply spl_ext (by omega)
  intro j
  rw [spl_at (by omega), spl_at (by omega)]
  rw [e]
  simp only [Nat.zero_add, Nat.not_lt_zero, if_false, Nat.sub_zero]
  by_cases h1 : j < k
  · have hj : j < Q.length := by omega
    rw [if_pos h1, if_pos hj, if_pos hj, gd_append_left (by simp; omega), gd_append_left (by simp; omega), gd_take h1]
  · rw [if_neg h1]
    by_cases h2 : j < k + Z.length
    · rw [if_pos h2, if_pos (by omega), gd_append_left (by simp; omega), gd_append_right (by simp; omega)]
      congr 3
      simp; omega
    · rw [if_neg h2]
      by_cases h3 : j < Q.length
      · rw [if_pos h3, if_pos h3, gd_append_right (by simp; omega), gd_drop]
        congr 3
        simp; omega
      · rw [if_neg h3, if_neg h3]

theorem mul_step {X Q Z B : List Nat} {k r m : Nat} (hQ : Q.length = k + m) (hZ : Z.length = m) (h : val Q = val (X.take k) * val B) (h2 : val Z + pB m * r = val (Q.drop k) + gd X k * val B) :
    val (Q.take k ++ Z ++ [r]) = val (X.take (k + 1)) * val B := by
  rw [val_append, val_append, val_one, val_take_succ, Nat.add_mul, ← h, val_split Q k (by omega)]
  have e : (Q.take k).length = k := by simp; omega
  rw [List.length_append, e, hZ, pB_add]
  have e2 : pB k * (val Z + pB m * r) = pB k * (val (Q.drop k) + gd X k * val B) := by rw [h2]
  rw [Nat.mul_add, Nat.mul_add, ← Nat.mul_assoc, ← Nat.mul_assoc] at e2
  omega

set_option maxRecDepth 100000 in
set_option maxHeartbeats 1000000 in
theorem mul_any (p q : Option Addr) (n c m d : Nat) (xs ys : List Nat) (w : World) (h1 : Sl w p n c xs) (h2 : Sl w q m d ys) (hn : n ≤ 549755813887) (hm : m ≤ 549755813887) :
    Calls Tryz.prog 149 #[.slice p n c, .slice q m d] w (RetOwn w (dg (val xs * val ys))) := by
  obtain ⟨i0, hi, hz0, hz1, hz2⟩ := info_parts Tryz.infoU
  go_enter Tryz.func149, Tryz.ntmps149
  go_wp2_with fail
  refine (cut_any _ _ _ _ _ h1).mono ?_
  rintro e w' ⟨rfl, rfl⟩
  go_wp2_with fail
  refine (cut_any _ _ _ _ _ h2).mono ?_
  rintro e w' ⟨rfl, rfl⟩
  have l1 := dg_len_val h1.dig
  have l2 := dg_len_val h2.dig
  rw [h1.len] at l1
  rw [h2.len] at l2
  have KX := h1.cut
  have KY := h2.cut
  have HVX := Lib.hid (val_dg (val xs))
  have HVY := Lib.hid (val_dg (val ys))
  clear h1 h2
  generalize dg (val xs) = X at *
  generalize dg (val ys) = Y at *
  go_wp2_with (at_make; refine wpList_make_full _ rfl _ _ 22 rfl 0 52 i0 (.int .u32 0) 1 Tryz.underlying22 hi hz0 hz1 _ _ _ _ (X.length + Y.length) rfl rfl (by simp) (by simp) (by rw [hz2]; omega) (by unfold maxLen; omega) (Nat.zero_le _) ?_)
  intro w0 hown hgrow
  have hB0 := blk_of_made hown
  have hf0 : Fr [] w w0 := (Fr.refl _ _).grown hgrow (by simp)
  clear hown hgrow
  have hg0 := hB0.lt
  generalize hg : w.heap.size = g at *
  have HG := Lib.hid hg
  clear hg
  have hstart : Fb w0 g (X.length + Y.length) (List.replicate Y.length 0) := by
    unfold Fb
    rw [spl_map]
    have : (List.replicate (X.length + Y.length) 0).take 0 ++ List.replicate Y.length 0 ++ (List.replicate (X.length + Y.length) 0).drop (0 + (List.replicate Y.length 0).length) = List.replicate (X.length + Y.length) 0 := by
      simp [List.replicate_append_replicate]
      omega
    rw [this]
    exact hB0
  go_wp2
  go_loopw [20] (fun t wr => ∃ (k : Nat) (Q : List Nat), k ≤ X.length ∧ t = .int .i64 k ∧ Q.length = k + Y.length ∧ Dg Q ∧ val Q = val (X.take k) * val Y ∧ Fb wr g (X.length + Y.length) Q ∧ Fr [] w wr) (fun t _ => X.length - (intOf t).toNat)
  case atStart => exact ⟨0, _, Nat.zero_le _, rfl, by simp, Dg.zeros _, by rw [val_zeros]; simp [val], hstart, hf0⟩
  case round =>
    obtain ⟨k, Q, hk, rfl, hQ, hQd, hv, hB, hf⟩ := hrel
    have HQ := Lib.hid hQ
    have Hv := Lib.hid hv
    clear hQ hv hB0 hf0 hstart
    by_cases hlt : k < X.length
    · obtain ⟨b1, o1, rfl, _, m1⟩ := (KX.kept hf).rd.open (by omega)
      have c1 := m1 k (by omega)
      have d1 := KX.dig.at k
      have HT : Hid (∀ (Z : List Nat) (r : Nat), Z.length = Y.length → val Z + pB Y.length * r = val (Q.drop k) + gd X k * val Y → val (Q.take k ++ Z ++ [r]) = val (X.take (k + 1)) * val Y) := fun Z r hZ h => mul_step HQ.out hZ Hv.out h
      clear m1
      generalize gd X k = x at *
      have hsg : Sg (spl ((List.replicate (X.length + Y.length) 0).map dv) 0 Q) k (Q.drop k) := by
        have h1 := (spl_sg (L := (List.replicate (X.length + Y.length) 0).map dv) (o := 0) (Z := Q) (by simp [HQ.out]; omega)).sub k Y.length (by rw [HQ.out]; exact Nat.le_refl _)
        rw [Nat.zero_add, List.take_of_length_le (by simp [HQ.out])] at h1
        exact h1
      have HQK : Hid ((Q.drop k).length = Y.length) := by show _ = _; simp [HQ.out]
      go_wp2_with fail
      refine (addProduct_any g k _ _ _ x q _ _ _ _ hB hsg (hQd.drop _) HQK.out (KY.kept hf) ?_ d1 (by omega)).mono ?_
      · intro h0 a ha
        have := HG.out
        obtain ⟨b, o, h2, h3, _⟩ := KY.rd.open h0
        rw [h2] at ha
        cases ha
        show b ≠ g
        omega
      rintro e w2 ⟨Z, r, rfl, hZ, hZd, hr, hv, hB2, hf2⟩
      have hB3 : Fb w2 g (X.length + Y.length) (Q.take k ++ Z) := by
        unfold Fb
        rw [spl_spl (by simp [HQ.out]; omega) (by rw [HQ.out, hZ]; exact Nat.le_refl _), List.drop_of_length_le (by rw [HQ.out, hZ]; exact Nat.le_refl _), List.append_nil] at hB2
        exact hB2
      have hl3 : (Q.take k ++ Z).length = k + Y.length := by simp [HQ.out, hZ]
      have c3 := hB3.free (k + Y.length)
      have c4 := hB3.cell (show k + Y.length < X.length + Y.length by omega) (by rw [hl3]; exact Nat.le_refl _)
      have HW := Lib.hid (hB3.set (show k + Y.length < X.length + Y.length by omega) hl3 r)
      have HV2 := Lib.hid (HT.out Z r hZ hv)
      have HL3 := Lib.hid hl3
      have hf3 : Fr [] w w2 := hf.trans hf2 (by have := HG.out; simp; omega)
      clear hZ hv hB2 hl3 hsg
      go_wp2_with fail
      go_roundw
      case rel =>
        exact ⟨k + 1, Q.take k ++ Z ++ [r], by omega, by go_num, by rw [List.length_append, HL3.out]; simp; omega, ((hQd.take _).append hZd).append (Dg.one hr), HV2.out, HW.out, hf3.setCell _ _ (by have := HG.out; simp; omega)⟩
      case measure => simp [intOf]; omega
    · obtain rfl : k = X.length := by omega
      have hv := Hv.out
      rw [List.take_length, HVX.out, HVY.out] at hv
      have HO := Lib.hid (Ow.of_blk (base := g) (hB.full HQ.out) (Nat.le_refl _) (by rw [HQ.out]; omega) hQd)
      have HVQ := Lib.hid hv
      rw [HQ.out] at HO
      clear hv
      go_wp2_with fail
      refine (normal_any _ _ _ _ _ _ HO.out).mono ?_
      rw [HVQ.out]
      rintro e w' ⟨⟨p', c', rfl, ho'⟩, rfl⟩
      go_wp2_with fail
      go_ret
      exact ⟨p', c', rfl, by rw [HG.out]; exact ho', hf⟩

end Go.Proofs.YtjjdbhohjphcoaaGreatDoor
