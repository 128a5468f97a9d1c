/- What the statements of this claim stand on: of Div1, Div2, what they name -/
import Derived.StillTailTactics
import Derived.Test.YtjjdbhohjphcoaaGreatDoorK02

namespace Go.Proofs.YtjjdbhohjphcoaaGreatDoor
open Go.RowKit

def pbn (p : Option Addr) (n : Nat) : List Nat := if n = 0 then [] else (p.map (·.block)).toList

theorem Ow.pbn_ge {w : World} {base : Nat} {p : Option Addr} {n c : Nat} {xs : List Nat} (h : Ow w base p n c xs) : ∀ x, x ∈ pbn p n → base ≤ x := by
  intro x hx
  unfold pbn at hx
  split at hx
  · simp at hx
  · rcases h.own with rfl | ⟨g, L, rfl, h1, _⟩
    · have := h.sl.len; simp at this; omega
    · simp at hx; omega

theorem Ow.frame {w0 w w' : World} {base : Nat} {p : Option Addr} {n c : Nat} {xs : List Nat} (h : Ow w base p n c xs) (hb : w0.heap.size ≤ base) (f : Fr [] w0 w) (f2 : Fr (pbn p n) w w') : Fr [] w0 w' :=
  f.trans f2 (fun x hx hl => by have := h.pbn_ge x hx; omega)

theorem drop_cons_gd {xs : List Nat} {k : Nat} (h : k < xs.length) : xs.drop k = gd xs k :: xs.drop (k + 1) := by
  rw [List.drop_eq_getElem_cons h, gd_lt h]

theorem divd_step {xs Q : List Nat} {k d R : Nat} (hk : k < xs.length) (h : val (xs.drop (k + 1)) = val Q * d + R) :
    val (xs.drop k) = val ((R * 4294967296 + gd xs k) / d :: Q) * d + (R * 4294967296 + gd xs k) % d := by
  rw [drop_cons_gd hk, val, val, h]
  have e := Nat.div_add_mod (R * 4294967296 + gd xs k) d
  rw [Nat.add_mul, Nat.mul_assoc 4294967296 (val Q) d, Nat.mul_comm ((R * 4294967296 + gd xs k) / d) d]
  generalize val Q * d = z at *
  generalize d * ((R * 4294967296 + gd xs k) / d) = y at *
  generalize (R * 4294967296 + gd xs k) % d = u at *
  omega

theorem div_small {R x d : Nat} (hR : R < d) (hx : x < 4294967296) : (R * 4294967296 + x) / d < 4294967296 := by
  have hd : 0 < d := by omega
  rw [Nat.div_lt_iff_lt_mul hd]
  have : (R + 1) * 4294967296 ≤ d * 4294967296 := Nat.mul_le_mul_right _ hR
  omega

set_option maxRecDepth 100000 in
set_option maxHeartbeats 1000000 in
theorem divd_blk (g n c d : Nat) (L : List Value) (xs : List Nat) (w : World) (hb : Blk w g L) (hz : Sg L 0 xs) (hzd : Dg xs) (hzl : xs.length = n) (hd : 0 < d) (hd2 : d < 4294967296) (hn : n ≤ 1099511627776) :
    Calls Tryz.prog 193 #[.slice (some ⟨g, 0, none⟩) n c, .int .u32 d] w fun e w' =>
      e = .returned (.int .u32 (val xs % d : Nat)) ∧ ∃ Q, Q.length = n ∧ Dg Q ∧ val Q = val xs / d ∧ Blk w' g (spl L 0 Q) ∧ Fr [g] w w' := by
  go_enter Tryz.func193, Tryz.ntmps193
  go_wp2
  go_loopw [5, 6] (fun s t wr => ∃ (k R : Nat) (Q : List Nat), k ≤ n ∧ s = .int .u64 R ∧ t = .int .i64 ((k : Int) - 1) ∧ R < d ∧ Q.length = n - k ∧ Dg Q ∧ val (xs.drop k) = val Q * d + R ∧ Blk wr g (spl L k Q) ∧ Fr [g] w wr) (fun _ t _ => (intOf t + 1).toNat)
  case atStart => exact ⟨n, 0, [], Nat.le_refl _, rfl, rfl, hd, by simp, Dg.nil, by rw [List.drop_of_length_le (by omega)]; simp [val], by rw [spl_nil]; exact hb, Fr.refl _ _⟩
  case round =>
    obtain ⟨k, R, Q, hk, rfl, rfl, hR, hQ, hQd, hv, hB, hf⟩ := hrel
    have HQ := Lib.hid hQ
    have Hv := Lib.hid hv
    have HL := hz.1
    clear hQ hv
    cases k with
    | zero =>
      rw [show (((0 : Nat) : Int) - 1) = -1 from rfl]
      have hv := Hv.out
      rw [List.drop_zero] at hv
      have e1 : val xs % d = R := by rw [hv, Nat.mul_comm, Nat.mul_add_mod, Nat.mod_eq_of_lt hR]
      have e2 : val Q = val xs / d := by rw [hv, Nat.mul_comm, Nat.mul_add_div hd, Nat.div_eq_of_lt hR]; rfl
      rw [Nat.sub_zero] at HQ
      have H1 := Lib.hid e1
      have H2 := Lib.hid e2
      clear hv e1 e2
      go_wp2
      go_ret
      rw [H1.out]
      exact ⟨rfl, Q, HQ.out, hQd, H2.out, hB, hf⟩
    | succ k =>
      rw [show (((k + 1 : Nat) : Int) - 1) = k from by omega]
      have c2 : wr.cell? ⟨g, k, none⟩ = some (dv (gd xs k)) := hB.cell (by rw [spl_at (by rw [HQ.out]; omega), if_pos (by omega)]; have := hz.2 k (by omega); rwa [Nat.zero_add] at this)
      have c3 := hB.free k
      have d2 := hzd.at k
      have HT := Lib.hid (divd_step (show k < xs.length by omega) Hv.out)
      have HD := Lib.hid (div_small hR d2)
      have HW := Lib.hid (hB.set k)
      have HS : Hid (∀ v, (spl L (k + 1) Q).set k (dv v) = spl L k (v :: Q)) := fun v => spl_down (by rw [HQ.out]; omega) v
      have hor := or64i ((R : Int) * 4294967296) (gd xs k : Nat) R 32 (by omega) (by omega) (by omega) (by omega)
      have hw1 : IntKind.u64.wrap ((R : Int) * 4294967296) = (R : Int) * 4294967296 := wrap_u64_lt (by omega) (by omega)
      generalize gd xs k = x at *
      go_wp2
      go_roundw
      case rel =>
        have hD := HD.out
        have e0 : (R : Int) * 4294967296 + x = ((R * 4294967296 + x : Nat) : Int) := by omega
        have e1 : ((R : Int) * 4294967296 + x) / d = (((R * 4294967296 + x) / d : Nat) : Int) := by rw [e0]; exact (Int.natCast_ediv _ _).symm
        have e2 : ((R : Int) * 4294967296 + x) % d = (((R * 4294967296 + x) % d : Nat) : Int) := by rw [e0]; exact (Int.natCast_emod _ _).symm
        have ht := HT.out
        have hml : (R * 4294967296 + x) % d < d := Nat.mod_lt _ hd
        rw [e1, e2]
        clear HT e0 e1 e2 HD
        generalize (R * 4294967296 + x) / d = qq at *
        generalize (R * 4294967296 + x) % d = rr at *
        have e3 : (qq : Int) % 4294967296 = qq := by omega
        rw [e3]
        refine ⟨k, rr, qq :: Q, by omega, rfl, rfl, hml, by simp [HQ.out]; omega, Dg.cons hD hQd, ht, ?_, hf.setCell _ _ (by simp)⟩
        rw [← HS.out]
        exact HW.out _
      case measure => simp [intOf]

theorem divd_any (p : Option Addr) (n c d base : Nat) (xs : List Nat) (w : World) (ho : Ow w base p n c xs) (hd : 0 < d) (hd2 : d < 4294967296) (hn : n ≤ 1099511627776) :
    Calls Tryz.prog 193 #[.slice p n c, .int .u32 d] w fun e w' =>
      e = .returned (.int .u32 (val xs % d : Nat)) ∧ ∃ Q, Q.length = n ∧ val Q = val xs / d ∧ Ow w' base p n c Q ∧ Fr (pbn p n) w w' := by
  have hs := ho.sl
  by_cases hxs : xs = []
  · subst hxs
    have hn0 : n = 0 := hs.len.symm
    subst hn0
    have e1 : val [] % d = 0 := by simp [val]
    rw [e1]
    have H1 := Lib.hid ho
    clear hs ho e1
    go_enter Tryz.func193, Tryz.ntmps193
    go_wp2
    go_loop [5, 6] (fun r s => r = .int .u64 0 ∧ s = .int .i64 (-1)) (fun _ _ => 0)
    case atStart => exact ⟨rfl, rfl⟩
    case round =>
      obtain ⟨rfl, rfl⟩ := hrel
      go_wp2
      go_ret
      exact ⟨rfl, by simp [val], H1.out, Fr.refl _ _⟩
  · obtain ⟨g, L, rfl, h1, hb, hl, ht⟩ := ho.own.resolve_left hxs
    refine (divd_blk g n c d L xs w hb ht hs.dig hs.len hd hd2 hn).mono ?_
    rintro e w' ⟨h2, Q, h3, h4, h5, h6, h7⟩
    have hle : 0 + Q.length ≤ L.length := by rw [h3]; have := hs.le; omega
    have hn0 : n ≠ 0 := fun e => hxs (List.eq_nil_of_length_eq_zero (hs.len.trans e))
    have h7' : Fr (pbn (some ⟨g, 0, none⟩) n) w w' := by
      unfold pbn
      rw [if_neg hn0]
      exact h7
    refine ⟨h2, Q, h3, h5, ⟨⟨h3, hs.le, hs.cap, hs.nil, (spl_sg hle).rd h6, h4⟩, Or.inr ⟨g, _, rfl, h1, h6, ?_, spl_sg hle⟩⟩, h7'⟩
    rw [spl_len hle, hl]

theorem shl_parts {x s : Nat} (hs : s ≤ 31) (hx : x < 4294967296) : x * 2 ^ s = x % 2 ^ (32 - s) * 2 ^ s + 4294967296 * (x / 2 ^ (32 - s)) ∧ x % 2 ^ (32 - s) * 2 ^ s + 2 ^ s ≤ 4294967296 ∧ x / 2 ^ (32 - s) < 2 ^ s := by
  have hp : 2 ^ (32 - s) * 2 ^ s = 4294967296 := by rw [← Nat.pow_add, Nat.sub_add_cancel (by omega)]
  have hm := Nat.div_add_mod x (2 ^ (32 - s))
  have hl := Nat.mod_lt x (Nat.two_pow_pos (32 - s))
  refine ⟨?_, ?_, ?_⟩
  · have e : x * 2 ^ s = (2 ^ (32 - s) * (x / 2 ^ (32 - s)) + x % 2 ^ (32 - s)) * 2 ^ s := by rw [hm]
    rw [e, Nat.add_mul, Nat.mul_right_comm, hp]
    omega
  · have : (x % 2 ^ (32 - s) + 1) * 2 ^ s ≤ 2 ^ (32 - s) * 2 ^ s := Nat.mul_le_mul_right _ hl
    rw [Nat.add_mul, hp] at this
    omega
  · rw [Nat.div_lt_iff_lt_mul (Nat.two_pow_pos _), Nat.mul_comm, hp]
    exact hx

theorem raise_step {xs Z : List Nat} {k s C : Nat} (hZ : Z.length = k) (hs : s ≤ 31) (hx : gd xs k < 4294967296) (h : val Z + pB k * C = val (xs.take k) * 2 ^ s) :
    val (Z ++ [gd xs k % 2 ^ (32 - s) * 2 ^ s + C]) + pB (k + 1) * (gd xs k / 2 ^ (32 - s)) = val (xs.take (k + 1)) * 2 ^ s := by
  obtain ⟨h1, _, _⟩ := shl_parts hs hx
  rw [val_append, val_one, hZ, val_take_succ, pB_succ, Nat.add_mul, ← h, Nat.mul_assoc (pB k), h1]
  rw [Nat.mul_add, Nat.mul_add, Nat.mul_comm 4294967296 (pB k), Nat.mul_assoc (pB k) 4294967296]
  omega

set_option maxRecDepth 100000 in
set_option maxHeartbeats 1000000 in
theorem raiseBits_any (p : Option Addr) (n c s : Nat) (xs : List Nat) (w : World) (h : Sl w p n c xs) (hs : s ≤ 31) (hn : n ≤ 1099511627775) :
    Calls Tryz.prog 210 #[.slice p n c, .int .i64 s] w fun e w' =>
      ∃ g Z, e = .returned (.slice (some ⟨g, 0, none⟩) (n + 1) (n + 1)) ∧ w.heap.size ≤ g ∧ Blk w' g (Z.map dv) ∧ Z.length = n + 1 ∧ Dg Z ∧ val Z = val xs * 2 ^ s ∧ Fr [] w w' := by
  obtain ⟨i0, hi, hz0, hz1, hz2⟩ := info_parts Tryz.infoU
  have hx := h.len
  go_enter Tryz.func210, Tryz.ntmps210
  go_wp2_with (at_make; refine wpList_make_full _ rfl _ _ 22 rfl 0 52 i0 (.int .u32 0) 1 Tryz.underlying22 hi hz0 hz1 _ _ _ _ (n + 1) rfl rfl (by simp) (by simp) (by rw [hz2]; omega) (by unfold maxLen; omega) (Nat.zero_le _) ?_)
  intro w0 hown hgrow
  have hB0 := blk_of_made hown
  have hf0 : Fr [] w w0 := (Fr.refl _ _).grown hgrow (by simp)
  clear hown hgrow
  have hg0 := hB0.lt
  generalize hg : w.heap.size = g at *
  have HG := Lib.hid hg
  clear hg
  go_wp2
  go_loopw [6, 15] (fun r t wr => ∃ (k C : Nat) (Z : List Nat), k ≤ n ∧ r = .int .u32 C ∧ t = .int .i64 k ∧ C < 2 ^ s ∧ Z.length = k ∧ Dg Z ∧ val Z + pB k * C = val (xs.take k) * 2 ^ s ∧ Fb wr g (n + 1) Z ∧ Fr [] w wr) (fun _ t _ => n - (intOf t).toNat)
  case atStart => exact ⟨0, 0, [], Nat.zero_le _, rfl, rfl, Nat.two_pow_pos _, rfl, Dg.nil, by simp [val], Fb.start hB0, hf0⟩
  case round =>
    obtain ⟨k, C, Z, hk, rfl, rfl, hC, hZ, hZd, hv, hB, hf⟩ := hrel
    have HZ := Lib.hid hZ
    have Hv := Lib.hid hv
    have HC := Lib.hid hC
    have hp31 : 2 ^ s ≤ 2 ^ 31 := Nat.pow_le_pow_right (by decide) hs
    have hC2 : C < 4294967296 := by omega
    clear hZ hv hB0 hf0 hC hp31
    by_cases hlt : k < n
    · obtain ⟨b1, o1, rfl, _, m1⟩ := (h.kept hf).rd.open (by omega)
      have c1 := m1 k (by omega)
      have c3 := hB.free k
      have c4 := hB.cell (show k < n + 1 by omega) (by rw [HZ.out]; exact Nat.le_refl _)
      have d1 := h.dig.at k
      have HT := Lib.hid (raise_step HZ.out hs d1 Hv.out)
      have HP := Lib.hid (shl_parts hs d1)
      have HW := Lib.hid (hB.set (show k < n + 1 by omega) HZ.out)
      clear m1
      generalize gd xs k = x at *
      go_wp2
      go_roundw
      case rel =>
        obtain ⟨p1, p2, p3⟩ := HP.out
        have hc := HC.out
        have ht := HT.out
        have ed : (x : Int) / 2 ^ (32 - s) = ((x / 2 ^ (32 - s) : Nat) : Int) := by simp
        have em : (x : Int) * 2 ^ s % 4294967296 = ((x % 2 ^ (32 - s) * 2 ^ s : Nat) : Int) := by
          have : (x : Int) * 2 ^ s = ((x * 2 ^ s : Nat) : Int) := by simp
          rw [this, p1]
          generalize x % 2 ^ (32 - s) * 2 ^ s = y at *
          generalize 2 ^ s = z at *
          omega
        have ho : bits .or .u32 ((x % 2 ^ (32 - s) * 2 ^ s : Nat) : Int) (C : Int) = ((x % 2 ^ (32 - s) * 2 ^ s + C : Nat) : Int) := by
          rw [or32i _ _ (x % 2 ^ (32 - s)) s rfl (by omega) (by omega) (by omega)]
          omega
        rw [ed, em, ho]
        exact ⟨k + 1, _, Z ++ [x % 2 ^ (32 - s) * 2 ^ s + C], by omega, rfl, by go_num, p3, by simp [HZ.out], hZd.append (Dg.one (by omega)), ht, HW.out _, hf.setCell _ _ (by have := HG.out; simp; omega)⟩
      case measure => simp [intOf]; omega
    · obtain rfl : k = n := by omega
      have hv := Hv.out
      rw [List.take_of_length_le (by omega)] at hv
      have c3 := hB.free k
      have c4 := hB.cell (show k < k + 1 by omega) (by rw [HZ.out]; exact Nat.le_refl _)
      have HW := Lib.hid ((hB.set (show k < k + 1 by omega) HZ.out C).full (by simp [HZ.out]))
      have HV2 : Hid (val (Z ++ [C]) = val xs * 2 ^ s) := by show _ = _; rw [val_append, val_one, HZ.out, hv]
      clear hv
      go_wp2
      go_ret
      exact ⟨g, Z ++ [C], rfl, by rw [HG.out]; exact Nat.le_refl _, HW.out, by simp [HZ.out], hZd.append (Dg.one hC2), HV2.out, hf.setCell _ _ (by have := HG.out; simp; omega)⟩

theorem shr_parts {x y s : Nat} (hs : s ≤ 31) (hx : x < 4294967296) :
    y * 2 ^ (32 - s) % 4294967296 = y % 2 ^ s * 2 ^ (32 - s) ∧ x / 2 ^ s < 2 ^ (32 - s) ∧ y % 2 ^ s * 2 ^ (32 - s) + 2 ^ (32 - s) ≤ 4294967296 ∧ (y % 2 ^ s * 2 ^ (32 - s)) * 2 ^ s = 4294967296 * (y % 2 ^ s) := by
  have hp : 2 ^ (32 - s) * 2 ^ s = 4294967296 := by rw [← Nat.pow_add, Nat.sub_add_cancel (by omega)]
  have hp' : 2 ^ s * 2 ^ (32 - s) = 4294967296 := by rw [Nat.mul_comm]; exact hp
  have hl := Nat.mod_lt y (Nat.two_pow_pos s)
  refine ⟨?_, ?_, ?_, ?_⟩
  · rw [← hp', Nat.mul_mod_mul_right]
  · rw [Nat.div_lt_iff_lt_mul (Nat.two_pow_pos _), hp]; exact hx
  · have : (y % 2 ^ s + 1) * 2 ^ (32 - s) ≤ 2 ^ s * 2 ^ (32 - s) := Nat.mul_le_mul_right _ hl
    rw [Nat.add_mul, hp'] at this
    omega
  · rw [Nat.mul_assoc, hp, Nat.mul_comm]

theorem lower_step {xs Z : List Nat} {k s r : Nat} (hZ : Z.length = k) (hs : s ≤ 31) (hx : gd xs k < 4294967296) (h : 2 ^ s * val Z + r = val (xs.take k) + pB k * (gd xs k % 2 ^ s)) :
    2 ^ s * val (Z ++ [gd xs k / 2 ^ s + gd xs (k + 1) % 2 ^ s * 2 ^ (32 - s)]) + r = val (xs.take (k + 1)) + pB (k + 1) * (gd xs (k + 1) % 2 ^ s) := by
  obtain ⟨_, _, _, h4⟩ := shr_parts (y := gd xs (k + 1)) hs hx
  have hm := Nat.div_add_mod (gd xs k) (2 ^ s)
  rw [val_append, val_one, hZ, val_take_succ, pB_succ, Nat.mul_add, Nat.mul_left_comm (2 ^ s) (pB k), Nat.mul_add (2 ^ s), Nat.mul_comm (2 ^ s) (gd xs (k + 1) % 2 ^ s * 2 ^ (32 - s)), h4]
  have e : pB k * (2 ^ s * (gd xs k / 2 ^ s) + gd xs k % 2 ^ s) = pB k * gd xs k := by rw [hm]
  rw [Nat.mul_add] at e
  rw [Nat.mul_add (pB k), Nat.mul_comm 4294967296 (pB k), Nat.mul_assoc (pB k) 4294967296]
  omega

theorem lower_end {xs Z : List Nat} {n s : Nat} (hn : xs.length ≤ n) (h : 2 ^ s * val Z + gd xs 0 % 2 ^ s = val (xs.take n) + pB n * (gd xs n % 2 ^ s)) : val Z = val xs / 2 ^ s := by
  rw [gd_ge hn, Nat.zero_mod, Nat.mul_zero, List.take_of_length_le hn] at h
  rw [Nat.add_zero] at h
  rw [← h, Nat.mul_add_div (Nat.two_pow_pos _), Nat.div_eq_of_lt (Nat.mod_lt _ (Nat.two_pow_pos _))]
  rfl

set_option maxRecDepth 100000 in
set_option maxHeartbeats 1000000 in
theorem lowerBits_any (p : Option Addr) (n c s : Nat) (xs : List Nat) (w : World) (h : Sl w p n c xs) (hs : s ≤ 31) (hn : n ≤ 1099511627775) :
    Calls Tryz.prog 213 #[.slice p n c, .int .i64 s] w fun e w' =>
      ∃ g Z, e = .returned (.slice (some ⟨g, 0, none⟩) n n) ∧ w.heap.size ≤ g ∧ Blk w' g (Z.map dv) ∧ Z.length = n ∧ Dg Z ∧ val Z = val xs / 2 ^ s ∧ Fr [] w w' := by
  obtain ⟨i0, hi, hz0, hz1, hz2⟩ := info_parts Tryz.infoU
  have hx := h.len
  go_enter Tryz.func213, Tryz.ntmps213
  go_wp2_with (at_make; refine wpList_make_full _ rfl _ _ 22 rfl 0 52 i0 (.int .u32 0) 1 Tryz.underlying22 hi hz0 hz1 _ _ _ _ n rfl rfl (by simp) (by simp) (by rw [hz2]; omega) (by unfold maxLen; omega) (Nat.zero_le _) ?_)
  intro w0 hown hgrow
  have hB0 := blk_of_made hown
  have hf0 : Fr [] w w0 := (Fr.refl _ _).grown hgrow (by simp)
  clear hown hgrow
  have hg0 := hB0.lt
  generalize hg : w.heap.size = g at *
  have HG := Lib.hid hg
  clear hg
  go_wp2
  go_loopw [13] (fun t wr => ∃ (k : Nat) (Z : List Nat), k ≤ n ∧ t = .int .i64 k ∧ Z.length = k ∧ Dg Z ∧ 2 ^ s * val Z + gd xs 0 % 2 ^ s = val (xs.take k) + pB k * (gd xs k % 2 ^ s) ∧ Fb wr g n Z ∧ Fr [] w wr) (fun t _ => n - (intOf t).toNat)
  case atStart => exact ⟨0, [], Nat.zero_le _, rfl, rfl, Dg.nil, by simp [val, pB_zero], Fb.start hB0, hf0⟩
  case round =>
    obtain ⟨k, Z, hk, rfl, hZ, hZd, hv, hB, hf⟩ := hrel
    have HZ := Lib.hid hZ
    have Hv := Lib.hid hv
    clear hZ hv hB0 hf0
    by_cases hlt : k < n
    · obtain ⟨b1, o1, rfl, _, m1⟩ := (h.kept hf).rd.open (by omega)
      have c1 := m1 k (by omega)
      have c3 := hB.free k
      have c4 := hB.cell hlt (by rw [HZ.out]; exact Nat.le_refl _)
      have d1 := h.dig.at k
      have d2 := h.dig.at (k + 1)
      have HT := Lib.hid (lower_step HZ.out hs d1 Hv.out)
      have HP := Lib.hid (shr_parts (y := gd xs (k + 1)) hs d1)
      have HW := Lib.hid (hB.set hlt HZ.out)
      clear m1
      generalize gd xs k = x at *
      go_wp2_with fail
      have hfq : Fr [] w ({ wr with drawn := wr.drawn + 1 } : World) := hf.drew
      have c1' : ({ wr with drawn := wr.drawn + 1 } : World).cell? ⟨b1, o1 + k, none⟩ = some (dv x) := c1
      have c3' : ({ wr with drawn := wr.drawn + 1 } : World).frozen? ⟨g, k, none⟩ = false := c3
      have c4' : ({ wr with drawn := wr.drawn + 1 } : World).cell? ⟨g, k, none⟩ = some (dv 0) := c4
      have HW' : Hid (∀ v : Nat, Fb (({ wr with drawn := wr.drawn + 1 } : World).setCell ⟨g, k, none⟩ (dv v)) g n (Z ++ [v])) := HW
      refine wp_region_still_tail 15 (by kernel_rfl) (by kernel_rfl) ?_
      generalize ({ wr with drawn := wr.drawn + 1 } : World) = wq at *
      clear c1 c3 c4 HW hf hB
      simp only [List.take_succ_cons, List.take_zero, List.drop_succ_cons, List.drop_zero]
      have hk1 : IntKind.i64.wrap ((k : Int) + 1) = (k : Int) + 1 := IntWalk.i64_in _ (by omega)
      have hs1 : IntKind.i64.wrap (32 - (s : Int)) = ((32 - s : Nat) : Int) := by rw [IntWalk.i64_in _ (by omega)]; omega
      iterate 8 still_step
      still_call ((digit_any (some ⟨b1, o1, none⟩) n c ((k : Int) + 1) xs wq (h.kept hfq) (by omega) (by omega) (by omega)).mono (fun _ _ h => ⟨h.1, h.2.symm⟩))
      rw [show ((k : Int) + 1).toNat = k + 1 by omega]
      iterate 6 still_step
      refine wpStill_nil ?_
      have eD : bits .or .u32 ((x : Int) / 2 ^ s) (IntKind.u32.wrap (IntKind.u64.wrap ((gd xs (k + 1) : Nat) * 2 ^ (32 - s)))) = ((x / 2 ^ s + gd xs (k + 1) % 2 ^ s * 2 ^ (32 - s) : Nat) : Int) := by
        obtain ⟨p1, p2, p3, _⟩ := HP.out
        have hp : 2 ^ (32 - s) ≤ 2 ^ 32 := Nat.pow_le_pow_right (by decide) (by omega)
        have h1 : ((gd xs (k + 1) : Nat) : Int) * 2 ^ (32 - s) = ((gd xs (k + 1) * 2 ^ (32 - s) : Nat) : Int) := by simp
        have h2 : gd xs (k + 1) * 2 ^ (32 - s) ≤ 4294967295 * 4294967296 := Nat.mul_le_mul (by omega) (by simpa using hp)
        have h3 : (x : Int) / 2 ^ s = ((x / 2 ^ s : Nat) : Int) := by simp
        rw [h1, wrap_u64_nat, wrap_u32_nat, Nat.mod_eq_of_lt (a := gd xs (k + 1) * 2 ^ (32 - s)) (by omega), p1, h3]
        exact or32j _ _ _ _ rfl p2 (by omega)
      have hDl : x / 2 ^ s + gd xs (k + 1) % 2 ^ s * 2 ^ (32 - s) < 4294967296 := by
        obtain ⟨_, p2, p3, _⟩ := HP.out
        omega
      rw [eD]
      have ht := HT.out
      clear HT HP eD hs1 hk1
      generalize x / 2 ^ s + gd xs (k + 1) % 2 ^ s * 2 ^ (32 - s) = D at *
      have Ht := Lib.hid ht
      clear ht
      go_wp2
      go_roundw
      case rel => exact ⟨k + 1, Z ++ [D], by omega, by go_num, by simp [HZ.out], hZd.append (Dg.one hDl), Ht.out, HW'.out _, hfq.setCell _ _ (by have := HG.out; simp; omega)⟩
      case measure => simp [intOf]; omega
    · obtain rfl : k = n := by omega
      have HV2 := Lib.hid (lower_end (by omega) Hv.out)
      have HB2 := Lib.hid (hB.full HZ.out)
      go_wp2
      go_ret
      exact ⟨g, Z, rfl, by rw [HG.out]; exact Nat.le_refl _, HB2.out, HZ.out, hZd, HV2.out, hf⟩

end Go.Proofs.YtjjdbhohjphcoaaGreatDoor

namespace Go.Proofs.YtjjdbhohjphcoaaGreatDoor
open Go.RowKit

def Guess (P Y : List Nat) (q : Nat) : Prop := q < 4294967296 ∧ val P / val Y ≤ q ∧ q ≤ val P / val Y + 1

theorem two_high {Y : List Nat} {m : Nat} (h : Y.length = m + 2) (hY : Dg Y) : ∃ l, l < pB m ∧ val Y = (gd Y (m + 1) * 4294967296 + gd Y m) * pB m + l := by
  refine ⟨val (Y.take m), ?_, ?_⟩
  · have := val_lt (hY.take m)
    rwa [List.length_take, Nat.min_eq_left (by omega)] at this
  · have h1 := val_take_succ Y (m + 1)
    have h2 := val_take_succ Y m
    rw [List.take_of_length_le (by omega)] at h1
    rw [h1, h2, pB_succ]
    grind

theorem three_high {P : List Nat} {m : Nat} (h : P.length = m + 3) (hP : Dg P) : ∃ l, l < pB m ∧ val P = ((gd P (m + 2) * 4294967296 + gd P (m + 1)) * 4294967296 + gd P m) * pB m + l := by
  refine ⟨val (P.take m), ?_, ?_⟩
  · have := val_lt (hP.take m)
    rwa [List.length_take, Nat.min_eq_left (by omega)] at this
  · have h0 := val_take_succ P (m + 2)
    have h1 := val_take_succ P (m + 1)
    have h2 := val_take_succ P m
    rw [List.take_of_length_le (by omega)] at h0
    rw [h0, h1, h2]
    simp only [pB_succ]
    generalize gd P (m + 2) = a
    generalize gd P (m + 1) = b
    generalize gd P m = c
    generalize pB m = d
    clear h0 h1 h2
    grind

theorem g_top {B v1 v0 u2 u1 u0 R l l' : Nat} (hl : l < R) (h0 : v0 < B) (hlt : ((u2 * B + u1) * B + u0) * R + l' < ((v1 * B + v0) * R + l) * B) : u2 ≤ v1 := by
  apply Nat.le_of_not_lt
  intro h
  have h1 : (v1 + 1) * (B * B * R) ≤ u2 * (B * B * R) := Nat.mul_le_mul_right _ h
  have h2 : (v0 + 1) * (R * B) ≤ B * (R * B) := Nat.mul_le_mul_right _ h0
  have h3 : l * B ≤ R * B := Nat.mul_le_mul_right _ (Nat.le_of_lt hl)
  have h4 : ((u2 * B + u1) * B + u0) * R = u2 * (B * B * R) + (u1 * B + u0) * R := by grind
  have h5 : ((v1 * B + v0) * R + l) * B = v1 * (B * B * R) + v0 * (R * B) + l * B := by grind
  have h6 : (v1 + 1) * (B * B * R) = v1 * (B * B * R) + B * (R * B) := by grind
  have h7 : (v0 + 1) * (R * B) = v0 * (R * B) + R * B := by grind
  generalize v1 * (B * B * R) = a1 at *
  generalize u2 * (B * B * R) = a2 at *
  generalize v0 * (R * B) = a3 at *
  generalize (u1 * B + u0) * R = a4 at *
  generalize l * B = a5 at *
  generalize B * (R * B) = a6 at *
  generalize R * B = a7 at *
  omega

theorem g_init {B v1 v0 H u0 R l l' t : Nat} (hl' : l' < R) (h0 : u0 < B) (ht : t * ((v1 * B + v0) * R + l) ≤ (H * B + u0) * R + l') : t * v1 ≤ H := by
  apply Nat.le_of_not_lt
  intro h
  have h1 : (H + 1) * (B * R) ≤ t * v1 * (B * R) := Nat.mul_le_mul_right _ h
  have h2 : (u0 + 1) * R ≤ B * R := Nat.mul_le_mul_right _ h0
  have h4 : t * ((v1 * B + v0) * R + l) = t * v1 * (B * R) + t * (v0 * R) + t * l := by grind
  have h5 : (H * B + u0) * R = H * (B * R) + u0 * R := by grind
  have h6 : (H + 1) * (B * R) = H * (B * R) + B * R := by grind
  have h7 : (u0 + 1) * R = u0 * R + R := by grind
  generalize t * v1 * (B * R) = a1 at *
  generalize t * (v0 * R) = a2 at *
  generalize t * l = a3 at *
  generalize H * (B * R) = a4 at *
  generalize u0 * R = a5 at *
  generalize B * R = a6 at *
  omega

theorem g_step {B v1 v0 H u0 R l l' t q r : Nat} (hl' : l' < R) (hq : q * v1 + r = H) (hc : B ≤ q ∨ r * B + u0 < q * v0)
    (hlt : (H * B + u0) * R + l' < ((v1 * B + v0) * R + l) * B)
    (ht : t * ((v1 * B + v0) * R + l) ≤ (H * B + u0) * R + l') : t < q := by
  apply Nat.lt_of_not_le
  intro h
  have h1 : q * ((v1 * B + v0) * R + l) ≤ t * ((v1 * B + v0) * R + l) := Nat.mul_le_mul_right _ h
  rcases hc with hc | hc
  · have h2 : B * ((v1 * B + v0) * R + l) ≤ q * ((v1 * B + v0) * R + l) := Nat.mul_le_mul_right _ hc
    rw [Nat.mul_comm B] at h2
    generalize q * ((v1 * B + v0) * R + l) = a1 at *
    generalize t * ((v1 * B + v0) * R + l) = a2 at *
    generalize ((v1 * B + v0) * R + l) * B = a3 at *
    generalize (H * B + u0) * R = a4 at *
    omega
  · have h2 : (r * B + u0 + 1) * R ≤ q * v0 * R := Nat.mul_le_mul_right _ hc
    have h3 : q * ((v1 * B + v0) * R + l) = (q * v1) * (B * R) + q * v0 * R + q * l := by grind
    have h4 : (H * B + u0) * R = (q * v1) * (B * R) + (r * B + u0) * R := by rw [← hq]; grind
    have h5 : (r * B + u0 + 1) * R = (r * B + u0) * R + R := by grind
    generalize (q * v1) * (B * R) = a1 at *
    generalize q * v0 * R = a2 at *
    generalize q * l = a3 at *
    generalize (r * B + u0) * R = a4 at *
    generalize t * ((v1 * B + v0) * R + l) = a5 at *
    omega

theorem g_end {B v1 v0 H u0 R l l' q r : Nat} (hl : l < R) (hv : 1 ≤ v1) (hq : q * v1 + r = H) (hc : q * v0 ≤ r * B + u0) (hB : q < B) :
    q ≤ ((H * B + u0) * R + l') / ((v1 * B + v0) * R + l) + 1 := by
  have hR : 0 < R := by omega
  have key : q * ((v1 * B + v0) * R + l) < (H * B + u0) * R + l' + ((v1 * B + v0) * R + l) := by
    have h1 : q * v0 * R ≤ (r * B + u0) * R := Nat.mul_le_mul_right _ hc
    have h2 : q * l ≤ B * l := Nat.mul_le_mul_right _ (by omega)
    have h2' : B * (l + 1) ≤ B * R := Nat.mul_le_mul_left _ hl
    rw [Nat.mul_add] at h2'
    have h3 : 1 * (B * R) ≤ v1 * (B * R) := Nat.mul_le_mul_right _ hv
    have h4 : q * ((v1 * B + v0) * R + l) = (q * v1) * (B * R) + q * v0 * R + q * l := by grind
    have h5 : (H * B + u0) * R = (q * v1) * (B * R) + (r * B + u0) * R := by rw [← hq]; grind
    have h6 : (v1 * B + v0) * R = v1 * (B * R) + v0 * R := by grind
    generalize (q * v1) * (B * R) = a1 at *
    generalize q * v0 * R = a2 at *
    generalize q * l = a3 at *
    generalize (r * B + u0) * R = a4 at *
    generalize v1 * (B * R) = a5 at *
    generalize v0 * R = a6 at *
    generalize B * R = a7 at *
    generalize B * l = a8 at *
    omega
  have hY : 0 < (v1 * B + v0) * R + l := by
    have : 1 * R ≤ (v1 * B + v0) * R := Nat.mul_le_mul_right _ (by
      have : 1 * B ≤ v1 * B := Nat.mul_le_mul_right _ hv
      omega)
    omega
  generalize (v1 * B + v0) * R + l = Y at *
  generalize (H * B + u0) * R + l' = P at *
  cases q with
  | zero => exact Nat.zero_le _
  | succ q =>
    apply Nat.succ_le_succ
    rw [Nat.le_div_iff_mul_le hY]
    rw [Nat.add_mul] at key
    omega

theorem g_break {v1 u2 u1 q r : Nat} (hu : u2 ≤ v1) (h1 : u1 < 4294967296) (hq : q * v1 + r = u2 * 4294967296 + u1) (hr : 4294967296 ≤ r) : q < 4294967296 := by
  apply Nat.lt_of_not_le
  intro h
  have h2 : 4294967296 * v1 ≤ q * v1 := Nat.mul_le_mul_right _ h
  omega

theorem g_div {P Y t : Nat} (h : t = P / Y) : t * Y ≤ P := by rw [h]; exact Nat.div_mul_le_self _ _

set_option maxRecDepth 100000 in
set_option maxHeartbeats 2000000 in
theorem guess_any (p q : Option Addr) (m c d : Nat) (P Y : List Nat) (w : World) (hP : Sl w p (m + 3) c P) (hY : Sl w q (m + 2) d Y) (hm : m ≤ 1099511627775) (hv : gd Y (m + 1) ≠ 0) (hlt : val P < val Y * 4294967296) :
    Calls Tryz.prog 211 #[.slice p (m + 3) c, .slice q (m + 2) d] w fun e w' => (∃ g : Nat, e = .returned (.int .u32 g) ∧ Guess P Y g) ∧ Fr [] w w' := by
  obtain ⟨b1, o1, rfl, _, r1⟩ := hP.rd.open (by rw [hP.len]; omega)
  obtain ⟨b2, o2, rfl, _, r2⟩ := hY.rd.open (by rw [hY.len]; omega)
  rw [hP.len] at r1
  rw [hY.len] at r2
  obtain ⟨l, hl, eY⟩ := two_high hY.len hY.dig
  obtain ⟨l', hl', eP⟩ := three_high hP.len hP.dig
  have d0 := hP.dig.at m
  have d1 := hP.dig.at (m + 1)
  have d2 := hP.dig.at (m + 2)
  have e0 := hY.dig.at m
  have e1 := hY.dig.at (m + 1)
  have cP0 := r1 m (by omega)
  have cP1 := r1 (m + 1) (by omega)
  have cP2 := r1 (m + 2) (by omega)
  have cY0 := r2 m (by omega)
  have cY1 := r2 (m + 1) (by omega)
  clear r1 r2 hP hY
  have G : ∀ g : Nat, (g < 4294967296 ∧ val P / val Y ≤ g ∧ g ≤ val P / val Y + 1) → Guess P Y g := fun g h => h
  rw [eP, eY] at hlt G
  clear eP eY
  generalize gd P m = u0 at *
  generalize gd P (m + 1) = u1 at *
  generalize gd P (m + 2) = u2 at *
  generalize gd Y m = v0 at *
  generalize gd Y (m + 1) = v1 at *
  generalize pB m = R at *
  have hu := g_top hl e0 hlt
  obtain ⟨t, ht⟩ : ∃ t, t = (((u2 * 4294967296 + u1) * 4294967296 + u0) * R + l') / ((v1 * 4294967296 + v0) * R + l) := ⟨_, rfl⟩
  have ht2 := g_div ht
  have hinit := g_init (H := u2 * 4294967296 + u1) hl' d0 ht2
  have HG : Hid (∀ g : Nat, g < 4294967296 → t ≤ g → g ≤ t + 1 → Guess P Y g) := fun g h1 h2 h3 => G g ⟨h1, by rw [← ht]; exact h2, by rw [← ht]; exact h3⟩
  have hv1 : 1 ≤ v1 := by omega
  have HStep : Hid (∀ q r, q * v1 + r = u2 * 4294967296 + u1 → (4294967296 ≤ q ∨ r * 4294967296 + u0 < q * v0) → t < q) := fun q r h1 h2 => g_step hl' h1 h2 hlt ht2
  have HEnd : Hid (∀ q r, q * v1 + r = u2 * 4294967296 + u1 → q * v0 ≤ r * 4294967296 + u0 → q < 4294967296 → q ≤ t + 1) := fun q r h1 h2 h3 => by rw [ht]; exact g_end hl hv1 h1 h2 h3
  have HBr : Hid (∀ q r, q * v1 + r = u2 * 4294967296 + u1 → 4294967296 ≤ r → q < 4294967296) := fun q r h1 h2 => g_break hu d1 h1 h2
  clear G ht ht2 hlt hl hl'
  have h64 : u2 * 4294967296 + u1 < 18446744073709551616 := by omega
  have hor := or64i ((u2 : Int) * 4294967296) (u1 : Int) u2 32 (by omega) (by omega) (by omega) (by omega)
  have hw1 : IntKind.u64.wrap ((u2 : Int) * 4294967296) = (u2 : Int) * 4294967296 := wrap_u64_lt (by omega) (by omega)
  go_enter Tryz.func211, Tryz.ntmps211
  go_wp2_with fail
  go_quiet (fail)
  go_wp2_with fail
  go_quiet (fail)
  go_wp2_with fail
  have hH : ((u2 : Int) * 4294967296 + u1) = ((u2 * 4294967296 + u1 : Nat) : Int) := by omega
  rw [hH]
  clear hH hor hw1
  generalize u2 * 4294967296 + u1 = H at *
  go_quiet (fail)
  generalize hwq : World.drewN _ _ = w1
  have hf1 : Fr [] w w1 := by rw [← hwq]; exact (((Fr.refl _ _).drewN _).drewN _).drewN _
  have cP : w1.cell? ⟨b1, o1 + m, none⟩ = some (dv u0) := by rw [← hwq]; exact cP0
  clear hwq cP0 cP1 cP2 cY0 cY1
  obtain ⟨q0, hq0⟩ : ∃ q0, q0 = H / v1 := ⟨_, rfl⟩
  obtain ⟨r0, hr0⟩ : ∃ r0, r0 = H % v1 := ⟨_, rfl⟩
  have hqr : q0 * v1 + r0 = H := by rw [hq0, hr0, Nat.mul_comm]; exact Nat.div_add_mod _ _
  have hrl : r0 < v1 := by rw [hr0]; exact Nat.mod_lt _ (by omega)
  have htq : t ≤ q0 := by rw [hq0, Nat.le_div_iff_mul_le (by omega)]; exact hinit
  have hql : q0 ≤ H := by rw [hq0]; exact Nat.div_le_self _ _
  have eq1 : IntKind.u64.wrap ((H : Int) / v1) = (q0 : Int) := by rw [hq0, ← Int.natCast_ediv, wrap_u64_lt (by omega) (by have := Nat.div_le_self H v1; omega)]
  have eq2 : (H : Int) % v1 = (r0 : Int) := by rw [hr0, ← Int.natCast_emod]
  rw [eq1, eq2]
  have HQR := Lib.hid hqr
  clear eq1 eq2 hq0 hr0 hqr hinit hv hu
  go_wp2_with fail
  go_loop [9, 10] (fun a b => ∃ q r : Nat, a = .int .u64 q ∧ b = .int .u64 r ∧ q * v1 + r = H ∧ r < 4294967296 ∧ t ≤ q ∧ q ≤ H) (fun a _ => (intOf a).toNat)
  case atStart => exact ⟨q0, r0, rfl, rfl, HQR.out, by omega, htq, hql⟩
  case round =>
    obtain ⟨q, r, rfl, rfl, hqr, hr, htq', hqH⟩ := hrel
    clear htq hql hrl
    have H1 := Lib.hid hqr
    clear hqr HQR
    have hor := or64i ((r : Int) * 4294967296) (u0 : Int) r 32 (by omega) (by omega) (by omega) (by omega)
    have hw1 : IntKind.u64.wrap ((r : Int) * 4294967296) = (r : Int) * 4294967296 := wrap_u64_lt (by omega) (by omega)
    by_cases hA : 4294967296 ≤ q ∨ r * 4294967296 + u0 < q * v0
    · have hlt := HStep.out q r H1.out hA
      have H2 : Hid ((q - 1) * v1 + (r + v1) = H) := by
        show _ = _
        obtain ⟨q', rfl⟩ : ∃ q', q = q' + 1 := ⟨q - 1, by omega⟩
        rw [← H1.out, Nat.add_sub_cancel, Nat.add_mul]
        omega
      have hr2 : 4294967296 ≤ r + v1 → q - 1 < 4294967296 ∧ q - 1 ≤ t + 1 := fun h => by
        have h1 := HBr.out _ _ H2.out h
        refine ⟨h1, HEnd.out _ _ H2.out ?_ h1⟩
        have h2 : (q - 1) * v0 ≤ 4294967296 * v0 := Nat.mul_le_mul_right _ (by omega)
        omega
      have HR2 := Lib.hid hr2
      clear hr2
      have eq1 : (q : Int) - 1 = ((q - 1 : Nat) : Int) := by omega
      have hq1 : IntKind.u64.wrap ((q : Int) - 1) = ((q - 1 : Nat) : Int) := by rw [wrap_u64_lt (by omega) (by omega)]; omega
      by_cases hB : 4294967296 ≤ q
      case' pos =>
        have g1 : ((q : Int) / 4294967296 != 0) = true := by rw [bne_iff_ne]; omega
        have g2 : True := trivial
        have g3 : True := trivial
      case' neg =>
        have g1 : ((q : Int) / 4294967296 != 0) = false := by rw [bne_eq_false_iff_eq]; omega
        have hA' : r * 4294967296 + u0 < q * v0 := by omega
        have hqv := mul_small (show q < 4294967296 by omega) e0
        have g2 : IntKind.u64.wrap ((q : Int) * v0) = (q : Int) * v0 := by rw [← Int.natCast_mul]; exact wrap_u64_lt (by omega) (by omega)
        have g3 : decide ((r : Int) * 4294967296 + u0 < (q : Int) * v0) = true := by rw [← Int.natCast_mul]; simp only [decide_eq_true_eq]; omega
        clear hqv
      all_goals
        clear hA hB eq1
        by_cases hC : 4294967296 ≤ r + v1
        · have hend := HR2.out hC
          have g4 : (((r : Int) + v1) / 4294967296 != 0) = true := by rw [bne_iff_ne]; omega
          have hG := Lib.hid (HG.out (q - 1) hend.1 (by omega) hend.2)
          go_wp2
          go_ret
          exact ⟨⟨q - 1, rfl, hG.out⟩, hf1⟩
        · have g4 : (((r : Int) + v1) / 4294967296 != 0) = false := by rw [bne_eq_false_iff_eq]; omega
          go_wp2
          go_round
          case rel => exact ⟨q - 1, r + v1, rfl, rfl, H2.out, by omega, by omega, by omega⟩
          case measure => simp [intOf]; omega
    · have hqB : q < 4294967296 := by omega
      have hc : q * v0 ≤ r * 4294967296 + u0 := by omega
      have hG := Lib.hid (HG.out q hqB htq' (HEnd.out _ _ H1.out hc hqB))
      have hqv := mul_small hqB e0
      have g1 : ((q : Int) / 4294967296 != 0) = false := by rw [bne_eq_false_iff_eq]; omega
      have g2 : IntKind.u64.wrap ((q : Int) * v0) = (q : Int) * v0 := by rw [← Int.natCast_mul]; exact wrap_u64_lt (by omega) (by omega)
      have g3 : decide ((r : Int) * 4294967296 + u0 < (q : Int) * v0) = false := by rw [← Int.natCast_mul]; simp only [decide_eq_false_iff_not]; omega
      clear hA hqv hc
      go_wp2
      go_ret
      exact ⟨⟨q, rfl, hG.out⟩, hf1⟩

theorem subp_step {zs ys Z : List Nat} {q k C D C' : Nat} (hZ : Z.length = k) (h : val Z + q * val (ys.take k) = val (zs.take k) + pB k * C) (hD : D + q * gd ys k + C = gd zs k + 4294967296 * C') :
    val (Z ++ [D]) + q * val (ys.take (k + 1)) = val (zs.take (k + 1)) + pB (k + 1) * C' := by
  rw [val_append, val_one, hZ, val_take_succ, val_take_succ, pB_succ]
  have e : pB k * (D + q * gd ys k + C) = pB k * (gd zs k + 4294967296 * C') := by rw [hD]
  grind

set_option maxRecDepth 100000 in
set_option maxHeartbeats 2000000 in
theorem subProduct_any (g o m c d x : Nat) (q : Option Addr) (L : List Value) (zs ys : List Nat) (w : World) (hb : Blk w g L) (hz : Sg L o zs) (hzd : Dg zs) (hzl : zs.length = m + 1)
    (hy : Sl w q m d ys) (hq : 0 < m → ∀ a, q = some a → a.block ≠ g) (hx : x < 4294967296) (hm : m ≤ 1099511627775) :
    Calls Tryz.prog 212 #[.slice (some ⟨g, o, none⟩) (m + 1) c, .slice q m d, .int .u32 x] w fun e w' =>
      ∃ Z r, e = .returned (.bool (decide (gd zs m < r))) ∧ Z.length = m ∧ Dg Z ∧ val Z + x * val ys = val (zs.take m) + pB m * r ∧ Blk w' g (spl L o Z) ∧ Fr [g] w w' := by
  have hyl := hy.len
  go_enter Tryz.func212, Tryz.ntmps212
  go_wp2
  go_loopw [7, 13] (fun s t wr => ∃ (k C : Nat) (Z : List Nat), k ≤ m ∧ s = .int .u64 C ∧ t = .int .i64 k ∧ C ≤ 4294967296 ∧ Z.length = k ∧ Dg Z ∧ val Z + x * val (ys.take k) = val (zs.take k) + pB k * C ∧ Blk wr g (spl L o Z) ∧ Fr [g] w wr) (fun _ t _ => m - (intOf t).toNat)
  case atStart => exact ⟨0, 0, [], Nat.zero_le _, rfl, rfl, by omega, rfl, Dg.nil, rfl, by rw [spl_nil]; exact hb, Fr.refl _ _⟩
  case round =>
    obtain ⟨k, C, Z, hk, rfl, rfl, hC, hZ, hZd, hv, hB, hf⟩ := hrel
    have HZ := Lib.hid hZ
    have Hv := Lib.hid hv
    have HL := hz.1
    clear hZ hv
    by_cases hlt : k < m
    · obtain ⟨b1, o1, rfl, _, m1⟩ := (hy.keep hf (by intro a ha _; simpa using hq (by omega) a ha)).rd.open (by omega)
      have c1 := m1 k (by omega)
      have c2 : wr.cell? ⟨g, o + k, none⟩ = some (dv (gd zs k)) := hB.cell (by rw [spl_at (by rw [HZ.out]; omega), if_neg (by omega), if_neg (by rw [HZ.out]; omega)]; exact hz.2 k (by omega))
      have c3 := hB.free (o + k)
      have d1 := hy.dig.at k
      have d2 := hzd.at k
      have HT : Hid (∀ D C', D + x * gd ys k + C = gd zs k + 4294967296 * C' → val (Z ++ [D]) + x * val (ys.take (k + 1)) = val (zs.take (k + 1)) + pB (k + 1) * C') := fun D C' => subp_step HZ.out Hv.out
      have HW := Lib.hid (hB.set (o + k))
      have HS : Hid (∀ v, (spl L o Z).set (o + k) (dv v) = spl L o (Z ++ [v])) := fun v => by
        have := spl_set (L := L) (o := o) (Z := Z) (by rw [HZ.out]; omega) v
        rwa [HZ.out] at this
      have hbd := mul_small hx d1
      generalize gd ys k = y at *
      generalize gd zs k = z at *
      obtain ⟨pr, hpr⟩ : ∃ pr, pr = x * y := ⟨_, rfl⟩
      have hpr' : (x : Int) * y = (pr : Int) := by rw [hpr]; simp
      rw [← hpr] at hbd HT
      clear hpr m1
      by_cases hlow : z < (C + pr) % 4294967296
      case' pos =>
        have g1 : decide ((z : Int) < ((C : Int) + pr) % 4294967296) = true := by simp only [decide_eq_true_eq]; omega
        obtain ⟨D, hD⟩ : ∃ D, D = z + 4294967296 - (C + pr) % 4294967296 := ⟨_, rfl⟩
        obtain ⟨C', hC'⟩ : ∃ C', C' = (C + pr) / 4294967296 + 1 := ⟨_, rfl⟩
        have g3 : ((C : Int) + pr) / 4294967296 + 1 = (C' : Int) := by omega
      case' neg =>
        have g1 : decide ((z : Int) < ((C : Int) + pr) % 4294967296) = false := by simp only [decide_eq_false_iff_not]; omega
        obtain ⟨D, hD⟩ : ∃ D, D = z - (C + pr) % 4294967296 := ⟨_, rfl⟩
        obtain ⟨C', hC'⟩ : ∃ C', C' = (C + pr) / 4294967296 := ⟨_, rfl⟩
        have g3 : ((C : Int) + pr) / 4294967296 = (C' : Int) := by omega
      all_goals
        have g2 : IntKind.u32.wrap ((z : Int) - ((C : Int) + pr) % 4294967296) = (D : Int) := by rw [IntKind.wrap_u32]; omega
        have hDl : D < 4294967296 := by omega
        have hCl : C' ≤ 4294967296 := by omega
        have HT2 := Lib.hid (HT.out D C' (by omega))
        clear hD hC' hlow
        go_wp2
        go_roundw
        case rel =>
          exact ⟨k + 1, C', Z ++ [D], by omega, by rw [← g3], by go_num, hCl, by simp [HZ.out], hZd.append (Dg.one hDl), HT2.out, by rw [← HS.out]; exact HW.out _, hf.setCell _ _ (by simp)⟩
        case measure => simp [intOf]; omega
    · obtain rfl : k = m := by omega
      have c2 : wr.cell? ⟨g, o + k, none⟩ = some (dv (gd zs k)) := hB.cell (by rw [spl_at (by rw [HZ.out]; omega), if_neg (by omega), if_neg (by rw [HZ.out]; omega)]; exact hz.2 k (by omega))
      have hv := Hv.out
      rw [List.take_of_length_le (l := ys) (by omega)] at hv
      have HV2 := Lib.hid hv
      have d2 := hzd.at k
      generalize hzz : gd zs k = z at *
      have HZZ := Lib.hid hzz
      clear hv hzz
      go_wp2
      go_ret
      exact ⟨Z, C, by rw [HZZ.out]; rfl, HZ.out, hZd, HV2.out, hB, hf⟩

end Go.Proofs.YtjjdbhohjphcoaaGreatDoor
