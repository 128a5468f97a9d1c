/- divideByDigit, raiseBits, lowerBits. -/
import Derived.Test.YtfjhdhmneknmkaaMul2
import Derived.StillTailTactics
namespace Go.Proofs.Ytfjhdhmneknmkaa
open Go.RowKit

/-- The block of a slice, if it has any digits. -/
def pbn (p : Option Addr) (n : Nat) : List Nat := if n = 0 then [] else (p.map (·.block)).toList
theorem Ow.pbn_ge {w : World} {base : Nat} {p : Option Addr} {n c : Nat} {xs : List Nat} (h : Ow w base p n c xs) : ∀ x, x ∈ pbn p n → base ≤ x := by
  intro x hx
  unfold pbn at hx
  split at hx
  · simp at hx
  · rcases h.own with rfl | ⟨g, L, rfl, h1, _⟩
    · have := h.sl.len; simp at this; omega
    · simp at hx; omega
/-- A change of a slice of the call's own is none of what was there before. -/
theorem Ow.frame {w0 w w' : World} {base : Nat} {p : Option Addr} {n c : Nat} {xs : List Nat} (h : Ow w base p n c xs) (hb : w0.heap.size ≤ base) (f : Fr [] w0 w) (f2 : Fr (pbn p n) w w') : Fr [] w0 w' :=
  f.trans f2 (fun x hx hl => by have := h.pbn_ge x hx; omega)

theorem drop_cons_gd {xs : List Nat} {k : Nat} (h : k < xs.length) : xs.drop k = gd xs k :: xs.drop (k + 1) := by
  rw [List.drop_eq_getElem_cons h, gd_lt h]

/-- One step of a division by a digit. -/
theorem divd_step {xs Q : List Nat} {k d R : Nat} (hk : k < xs.length) (h : val (xs.drop (k + 1)) = val Q * d + R) :
    val (xs.drop k) = val ((R * 4294967296 + gd xs k) / d :: Q) * d + (R * 4294967296 + gd xs k) % d := by
  rw [drop_cons_gd hk, val, val, h]
  have e := Nat.div_add_mod (R * 4294967296 + gd xs k) d
  rw [Nat.add_mul, Nat.mul_assoc 4294967296 (val Q) d, Nat.mul_comm ((R * 4294967296 + gd xs k) / d) d]
  generalize val Q * d = z at *
  generalize d * ((R * 4294967296 + gd xs k) / d) = y at *
  generalize (R * 4294967296 + gd xs k) % d = u at *
  omega

theorem div_small {R x d : Nat} (hR : R < d) (hx : x < 4294967296) : (R * 4294967296 + x) / d < 4294967296 := by
  have hd : 0 < d := by omega
  rw [Nat.div_lt_iff_lt_mul hd]
  have : (R + 1) * 4294967296 ≤ d * 4294967296 := Nat.mul_le_mul_right _ hR
  omega

set_option maxRecDepth 100000 in
set_option maxHeartbeats 1000000 in
theorem divd_blk (g n c d : Nat) (L : List Value) (xs : List Nat) (w : World) (hb : Blk w g L) (hz : Sg L 0 xs) (hzd : Dg xs) (hzl : xs.length = n) (hd : 0 < d) (hd2 : d < 4294967296) (hn : n ≤ 1099511627776) :
    Calls Try.prog 93 #[.slice (some ⟨g, 0, none⟩) n c, .int .u32 d] w fun e w' =>
      e = .returned (.int .u32 (val xs % d : Nat)) ∧ ∃ Q, Q.length = n ∧ Dg Q ∧ val Q = val xs / d ∧ Blk w' g (spl L 0 Q) ∧ Fr [g] w w' := by
  go_enter Try.func93, Try.ntmps93
  go_wp2
  go_loopw [5, 6] (fun s t wr => ∃ (k R : Nat) (Q : List Nat), k ≤ n ∧ s = .int .u64 R ∧ t = .int .i64 ((k : Int) - 1) ∧ R < d ∧ Q.length = n - k ∧ Dg Q ∧ val (xs.drop k) = val Q * d + R ∧ Blk wr g (spl L k Q) ∧ Fr [g] w wr) (fun _ t _ => (intOf t + 1).toNat)
  case atStart => exact ⟨n, 0, [], Nat.le_refl _, rfl, rfl, hd, by simp, Dg.nil, by rw [List.drop_of_length_le (by omega)]; simp [val], by rw [spl_nil]; exact hb, Fr.refl _ _⟩
  case round =>
    obtain ⟨k, R, Q, hk, rfl, rfl, hR, hQ, hQd, hv, hB, hf⟩ := hrel
    have HQ := Lib.hid hQ
    have Hv := Lib.hid hv
    have HL := hz.1
    clear hQ hv
    cases k with
    | zero =>
      rw [show (((0 : Nat) : Int) - 1) = -1 from rfl]
      have hv := Hv.out
      rw [List.drop_zero] at hv
      have e1 : val xs % d = R := by rw [hv, Nat.mul_comm, Nat.mul_add_mod, Nat.mod_eq_of_lt hR]
      have e2 : val Q = val xs / d := by rw [hv, Nat.mul_comm, Nat.mul_add_div hd, Nat.div_eq_of_lt hR]; rfl
      rw [Nat.sub_zero] at HQ
      have H1 := Lib.hid e1
      have H2 := Lib.hid e2
      clear hv e1 e2
      go_wp2
      go_ret
      rw [H1.out]
      exact ⟨rfl, Q, HQ.out, hQd, H2.out, hB, hf⟩
    | succ k =>
      rw [show (((k + 1 : Nat) : Int) - 1) = k from by omega]
      have c2 : wr.cell? ⟨g, k, none⟩ = some (dv (gd xs k)) := hB.cell (by rw [spl_at (by rw [HQ.out]; omega), if_pos (by omega)]; have := hz.2 k (by omega); rwa [Nat.zero_add] at this)
      have c3 := hB.free k
      have d2 := hzd.at k
      have HT := Lib.hid (divd_step (show k < xs.length by omega) Hv.out)
      have HD := Lib.hid (div_small hR d2)
      have HW := Lib.hid (hB.set k)
      have HS : Hid (∀ v, (spl L (k + 1) Q).set k (dv v) = spl L k (v :: Q)) := fun v => spl_down (by rw [HQ.out]; omega) v
      have hor := or64i ((R : Int) * 4294967296) (gd xs k : Nat) R 32 (by omega) (by omega) (by omega) (by omega)
      have hw1 : IntKind.u64.wrap ((R : Int) * 4294967296) = (R : Int) * 4294967296 := wrap_u64_lt (by omega) (by omega)
      generalize gd xs k = x at *
      go_wp2
      go_roundw
      case rel =>
        have hD := HD.out
        have e0 : (R : Int) * 4294967296 + x = ((R * 4294967296 + x : Nat) : Int) := by omega
        have e1 : ((R : Int) * 4294967296 + x) / d = (((R * 4294967296 + x) / d : Nat) : Int) := by rw [e0]; exact (Int.natCast_ediv _ _).symm
        have e2 : ((R : Int) * 4294967296 + x) % d = (((R * 4294967296 + x) % d : Nat) : Int) := by rw [e0]; exact (Int.natCast_emod _ _).symm
        have ht := HT.out
        have hml : (R * 4294967296 + x) % d < d := Nat.mod_lt _ hd
        rw [e1, e2]
        clear HT e0 e1 e2 HD
        generalize (R * 4294967296 + x) / d = qq at *
        generalize (R * 4294967296 + x) % d = rr at *
        have e3 : (qq : Int) % 4294967296 = qq := by omega
        rw [e3]
        refine ⟨k, rr, qq :: Q, by omega, rfl, rfl, hml, by simp [HQ.out]; omega, Dg.cons hD hQd, ht, ?_, hf.setCell _ _ (by simp)⟩
        rw [← HS.out]
        exact HW.out _
      case measure => simp [intOf]


theorem divd_any (p : Option Addr) (n c d base : Nat) (xs : List Nat) (w : World) (ho : Ow w base p n c xs) (hd : 0 < d) (hd2 : d < 4294967296) (hn : n ≤ 1099511627776) :
    Calls Try.prog 93 #[.slice p n c, .int .u32 d] w fun e w' =>
      e = .returned (.int .u32 (val xs % d : Nat)) ∧ ∃ Q, Q.length = n ∧ val Q = val xs / d ∧ Ow w' base p n c Q ∧ Fr (pbn p n) w w' := by
  have hs := ho.sl
  by_cases hxs : xs = []
  · subst hxs
    have hn0 : n = 0 := hs.len.symm
    subst hn0
    have e1 : val [] % d = 0 := by simp [val]
    rw [e1]
    have H1 := Lib.hid ho
    clear hs ho e1
    go_enter Try.func93, Try.ntmps93
    go_wp2
    go_loop [5, 6] (fun r s => r = .int .u64 0 ∧ s = .int .i64 (-1)) (fun _ _ => 0)
    case atStart => exact ⟨rfl, rfl⟩
    case round =>
      obtain ⟨rfl, rfl⟩ := hrel
      go_wp2
      go_ret
      exact ⟨rfl, by simp [val], H1.out, Fr.refl _ _⟩
  · obtain ⟨g, L, rfl, h1, hb, hl, ht⟩ := ho.own.resolve_left hxs
    refine (divd_blk g n c d L xs w hb ht hs.dig hs.len hd hd2 hn).mono ?_
    rintro e w' ⟨h2, Q, h3, h4, h5, h6, h7⟩
    have hle : 0 + Q.length ≤ L.length := by rw [h3]; have := hs.le; omega
    have hn0 : n ≠ 0 := fun e => hxs (List.eq_nil_of_length_eq_zero (hs.len.trans e))
    have h7' : Fr (pbn (some ⟨g, 0, none⟩) n) w w' := by
      unfold pbn
      rw [if_neg hn0]
      exact h7
    refine ⟨h2, Q, h3, h5, ⟨⟨h3, hs.le, hs.cap, hs.nil, (spl_sg hle).rd h6, h4⟩, Or.inr ⟨g, _, rfl, h1, h6, ?_, spl_sg hle⟩⟩, h7'⟩
    rw [spl_len hle, hl]


theorem shl_parts {x s : Nat} (hs : s ≤ 31) (hx : x < 4294967296) : x * 2 ^ s = x % 2 ^ (32 - s) * 2 ^ s + 4294967296 * (x / 2 ^ (32 - s)) ∧ x % 2 ^ (32 - s) * 2 ^ s + 2 ^ s ≤ 4294967296 ∧ x / 2 ^ (32 - s) < 2 ^ s := by
  have hp : 2 ^ (32 - s) * 2 ^ s = 4294967296 := by rw [← Nat.pow_add, Nat.sub_add_cancel (by omega)]
  have hm := Nat.div_add_mod x (2 ^ (32 - s))
  have hl := Nat.mod_lt x (Nat.two_pow_pos (32 - s))
  refine ⟨?_, ?_, ?_⟩
  · have e : x * 2 ^ s = (2 ^ (32 - s) * (x / 2 ^ (32 - s)) + x % 2 ^ (32 - s)) * 2 ^ s := by rw [hm]
    rw [e, Nat.add_mul, Nat.mul_right_comm, hp]
    omega
  · have : (x % 2 ^ (32 - s) + 1) * 2 ^ s ≤ 2 ^ (32 - s) * 2 ^ s := Nat.mul_le_mul_right _ hl
    rw [Nat.add_mul, hp] at this
    omega
  · rw [Nat.div_lt_iff_lt_mul (Nat.two_pow_pos _), Nat.mul_comm, hp]
    exact hx

/-- One step of a shift to the left. -/
theorem raise_step {xs Z : List Nat} {k s C : Nat} (hZ : Z.length = k) (hs : s ≤ 31) (hx : gd xs k < 4294967296) (h : val Z + pB k * C = val (xs.take k) * 2 ^ s) :
    val (Z ++ [gd xs k % 2 ^ (32 - s) * 2 ^ s + C]) + pB (k + 1) * (gd xs k / 2 ^ (32 - s)) = val (xs.take (k + 1)) * 2 ^ s := by
  obtain ⟨h1, _, _⟩ := shl_parts hs hx
  rw [val_append, val_one, hZ, val_take_succ, pB_succ, Nat.add_mul, ← h, Nat.mul_assoc (pB k), h1]
  rw [Nat.mul_add, Nat.mul_add, Nat.mul_comm 4294967296 (pB k), Nat.mul_assoc (pB k) 4294967296]
  omega

set_option maxRecDepth 100000 in
set_option maxHeartbeats 1000000 in
theorem raiseBits_any (p : Option Addr) (n c s : Nat) (xs : List Nat) (w : World) (h : Sl w p n c xs) (hs : s ≤ 31) (hn : n ≤ 1099511627775) :
    Calls Try.prog 99 #[.slice p n c, .int .i64 s] w fun e w' =>
      ∃ g Z, e = .returned (.slice (some ⟨g, 0, none⟩) (n + 1) (n + 1)) ∧ w.heap.size ≤ g ∧ Blk w' g (Z.map dv) ∧ Z.length = n + 1 ∧ Dg Z ∧ val Z = val xs * 2 ^ s ∧ Fr [] w w' := by
  obtain ⟨i0, hi, hz0, hz1, hz2⟩ := info_parts Try.infoU
  have hx := h.len
  go_enter Try.func99, Try.ntmps99
  go_wp2_with (at_make; refine wpList_make_full _ rfl _ _ 22 rfl 0 57 i0 (.int .u32 0) 1 Try.underlying22 hi hz0 hz1 _ _ _ _ (n + 1) rfl rfl (by simp) (by simp) (by rw [hz2]; omega) (by unfold maxLen; omega) (Nat.zero_le _) ?_)
  intro w0 hown hgrow
  have hB0 := blk_of_made hown
  have hf0 : Fr [] w w0 := (Fr.refl _ _).grown hgrow (by simp)
  clear hown hgrow
  have hg0 := hB0.lt
  generalize hg : w.heap.size = g at *
  have HG := Lib.hid hg
  clear hg
  go_wp2
  go_loopw [6, 15] (fun r t wr => ∃ (k C : Nat) (Z : List Nat), k ≤ n ∧ r = .int .u32 C ∧ t = .int .i64 k ∧ C < 2 ^ s ∧ Z.length = k ∧ Dg Z ∧ val Z + pB k * C = val (xs.take k) * 2 ^ s ∧ Fb wr g (n + 1) Z ∧ Fr [] w wr) (fun _ t _ => n - (intOf t).toNat)
  case atStart => exact ⟨0, 0, [], Nat.zero_le _, rfl, rfl, Nat.two_pow_pos _, rfl, Dg.nil, by simp [val], Fb.start hB0, hf0⟩
  case round =>
    obtain ⟨k, C, Z, hk, rfl, rfl, hC, hZ, hZd, hv, hB, hf⟩ := hrel
    have HZ := Lib.hid hZ
    have Hv := Lib.hid hv
    have HC := Lib.hid hC
    have hp31 : 2 ^ s ≤ 2 ^ 31 := Nat.pow_le_pow_right (by decide) hs
    have hC2 : C < 4294967296 := by omega
    clear hZ hv hB0 hf0 hC hp31
    by_cases hlt : k < n
    · obtain ⟨b1, o1, rfl, _, m1⟩ := (h.kept hf).rd.open (by omega)
      have c1 := m1 k (by omega)
      have c3 := hB.free k
      have c4 := hB.cell (show k < n + 1 by omega) (by rw [HZ.out]; exact Nat.le_refl _)
      have d1 := h.dig.at k
      have HT := Lib.hid (raise_step HZ.out hs d1 Hv.out)
      have HP := Lib.hid (shl_parts hs d1)
      have HW := Lib.hid (hB.set (show k < n + 1 by omega) HZ.out)
      clear m1
      generalize gd xs k = x at *
      go_wp2
      go_roundw
      case rel =>
        obtain ⟨p1, p2, p3⟩ := HP.out
        have hc := HC.out
        have ht := HT.out
        have ed : (x : Int) / 2 ^ (32 - s) = ((x / 2 ^ (32 - s) : Nat) : Int) := by simp
        have em : (x : Int) * 2 ^ s % 4294967296 = ((x % 2 ^ (32 - s) * 2 ^ s : Nat) : Int) := by
          have : (x : Int) * 2 ^ s = ((x * 2 ^ s : Nat) : Int) := by simp
          rw [this, p1]
          generalize x % 2 ^ (32 - s) * 2 ^ s = y at *
          generalize 2 ^ s = z at *
          omega
        have ho : bits .or .u32 ((x % 2 ^ (32 - s) * 2 ^ s : Nat) : Int) (C : Int) = ((x % 2 ^ (32 - s) * 2 ^ s + C : Nat) : Int) := by
          rw [or32i _ _ (x % 2 ^ (32 - s)) s rfl (by omega) (by omega) (by omega)]
          omega
        rw [ed, em, ho]
        exact ⟨k + 1, _, Z ++ [x % 2 ^ (32 - s) * 2 ^ s + C], by omega, rfl, by go_num, p3, by simp [HZ.out], hZd.append (Dg.one (by omega)), ht, HW.out _, hf.setCell _ _ (by have := HG.out; simp; omega)⟩
      case measure => simp [intOf]; omega
    · obtain rfl : k = n := by omega
      have hv := Hv.out
      rw [List.take_of_length_le (by omega)] at hv
      have c3 := hB.free k
      have c4 := hB.cell (show k < k + 1 by omega) (by rw [HZ.out]; exact Nat.le_refl _)
      have HW := Lib.hid ((hB.set (show k < k + 1 by omega) HZ.out C).full (by simp [HZ.out]))
      have HV2 : Hid (val (Z ++ [C]) = val xs * 2 ^ s) := by show _ = _; rw [val_append, val_one, HZ.out, hv]
      clear hv
      go_wp2
      go_ret
      exact ⟨g, Z ++ [C], rfl, by rw [HG.out]; exact Nat.le_refl _, HW.out, by simp [HZ.out], hZd.append (Dg.one hC2), HV2.out, hf.setCell _ _ (by have := HG.out; simp; omega)⟩

theorem shr_parts {x y s : Nat} (hs : s ≤ 31) (hx : x < 4294967296) :
    y * 2 ^ (32 - s) % 4294967296 = y % 2 ^ s * 2 ^ (32 - s) ∧ x / 2 ^ s < 2 ^ (32 - s) ∧ y % 2 ^ s * 2 ^ (32 - s) + 2 ^ (32 - s) ≤ 4294967296 ∧ (y % 2 ^ s * 2 ^ (32 - s)) * 2 ^ s = 4294967296 * (y % 2 ^ s) := by
  have hp : 2 ^ (32 - s) * 2 ^ s = 4294967296 := by rw [← Nat.pow_add, Nat.sub_add_cancel (by omega)]
  have hp' : 2 ^ s * 2 ^ (32 - s) = 4294967296 := by rw [Nat.mul_comm]; exact hp
  have hl := Nat.mod_lt y (Nat.two_pow_pos s)
  refine ⟨?_, ?_, ?_, ?_⟩
  · rw [← hp', Nat.mul_mod_mul_right]
  · rw [Nat.div_lt_iff_lt_mul (Nat.two_pow_pos _), hp]; exact hx
  · have : (y % 2 ^ s + 1) * 2 ^ (32 - s) ≤ 2 ^ s * 2 ^ (32 - s) := Nat.mul_le_mul_right _ hl
    rw [Nat.add_mul, hp'] at this
    omega
  · rw [Nat.mul_assoc, hp, Nat.mul_comm]

/-- One step of a shift to the right. -/
theorem lower_step {xs Z : List Nat} {k s r : Nat} (hZ : Z.length = k) (hs : s ≤ 31) (hx : gd xs k < 4294967296) (h : 2 ^ s * val Z + r = val (xs.take k) + pB k * (gd xs k % 2 ^ s)) :
    2 ^ s * val (Z ++ [gd xs k / 2 ^ s + gd xs (k + 1) % 2 ^ s * 2 ^ (32 - s)]) + r = val (xs.take (k + 1)) + pB (k + 1) * (gd xs (k + 1) % 2 ^ s) := by
  obtain ⟨_, _, _, h4⟩ := shr_parts (y := gd xs (k + 1)) hs hx
  have hm := Nat.div_add_mod (gd xs k) (2 ^ s)
  rw [val_append, val_one, hZ, val_take_succ, pB_succ, Nat.mul_add, Nat.mul_left_comm (2 ^ s) (pB k), Nat.mul_add (2 ^ s), Nat.mul_comm (2 ^ s) (gd xs (k + 1) % 2 ^ s * 2 ^ (32 - s)), h4]
  have e : pB k * (2 ^ s * (gd xs k / 2 ^ s) + gd xs k % 2 ^ s) = pB k * gd xs k := by rw [hm]
  rw [Nat.mul_add] at e
  rw [Nat.mul_add (pB k), Nat.mul_comm 4294967296 (pB k), Nat.mul_assoc (pB k) 4294967296]
  omega

theorem lower_end {xs Z : List Nat} {n s : Nat} (hn : xs.length ≤ n) (h : 2 ^ s * val Z + gd xs 0 % 2 ^ s = val (xs.take n) + pB n * (gd xs n % 2 ^ s)) : val Z = val xs / 2 ^ s := by
  rw [gd_ge hn, Nat.zero_mod, Nat.mul_zero, List.take_of_length_le hn] at h
  rw [Nat.add_zero] at h
  rw [← h, Nat.mul_add_div (Nat.two_pow_pos _), Nat.div_eq_of_lt (Nat.mod_lt _ (Nat.two_pow_pos _))]
  rfl

set_option maxRecDepth 100000 in
set_option maxHeartbeats 1000000 in
theorem lowerBits_any (p : Option Addr) (n c s : Nat) (xs : List Nat) (w : World) (h : Sl w p n c xs) (hs : s ≤ 31) (hn : n ≤ 1099511627775) :
    Calls Try.prog 98 #[.slice p n c, .int .i64 s] w fun e w' =>
      ∃ g Z, e = .returned (.slice (some ⟨g, 0, none⟩) n n) ∧ w.heap.size ≤ g ∧ Blk w' g (Z.map dv) ∧ Z.length = n ∧ Dg Z ∧ val Z = val xs / 2 ^ s ∧ Fr [] w w' := by
  obtain ⟨i0, hi, hz0, hz1, hz2⟩ := info_parts Try.infoU
  have hx := h.len
  go_enter Try.func98, Try.ntmps98
  go_wp2_with (at_make; refine wpList_make_full _ rfl _ _ 22 rfl 0 57 i0 (.int .u32 0) 1 Try.underlying22 hi hz0 hz1 _ _ _ _ n rfl rfl (by simp) (by simp) (by rw [hz2]; omega) (by unfold maxLen; omega) (Nat.zero_le _) ?_)
  intro w0 hown hgrow
  have hB0 := blk_of_made hown
  have hf0 : Fr [] w w0 := (Fr.refl _ _).grown hgrow (by simp)
  clear hown hgrow
  have hg0 := hB0.lt
  generalize hg : w.heap.size = g at *
  have HG := Lib.hid hg
  clear hg
  go_wp2
  go_loopw [13] (fun t wr => ∃ (k : Nat) (Z : List Nat), k ≤ n ∧ t = .int .i64 k ∧ Z.length = k ∧ Dg Z ∧ 2 ^ s * val Z + gd xs 0 % 2 ^ s = val (xs.take k) + pB k * (gd xs k % 2 ^ s) ∧ Fb wr g n Z ∧ Fr [] w wr) (fun t _ => n - (intOf t).toNat)
  case atStart => exact ⟨0, [], Nat.zero_le _, rfl, rfl, Dg.nil, by simp [val, pB_zero], Fb.start hB0, hf0⟩
  case round =>
    obtain ⟨k, Z, hk, rfl, hZ, hZd, hv, hB, hf⟩ := hrel
    have HZ := Lib.hid hZ
    have Hv := Lib.hid hv
    clear hZ hv hB0 hf0
    by_cases hlt : k < n
    · obtain ⟨b1, o1, rfl, _, m1⟩ := (h.kept hf).rd.open (by omega)
      have c1 := m1 k (by omega)
      have c3 := hB.free k
      have c4 := hB.cell hlt (by rw [HZ.out]; exact Nat.le_refl _)
      have d1 := h.dig.at k
      have d2 := h.dig.at (k + 1)
      have HT := Lib.hid (lower_step HZ.out hs d1 Hv.out)
      have HP := Lib.hid (shr_parts (y := gd xs (k + 1)) hs d1)
      have HW := Lib.hid (hB.set hlt HZ.out)
      clear m1
      generalize gd xs k = x at *
      go_wp2_with fail
      have hfq : Fr [] w ({ wr with drawn := wr.drawn + 1 } : World) := hf.drew
      have c1' : ({ wr with drawn := wr.drawn + 1 } : World).cell? ⟨b1, o1 + k, none⟩ = some (dv x) := c1
      have c3' : ({ wr with drawn := wr.drawn + 1 } : World).frozen? ⟨g, k, none⟩ = false := c3
      have c4' : ({ wr with drawn := wr.drawn + 1 } : World).cell? ⟨g, k, none⟩ = some (dv 0) := c4
      have HW' : Hid (∀ v : Nat, Fb (({ wr with drawn := wr.drawn + 1 } : World).setCell ⟨g, k, none⟩ (dv v)) g n (Z ++ [v])) := HW
      refine wp_region_still_tail 15 (by kernel_rfl) (by kernel_rfl) ?_
      generalize ({ wr with drawn := wr.drawn + 1 } : World) = wq at *
      clear c1 c3 c4 HW hf hB
      simp only [List.take_succ_cons, List.take_zero, List.drop_succ_cons, List.drop_zero]
      have hk1 : IntKind.i64.wrap ((k : Int) + 1) = (k : Int) + 1 := IntWalk.i64_in _ (by omega)
      have hs1 : IntKind.i64.wrap (32 - (s : Int)) = ((32 - s : Nat) : Int) := by rw [IntWalk.i64_in _ (by omega)]; omega
      iterate 8 still_step
      still_call ((digit_any (some ⟨b1, o1, none⟩) n c ((k : Int) + 1) xs wq (h.kept hfq) (by omega) (by omega) (by omega)).mono (fun _ _ h => ⟨h.1, h.2.symm⟩))
      rw [show ((k : Int) + 1).toNat = k + 1 by omega]
      iterate 6 still_step
      refine wpStill_nil ?_
      have eD : bits .or .u32 ((x : Int) / 2 ^ s) (IntKind.u32.wrap (IntKind.u64.wrap ((gd xs (k + 1) : Nat) * 2 ^ (32 - s)))) = ((x / 2 ^ s + gd xs (k + 1) % 2 ^ s * 2 ^ (32 - s) : Nat) : Int) := by
        obtain ⟨p1, p2, p3, _⟩ := HP.out
        have hp : 2 ^ (32 - s) ≤ 2 ^ 32 := Nat.pow_le_pow_right (by decide) (by omega)
        have h1 : ((gd xs (k + 1) : Nat) : Int) * 2 ^ (32 - s) = ((gd xs (k + 1) * 2 ^ (32 - s) : Nat) : Int) := by simp
        have h2 : gd xs (k + 1) * 2 ^ (32 - s) ≤ 4294967295 * 4294967296 := Nat.mul_le_mul (by omega) (by simpa using hp)
        have h3 : (x : Int) / 2 ^ s = ((x / 2 ^ s : Nat) : Int) := by simp
        rw [h1, wrap_u64_nat, wrap_u32_nat, Nat.mod_eq_of_lt (a := gd xs (k + 1) * 2 ^ (32 - s)) (by omega), p1, h3]
        exact or32j _ _ _ _ rfl p2 (by omega)
      have hDl : x / 2 ^ s + gd xs (k + 1) % 2 ^ s * 2 ^ (32 - s) < 4294967296 := by
        obtain ⟨_, p2, p3, _⟩ := HP.out
        omega
      rw [eD]
      have ht := HT.out
      clear HT HP eD hs1 hk1
      generalize x / 2 ^ s + gd xs (k + 1) % 2 ^ s * 2 ^ (32 - s) = D at *
      have Ht := Lib.hid ht
      clear ht
      go_wp2
      go_roundw
      case rel => exact ⟨k + 1, Z ++ [D], by omega, by go_num, by simp [HZ.out], hZd.append (Dg.one hDl), Ht.out, HW'.out _, hfq.setCell _ _ (by have := HG.out; simp; omega)⟩
      case measure => simp [intOf]; omega
    · obtain rfl : k = n := by omega
      have HV2 := Lib.hid (lower_end (by omega) Hv.out)
      have HB2 := Lib.hid (hB.full HZ.out)
      go_wp2
      go_ret
      exact ⟨g, Z, rfl, by rw [HG.out]; exact Nat.le_refl _, HB2.out, HZ.out, hZd, HV2.out, hf⟩

end Go.Proofs.Ytfjhdhmneknmkaa
