/- What the statements of this claim stand on: of Div2, what they name -/
import Derived.Test.YtagciepnhjbopaaGreatDoorT05

namespace Go.Proofs.YtagciepnhjbopaaGreatDoor
open Go.RowKit

def Guess (P Y : List Nat) (q : Nat) : Prop := q < 4294967296 ∧ val P / val Y ≤ q ∧ q ≤ val P / val Y + 1

theorem two_high {Y : List Nat} {m : Nat} (_h : Y.length = m + 2) (hY : Dg Y) : ∃ l, l < pB m ∧ val Y = (gd Y (m + 1) * 4294967296 + gd Y m) * pB m + l := by
  refine ⟨val (Y.take m), ?_, ?_⟩
  · have := val_lt (hY.take m)
    rwa [List.length_take, Nat.min_eq_left (by omega)] at this
  · have h1 := val_take_succ Y (m + 1)
    have h2 := val_take_succ Y m
    rw [List.take_of_length_le (by omega)] at h1
    rw [h1, h2, pB_succ]
    grind

theorem three_high {P : List Nat} {m : Nat} (_h : P.length = m + 3) (hP : Dg P) : ∃ l, l < pB m ∧ val P = ((gd P (m + 2) * 4294967296 + gd P (m + 1)) * 4294967296 + gd P m) * pB m + l := by
  refine ⟨val (P.take m), ?_, ?_⟩
  · have := val_lt (hP.take m)
    rwa [List.length_take, Nat.min_eq_left (by omega)] at this
  · have h0 := val_take_succ P (m + 2)
    have h1 := val_take_succ P (m + 1)
    have h2 := val_take_succ P m
    rw [List.take_of_length_le (by omega)] at h0
    rw [h0, h1, h2]
    simp only [pB_succ]
    generalize gd P (m + 2) = a
    generalize gd P (m + 1) = b
    generalize gd P m = c
    generalize pB m = d
    clear h0 h1 h2
    grind

theorem g_top {B v1 v0 u2 u1 u0 R l l' : Nat} (hl : l < R) (h0 : v0 < B) (_hlt : ((u2 * B + u1) * B + u0) * R + l' < ((v1 * B + v0) * R + l) * B) : u2 ≤ v1 := by
  apply Nat.le_of_not_lt
  intro h
  have h1 : (v1 + 1) * (B * B * R) ≤ u2 * (B * B * R) := Nat.mul_le_mul_right _ h
  have h2 : (v0 + 1) * (R * B) ≤ B * (R * B) := Nat.mul_le_mul_right _ h0
  have h3 : l * B ≤ R * B := Nat.mul_le_mul_right _ (Nat.le_of_lt hl)
  have h4 : ((u2 * B + u1) * B + u0) * R = u2 * (B * B * R) + (u1 * B + u0) * R := by grind
  have h5 : ((v1 * B + v0) * R + l) * B = v1 * (B * B * R) + v0 * (R * B) + l * B := by grind
  have h6 : (v1 + 1) * (B * B * R) = v1 * (B * B * R) + B * (R * B) := by grind
  have h7 : (v0 + 1) * (R * B) = v0 * (R * B) + R * B := by grind
  generalize v1 * (B * B * R) = a1 at *
  generalize u2 * (B * B * R) = a2 at *
  generalize v0 * (R * B) = a3 at *
  generalize (u1 * B + u0) * R = a4 at *
  generalize l * B = a5 at *
  generalize B * (R * B) = a6 at *
  generalize R * B = a7 at *
  omega

theorem g_init {B v1 v0 H u0 R l l' t : Nat} (_hl' : l' < R) (h0 : u0 < B) (_ht : t * ((v1 * B + v0) * R + l) ≤ (H * B + u0) * R + l') : t * v1 ≤ H := by
  apply Nat.le_of_not_lt
  intro h
  have h1 : (H + 1) * (B * R) ≤ t * v1 * (B * R) := Nat.mul_le_mul_right _ h
  have h2 : (u0 + 1) * R ≤ B * R := Nat.mul_le_mul_right _ h0
  have h4 : t * ((v1 * B + v0) * R + l) = t * v1 * (B * R) + t * (v0 * R) + t * l := by grind
  have h5 : (H * B + u0) * R = H * (B * R) + u0 * R := by grind
  have h6 : (H + 1) * (B * R) = H * (B * R) + B * R := by grind
  have h7 : (u0 + 1) * R = u0 * R + R := by grind
  generalize t * v1 * (B * R) = a1 at *
  generalize t * (v0 * R) = a2 at *
  generalize t * l = a3 at *
  generalize H * (B * R) = a4 at *
  generalize u0 * R = a5 at *
  generalize B * R = a6 at *
  omega

theorem g_step {B v1 v0 H u0 R l l' t q r : Nat} (_hl' : l' < R) (hq : q * v1 + r = H) (hc : B ≤ q ∨ r * B + u0 < q * v0)
    (_hlt : (H * B + u0) * R + l' < ((v1 * B + v0) * R + l) * B)
    (_ht : t * ((v1 * B + v0) * R + l) ≤ (H * B + u0) * R + l') : t < q := by
  apply Nat.lt_of_not_le
  intro h
  have h1 : q * ((v1 * B + v0) * R + l) ≤ t * ((v1 * B + v0) * R + l) := Nat.mul_le_mul_right _ h
  rcases hc with hc | hc
  · have h2 : B * ((v1 * B + v0) * R + l) ≤ q * ((v1 * B + v0) * R + l) := Nat.mul_le_mul_right _ hc
    rw [Nat.mul_comm B] at h2
    generalize q * ((v1 * B + v0) * R + l) = a1 at *
    generalize t * ((v1 * B + v0) * R + l) = a2 at *
    generalize ((v1 * B + v0) * R + l) * B = a3 at *
    generalize (H * B + u0) * R = a4 at *
    omega
  · have h2 : (r * B + u0 + 1) * R ≤ q * v0 * R := Nat.mul_le_mul_right _ hc
    have h3 : q * ((v1 * B + v0) * R + l) = (q * v1) * (B * R) + q * v0 * R + q * l := by grind
    have h4 : (H * B + u0) * R = (q * v1) * (B * R) + (r * B + u0) * R := by rw [← hq]; grind
    have h5 : (r * B + u0 + 1) * R = (r * B + u0) * R + R := by grind
    generalize (q * v1) * (B * R) = a1 at *
    generalize q * v0 * R = a2 at *
    generalize q * l = a3 at *
    generalize (r * B + u0) * R = a4 at *
    generalize t * ((v1 * B + v0) * R + l) = a5 at *
    omega

theorem g_end {B v1 v0 H u0 R l l' q r : Nat} (hl : l < R) (hv : 1 ≤ v1) (hq : q * v1 + r = H) (hc : q * v0 ≤ r * B + u0) (_hB : q < B) :
    q ≤ ((H * B + u0) * R + l') / ((v1 * B + v0) * R + l) + 1 := by
  have hR : 0 < R := by omega
  have key : q * ((v1 * B + v0) * R + l) < (H * B + u0) * R + l' + ((v1 * B + v0) * R + l) := by
    have h1 : q * v0 * R ≤ (r * B + u0) * R := Nat.mul_le_mul_right _ hc
    have h2 : q * l ≤ B * l := Nat.mul_le_mul_right _ (by omega)
    have h2' : B * (l + 1) ≤ B * R := Nat.mul_le_mul_left _ hl
    rw [Nat.mul_add] at h2'
    have h3 : 1 * (B * R) ≤ v1 * (B * R) := Nat.mul_le_mul_right _ hv
    have h4 : q * ((v1 * B + v0) * R + l) = (q * v1) * (B * R) + q * v0 * R + q * l := by grind
    have h5 : (H * B + u0) * R = (q * v1) * (B * R) + (r * B + u0) * R := by rw [← hq]; grind
    have h6 : (v1 * B + v0) * R = v1 * (B * R) + v0 * R := by grind
    generalize (q * v1) * (B * R) = a1 at *
    generalize q * v0 * R = a2 at *
    generalize q * l = a3 at *
    generalize (r * B + u0) * R = a4 at *
    generalize v1 * (B * R) = a5 at *
    generalize v0 * R = a6 at *
    generalize B * R = a7 at *
    generalize B * l = a8 at *
    omega
  have hY : 0 < (v1 * B + v0) * R + l := by
    have : 1 * R ≤ (v1 * B + v0) * R := Nat.mul_le_mul_right _ (by
      have : 1 * B ≤ v1 * B := Nat.mul_le_mul_right _ hv
      omega)
    omega
  generalize (v1 * B + v0) * R + l = Y at *
  generalize (H * B + u0) * R + l' = P at *
  cases q with
  | zero => exact Nat.zero_le _
  | succ q =>
    apply Nat.succ_le_succ
    rw [Nat.le_div_iff_mul_le hY]
    rw [Nat.add_mul] at key
    omega

theorem g_break {v1 u2 u1 q r : Nat} (_hu : u2 ≤ v1) (_h1 : u1 < 4294967296) (_hq : q * v1 + r = u2 * 4294967296 + u1) (_hr : 4294967296 ≤ r) : q < 4294967296 := by
  apply Nat.lt_of_not_le
  intro h
  have h2 : 4294967296 * v1 ≤ q * v1 := Nat.mul_le_mul_right _ h
  omega

theorem g_div {P Y t : Nat} (h : t = P / Y) : t * Y ≤ P := by rw [h]; exact Nat.div_mul_le_self _ _

set_option maxRecDepth 100000 in
set_option maxHeartbeats 2000000 in
theorem guess_any (p q : Option Addr) (m c d : Nat) (P Y : List Nat) (w : World) (hP : Sl w p (m + 3) c P) (hY : Sl w q (m + 2) d Y) (_hm : m ≤ 1099511627775) (_hv : gd Y (m + 1) ≠ 0) (hlt : val P < val Y * 4294967296) :
    Calls Tryz.prog 211 #[.slice p (m + 3) c, .slice q (m + 2) d] w fun e w' => (∃ g : Nat, e = .returned (.int .u32 g) ∧ Guess P Y g) ∧ Fr [] w w' := by
  obtain ⟨b1, o1, rfl, _, r1⟩ := hP.rd.open (by rw [hP.len]; omega)
  obtain ⟨b2, o2, rfl, _, r2⟩ := hY.rd.open (by rw [hY.len]; omega)
  rw [hP.len] at r1
  rw [hY.len] at r2
  obtain ⟨l, hl, eY⟩ := two_high hY.len hY.dig
  obtain ⟨l', hl', eP⟩ := three_high hP.len hP.dig
  have d0 := hP.dig.at m
  have d1 := hP.dig.at (m + 1)
  have d2 := hP.dig.at (m + 2)
  have e0 := hY.dig.at m
  have e1 := hY.dig.at (m + 1)
  have cP0 := r1 m (by omega)
  have cP1 := r1 (m + 1) (by omega)
  have cP2 := r1 (m + 2) (by omega)
  have cY0 := r2 m (by omega)
  have cY1 := r2 (m + 1) (by omega)
  clear r1 r2 hP hY
  have G : ∀ g : Nat, (g < 4294967296 ∧ val P / val Y ≤ g ∧ g ≤ val P / val Y + 1) → Guess P Y g := fun g h => h
  rw [eP, eY] at hlt G
  clear eP eY
  generalize gd P m = u0 at *
  generalize gd P (m + 1) = u1 at *
  generalize gd P (m + 2) = u2 at *
  generalize gd Y m = v0 at *
  generalize gd Y (m + 1) = v1 at *
  generalize pB m = R at *
  have hu := g_top hl e0 hlt
  obtain ⟨t, ht⟩ : ∃ t, t = (((u2 * 4294967296 + u1) * 4294967296 + u0) * R + l') / ((v1 * 4294967296 + v0) * R + l) := ⟨_, rfl⟩
  have ht2 := g_div ht
  have hinit := g_init (H := u2 * 4294967296 + u1) hl' d0 ht2
  have HG : Hid (∀ g : Nat, g < 4294967296 → t ≤ g → g ≤ t + 1 → Guess P Y g) := fun g h1 h2 h3 => G g ⟨h1, by rw [← ht]; exact h2, by rw [← ht]; exact h3⟩
  have hv1 : 1 ≤ v1 := by omega
  have HStep : Hid (∀ q r, q * v1 + r = u2 * 4294967296 + u1 → (4294967296 ≤ q ∨ r * 4294967296 + u0 < q * v0) → t < q) := fun q r h1 h2 => g_step hl' h1 h2 hlt ht2
  have HEnd : Hid (∀ q r, q * v1 + r = u2 * 4294967296 + u1 → q * v0 ≤ r * 4294967296 + u0 → q < 4294967296 → q ≤ t + 1) := fun q r h1 h2 h3 => by rw [ht]; exact g_end hl hv1 h1 h2 h3
  have HBr : Hid (∀ q r, q * v1 + r = u2 * 4294967296 + u1 → 4294967296 ≤ r → q < 4294967296) := fun q r h1 h2 => g_break hu d1 h1 h2
  clear G ht ht2 hlt hl hl'
  have h64 : u2 * 4294967296 + u1 < 18446744073709551616 := by omega
  have hor := or64i ((u2 : Int) * 4294967296) (u1 : Int) u2 32 (by omega) (by omega) (by omega) (by omega)
  have hw1 : IntKind.u64.wrap ((u2 : Int) * 4294967296) = (u2 : Int) * 4294967296 := wrap_u64_lt (by omega) (by omega)
  go_enter Tryz.func211, Tryz.ntmps211
  go_wp2_with fail
  go_quiet (fail)
  go_wp2_with fail
  go_quiet (fail)
  go_wp2_with fail
  have hH : ((u2 : Int) * 4294967296 + u1) = ((u2 * 4294967296 + u1 : Nat) : Int) := by omega
  rw [hH]
  clear hH hor hw1
  generalize u2 * 4294967296 + u1 = H at *
  go_quiet (fail)
  generalize hwq : World.drewN _ _ = w1
  have hf1 : Fr [] w w1 := by rw [← hwq]; exact (((Fr.refl _ _).drewN _).drewN _).drewN _
  have cP : w1.cell? ⟨b1, o1 + m, none⟩ = some (dv u0) := by rw [← hwq]; exact cP0
  clear hwq cP0 cP1 cP2 cY0 cY1
  obtain ⟨q0, hq0⟩ : ∃ q0, q0 = H / v1 := ⟨_, rfl⟩
  obtain ⟨r0, hr0⟩ : ∃ r0, r0 = H % v1 := ⟨_, rfl⟩
  have hqr : q0 * v1 + r0 = H := by rw [hq0, hr0, Nat.mul_comm]; exact Nat.div_add_mod _ _
  have hrl : r0 < v1 := by rw [hr0]; exact Nat.mod_lt _ (by omega)
  have htq : t ≤ q0 := by rw [hq0, Nat.le_div_iff_mul_le (by omega)]; exact hinit
  have hql : q0 ≤ H := by rw [hq0]; exact Nat.div_le_self _ _
  have eq1 : IntKind.u64.wrap ((H : Int) / v1) = (q0 : Int) := by rw [hq0, ← Int.natCast_ediv, wrap_u64_lt (by omega) (by have := Nat.div_le_self H v1; omega)]
  have eq2 : (H : Int) % v1 = (r0 : Int) := by rw [hr0, ← Int.natCast_emod]
  rw [eq1, eq2]
  have HQR := Lib.hid hqr
  clear eq1 eq2 hq0 hr0 hqr hinit _hv hu
  go_wp2_with fail
  go_loop [9, 10] (fun a b => ∃ q r : Nat, a = .int .u64 q ∧ b = .int .u64 r ∧ q * v1 + r = H ∧ r < 4294967296 ∧ t ≤ q ∧ q ≤ H) (fun a _ => (intOf a).toNat)
  case atStart => exact ⟨q0, r0, rfl, rfl, HQR.out, by omega, htq, hql⟩
  case round =>
    obtain ⟨q, r, rfl, rfl, hqr, hr, htq', hqH⟩ := hrel
    clear htq hql hrl
    have H1 := Lib.hid hqr
    clear hqr HQR
    have hor := or64i ((r : Int) * 4294967296) (u0 : Int) r 32 (by omega) (by omega) (by omega) (by omega)
    have hw1 : IntKind.u64.wrap ((r : Int) * 4294967296) = (r : Int) * 4294967296 := wrap_u64_lt (by omega) (by omega)
    by_cases hA : 4294967296 ≤ q ∨ r * 4294967296 + u0 < q * v0
    · have hlt := HStep.out q r H1.out hA
      have H2 : Hid ((q - 1) * v1 + (r + v1) = H) := by
        show _ = _
        obtain ⟨q', rfl⟩ : ∃ q', q = q' + 1 := ⟨q - 1, by omega⟩
        rw [← H1.out, Nat.add_sub_cancel, Nat.add_mul]
        omega
      have hr2 : 4294967296 ≤ r + v1 → q - 1 < 4294967296 ∧ q - 1 ≤ t + 1 := fun h => by
        have h1 := HBr.out _ _ H2.out h
        refine ⟨h1, HEnd.out _ _ H2.out ?_ h1⟩
        have h2 : (q - 1) * v0 ≤ 4294967296 * v0 := Nat.mul_le_mul_right _ (by omega)
        omega
      have HR2 := Lib.hid hr2
      clear hr2
      have eq1 : (q : Int) - 1 = ((q - 1 : Nat) : Int) := by omega
      have hq1 : IntKind.u64.wrap ((q : Int) - 1) = ((q - 1 : Nat) : Int) := by rw [wrap_u64_lt (by omega) (by omega)]; omega
      by_cases hB : 4294967296 ≤ q
      case' pos =>
        have g1 : ((q : Int) / 4294967296 != 0) = true := by rw [bne_iff_ne]; omega
        have g2 : True := trivial
        have g3 : True := trivial
      case' neg =>
        have g1 : ((q : Int) / 4294967296 != 0) = false := by rw [bne_eq_false_iff_eq]; omega
        have hA' : r * 4294967296 + u0 < q * v0 := by omega
        have hqv := mul_small (show q < 4294967296 by omega) e0
        have g2 : IntKind.u64.wrap ((q : Int) * v0) = (q : Int) * v0 := by rw [← Int.natCast_mul]; exact wrap_u64_lt (by omega) (by omega)
        have g3 : decide ((r : Int) * 4294967296 + u0 < (q : Int) * v0) = true := by rw [← Int.natCast_mul]; simp only [decide_eq_true_eq]; omega
        clear hqv
      all_goals
        clear hA hB eq1
        by_cases hC : 4294967296 ≤ r + v1
        · have hend := HR2.out hC
          have g4 : (((r : Int) + v1) / 4294967296 != 0) = true := by rw [bne_iff_ne]; omega
          have hG := Lib.hid (HG.out (q - 1) hend.1 (by omega) hend.2)
          go_wp2
          go_ret
          exact ⟨⟨q - 1, rfl, hG.out⟩, hf1⟩
        · have g4 : (((r : Int) + v1) / 4294967296 != 0) = false := by rw [bne_eq_false_iff_eq]; omega
          go_wp2
          go_round
          case rel => exact ⟨q - 1, r + v1, rfl, rfl, H2.out, by omega, by omega, by omega⟩
          case measure => simp [intOf]; omega
    · have hqB : q < 4294967296 := by omega
      have hc : q * v0 ≤ r * 4294967296 + u0 := by omega
      have hG := Lib.hid (HG.out q hqB htq' (HEnd.out _ _ H1.out hc hqB))
      have hqv := mul_small hqB e0
      have g1 : ((q : Int) / 4294967296 != 0) = false := by rw [bne_eq_false_iff_eq]; omega
      have g2 : IntKind.u64.wrap ((q : Int) * v0) = (q : Int) * v0 := by rw [← Int.natCast_mul]; exact wrap_u64_lt (by omega) (by omega)
      have g3 : decide ((r : Int) * 4294967296 + u0 < (q : Int) * v0) = false := by rw [← Int.natCast_mul]; simp only [decide_eq_false_iff_not]; omega
      clear hA hqv hc
      go_wp2
      go_ret
      exact ⟨⟨q, rfl, hG.out⟩, hf1⟩

theorem subp_step {zs ys Z : List Nat} {q k C D C' : Nat} (hZ : Z.length = k) (_h : val Z + q * val (ys.take k) = val (zs.take k) + pB k * C) (hD : D + q * gd ys k + C = gd zs k + 4294967296 * C') :
    val (Z ++ [D]) + q * val (ys.take (k + 1)) = val (zs.take (k + 1)) + pB (k + 1) * C' := by
  rw [val_append, val_one, hZ, val_take_succ, val_take_succ, pB_succ]
  have e : pB k * (D + q * gd ys k + C) = pB k * (gd zs k + 4294967296 * C') := by rw [hD]
  grind

set_option maxRecDepth 100000 in
set_option maxHeartbeats 2000000 in
theorem subProduct_any (g o m c d x : Nat) (q : Option Addr) (L : List Value) (zs ys : List Nat) (w : World) (hb : Blk w g L) (hz : Sg L o zs) (hzd : Dg zs) (_hzl : zs.length = m + 1)
    (hy : Sl w q m d ys) (hq : 0 < m → ∀ a, q = some a → a.block ≠ g) (hx : x < 4294967296) (_hm : m ≤ 1099511627775) :
    Calls Tryz.prog 212 #[.slice (some ⟨g, o, none⟩) (m + 1) c, .slice q m d, .int .u32 x] w fun e w' =>
      ∃ Z r, e = .returned (.bool (decide (gd zs m < r))) ∧ Z.length = m ∧ Dg Z ∧ val Z + x * val ys = val (zs.take m) + pB m * r ∧ Blk w' g (spl L o Z) ∧ Fr [g] w w' := by
  have hyl := hy.len
  go_enter Tryz.func212, Tryz.ntmps212
  go_wp2
  go_loopw [7, 13] (fun s t wr => ∃ (k C : Nat) (Z : List Nat), k ≤ m ∧ s = .int .u64 C ∧ t = .int .i64 k ∧ C ≤ 4294967296 ∧ Z.length = k ∧ Dg Z ∧ val Z + x * val (ys.take k) = val (zs.take k) + pB k * C ∧ Blk wr g (spl L o Z) ∧ Fr [g] w wr) (fun _ t _ => m - (intOf t).toNat)
  case atStart => exact ⟨0, 0, [], Nat.zero_le _, rfl, rfl, by omega, rfl, Dg.nil, rfl, by rw [spl_nil]; exact hb, Fr.refl _ _⟩
  case round =>
    obtain ⟨k, C, Z, hk, rfl, rfl, hC, hZ, hZd, hv, hB, hf⟩ := hrel
    have HZ := Lib.hid hZ
    have Hv := Lib.hid hv
    have HL := hz.1
    clear hZ hv
    by_cases hlt : k < m
    · obtain ⟨b1, o1, rfl, _, m1⟩ := (hy.keep hf (by intro a ha _; simpa using hq (by omega) a ha)).rd.open (by omega)
      have c1 := m1 k (by omega)
      have c2 : wr.cell? ⟨g, o + k, none⟩ = some (dv (gd zs k)) := hB.cell (by rw [spl_at (by rw [HZ.out]; omega), if_neg (by omega), if_neg (by rw [HZ.out]; omega)]; exact hz.2 k (by omega))
      have c3 := hB.free (o + k)
      have d1 := hy.dig.at k
      have d2 := hzd.at k
      have HT : Hid (∀ D C', D + x * gd ys k + C = gd zs k + 4294967296 * C' → val (Z ++ [D]) + x * val (ys.take (k + 1)) = val (zs.take (k + 1)) + pB (k + 1) * C') := fun D C' => subp_step HZ.out Hv.out
      have HW := Lib.hid (hB.set (o + k))
      have HS : Hid (∀ v, (spl L o Z).set (o + k) (dv v) = spl L o (Z ++ [v])) := fun v => by
        have := spl_set (L := L) (o := o) (Z := Z) (by rw [HZ.out]; omega) v
        rwa [HZ.out] at this
      have hbd := mul_small hx d1
      generalize gd ys k = y at *
      generalize gd zs k = z at *
      obtain ⟨pr, hpr⟩ : ∃ pr, pr = x * y := ⟨_, rfl⟩
      have hpr' : (x : Int) * y = (pr : Int) := by rw [hpr]; simp
      rw [← hpr] at hbd HT
      clear hpr m1
      by_cases hlow : z < (C + pr) % 4294967296
      case' pos =>
        have g1 : decide ((z : Int) < ((C : Int) + pr) % 4294967296) = true := by simp only [decide_eq_true_eq]; omega
        obtain ⟨D, hD⟩ : ∃ D, D = z + 4294967296 - (C + pr) % 4294967296 := ⟨_, rfl⟩
        obtain ⟨C', hC'⟩ : ∃ C', C' = (C + pr) / 4294967296 + 1 := ⟨_, rfl⟩
        have g3 : ((C : Int) + pr) / 4294967296 + 1 = (C' : Int) := by omega
      case' neg =>
        have g1 : decide ((z : Int) < ((C : Int) + pr) % 4294967296) = false := by simp only [decide_eq_false_iff_not]; omega
        obtain ⟨D, hD⟩ : ∃ D, D = z - (C + pr) % 4294967296 := ⟨_, rfl⟩
        obtain ⟨C', hC'⟩ : ∃ C', C' = (C + pr) / 4294967296 := ⟨_, rfl⟩
        have g3 : ((C : Int) + pr) / 4294967296 = (C' : Int) := by omega
      all_goals
        have g2 : IntKind.u32.wrap ((z : Int) - ((C : Int) + pr) % 4294967296) = (D : Int) := by rw [IntKind.wrap_u32]; omega
        have hDl : D < 4294967296 := by omega
        have hCl : C' ≤ 4294967296 := by omega
        have HT2 := Lib.hid (HT.out D C' (by omega))
        clear hD hC' hlow
        go_wp2
        go_roundw
        case rel =>
          exact ⟨k + 1, C', Z ++ [D], by omega, by rw [← g3], by go_num, hCl, by simp [HZ.out], hZd.append (Dg.one hDl), HT2.out, by rw [← HS.out]; exact HW.out _, hf.setCell _ _ (by simp)⟩
        case measure => simp [intOf]; omega
    · obtain rfl : k = m := by omega
      have c2 : wr.cell? ⟨g, o + k, none⟩ = some (dv (gd zs k)) := hB.cell (by rw [spl_at (by rw [HZ.out]; omega), if_neg (by omega), if_neg (by rw [HZ.out]; omega)]; exact hz.2 k (by omega))
      have hv := Hv.out
      rw [List.take_of_length_le (l := ys) (by omega)] at hv
      have HV2 := Lib.hid hv
      have d2 := hzd.at k
      generalize hzz : gd zs k = z at *
      have HZZ := Lib.hid hzz
      clear hv hzz
      go_wp2
      go_ret
      exact ⟨Z, C, by rw [HZZ.out]; rfl, HZ.out, hZd, HV2.out, hB, hf⟩

end Go.Proofs.YtagciepnhjbopaaGreatDoor
