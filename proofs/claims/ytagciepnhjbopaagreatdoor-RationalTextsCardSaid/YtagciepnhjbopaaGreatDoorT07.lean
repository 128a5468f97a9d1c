/- What the statements of this claim stand on: of Bits, Div3, Div4, Pow, what they name -/
import Derived.Deep.RegionWith
import Derived.Laws.CopyOwn
import Derived.Lib.BitFns
import Derived.Lib.ItoaNum
import Derived.Lib.Slices
import Derived.Lib.Small
import Derived.Lib.Strings
import Derived.Lib.Walk
import Derived.Test.YtagciepnhjbopaaGreatDoorT04
import Derived.Test.YtagciepnhjbopaaGreatDoorT06

namespace Go.Proofs.YtagciepnhjbopaaGreatDoor
open Go.RowKit

def bl (x : Nat) : Nat := if x = 0 then 0 else Nat.log2 x + 1

theorem bl_lt (x : Nat) : x < 2 ^ bl x := by
  unfold bl
  split
  · subst_vars; decide
  · exact Nat.lt_log2_self

theorem bl_ge {x : Nat} (h : x ≠ 0) : 2 ^ (bl x - 1) ≤ x := by
  unfold bl
  rw [if_neg h, Nat.add_sub_cancel]
  exact Nat.log2_self_le h

theorem bl_le {x n : Nat} (h : x < 2 ^ n) : bl x ≤ n := by
  unfold bl
  split
  · omega
  · rename_i hx
    have := (Nat.log2_lt hx).2 h
    omega

theorem bl_pos {x : Nat} (h : x ≠ 0) : 1 ≤ bl x := by unfold bl; rw [if_neg h]; omega

theorem bl_eq {x n : Nat} (h : x < 2 ^ n) (_h2 : 2 ^ n ≤ 2 * x) : bl x = n := by
  have h1 := bl_le h
  have h3 := bl_lt x
  by_cases hh : bl x = n
  · exact hh
  · have : 2 ^ (bl x + 1) ≤ 2 ^ n := Nat.pow_le_pow_right (by decide) (by omega)
    rw [Nat.pow_succ] at this
    omega

theorem bl_shift {x k : Nat} (_h : 2 ^ k ≤ x) : bl x = bl (x / 2 ^ k) + k := by
  have hp : 0 < 2 ^ k := Nat.two_pow_pos k
  have hq : x / 2 ^ k ≠ 0 := by
    have := (Nat.le_div_iff_mul_le hp).2 (show 1 * 2 ^ k ≤ x by omega)
    omega
  have h1 := bl_lt (x / 2 ^ k)
  have h2 := bl_ge hq
  have h3 := bl_pos hq
  have hm := Nat.div_add_mod x (2 ^ k)
  have hlt := Nat.mod_lt x hp
  apply bl_eq
  · rw [Nat.pow_add]
    exact (Nat.div_lt_iff_lt_mul hp).1 h1
  · have e : bl (x / 2 ^ k) + k = (bl (x / 2 ^ k) - 1) + 1 + k := by omega
    rw [e, Nat.pow_add, Nat.pow_succ]
    have : 2 ^ (bl (x / 2 ^ k) - 1) * 2 ^ k ≤ x / 2 ^ k * 2 ^ k := Nat.mul_le_mul_right _ h2
    have h5 : x / 2 ^ k * 2 ^ k ≤ x := Nat.div_mul_le_self _ _
    rw [Nat.mul_right_comm]
    omega

theorem len8_size : Lib.len8tab.size = 256 := by decide +kernel

theorem len8_all : ∀ j : Fin 256, (Lib.len8tab[j.val]'(by rw [len8_size]; exact j.isLt)).toNat = Lib.bitLen j.val := by decide +kernel

theorem len8_at (j : Nat) (h : j < Lib.len8tab.size) : (Lib.len8tab[j]'h).toNat = Lib.bitLen j := len8_all ⟨j, by rw [len8_size] at h; exact h⟩

theorem bitLen_bl (x : Nat) (h : x < 2 ^ 64) : Lib.bitLen x = bl x := by
  by_cases h0 : x = 0
  · subst h0; rfl
  · obtain ⟨h1, h2, h3⟩ := Lib.bitLenAux_bounds 64 x h h0
    have h4 : bl x = Lib.bitLenAux 64 x := by
      apply bl_eq h3
      have : Lib.bitLenAux 64 x = (Lib.bitLenAux 64 x - 1) + 1 := by omega
      rw [this, Nat.pow_succ]
      omega
    exact h4.symm

set_option maxHeartbeats 4000000 in
set_option maxRecDepth 100000 in
theorem len32_raw (x : Int) (w : World) (_h0 : 0 ≤ x) (_h1 : x ≤ 4294967295) :
    Calls Tryz.prog 209 #[.int .u32 x] w fun e w' => e = .returned (.int .i64 (Lib.bitLen x.toNat)) ∧ w = w' := by
  have hsz := len8_size
  go_enter Tryz.func209, Tryz.ntmps209
  go_wp2
  all_goals (go_ret; refine ⟨congrArg Ending.returned (congrArg (Value.int IntKind.i64) ?_), rfl⟩)
  all_goals show wrap64 _ = _
  all_goals first
    | (rw [len8_at (x / 65536 / 256).toNat (by rw [hsz]; omega)]
       have e : (x / 65536 / 256).toNat = x.toNat / 16777216 := by omega
       have l2 := fun h => IntWalk.wrap64_in ((Lib.bitLen (x.toNat / 16777216) : Nat) : Int) h
       have l := Lib.bitLen_le8' (x / 65536 / 256) (by omega) (by omega)
       have s := Lib.bitLen_shift24 x.toNat (by omega) (by omega)
       rw [e] at l ⊢
       rw [l2 (by omega), IntWalk.wrap64_in _ (by omega)]
       first | done | omega)
    | (rw [len8_at (x / 65536).toNat (by rw [hsz]; omega)]
       have e : (x / 65536).toNat = x.toNat / 65536 := by omega
       have l2 := fun h => IntWalk.wrap64_in ((Lib.bitLen (x.toNat / 65536) : Nat) : Int) h
       have l := Lib.bitLen_le8' (x / 65536) (by omega) (by omega)
       have s := Lib.bitLen_shift16 x.toNat (by omega) (by omega)
       rw [e] at l ⊢
       rw [l2 (by omega), IntWalk.wrap64_in _ (by omega)]
       first | done | omega)
    | (rw [len8_at (x / 256).toNat (by rw [hsz]; omega)]
       have e : (x / 256).toNat = x.toNat / 256 := by omega
       have l2 := fun h => IntWalk.wrap64_in ((Lib.bitLen (x.toNat / 256) : Nat) : Int) h
       have l := Lib.bitLen_le8' (x / 256) (by omega) (by omega)
       have s := Lib.bitLen_shift8 x.toNat (by omega) (by omega)
       rw [e] at l ⊢
       rw [l2 (by omega), IntWalk.wrap64_in _ (by omega)]
       first | done | omega)
    | (rw [len8_at (x).toNat (by rw [hsz]; omega)]
       have e : (x).toNat = x.toNat := by omega
       have l2 := fun h => IntWalk.wrap64_in ((Lib.bitLen (x.toNat) : Nat) : Int) h
       have l := Lib.bitLen_le8' (x) (by omega) (by omega)
       rw [e] at l ⊢
       rw [l2 (by omega), IntWalk.wrap64_in _ (by omega)]
       first | done | omega)

theorem ret_i64 {a b : Int} (h : a = b) : Ending.returned (.int .i64 a) = .returned (.int .i64 b) := by rw [h]

theorem len32_any (x : Nat) (w : World) (_h : x < 4294967296) :
    Calls Tryz.prog 209 #[.int .u32 x] w fun e w' => e = .returned (.int .i64 (bl x : Nat)) ∧ w = w' :=
  (len32_raw x w (by omega) (by omega)).mono fun _ _ ⟨h1, h2⟩ => ⟨h1.trans (ret_i64 (by rw [Int.toNat_natCast, bitLen_bl x (by omega)])), h2⟩

theorem lz32_any (x : Nat) (w : World) (h : x < 4294967296) :
    Calls Tryz.prog 190 #[.int .u32 x] w fun e w' => e = .returned (.int .i64 ((32 - bl x : Nat) : Int)) ∧ w = w' := by
  have hb := bl_le (x := x) (n := 32) (by omega)
  have e1 : ((32 - bl x : Nat) : Int) = 32 - (bl x : Int) := by omega
  rw [e1]
  generalize hn : bl x = n at *
  have HN := Lib.hid hn
  clear hn e1
  go_enter Tryz.func190, Tryz.ntmps190
  go_wp2_with fail
  refine (len32_any _ _ h).mono ?_
  rintro e w' ⟨rfl, rfl⟩
  rw [HN.out]
  go_wp2_with fail
  go_ret
  exact ⟨rfl, rfl⟩

end Go.Proofs.YtagciepnhjbopaaGreatDoor

namespace Go.Proofs.YtagciepnhjbopaaGreatDoor
open Go.RowKit

theorem long_step {A D Q : List Nat} {i n V t T' : Nat} (hi : i < A.length) (hs : gd D i = gd A i)
    (h : val (A.drop (i + 1)) = val Q * V + val ((D.drop (i + 1)).take n)) (hl : i < D.length)
    (ht : t * V + T' = val ((D.drop i).take (n + 1))) : val (A.drop i) = val (t :: Q) * V + T' := by
  rw [drop_cons_gd hi, val, h, val]
  rw [drop_cons_gd hl, List.take_succ_cons, val] at ht
  rw [← hs]
  grind

theorem long_no {vP V g r pm U z z0 : Nat} (h0 : vP = z0 + pm * U) (_h1 : z + g * V = z0 + pm * r) (_hU : ¬ U < r) (_hg1 : vP / V ≤ g) (_hV : V ≤ pm) (hVp : 0 < V) : g * V + z = vP ∧ z < V := by
  obtain ⟨e, rfl⟩ : ∃ e, U = r + e := ⟨U - r, by omega⟩
  have h2 : vP = g * V + z + pm * e := by rw [h0, Nat.mul_add]; omega
  have h3 : vP < (g + 1) * V := by
    have := Nat.lt_mul_div_succ vP hVp
    have h4 : V * (vP / V + 1) ≤ V * (g + 1) := Nat.mul_le_mul_left _ (by omega)
    rw [Nat.mul_comm V (g + 1)] at h4
    omega
  rw [Nat.add_mul] at h3
  cases e with
  | zero => omega
  | succ e =>
    rw [Nat.mul_add] at h2
    omega

theorem long_yes {vP V g r r' pm U z z' z0 : Nat} (h0 : vP = z0 + pm * U) (h1 : z + g * V = z0 + pm * r) (_hU : U < r) (_hg2 : g ≤ vP / V + 1) (_hV : V ≤ pm) (hVp : 0 < V)
    (_hz : z < pm) (hz' : z' < pm) (_h2 : z' + pm * r' = z + 1 * V) : 1 ≤ g ∧ (g - 1) * V + z' = vP ∧ z' < V := by
  obtain ⟨e, rfl⟩ : ∃ e, r = U + 1 + e := ⟨r - U - 1, by omega⟩
  have h3 : z + g * V = vP + pm + pm * e := by rw [h1, h0, Nat.mul_add, Nat.mul_add]; omega
  have hd := Nat.div_mul_le_self vP V
  have hm := Nat.div_add_mod vP V
  have hl := Nat.mod_lt vP hVp
  cases g with
  | zero => omega
  | succ g =>
    rw [Nat.add_sub_cancel]
    rw [Nat.add_mul] at h3
    have h4 : g * V ≤ vP / V * V := Nat.mul_le_mul_right _ (by omega)
    have h5 : z' + pm * r' = (vP - g * V) + pm * (e + 1) := by rw [Nat.mul_add]; omega
    have h6 : vP / V ≤ g := by
      apply Nat.le_of_not_lt
      intro h
      have : (g + 1) * V ≤ vP / V * V := Nat.mul_le_mul_right _ h
      rw [Nat.add_mul] at this
      omega
    have h7 : vP - g * V < V := by
      have : V * (vP / V) ≤ V * g := Nat.mul_le_mul_left _ h6
      rw [Nat.mul_comm V g] at this
      omega
    have h8 : z' = vP - g * V := by
      have e1 : (z' + pm * r') % pm = z' := by rw [Nat.add_mul_mod_self_left, Nat.mod_eq_of_lt hz']
      have e2 : (vP - g * V + pm * (e + 1)) % pm = vP - g * V := by rw [Nat.add_mul_mod_self_left, Nat.mod_eq_of_lt (by omega)]
      rw [← e1, h5, e2]
    omega

theorem long_fin {a b s Q T : Nat} (_hb : 0 < b) (h : a * 2 ^ s = Q * (b * 2 ^ s) + T) (hT : T < b * 2 ^ s) : Q = a / b ∧ T / 2 ^ s = a % b := by
  have hp := Nat.two_pow_pos s
  have hdiv : 2 ^ s * (a - Q * b) = T := by
    rw [Nat.mul_sub, Nat.mul_comm _ a, Nat.mul_comm _ (Q * b), Nat.mul_assoc, h]
    omega
  have hle : Q * b ≤ a := by
    apply Nat.le_of_mul_le_mul_right _ hp
    rw [Nat.mul_assoc, h]
    omega
  have hlt : a - Q * b < b := by
    apply Nat.lt_of_mul_lt_mul_left (a := 2 ^ s)
    rw [hdiv, Nat.mul_comm]
    exact hT
  have hq : a / b = Q := by
    apply Nat.div_eq_of_lt_le hle
    rw [Nat.succ_mul]
    omega
  refine ⟨hq.symm, ?_⟩
  rw [← hdiv, Nat.mul_div_cancel_left _ hp]
  have := Nat.div_add_mod a b
  rw [hq, Nat.mul_comm] at this
  omega

theorem by_top {B : List Nat} {m s top : Nat} (_hl : B.length = m + 2) (hd : Dg B) (ht : gd B (m + 1) = top) (_h0 : top ≠ 0) (_h32 : top < 4294967296) (_hs : s = 32 - bl top) :
    val B * 2 ^ s < pB (m + 2) ∧ pB (m + 1) ≤ val B * 2 ^ s ∧ pB (m + 1) * 2 ^ s ≤ val B * 2 ^ s := by
  have h1 := val_take_succ B (m + 1)
  rw [List.take_of_length_le (by omega), ht] at h1
  have h2 := val_lt (hd.take (m + 1))
  rw [List.length_take, Nat.min_eq_left (by omega)] at h2
  have h3 := bl_lt top
  have h4 := bl_le (x := top) (n := 32) (by omega)
  have hp := Nat.two_pow_pos s
  have h5 : (top + 1) * 2 ^ s ≤ 2 ^ bl top * 2 ^ s := Nat.mul_le_mul_right _ h3
  rw [← Nat.pow_add, show bl top + s = 32 by omega] at h5
  have h6 : (val B + 1) * 2 ^ s ≤ (pB (m + 1) * (top + 1)) * 2 ^ s := Nat.mul_le_mul_right _ (by rw [Nat.mul_add]; omega)
  have h7 : pB (m + 1) * ((top + 1) * 2 ^ s) ≤ pB (m + 1) * 2 ^ 32 := Nat.mul_le_mul_left _ h5
  have h8 : pB (m + 2) = pB (m + 1) * 2 ^ 32 := by rw [pB_succ, Nat.mul_comm]
  have h9 : pB (m + 1) * 1 ≤ pB (m + 1) * top := Nat.mul_le_mul_left _ (by omega)
  have h10 : pB (m + 1) * 2 ^ s ≤ val B * 2 ^ s := Nat.mul_le_mul_right _ (by omega)
  have h11 : pB (m + 1) * 1 ≤ pB (m + 1) * 2 ^ s := Nat.mul_le_mul_left _ hp
  rw [Nat.mul_assoc] at h6
  rw [Nat.add_mul] at h6
  omega

theorem start_lt {Z A : List Nat} {n k s V : Nat} (hk : k ≤ Z.length) (_h : val Z = val A * 2 ^ s) (hA : val A < pB n) (_hkn : k ≤ n) (hV : pB (n - k) * 2 ^ s ≤ V) : val (Z.drop k) < V := by
  have h1 := val_split Z k hk
  have hp := pB_pos k
  have h2 : pB n = pB k * pB (n - k) := by rw [← pB_add]; congr 1; omega
  have h3 : (val A + 1) * 2 ^ s ≤ (pB k * pB (n - k)) * 2 ^ s := Nat.mul_le_mul_right _ (by rw [← h2]; exact hA)
  have hps := Nat.two_pow_pos s
  have h4 : pB k * (pB (n - k) * 2 ^ s) ≤ pB k * V := Nat.mul_le_mul_left _ hV
  rw [Nat.mul_assoc, Nat.add_mul] at h3
  apply Nat.lt_of_mul_lt_mul_left (a := pB k)
  omega

theorem mid_take {D Z E : List Nat} {k j : Nat} (_hk : k ≤ D.length) (hj : Z.length = j) : ((D.take k ++ Z ++ E).drop k).take j = Z := by
  subst hj
  have h1 : (D.take k).length = k := by simp; omega
  rw [List.append_assoc, List.drop_append_of_le_length (by omega), List.drop_of_length_le (by omega), List.nil_append, List.take_left]

set_option maxRecDepth 100000 in
set_option maxHeartbeats 2000000 in
theorem divideLong_any (p q : Option Addr) (n m c d : Nat) (A B : List Nat) (w : World) (hA : Sl w p n c A) (hB : Sl w q (m + 2) d B) (_hn : n ≤ 1099511627774) (_hmn : m + 2 ≤ n) (hv : gd B (m + 1) ≠ 0) :
    Calls Tryz.prog 194 #[.slice p n c, .slice q (m + 2) d] w fun e w' =>
      ∃ gq Q gr R, e = .returned (.tuple #[.slice (some ⟨gq, 0, none⟩) (n - (m + 2) + 1) (n - (m + 2) + 1), .slice (some ⟨gr, 0, none⟩) (m + 2) (m + 2)]) ∧ w.heap.size ≤ gq ∧ w.heap.size ≤ gr ∧
        Blk w' gq (Q.map dv) ∧ Blk w' gr (R.map dv) ∧ Q.length = n - (m + 2) + 1 ∧ R.length = m + 2 ∧ Dg Q ∧ Dg R ∧ val Q = val A / val B ∧ val R = val A % val B ∧ Fr [] w w' := by
  obtain ⟨i0, hi, hz0, hz1, hz2⟩ := info_parts Tryz.infoU
  obtain ⟨b2, o2, rfl, _, r2⟩ := hB.rd.open (by rw [hB.len]; omega)
  have cB := r2 (m + 1) (by rw [hB.len]; omega)
  have dB := hB.dig.at (m + 1)
  generalize htop : gd B (m + 1) = top at *
  have Htop := Lib.hid htop
  clear htop r2
  have hbl := bl_pos hv
  have hbl2 := bl_le (x := top) (n := 32) (by omega)
  go_enter Tryz.func194, Tryz.ntmps194
  go_wp2_with fail
  refine (lz32_any _ _ dB).mono ?_
  rintro e w' ⟨rfl, rfl⟩
  obtain ⟨s, hs⟩ : ∃ s, s = 32 - bl top := ⟨_, rfl⟩
  rw [← hs]
  have HS := Lib.hid hs
  have hs31 : s ≤ 31 := by omega
  clear hs hbl hbl2
  go_wp2_with fail
  go_region_with (first | (go_at_call_of 210 (Value.slice p n c); refine (raiseBits_any p n c s A _ ?_ hs31 (by omega)).mono ?_; exact hA.kept ((Fr.refl _ _).drew); rintro e w1 ⟨g1, Z1, rfl, h1, h2, h3, h4, h5, f1⟩) | (refine (raiseBits_any (some ⟨b2, o2, none⟩) (m + 2) d s B _ ?_ hs31 (by omega)).mono ?_; exact (hB.kept ((Fr.refl _ _).drew)).kept f1; rintro e w2 ⟨g2, Z2, rfl, k1, k2, k3, k4, k5, f2⟩))
  have hf2 : Fr [] w w2 := ((Fr.refl [] w).drew.trans f1 (by simp)).trans f2 (by simp)
  have hg1 : w.heap.size ≤ g1 := h1
  have hw12 : g1 < w1.heap.size := h2.lt
  have hb1 : Blk w2 g1 (Z1.map dv) := h2.kept f2
  have hg1s := hb1.lt
  have hg2 : w.heap.size ≤ g2 := by omega
  have hg12 : g1 ≠ g2 := by omega
  have hg2s := k2.lt
  obtain ⟨t1, t2, t3⟩ := by_top hB.len hB.dig Htop.out hv dB HS.out
  obtain ⟨Y, hY⟩ : ∃ Y, Y = Z2.take (m + 2) := ⟨_, rfl⟩
  have hYd : Dg Y := by rw [hY]; exact k4.take _
  have hYl : Y.length = m + 2 := by rw [hY]; simp; omega
  have hYv : val Y = val B * 2 ^ s := by rw [hY, val_take_all (by rw [k5]; exact t1), k5]
  have hYr : Sg (Z2.map dv) 0 Y := by rw [hY]; exact (Sg.map Z2).take _ (by omega)
  have hYt : gd Y (m + 1) ≠ 0 := by
    intro h0
    have e1 := val_take_succ Y (m + 1)
    rw [List.take_of_length_le (by omega), h0] at e1
    have e2 := val_lt (hYd.take (m + 1))
    rw [List.length_take, Nat.min_eq_left (by omega)] at e2
    omega
  obtain ⟨k0, hk0⟩ : ∃ k0, k0 = n - (m + 2) + 1 := ⟨_, rfl⟩
  have hk0n : k0 + (m + 1) = n := by omega
  have hA2 := val_lt hA.dig
  rw [hA.len] at hA2
  have hst : val (Z1.drop k0) < val Y := start_lt (by omega) h5 hA2 (by omega) (by rw [show n - k0 = m + 1 by omega, hYv]; exact t3)
  have hVpm : val Y ≤ pB (m + 2) := by omega
  have hVp : 0 < val Y := by have := pB_pos (m + 1); omega
  have HZ1 := Lib.hid h3
  have HZ2 := Lib.hid k3
  have H5 := Lib.hid h5
  have HYv := Lib.hid hYv
  have HK0 := Lib.hid hk0
  have HYl := Lib.hid hYl
  clear h1 h2 h3 h5 k1 k3 k5 t1 t2 t3 hY hYl hYv hA2 f1 f2 hw12 hk0
  go_wp2_with (at_make; refine wpList_make_full _ rfl _ _ 22 rfl 0 52 i0 (.int .u32 0) 1 Tryz.underlying22 hi hz0 hz1 _ _ _ _ k0 rfl rfl (by omega) (by omega) (by rw [hz2]; omega) (by unfold maxLen; omega) (Nat.zero_le _) ?_)
  intro w3 hown hgrow
  have hb3 := blk_of_made hown
  have hf23 : Fr [] w2 w3 := (Fr.refl _ _).grown hgrow (by simp)
  have hf3 : Fr [] w w3 := hf2.trans hf23 (by simp)
  replace hb1 := hb1.kept hf23
  have hb2 := k2.kept hf23
  clear hown hgrow k2
  have hg3 : w2.heap.size < w3.heap.size := hb3.lt
  generalize hgq : w2.heap.size = gq at *
  have HGQ := Lib.hid hgq
  have hwg : w.heap.size ≤ gq := by have := hf2.size; omega
  have hn1 : g1 ≠ gq := by omega
  have hn2 : g2 ≠ gq := by omega
  clear hgq hg1s hg2s hf23
  go_wp2
  go_loopw [10] (fun s wr => ∃ (k : Nat) (Q D : List Nat), k ≤ k0 ∧ s = .int .i64 ((k : Int) - 1) ∧ Q.length = k0 - k ∧ Dg Q ∧ D.length = n + 1 ∧ Dg D ∧ (∀ j, j < k → gd D j = gd Z1 j) ∧
      val (Z1.drop k) = val Q * val Y + val ((D.drop k).take (m + 2)) ∧ val ((D.drop k).take (m + 2)) < val Y ∧
      Blk wr gq (spl ((List.replicate k0 0).map dv) k Q) ∧ Blk wr g1 (D.map dv) ∧ Blk wr g2 (Z2.map dv) ∧ Fr [] w wr) (fun s _ => (intOf s + 1).toNat)
  case atStart =>
    have e1 : (Z1.drop k0).take (m + 2) = Z1.drop k0 := by
      rw [List.take_of_length_le]
      have := HZ1.out
      simp
      omega
    exact ⟨k0, [], Z1, Nat.le_refl _, congrArg (Value.int .i64) (by omega), by simp, Dg.nil, HZ1.out, h4, fun _ _ => rfl, by rw [e1]; simp [val], by rw [e1]; exact hst, by rw [spl_nil]; exact hb3, hb1, hb2, hf3⟩
  case round =>
    obtain ⟨k, Q, D, hk, rfl, hQ, hQd, hD, hDd, hDg, hv1, hv2, hB1, hB2, hB3, hf⟩ := hrel
    have HQ := Lib.hid hQ
    have HD := Lib.hid hD
    have HDg := Lib.hid hDg
    have Hv1 := Lib.hid hv1
    have Hv2 := Lib.hid hv2
    clear hQ hD hDg hv1 hv2 hb1 hb2 hb3 hst hg3 hf3
    cases k with
    | zero =>
      rw [show (((0 : Nat) : Int) - 1) = -1 from rfl]
      have hTd : Dg (D.take (m + 2)) := hDd.take _
      have hTl : (D.take (m + 2)).length = m + 2 := by simp [HD.out]; omega
      have hTs : Sg (D.map dv) 0 (D.take (m + 2)) := (Sg.map D).take _ (by rw [HD.out]; omega)
      have ST : Sl wr (some ⟨g1, 0, none⟩) (m + 2) (n + 1) (D.take (m + 2)) := ⟨hTl, by omega, by omega, (by intro h; cases h), hTs.rd hB2, hTd⟩
      have hv1 := Hv1.out
      have hv2 := Hv2.out
      rw [List.drop_zero, List.drop_zero, H5.out, HYv.out] at hv1
      rw [List.drop_zero, HYv.out] at hv2
      have hbp : 0 < val B := by
        apply Nat.pos_of_ne_zero
        intro h0
        rw [HYv.out, h0] at hVp
        omega
      have hfin := long_fin hbp hv1 hv2
      have HF := Lib.hid hfin
      have hQl : Q.length = k0 := by have := HQ.out; omega
      have hBq : Blk wr gq (Q.map dv) := by
        have h := hB1
        rw [spl_map, hQl] at h
        simpa using h
      have HQL := Lib.hid hQl
      have HK := HK0.out
      have HT := Lib.hid hTl
      clear hv1 hv2 hfin hQl hTl hTs hVp hVpm
      go_wp2_with fail
      refine (lowerBits_any _ _ _ s _ _ ST hs31 (by omega)).mono ?_
      rintro e w9 ⟨gr, R, rfl, hgr, hBr, hRl, hRd, hRv, hf9⟩
      have HRl := Lib.hid hRl
      have HRv : Hid (val R = val A % val B) := hRv.trans HF.out.2
      have hBq' := hBq.kept hf9
      have hf10 : Fr [] w w9 := hf.trans hf9 (by simp)
      have hgr' : w.heap.size ≤ gr := by have := hf.size; omega
      clear hRl hRv
      go_wp2_with fail
      go_ret2
      rw [← HK]
      exact ⟨gq, Q, gr, R, rfl, hwg, hgr', hBq', hBr, HQL.out, HRl.out, hQd, hRd, HF.out.1, HRv.out, hf10⟩
    | succ k =>
      rw [show (((k + 1 : Nat) : Int) - 1) = k from by omega]
      obtain ⟨P, hP⟩ : ∃ P, P = (D.drop k).take (m + 3) := ⟨_, rfl⟩
      have hkn : k + (m + 3) ≤ n + 1 := by omega
      have hDl := HD.out
      have hPl : P.length = m + 3 := by rw [hP]; simp; omega
      have hPd : Dg P := by rw [hP]; exact (hDd.drop _).take _
      have hPs : Sg (D.map dv) k P := by
        rw [hP]
        have := (Sg.map D).sub k (m + 3) (by omega)
        rwa [Nat.zero_add] at this
      have hPt : P.take (m + 2) = (D.drop k).take (m + 2) := by rw [hP, List.take_take]; congr 1; omega
      have hPval : val P = gd D k + 4294967296 * val ((D.drop (k + 1)).take (m + 2)) := by
        rw [hP, drop_cons_gd (by omega), List.take_succ_cons, val]
      have hPlt : val P < val Y * 4294967296 := by
        have h1 := hDd.at k
        have h2 := Hv2.out
        rw [hPval]
        omega
      have SP : Sl wr (some ⟨g1, k, none⟩) (m + 3) (n + 1 - k) P := ⟨hPl, by omega, by omega, (by intro h; cases h), hPs.rd hB2, hPd⟩
      have SY : Sl wr (some ⟨g2, 0, none⟩) (m + 2) (m + 2 + 1) Y := ⟨HYl.out, by omega, by omega, (by intro h; cases h), hYr.rd hB3, hYd⟩
      have HP := Lib.hid hPl
      have HPe := Lib.hid hP
      have HPt := Lib.hid hPt
      have HPlt := Lib.hid hPlt
      have HPv : Hid (val P = val (P.take (m + 2)) + pB (m + 2) * gd P (m + 2)) := by
        have := val_take_succ P (m + 2)
        rw [List.take_of_length_le (by omega)] at this
        exact this
      have hck : wr.cell? ⟨gq, k, none⟩ = some (dv 0) := hB1.cell (by rw [spl_at (by rw [List.length_map, List.length_replicate, HQ.out]; omega), if_pos (by omega), List.getElem?_map, List.getElem?_replicate, if_pos (show k < k0 by omega)]; rfl)
      have HStep : Hid (∀ t T', t * val Y + T' = val P → val (Z1.drop k) = val (t :: Q) * val Y + T') := fun t T' h => long_step (D := D) (n := m + 2) (by have := HZ1.out; omega) (HDg.out k (by omega)) Hv1.out (by omega) (by rw [h, hP])
      clear hP hPl hPt hPval hPlt hDl hPs
      have HC := Lib.hid hB1.free
      have HW := Lib.hid (hB1.set k)
      have HSd : Hid (∀ v, (spl ((List.replicate k0 0).map dv) (k + 1) Q).set k (dv v) = spl ((List.replicate k0 0).map dv) k (v :: Q)) := fun v => spl_down (by rw [List.length_map, List.length_replicate, HQ.out]; omega) v
      go_wp2_with fail
      rw [show k + (m + 2) + 1 - k = m + 3 from by omega]
      refine (guess_any _ _ m _ _ P Y _ SP SY (by omega) hYt HPlt.out).mono ?_
      rintro e w4 ⟨⟨gs, rfl, hgs⟩, hf4⟩
      have hB1' := hB1.kept hf4
      have hc4 : w4.cell? ⟨gq, k, none⟩ = some (dv 0) := by
        rw [hf4.cell (p := ⟨gq, k, none⟩) hB1.lt (by simp)]; exact hck
      have hc5 := hB1'.free k
      have hfs : Fr [gq] w4 (w4.setCell ⟨gq, k, none⟩ (dv gs)) := (Fr.refl _ _).setCell _ _ (by simp)
      have hB1s : Blk (w4.setCell ⟨gq, k, none⟩ (dv gs)) gq (spl ((List.replicate k0 0).map dv) k (gs :: Q)) := by
        rw [← HSd.out]
        exact hB1'.set k _
      have hB2s := (hB2.kept hf4).keep hfs (by simpa using hn1)
      have hB3s := (hB3.kept hf4).keep hfs (by simpa using hn2)
      have hcg : (w4.setCell ⟨gq, k, none⟩ (dv gs)).cell? ⟨gq, k, none⟩ = some (dv gs) := hB1s.cell (by rw [spl_at (by rw [List.length_map, List.length_replicate, List.length_cons, HQ.out]; omega), if_neg (by omega), if_pos (by simp), Nat.sub_self]; rfl)
      have hgsl := hgs.1
      have hPs : Sg (D.map dv) k P := by
        have h := (Sg.map D).sub k (m + 3) (by rw [HD.out]; omega)
        rw [Nat.zero_add] at h
        have e : P = (D.drop k).take (m + 3) := HPe.out
        rw [e]
        exact h
      have SY5 : Sl (w4.setCell ⟨gq, k, none⟩ (dv gs)) (some ⟨g2, 0, none⟩) (m + 2) (m + 2 + 1) Y := ⟨HYl.out, by omega, by omega, (by intro h; cases h), hYr.rd hB3s, hYd⟩
      have hf4' : Fr [] wr w4 := hf4
      clear hck HW hB1' hf4 hB1 hB2 hB3 SP SY
      go_wp2_with fail
      rw [show m + 3 = m + 2 + 1 from rfl]
      refine (subProduct_any g1 k (m + 2) (n + 1 - k) (m + 2 + 1) gs (some ⟨g2, 0, none⟩) _ P Y _ hB2s hPs hPd HP.out SY5 (by intro _ a ha; cases ha; exact fun h => hg12 h.symm) hgsl (by omega)).mono ?_
      rintro e w6 ⟨Z, r, rfl, hZ, hZd, hzv, hB2t, hf6⟩
      have hB1t := hB1s.keep hf6 (by simp; omega)
      have hB3t := hB3s.keep hf6 (by simp; omega)
      have hDl := HD.out
      have hZk : k + Z.length ≤ D.length := by omega
      have hB2u : Blk w6 g1 ((D.take k ++ Z ++ D.drop (k + (m + 2))).map dv) := by
        rw [spl_map, hZ] at hB2t
        exact hB2t
      have hfw : Fr [] w w6 := ((hf.trans hf4' (by simp)).trans hfs (by simp; omega)).trans hf6 (by simp; omega)
      have hfw2 := hfw
      have HZ := Lib.hid hZ
      have hzlt := val_lt hZd
      rw [hZ] at hzlt
      by_cases hU : gd P (m + 2) < r
      · have hdec : decide (gd P (m + 2) < r) = true := by simpa using hU
        rw [hdec]
        have HHu := Lib.hid hU
        have HHz := Lib.hid hzv
        have HHl := Lib.hid hzlt
        have hg0 : 1 ≤ gs := by
          apply Nat.pos_of_ne_zero
          intro h0
          rw [h0] at hzv
          have h1 : pB (m + 2) * 1 ≤ pB (m + 2) * r := Nat.mul_le_mul_left _ (by omega)
          omega
        have hc6 : w6.cell? ⟨gq, k, none⟩ = some (dv gs) := hB1t.cell (by rw [spl_at (by rw [List.length_map, List.length_replicate, List.length_cons, HQ.out]; omega), if_neg (by omega), if_pos (by simp), Nat.sub_self]; rfl)
        have hc7 := hB1t.free k
        have hwr : IntKind.u32.wrap ((gs : Int) - 1) = ((gs - 1 : Nat) : Int) := by rw [wrap_u32_lt (by omega) (by omega)]; omega
        have hft : Fr [gq] w6 (w6.setCell ⟨gq, k, none⟩ (dv (gs - 1))) := (Fr.refl _ _).setCell _ _ (by simp)
        have hB1v : Blk (w6.setCell ⟨gq, k, none⟩ (dv (gs - 1))) gq (spl ((List.replicate k0 0).map dv) k ((gs - 1) :: Q)) := by
          have h := hB1t.set k (dv (gs - 1))
          rw [← HSd.out, List.set_set, HSd.out] at h
          exact h
        have hB2v := hB2u.keep hft (by simpa using hn1)
        have hB3v := hB3t.keep hft (by simpa using hn2)
        have SY7 : Sl (w6.setCell ⟨gq, k, none⟩ (dv (gs - 1))) (some ⟨g2, 0, none⟩) (m + 2) (m + 2 + 1) Y := ⟨HYl.out, by omega, by omega, (by intro h; cases h), hYr.rd hB3v, hYd⟩
        have hZs : Sg ((D.take k ++ Z ++ D.drop (k + (m + 2))).map dv) k Z := by
          have h := (Sg.map (D.take k ++ Z ++ D.drop (k + (m + 2)))).sub k (m + 2) (by simp [HZ.out, HD.out]; omega)
          rw [Nat.zero_add, mid_take (by rw [HD.out]; omega) HZ.out] at h
          exact h
        clear hzv hzlt hU hdec hB2t hDl hZ hfs hc4 hc5 hcg hB1s hB2s hB3s hPs hfw2
        go_wp2_with fail
        refine (addProduct_any g1 k (n + 1 - k) (m + 2) (m + 2 + 1) 1 (some ⟨g2, 0, none⟩) _ Z Y _ hB2v hZs hZd HZ.out SY7 (by intro _ a ha; cases ha; exact fun h => hg12 h.symm) (by omega) (by omega)).mono ?_
        rintro e w8 ⟨Z', r', rfl, hZ', hZd', hr', hzv', hB2w, hf8⟩
        have hzl' := val_lt hZd'
        rw [hZ'] at hzl'
        have hfin := long_yes HPv.out HHz.out HHu.out hgs.2.2 hVpm hVp HHl.out hzl' hzv'
        have HNew := Lib.hid (HStep.out (gs - 1) (val Z') hfin.2.1)
        have HLt := Lib.hid hfin.2.2
        have HZ' := Lib.hid hZ'
        have HMap : spl ((D.take k ++ Z ++ D.drop (k + (m + 2))).map dv) k Z' = (D.take k ++ Z' ++ D.drop (k + (m + 2))).map dv := by
          rw [spl_map, hZ']
          have h1 : (D.take k).length = k := by simp [HD.out]; omega
          congr 2
          · rw [List.append_assoc, List.take_append_of_le_length (by omega), List.take_of_length_le (by omega)]
          · rw [List.drop_append_of_le_length (by simp [HD.out, HZ.out]; omega), List.drop_of_length_le (by simp [HD.out, HZ.out]; omega), List.nil_append]
        have hB2x : Blk w8 g1 ((D.take k ++ Z' ++ D.drop (k + (m + 2))).map dv) := by rw [← HMap]; exact hB2w
        have hB1x := hB1v.keep hf8 (by simp; omega)
        have hB3x := hB3v.keep hf8 (by simp; omega)
        have hfx : Fr [] w w8 := (hfw.trans hft (by simp; omega)).trans hf8 (by simp; omega)
        clear hzl' hzv' hfin hZ' HMap hB2w hgs hwr hc6 hc7
        go_wp2_with fail
        go_roundw
        case rel =>
          refine ⟨k, (gs - 1) :: Q, D.take k ++ Z' ++ D.drop (k + (m + 2)), by omega, rfl, by simp [HQ.out]; omega, Dg.cons (by omega) hQd, by simp [HZ'.out, HD.out]; omega, ((hDd.take _).append hZd').append (hDd.drop _), ?_, ?_, ?_, hB1x, hB2x, hB3x, hfx⟩
          · intro j hj
            rw [gd_append_left (by simp [HD.out]; omega), gd_append_left (by simp [HD.out]; omega), gd_take hj, HDg.out j (by omega)]
          · rw [mid_take (by rw [HD.out]; omega) HZ'.out]; exact HNew.out
          · rw [mid_take (by rw [HD.out]; omega) HZ'.out]; exact HLt.out
        case measure => simp [intOf]
      · have hfin := long_no HPv.out hzv hU hgs.2.1 hVpm hVp
        have hdec : decide (gd P (m + 2) < r) = false := by simpa using hU
        have HNew := Lib.hid (HStep.out gs (val Z) hfin.1)
        have HLt := Lib.hid hfin.2
        rw [hdec]
        clear hzv hzlt hgs hU hdec hfin hB2t hDl hZ hfs
        go_wp2_with fail
        go_roundw
        case rel =>
          refine ⟨k, gs :: Q, D.take k ++ Z ++ D.drop (k + (m + 2)), by omega, rfl, by simp [HQ.out]; omega, Dg.cons hgsl hQd, by simp [HZ.out, HD.out]; omega, ((hDd.take _).append hZd).append (hDd.drop _), ?_, ?_, ?_, hB1t, hB2u, hB3t, hfw⟩
          · intro j hj
            rw [gd_append_left (by simp [HD.out]; omega), gd_append_left (by simp [HD.out]; omega), gd_take hj, HDg.out j (by omega)]
          · rw [mid_take (by rw [HD.out]; omega) HZ.out]; exact HNew.out
          · rw [mid_take (by rw [HD.out]; omega) HZ.out]; exact HLt.out
        case measure => simp [intOf]

end Go.Proofs.YtagciepnhjbopaaGreatDoor

namespace Go.Proofs.YtagciepnhjbopaaGreatDoor
open Go.RowKit

theorem Fr.of_below {w w' : World} (h : Below w.heap.size w w') : Fr [] w w' := ⟨h.os, h.tape, h.output, h.size, fun k hk _ => h.block k hk⟩

def Nm (B : List Nat) : Prop := B = [] ∨ gd B (B.length - 1) ≠ 0

theorem Nm.dg (n : Nat) : Nm (dg n) := by
  by_cases h : n = 0
  · left; rw [h, dg_zero]
  · right
    have hl : (Go.Proofs.YtagciepnhjbopaaGreatDoor.dg n).length ≠ 0 := fun e => h (dg_nil.1 (List.eq_nil_of_length_eq_zero e))
    exact dg_last (by omega)

theorem Nm.val_ge {B : List Nat} (h : Nm B) (h0 : 0 < B.length) : pB (B.length - 1) ≤ val B := by
  rcases h with rfl | h
  · simp at h0
  · have h1 := val_take_succ B (B.length - 1)
    rw [List.take_of_length_le (by omega)] at h1
    have h2 : pB (B.length - 1) * 1 ≤ pB (B.length - 1) * gd B (B.length - 1) := Nat.mul_le_mul_left _ (by omega)
    omega

theorem Nm.lt_of_len {A B : List Nat} (hA : Dg A) (hB : Nm B) (_h : A.length < B.length) : val A < val B := by
  have h1 := val_lt hA
  have h2 := hB.val_ge (by omega)
  have h3 := pB_mono (j := A.length) (k := B.length - 1) (by omega)
  omega

def DivPost (w : World) (A B : List Nat) (e : Ending) (w' : World) : Prop :=
  ∃ pq nq cq Q pr nr cr R, e = .returned (.tuple #[.slice pq nq cq, .slice pr nr cr]) ∧ Ow w' w.heap.size pq nq cq Q ∧ Ow w' w.heap.size pr nr cr R ∧
    val Q = val A / val B ∧ val R = val A % val B ∧ nr = B.length ∧ nq ≤ A.length ∧ Fr [] w w'

set_option maxRecDepth 100000 in
set_option maxHeartbeats 2000000 in
theorem divide_any (p q : Option Addr) (n m c d : Nat) (A B : List Nat) (w : World) (hA : Sl w p n c A) (hB : Sl w q m d B) (hn : n ≤ 1099511627774) (_hm : 1 ≤ m) (_hm2 : m ≤ 1099511627774) (hv : gd B (m - 1) ≠ 0) :
    Calls Tryz.prog 158 #[.slice p n c, .slice q m d] w (DivPost w A B) := by
  obtain ⟨i0, hi, hz0, hz1, hz2⟩ := info_parts Tryz.infoU
  have hBl := hB.len
  have hAl := hA.len
  have hNm : Nm B := Or.inr (by rw [hBl]; exact hv)
  by_cases h1 : n < m
  · have hlt := hNm.lt_of_len hA.dig (by omega)
    have hAB := Lib.hid hlt
    have HAl := Lib.hid hAl
    have HBl := Lib.hid hBl
    have hsrc := hA.src
    have hd1 : decide (n < m) = true := by simpa using h1
    clear hlt hAl hBl
    go_enter Tryz.func158, Tryz.ntmps158
    go_wp2_with (at_make; refine wpList_make_full _ rfl _ _ 22 rfl 0 52 i0 (.int .u32 0) 1 Tryz.underlying22 hi hz0 hz1 _ _ _ _ m rfl rfl (by omega) (by omega) (by rw [hz2]; omega) (by unfold maxLen; omega) (Nat.zero_le _) ?_)
    intro w3 hown hgrow
    have hb3 := blk_of_made hown
    have hf3 : Fr [] w w3 := (Fr.refl _ _).grown hgrow (by simp)
    clear hown hgrow
    have hA3 := hA.kept hf3
    have D1 : Hid ((A.map dv).length = Nat.min n m) := by show _ = _; rw [List.length_map, HAl.out]; exact (Nat.min_eq_left (by omega)).symm
    have D2 : Hid (0 < (A.map dv).length → some (⟨w.heap.size, 0, none⟩ : Addr) = some ⟨w.heap.size, 0, none⟩ ∧ ∃ ad, p = some ad ∧ ∀ j v, (A.map dv)[j]? = some v → w3.cell? (ad.add j) = some v) := by
      intro h0
      rcases hsrc with ⟨_, _, _, rfl⟩ | ⟨a, rfl⟩
      · simp at h0
      · exact ⟨rfl, a, rfl, hA3.rd.news⟩
    have D3 : Hid (0 + (A.map dv).length ≤ ((List.replicate m 0).map dv).length) := by show _ ≤ _; rw [List.length_map, List.length_map, List.length_replicate, HAl.out]; omega
    go_wp2_with (refine wpList_copy_splice rfl _ _ 22 22 rfl 52 Tryz.underlying22 (by rw [hi]; simp [hz1]) _ _ _ _ _ _ rfl rfl w.heap.size 0 ((List.replicate m 0).map dv) 52 (by exact hb3) (A.map dv) (by exact D1) (by exact D2) (by exact D3) (by exact dv_oneCell _) w.heap.size w hf3.below (Nat.le_refl _) ?_)
    intro w4 hcp hbel
    have hf4 : Fr [] w w4 := Fr.of_below hbel
    have hR : Blk w4 w.heap.size ((A ++ List.replicate (m - n) 0).map dv) := by
      have h := hcp.out
      have e : splice (List.replicate m (dv 0)) 0 (A.map dv) = (A ++ List.replicate (m - n) 0).map dv := by
        simp [splice, HAl.out]
      rw [e] at h
      exact h
    have hRl : (A ++ List.replicate (m - n) 0).length = m := by simp [HAl.out]; omega
    have hRO := Ow.of_blk (base := w.heap.size) hR (Nat.le_refl _) (by omega) (hA.dig.append (Dg.zeros _))
    rw [hRl] at hRO
    have hRv : val (A ++ List.replicate (m - n) 0) = val A := by rw [val_append, val_zeros]; omega
    have HRO := Lib.hid hRO
    have HRv := Lib.hid hRv
    clear hcp hbel hR hRl hRO hRv D1 D2 D3
    go_wp2
    go_ret2
    exact ⟨none, 0, 0, [], _, m, m, _, rfl, Ow.zero _ _, HRO.out, by rw [Nat.div_eq_of_lt hAB.out]; rfl, by rw [HRv.out, Nat.mod_eq_of_lt hAB.out], HBl.out.symm, Nat.zero_le _, hf4⟩
  · have hd1 : decide (n < m) = false := by simpa using h1
    by_cases h2 : m = 1
    · subst h2
      obtain ⟨b2, o2, rfl, _, r2⟩ := hB.rd.open (by omega)
      have c1 := r2 0 (by omega)
      rw [Nat.add_zero] at c1
      have d1 := hB.dig.at 0
      have hB0 : gd B 0 ≠ 0 := hv
      have hBv : val B = gd B 0 := by rw [val_two (by omega), gd_ge (j := 1) (by omega)]; omega
      have HAl := Lib.hid hAl
      have HBl := Lib.hid hBl
      have HBv := Lib.hid hBv
      clear r2 hAl hBl hBv hv
      generalize hg : gd B 0 = d0 at *
      have HD := Lib.hid hg
      clear hg
      go_enter Tryz.func158, Tryz.ntmps158
      go_wp2_with fail
      refine (clone_any _ _ _ _ _ hA (by omega)).mono ?_
      rintro e w3 ⟨p3, c3, rfl, h3, f3⟩
      have c1' : w3.cell? ⟨b2, o2, none⟩ = some (dv d0) := by
        obtain ⟨b, o, e1, e2, _⟩ := hB.rd.open (by have := HBl.out; omega)
        cases e1
        rw [f3.cell (p := ⟨b2, o2, none⟩) e2 (by simp)]
        exact c1
      rw [HAl.out] at h3
      rw [HAl.out]
      go_wp2_with fail
      refine (divd_any _ _ _ d0 _ _ _ h3 (by omega) d1 (by omega)).mono ?_
      rintro e w4 ⟨rfl, Q, hQl, hQv, hQ, f4⟩
      have hf4 : Fr [] w w4 := h3.frame (Nat.le_refl _) f3 f4
      have hmod : val A % d0 < 4294967296 := by have := Nat.mod_lt (val A) (show 0 < d0 by omega); omega
      have hR := Ow.made w4 (base := w.heap.size) [val A % d0] hf4.size (by simp) (Dg.one hmod)
      simp only [List.map_cons, List.map_nil, List.length_cons, List.length_nil] at hR
      have hfa : Fr [] w4 (w4.alloc (.cells #[dv (val A % d0)] 52)) := (Fr.refl _ _).alloc _
      have HQ := Lib.hid (hQ.kept hfa)
      have HR := Lib.hid hR
      have HQv : Hid (val Q = val A / val B) := by show _ = _; rw [hQv, HBv.out]
      have HRv : Hid (val [val A % d0] = val A % val B) := by show _ = _; rw [val_one, HBv.out]
      have hf5 : Fr [] w (w4.alloc (.cells #[dv (val A % d0)] 52)) := hf4.trans hfa (by simp)
      clear hQ hR hQv hQl
      generalize val A % d0 = rr at *
      go_wp2_with fail
      go_ret2
      exact ⟨p3, n, c3, Q, _, 1, 1, [rr], rfl, HQ.out, HR.out, HQv.out, HRv.out, HBl.out.symm, by rw [HAl.out]; exact Nat.le_refl _, hf5⟩
    · obtain ⟨k, rfl⟩ : ∃ k, m = k + 2 := ⟨m - 2, by omega⟩
      have g1 : (((k + 2 : Nat) : Int) == 1) = false := beq_eq_false_iff_ne.2 (by omega)
      have g2 : (((k : Nat) : Int) + 2 == 1) = false := beq_eq_false_iff_ne.2 (by omega)
      have g3 : decide (n < k + 2) = false := hd1
      have HAl := Lib.hid hAl
      have HBl := Lib.hid hBl
      clear hAl hBl
      go_enter Tryz.func158, Tryz.ntmps158
      go_wp2_with fail
      refine (divideLong_any p q n k c d A B w hA hB hn (by omega) hv).mono ?_
      rintro e w' ⟨gq, Q, gr, R, rfl, h3, h4, h5, h6, h7, h8, h9, h10, h11, h12, h13⟩
      have HQ := Ow.of_blk h5 h3 (by omega) h9
      have HR := Ow.of_blk h6 h4 (by omega) h10
      rw [h7] at HQ
      rw [h8] at HR
      have H7 := Lib.hid h7
      have H8 := Lib.hid h8
      have H11 := Lib.hid h11
      have H12 := Lib.hid h12
      clear h7 h8 h11 h12
      go_wp2_with fail
      go_ret2
      exact ⟨_, _, _, Q, _, _, _, R, rfl, HQ, HR, H11.out, H12.out, HBl.out.symm, by rw [HAl.out]; omega, h13⟩

theorem divmod_yes (p q : Option Addr) (n m c d : Nat) (A B : List Nat) (w : World) (hA : Sl w p n c A) (hB : Sl w q m d B) (_hn : n ≤ 1099511627774) (_hm2 : m ≤ 1099511627774) (hv : val B ≠ 0) :
    Calls Tryz.prog 201 #[.slice p n c, .slice q m d] w fun e w' => ∃ pq cq pr cr, e = .returned (.tuple #[.slice pq (dg (val A / val B)).length cq, .slice pr (dg (val A % val B)).length cr, .int .i64 0]) ∧
      Ow w' w.heap.size pq (dg (val A / val B)).length cq (dg (val A / val B)) ∧ Ow w' w.heap.size pr (dg (val A % val B)).length cr (dg (val A % val B)) ∧ Fr [] w w' := by
  have kA := hA.cut
  have kB := hB.cut
  have lA := dg_len_val hA.dig
  have lB := dg_len_val hB.dig
  rw [hA.len] at lA
  rw [hB.len] at lB
  have hBn : (dg (val B)).length ≠ 0 := fun e => hv (dg_nil.1 (List.eq_nil_of_length_eq_zero e))
  have hNm : gd (dg (val B)) ((dg (val B)).length - 1) ≠ 0 := dg_last (by omega)
  go_enter Tryz.func201, Tryz.ntmps201
  go_wp2_with fail
  refine (cut_any _ _ _ _ _ hA).mono ?_
  rintro e w' ⟨rfl, rfl⟩
  go_wp2_with fail
  refine (cut_any _ _ _ _ _ hB).mono ?_
  rintro e w' ⟨rfl, rfl⟩
  have VA := Lib.hid (val_dg (val A))
  have VB := Lib.hid (val_dg (val B))
  clear hA hB
  generalize dg (val A) = A' at *
  generalize dg (val B) = B' at *
  have g1 : ((B'.length : Int) == 0) = false := beq_eq_false_iff_ne.2 (by omega)
  go_wp2_with fail
  refine (divide_any p q _ _ c d A' B' w kA kB (by omega) (by omega) (by omega) hNm).mono ?_
  rintro e w1 ⟨pq, nq, cq, Q, pr, nr, cr, R, rfl, HQ, HR, h1, h2, h3, h4, hf⟩
  rw [VA.out, VB.out] at h1 h2
  have H1 := Lib.hid h1
  have H2 := Lib.hid h2
  clear h1 h2 h3 h4
  go_wp2_with fail
  refine (normal_any _ _ _ _ _ _ HQ).mono ?_
  rintro e w2 ⟨⟨p', c', rfl, hq'⟩, rfl⟩
  go_wp2_with fail
  refine (normal_any _ _ _ _ _ _ HR).mono ?_
  rintro e w2 ⟨⟨p2, c2, rfl, hr'⟩, rfl⟩
  rw [H1.out] at hq' ⊢
  rw [H2.out] at hr' ⊢
  go_wp2_with fail
  go_ret3
  exact ⟨p', c', p2, c2, rfl, hq', hr', hf⟩

end Go.Proofs.YtagciepnhjbopaaGreatDoor

namespace Go.Proofs.YtagciepnhjbopaaGreatDoor
open Go.RowKit

theorem dg_one : dg 1 = [1] := by
  rw [dg_pos (by decide)]
  have : dg (1 / 4294967296) = [] := dg_zero
  rw [this]

theorem madeCells_dv (n : Nat) : madeCells #[Value.int .u32 0] n = ((List.replicate n 0).map dv).toArray := by
  apply Array.ext
  · simp [madeCells]
  · intro i h1 h2
    simp [madeCells, Nat.mod_one]

theorem wpList_mk {w : World} {ops : Array Oper} {rest : List Oper} {o : Oper} {a : Act} {Q : Exit → Act → World → Prop}
    (hg : o.guard = none) (x y : Operand) (hop : o.op = Op.makeSlice 22 x y)
    (kl kc : IntKind) (L C : Int) (l c : Nat) (hl : a.eval x = .int kl L) (hc : a.eval y = .int kc C) (hL : L = (l : Int)) (hC : C = (c : Int)) (_hlc : l ≤ c) (_h63 : c ≤ 70368744177664)
    (hK : wpList Tryz.prog ops Q rest (a.put o.dst (.slice (some ⟨w.heap.size, 0, none⟩) l c)) (w.alloc (.cells ((List.replicate c 0).map dv).toArray 52))) :
    wpList Tryz.prog ops Q (o :: rest) a w := by
  obtain ⟨i0, hi, hz0, hz1, hz2⟩ := info_parts Tryz.infoU
  refine wpList_plain hg fun K hK' => ?_
  have hrun := run_make (P := Tryz.prog) w 22 52 i0 (.int .u32 0) Tryz.underlying22 hi hz0 kl kc L C (by omega) (by omega) (by rw [hz2]; omega) (by omega)
  have e : madeCells (Value.int .u32 0).cells (C.toNat * i0.size) = ((List.replicate c 0).map dv).toArray := by
    rw [hz1, Nat.mul_one, hC, Int.toNat_natCast]
    exact madeCells_dv c
  rw [e, hL, hC, Int.toNat_natCast, Int.toNat_natCast] at hrun
  subst hL
  subst hC
  unfold Oper.wp
  simp only [execOp, hop, hl, hc, hrun, Result.andThen, Sem.run_bind, Sem.run_pure]
  exact hK' _ _ hK

theorem bl_dg {n L : Nat} (h : (dg n).length = L + 1) : bl n = 32 * L + bl (gd (dg n) L) := by
  have h0 := dg_last h
  have h1 := val_take_succ (dg n) L
  rw [List.take_of_length_le (by omega), val_dg] at h1
  have h2 := val_lt ((Dg_dg n).take L)
  rw [List.length_take, Nat.min_eq_left (by omega)] at h2
  have h3 := bl_lt (gd (dg n) L)
  have h4 := bl_ge h0
  have h5 := bl_pos h0
  generalize gd (dg n) L = t at *
  have hp : pB L = 2 ^ (32 * L) := by unfold pB; rw [Nat.pow_mul]
  rw [hp] at h1 h2
  apply bl_eq
  · rw [Nat.pow_add]
    have : 2 ^ (32 * L) * (t + 1) ≤ 2 ^ (32 * L) * 2 ^ bl t := Nat.mul_le_mul_left _ h3
    rw [Nat.mul_add] at this
    omega
  · have e : 32 * L + bl t = 32 * L + (bl t - 1) + 1 := by omega
    rw [e, Nat.pow_succ, Nat.pow_add]
    have : 2 ^ (32 * L) * 2 ^ (bl t - 1) ≤ 2 ^ (32 * L) * t := Nat.mul_le_mul_left _ h4
    omega

set_option maxRecDepth 100000 in
set_option maxHeartbeats 1000000 in
theorem bitLen_any (p : Option Addr) (n c : Nat) (xs : List Nat) (w : World) (h : Sl w p n c xs) (_hn : n ≤ 1099511627776) :
    Calls Tryz.prog 196 #[.slice p n c] w fun e w' => e = .returned (.int .i64 (bl (val xs) : Nat)) ∧ w = w' := by
  have k := h.cut
  have l1 := dg_len_val h.dig
  rw [h.len] at l1
  go_enter Tryz.func196, Tryz.ntmps196
  go_wp2_with fail
  refine (cut_any _ _ _ _ _ h).mono ?_
  rintro e w' ⟨rfl, rfl⟩
  clear h
  by_cases h0 : val xs = 0
  · have hl : (dg (val xs)).length = 0 := by rw [h0, dg_zero]; rfl
    have hb : bl (val xs) = 0 := by rw [h0]; rfl
    have HL := Lib.hid hl
    have HB := Lib.hid hb
    clear hl hb h0 k l1
    rw [HL.out]
    go_wp2_with fail
    go_ret
    rw [HB.out]
    exact ⟨rfl, rfl⟩
  · obtain ⟨L, hL⟩ : ∃ L, (dg (val xs)).length = L + 1 := ⟨(dg (val xs)).length - 1, by have : (dg (val xs)).length ≠ 0 := fun e => h0 (dg_nil.1 (List.eq_nil_of_length_eq_zero e)); omega⟩
    have hb := bl_dg hL
    obtain ⟨b, o, rfl, _, hc⟩ := k.rd.open (by omega)
    have hcl := hc L (by omega)
    have hd := (Dg_dg (val xs)).at L
    have hb32 := bl_le (x := gd (dg (val xs)) L) (n := 32) (by omega)
    clear hc k
    generalize gd (dg (val xs)) L = t at *
    have HB := Lib.hid hb
    have HL := Lib.hid hL
    rw [hL]
    have hLb : L ≤ 1099511627776 := by omega
    clear hL hb h0 l1
    have g1 : (((L + 1 : Nat) : Int) == 0) = false := beq_eq_false_iff_ne.2 (by omega)
    have g2 : ((L : Int) + 1 == 0) = false := beq_eq_false_iff_ne.2 (by omega)
    go_wp2_with fail
    refine (lz32_any t _ hd).mono ?_
    rintro e w' ⟨rfl, rfl⟩
    go_wp2_with fail
    go_ret
    rw [HB.out]
    refine ⟨ret_int ?_, rfl⟩
    show ((L : Int) + 1) * 32 - ((32 - bl t : Nat) : Int) = _
    omega

end Go.Proofs.YtagciepnhjbopaaGreatDoor
