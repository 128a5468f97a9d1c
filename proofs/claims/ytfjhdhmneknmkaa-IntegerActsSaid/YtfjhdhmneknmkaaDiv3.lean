/- divideLong, divide, DivMod. -/
import Derived.Test.YtfjhdhmneknmkaaDiv2
import Derived.Test.YtfjhdhmneknmkaaBits
import Derived.Deep.RegionWith
namespace Go.Proofs.Ytfjhdhmneknmkaa
open Go.RowKit

/-- One step of the long division. -/
theorem long_step {A D Q : List Nat} {i n V t T' : Nat} (hi : i < A.length) (hs : gd D i = gd A i)
    (h : val (A.drop (i + 1)) = val Q * V + val ((D.drop (i + 1)).take n)) (hl : i < D.length)
    (ht : t * V + T' = val ((D.drop i).take (n + 1))) : val (A.drop i) = val (t :: Q) * V + T' := by
  rw [drop_cons_gd hi, val, h, val]
  rw [drop_cons_gd hl, List.take_succ_cons, val] at ht
  rw [← hs]
  grind

theorem long_no {vP V g r pm U z z0 : Nat} (h0 : vP = z0 + pm * U) (h1 : z + g * V = z0 + pm * r) (hU : ¬ U < r) (hg1 : vP / V ≤ g) (hV : V ≤ pm) (hVp : 0 < V) : g * V + z = vP ∧ z < V := by
  obtain ⟨e, rfl⟩ : ∃ e, U = r + e := ⟨U - r, by omega⟩
  have h2 : vP = g * V + z + pm * e := by rw [h0, Nat.mul_add]; omega
  have h3 : vP < (g + 1) * V := by
    have := Nat.lt_mul_div_succ vP hVp
    have h4 : V * (vP / V + 1) ≤ V * (g + 1) := Nat.mul_le_mul_left _ (by omega)
    rw [Nat.mul_comm V (g + 1)] at h4
    omega
  rw [Nat.add_mul] at h3
  cases e with
  | zero => omega
  | succ e =>
    rw [Nat.mul_add] at h2
    omega

theorem long_yes {vP V g r r' pm U z z' z0 : Nat} (h0 : vP = z0 + pm * U) (h1 : z + g * V = z0 + pm * r) (hU : U < r) (hg2 : g ≤ vP / V + 1) (hV : V ≤ pm) (hVp : 0 < V)
    (hz : z < pm) (hz' : z' < pm) (h2 : z' + pm * r' = z + 1 * V) : 1 ≤ g ∧ (g - 1) * V + z' = vP ∧ z' < V := by
  obtain ⟨e, rfl⟩ : ∃ e, r = U + 1 + e := ⟨r - U - 1, by omega⟩
  have h3 : z + g * V = vP + pm + pm * e := by rw [h1, h0, Nat.mul_add, Nat.mul_add]; omega
  have hd := Nat.div_mul_le_self vP V
  have hm := Nat.div_add_mod vP V
  have hl := Nat.mod_lt vP hVp
  cases g with
  | zero => omega
  | succ g =>
    rw [Nat.add_sub_cancel]
    rw [Nat.add_mul] at h3
    have h4 : g * V ≤ vP / V * V := Nat.mul_le_mul_right _ (by omega)
    have h5 : z' + pm * r' = (vP - g * V) + pm * (e + 1) := by rw [Nat.mul_add]; omega
    have h6 : vP / V ≤ g := by
      apply Nat.le_of_not_lt
      intro h
      have : (g + 1) * V ≤ vP / V * V := Nat.mul_le_mul_right _ h
      rw [Nat.add_mul] at this
      omega
    have h7 : vP - g * V < V := by
      have : V * (vP / V) ≤ V * g := Nat.mul_le_mul_left _ h6
      rw [Nat.mul_comm V g] at this
      omega
    have h8 : z' = vP - g * V := by
      have e1 : (z' + pm * r') % pm = z' := by rw [Nat.add_mul_mod_self_left, Nat.mod_eq_of_lt hz']
      have e2 : (vP - g * V + pm * (e + 1)) % pm = vP - g * V := by rw [Nat.add_mul_mod_self_left, Nat.mod_eq_of_lt (by omega)]
      rw [← e1, h5, e2]
    omega

theorem long_fin {a b s Q T : Nat} (_hb : 0 < b) (h : a * 2 ^ s = Q * (b * 2 ^ s) + T) (hT : T < b * 2 ^ s) : Q = a / b ∧ T / 2 ^ s = a % b := by
  have hp := Nat.two_pow_pos s
  have hdiv : 2 ^ s * (a - Q * b) = T := by
    rw [Nat.mul_sub, Nat.mul_comm _ a, Nat.mul_comm _ (Q * b), Nat.mul_assoc, h]
    omega
  have hle : Q * b ≤ a := by
    apply Nat.le_of_mul_le_mul_right _ hp
    rw [Nat.mul_assoc, h]
    omega
  have hlt : a - Q * b < b := by
    apply Nat.lt_of_mul_lt_mul_left (a := 2 ^ s)
    rw [hdiv, Nat.mul_comm]
    exact hT
  have hq : a / b = Q := by
    apply Nat.div_eq_of_lt_le hle
    rw [Nat.succ_mul]
    omega
  refine ⟨hq.symm, ?_⟩
  rw [← hdiv, Nat.mul_div_cancel_left _ hp]
  have := Nat.div_add_mod a b
  rw [hq, Nat.mul_comm] at this
  omega

/-- The highest digit of the raised divisor. -/
theorem by_top {B : List Nat} {m s top : Nat} (hl : B.length = m + 2) (hd : Dg B) (ht : gd B (m + 1) = top) (h0 : top ≠ 0) (h32 : top < 4294967296) (hs : s = 32 - bl top) :
    val B * 2 ^ s < pB (m + 2) ∧ pB (m + 1) ≤ val B * 2 ^ s ∧ pB (m + 1) * 2 ^ s ≤ val B * 2 ^ s := by
  have h1 := val_take_succ B (m + 1)
  rw [List.take_of_length_le (by omega), ht] at h1
  have h2 := val_lt (hd.take (m + 1))
  rw [List.length_take, Nat.min_eq_left (by omega)] at h2
  have h3 := bl_lt top
  have h4 := bl_le (x := top) (n := 32) (by omega)
  have hp := Nat.two_pow_pos s
  have h5 : (top + 1) * 2 ^ s ≤ 2 ^ bl top * 2 ^ s := Nat.mul_le_mul_right _ h3
  rw [← Nat.pow_add, show bl top + s = 32 by omega] at h5
  have h6 : (val B + 1) * 2 ^ s ≤ (pB (m + 1) * (top + 1)) * 2 ^ s := Nat.mul_le_mul_right _ (by rw [Nat.mul_add]; omega)
  have h7 : pB (m + 1) * ((top + 1) * 2 ^ s) ≤ pB (m + 1) * 2 ^ 32 := Nat.mul_le_mul_left _ h5
  have h8 : pB (m + 2) = pB (m + 1) * 2 ^ 32 := by rw [pB_succ, Nat.mul_comm]
  have h9 : pB (m + 1) * 1 ≤ pB (m + 1) * top := Nat.mul_le_mul_left _ (by omega)
  have h10 : pB (m + 1) * 2 ^ s ≤ val B * 2 ^ s := Nat.mul_le_mul_right _ (by omega)
  have h11 : pB (m + 1) * 1 ≤ pB (m + 1) * 2 ^ s := Nat.mul_le_mul_left _ hp
  rw [Nat.mul_assoc] at h6
  rw [Nat.add_mul] at h6
  omega

/-- The highest digits of the raised dividend are less than the raised divisor. -/
theorem start_lt {Z A : List Nat} {n k s V : Nat} (hk : k ≤ Z.length) (h : val Z = val A * 2 ^ s) (hA : val A < pB n) (hkn : k ≤ n) (hV : pB (n - k) * 2 ^ s ≤ V) : val (Z.drop k) < V := by
  have h1 := val_split Z k hk
  have hp := pB_pos k
  have h2 : pB n = pB k * pB (n - k) := by rw [← pB_add]; congr 1; omega
  have h3 : (val A + 1) * 2 ^ s ≤ (pB k * pB (n - k)) * 2 ^ s := Nat.mul_le_mul_right _ (by rw [← h2]; exact hA)
  have hps := Nat.two_pow_pos s
  have h4 : pB k * (pB (n - k) * 2 ^ s) ≤ pB k * V := Nat.mul_le_mul_left _ hV
  rw [Nat.mul_assoc, Nat.add_mul] at h3
  apply Nat.lt_of_mul_lt_mul_left (a := pB k)
  omega

theorem mid_take {D Z E : List Nat} {k j : Nat} (hk : k ≤ D.length) (hj : Z.length = j) : ((D.take k ++ Z ++ E).drop k).take j = Z := by
  subst hj
  have h1 : (D.take k).length = k := by simp; omega
  rw [List.append_assoc, List.drop_append_of_le_length (by omega), List.drop_of_length_le (by omega), List.nil_append, List.take_left]

set_option maxRecDepth 100000 in
set_option maxHeartbeats 2000000 in
theorem divideLong_any (p q : Option Addr) (n m c d : Nat) (A B : List Nat) (w : World) (hA : Sl w p n c A) (hB : Sl w q (m + 2) d B) (hn : n ≤ 1099511627774) (hmn : m + 2 ≤ n) (hv : gd B (m + 1) ≠ 0) :
    Calls Try.prog 105 #[.slice p n c, .slice q (m + 2) d] w fun e w' =>
      ∃ gq Q gr R, e = .returned (.tuple #[.slice (some ⟨gq, 0, none⟩) (n - (m + 2) + 1) (n - (m + 2) + 1), .slice (some ⟨gr, 0, none⟩) (m + 2) (m + 2)]) ∧ w.heap.size ≤ gq ∧ w.heap.size ≤ gr ∧
        Blk w' gq (Q.map dv) ∧ Blk w' gr (R.map dv) ∧ Q.length = n - (m + 2) + 1 ∧ R.length = m + 2 ∧ Dg Q ∧ Dg R ∧ val Q = val A / val B ∧ val R = val A % val B ∧ Fr [] w w' := by
  obtain ⟨i0, hi, hz0, hz1, hz2⟩ := info_parts Try.infoU
  obtain ⟨b2, o2, rfl, _, r2⟩ := hB.rd.open (by rw [hB.len]; omega)
  have cB := r2 (m + 1) (by rw [hB.len]; omega)
  have dB := hB.dig.at (m + 1)
  generalize htop : gd B (m + 1) = top at *
  have Htop := Lib.hid htop
  clear htop r2
  have hbl := bl_pos hv
  have hbl2 := bl_le (x := top) (n := 32) (by omega)
  go_enter Try.func105, Try.ntmps105
  go_wp2_with fail
  refine (lz32_any _ _ dB).mono ?_
  rintro e w' ⟨rfl, rfl⟩
  obtain ⟨s, hs⟩ : ∃ s, s = 32 - bl top := ⟨_, rfl⟩
  rw [← hs]
  have HS := Lib.hid hs
  have hs31 : s ≤ 31 := by omega
  clear hs hbl hbl2
  go_wp2_with fail
  go_region_with (first | (go_at_call_of 99 (Value.slice p n c); refine (raiseBits_any p n c s A _ ?_ hs31 (by omega)).mono ?_; exact hA.kept ((Fr.refl _ _).drew); rintro e w1 ⟨g1, Z1, rfl, h1, h2, h3, h4, h5, f1⟩) | (refine (raiseBits_any (some ⟨b2, o2, none⟩) (m + 2) d s B _ ?_ hs31 (by omega)).mono ?_; exact (hB.kept ((Fr.refl _ _).drew)).kept f1; rintro e w2 ⟨g2, Z2, rfl, k1, k2, k3, k4, k5, f2⟩))
  have hf2 : Fr [] w w2 := ((Fr.refl [] w).drew.trans f1 (by simp)).trans f2 (by simp)
  have hg1 : w.heap.size ≤ g1 := h1
  have hw12 : g1 < w1.heap.size := h2.lt
  have hb1 : Blk w2 g1 (Z1.map dv) := h2.kept f2
  have hg1s := hb1.lt
  have hg2 : w.heap.size ≤ g2 := by omega
  have hg12 : g1 ≠ g2 := by omega
  have hg2s := k2.lt
  obtain ⟨t1, t2, t3⟩ := by_top hB.len hB.dig Htop.out hv dB HS.out
  obtain ⟨Y, hY⟩ : ∃ Y, Y = Z2.take (m + 2) := ⟨_, rfl⟩
  have hYd : Dg Y := by rw [hY]; exact k4.take _
  have hYl : Y.length = m + 2 := by rw [hY]; simp; omega
  have hYv : val Y = val B * 2 ^ s := by rw [hY, val_take_all (by rw [k5]; exact t1), k5]
  have hYr : Sg (Z2.map dv) 0 Y := by rw [hY]; exact (Sg.map Z2).take _ (by omega)
  have hYt : gd Y (m + 1) ≠ 0 := by
    intro h0
    have e1 := val_take_succ Y (m + 1)
    rw [List.take_of_length_le (by omega), h0] at e1
    have e2 := val_lt (hYd.take (m + 1))
    rw [List.length_take, Nat.min_eq_left (by omega)] at e2
    omega
  obtain ⟨k0, hk0⟩ : ∃ k0, k0 = n - (m + 2) + 1 := ⟨_, rfl⟩
  have hk0n : k0 + (m + 1) = n := by omega
  have hA2 := val_lt hA.dig
  rw [hA.len] at hA2
  have hst : val (Z1.drop k0) < val Y := start_lt (by omega) h5 hA2 (by omega) (by rw [show n - k0 = m + 1 by omega, hYv]; exact t3)
  have hVpm : val Y ≤ pB (m + 2) := by omega
  have hVp : 0 < val Y := by have := pB_pos (m + 1); omega
  have HZ1 := Lib.hid h3
  have HZ2 := Lib.hid k3
  have H5 := Lib.hid h5
  have HYv := Lib.hid hYv
  have HK0 := Lib.hid hk0
  have HYl := Lib.hid hYl
  clear h1 h2 h3 h5 k1 k3 k5 t1 t2 t3 hY hYl hYv hA2 f1 f2 hw12 hk0
  go_wp2_with (at_make; refine wpList_make_full _ rfl _ _ 22 rfl 0 57 i0 (.int .u32 0) 1 Try.underlying22 hi hz0 hz1 _ _ _ _ k0 rfl rfl (by omega) (by omega) (by rw [hz2]; omega) (by unfold maxLen; omega) (Nat.zero_le _) ?_)
  intro w3 hown hgrow
  have hb3 := blk_of_made hown
  have hf23 : Fr [] w2 w3 := (Fr.refl _ _).grown hgrow (by simp)
  have hf3 : Fr [] w w3 := hf2.trans hf23 (by simp)
  replace hb1 := hb1.kept hf23
  have hb2 := k2.kept hf23
  clear hown hgrow k2
  have hg3 : w2.heap.size < w3.heap.size := hb3.lt
  generalize hgq : w2.heap.size = gq at *
  have HGQ := Lib.hid hgq
  have hwg : w.heap.size ≤ gq := by have := hf2.size; omega
  have hn1 : g1 ≠ gq := by omega
  have hn2 : g2 ≠ gq := by omega
  clear hgq hg1s hg2s hf23
  go_wp2
  go_loopw [10] (fun s wr => ∃ (k : Nat) (Q D : List Nat), k ≤ k0 ∧ s = .int .i64 ((k : Int) - 1) ∧ Q.length = k0 - k ∧ Dg Q ∧ D.length = n + 1 ∧ Dg D ∧ (∀ j, j < k → gd D j = gd Z1 j) ∧
      val (Z1.drop k) = val Q * val Y + val ((D.drop k).take (m + 2)) ∧ val ((D.drop k).take (m + 2)) < val Y ∧
      Blk wr gq (spl ((List.replicate k0 0).map dv) k Q) ∧ Blk wr g1 (D.map dv) ∧ Blk wr g2 (Z2.map dv) ∧ Fr [] w wr) (fun s _ => (intOf s + 1).toNat)
  case atStart =>
    have e1 : (Z1.drop k0).take (m + 2) = Z1.drop k0 := by
      rw [List.take_of_length_le]
      have := HZ1.out
      simp
      omega
    exact ⟨k0, [], Z1, Nat.le_refl _, congrArg (Value.int .i64) (by omega), by simp, Dg.nil, HZ1.out, h4, fun _ _ => rfl, by rw [e1]; simp [val], by rw [e1]; exact hst, by rw [spl_nil]; exact hb3, hb1, hb2, hf3⟩
  case round =>
    obtain ⟨k, Q, D, hk, rfl, hQ, hQd, hD, hDd, hDg, hv1, hv2, hB1, hB2, hB3, hf⟩ := hrel
    have HQ := Lib.hid hQ
    have HD := Lib.hid hD
    have HDg := Lib.hid hDg
    have Hv1 := Lib.hid hv1
    have Hv2 := Lib.hid hv2
    clear hQ hD hDg hv1 hv2 hb1 hb2 hb3 hst hg3 hf3
    cases k with
    | zero =>
      rw [show (((0 : Nat) : Int) - 1) = -1 from rfl]
      have hTd : Dg (D.take (m + 2)) := hDd.take _
      have hTl : (D.take (m + 2)).length = m + 2 := by simp [HD.out]; omega
      have hTs : Sg (D.map dv) 0 (D.take (m + 2)) := (Sg.map D).take _ (by rw [HD.out]; omega)
      have ST : Sl wr (some ⟨g1, 0, none⟩) (m + 2) (n + 1) (D.take (m + 2)) := ⟨hTl, by omega, by omega, (by intro h; cases h), hTs.rd hB2, hTd⟩
      have hv1 := Hv1.out
      have hv2 := Hv2.out
      rw [List.drop_zero, List.drop_zero, H5.out, HYv.out] at hv1
      rw [List.drop_zero, HYv.out] at hv2
      have hbp : 0 < val B := by
        apply Nat.pos_of_ne_zero
        intro h0
        rw [HYv.out, h0] at hVp
        omega
      have hfin := long_fin hbp hv1 hv2
      have HF := Lib.hid hfin
      have hQl : Q.length = k0 := by have := HQ.out; omega
      have hBq : Blk wr gq (Q.map dv) := by
        have h := hB1
        rw [spl_map, hQl] at h
        simpa using h
      have HQL := Lib.hid hQl
      have HK := HK0.out
      have HT := Lib.hid hTl
      clear hv1 hv2 hfin hQl hTl hTs hVp hVpm
      go_wp2_with fail
      refine (lowerBits_any _ _ _ s _ _ ST hs31 (by omega)).mono ?_
      rintro e w9 ⟨gr, R, rfl, hgr, hBr, hRl, hRd, hRv, hf9⟩
      have HRl := Lib.hid hRl
      have HRv : Hid (val R = val A % val B) := hRv.trans HF.out.2
      have hBq' := hBq.kept hf9
      have hf10 : Fr [] w w9 := hf.trans hf9 (by simp)
      have hgr' : w.heap.size ≤ gr := by have := hf.size; omega
      clear hRl hRv
      go_wp2_with fail
      go_ret2
      rw [← HK]
      exact ⟨gq, Q, gr, R, rfl, hwg, hgr', hBq', hBr, HQL.out, HRl.out, hQd, hRd, HF.out.1, HRv.out, hf10⟩
    | succ k =>
      rw [show (((k + 1 : Nat) : Int) - 1) = k from by omega]
      obtain ⟨P, hP⟩ : ∃ P, P = (D.drop k).take (m + 3) := ⟨_, rfl⟩
      have hkn : k + (m + 3) ≤ n + 1 := by omega
      have hDl := HD.out
      have hPl : P.length = m + 3 := by rw [hP]; simp; omega
      have hPd : Dg P := by rw [hP]; exact (hDd.drop _).take _
      have hPs : Sg (D.map dv) k P := by
        rw [hP]
        have := (Sg.map D).sub k (m + 3) (by omega)
        rwa [Nat.zero_add] at this
      have hPt : P.take (m + 2) = (D.drop k).take (m + 2) := by rw [hP, List.take_take]; congr 1; omega
      have hPval : val P = gd D k + 4294967296 * val ((D.drop (k + 1)).take (m + 2)) := by
        rw [hP, drop_cons_gd (by omega), List.take_succ_cons, val]
      have hPlt : val P < val Y * 4294967296 := by
        have h1 := hDd.at k
        have h2 := Hv2.out
        rw [hPval]
        omega
      have SP : Sl wr (some ⟨g1, k, none⟩) (m + 3) (n + 1 - k) P := ⟨hPl, by omega, by omega, (by intro h; cases h), hPs.rd hB2, hPd⟩
      have SY : Sl wr (some ⟨g2, 0, none⟩) (m + 2) (m + 2 + 1) Y := ⟨HYl.out, by omega, by omega, (by intro h; cases h), hYr.rd hB3, hYd⟩
      have HP := Lib.hid hPl
      have HPe := Lib.hid hP
      have HPt := Lib.hid hPt
      have HPlt := Lib.hid hPlt
      have HPv : Hid (val P = val (P.take (m + 2)) + pB (m + 2) * gd P (m + 2)) := by
        have := val_take_succ P (m + 2)
        rw [List.take_of_length_le (by omega)] at this
        exact this
      have hck : wr.cell? ⟨gq, k, none⟩ = some (dv 0) := hB1.cell (by rw [spl_at (by rw [List.length_map, List.length_replicate, HQ.out]; omega), if_pos (by omega), List.getElem?_map, List.getElem?_replicate, if_pos (show k < k0 by omega)]; rfl)
      have HStep : Hid (∀ t T', t * val Y + T' = val P → val (Z1.drop k) = val (t :: Q) * val Y + T') := fun t T' h => long_step (D := D) (n := m + 2) (by have := HZ1.out; omega) (HDg.out k (by omega)) Hv1.out (by omega) (by rw [h, hP])
      clear hP hPl hPt hPval hPlt hDl hPs
      have HC := Lib.hid hB1.free
      have HW := Lib.hid (hB1.set k)
      have HSd : Hid (∀ v, (spl ((List.replicate k0 0).map dv) (k + 1) Q).set k (dv v) = spl ((List.replicate k0 0).map dv) k (v :: Q)) := fun v => spl_down (by rw [List.length_map, List.length_replicate, HQ.out]; omega) v
      go_wp2_with fail
      rw [show k + (m + 2) + 1 - k = m + 3 from by omega]
      refine (guess_any _ _ m _ _ P Y _ SP SY (by omega) hYt HPlt.out).mono ?_
      rintro e w4 ⟨⟨gs, rfl, hgs⟩, hf4⟩
      have hB1' := hB1.kept hf4
      have hc4 : w4.cell? ⟨gq, k, none⟩ = some (dv 0) := by
        rw [hf4.cell (p := ⟨gq, k, none⟩) hB1.lt (by simp)]; exact hck
      have hc5 := hB1'.free k
      have hfs : Fr [gq] w4 (w4.setCell ⟨gq, k, none⟩ (dv gs)) := (Fr.refl _ _).setCell _ _ (by simp)
      have hB1s : Blk (w4.setCell ⟨gq, k, none⟩ (dv gs)) gq (spl ((List.replicate k0 0).map dv) k (gs :: Q)) := by
        rw [← HSd.out]
        exact hB1'.set k _
      have hB2s := (hB2.kept hf4).keep hfs (by simpa using hn1)
      have hB3s := (hB3.kept hf4).keep hfs (by simpa using hn2)
      have hcg : (w4.setCell ⟨gq, k, none⟩ (dv gs)).cell? ⟨gq, k, none⟩ = some (dv gs) := hB1s.cell (by rw [spl_at (by rw [List.length_map, List.length_replicate, List.length_cons, HQ.out]; omega), if_neg (by omega), if_pos (by simp), Nat.sub_self]; rfl)
      have hgsl := hgs.1
      have hPs : Sg (D.map dv) k P := by
        have h := (Sg.map D).sub k (m + 3) (by rw [HD.out]; omega)
        rw [Nat.zero_add] at h
        have e : P = (D.drop k).take (m + 3) := HPe.out
        rw [e]
        exact h
      have SY5 : Sl (w4.setCell ⟨gq, k, none⟩ (dv gs)) (some ⟨g2, 0, none⟩) (m + 2) (m + 2 + 1) Y := ⟨HYl.out, by omega, by omega, (by intro h; cases h), hYr.rd hB3s, hYd⟩
      have hf4' : Fr [] wr w4 := hf4
      clear hck HW hB1' hf4 hB1 hB2 hB3 SP SY
      go_wp2_with fail
      rw [show m + 3 = m + 2 + 1 from rfl]
      refine (subProduct_any g1 k (m + 2) (n + 1 - k) (m + 2 + 1) gs (some ⟨g2, 0, none⟩) _ P Y _ hB2s hPs hPd HP.out SY5 (by intro _ a ha; cases ha; exact fun h => hg12 h.symm) hgsl (by omega)).mono ?_
      rintro e w6 ⟨Z, r, rfl, hZ, hZd, hzv, hB2t, hf6⟩
      have hB1t := hB1s.keep hf6 (by simp; omega)
      have hB3t := hB3s.keep hf6 (by simp; omega)
      have hDl := HD.out
      have hZk : k + Z.length ≤ D.length := by omega
      have hB2u : Blk w6 g1 ((D.take k ++ Z ++ D.drop (k + (m + 2))).map dv) := by
        rw [spl_map, hZ] at hB2t
        exact hB2t
      have hfw : Fr [] w w6 := ((hf.trans hf4' (by simp)).trans hfs (by simp; omega)).trans hf6 (by simp; omega)
      have hfw2 := hfw
      have HZ := Lib.hid hZ
      have hzlt := val_lt hZd
      rw [hZ] at hzlt
      by_cases hU : gd P (m + 2) < r
      · have hdec : decide (gd P (m + 2) < r) = true := by simpa using hU
        rw [hdec]
        have HHu := Lib.hid hU
        have HHz := Lib.hid hzv
        have HHl := Lib.hid hzlt
        have hg0 : 1 ≤ gs := by
          apply Nat.pos_of_ne_zero
          intro h0
          rw [h0] at hzv
          have h1 : pB (m + 2) * 1 ≤ pB (m + 2) * r := Nat.mul_le_mul_left _ (by omega)
          omega
        have hc6 : w6.cell? ⟨gq, k, none⟩ = some (dv gs) := hB1t.cell (by rw [spl_at (by rw [List.length_map, List.length_replicate, List.length_cons, HQ.out]; omega), if_neg (by omega), if_pos (by simp), Nat.sub_self]; rfl)
        have hc7 := hB1t.free k
        have hwr : IntKind.u32.wrap ((gs : Int) - 1) = ((gs - 1 : Nat) : Int) := by rw [wrap_u32_lt (by omega) (by omega)]; omega
        have hft : Fr [gq] w6 (w6.setCell ⟨gq, k, none⟩ (dv (gs - 1))) := (Fr.refl _ _).setCell _ _ (by simp)
        have hB1v : Blk (w6.setCell ⟨gq, k, none⟩ (dv (gs - 1))) gq (spl ((List.replicate k0 0).map dv) k ((gs - 1) :: Q)) := by
          have h := hB1t.set k (dv (gs - 1))
          rw [← HSd.out, List.set_set, HSd.out] at h
          exact h
        have hB2v := hB2u.keep hft (by simpa using hn1)
        have hB3v := hB3t.keep hft (by simpa using hn2)
        have SY7 : Sl (w6.setCell ⟨gq, k, none⟩ (dv (gs - 1))) (some ⟨g2, 0, none⟩) (m + 2) (m + 2 + 1) Y := ⟨HYl.out, by omega, by omega, (by intro h; cases h), hYr.rd hB3v, hYd⟩
        have hZs : Sg ((D.take k ++ Z ++ D.drop (k + (m + 2))).map dv) k Z := by
          have h := (Sg.map (D.take k ++ Z ++ D.drop (k + (m + 2)))).sub k (m + 2) (by simp [HZ.out, HD.out]; omega)
          rw [Nat.zero_add, mid_take (by rw [HD.out]; omega) HZ.out] at h
          exact h
        clear hzv hzlt hU hdec hB2t hDl hZ hfs hc4 hc5 hcg hB1s hB2s hB3s hPs hfw2
        go_wp2_with fail
        refine (addProduct_any g1 k (n + 1 - k) (m + 2) (m + 2 + 1) 1 (some ⟨g2, 0, none⟩) _ Z Y _ hB2v hZs hZd HZ.out SY7 (by intro _ a ha; cases ha; exact fun h => hg12 h.symm) (by omega) (by omega)).mono ?_
        rintro e w8 ⟨Z', r', rfl, hZ', hZd', hr', hzv', hB2w, hf8⟩
        have hzl' := val_lt hZd'
        rw [hZ'] at hzl'
        have hfin := long_yes HPv.out HHz.out HHu.out hgs.2.2 hVpm hVp HHl.out hzl' hzv'
        have HNew := Lib.hid (HStep.out (gs - 1) (val Z') hfin.2.1)
        have HLt := Lib.hid hfin.2.2
        have HZ' := Lib.hid hZ'
        have HMap : spl ((D.take k ++ Z ++ D.drop (k + (m + 2))).map dv) k Z' = (D.take k ++ Z' ++ D.drop (k + (m + 2))).map dv := by
          rw [spl_map, hZ']
          have h1 : (D.take k).length = k := by simp [HD.out]; omega
          congr 2
          · rw [List.append_assoc, List.take_append_of_le_length (by omega), List.take_of_length_le (by omega)]
          · rw [List.drop_append_of_le_length (by simp [HD.out, HZ.out]; omega), List.drop_of_length_le (by simp [HD.out, HZ.out]; omega), List.nil_append]
        have hB2x : Blk w8 g1 ((D.take k ++ Z' ++ D.drop (k + (m + 2))).map dv) := by rw [← HMap]; exact hB2w
        have hB1x := hB1v.keep hf8 (by simp; omega)
        have hB3x := hB3v.keep hf8 (by simp; omega)
        have hfx : Fr [] w w8 := (hfw.trans hft (by simp; omega)).trans hf8 (by simp; omega)
        clear hzl' hzv' hfin hZ' HMap hB2w hgs hwr hc6 hc7
        go_wp2_with fail
        go_roundw
        case rel =>
          refine ⟨k, (gs - 1) :: Q, D.take k ++ Z' ++ D.drop (k + (m + 2)), by omega, rfl, by simp [HQ.out]; omega, Dg.cons (by omega) hQd, by simp [HZ'.out, HD.out]; omega, ((hDd.take _).append hZd').append (hDd.drop _), ?_, ?_, ?_, hB1x, hB2x, hB3x, hfx⟩
          · intro j hj
            rw [gd_append_left (by simp [HD.out]; omega), gd_append_left (by simp [HD.out]; omega), gd_take hj, HDg.out j (by omega)]
          · rw [mid_take (by rw [HD.out]; omega) HZ'.out]; exact HNew.out
          · rw [mid_take (by rw [HD.out]; omega) HZ'.out]; exact HLt.out
        case measure => simp [intOf]
      · have hfin := long_no HPv.out hzv hU hgs.2.1 hVpm hVp
        have hdec : decide (gd P (m + 2) < r) = false := by simpa using hU
        have HNew := Lib.hid (HStep.out gs (val Z) hfin.1)
        have HLt := Lib.hid hfin.2
        rw [hdec]
        clear hzv hzlt hgs hU hdec hfin hB2t hDl hZ hfs
        go_wp2_with fail
        go_roundw
        case rel =>
          refine ⟨k, gs :: Q, D.take k ++ Z ++ D.drop (k + (m + 2)), by omega, rfl, by simp [HQ.out]; omega, Dg.cons hgsl hQd, by simp [HZ.out, HD.out]; omega, ((hDd.take _).append hZd).append (hDd.drop _), ?_, ?_, ?_, hB1t, hB2u, hB3t, hfw⟩
          · intro j hj
            rw [gd_append_left (by simp [HD.out]; omega), gd_append_left (by simp [HD.out]; omega), gd_take hj, HDg.out j (by omega)]
          · rw [mid_take (by rw [HD.out]; omega) HZ.out]; exact HNew.out
          · rw [mid_take (by rw [HD.out]; omega) HZ.out]; exact HLt.out
        case measure => simp [intOf]

end Go.Proofs.Ytfjhdhmneknmkaa
