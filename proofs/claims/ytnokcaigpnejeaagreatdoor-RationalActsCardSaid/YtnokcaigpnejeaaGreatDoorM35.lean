/- What the statements of this claim stand on: of Rr2, what they name -/
import Derived.Test.YtnokcaigpnejeaaGreatDoorM30

namespace Go.Proofs.YtnokcaigpnejeaaGreatDoor
open Go.RowKit

theorem rsign_e {w : World} {L : Nat} {a c0 : Int} {u : Value} (hc : a.sign = c0) (h : VI w L a u) (hL : L ≤ 524287) : Calls Tryz.prog 101 #[u] w (RN c0 w) := hc ▸ rsign_v h hL

theorem rgcd_e {w : World} {L M : Nat} {a b c0 : Int} {u u' : Value} (hc : ((Nat.gcd a.natAbs b.natAbs : Nat) : Int) = c0) (h : VI w L a u) (h' : VI w M b u') (hL : L ≤ 524287) (hM : M ≤ 524287) : Calls Tryz.prog 151 #[u, u'] w (RV (fun w' => VZ w' c0) w) := hc ▸ rgcd_v h h' hL hM

theorem vq_zero {w : World} {p : Option Addr} {c : Nat} (s : Sl w p (dg 1).length c (dg 1)) : VQ w 0 (.agg #[.bool false, .slice none 0 0, .slice p (dg 1).length c]) := by
  refine ⟨none, 0, p, c, ?_, ?_, s⟩
  · show _ = rw' (decide ((0 : Int) < 0)) none (dg (0 : Int).natAbs).length 0 p (dg 1).length c
    rw [Int.natAbs_zero, dg_zero]; rfl
  · show Sl w none (dg (0 : Int).natAbs).length 0 (dg (0 : Int).natAbs)
    rw [Int.natAbs_zero, dg_zero]; exact Sl.zero w

theorem build_q {w : World} {r : Rat} {z : Int} {d : Nat} {p q : Option Addr} {c k : Nat} (s : Sl w p (dg z.natAbs).length c (dg z.natAbs)) (t : Sl w q (dg d).length k (dg d)) (hz : r.num = z) (hd : r.den = d) :
    VQ w r (.agg #[.bool (decide (z < 0)), .slice p (dg z.natAbs).length c, .slice q (dg d).length k]) := by
  subst hz hd
  exact ⟨p, c, q, k, rfl, s, t⟩

theorem quot_ne {D g : Nat} {a : Nat} (hD : D ≠ 0) (hg : Nat.gcd a D = g) : D / g ≠ 0 := by
  intro e
  have h1 : g ∣ D := by rw [← hg]; exact Nat.gcd_dvd_right _ _
  have h2 := Nat.div_mul_cancel h1
  rw [e, Nat.zero_mul] at h2
  exact hD h2.symm

theorem sign_ne0 {z : Int} (h : z ≠ 0) : (z.sign == 0) = false := by
  rw [beq_eq_false_iff_ne]
  exact fun e => h (Int.sign_eq_zero_iff_zero.1 e)

theorem nz_floor' (a b : Int) : nz (a / b) ≤ nz a := by
  unfold nz
  exact dg_len_mono (Int.natAbs_ediv_le_natAbs _ _)

theorem low_pos {z : Int} {D g : Nat} (hD : D ≠ 0) (hg : Nat.gcd z.natAbs D = g) : (Rat.divInt z (D : Int)).num = z / (g : Int) ∧ (Rat.divInt z (D : Int)).den = D / g ∧ ((D : Int) / (g : Int)) = ((D / g : Nat) : Int) := by
  subst hg
  rw [divInt_pos]
  exact ⟨mk_num z hD, mk_den z hD, rfl⟩

theorem low_neg {z : Int} {D g : Nat} (hD : D ≠ 0) (hg : Nat.gcd z.natAbs D = g) : (Rat.divInt z (-(D : Int))).num = -(z / (g : Int)) ∧ (Rat.divInt z (-(D : Int))).den = D / g ∧ (-(D : Int) / (g : Int)) = -((D / g : Nat) : Int) := by
  subst hg
  have e : Rat.divInt z (-(D : Int)) = mkRat (-z) D := by
    have := divInt_neg (-z) (D : Int)
    rw [Int.neg_neg] at this
    rw [this]
    rfl
  have h1 : ((Nat.gcd z.natAbs D : Nat) : Int) ∣ z := by
    exact Int.ofNat_dvd_left.2 (Nat.gcd_dvd_left _ _)
  have h2 : ((Nat.gcd z.natAbs D : Nat) : Int) ∣ (D : Int) := Int.natCast_dvd_natCast.2 (Nat.gcd_dvd_right _ _)
  rw [e]
  refine ⟨?_, ?_, ?_⟩
  · rw [mk_num (-z) hD, Int.natAbs_neg]
    exact Int.neg_ediv_of_dvd h1
  · rw [mk_den (-z) hD, Int.natAbs_neg]
  · rw [Int.neg_ediv_of_dvd h2]; rfl

set_option maxRecDepth 100000 in
set_option maxHeartbeats 1000000 in
theorem reduce_z {w : World} {L M : Nat} {z d : Int} {u u' : Value} (h1 : VI w L z u) (h2 : VI w M d u') (_hL : L ≤ 524287) (_hM : M ≤ 524287) (hz : z = 0) : Calls Tryz.prog 102 #[u, u'] w (RV (fun w' => VQ w' (0 : Rat)) w) := by
  have Hz := Lib.hid (show z.sign = 0 by rw [hz]; rfl)
  clear hz
  have o_h1 := h1
  obtain ⟨ga, pa, na, ca, Xa, rfl, -, -, -⟩ := o_h1
  have o_h2 := h2
  obtain ⟨gb, pb, nb, cb, Xb, rfl, -, -, -⟩ := o_h2
  go_enter Tryz.func102, Tryz.ntmps102
  go_upto_region 1 with fail
  have hw : Fr [] w (((w.alloc (Obj.cells #[.bool ga, .slice pa na ca] 24)).alloc (Obj.cells #[.bool gb, .slice pb nb cb] 24)).alloc (Obj.cells #[.bool false, .slice none 0 0, .slice none 0 0] 26)) := (((Fr.refl _ _).alloc _).alloc _).alloc _
  have b2 : Bx (((w.alloc (Obj.cells #[.bool ga, .slice pa na ca] 24)).alloc (Obj.cells #[.bool gb, .slice pb nb cb] 24)).alloc (Obj.cells #[.bool false, .slice none 0 0, .slice none 0 0] 26)) w.heap.size 24 #[.bool ga, .slice pa na ca] := (Bx.made' (by simp) _ _).kept (((Fr.refl _ _).alloc _).alloc _)
  have b3 : Bx (((w.alloc (Obj.cells #[.bool ga, .slice pa na ca] 24)).alloc (Obj.cells #[.bool gb, .slice pb nb cb] 24)).alloc (Obj.cells #[.bool false, .slice none 0 0, .slice none 0 0] 26)) (w.heap.size + 1) 24 #[.bool gb, .slice pb nb cb] := (Bx.made' (by simp) _ _).kept ((Fr.refl _ _).alloc _)
  have b4 : Bx (((w.alloc (Obj.cells #[.bool ga, .slice pa na ca] 24)).alloc (Obj.cells #[.bool gb, .slice pb nb cb] 24)).alloc (Obj.cells #[.bool false, .slice none 0 0, .slice none 0 0] 26)) (w.heap.size + 2) 26 #[.bool false, .slice none 0 0, .slice none 0 0] := (Bx.made' (by simp) _ _).kept (Fr.refl _ _)
  generalize (((w.alloc (Obj.cells #[.bool ga, .slice pa na ca] 24)).alloc (Obj.cells #[.bool gb, .slice pb nb cb] 24)).alloc (Obj.cells #[.bool false, .slice none 0 0, .slice none 0 0] 26)) = W at *
  have hbs := b4.lt
  replace h1 := h1.kept hw
  replace h2 := h2.kept hw
  refine wp_region_inv (w0 := W) (by kernel_rfl) [true, true, false, false, false, false, false, false, true, false, false, true, true, true, true, true, true, true, true, true, false, false, false, false, false, false, false, false, false, false, false, false, false, false, false, false, false, false, false, false, false, false, false, false, false, false, false] []
    [⟨[12], F1 (fun xx _ => xx = .agg #[.bool ga, .slice pa na ca]), .pure⟩,
    ⟨[13], F1 (fun xx _ => xx = .int .i64 0), .pure⟩,
    ⟨[14], F1 (fun xx _ => xx = .bool true), .pure⟩,
    ⟨[15], F1 (fun xx _ => xx = .bool true), .pure⟩,
    ⟨[16], F1 (fun xx _ => xx = undef), .pure⟩,
    ⟨[17], F1 (fun xx _ => xx = undef), .pure⟩,
    ⟨[18], F1 (fun xx _ => xx = undef), .pure⟩,
    ⟨[19], F1 (fun xx _ => xx = .bool true), .pure⟩]
    [[], [0], [0, 1], [0, 1, 2], [0, 1, 2, 3], [0, 1, 2, 3, 4], [0, 1, 2, 3, 4, 5], [0, 1, 2, 3, 4, 5, 6]] ?mk1 ?hmk1 (by kernel_rfl)
    ⟨F1.st (st_eq _), F1.st (st_eq _), F1.st (st_eq _), F1.st (st_eq _), F1.st (st_eq _), F1.st (st_eq _), F1.st (st_eq _), F1.st (st_eq _), trivial⟩ (by simp) (by simp) (n := 8) rfl ⟨⟨⟨⟨⟨⟨⟨⟨trivial, ?s1_0⟩, ?s1_1⟩, ?s1_2⟩, ?s1_3⟩, ?s1_4⟩, ?s1_5⟩, ?s1_6⟩, ?s1_7⟩ ?done1
  case hmk1 => intro v; simp only [mkv, mix, Nat.reduceAdd]; rfl
  case s1_0 =>
    refine stepOk_of _ _ rfl rfl ?_
    intro v W1 f kp ho hd K' hK
    have k0 := (b2.keep f (by simp)).cell (j := 0) rfl
    have k1 := (b2.keep f (by simp)).cell (j := 1) rfl
    go_simp
    exact hK _ _ (Fr.refl [] _) rfl
  case s1_1 =>
    refine stepOk_of _ _ rfl rfl ?_
    intro v W1 f kp ho hd K' hK
    have e12 : v 12 = .agg #[.bool ga, .slice pa na ca] := (hd 0 (by decide) _ _ rfl rfl).1
    simp only [e12] at hK ⊢
    go_simp
    refine (rsign_e Hz.out (h1.kp kp) (by omega)).mono ?_
    rintro e W' ⟨rfl, ff⟩
    exact hK _ W' ff rfl
  case s1_2 =>
    refine stepOk_of _ _ rfl rfl ?_
    intro v W1 f kp ho hd K' hK
    have e13 : v 13 = .int .i64 0 := (hd 1 (by decide) _ _ rfl rfl).1
    simp only [e13] at hK ⊢
    go_simp
    exact hK _ _ (Fr.refl [] _) rfl
  case s1_3 =>
    refine stepOk_of _ _ rfl rfl ?_
    intro v W1 f kp ho hd K' hK
    have e14 : v 14 = .bool true := (hd 2 (by decide) _ _ rfl rfl).1
    simp only [e14] at hK ⊢
    go_simp
    exact hK _ _ (Fr.refl [] _) rfl
  case s1_4 =>
    refine stepOk_of _ _ rfl rfl ?_
    intro v W1 f kp ho hd K' hK
    have e15 : v 15 = .bool true := (hd 3 (by decide) _ _ rfl rfl).1
    simp only [e15] at hK ⊢
    go_simp
    exact hK _ _ (Fr.refl [] _) rfl
  case s1_5 =>
    refine stepOk_of _ _ rfl rfl ?_
    intro v W1 f kp ho hd K' hK
    have e16 : v 16 = undef := (hd 4 (by decide) _ _ rfl rfl).1
    have e15 : v 15 = .bool true := (hd 3 (by decide) _ _ rfl rfl).1
    simp only [e16, e15] at hK ⊢
    go_simp
    exact hK _ _ (Fr.refl [] _) rfl
  case s1_6 =>
    refine stepOk_of _ _ rfl rfl ?_
    intro v W1 f kp ho hd K' hK
    have e17 : v 17 = undef := (hd 5 (by decide) _ _ rfl rfl).1
    have e15 : v 15 = .bool true := (hd 3 (by decide) _ _ rfl rfl).1
    simp only [e17, e15] at hK ⊢
    go_simp
    exact hK _ _ (Fr.refl [] _) rfl
  case s1_7 =>
    refine stepOk_of _ _ rfl rfl ?_
    intro v W1 f kp ho hd K' hK
    have e15 : v 15 = .bool true := (hd 3 (by decide) _ _ rfl rfl).1
    have e18 : v 18 = undef := (hd 6 (by decide) _ _ rfl rfl).1
    simp only [e15, e18] at hK ⊢
    go_simp
    exact hK _ _ (Fr.refl [] _) rfl
  case done1 =>
    intro v W1 f kp hF hD
    have e12 : v 12 = .agg #[.bool ga, .slice pa na ca] := (hF 0 _ _ rfl rfl).1
    have e13 : v 13 = .int .i64 0 := (hF 1 _ _ rfl rfl).1
    have e14 : v 14 = .bool true := (hF 2 _ _ rfl rfl).1
    have e15 : v 15 = .bool true := (hF 3 _ _ rfl rfl).1
    have e16 : v 16 = undef := (hF 4 _ _ rfl rfl).1
    have e17 : v 17 = undef := (hF 5 _ _ rfl rfl).1
    have e18 : v 18 = undef := (hF 6 _ _ rfl rfl).1
    have e19 : v 19 = .bool true := (hF 7 _ _ rfl rfl).1
    clear hF hD
    simp only [e12, e13, e14, e15, e16, e17, e18, e19]
    replace b2 := b2.keep f (by simp)
    replace b3 := b3.keep f (by simp)
    replace b4 := b4.keep f (by simp)
    replace h1 := h1.kp kp
    replace h2 := h2.kp kp
    replace hw := hw.trans (a := w) (b := W) (c := W1) f (by simp)
    have hsz1 := f.size
    clear f kp
    have c_b2_0 := b2.cell (j := 0) rfl
    have c_b2_1 := b2.cell (j := 1) rfl
    have c_b3_0 := b3.cell (j := 0) rfl
    have c_b3_1 := b3.cell (j := 1) rfl
    have c_b4_0 := b4.cell (j := 0) rfl
    have c_b4_1 := b4.cell (j := 1) rfl
    have c_b4_2 := b4.cell (j := 2) rfl
    go_upto_region 2 with fail
    clear c_b2_0 c_b2_1 c_b3_0 c_b3_1 c_b4_0 c_b4_1 c_b4_2
    refine wp_region_inv (w0 := W1) (by kernel_rfl) [true, true, false, false, false, false, false, false, true, false, false, true, true, true, true, true, true, true, true, true, true, true, false, false, false, false, false, false, false, false, false, false, false, false, false, false, false, false, false, false, false, false, false, false, false, false, false] [(w.heap.size + 2)]
      [⟨[20], F1 (fun xx ww => VD ww 1 xx), .pure⟩,
    ⟨[21], F1 (fun xx ww => VQ ww (0 : Rat) xx), .pure⟩,
    ⟨[21], F0, .out 0 26 cellsOf⟩]
      [[], [0], [0, 1]] ?mk2 ?hmk2 (by kernel_rfl)
      ⟨F1.st (fun _ _ _ k h => h.kp k), F1.st (fun _ _ _ k h => h.kp k), F0.st, trivial⟩ (by simp) (by simp <;> omega) (n := 3) rfl ⟨⟨⟨trivial, ?s2_0⟩, ?s2_1⟩, ?s2_2⟩ ?done2
    case hmk2 => intro v; simp only [mkv, mix, Nat.reduceAdd]; rfl
    case s2_0 =>
      refine stepOk_of _ _ rfl rfl ?_
      intro v W2 f kp ho hd K' hK
      go_simp
      exact hK _ _ (Fr.new _) (vd_one _)
    case s2_1 =>
      refine stepOk_of _ _ rfl rfl ?_
      intro v W2 f kp ho hd K' hK
      have f20 : VD W2 1 (v 20) := (hd 0 (by decide) _ _ rfl rfl).1
      have o20 := f20
      obtain ⟨p20, c20, e20, s20⟩ := o20
      simp only [e20] at hK ⊢
      go_simp
      exact hK _ _ (Fr.refl [] _) (vq_zero s20)
    case s2_2 =>
      refine stepOk_of _ _ rfl rfl ?_
      intro v W2 f kp ho hd K' hK
      have f21 : VQ W2 (0 : Rat) (v 21) := (hd 1 (by decide) _ _ rfl rfl).1
      have o21 := f21
      obtain ⟨p21, c21, q21, d21, e21, s21, t21⟩ := o21
      have bz : Bx W2 (w.heap.size + 2) 26 #[.bool false, .slice none 0 0, .slice none 0 0] := (ho 0 _ rfl (by kernel_rfl)).trans b4
      have k0 := bz.cell (j := 0) rfl
      have fr0 := bz.free 0
      have k1 := bz.cell (j := 1) rfl
      have fr1 := bz.free 1
      have k2 := bz.cell (j := 2) rfl
      have fr2 := bz.free 2
      simp only [e21] at hK ⊢
      go_simp
      exact hK undef _ (move_out (cs := #[.bool (decide (((0 : Rat)).num < 0)), .slice p21 (dg ((0 : Rat)).num.natAbs).length c21, .slice q21 (dg ((0 : Rat)).den).length d21]) rfl rfl (by simp only [List.map, e21]; rfl) (bz.soft rfl) rfl rfl ((((Fr.refl _ _).put1 0 _).put1 1 _).put1 2 _) ((((bz.put1 0 _).put1 1 _).put1 2 _))) trivial
    case done2 =>
      intro v W2 f kp hF hD
      have f20 : VD W2 1 (v 20) := (hF 0 _ _ rfl rfl).1
      have f21 : VQ W2 (0 : Rat) (v 21) := (hF 1 _ _ rfl rfl).1
      have o21 := f21
      obtain ⟨p21, c21, q21, d21, e21, s21, t21⟩ := o21
      rw [e21] at f21
      obtain ⟨-, A', eA, nb4⟩ := hF 2 _ _ rfl rfl
      injection eA with eA; subst eA
      replace nb4 : Bx W2 (w.heap.size + 2) 26 #[.bool (decide (((0 : Rat)).num < 0)), .slice p21 (dg ((0 : Rat)).num.natAbs).length c21, .slice q21 (dg ((0 : Rat)).den).length d21] := by simp only [List.map, e21] at nb4; exact nb4
      clear hF hD
      simp only [e21]
      replace b2 := b2.keep f (by simp <;> omega)
      replace b3 := b3.keep f (by simp <;> omega)
      clear b4; have b4 := nb4; clear nb4
      replace h1 := h1.kp kp
      replace h2 := h2.kp kp
      replace hw := hw.trans (a := w) (b := W1) (c := W2) f (fun x hx hl => by simp at hx; omega)
      have hsz2 := f.size
      clear f kp
      go_wp2_with fail
      have c_b4_0 := b4.cell (j := 0) rfl
      have c_b4_1 := b4.cell (j := 1) rfl
      have c_b4_2 := b4.cell (j := 2) rfl
      exact bodyPost_ret (v := rw' (decide (((0 : Rat)).num < 0)) p21 (dg ((0 : Rat)).num.natAbs).length c21 q21 (dg ((0 : Rat)).den).length d21) (by simp [results, Tryz.results102, go_sem, c_b4_0, c_b4_1, c_b4_2]) rfl ⟨_, rfl, f21, hw⟩

set_option maxRecDepth 100000 in
set_option maxHeartbeats 1000000 in
theorem reduce_d {w : World} {L M : Nat} {z d : Int} {u u' : Value} (h1 : VI w L z u) (h2 : VI w M d u') (_hL : L ≤ 524287) (_hM : M ≤ 524287) (hz : z ≠ 0) (hd : d = 0) : Calls Tryz.prog 102 #[u, u'] w (RV (fun w' => VQ w' (0 : Rat)) w) := by
  obtain ⟨sz, hsz⟩ : ∃ s, z.sign = s := ⟨_, rfl⟩
  have hs0 : (sz == 0) = false := by rw [← hsz]; exact sign_ne0 hz
  have Hz := Lib.hid hsz
  have Hd := Lib.hid (show d.sign = 0 by rw [hd]; rfl)
  clear hz hd hsz
  have o_h1 := h1
  obtain ⟨ga, pa, na, ca, Xa, rfl, -, -, -⟩ := o_h1
  have o_h2 := h2
  obtain ⟨gb, pb, nb, cb, Xb, rfl, -, -, -⟩ := o_h2
  go_enter Tryz.func102, Tryz.ntmps102
  go_upto_region 1 with fail
  have hw : Fr [] w (((w.alloc (Obj.cells #[.bool ga, .slice pa na ca] 24)).alloc (Obj.cells #[.bool gb, .slice pb nb cb] 24)).alloc (Obj.cells #[.bool false, .slice none 0 0, .slice none 0 0] 26)) := (((Fr.refl _ _).alloc _).alloc _).alloc _
  have b2 : Bx (((w.alloc (Obj.cells #[.bool ga, .slice pa na ca] 24)).alloc (Obj.cells #[.bool gb, .slice pb nb cb] 24)).alloc (Obj.cells #[.bool false, .slice none 0 0, .slice none 0 0] 26)) w.heap.size 24 #[.bool ga, .slice pa na ca] := (Bx.made' (by simp) _ _).kept (((Fr.refl _ _).alloc _).alloc _)
  have b3 : Bx (((w.alloc (Obj.cells #[.bool ga, .slice pa na ca] 24)).alloc (Obj.cells #[.bool gb, .slice pb nb cb] 24)).alloc (Obj.cells #[.bool false, .slice none 0 0, .slice none 0 0] 26)) (w.heap.size + 1) 24 #[.bool gb, .slice pb nb cb] := (Bx.made' (by simp) _ _).kept ((Fr.refl _ _).alloc _)
  have b4 : Bx (((w.alloc (Obj.cells #[.bool ga, .slice pa na ca] 24)).alloc (Obj.cells #[.bool gb, .slice pb nb cb] 24)).alloc (Obj.cells #[.bool false, .slice none 0 0, .slice none 0 0] 26)) (w.heap.size + 2) 26 #[.bool false, .slice none 0 0, .slice none 0 0] := (Bx.made' (by simp) _ _).kept (Fr.refl _ _)
  generalize (((w.alloc (Obj.cells #[.bool ga, .slice pa na ca] 24)).alloc (Obj.cells #[.bool gb, .slice pb nb cb] 24)).alloc (Obj.cells #[.bool false, .slice none 0 0, .slice none 0 0] 26)) = W at *
  have hbs := b4.lt
  replace h1 := h1.kept hw
  replace h2 := h2.kept hw
  refine wp_region_inv (w0 := W) (by kernel_rfl) [true, true, false, false, false, false, false, false, true, false, false, true, true, true, true, true, true, true, true, true, false, false, false, false, false, false, false, false, false, false, false, false, false, false, false, false, false, false, false, false, false, false, false, false, false, false, false] []
    [⟨[12], F1 (fun xx _ => xx = .agg #[.bool ga, .slice pa na ca]), .pure⟩,
    ⟨[13], F1 (fun xx _ => xx = .int .i64 sz), .pure⟩,
    ⟨[14], F1 (fun xx _ => xx = .bool false), .pure⟩,
    ⟨[15], F1 (fun xx _ => xx = .bool false), .pure⟩,
    ⟨[16], F1 (fun xx _ => xx = .agg #[.bool gb, .slice pb nb cb]), .pure⟩,
    ⟨[17], F1 (fun xx _ => xx = .int .i64 0), .pure⟩,
    ⟨[18], F1 (fun xx _ => xx = .bool true), .pure⟩,
    ⟨[19], F1 (fun xx _ => xx = .bool true), .pure⟩]
    [[], [0], [0, 1], [0, 1, 2], [0, 1, 2, 3], [0, 1, 2, 3, 4], [0, 1, 2, 3, 4, 5], [0, 1, 2, 3, 4, 5, 6]] ?mk1 ?hmk1 (by kernel_rfl)
    ⟨F1.st (st_eq _), F1.st (st_eq _), F1.st (st_eq _), F1.st (st_eq _), F1.st (st_eq _), F1.st (st_eq _), F1.st (st_eq _), F1.st (st_eq _), trivial⟩ (by simp) (by simp) (n := 8) rfl ⟨⟨⟨⟨⟨⟨⟨⟨trivial, ?s1_0⟩, ?s1_1⟩, ?s1_2⟩, ?s1_3⟩, ?s1_4⟩, ?s1_5⟩, ?s1_6⟩, ?s1_7⟩ ?done1
  case hmk1 => intro v; simp only [mkv, mix, Nat.reduceAdd]; rfl
  case s1_0 =>
    refine stepOk_of _ _ rfl rfl ?_
    intro v W1 f kp ho hd K' hK
    have k0 := (b2.keep f (by simp)).cell (j := 0) rfl
    have k1 := (b2.keep f (by simp)).cell (j := 1) rfl
    go_simp
    exact hK _ _ (Fr.refl [] _) rfl
  case s1_1 =>
    refine stepOk_of _ _ rfl rfl ?_
    intro v W1 f kp ho hd K' hK
    have e12 : v 12 = .agg #[.bool ga, .slice pa na ca] := (hd 0 (by decide) _ _ rfl rfl).1
    simp only [e12] at hK ⊢
    go_simp
    refine (rsign_e Hz.out (h1.kp kp) (by omega)).mono ?_
    rintro e W' ⟨rfl, ff⟩
    exact hK _ W' ff rfl
  case s1_2 =>
    refine stepOk_of _ _ rfl rfl ?_
    intro v W1 f kp ho hd K' hK
    have e13 : v 13 = .int .i64 sz := (hd 1 (by decide) _ _ rfl rfl).1
    simp only [e13] at hK ⊢
    go_simp
    exact hK _ _ (Fr.refl [] _) rfl
  case s1_3 =>
    refine stepOk_of _ _ rfl rfl ?_
    intro v W1 f kp ho hd K' hK
    have e14 : v 14 = .bool false := (hd 2 (by decide) _ _ rfl rfl).1
    simp only [e14] at hK ⊢
    go_simp
    exact hK _ _ (Fr.refl [] _) rfl
  case s1_4 =>
    refine stepOk_of _ _ rfl rfl ?_
    intro v W1 f kp ho hd K' hK
    have e15 : v 15 = .bool false := (hd 3 (by decide) _ _ rfl rfl).1
    have k0 := (b3.keep f (by simp)).cell (j := 0) rfl
    have k1 := (b3.keep f (by simp)).cell (j := 1) rfl
    simp only [e15] at hK ⊢
    go_simp
    exact hK _ _ (Fr.refl [] _) rfl
  case s1_5 =>
    refine stepOk_of _ _ rfl rfl ?_
    intro v W1 f kp ho hd K' hK
    have e16 : v 16 = .agg #[.bool gb, .slice pb nb cb] := (hd 4 (by decide) _ _ rfl rfl).1
    have e15 : v 15 = .bool false := (hd 3 (by decide) _ _ rfl rfl).1
    simp only [e16, e15] at hK ⊢
    go_simp
    refine (rsign_e Hd.out (h2.kp kp) (by omega)).mono ?_
    rintro e W' ⟨rfl, ff⟩
    exact hK _ W' ff rfl
  case s1_6 =>
    refine stepOk_of _ _ rfl rfl ?_
    intro v W1 f kp ho hd K' hK
    have e17 : v 17 = .int .i64 0 := (hd 5 (by decide) _ _ rfl rfl).1
    have e15 : v 15 = .bool false := (hd 3 (by decide) _ _ rfl rfl).1
    simp only [e17, e15] at hK ⊢
    go_simp
    exact hK _ _ (Fr.refl [] _) rfl
  case s1_7 =>
    refine stepOk_of _ _ rfl rfl ?_
    intro v W1 f kp ho hd K' hK
    have e15 : v 15 = .bool false := (hd 3 (by decide) _ _ rfl rfl).1
    have e18 : v 18 = .bool true := (hd 6 (by decide) _ _ rfl rfl).1
    simp only [e15, e18] at hK ⊢
    go_simp
    exact hK _ _ (Fr.refl [] _) rfl
  case done1 =>
    intro v W1 f kp hF hD
    have e12 : v 12 = .agg #[.bool ga, .slice pa na ca] := (hF 0 _ _ rfl rfl).1
    have e13 : v 13 = .int .i64 sz := (hF 1 _ _ rfl rfl).1
    have e14 : v 14 = .bool false := (hF 2 _ _ rfl rfl).1
    have e15 : v 15 = .bool false := (hF 3 _ _ rfl rfl).1
    have e16 : v 16 = .agg #[.bool gb, .slice pb nb cb] := (hF 4 _ _ rfl rfl).1
    have e17 : v 17 = .int .i64 0 := (hF 5 _ _ rfl rfl).1
    have e18 : v 18 = .bool true := (hF 6 _ _ rfl rfl).1
    have e19 : v 19 = .bool true := (hF 7 _ _ rfl rfl).1
    clear hF hD
    simp only [e12, e13, e14, e15, e16, e17, e18, e19]
    replace b2 := b2.keep f (by simp)
    replace b3 := b3.keep f (by simp)
    replace b4 := b4.keep f (by simp)
    replace h1 := h1.kp kp
    replace h2 := h2.kp kp
    replace hw := hw.trans (a := w) (b := W) (c := W1) f (by simp)
    have hsz1 := f.size
    clear f kp
    have c_b2_0 := b2.cell (j := 0) rfl
    have c_b2_1 := b2.cell (j := 1) rfl
    have c_b3_0 := b3.cell (j := 0) rfl
    have c_b3_1 := b3.cell (j := 1) rfl
    have c_b4_0 := b4.cell (j := 0) rfl
    have c_b4_1 := b4.cell (j := 1) rfl
    have c_b4_2 := b4.cell (j := 2) rfl
    go_upto_region 2 with fail
    clear c_b2_0 c_b2_1 c_b3_0 c_b3_1 c_b4_0 c_b4_1 c_b4_2
    refine wp_region_inv (w0 := W1) (by kernel_rfl) [true, true, false, false, false, false, false, false, true, false, false, true, true, true, true, true, true, true, true, true, true, true, false, false, false, false, false, false, false, false, false, false, false, false, false, false, false, false, false, false, false, false, false, false, false, false, false] [(w.heap.size + 2)]
      [⟨[20], F1 (fun xx ww => VD ww 1 xx), .pure⟩,
    ⟨[21], F1 (fun xx ww => VQ ww (0 : Rat) xx), .pure⟩,
    ⟨[21], F0, .out 0 26 cellsOf⟩]
      [[], [0], [0, 1]] ?mk2 ?hmk2 (by kernel_rfl)
      ⟨F1.st (fun _ _ _ k h => h.kp k), F1.st (fun _ _ _ k h => h.kp k), F0.st, trivial⟩ (by simp) (by simp <;> omega) (n := 3) rfl ⟨⟨⟨trivial, ?s2_0⟩, ?s2_1⟩, ?s2_2⟩ ?done2
    case hmk2 => intro v; simp only [mkv, mix, Nat.reduceAdd]; rfl
    case s2_0 =>
      refine stepOk_of _ _ rfl rfl ?_
      intro v W2 f kp ho hd K' hK
      go_simp
      exact hK _ _ (Fr.new _) (vd_one _)
    case s2_1 =>
      refine stepOk_of _ _ rfl rfl ?_
      intro v W2 f kp ho hd K' hK
      have f20 : VD W2 1 (v 20) := (hd 0 (by decide) _ _ rfl rfl).1
      have o20 := f20
      obtain ⟨p20, c20, e20, s20⟩ := o20
      simp only [e20] at hK ⊢
      go_simp
      exact hK _ _ (Fr.refl [] _) (vq_zero s20)
    case s2_2 =>
      refine stepOk_of _ _ rfl rfl ?_
      intro v W2 f kp ho hd K' hK
      have f21 : VQ W2 (0 : Rat) (v 21) := (hd 1 (by decide) _ _ rfl rfl).1
      have o21 := f21
      obtain ⟨p21, c21, q21, d21, e21, s21, t21⟩ := o21
      have bz : Bx W2 (w.heap.size + 2) 26 #[.bool false, .slice none 0 0, .slice none 0 0] := (ho 0 _ rfl (by kernel_rfl)).trans b4
      have k0 := bz.cell (j := 0) rfl
      have fr0 := bz.free 0
      have k1 := bz.cell (j := 1) rfl
      have fr1 := bz.free 1
      have k2 := bz.cell (j := 2) rfl
      have fr2 := bz.free 2
      simp only [e21] at hK ⊢
      go_simp
      exact hK undef _ (move_out (cs := #[.bool (decide (((0 : Rat)).num < 0)), .slice p21 (dg ((0 : Rat)).num.natAbs).length c21, .slice q21 (dg ((0 : Rat)).den).length d21]) rfl rfl (by simp only [List.map, e21]; rfl) (bz.soft rfl) rfl rfl ((((Fr.refl _ _).put1 0 _).put1 1 _).put1 2 _) ((((bz.put1 0 _).put1 1 _).put1 2 _))) trivial
    case done2 =>
      intro v W2 f kp hF hD
      have f20 : VD W2 1 (v 20) := (hF 0 _ _ rfl rfl).1
      have f21 : VQ W2 (0 : Rat) (v 21) := (hF 1 _ _ rfl rfl).1
      have o21 := f21
      obtain ⟨p21, c21, q21, d21, e21, s21, t21⟩ := o21
      rw [e21] at f21
      obtain ⟨-, A', eA, nb4⟩ := hF 2 _ _ rfl rfl
      injection eA with eA; subst eA
      replace nb4 : Bx W2 (w.heap.size + 2) 26 #[.bool (decide (((0 : Rat)).num < 0)), .slice p21 (dg ((0 : Rat)).num.natAbs).length c21, .slice q21 (dg ((0 : Rat)).den).length d21] := by simp only [List.map, e21] at nb4; exact nb4
      clear hF hD
      simp only [e21]
      replace b2 := b2.keep f (by simp <;> omega)
      replace b3 := b3.keep f (by simp <;> omega)
      clear b4; have b4 := nb4; clear nb4
      replace h1 := h1.kp kp
      replace h2 := h2.kp kp
      replace hw := hw.trans (a := w) (b := W1) (c := W2) f (fun x hx hl => by simp at hx; omega)
      have hsz2 := f.size
      clear f kp
      go_wp2_with fail
      have c_b4_0 := b4.cell (j := 0) rfl
      have c_b4_1 := b4.cell (j := 1) rfl
      have c_b4_2 := b4.cell (j := 2) rfl
      exact bodyPost_ret (v := rw' (decide (((0 : Rat)).num < 0)) p21 (dg ((0 : Rat)).num.natAbs).length c21 q21 (dg ((0 : Rat)).den).length d21) (by simp [results, Tryz.results102, go_sem, c_b4_0, c_b4_1, c_b4_2]) rfl ⟨_, rfl, f21, hw⟩

set_option maxRecDepth 100000 in
set_option maxHeartbeats 1000000 in
theorem reduce_pos {w : World} {L M D : Nat} {z : Int} {u u' : Value} (h1 : VI w L z u) (h2 : VI w M ((D : Int)) u') (_hL : L ≤ 524286) (_hM : M ≤ 524287) (hz : z ≠ 0) (hD : D ≠ 0) : Calls Tryz.prog 102 #[u, u'] w (RV (fun w' => VQ w' (Rat.divInt z ((D : Int)))) w) := by
  have lz := nz_len h1
  obtain ⟨d, hd⟩ : ∃ d : Int, (D : Int) = d := ⟨_, rfl⟩
  obtain ⟨g, hg⟩ : ∃ g, Nat.gcd z.natAbs D = g := ⟨_, rfl⟩
  have hg0 : g ≠ 0 := by rw [← hg]; exact gcd_ne hD
  obtain ⟨l1, l2, l3⟩ := low_pos hD hg
  rw [hd] at l1 l2 l3 h2 ⊢
  obtain ⟨r, hr⟩ : ∃ r, Rat.divInt z d = r := ⟨_, rfl⟩
  rw [hr] at l1 l2 ⊢
  obtain ⟨zg, hzg⟩ : ∃ q, z / (g : Int) = q := ⟨_, rfl⟩
  rw [hzg] at l1
  obtain ⟨zn, hzn⟩ : ∃ q, zg = q := ⟨_, rfl⟩
  rw [hzn] at l1
  obtain ⟨dg', hdg⟩ : ∃ q, d / (g : Int) = q := ⟨_, rfl⟩
  rw [hdg] at l3
  have hgg : ((Nat.gcd z.natAbs d.natAbs : Nat) : Int) = (g : Int) := by rw [← hd, ← hg, Int.natAbs_natCast]
  have hq0 : D / g ≠ 0 := quot_ne hD hg
  have hz1 : nz (g : Int) ≤ L + 1 := by rw [nz_nat]; have h3 := dg_len_mono (Nat.le_of_dvd (Int.natAbs_pos.2 hz) (by rw [← hg]; exact Nat.gcd_dvd_left z.natAbs D : g ∣ z.natAbs)); unfold nz at lz; omega
  have hzl : nz zg ≤ L := by rw [← hzg]; exact Nat.le_trans (nz_floor' _ _) lz
  obtain ⟨sz, hsz⟩ : ∃ s, z.sign = s := ⟨_, rfl⟩
  have hs0 : (sz == 0) = false := by rw [← hsz]; exact sign_ne0 hz
  obtain ⟨sd, hsd⟩ : ∃ s, d.sign = s := ⟨_, rfl⟩
  have hd0 : (sd == 0) = false := by rw [← hsd]; exact sign_ne0 (by rw [← hd]; omega)
  have hgn : (g : Int) ≠ 0 := by omega
  have hneg : decide (dg' < 0) = false := by rw [l3]; exact decide_eq_false (by omega)
  have habs : dg'.natAbs = r.den := by rw [l3, l2, Int.natAbs_natCast]
  have Hsz := Lib.hid hsz; have Hsd := Lib.hid hsd; have Hgg := Lib.hid hgg; have Hzg := Lib.hid hzg; have Hdg := Lib.hid hdg; have Hl1 := Lib.hid l1; have Hgn := Lib.hid hgn; have Habs := Lib.hid habs; have Hzn := Lib.hid hzn; have Hneg := Lib.hid hneg
  clear hsz hsd hgg hzg hzn hdg l1 l2 l3 hgn habs hneg hr hd hg hz hD hq0 hg0
  have o_h1 := h1
  obtain ⟨ga, pa, na, ca, Xa, rfl, -, -, -⟩ := o_h1
  have o_h2 := h2
  obtain ⟨gb, pb, nb, cb, Xb, rfl, -, -, -⟩ := o_h2
  go_enter Tryz.func102, Tryz.ntmps102
  go_upto_region 1 with fail
  have hw : Fr [] w (((w.alloc (Obj.cells #[.bool ga, .slice pa na ca] 24)).alloc (Obj.cells #[.bool gb, .slice pb nb cb] 24)).alloc (Obj.cells #[.bool false, .slice none 0 0, .slice none 0 0] 26)) := (((Fr.refl _ _).alloc _).alloc _).alloc _
  have b2 : Bx (((w.alloc (Obj.cells #[.bool ga, .slice pa na ca] 24)).alloc (Obj.cells #[.bool gb, .slice pb nb cb] 24)).alloc (Obj.cells #[.bool false, .slice none 0 0, .slice none 0 0] 26)) w.heap.size 24 #[.bool ga, .slice pa na ca] := (Bx.made' (by simp) _ _).kept (((Fr.refl _ _).alloc _).alloc _)
  have b3 : Bx (((w.alloc (Obj.cells #[.bool ga, .slice pa na ca] 24)).alloc (Obj.cells #[.bool gb, .slice pb nb cb] 24)).alloc (Obj.cells #[.bool false, .slice none 0 0, .slice none 0 0] 26)) (w.heap.size + 1) 24 #[.bool gb, .slice pb nb cb] := (Bx.made' (by simp) _ _).kept ((Fr.refl _ _).alloc _)
  have b4 : Bx (((w.alloc (Obj.cells #[.bool ga, .slice pa na ca] 24)).alloc (Obj.cells #[.bool gb, .slice pb nb cb] 24)).alloc (Obj.cells #[.bool false, .slice none 0 0, .slice none 0 0] 26)) (w.heap.size + 2) 26 #[.bool false, .slice none 0 0, .slice none 0 0] := (Bx.made' (by simp) _ _).kept (Fr.refl _ _)
  generalize (((w.alloc (Obj.cells #[.bool ga, .slice pa na ca] 24)).alloc (Obj.cells #[.bool gb, .slice pb nb cb] 24)).alloc (Obj.cells #[.bool false, .slice none 0 0, .slice none 0 0] 26)) = W at *
  have hbs := b4.lt
  replace h1 := h1.kept hw
  replace h2 := h2.kept hw
  refine wp_region_inv (w0 := W) (by kernel_rfl) [true, true, false, false, false, false, false, false, true, false, false, true, true, true, true, true, true, true, true, true, false, false, false, false, false, false, false, false, false, false, false, false, false, false, false, false, false, false, false, false, false, false, false, false, false, false, false] []
    [⟨[12], F1 (fun xx _ => xx = .agg #[.bool ga, .slice pa na ca]), .pure⟩,
    ⟨[13], F1 (fun xx _ => xx = .int .i64 sz), .pure⟩,
    ⟨[14], F1 (fun xx _ => xx = .bool false), .pure⟩,
    ⟨[15], F1 (fun xx _ => xx = .bool false), .pure⟩,
    ⟨[16], F1 (fun xx _ => xx = .agg #[.bool gb, .slice pb nb cb]), .pure⟩,
    ⟨[17], F1 (fun xx _ => xx = .int .i64 sd), .pure⟩,
    ⟨[18], F1 (fun xx _ => xx = .bool false), .pure⟩,
    ⟨[19], F1 (fun xx _ => xx = .bool false), .pure⟩]
    [[], [0], [0, 1], [0, 1, 2], [0, 1, 2, 3], [0, 1, 2, 3, 4], [0, 1, 2, 3, 4, 5], [0, 1, 2, 3, 4, 5, 6]] ?mk1 ?hmk1 (by kernel_rfl)
    ⟨F1.st (st_eq _), F1.st (st_eq _), F1.st (st_eq _), F1.st (st_eq _), F1.st (st_eq _), F1.st (st_eq _), F1.st (st_eq _), F1.st (st_eq _), trivial⟩ (by simp) (by simp) (n := 8) rfl ⟨⟨⟨⟨⟨⟨⟨⟨trivial, ?s1_0⟩, ?s1_1⟩, ?s1_2⟩, ?s1_3⟩, ?s1_4⟩, ?s1_5⟩, ?s1_6⟩, ?s1_7⟩ ?done1
  case hmk1 => intro v; simp only [mkv, mix, Nat.reduceAdd]; rfl
  case s1_0 =>
    refine stepOk_of _ _ rfl rfl ?_
    intro v W1 f kp ho hd K' hK
    have k0 := (b2.keep f (by simp)).cell (j := 0) rfl
    have k1 := (b2.keep f (by simp)).cell (j := 1) rfl
    go_simp
    exact hK _ _ (Fr.refl [] _) rfl
  case s1_1 =>
    refine stepOk_of _ _ rfl rfl ?_
    intro v W1 f kp ho hd K' hK
    have e12 : v 12 = .agg #[.bool ga, .slice pa na ca] := (hd 0 (by decide) _ _ rfl rfl).1
    simp only [e12] at hK ⊢
    go_simp
    refine (rsign_e Hsz.out (h1.kp kp) (by omega)).mono ?_
    rintro e W' ⟨rfl, ff⟩
    exact hK _ W' ff rfl
  case s1_2 =>
    refine stepOk_of _ _ rfl rfl ?_
    intro v W1 f kp ho hd K' hK
    have e13 : v 13 = .int .i64 sz := (hd 1 (by decide) _ _ rfl rfl).1
    simp only [e13] at hK ⊢
    go_simp
    exact hK _ _ (Fr.refl [] _) rfl
  case s1_3 =>
    refine stepOk_of _ _ rfl rfl ?_
    intro v W1 f kp ho hd K' hK
    have e14 : v 14 = .bool false := (hd 2 (by decide) _ _ rfl rfl).1
    simp only [e14] at hK ⊢
    go_simp
    exact hK _ _ (Fr.refl [] _) rfl
  case s1_4 =>
    refine stepOk_of _ _ rfl rfl ?_
    intro v W1 f kp ho hd K' hK
    have e15 : v 15 = .bool false := (hd 3 (by decide) _ _ rfl rfl).1
    have k0 := (b3.keep f (by simp)).cell (j := 0) rfl
    have k1 := (b3.keep f (by simp)).cell (j := 1) rfl
    simp only [e15] at hK ⊢
    go_simp
    exact hK _ _ (Fr.refl [] _) rfl
  case s1_5 =>
    refine stepOk_of _ _ rfl rfl ?_
    intro v W1 f kp ho hd K' hK
    have e16 : v 16 = .agg #[.bool gb, .slice pb nb cb] := (hd 4 (by decide) _ _ rfl rfl).1
    have e15 : v 15 = .bool false := (hd 3 (by decide) _ _ rfl rfl).1
    simp only [e16, e15] at hK ⊢
    go_simp
    refine (rsign_e Hsd.out (h2.kp kp) (by omega)).mono ?_
    rintro e W' ⟨rfl, ff⟩
    exact hK _ W' ff rfl
  case s1_6 =>
    refine stepOk_of _ _ rfl rfl ?_
    intro v W1 f kp ho hd K' hK
    have e17 : v 17 = .int .i64 sd := (hd 5 (by decide) _ _ rfl rfl).1
    have e15 : v 15 = .bool false := (hd 3 (by decide) _ _ rfl rfl).1
    simp only [e17, e15] at hK ⊢
    go_simp
    exact hK _ _ (Fr.refl [] _) rfl
  case s1_7 =>
    refine stepOk_of _ _ rfl rfl ?_
    intro v W1 f kp ho hd K' hK
    have e15 : v 15 = .bool false := (hd 3 (by decide) _ _ rfl rfl).1
    have e18 : v 18 = .bool false := (hd 6 (by decide) _ _ rfl rfl).1
    simp only [e15, e18] at hK ⊢
    go_simp
    exact hK _ _ (Fr.refl [] _) rfl
  case done1 =>
    intro v W1 f kp hF hD
    have e12 : v 12 = .agg #[.bool ga, .slice pa na ca] := (hF 0 _ _ rfl rfl).1
    have e13 : v 13 = .int .i64 sz := (hF 1 _ _ rfl rfl).1
    have e14 : v 14 = .bool false := (hF 2 _ _ rfl rfl).1
    have e15 : v 15 = .bool false := (hF 3 _ _ rfl rfl).1
    have e16 : v 16 = .agg #[.bool gb, .slice pb nb cb] := (hF 4 _ _ rfl rfl).1
    have e17 : v 17 = .int .i64 sd := (hF 5 _ _ rfl rfl).1
    have e18 : v 18 = .bool false := (hF 6 _ _ rfl rfl).1
    have e19 : v 19 = .bool false := (hF 7 _ _ rfl rfl).1
    clear hF hD
    simp only [e12, e13, e14, e15, e16, e17, e18, e19]
    replace b2 := b2.keep f (by simp)
    replace b3 := b3.keep f (by simp)
    replace b4 := b4.keep f (by simp)
    replace h1 := h1.kp kp
    replace h2 := h2.kp kp
    replace hw := hw.trans (a := w) (b := W) (c := W1) f (by simp)
    have hsz1 := f.size
    clear f kp
    have c_b2_0 := b2.cell (j := 0) rfl
    have c_b2_1 := b2.cell (j := 1) rfl
    have c_b3_0 := b3.cell (j := 0) rfl
    have c_b3_1 := b3.cell (j := 1) rfl
    have c_b4_0 := b4.cell (j := 0) rfl
    have c_b4_1 := b4.cell (j := 1) rfl
    have c_b4_2 := b4.cell (j := 2) rfl
    go_upto_region 3 with fail
    clear c_b2_0 c_b2_1 c_b3_0 c_b3_1 c_b4_0 c_b4_1 c_b4_2
    refine wp_region_inv (w0 := W1) (by kernel_rfl) [true, true, false, false, false, true, false, false, true, false, false, true, true, true, true, true, true, true, true, true, true, true, true, true, true, false, false, false, false, false, false, false, false, false, false, false, false, false, false, false, false, false, false, false, false, false, false] []
      [⟨[22], F1 (fun xx _ => xx = .agg #[.bool ga, .slice pa na ca]), .pure⟩,
    ⟨[23], F1 (fun xx _ => xx = .agg #[.bool gb, .slice pb nb cb]), .pure⟩,
    ⟨[24], F1 (fun xx ww => VZ ww (g : Int) xx), .pure⟩,
    ⟨[], F0, .new 24 2⟩,
    ⟨[24], F0, .store 5 24 cellsOf⟩]
      [[], [], [0, 1], [], [0, 1, 2, 3]] ?mk2 ?hmk2 (by kernel_rfl)
      ⟨F1.st (st_eq _), F1.st (st_eq _), F1.st (fun _ _ _ k h => h.kp k), F0.st, F0.st, trivial⟩ (by simp) (by simp) (n := 5) rfl ⟨⟨⟨⟨⟨trivial, ?s2_0⟩, ?s2_1⟩, ?s2_2⟩, ?s2_3⟩, ?s2_4⟩ ?done2
    case hmk2 => intro v; simp only [mkv, mix, Nat.reduceAdd]; rfl
    case s2_0 =>
      refine stepOk_of _ _ rfl rfl ?_
      intro v W2 f kp ho hd K' hK
      have k0 := (b2.keep f (by simp)).cell (j := 0) rfl
      have k1 := (b2.keep f (by simp)).cell (j := 1) rfl
      go_simp
      exact hK _ _ (Fr.refl [] _) rfl
    case s2_1 =>
      refine stepOk_of _ _ rfl rfl ?_
      intro v W2 f kp ho hd K' hK
      have k0 := (b3.keep f (by simp)).cell (j := 0) rfl
      have k1 := (b3.keep f (by simp)).cell (j := 1) rfl
      go_simp
      exact hK _ _ (Fr.refl [] _) rfl
    case s2_2 =>
      refine stepOk_of _ _ rfl rfl ?_
      intro v W2 f kp ho hd K' hK
      have e22 : v 22 = .agg #[.bool ga, .slice pa na ca] := (hd 0 (by decide) _ _ rfl rfl).1
      have e23 : v 23 = .agg #[.bool gb, .slice pb nb cb] := (hd 1 (by decide) _ _ rfl rfl).1
      simp only [e22, e23] at hK ⊢
      go_simp
      refine (rgcd_e Hgg.out (h1.kp kp) (h2.kp kp) (by omega) (by omega)).mono ?_
      rintro e W' ⟨x, rfl, hx, ff⟩
      exact hK x W' ff hx
    case s2_3 =>
      refine stepOk_of _ _ rfl rfl ?_
      intro v W2 f kp ho hd K' hK
      go_simp
      exact hK _ _ (move_new rfl rfl rfl rfl rfl) trivial
    case s2_4 =>
      refine stepOk_of _ _ rfl rfl ?_
      intro v W2 f kp ho hd K' hK
      obtain ⟨-, A5, e5, -, sb5⟩ := hd 3 (by decide) _ _ rfl rfl
      have f24 : VZ W2 (g : Int) (v 24) := (hd 2 (by decide) _ _ rfl rfl).1
      have o24 := f24
      obtain ⟨p24, c24, e24, s24⟩ := o24
      obtain ⟨zz0, zz1, bz⟩ := sb5.open2
      have k0 := bz.cell (j := 0) rfl
      have fr0 := bz.free 0
      have k1 := bz.cell (j := 1) rfl
      have fr1 := bz.free 1
      simp only [e5, e24] at hK ⊢
      go_simp
      exact hK undef _ (move_store (cs := #[.bool (decide ((g : Int) < 0)), .slice p24 (dg ((g : Int)).natAbs).length c24]) rfl e5 (by simp only [List.map, e24]; rfl) sb5 rfl rfl (((Fr.refl _ _).put1 0 _).put1 1 _) (((bz.put1 0 _).put1 1 _))) trivial
    case done2 =>
      intro v W2 f kp hF hD
      have e22 : v 22 = .agg #[.bool ga, .slice pa na ca] := (hF 0 _ _ rfl rfl).1
      have e23 : v 23 = .agg #[.bool gb, .slice pb nb cb] := (hF 1 _ _ rfl rfl).1
      have f24 : VZ W2 (g : Int) (v 24) := (hF 2 _ _ rfl rfl).1
      have o24 := f24
      obtain ⟨p24, c24, e24, s24⟩ := o24
      rw [e24] at f24
      obtain ⟨-, A5, e5, g5, -⟩ := hF 3 _ _ rfl rfl
      obtain ⟨-, A', eA, b5⟩ := hF 4 _ _ rfl rfl
      rw [e5] at eA; injection eA with eA; injection eA with eA; injection eA with eA; subst eA
      replace b5 : Bx W2 A5 24 #[.bool (decide ((g : Int) < 0)), .slice p24 (dg ((g : Int)).natAbs).length c24] := by simp only [List.map, e24] at b5; exact b5
      clear hF hD
      simp only [e22, e23, e24, e5]
      replace b2 := b2.keep f (by simp)
      replace b3 := b3.keep f (by simp)
      replace b4 := b4.keep f (by simp)
      replace h1 := h1.kp kp
      replace h2 := h2.kp kp
      replace hw := hw.trans (a := w) (b := W1) (c := W2) f (by simp)
      have hsz2 := f.size
      clear f kp
      have hlt_b5 := b5.lt
      have c_b2_0 := b2.cell (j := 0) rfl
      have c_b2_1 := b2.cell (j := 1) rfl
      have c_b3_0 := b3.cell (j := 0) rfl
      have c_b3_1 := b3.cell (j := 1) rfl
      have c_b4_0 := b4.cell (j := 0) rfl
      have c_b4_1 := b4.cell (j := 1) rfl
      have c_b4_2 := b4.cell (j := 2) rfl
      have c_b5_0 := b5.cell (j := 0) rfl
      have c_b5_1 := b5.cell (j := 1) rfl
      go_upto_region 4 with fail
      clear c_b2_0 c_b2_1 c_b3_0 c_b3_1 c_b4_0 c_b4_1 c_b4_2 c_b5_0 c_b5_1
      refine wp_region_inv (w0 := W2) (by kernel_rfl) [true, true, false, false, false, false, true, true, true, false, false, true, true, true, true, true, true, true, true, true, true, true, true, true, true, true, true, true, true, true, true, true, false, false, false, false, false, false, false, false, false, false, false, false, false, false, false] []
        [⟨[26], F1 (fun xx _ => xx = .agg #[.bool ga, .slice pa na ca]), .pure⟩,
    ⟨[27], F1 (fun xx _ => xx = .agg #[.bool (decide ((g : Int) < 0)), .slice p24 (dg ((g : Int)).natAbs).length c24]), .pure⟩,
    ⟨[28], F1 (fun xx ww => ∃ y0 y1, xx = .tuple #[y0, y1, .int .i64 0] ∧ VZ ww zg y0 ∧ VZ ww (z % (g : Int)) y1), .pure⟩,
    ⟨[25], F1 (fun xx ww => ∃ y0 y1, xx = .tuple #[y0, y1, .int .i64 0] ∧ VZ ww zg y0 ∧ VZ ww (z % (g : Int)) y1), .pure⟩,
    ⟨[29], F1 (fun xx ww => VZ ww zg xx), .pure⟩,
    ⟨[30], F1 (fun xx ww => VZ ww (z % (g : Int)) xx), .pure⟩,
    ⟨[31], F1 (fun xx _ => xx = .int .i64 0), .pure⟩,
    ⟨[], F0, .new 24 2⟩,
    ⟨[], F0, .new 24 2⟩,
    ⟨[29], F0, .store 6 24 cellsOf⟩,
    ⟨[30], F0, .store 7 24 cellsOf⟩,
    ⟨[8], F1 (fun xx _ => xx = .int .i64 0), .pure⟩]
        [[], [], [0, 1], [0, 1, 2], [0, 1, 2, 3], [0, 1, 2, 3], [0, 1, 2, 3], [], [], [0, 1, 2, 3, 4, 7, 8], [0, 1, 2, 3, 4, 5, 7, 8, 9], [0, 1, 2, 3, 4, 5, 6, 7, 8, 9, 10]] ?mk3 ?hmk3 (by kernel_rfl)
        ⟨F1.st (st_eq _), F1.st (st_eq _), F1.st (fun _ _ _ k h => by obtain ⟨y0, y1, e, h0, h1⟩ := h; exact ⟨y0, y1, e, h0.kp k, h1.kp k⟩), F1.st (fun _ _ _ k h => by obtain ⟨y0, y1, e, h0, h1⟩ := h; exact ⟨y0, y1, e, h0.kp k, h1.kp k⟩), F1.st (fun _ _ _ k h => h.kp k), F1.st (fun _ _ _ k h => h.kp k), F1.st (st_eq _), F0.st, F0.st, F0.st, F0.st, F1.st (st_eq _), trivial⟩ (by simp) (by simp) (n := 12) rfl ⟨⟨⟨⟨⟨⟨⟨⟨⟨⟨⟨⟨trivial, ?s3_0⟩, ?s3_1⟩, ?s3_2⟩, ?s3_3⟩, ?s3_4⟩, ?s3_5⟩, ?s3_6⟩, ?s3_7⟩, ?s3_8⟩, ?s3_9⟩, ?s3_10⟩, ?s3_11⟩ ?done3
      case hmk3 => intro v; simp only [mkv, mix, Nat.reduceAdd]; rfl
      case s3_0 =>
        refine stepOk_of _ _ rfl rfl ?_
        intro v W3 f kp ho hd K' hK
        have k0 := (b2.keep f (by simp)).cell (j := 0) rfl
        have k1 := (b2.keep f (by simp)).cell (j := 1) rfl
        go_simp
        exact hK _ _ (Fr.refl [] _) rfl
      case s3_1 =>
        refine stepOk_of _ _ rfl rfl ?_
        intro v W3 f kp ho hd K' hK
        have k0 := (b5.keep f (by simp)).cell (j := 0) rfl
        have k1 := (b5.keep f (by simp)).cell (j := 1) rfl
        go_simp
        exact hK _ _ (Fr.refl [] _) rfl
      case s3_2 =>
        refine stepOk_of _ _ rfl rfl ?_
        intro v W3 f kp ho hd K' hK
        have e26 : v 26 = .agg #[.bool ga, .slice pa na ca] := (hd 0 (by decide) _ _ rfl rfl).1
        have e27 : v 27 = .agg #[.bool (decide ((g : Int) < 0)), .slice p24 (dg ((g : Int)).natAbs).length c24] := (hd 1 (by decide) _ _ rfl rfl).1
        simp only [e26, e27] at hK ⊢
        go_simp
        refine (ridiv_v Hzg.out (h1.kp kp) ((f24.kp kp).raw hz1) (by omega) (by omega) Hgn.out).mono ?_
        rintro e W' ⟨x0, x1, rfl, y0, y1, ff⟩
        exact hK _ W' ff ⟨_, _, rfl, y0, y1⟩
      case s3_3 =>
        refine stepOk_of _ _ rfl rfl ?_
        intro v W3 f kp ho hd K' hK
        have f28 : ∃ y0 y1, v 28 = .tuple #[y0, y1, .int .i64 0] ∧ VZ W3 zg y0 ∧ VZ W3 (z % (g : Int)) y1 := (hd 2 (by decide) _ _ rfl rfl).1
        obtain ⟨a28_0, a28_1, e28, h28_0, h28_1⟩ := f28
        simp only [e28] at hK ⊢
        go_simp
        exact hK _ _ (Fr.refl [] _) ⟨_, _, rfl, h28_0, h28_1⟩
      case s3_4 =>
        refine stepOk_of _ _ rfl rfl ?_
        intro v W3 f kp ho hd K' hK
        have f25 : ∃ y0 y1, v 25 = .tuple #[y0, y1, .int .i64 0] ∧ VZ W3 zg y0 ∧ VZ W3 (z % (g : Int)) y1 := (hd 3 (by decide) _ _ rfl rfl).1
        obtain ⟨a25_0, a25_1, e25, h25_0, h25_1⟩ := f25
        simp only [e25] at hK ⊢
        go_simp
        exact hK _ _ (Fr.refl [] _) h25_0
      case s3_5 =>
        refine stepOk_of _ _ rfl rfl ?_
        intro v W3 f kp ho hd K' hK
        have f25 : ∃ y0 y1, v 25 = .tuple #[y0, y1, .int .i64 0] ∧ VZ W3 zg y0 ∧ VZ W3 (z % (g : Int)) y1 := (hd 3 (by decide) _ _ rfl rfl).1
        obtain ⟨a25_0, a25_1, e25, h25_0, h25_1⟩ := f25
        simp only [e25] at hK ⊢
        go_simp
        exact hK _ _ (Fr.refl [] _) h25_1
      case s3_6 =>
        refine stepOk_of _ _ rfl rfl ?_
        intro v W3 f kp ho hd K' hK
        have f25 : ∃ y0 y1, v 25 = .tuple #[y0, y1, .int .i64 0] ∧ VZ W3 zg y0 ∧ VZ W3 (z % (g : Int)) y1 := (hd 3 (by decide) _ _ rfl rfl).1
        obtain ⟨a25_0, a25_1, e25, h25_0, h25_1⟩ := f25
        simp only [e25] at hK ⊢
        go_simp
        exact hK _ _ (Fr.refl [] _) rfl
      case s3_7 =>
        refine stepOk_of _ _ rfl rfl ?_
        intro v W3 f kp ho hd K' hK
        go_simp
        exact hK _ _ (move_new rfl rfl rfl rfl rfl) trivial
      case s3_8 =>
        refine stepOk_of _ _ rfl rfl ?_
        intro v W3 f kp ho hd K' hK
        go_simp
        exact hK _ _ (move_new rfl rfl rfl rfl rfl) trivial
      case s3_9 =>
        refine stepOk_of _ _ rfl rfl ?_
        intro v W3 f kp ho hd K' hK
        obtain ⟨-, A6, e6, -, sb6⟩ := hd 7 (by decide) _ _ rfl rfl
        have f29 : VZ W3 zg (v 29) := (hd 4 (by decide) _ _ rfl rfl).1
        have o29 := f29
        obtain ⟨p29, c29, e29, s29⟩ := o29
        obtain ⟨zz0, zz1, bz⟩ := sb6.open2
        have k0 := bz.cell (j := 0) rfl
        have fr0 := bz.free 0
        have k1 := bz.cell (j := 1) rfl
        have fr1 := bz.free 1
        simp only [e6, e29] at hK ⊢
        go_simp
        exact hK undef _ (move_store (cs := #[.bool (decide (zg < 0)), .slice p29 (dg (zg).natAbs).length c29]) rfl e6 (by simp only [List.map, e29]; rfl) sb6 rfl rfl (((Fr.refl _ _).put1 0 _).put1 1 _) (((bz.put1 0 _).put1 1 _))) trivial
      case s3_10 =>
        refine stepOk_of _ _ rfl rfl ?_
        intro v W3 f kp ho hd K' hK
        obtain ⟨-, A7, e7, -, sb7⟩ := hd 8 (by decide) _ _ rfl rfl
        have f30 : VZ W3 (z % (g : Int)) (v 30) := (hd 5 (by decide) _ _ rfl rfl).1
        have o30 := f30
        obtain ⟨p30, c30, e30, s30⟩ := o30
        obtain ⟨zz0, zz1, bz⟩ := sb7.open2
        have k0 := bz.cell (j := 0) rfl
        have fr0 := bz.free 0
        have k1 := bz.cell (j := 1) rfl
        have fr1 := bz.free 1
        simp only [e7, e30] at hK ⊢
        go_simp
        exact hK undef _ (move_store (cs := #[.bool (decide ((z % (g : Int)) < 0)), .slice p30 (dg ((z % (g : Int))).natAbs).length c30]) rfl e7 (by simp only [List.map, e30]; rfl) sb7 rfl rfl (((Fr.refl _ _).put1 0 _).put1 1 _) (((bz.put1 0 _).put1 1 _))) trivial
      case s3_11 =>
        refine stepOk_of _ _ rfl rfl ?_
        intro v W3 f kp ho hd K' hK
        have e31 : v 31 = .int .i64 0 := (hd 6 (by decide) _ _ rfl rfl).1
        simp only [e31] at hK ⊢
        go_simp
        exact hK _ _ (Fr.refl [] _) rfl
      case done3 =>
        intro v W3 f kp hF hD
        have e26 : v 26 = .agg #[.bool ga, .slice pa na ca] := (hF 0 _ _ rfl rfl).1
        have e27 : v 27 = .agg #[.bool (decide ((g : Int) < 0)), .slice p24 (dg ((g : Int)).natAbs).length c24] := (hF 1 _ _ rfl rfl).1
        have f29 : VZ W3 zg (v 29) := (hF 4 _ _ rfl rfl).1
        have o29 := f29
        obtain ⟨p29, c29, e29, s29⟩ := o29
        rw [e29] at f29
        have f30 : VZ W3 (z % (g : Int)) (v 30) := (hF 5 _ _ rfl rfl).1
        have o30 := f30
        obtain ⟨p30, c30, e30, s30⟩ := o30
        rw [e30] at f30
        have e31 : v 31 = .int .i64 0 := (hF 6 _ _ rfl rfl).1
        obtain ⟨-, A6, e6, g6, -⟩ := hF 7 _ _ rfl rfl
        obtain ⟨-, A7, e7, g7, -⟩ := hF 8 _ _ rfl rfl
        have e8 : v 8 = .int .i64 0 := (hF 11 _ _ rfl rfl).1
        obtain ⟨-, A', eA, b6⟩ := hF 9 _ _ rfl rfl
        rw [e6] at eA; injection eA with eA; injection eA with eA; injection eA with eA; subst eA
        replace b6 : Bx W3 A6 24 #[.bool (decide (zg < 0)), .slice p29 (dg (zg).natAbs).length c29] := by simp only [List.map, e29] at b6; exact b6
        obtain ⟨-, A', eA, b7⟩ := hF 10 _ _ rfl rfl
        rw [e7] at eA; injection eA with eA; injection eA with eA; injection eA with eA; subst eA
        replace b7 : Bx W3 A7 24 #[.bool (decide ((z % (g : Int)) < 0)), .slice p30 (dg ((z % (g : Int))).natAbs).length c30] := by simp only [List.map, e30] at b7; exact b7
        have dd6_7 : A6 ≠ A7 := fun e => hD 7 8 _ _ _ _ _ _ _ _ (by decide) rfl rfl rfl rfl rfl rfl 6 7 rfl rfl (by rw [e6, e7, e])
        clear hF hD
        simp only [e26, e27, e29, e30, e31, e6, e7, e8]
        replace b2 := b2.keep f (by simp)
        replace b3 := b3.keep f (by simp)
        replace b4 := b4.keep f (by simp)
        replace b5 := b5.keep f (by simp)
        replace h1 := h1.kp kp
        replace h2 := h2.kp kp
        replace s24 := s24.kp kp
        replace f24 := f24.kp kp
        replace hw := hw.trans (a := w) (b := W2) (c := W3) f (by simp)
        have hsz3 := f.size
        clear f kp
        have hlt_b6 := b6.lt
        have hlt_b7 := b7.lt
        have c_b2_0 := b2.cell (j := 0) rfl
        have c_b2_1 := b2.cell (j := 1) rfl
        have c_b3_0 := b3.cell (j := 0) rfl
        have c_b3_1 := b3.cell (j := 1) rfl
        have c_b4_0 := b4.cell (j := 0) rfl
        have c_b4_1 := b4.cell (j := 1) rfl
        have c_b4_2 := b4.cell (j := 2) rfl
        have c_b5_0 := b5.cell (j := 0) rfl
        have c_b5_1 := b5.cell (j := 1) rfl
        have c_b6_0 := b6.cell (j := 0) rfl
        have c_b6_1 := b6.cell (j := 1) rfl
        have c_b7_0 := b7.cell (j := 0) rfl
        have c_b7_1 := b7.cell (j := 1) rfl
        go_upto_region 5 with fail
        clear c_b2_0 c_b2_1 c_b3_0 c_b3_1 c_b4_0 c_b4_1 c_b4_2 c_b5_0 c_b5_1 c_b6_0 c_b6_1 c_b7_0 c_b7_1
        refine wp_region_inv (w0 := W3) (by kernel_rfl) [true, true, true, false, false, false, false, true, true, true, true, true, true, true, true, true, true, true, true, true, true, true, true, true, true, true, true, true, true, true, true, true, true, true, true, true, true, true, true, false, false, false, false, false, false, false, false] []
          [⟨[33], F1 (fun xx _ => xx = .agg #[.bool gb, .slice pb nb cb]), .pure⟩,
    ⟨[34], F1 (fun xx _ => xx = .agg #[.bool (decide ((g : Int) < 0)), .slice p24 (dg ((g : Int)).natAbs).length c24]), .pure⟩,
    ⟨[35], F1 (fun xx ww => ∃ y0 y1, xx = .tuple #[y0, y1, .int .i64 0] ∧ VZ ww dg' y0 ∧ VZ ww (d % (g : Int)) y1), .pure⟩,
    ⟨[32], F1 (fun xx ww => ∃ y0 y1, xx = .tuple #[y0, y1, .int .i64 0] ∧ VZ ww dg' y0 ∧ VZ ww (d % (g : Int)) y1), .pure⟩,
    ⟨[36], F1 (fun xx ww => VZ ww dg' xx), .pure⟩,
    ⟨[37], F1 (fun xx ww => VZ ww (d % (g : Int)) xx), .pure⟩,
    ⟨[38], F1 (fun xx _ => xx = .int .i64 0), .pure⟩,
    ⟨[], F0, .new 24 2⟩,
    ⟨[], F0, .new 24 2⟩,
    ⟨[36], F0, .store 9 24 cellsOf⟩,
    ⟨[37], F0, .store 10 24 cellsOf⟩,
    ⟨[11], F1 (fun xx _ => xx = .int .i64 0), .pure⟩]
          [[], [], [0, 1], [0, 1, 2], [0, 1, 2, 3], [0, 1, 2, 3], [0, 1, 2, 3], [], [], [0, 1, 2, 3, 4, 7, 8], [0, 1, 2, 3, 4, 5, 7, 8, 9], [0, 1, 2, 3, 4, 5, 6, 7, 8, 9, 10]] ?mk4 ?hmk4 (by kernel_rfl)
          ⟨F1.st (st_eq _), F1.st (st_eq _), F1.st (fun _ _ _ k h => by obtain ⟨y0, y1, e, h0, h1⟩ := h; exact ⟨y0, y1, e, h0.kp k, h1.kp k⟩), F1.st (fun _ _ _ k h => by obtain ⟨y0, y1, e, h0, h1⟩ := h; exact ⟨y0, y1, e, h0.kp k, h1.kp k⟩), F1.st (fun _ _ _ k h => h.kp k), F1.st (fun _ _ _ k h => h.kp k), F1.st (st_eq _), F0.st, F0.st, F0.st, F0.st, F1.st (st_eq _), trivial⟩ (by simp) (by simp) (n := 12) rfl ⟨⟨⟨⟨⟨⟨⟨⟨⟨⟨⟨⟨trivial, ?s4_0⟩, ?s4_1⟩, ?s4_2⟩, ?s4_3⟩, ?s4_4⟩, ?s4_5⟩, ?s4_6⟩, ?s4_7⟩, ?s4_8⟩, ?s4_9⟩, ?s4_10⟩, ?s4_11⟩ ?done4
        case hmk4 => intro v; simp only [mkv, mix, Nat.reduceAdd]; rfl
        case s4_0 =>
          refine stepOk_of _ _ rfl rfl ?_
          intro v W4 f kp ho hd K' hK
          have k0 := (b3.keep f (by simp)).cell (j := 0) rfl
          have k1 := (b3.keep f (by simp)).cell (j := 1) rfl
          go_simp
          exact hK _ _ (Fr.refl [] _) rfl
        case s4_1 =>
          refine stepOk_of _ _ rfl rfl ?_
          intro v W4 f kp ho hd K' hK
          have k0 := (b5.keep f (by simp)).cell (j := 0) rfl
          have k1 := (b5.keep f (by simp)).cell (j := 1) rfl
          go_simp
          exact hK _ _ (Fr.refl [] _) rfl
        case s4_2 =>
          refine stepOk_of _ _ rfl rfl ?_
          intro v W4 f kp ho hd K' hK
          have e33 : v 33 = .agg #[.bool gb, .slice pb nb cb] := (hd 0 (by decide) _ _ rfl rfl).1
          have e34 : v 34 = .agg #[.bool (decide ((g : Int) < 0)), .slice p24 (dg ((g : Int)).natAbs).length c24] := (hd 1 (by decide) _ _ rfl rfl).1
          simp only [e33, e34] at hK ⊢
          go_simp
          refine (ridiv_v Hdg.out (h2.kp kp) ((f24.kp kp).raw hz1) (by omega) (by omega) Hgn.out).mono ?_
          rintro e W' ⟨x0, x1, rfl, y0, y1, ff⟩
          exact hK _ W' ff ⟨_, _, rfl, y0, y1⟩
        case s4_3 =>
          refine stepOk_of _ _ rfl rfl ?_
          intro v W4 f kp ho hd K' hK
          have f35 : ∃ y0 y1, v 35 = .tuple #[y0, y1, .int .i64 0] ∧ VZ W4 dg' y0 ∧ VZ W4 (d % (g : Int)) y1 := (hd 2 (by decide) _ _ rfl rfl).1
          obtain ⟨a35_0, a35_1, e35, h35_0, h35_1⟩ := f35
          simp only [e35] at hK ⊢
          go_simp
          exact hK _ _ (Fr.refl [] _) ⟨_, _, rfl, h35_0, h35_1⟩
        case s4_4 =>
          refine stepOk_of _ _ rfl rfl ?_
          intro v W4 f kp ho hd K' hK
          have f32 : ∃ y0 y1, v 32 = .tuple #[y0, y1, .int .i64 0] ∧ VZ W4 dg' y0 ∧ VZ W4 (d % (g : Int)) y1 := (hd 3 (by decide) _ _ rfl rfl).1
          obtain ⟨a32_0, a32_1, e32, h32_0, h32_1⟩ := f32
          simp only [e32] at hK ⊢
          go_simp
          exact hK _ _ (Fr.refl [] _) h32_0
        case s4_5 =>
          refine stepOk_of _ _ rfl rfl ?_
          intro v W4 f kp ho hd K' hK
          have f32 : ∃ y0 y1, v 32 = .tuple #[y0, y1, .int .i64 0] ∧ VZ W4 dg' y0 ∧ VZ W4 (d % (g : Int)) y1 := (hd 3 (by decide) _ _ rfl rfl).1
          obtain ⟨a32_0, a32_1, e32, h32_0, h32_1⟩ := f32
          simp only [e32] at hK ⊢
          go_simp
          exact hK _ _ (Fr.refl [] _) h32_1
        case s4_6 =>
          refine stepOk_of _ _ rfl rfl ?_
          intro v W4 f kp ho hd K' hK
          have f32 : ∃ y0 y1, v 32 = .tuple #[y0, y1, .int .i64 0] ∧ VZ W4 dg' y0 ∧ VZ W4 (d % (g : Int)) y1 := (hd 3 (by decide) _ _ rfl rfl).1
          obtain ⟨a32_0, a32_1, e32, h32_0, h32_1⟩ := f32
          simp only [e32] at hK ⊢
          go_simp
          exact hK _ _ (Fr.refl [] _) rfl
        case s4_7 =>
          refine stepOk_of _ _ rfl rfl ?_
          intro v W4 f kp ho hd K' hK
          go_simp
          exact hK _ _ (move_new rfl rfl rfl rfl rfl) trivial
        case s4_8 =>
          refine stepOk_of _ _ rfl rfl ?_
          intro v W4 f kp ho hd K' hK
          go_simp
          exact hK _ _ (move_new rfl rfl rfl rfl rfl) trivial
        case s4_9 =>
          refine stepOk_of _ _ rfl rfl ?_
          intro v W4 f kp ho hd K' hK
          obtain ⟨-, A9, e9, -, sb9⟩ := hd 7 (by decide) _ _ rfl rfl
          have f36 : VZ W4 dg' (v 36) := (hd 4 (by decide) _ _ rfl rfl).1
          have o36 := f36
          obtain ⟨p36, c36, e36, s36⟩ := o36
          obtain ⟨zz0, zz1, bz⟩ := sb9.open2
          have k0 := bz.cell (j := 0) rfl
          have fr0 := bz.free 0
          have k1 := bz.cell (j := 1) rfl
          have fr1 := bz.free 1
          simp only [e9, e36] at hK ⊢
          go_simp
          exact hK undef _ (move_store (cs := #[.bool (decide (dg' < 0)), .slice p36 (dg (dg').natAbs).length c36]) rfl e9 (by simp only [List.map, e36]; rfl) sb9 rfl rfl (((Fr.refl _ _).put1 0 _).put1 1 _) (((bz.put1 0 _).put1 1 _))) trivial
        case s4_10 =>
          refine stepOk_of _ _ rfl rfl ?_
          intro v W4 f kp ho hd K' hK
          obtain ⟨-, A10, e10, -, sb10⟩ := hd 8 (by decide) _ _ rfl rfl
          have f37 : VZ W4 (d % (g : Int)) (v 37) := (hd 5 (by decide) _ _ rfl rfl).1
          have o37 := f37
          obtain ⟨p37, c37, e37, s37⟩ := o37
          obtain ⟨zz0, zz1, bz⟩ := sb10.open2
          have k0 := bz.cell (j := 0) rfl
          have fr0 := bz.free 0
          have k1 := bz.cell (j := 1) rfl
          have fr1 := bz.free 1
          simp only [e10, e37] at hK ⊢
          go_simp
          exact hK undef _ (move_store (cs := #[.bool (decide ((d % (g : Int)) < 0)), .slice p37 (dg ((d % (g : Int))).natAbs).length c37]) rfl e10 (by simp only [List.map, e37]; rfl) sb10 rfl rfl (((Fr.refl _ _).put1 0 _).put1 1 _) (((bz.put1 0 _).put1 1 _))) trivial
        case s4_11 =>
          refine stepOk_of _ _ rfl rfl ?_
          intro v W4 f kp ho hd K' hK
          have e38 : v 38 = .int .i64 0 := (hd 6 (by decide) _ _ rfl rfl).1
          simp only [e38] at hK ⊢
          go_simp
          exact hK _ _ (Fr.refl [] _) rfl
        case done4 =>
          intro v W4 f kp hF hD
          have e33 : v 33 = .agg #[.bool gb, .slice pb nb cb] := (hF 0 _ _ rfl rfl).1
          have e34 : v 34 = .agg #[.bool (decide ((g : Int) < 0)), .slice p24 (dg ((g : Int)).natAbs).length c24] := (hF 1 _ _ rfl rfl).1
          have f36 : VZ W4 dg' (v 36) := (hF 4 _ _ rfl rfl).1
          have o36 := f36
          obtain ⟨p36, c36, e36, s36⟩ := o36
          rw [e36] at f36
          have f37 : VZ W4 (d % (g : Int)) (v 37) := (hF 5 _ _ rfl rfl).1
          have o37 := f37
          obtain ⟨p37, c37, e37, s37⟩ := o37
          rw [e37] at f37
          have e38 : v 38 = .int .i64 0 := (hF 6 _ _ rfl rfl).1
          obtain ⟨-, A9, e9, g9, -⟩ := hF 7 _ _ rfl rfl
          obtain ⟨-, A10, e10, g10, -⟩ := hF 8 _ _ rfl rfl
          have e11 : v 11 = .int .i64 0 := (hF 11 _ _ rfl rfl).1
          obtain ⟨-, A', eA, b9⟩ := hF 9 _ _ rfl rfl
          rw [e9] at eA; injection eA with eA; injection eA with eA; injection eA with eA; subst eA
          replace b9 : Bx W4 A9 24 #[.bool (decide (dg' < 0)), .slice p36 (dg (dg').natAbs).length c36] := by simp only [List.map, e36] at b9; exact b9
          obtain ⟨-, A', eA, b10⟩ := hF 10 _ _ rfl rfl
          rw [e10] at eA; injection eA with eA; injection eA with eA; injection eA with eA; subst eA
          replace b10 : Bx W4 A10 24 #[.bool (decide ((d % (g : Int)) < 0)), .slice p37 (dg ((d % (g : Int))).natAbs).length c37] := by simp only [List.map, e37] at b10; exact b10
          have dd9_10 : A9 ≠ A10 := fun e => hD 7 8 _ _ _ _ _ _ _ _ (by decide) rfl rfl rfl rfl rfl rfl 9 10 rfl rfl (by rw [e9, e10, e])
          clear hF hD
          simp only [e33, e34, e36, e37, e38, e9, e10, e11]
          replace b2 := b2.keep f (by simp)
          replace b3 := b3.keep f (by simp)
          replace b4 := b4.keep f (by simp)
          replace b5 := b5.keep f (by simp)
          replace b6 := b6.keep f (by simp)
          replace b7 := b7.keep f (by simp)
          replace h1 := h1.kp kp
          replace h2 := h2.kp kp
          replace s24 := s24.kp kp
          replace f24 := f24.kp kp
          replace s29 := s29.kp kp
          replace f29 := f29.kp kp
          replace s30 := s30.kp kp
          replace f30 := f30.kp kp
          replace hw := hw.trans (a := w) (b := W3) (c := W4) f (by simp)
          have hsz4 := f.size
          clear f kp
          have hlt_b9 := b9.lt
          have hlt_b10 := b10.lt
          rw [Hneg.out, Habs.out] at b9 f36; rw [Habs.out] at s36
          have Hl1 := Lib.hid (Hl1.out.trans Hzn.out.symm)
          have c_b2_0 := b2.cell (j := 0) rfl
          have c_b2_1 := b2.cell (j := 1) rfl
          have c_b3_0 := b3.cell (j := 0) rfl
          have c_b3_1 := b3.cell (j := 1) rfl
          have c_b4_0 := b4.cell (j := 0) rfl
          have c_b4_1 := b4.cell (j := 1) rfl
          have c_b4_2 := b4.cell (j := 2) rfl
          have c_b5_0 := b5.cell (j := 0) rfl
          have c_b5_1 := b5.cell (j := 1) rfl
          have c_b6_0 := b6.cell (j := 0) rfl
          have c_b6_1 := b6.cell (j := 1) rfl
          have c_b7_0 := b7.cell (j := 0) rfl
          have c_b7_1 := b7.cell (j := 1) rfl
          have c_b9_0 := b9.cell (j := 0) rfl
          have c_b9_1 := b9.cell (j := 1) rfl
          have c_b10_0 := b10.cell (j := 0) rfl
          have c_b10_1 := b10.cell (j := 1) rfl
          go_upto_region 8 with fail
          clear c_b2_0 c_b2_1 c_b3_0 c_b3_1 c_b4_0 c_b4_1 c_b4_2 c_b5_0 c_b5_1 c_b6_0 c_b6_1 c_b7_0 c_b7_1 c_b9_0 c_b9_1 c_b10_0 c_b10_1
          refine wp_region_inv (w0 := W4) (by kernel_rfl) [true, true, true, true, false, true, false, true, true, false, true, true, true, true, true, true, true, true, true, true, true, true, true, true, true, true, true, true, true, true, true, true, true, true, true, true, true, true, true, true, true, true, true, true, true, true, true] [(w.heap.size + 2)]
            [⟨[43], F1 (fun xx _ => xx = .agg #[.bool (decide (zg < 0)), .slice p29 (dg (zg).natAbs).length c29]), .pure⟩,
    ⟨[44], F1 (fun xx _ => xx = .pointer (some ⟨A9, 1, none⟩)), .pure⟩,
    ⟨[45], F1 (fun xx _ => xx = .slice p36 (dg r.den).length c36), .pure⟩,
    ⟨[46], F1 (fun xx ww => VQ ww r xx), .pure⟩,
    ⟨[46], F0, .out 0 26 cellsOf⟩]
            [[], [], [1], [0, 1, 2], [0, 1, 2, 3]] ?mk5 ?hmk5 (by kernel_rfl)
            ⟨F1.st (st_eq _), F1.st (st_eq _), F1.st (st_eq _), F1.st (fun _ _ _ k h => h.kp k), F0.st, trivial⟩ (by simp) (by simp <;> omega) (n := 5) rfl ⟨⟨⟨⟨⟨trivial, ?s5_0⟩, ?s5_1⟩, ?s5_2⟩, ?s5_3⟩, ?s5_4⟩ ?done5
          case hmk5 => intro v; simp only [mkv, mix, Nat.reduceAdd]; rfl
          case s5_0 =>
            refine stepOk_of _ _ rfl rfl ?_
            intro v W5 f kp ho hd K' hK
            have k0 := (b6.keep f (by simp <;> omega)).cell (j := 0) rfl
            have k1 := (b6.keep f (by simp <;> omega)).cell (j := 1) rfl
            go_simp
            exact hK _ _ (Fr.refl [] _) rfl
          case s5_1 =>
            refine stepOk_of _ _ rfl rfl ?_
            intro v W5 f kp ho hd K' hK
            go_simp
            exact hK _ _ (Fr.refl [] _) rfl
          case s5_2 =>
            refine stepOk_of _ _ rfl rfl ?_
            intro v W5 f kp ho hd K' hK
            have e44 : v 44 = .pointer (some ⟨A9, 1, none⟩) := (hd 1 (by decide) _ _ rfl rfl).1
            have k0 := (b9.keep f (by simp <;> omega)).cell (j := 1) rfl
            simp only [e44] at hK ⊢
            go_simp
            exact hK _ _ (Fr.refl [] _) rfl
          case s5_3 =>
            refine stepOk_of _ _ rfl rfl ?_
            intro v W5 f kp ho hd K' hK
            have e43 : v 43 = .agg #[.bool (decide (zg < 0)), .slice p29 (dg (zg).natAbs).length c29] := (hd 0 (by decide) _ _ rfl rfl).1
            have e45 : v 45 = .slice p36 (dg r.den).length c36 := (hd 2 (by decide) _ _ rfl rfl).1
            simp only [e43, e45] at hK ⊢
            go_simp
            exact hK _ _ (Fr.refl [] _) (build_q (s29.kp kp) (s36.kp kp) Hl1.out rfl)
          case s5_4 =>
            refine stepOk_of _ _ rfl rfl ?_
            intro v W5 f kp ho hd K' hK
            have f46 : VQ W5 r (v 46) := (hd 3 (by decide) _ _ rfl rfl).1
            have o46 := f46
            obtain ⟨p46, c46, q46, d46, e46, s46, t46⟩ := o46
            have bz : Bx W5 (w.heap.size + 2) 26 #[.bool false, .slice none 0 0, .slice none 0 0] := (ho 0 _ rfl (by kernel_rfl)).trans b4
            have k0 := bz.cell (j := 0) rfl
            have fr0 := bz.free 0
            have k1 := bz.cell (j := 1) rfl
            have fr1 := bz.free 1
            have k2 := bz.cell (j := 2) rfl
            have fr2 := bz.free 2
            simp only [e46] at hK ⊢
            go_simp
            exact hK undef _ (move_out (cs := #[.bool (decide ((r).num < 0)), .slice p46 (dg (r).num.natAbs).length c46, .slice q46 (dg (r).den).length d46]) rfl rfl (by simp only [List.map, e46]; rfl) (bz.soft rfl) rfl rfl ((((Fr.refl _ _).put1 0 _).put1 1 _).put1 2 _) ((((bz.put1 0 _).put1 1 _).put1 2 _))) trivial
          case done5 =>
            intro v W5 f kp hF hD
            have e43 : v 43 = .agg #[.bool (decide (zg < 0)), .slice p29 (dg (zg).natAbs).length c29] := (hF 0 _ _ rfl rfl).1
            have e44 : v 44 = .pointer (some ⟨A9, 1, none⟩) := (hF 1 _ _ rfl rfl).1
            have e45 : v 45 = .slice p36 (dg r.den).length c36 := (hF 2 _ _ rfl rfl).1
            have f46 : VQ W5 r (v 46) := (hF 3 _ _ rfl rfl).1
            have o46 := f46
            obtain ⟨p46, c46, q46, d46, e46, s46, t46⟩ := o46
            rw [e46] at f46
            obtain ⟨-, A', eA, nb4⟩ := hF 4 _ _ rfl rfl
            injection eA with eA; subst eA
            replace nb4 : Bx W5 (w.heap.size + 2) 26 #[.bool (decide ((r).num < 0)), .slice p46 (dg (r).num.natAbs).length c46, .slice q46 (dg (r).den).length d46] := by simp only [List.map, e46] at nb4; exact nb4
            clear hF hD
            simp only [e43, e44, e45, e46]
            replace b2 := b2.keep f (by simp <;> omega)
            replace b3 := b3.keep f (by simp <;> omega)
            replace b5 := b5.keep f (by simp <;> omega)
            replace b6 := b6.keep f (by simp <;> omega)
            replace b7 := b7.keep f (by simp <;> omega)
            replace b9 := b9.keep f (by simp <;> omega)
            replace b10 := b10.keep f (by simp <;> omega)
            clear b4; have b4 := nb4; clear nb4
            replace h1 := h1.kp kp
            replace h2 := h2.kp kp
            replace s24 := s24.kp kp
            replace f24 := f24.kp kp
            replace s29 := s29.kp kp
            replace f29 := f29.kp kp
            replace s30 := s30.kp kp
            replace f30 := f30.kp kp
            replace s36 := s36.kp kp
            replace f36 := f36.kp kp
            replace s37 := s37.kp kp
            replace f37 := f37.kp kp
            replace hw := hw.trans (a := w) (b := W4) (c := W5) f (fun x hx hl => by simp at hx; omega)
            have hsz5 := f.size
            clear f kp
            go_wp2_with fail
            have c_b4_0 := b4.cell (j := 0) rfl
            have c_b4_1 := b4.cell (j := 1) rfl
            have c_b4_2 := b4.cell (j := 2) rfl
            exact bodyPost_ret (v := rw' (decide ((r).num < 0)) p46 (dg (r).num.natAbs).length c46 q46 (dg (r).den).length d46) (by simp [results, Tryz.results102, go_sem, c_b4_0, c_b4_1, c_b4_2]) rfl ⟨_, rfl, f46, hw⟩

set_option maxRecDepth 100000 in
set_option maxHeartbeats 1000000 in
theorem reduce_neg {w : World} {L M D : Nat} {z : Int} {u u' : Value} (h1 : VI w L z u) (h2 : VI w M (-(D : Int)) u') (_hL : L ≤ 524286) (_hM : M ≤ 524287) (hz : z ≠ 0) (hD : D ≠ 0) : Calls Tryz.prog 102 #[u, u'] w (RV (fun w' => VQ w' (Rat.divInt z (-(D : Int)))) w) := by
  have lz := nz_len h1
  obtain ⟨d, hd⟩ : ∃ d : Int, -(D : Int) = d := ⟨_, rfl⟩
  obtain ⟨g, hg⟩ : ∃ g, Nat.gcd z.natAbs D = g := ⟨_, rfl⟩
  have hg0 : g ≠ 0 := by rw [← hg]; exact gcd_ne hD
  obtain ⟨l1, l2, l3⟩ := low_neg hD hg
  rw [hd] at l1 l2 l3 h2 ⊢
  obtain ⟨r, hr⟩ : ∃ r, Rat.divInt z d = r := ⟨_, rfl⟩
  rw [hr] at l1 l2 ⊢
  obtain ⟨zg, hzg⟩ : ∃ q, z / (g : Int) = q := ⟨_, rfl⟩
  rw [hzg] at l1
  obtain ⟨zn, hzn⟩ : ∃ q, -zg = q := ⟨_, rfl⟩
  rw [hzn] at l1
  obtain ⟨dg', hdg⟩ : ∃ q, d / (g : Int) = q := ⟨_, rfl⟩
  rw [hdg] at l3
  have hgg : ((Nat.gcd z.natAbs d.natAbs : Nat) : Int) = (g : Int) := by rw [← hd, ← hg, Int.natAbs_neg, Int.natAbs_natCast]
  have hq0 : D / g ≠ 0 := quot_ne hD hg
  have hz1 : nz (g : Int) ≤ L + 1 := by rw [nz_nat]; have h3 := dg_len_mono (Nat.le_of_dvd (Int.natAbs_pos.2 hz) (by rw [← hg]; exact Nat.gcd_dvd_left z.natAbs D : g ∣ z.natAbs)); unfold nz at lz; omega
  have hzl : nz zg ≤ L := by rw [← hzg]; exact Nat.le_trans (nz_floor' _ _) lz
  obtain ⟨sz, hsz⟩ : ∃ s, z.sign = s := ⟨_, rfl⟩
  have hs0 : (sz == 0) = false := by rw [← hsz]; exact sign_ne0 hz
  obtain ⟨sd, hsd⟩ : ∃ s, d.sign = s := ⟨_, rfl⟩
  have hd0 : (sd == 0) = false := by rw [← hsd]; exact sign_ne0 (by rw [← hd]; omega)
  have hgn : (g : Int) ≠ 0 := by omega
  have hneg : decide (dg' < 0) = true := by rw [l3]; exact decide_eq_true (by omega)
  have habs : dg'.natAbs = r.den := by rw [l3, l2, Int.natAbs_neg, Int.natAbs_natCast]
  have Hsz := Lib.hid hsz; have Hsd := Lib.hid hsd; have Hgg := Lib.hid hgg; have Hzg := Lib.hid hzg; have Hdg := Lib.hid hdg; have Hl1 := Lib.hid l1; have Hgn := Lib.hid hgn; have Habs := Lib.hid habs; have Hzn := Lib.hid hzn; have Hneg := Lib.hid hneg
  clear hsz hsd hgg hzg hzn hdg l1 l2 l3 hgn habs hneg hr hd hg hz hD hq0 hg0
  have o_h1 := h1
  obtain ⟨ga, pa, na, ca, Xa, rfl, -, -, -⟩ := o_h1
  have o_h2 := h2
  obtain ⟨gb, pb, nb, cb, Xb, rfl, -, -, -⟩ := o_h2
  go_enter Tryz.func102, Tryz.ntmps102
  go_upto_region 1 with fail
  have hw : Fr [] w (((w.alloc (Obj.cells #[.bool ga, .slice pa na ca] 24)).alloc (Obj.cells #[.bool gb, .slice pb nb cb] 24)).alloc (Obj.cells #[.bool false, .slice none 0 0, .slice none 0 0] 26)) := (((Fr.refl _ _).alloc _).alloc _).alloc _
  have b2 : Bx (((w.alloc (Obj.cells #[.bool ga, .slice pa na ca] 24)).alloc (Obj.cells #[.bool gb, .slice pb nb cb] 24)).alloc (Obj.cells #[.bool false, .slice none 0 0, .slice none 0 0] 26)) w.heap.size 24 #[.bool ga, .slice pa na ca] := (Bx.made' (by simp) _ _).kept (((Fr.refl _ _).alloc _).alloc _)
  have b3 : Bx (((w.alloc (Obj.cells #[.bool ga, .slice pa na ca] 24)).alloc (Obj.cells #[.bool gb, .slice pb nb cb] 24)).alloc (Obj.cells #[.bool false, .slice none 0 0, .slice none 0 0] 26)) (w.heap.size + 1) 24 #[.bool gb, .slice pb nb cb] := (Bx.made' (by simp) _ _).kept ((Fr.refl _ _).alloc _)
  have b4 : Bx (((w.alloc (Obj.cells #[.bool ga, .slice pa na ca] 24)).alloc (Obj.cells #[.bool gb, .slice pb nb cb] 24)).alloc (Obj.cells #[.bool false, .slice none 0 0, .slice none 0 0] 26)) (w.heap.size + 2) 26 #[.bool false, .slice none 0 0, .slice none 0 0] := (Bx.made' (by simp) _ _).kept (Fr.refl _ _)
  generalize (((w.alloc (Obj.cells #[.bool ga, .slice pa na ca] 24)).alloc (Obj.cells #[.bool gb, .slice pb nb cb] 24)).alloc (Obj.cells #[.bool false, .slice none 0 0, .slice none 0 0] 26)) = W at *
  have hbs := b4.lt
  replace h1 := h1.kept hw
  replace h2 := h2.kept hw
  refine wp_region_inv (w0 := W) (by kernel_rfl) [true, true, false, false, false, false, false, false, true, false, false, true, true, true, true, true, true, true, true, true, false, false, false, false, false, false, false, false, false, false, false, false, false, false, false, false, false, false, false, false, false, false, false, false, false, false, false] []
    [⟨[12], F1 (fun xx _ => xx = .agg #[.bool ga, .slice pa na ca]), .pure⟩,
    ⟨[13], F1 (fun xx _ => xx = .int .i64 sz), .pure⟩,
    ⟨[14], F1 (fun xx _ => xx = .bool false), .pure⟩,
    ⟨[15], F1 (fun xx _ => xx = .bool false), .pure⟩,
    ⟨[16], F1 (fun xx _ => xx = .agg #[.bool gb, .slice pb nb cb]), .pure⟩,
    ⟨[17], F1 (fun xx _ => xx = .int .i64 sd), .pure⟩,
    ⟨[18], F1 (fun xx _ => xx = .bool false), .pure⟩,
    ⟨[19], F1 (fun xx _ => xx = .bool false), .pure⟩]
    [[], [0], [0, 1], [0, 1, 2], [0, 1, 2, 3], [0, 1, 2, 3, 4], [0, 1, 2, 3, 4, 5], [0, 1, 2, 3, 4, 5, 6]] ?mk1 ?hmk1 (by kernel_rfl)
    ⟨F1.st (st_eq _), F1.st (st_eq _), F1.st (st_eq _), F1.st (st_eq _), F1.st (st_eq _), F1.st (st_eq _), F1.st (st_eq _), F1.st (st_eq _), trivial⟩ (by simp) (by simp) (n := 8) rfl ⟨⟨⟨⟨⟨⟨⟨⟨trivial, ?s1_0⟩, ?s1_1⟩, ?s1_2⟩, ?s1_3⟩, ?s1_4⟩, ?s1_5⟩, ?s1_6⟩, ?s1_7⟩ ?done1
  case hmk1 => intro v; simp only [mkv, mix, Nat.reduceAdd]; rfl
  case s1_0 =>
    refine stepOk_of _ _ rfl rfl ?_
    intro v W1 f kp ho hd K' hK
    have k0 := (b2.keep f (by simp)).cell (j := 0) rfl
    have k1 := (b2.keep f (by simp)).cell (j := 1) rfl
    go_simp
    exact hK _ _ (Fr.refl [] _) rfl
  case s1_1 =>
    refine stepOk_of _ _ rfl rfl ?_
    intro v W1 f kp ho hd K' hK
    have e12 : v 12 = .agg #[.bool ga, .slice pa na ca] := (hd 0 (by decide) _ _ rfl rfl).1
    simp only [e12] at hK ⊢
    go_simp
    refine (rsign_e Hsz.out (h1.kp kp) (by omega)).mono ?_
    rintro e W' ⟨rfl, ff⟩
    exact hK _ W' ff rfl
  case s1_2 =>
    refine stepOk_of _ _ rfl rfl ?_
    intro v W1 f kp ho hd K' hK
    have e13 : v 13 = .int .i64 sz := (hd 1 (by decide) _ _ rfl rfl).1
    simp only [e13] at hK ⊢
    go_simp
    exact hK _ _ (Fr.refl [] _) rfl
  case s1_3 =>
    refine stepOk_of _ _ rfl rfl ?_
    intro v W1 f kp ho hd K' hK
    have e14 : v 14 = .bool false := (hd 2 (by decide) _ _ rfl rfl).1
    simp only [e14] at hK ⊢
    go_simp
    exact hK _ _ (Fr.refl [] _) rfl
  case s1_4 =>
    refine stepOk_of _ _ rfl rfl ?_
    intro v W1 f kp ho hd K' hK
    have e15 : v 15 = .bool false := (hd 3 (by decide) _ _ rfl rfl).1
    have k0 := (b3.keep f (by simp)).cell (j := 0) rfl
    have k1 := (b3.keep f (by simp)).cell (j := 1) rfl
    simp only [e15] at hK ⊢
    go_simp
    exact hK _ _ (Fr.refl [] _) rfl
  case s1_5 =>
    refine stepOk_of _ _ rfl rfl ?_
    intro v W1 f kp ho hd K' hK
    have e16 : v 16 = .agg #[.bool gb, .slice pb nb cb] := (hd 4 (by decide) _ _ rfl rfl).1
    have e15 : v 15 = .bool false := (hd 3 (by decide) _ _ rfl rfl).1
    simp only [e16, e15] at hK ⊢
    go_simp
    refine (rsign_e Hsd.out (h2.kp kp) (by omega)).mono ?_
    rintro e W' ⟨rfl, ff⟩
    exact hK _ W' ff rfl
  case s1_6 =>
    refine stepOk_of _ _ rfl rfl ?_
    intro v W1 f kp ho hd K' hK
    have e17 : v 17 = .int .i64 sd := (hd 5 (by decide) _ _ rfl rfl).1
    have e15 : v 15 = .bool false := (hd 3 (by decide) _ _ rfl rfl).1
    simp only [e17, e15] at hK ⊢
    go_simp
    exact hK _ _ (Fr.refl [] _) rfl
  case s1_7 =>
    refine stepOk_of _ _ rfl rfl ?_
    intro v W1 f kp ho hd K' hK
    have e15 : v 15 = .bool false := (hd 3 (by decide) _ _ rfl rfl).1
    have e18 : v 18 = .bool false := (hd 6 (by decide) _ _ rfl rfl).1
    simp only [e15, e18] at hK ⊢
    go_simp
    exact hK _ _ (Fr.refl [] _) rfl
  case done1 =>
    intro v W1 f kp hF hD
    have e12 : v 12 = .agg #[.bool ga, .slice pa na ca] := (hF 0 _ _ rfl rfl).1
    have e13 : v 13 = .int .i64 sz := (hF 1 _ _ rfl rfl).1
    have e14 : v 14 = .bool false := (hF 2 _ _ rfl rfl).1
    have e15 : v 15 = .bool false := (hF 3 _ _ rfl rfl).1
    have e16 : v 16 = .agg #[.bool gb, .slice pb nb cb] := (hF 4 _ _ rfl rfl).1
    have e17 : v 17 = .int .i64 sd := (hF 5 _ _ rfl rfl).1
    have e18 : v 18 = .bool false := (hF 6 _ _ rfl rfl).1
    have e19 : v 19 = .bool false := (hF 7 _ _ rfl rfl).1
    clear hF hD
    simp only [e12, e13, e14, e15, e16, e17, e18, e19]
    replace b2 := b2.keep f (by simp)
    replace b3 := b3.keep f (by simp)
    replace b4 := b4.keep f (by simp)
    replace h1 := h1.kp kp
    replace h2 := h2.kp kp
    replace hw := hw.trans (a := w) (b := W) (c := W1) f (by simp)
    have hsz1 := f.size
    clear f kp
    have c_b2_0 := b2.cell (j := 0) rfl
    have c_b2_1 := b2.cell (j := 1) rfl
    have c_b3_0 := b3.cell (j := 0) rfl
    have c_b3_1 := b3.cell (j := 1) rfl
    have c_b4_0 := b4.cell (j := 0) rfl
    have c_b4_1 := b4.cell (j := 1) rfl
    have c_b4_2 := b4.cell (j := 2) rfl
    go_upto_region 3 with fail
    clear c_b2_0 c_b2_1 c_b3_0 c_b3_1 c_b4_0 c_b4_1 c_b4_2
    refine wp_region_inv (w0 := W1) (by kernel_rfl) [true, true, false, false, false, true, false, false, true, false, false, true, true, true, true, true, true, true, true, true, true, true, true, true, true, false, false, false, false, false, false, false, false, false, false, false, false, false, false, false, false, false, false, false, false, false, false] []
      [⟨[22], F1 (fun xx _ => xx = .agg #[.bool ga, .slice pa na ca]), .pure⟩,
    ⟨[23], F1 (fun xx _ => xx = .agg #[.bool gb, .slice pb nb cb]), .pure⟩,
    ⟨[24], F1 (fun xx ww => VZ ww (g : Int) xx), .pure⟩,
    ⟨[], F0, .new 24 2⟩,
    ⟨[24], F0, .store 5 24 cellsOf⟩]
      [[], [], [0, 1], [], [0, 1, 2, 3]] ?mk2 ?hmk2 (by kernel_rfl)
      ⟨F1.st (st_eq _), F1.st (st_eq _), F1.st (fun _ _ _ k h => h.kp k), F0.st, F0.st, trivial⟩ (by simp) (by simp) (n := 5) rfl ⟨⟨⟨⟨⟨trivial, ?s2_0⟩, ?s2_1⟩, ?s2_2⟩, ?s2_3⟩, ?s2_4⟩ ?done2
    case hmk2 => intro v; simp only [mkv, mix, Nat.reduceAdd]; rfl
    case s2_0 =>
      refine stepOk_of _ _ rfl rfl ?_
      intro v W2 f kp ho hd K' hK
      have k0 := (b2.keep f (by simp)).cell (j := 0) rfl
      have k1 := (b2.keep f (by simp)).cell (j := 1) rfl
      go_simp
      exact hK _ _ (Fr.refl [] _) rfl
    case s2_1 =>
      refine stepOk_of _ _ rfl rfl ?_
      intro v W2 f kp ho hd K' hK
      have k0 := (b3.keep f (by simp)).cell (j := 0) rfl
      have k1 := (b3.keep f (by simp)).cell (j := 1) rfl
      go_simp
      exact hK _ _ (Fr.refl [] _) rfl
    case s2_2 =>
      refine stepOk_of _ _ rfl rfl ?_
      intro v W2 f kp ho hd K' hK
      have e22 : v 22 = .agg #[.bool ga, .slice pa na ca] := (hd 0 (by decide) _ _ rfl rfl).1
      have e23 : v 23 = .agg #[.bool gb, .slice pb nb cb] := (hd 1 (by decide) _ _ rfl rfl).1
      simp only [e22, e23] at hK ⊢
      go_simp
      refine (rgcd_e Hgg.out (h1.kp kp) (h2.kp kp) (by omega) (by omega)).mono ?_
      rintro e W' ⟨x, rfl, hx, ff⟩
      exact hK x W' ff hx
    case s2_3 =>
      refine stepOk_of _ _ rfl rfl ?_
      intro v W2 f kp ho hd K' hK
      go_simp
      exact hK _ _ (move_new rfl rfl rfl rfl rfl) trivial
    case s2_4 =>
      refine stepOk_of _ _ rfl rfl ?_
      intro v W2 f kp ho hd K' hK
      obtain ⟨-, A5, e5, -, sb5⟩ := hd 3 (by decide) _ _ rfl rfl
      have f24 : VZ W2 (g : Int) (v 24) := (hd 2 (by decide) _ _ rfl rfl).1
      have o24 := f24
      obtain ⟨p24, c24, e24, s24⟩ := o24
      obtain ⟨zz0, zz1, bz⟩ := sb5.open2
      have k0 := bz.cell (j := 0) rfl
      have fr0 := bz.free 0
      have k1 := bz.cell (j := 1) rfl
      have fr1 := bz.free 1
      simp only [e5, e24] at hK ⊢
      go_simp
      exact hK undef _ (move_store (cs := #[.bool (decide ((g : Int) < 0)), .slice p24 (dg ((g : Int)).natAbs).length c24]) rfl e5 (by simp only [List.map, e24]; rfl) sb5 rfl rfl (((Fr.refl _ _).put1 0 _).put1 1 _) (((bz.put1 0 _).put1 1 _))) trivial
    case done2 =>
      intro v W2 f kp hF hD
      have e22 : v 22 = .agg #[.bool ga, .slice pa na ca] := (hF 0 _ _ rfl rfl).1
      have e23 : v 23 = .agg #[.bool gb, .slice pb nb cb] := (hF 1 _ _ rfl rfl).1
      have f24 : VZ W2 (g : Int) (v 24) := (hF 2 _ _ rfl rfl).1
      have o24 := f24
      obtain ⟨p24, c24, e24, s24⟩ := o24
      rw [e24] at f24
      obtain ⟨-, A5, e5, g5, -⟩ := hF 3 _ _ rfl rfl
      obtain ⟨-, A', eA, b5⟩ := hF 4 _ _ rfl rfl
      rw [e5] at eA; injection eA with eA; injection eA with eA; injection eA with eA; subst eA
      replace b5 : Bx W2 A5 24 #[.bool (decide ((g : Int) < 0)), .slice p24 (dg ((g : Int)).natAbs).length c24] := by simp only [List.map, e24] at b5; exact b5
      clear hF hD
      simp only [e22, e23, e24, e5]
      replace b2 := b2.keep f (by simp)
      replace b3 := b3.keep f (by simp)
      replace b4 := b4.keep f (by simp)
      replace h1 := h1.kp kp
      replace h2 := h2.kp kp
      replace hw := hw.trans (a := w) (b := W1) (c := W2) f (by simp)
      have hsz2 := f.size
      clear f kp
      have hlt_b5 := b5.lt
      have c_b2_0 := b2.cell (j := 0) rfl
      have c_b2_1 := b2.cell (j := 1) rfl
      have c_b3_0 := b3.cell (j := 0) rfl
      have c_b3_1 := b3.cell (j := 1) rfl
      have c_b4_0 := b4.cell (j := 0) rfl
      have c_b4_1 := b4.cell (j := 1) rfl
      have c_b4_2 := b4.cell (j := 2) rfl
      have c_b5_0 := b5.cell (j := 0) rfl
      have c_b5_1 := b5.cell (j := 1) rfl
      go_upto_region 4 with fail
      clear c_b2_0 c_b2_1 c_b3_0 c_b3_1 c_b4_0 c_b4_1 c_b4_2 c_b5_0 c_b5_1
      refine wp_region_inv (w0 := W2) (by kernel_rfl) [true, true, false, false, false, false, true, true, true, false, false, true, true, true, true, true, true, true, true, true, true, true, true, true, true, true, true, true, true, true, true, true, false, false, false, false, false, false, false, false, false, false, false, false, false, false, false] []
        [⟨[26], F1 (fun xx _ => xx = .agg #[.bool ga, .slice pa na ca]), .pure⟩,
    ⟨[27], F1 (fun xx _ => xx = .agg #[.bool (decide ((g : Int) < 0)), .slice p24 (dg ((g : Int)).natAbs).length c24]), .pure⟩,
    ⟨[28], F1 (fun xx ww => ∃ y0 y1, xx = .tuple #[y0, y1, .int .i64 0] ∧ VZ ww zg y0 ∧ VZ ww (z % (g : Int)) y1), .pure⟩,
    ⟨[25], F1 (fun xx ww => ∃ y0 y1, xx = .tuple #[y0, y1, .int .i64 0] ∧ VZ ww zg y0 ∧ VZ ww (z % (g : Int)) y1), .pure⟩,
    ⟨[29], F1 (fun xx ww => VZ ww zg xx), .pure⟩,
    ⟨[30], F1 (fun xx ww => VZ ww (z % (g : Int)) xx), .pure⟩,
    ⟨[31], F1 (fun xx _ => xx = .int .i64 0), .pure⟩,
    ⟨[], F0, .new 24 2⟩,
    ⟨[], F0, .new 24 2⟩,
    ⟨[29], F0, .store 6 24 cellsOf⟩,
    ⟨[30], F0, .store 7 24 cellsOf⟩,
    ⟨[8], F1 (fun xx _ => xx = .int .i64 0), .pure⟩]
        [[], [], [0, 1], [0, 1, 2], [0, 1, 2, 3], [0, 1, 2, 3], [0, 1, 2, 3], [], [], [0, 1, 2, 3, 4, 7, 8], [0, 1, 2, 3, 4, 5, 7, 8, 9], [0, 1, 2, 3, 4, 5, 6, 7, 8, 9, 10]] ?mk3 ?hmk3 (by kernel_rfl)
        ⟨F1.st (st_eq _), F1.st (st_eq _), F1.st (fun _ _ _ k h => by obtain ⟨y0, y1, e, h0, h1⟩ := h; exact ⟨y0, y1, e, h0.kp k, h1.kp k⟩), F1.st (fun _ _ _ k h => by obtain ⟨y0, y1, e, h0, h1⟩ := h; exact ⟨y0, y1, e, h0.kp k, h1.kp k⟩), F1.st (fun _ _ _ k h => h.kp k), F1.st (fun _ _ _ k h => h.kp k), F1.st (st_eq _), F0.st, F0.st, F0.st, F0.st, F1.st (st_eq _), trivial⟩ (by simp) (by simp) (n := 12) rfl ⟨⟨⟨⟨⟨⟨⟨⟨⟨⟨⟨⟨trivial, ?s3_0⟩, ?s3_1⟩, ?s3_2⟩, ?s3_3⟩, ?s3_4⟩, ?s3_5⟩, ?s3_6⟩, ?s3_7⟩, ?s3_8⟩, ?s3_9⟩, ?s3_10⟩, ?s3_11⟩ ?done3
      case hmk3 => intro v; simp only [mkv, mix, Nat.reduceAdd]; rfl
      case s3_0 =>
        refine stepOk_of _ _ rfl rfl ?_
        intro v W3 f kp ho hd K' hK
        have k0 := (b2.keep f (by simp)).cell (j := 0) rfl
        have k1 := (b2.keep f (by simp)).cell (j := 1) rfl
        go_simp
        exact hK _ _ (Fr.refl [] _) rfl
      case s3_1 =>
        refine stepOk_of _ _ rfl rfl ?_
        intro v W3 f kp ho hd K' hK
        have k0 := (b5.keep f (by simp)).cell (j := 0) rfl
        have k1 := (b5.keep f (by simp)).cell (j := 1) rfl
        go_simp
        exact hK _ _ (Fr.refl [] _) rfl
      case s3_2 =>
        refine stepOk_of _ _ rfl rfl ?_
        intro v W3 f kp ho hd K' hK
        have e26 : v 26 = .agg #[.bool ga, .slice pa na ca] := (hd 0 (by decide) _ _ rfl rfl).1
        have e27 : v 27 = .agg #[.bool (decide ((g : Int) < 0)), .slice p24 (dg ((g : Int)).natAbs).length c24] := (hd 1 (by decide) _ _ rfl rfl).1
        simp only [e26, e27] at hK ⊢
        go_simp
        refine (ridiv_v Hzg.out (h1.kp kp) ((f24.kp kp).raw hz1) (by omega) (by omega) Hgn.out).mono ?_
        rintro e W' ⟨x0, x1, rfl, y0, y1, ff⟩
        exact hK _ W' ff ⟨_, _, rfl, y0, y1⟩
      case s3_3 =>
        refine stepOk_of _ _ rfl rfl ?_
        intro v W3 f kp ho hd K' hK
        have f28 : ∃ y0 y1, v 28 = .tuple #[y0, y1, .int .i64 0] ∧ VZ W3 zg y0 ∧ VZ W3 (z % (g : Int)) y1 := (hd 2 (by decide) _ _ rfl rfl).1
        obtain ⟨a28_0, a28_1, e28, h28_0, h28_1⟩ := f28
        simp only [e28] at hK ⊢
        go_simp
        exact hK _ _ (Fr.refl [] _) ⟨_, _, rfl, h28_0, h28_1⟩
      case s3_4 =>
        refine stepOk_of _ _ rfl rfl ?_
        intro v W3 f kp ho hd K' hK
        have f25 : ∃ y0 y1, v 25 = .tuple #[y0, y1, .int .i64 0] ∧ VZ W3 zg y0 ∧ VZ W3 (z % (g : Int)) y1 := (hd 3 (by decide) _ _ rfl rfl).1
        obtain ⟨a25_0, a25_1, e25, h25_0, h25_1⟩ := f25
        simp only [e25] at hK ⊢
        go_simp
        exact hK _ _ (Fr.refl [] _) h25_0
      case s3_5 =>
        refine stepOk_of _ _ rfl rfl ?_
        intro v W3 f kp ho hd K' hK
        have f25 : ∃ y0 y1, v 25 = .tuple #[y0, y1, .int .i64 0] ∧ VZ W3 zg y0 ∧ VZ W3 (z % (g : Int)) y1 := (hd 3 (by decide) _ _ rfl rfl).1
        obtain ⟨a25_0, a25_1, e25, h25_0, h25_1⟩ := f25
        simp only [e25] at hK ⊢
        go_simp
        exact hK _ _ (Fr.refl [] _) h25_1
      case s3_6 =>
        refine stepOk_of _ _ rfl rfl ?_
        intro v W3 f kp ho hd K' hK
        have f25 : ∃ y0 y1, v 25 = .tuple #[y0, y1, .int .i64 0] ∧ VZ W3 zg y0 ∧ VZ W3 (z % (g : Int)) y1 := (hd 3 (by decide) _ _ rfl rfl).1
        obtain ⟨a25_0, a25_1, e25, h25_0, h25_1⟩ := f25
        simp only [e25] at hK ⊢
        go_simp
        exact hK _ _ (Fr.refl [] _) rfl
      case s3_7 =>
        refine stepOk_of _ _ rfl rfl ?_
        intro v W3 f kp ho hd K' hK
        go_simp
        exact hK _ _ (move_new rfl rfl rfl rfl rfl) trivial
      case s3_8 =>
        refine stepOk_of _ _ rfl rfl ?_
        intro v W3 f kp ho hd K' hK
        go_simp
        exact hK _ _ (move_new rfl rfl rfl rfl rfl) trivial
      case s3_9 =>
        refine stepOk_of _ _ rfl rfl ?_
        intro v W3 f kp ho hd K' hK
        obtain ⟨-, A6, e6, -, sb6⟩ := hd 7 (by decide) _ _ rfl rfl
        have f29 : VZ W3 zg (v 29) := (hd 4 (by decide) _ _ rfl rfl).1
        have o29 := f29
        obtain ⟨p29, c29, e29, s29⟩ := o29
        obtain ⟨zz0, zz1, bz⟩ := sb6.open2
        have k0 := bz.cell (j := 0) rfl
        have fr0 := bz.free 0
        have k1 := bz.cell (j := 1) rfl
        have fr1 := bz.free 1
        simp only [e6, e29] at hK ⊢
        go_simp
        exact hK undef _ (move_store (cs := #[.bool (decide (zg < 0)), .slice p29 (dg (zg).natAbs).length c29]) rfl e6 (by simp only [List.map, e29]; rfl) sb6 rfl rfl (((Fr.refl _ _).put1 0 _).put1 1 _) (((bz.put1 0 _).put1 1 _))) trivial
      case s3_10 =>
        refine stepOk_of _ _ rfl rfl ?_
        intro v W3 f kp ho hd K' hK
        obtain ⟨-, A7, e7, -, sb7⟩ := hd 8 (by decide) _ _ rfl rfl
        have f30 : VZ W3 (z % (g : Int)) (v 30) := (hd 5 (by decide) _ _ rfl rfl).1
        have o30 := f30
        obtain ⟨p30, c30, e30, s30⟩ := o30
        obtain ⟨zz0, zz1, bz⟩ := sb7.open2
        have k0 := bz.cell (j := 0) rfl
        have fr0 := bz.free 0
        have k1 := bz.cell (j := 1) rfl
        have fr1 := bz.free 1
        simp only [e7, e30] at hK ⊢
        go_simp
        exact hK undef _ (move_store (cs := #[.bool (decide ((z % (g : Int)) < 0)), .slice p30 (dg ((z % (g : Int))).natAbs).length c30]) rfl e7 (by simp only [List.map, e30]; rfl) sb7 rfl rfl (((Fr.refl _ _).put1 0 _).put1 1 _) (((bz.put1 0 _).put1 1 _))) trivial
      case s3_11 =>
        refine stepOk_of _ _ rfl rfl ?_
        intro v W3 f kp ho hd K' hK
        have e31 : v 31 = .int .i64 0 := (hd 6 (by decide) _ _ rfl rfl).1
        simp only [e31] at hK ⊢
        go_simp
        exact hK _ _ (Fr.refl [] _) rfl
      case done3 =>
        intro v W3 f kp hF hD
        have e26 : v 26 = .agg #[.bool ga, .slice pa na ca] := (hF 0 _ _ rfl rfl).1
        have e27 : v 27 = .agg #[.bool (decide ((g : Int) < 0)), .slice p24 (dg ((g : Int)).natAbs).length c24] := (hF 1 _ _ rfl rfl).1
        have f29 : VZ W3 zg (v 29) := (hF 4 _ _ rfl rfl).1
        have o29 := f29
        obtain ⟨p29, c29, e29, s29⟩ := o29
        rw [e29] at f29
        have f30 : VZ W3 (z % (g : Int)) (v 30) := (hF 5 _ _ rfl rfl).1
        have o30 := f30
        obtain ⟨p30, c30, e30, s30⟩ := o30
        rw [e30] at f30
        have e31 : v 31 = .int .i64 0 := (hF 6 _ _ rfl rfl).1
        obtain ⟨-, A6, e6, g6, -⟩ := hF 7 _ _ rfl rfl
        obtain ⟨-, A7, e7, g7, -⟩ := hF 8 _ _ rfl rfl
        have e8 : v 8 = .int .i64 0 := (hF 11 _ _ rfl rfl).1
        obtain ⟨-, A', eA, b6⟩ := hF 9 _ _ rfl rfl
        rw [e6] at eA; injection eA with eA; injection eA with eA; injection eA with eA; subst eA
        replace b6 : Bx W3 A6 24 #[.bool (decide (zg < 0)), .slice p29 (dg (zg).natAbs).length c29] := by simp only [List.map, e29] at b6; exact b6
        obtain ⟨-, A', eA, b7⟩ := hF 10 _ _ rfl rfl
        rw [e7] at eA; injection eA with eA; injection eA with eA; injection eA with eA; subst eA
        replace b7 : Bx W3 A7 24 #[.bool (decide ((z % (g : Int)) < 0)), .slice p30 (dg ((z % (g : Int))).natAbs).length c30] := by simp only [List.map, e30] at b7; exact b7
        have dd6_7 : A6 ≠ A7 := fun e => hD 7 8 _ _ _ _ _ _ _ _ (by decide) rfl rfl rfl rfl rfl rfl 6 7 rfl rfl (by rw [e6, e7, e])
        clear hF hD
        simp only [e26, e27, e29, e30, e31, e6, e7, e8]
        replace b2 := b2.keep f (by simp)
        replace b3 := b3.keep f (by simp)
        replace b4 := b4.keep f (by simp)
        replace b5 := b5.keep f (by simp)
        replace h1 := h1.kp kp
        replace h2 := h2.kp kp
        replace s24 := s24.kp kp
        replace f24 := f24.kp kp
        replace hw := hw.trans (a := w) (b := W2) (c := W3) f (by simp)
        have hsz3 := f.size
        clear f kp
        have hlt_b6 := b6.lt
        have hlt_b7 := b7.lt
        have c_b2_0 := b2.cell (j := 0) rfl
        have c_b2_1 := b2.cell (j := 1) rfl
        have c_b3_0 := b3.cell (j := 0) rfl
        have c_b3_1 := b3.cell (j := 1) rfl
        have c_b4_0 := b4.cell (j := 0) rfl
        have c_b4_1 := b4.cell (j := 1) rfl
        have c_b4_2 := b4.cell (j := 2) rfl
        have c_b5_0 := b5.cell (j := 0) rfl
        have c_b5_1 := b5.cell (j := 1) rfl
        have c_b6_0 := b6.cell (j := 0) rfl
        have c_b6_1 := b6.cell (j := 1) rfl
        have c_b7_0 := b7.cell (j := 0) rfl
        have c_b7_1 := b7.cell (j := 1) rfl
        go_upto_region 5 with fail
        clear c_b2_0 c_b2_1 c_b3_0 c_b3_1 c_b4_0 c_b4_1 c_b4_2 c_b5_0 c_b5_1 c_b6_0 c_b6_1 c_b7_0 c_b7_1
        refine wp_region_inv (w0 := W3) (by kernel_rfl) [true, true, true, false, false, false, false, true, true, true, true, true, true, true, true, true, true, true, true, true, true, true, true, true, true, true, true, true, true, true, true, true, true, true, true, true, true, true, true, false, false, false, false, false, false, false, false] []
          [⟨[33], F1 (fun xx _ => xx = .agg #[.bool gb, .slice pb nb cb]), .pure⟩,
    ⟨[34], F1 (fun xx _ => xx = .agg #[.bool (decide ((g : Int) < 0)), .slice p24 (dg ((g : Int)).natAbs).length c24]), .pure⟩,
    ⟨[35], F1 (fun xx ww => ∃ y0 y1, xx = .tuple #[y0, y1, .int .i64 0] ∧ VZ ww dg' y0 ∧ VZ ww (d % (g : Int)) y1), .pure⟩,
    ⟨[32], F1 (fun xx ww => ∃ y0 y1, xx = .tuple #[y0, y1, .int .i64 0] ∧ VZ ww dg' y0 ∧ VZ ww (d % (g : Int)) y1), .pure⟩,
    ⟨[36], F1 (fun xx ww => VZ ww dg' xx), .pure⟩,
    ⟨[37], F1 (fun xx ww => VZ ww (d % (g : Int)) xx), .pure⟩,
    ⟨[38], F1 (fun xx _ => xx = .int .i64 0), .pure⟩,
    ⟨[], F0, .new 24 2⟩,
    ⟨[], F0, .new 24 2⟩,
    ⟨[36], F0, .store 9 24 cellsOf⟩,
    ⟨[37], F0, .store 10 24 cellsOf⟩,
    ⟨[11], F1 (fun xx _ => xx = .int .i64 0), .pure⟩]
          [[], [], [0, 1], [0, 1, 2], [0, 1, 2, 3], [0, 1, 2, 3], [0, 1, 2, 3], [], [], [0, 1, 2, 3, 4, 7, 8], [0, 1, 2, 3, 4, 5, 7, 8, 9], [0, 1, 2, 3, 4, 5, 6, 7, 8, 9, 10]] ?mk4 ?hmk4 (by kernel_rfl)
          ⟨F1.st (st_eq _), F1.st (st_eq _), F1.st (fun _ _ _ k h => by obtain ⟨y0, y1, e, h0, h1⟩ := h; exact ⟨y0, y1, e, h0.kp k, h1.kp k⟩), F1.st (fun _ _ _ k h => by obtain ⟨y0, y1, e, h0, h1⟩ := h; exact ⟨y0, y1, e, h0.kp k, h1.kp k⟩), F1.st (fun _ _ _ k h => h.kp k), F1.st (fun _ _ _ k h => h.kp k), F1.st (st_eq _), F0.st, F0.st, F0.st, F0.st, F1.st (st_eq _), trivial⟩ (by simp) (by simp) (n := 12) rfl ⟨⟨⟨⟨⟨⟨⟨⟨⟨⟨⟨⟨trivial, ?s4_0⟩, ?s4_1⟩, ?s4_2⟩, ?s4_3⟩, ?s4_4⟩, ?s4_5⟩, ?s4_6⟩, ?s4_7⟩, ?s4_8⟩, ?s4_9⟩, ?s4_10⟩, ?s4_11⟩ ?done4
        case hmk4 => intro v; simp only [mkv, mix, Nat.reduceAdd]; rfl
        case s4_0 =>
          refine stepOk_of _ _ rfl rfl ?_
          intro v W4 f kp ho hd K' hK
          have k0 := (b3.keep f (by simp)).cell (j := 0) rfl
          have k1 := (b3.keep f (by simp)).cell (j := 1) rfl
          go_simp
          exact hK _ _ (Fr.refl [] _) rfl
        case s4_1 =>
          refine stepOk_of _ _ rfl rfl ?_
          intro v W4 f kp ho hd K' hK
          have k0 := (b5.keep f (by simp)).cell (j := 0) rfl
          have k1 := (b5.keep f (by simp)).cell (j := 1) rfl
          go_simp
          exact hK _ _ (Fr.refl [] _) rfl
        case s4_2 =>
          refine stepOk_of _ _ rfl rfl ?_
          intro v W4 f kp ho hd K' hK
          have e33 : v 33 = .agg #[.bool gb, .slice pb nb cb] := (hd 0 (by decide) _ _ rfl rfl).1
          have e34 : v 34 = .agg #[.bool (decide ((g : Int) < 0)), .slice p24 (dg ((g : Int)).natAbs).length c24] := (hd 1 (by decide) _ _ rfl rfl).1
          simp only [e33, e34] at hK ⊢
          go_simp
          refine (ridiv_v Hdg.out (h2.kp kp) ((f24.kp kp).raw hz1) (by omega) (by omega) Hgn.out).mono ?_
          rintro e W' ⟨x0, x1, rfl, y0, y1, ff⟩
          exact hK _ W' ff ⟨_, _, rfl, y0, y1⟩
        case s4_3 =>
          refine stepOk_of _ _ rfl rfl ?_
          intro v W4 f kp ho hd K' hK
          have f35 : ∃ y0 y1, v 35 = .tuple #[y0, y1, .int .i64 0] ∧ VZ W4 dg' y0 ∧ VZ W4 (d % (g : Int)) y1 := (hd 2 (by decide) _ _ rfl rfl).1
          obtain ⟨a35_0, a35_1, e35, h35_0, h35_1⟩ := f35
          simp only [e35] at hK ⊢
          go_simp
          exact hK _ _ (Fr.refl [] _) ⟨_, _, rfl, h35_0, h35_1⟩
        case s4_4 =>
          refine stepOk_of _ _ rfl rfl ?_
          intro v W4 f kp ho hd K' hK
          have f32 : ∃ y0 y1, v 32 = .tuple #[y0, y1, .int .i64 0] ∧ VZ W4 dg' y0 ∧ VZ W4 (d % (g : Int)) y1 := (hd 3 (by decide) _ _ rfl rfl).1
          obtain ⟨a32_0, a32_1, e32, h32_0, h32_1⟩ := f32
          simp only [e32] at hK ⊢
          go_simp
          exact hK _ _ (Fr.refl [] _) h32_0
        case s4_5 =>
          refine stepOk_of _ _ rfl rfl ?_
          intro v W4 f kp ho hd K' hK
          have f32 : ∃ y0 y1, v 32 = .tuple #[y0, y1, .int .i64 0] ∧ VZ W4 dg' y0 ∧ VZ W4 (d % (g : Int)) y1 := (hd 3 (by decide) _ _ rfl rfl).1
          obtain ⟨a32_0, a32_1, e32, h32_0, h32_1⟩ := f32
          simp only [e32] at hK ⊢
          go_simp
          exact hK _ _ (Fr.refl [] _) h32_1
        case s4_6 =>
          refine stepOk_of _ _ rfl rfl ?_
          intro v W4 f kp ho hd K' hK
          have f32 : ∃ y0 y1, v 32 = .tuple #[y0, y1, .int .i64 0] ∧ VZ W4 dg' y0 ∧ VZ W4 (d % (g : Int)) y1 := (hd 3 (by decide) _ _ rfl rfl).1
          obtain ⟨a32_0, a32_1, e32, h32_0, h32_1⟩ := f32
          simp only [e32] at hK ⊢
          go_simp
          exact hK _ _ (Fr.refl [] _) rfl
        case s4_7 =>
          refine stepOk_of _ _ rfl rfl ?_
          intro v W4 f kp ho hd K' hK
          go_simp
          exact hK _ _ (move_new rfl rfl rfl rfl rfl) trivial
        case s4_8 =>
          refine stepOk_of _ _ rfl rfl ?_
          intro v W4 f kp ho hd K' hK
          go_simp
          exact hK _ _ (move_new rfl rfl rfl rfl rfl) trivial
        case s4_9 =>
          refine stepOk_of _ _ rfl rfl ?_
          intro v W4 f kp ho hd K' hK
          obtain ⟨-, A9, e9, -, sb9⟩ := hd 7 (by decide) _ _ rfl rfl
          have f36 : VZ W4 dg' (v 36) := (hd 4 (by decide) _ _ rfl rfl).1
          have o36 := f36
          obtain ⟨p36, c36, e36, s36⟩ := o36
          obtain ⟨zz0, zz1, bz⟩ := sb9.open2
          have k0 := bz.cell (j := 0) rfl
          have fr0 := bz.free 0
          have k1 := bz.cell (j := 1) rfl
          have fr1 := bz.free 1
          simp only [e9, e36] at hK ⊢
          go_simp
          exact hK undef _ (move_store (cs := #[.bool (decide (dg' < 0)), .slice p36 (dg (dg').natAbs).length c36]) rfl e9 (by simp only [List.map, e36]; rfl) sb9 rfl rfl (((Fr.refl _ _).put1 0 _).put1 1 _) (((bz.put1 0 _).put1 1 _))) trivial
        case s4_10 =>
          refine stepOk_of _ _ rfl rfl ?_
          intro v W4 f kp ho hd K' hK
          obtain ⟨-, A10, e10, -, sb10⟩ := hd 8 (by decide) _ _ rfl rfl
          have f37 : VZ W4 (d % (g : Int)) (v 37) := (hd 5 (by decide) _ _ rfl rfl).1
          have o37 := f37
          obtain ⟨p37, c37, e37, s37⟩ := o37
          obtain ⟨zz0, zz1, bz⟩ := sb10.open2
          have k0 := bz.cell (j := 0) rfl
          have fr0 := bz.free 0
          have k1 := bz.cell (j := 1) rfl
          have fr1 := bz.free 1
          simp only [e10, e37] at hK ⊢
          go_simp
          exact hK undef _ (move_store (cs := #[.bool (decide ((d % (g : Int)) < 0)), .slice p37 (dg ((d % (g : Int))).natAbs).length c37]) rfl e10 (by simp only [List.map, e37]; rfl) sb10 rfl rfl (((Fr.refl _ _).put1 0 _).put1 1 _) (((bz.put1 0 _).put1 1 _))) trivial
        case s4_11 =>
          refine stepOk_of _ _ rfl rfl ?_
          intro v W4 f kp ho hd K' hK
          have e38 : v 38 = .int .i64 0 := (hd 6 (by decide) _ _ rfl rfl).1
          simp only [e38] at hK ⊢
          go_simp
          exact hK _ _ (Fr.refl [] _) rfl
        case done4 =>
          intro v W4 f kp hF hD
          have e33 : v 33 = .agg #[.bool gb, .slice pb nb cb] := (hF 0 _ _ rfl rfl).1
          have e34 : v 34 = .agg #[.bool (decide ((g : Int) < 0)), .slice p24 (dg ((g : Int)).natAbs).length c24] := (hF 1 _ _ rfl rfl).1
          have f36 : VZ W4 dg' (v 36) := (hF 4 _ _ rfl rfl).1
          have o36 := f36
          obtain ⟨p36, c36, e36, s36⟩ := o36
          rw [e36] at f36
          have f37 : VZ W4 (d % (g : Int)) (v 37) := (hF 5 _ _ rfl rfl).1
          have o37 := f37
          obtain ⟨p37, c37, e37, s37⟩ := o37
          rw [e37] at f37
          have e38 : v 38 = .int .i64 0 := (hF 6 _ _ rfl rfl).1
          obtain ⟨-, A9, e9, g9, -⟩ := hF 7 _ _ rfl rfl
          obtain ⟨-, A10, e10, g10, -⟩ := hF 8 _ _ rfl rfl
          have e11 : v 11 = .int .i64 0 := (hF 11 _ _ rfl rfl).1
          obtain ⟨-, A', eA, b9⟩ := hF 9 _ _ rfl rfl
          rw [e9] at eA; injection eA with eA; injection eA with eA; injection eA with eA; subst eA
          replace b9 : Bx W4 A9 24 #[.bool (decide (dg' < 0)), .slice p36 (dg (dg').natAbs).length c36] := by simp only [List.map, e36] at b9; exact b9
          obtain ⟨-, A', eA, b10⟩ := hF 10 _ _ rfl rfl
          rw [e10] at eA; injection eA with eA; injection eA with eA; injection eA with eA; subst eA
          replace b10 : Bx W4 A10 24 #[.bool (decide ((d % (g : Int)) < 0)), .slice p37 (dg ((d % (g : Int))).natAbs).length c37] := by simp only [List.map, e37] at b10; exact b10
          have dd9_10 : A9 ≠ A10 := fun e => hD 7 8 _ _ _ _ _ _ _ _ (by decide) rfl rfl rfl rfl rfl rfl 9 10 rfl rfl (by rw [e9, e10, e])
          clear hF hD
          simp only [e33, e34, e36, e37, e38, e9, e10, e11]
          replace b2 := b2.keep f (by simp)
          replace b3 := b3.keep f (by simp)
          replace b4 := b4.keep f (by simp)
          replace b5 := b5.keep f (by simp)
          replace b6 := b6.keep f (by simp)
          replace b7 := b7.keep f (by simp)
          replace h1 := h1.kp kp
          replace h2 := h2.kp kp
          replace s24 := s24.kp kp
          replace f24 := f24.kp kp
          replace s29 := s29.kp kp
          replace f29 := f29.kp kp
          replace s30 := s30.kp kp
          replace f30 := f30.kp kp
          replace hw := hw.trans (a := w) (b := W3) (c := W4) f (by simp)
          have hsz4 := f.size
          clear f kp
          have hlt_b9 := b9.lt
          have hlt_b10 := b10.lt
          rw [Hneg.out, Habs.out] at b9 f36; rw [Habs.out] at s36
          have c_b2_0 := b2.cell (j := 0) rfl
          have c_b2_1 := b2.cell (j := 1) rfl
          have c_b3_0 := b3.cell (j := 0) rfl
          have c_b3_1 := b3.cell (j := 1) rfl
          have c_b4_0 := b4.cell (j := 0) rfl
          have c_b4_1 := b4.cell (j := 1) rfl
          have c_b4_2 := b4.cell (j := 2) rfl
          have c_b5_0 := b5.cell (j := 0) rfl
          have c_b5_1 := b5.cell (j := 1) rfl
          have c_b6_0 := b6.cell (j := 0) rfl
          have c_b6_1 := b6.cell (j := 1) rfl
          have c_b7_0 := b7.cell (j := 0) rfl
          have c_b7_1 := b7.cell (j := 1) rfl
          have c_b9_0 := b9.cell (j := 0) rfl
          have c_b9_1 := b9.cell (j := 1) rfl
          have c_b10_0 := b10.cell (j := 0) rfl
          have c_b10_1 := b10.cell (j := 1) rfl
          go_upto_region 7 with fail
          clear c_b2_0 c_b2_1 c_b3_0 c_b3_1 c_b4_0 c_b4_1 c_b4_2 c_b5_0 c_b5_1 c_b6_0 c_b6_1 c_b7_0 c_b7_1 c_b9_0 c_b9_1 c_b10_0 c_b10_1
          refine wp_region_inv (w0 := W4) (by kernel_rfl) [true, true, true, true, false, true, false, true, true, false, true, true, true, true, true, true, true, true, true, true, true, true, true, true, true, true, true, true, true, true, true, true, true, true, true, true, true, true, true, true, true, true, true, false, false, false, false] [A6]
            [⟨[41], F1 (fun xx _ => xx = .agg #[.bool (decide (zg < 0)), .slice p29 (dg (zg).natAbs).length c29]), .pure⟩,
    ⟨[42], F1 (fun xx ww => VZ ww zn xx), .pure⟩,
    ⟨[42], F0, .out 0 24 cellsOf⟩]
            [[], [0], [0, 1]] ?mk5 ?hmk5 (by kernel_rfl)
            ⟨F1.st (st_eq _), F1.st (fun _ _ _ k h => h.kp k), F0.st, trivial⟩ (by simp) (by simp <;> omega) (n := 3) rfl ⟨⟨⟨trivial, ?s5_0⟩, ?s5_1⟩, ?s5_2⟩ ?done5
          case hmk5 => intro v; simp only [mkv, mix, Nat.reduceAdd]; rfl
          case s5_0 =>
            refine stepOk_of _ _ rfl rfl ?_
            intro v W5 f kp ho hd K' hK
            have lb : Bx W5 A6 24 #[.bool (decide (zg < 0)), .slice p29 (dg (zg).natAbs).length c29] := (ho 0 _ rfl (by kernel_rfl)).trans b6
            have k0 := lb.cell (j := 0) rfl
            have k1 := lb.cell (j := 1) rfl
            go_simp
            exact hK _ _ (Fr.refl [] _) rfl
          case s5_1 =>
            refine stepOk_of _ _ rfl rfl ?_
            intro v W5 f kp ho hd K' hK
            have e41 : v 41 = .agg #[.bool (decide (zg < 0)), .slice p29 (dg (zg).natAbs).length c29] := (hd 0 (by decide) _ _ rfl rfl).1
            simp only [e41] at hK ⊢
            go_simp
            refine (rneg_v Hzn.out ((f29.kp kp).raw hzl) (by omega)).mono ?_
            rintro e W' ⟨x, rfl, hx, ff⟩
            exact hK x W' ff hx
          case s5_2 =>
            refine stepOk_of _ _ rfl rfl ?_
            intro v W5 f kp ho hd K' hK
            have f42 : VZ W5 zn (v 42) := (hd 1 (by decide) _ _ rfl rfl).1
            have o42 := f42
            obtain ⟨p42, c42, e42, s42⟩ := o42
            have bz : Bx W5 A6 24 #[.bool (decide (zg < 0)), .slice p29 (dg (zg).natAbs).length c29] := (ho 0 _ rfl (by kernel_rfl)).trans b6
            have k0 := bz.cell (j := 0) rfl
            have fr0 := bz.free 0
            have k1 := bz.cell (j := 1) rfl
            have fr1 := bz.free 1
            simp only [e42] at hK ⊢
            go_simp
            exact hK undef _ (move_out (cs := #[.bool (decide (zn < 0)), .slice p42 (dg (zn).natAbs).length c42]) rfl rfl (by simp only [List.map, e42]; rfl) (bz.soft rfl) rfl rfl (((Fr.refl _ _).put1 0 _).put1 1 _) (((bz.put1 0 _).put1 1 _))) trivial
          case done5 =>
            intro v W5 f kp hF hD
            have e41 : v 41 = .agg #[.bool (decide (zg < 0)), .slice p29 (dg (zg).natAbs).length c29] := (hF 0 _ _ rfl rfl).1
            have f42 : VZ W5 zn (v 42) := (hF 1 _ _ rfl rfl).1
            have o42 := f42
            obtain ⟨p42, c42, e42, s42⟩ := o42
            rw [e42] at f42
            obtain ⟨-, A', eA, nb6⟩ := hF 2 _ _ rfl rfl
            injection eA with eA; subst eA
            replace nb6 : Bx W5 A6 24 #[.bool (decide (zn < 0)), .slice p42 (dg (zn).natAbs).length c42] := by simp only [List.map, e42] at nb6; exact nb6
            clear hF hD
            simp only [e41, e42]
            replace b2 := b2.keep f (by simp <;> omega)
            replace b3 := b3.keep f (by simp <;> omega)
            replace b4 := b4.keep f (by simp <;> omega)
            replace b5 := b5.keep f (by simp <;> omega)
            replace b7 := b7.keep f (by simp <;> omega)
            replace b9 := b9.keep f (by simp <;> omega)
            replace b10 := b10.keep f (by simp <;> omega)
            clear b6; have b6 := nb6; clear nb6
            replace h1 := h1.kp kp
            replace h2 := h2.kp kp
            replace s24 := s24.kp kp
            replace f24 := f24.kp kp
            replace s29 := s29.kp kp
            replace f29 := f29.kp kp
            replace s30 := s30.kp kp
            replace f30 := f30.kp kp
            replace s36 := s36.kp kp
            replace f36 := f36.kp kp
            replace s37 := s37.kp kp
            replace f37 := f37.kp kp
            replace hw := hw.trans (a := w) (b := W4) (c := W5) f (fun x hx hl => by simp at hx; omega)
            have hsz5 := f.size
            clear f kp
            have c_b2_0 := b2.cell (j := 0) rfl
            have c_b2_1 := b2.cell (j := 1) rfl
            have c_b3_0 := b3.cell (j := 0) rfl
            have c_b3_1 := b3.cell (j := 1) rfl
            have c_b4_0 := b4.cell (j := 0) rfl
            have c_b4_1 := b4.cell (j := 1) rfl
            have c_b4_2 := b4.cell (j := 2) rfl
            have c_b5_0 := b5.cell (j := 0) rfl
            have c_b5_1 := b5.cell (j := 1) rfl
            have c_b6_0 := b6.cell (j := 0) rfl
            have c_b6_1 := b6.cell (j := 1) rfl
            have c_b7_0 := b7.cell (j := 0) rfl
            have c_b7_1 := b7.cell (j := 1) rfl
            have c_b9_0 := b9.cell (j := 0) rfl
            have c_b9_1 := b9.cell (j := 1) rfl
            have c_b10_0 := b10.cell (j := 0) rfl
            have c_b10_1 := b10.cell (j := 1) rfl
            go_upto_region 8 with fail
            clear c_b2_0 c_b2_1 c_b3_0 c_b3_1 c_b4_0 c_b4_1 c_b4_2 c_b5_0 c_b5_1 c_b6_0 c_b6_1 c_b7_0 c_b7_1 c_b9_0 c_b9_1 c_b10_0 c_b10_1
            refine wp_region_inv (w0 := W5) (by kernel_rfl) [true, true, true, true, false, true, false, true, true, false, true, true, true, true, true, true, true, true, true, true, true, true, true, true, true, true, true, true, true, true, true, true, true, true, true, true, true, true, true, true, true, true, true, true, true, true, true] [(w.heap.size + 2)]
              [⟨[43], F1 (fun xx _ => xx = .agg #[.bool (decide (zn < 0)), .slice p42 (dg (zn).natAbs).length c42]), .pure⟩,
    ⟨[44], F1 (fun xx _ => xx = .pointer (some ⟨A9, 1, none⟩)), .pure⟩,
    ⟨[45], F1 (fun xx _ => xx = .slice p36 (dg r.den).length c36), .pure⟩,
    ⟨[46], F1 (fun xx ww => VQ ww r xx), .pure⟩,
    ⟨[46], F0, .out 0 26 cellsOf⟩]
              [[], [], [1], [0, 1, 2], [0, 1, 2, 3]] ?mk6 ?hmk6 (by kernel_rfl)
              ⟨F1.st (st_eq _), F1.st (st_eq _), F1.st (st_eq _), F1.st (fun _ _ _ k h => h.kp k), F0.st, trivial⟩ (by simp) (by simp <;> omega) (n := 5) rfl ⟨⟨⟨⟨⟨trivial, ?s6_0⟩, ?s6_1⟩, ?s6_2⟩, ?s6_3⟩, ?s6_4⟩ ?done6
            case hmk6 => intro v; simp only [mkv, mix, Nat.reduceAdd]; rfl
            case s6_0 =>
              refine stepOk_of _ _ rfl rfl ?_
              intro v W6 f kp ho hd K' hK
              have k0 := (b6.keep f (by simp <;> omega)).cell (j := 0) rfl
              have k1 := (b6.keep f (by simp <;> omega)).cell (j := 1) rfl
              go_simp
              exact hK _ _ (Fr.refl [] _) rfl
            case s6_1 =>
              refine stepOk_of _ _ rfl rfl ?_
              intro v W6 f kp ho hd K' hK
              go_simp
              exact hK _ _ (Fr.refl [] _) rfl
            case s6_2 =>
              refine stepOk_of _ _ rfl rfl ?_
              intro v W6 f kp ho hd K' hK
              have e44 : v 44 = .pointer (some ⟨A9, 1, none⟩) := (hd 1 (by decide) _ _ rfl rfl).1
              have k0 := (b9.keep f (by simp <;> omega)).cell (j := 1) rfl
              simp only [e44] at hK ⊢
              go_simp
              exact hK _ _ (Fr.refl [] _) rfl
            case s6_3 =>
              refine stepOk_of _ _ rfl rfl ?_
              intro v W6 f kp ho hd K' hK
              have e43 : v 43 = .agg #[.bool (decide (zn < 0)), .slice p42 (dg (zn).natAbs).length c42] := (hd 0 (by decide) _ _ rfl rfl).1
              have e45 : v 45 = .slice p36 (dg r.den).length c36 := (hd 2 (by decide) _ _ rfl rfl).1
              simp only [e43, e45] at hK ⊢
              go_simp
              exact hK _ _ (Fr.refl [] _) (build_q (s42.kp kp) (s36.kp kp) Hl1.out rfl)
            case s6_4 =>
              refine stepOk_of _ _ rfl rfl ?_
              intro v W6 f kp ho hd K' hK
              have f46 : VQ W6 r (v 46) := (hd 3 (by decide) _ _ rfl rfl).1
              have o46 := f46
              obtain ⟨p46, c46, q46, d46, e46, s46, t46⟩ := o46
              have bz : Bx W6 (w.heap.size + 2) 26 #[.bool false, .slice none 0 0, .slice none 0 0] := (ho 0 _ rfl (by kernel_rfl)).trans b4
              have k0 := bz.cell (j := 0) rfl
              have fr0 := bz.free 0
              have k1 := bz.cell (j := 1) rfl
              have fr1 := bz.free 1
              have k2 := bz.cell (j := 2) rfl
              have fr2 := bz.free 2
              simp only [e46] at hK ⊢
              go_simp
              exact hK undef _ (move_out (cs := #[.bool (decide ((r).num < 0)), .slice p46 (dg (r).num.natAbs).length c46, .slice q46 (dg (r).den).length d46]) rfl rfl (by simp only [List.map, e46]; rfl) (bz.soft rfl) rfl rfl ((((Fr.refl _ _).put1 0 _).put1 1 _).put1 2 _) ((((bz.put1 0 _).put1 1 _).put1 2 _))) trivial
            case done6 =>
              intro v W6 f kp hF hD
              have e43 : v 43 = .agg #[.bool (decide (zn < 0)), .slice p42 (dg (zn).natAbs).length c42] := (hF 0 _ _ rfl rfl).1
              have e44 : v 44 = .pointer (some ⟨A9, 1, none⟩) := (hF 1 _ _ rfl rfl).1
              have e45 : v 45 = .slice p36 (dg r.den).length c36 := (hF 2 _ _ rfl rfl).1
              have f46 : VQ W6 r (v 46) := (hF 3 _ _ rfl rfl).1
              have o46 := f46
              obtain ⟨p46, c46, q46, d46, e46, s46, t46⟩ := o46
              rw [e46] at f46
              obtain ⟨-, A', eA, nb4⟩ := hF 4 _ _ rfl rfl
              injection eA with eA; subst eA
              replace nb4 : Bx W6 (w.heap.size + 2) 26 #[.bool (decide ((r).num < 0)), .slice p46 (dg (r).num.natAbs).length c46, .slice q46 (dg (r).den).length d46] := by simp only [List.map, e46] at nb4; exact nb4
              clear hF hD
              simp only [e43, e44, e45, e46]
              replace b2 := b2.keep f (by simp <;> omega)
              replace b3 := b3.keep f (by simp <;> omega)
              replace b5 := b5.keep f (by simp <;> omega)
              replace b6 := b6.keep f (by simp <;> omega)
              replace b7 := b7.keep f (by simp <;> omega)
              replace b9 := b9.keep f (by simp <;> omega)
              replace b10 := b10.keep f (by simp <;> omega)
              clear b4; have b4 := nb4; clear nb4
              replace h1 := h1.kp kp
              replace h2 := h2.kp kp
              replace s24 := s24.kp kp
              replace f24 := f24.kp kp
              replace s29 := s29.kp kp
              replace f29 := f29.kp kp
              replace s30 := s30.kp kp
              replace f30 := f30.kp kp
              replace s36 := s36.kp kp
              replace f36 := f36.kp kp
              replace s37 := s37.kp kp
              replace f37 := f37.kp kp
              replace s42 := s42.kp kp
              replace f42 := f42.kp kp
              replace hw := hw.trans (a := w) (b := W5) (c := W6) f (fun x hx hl => by simp at hx; omega)
              have hsz6 := f.size
              clear f kp
              go_wp2_with fail
              have c_b4_0 := b4.cell (j := 0) rfl
              have c_b4_1 := b4.cell (j := 1) rfl
              have c_b4_2 := b4.cell (j := 2) rfl
              exact bodyPost_ret (v := rw' (decide ((r).num < 0)) p46 (dg (r).num.natAbs).length c46 q46 (dg (r).den).length d46) (by simp [results, Tryz.results102, go_sem, c_b4_0, c_b4_1, c_b4_2]) rfl ⟨_, rfl, f46, hw⟩

theorem rreduce_v {w : World} {L M : Nat} {z d : Int} {r : Rat} {u u' : Value} (hr : Rat.divInt z d = r) (h1 : VI w L z u) (h2 : VI w M d u') (hL : L ≤ 524286) (hM : M ≤ 524287) : Calls Tryz.prog 102 #[u, u'] w (RV (fun w' => VQ w' r) w) := by
  subst hr
  by_cases hz : z = 0
  · have e : Rat.divInt z d = 0 := by rw [hz]; exact Rat.zero_divInt d
    rw [e]
    exact reduce_z h1 h2 (by omega) hM hz
  · by_cases hd : d = 0
    · have e : Rat.divInt z d = 0 := by rw [hd]; exact Rat.divInt_zero z
      rw [e]
      exact reduce_d h1 h2 (by omega) hM hz hd
    · rcases Int.lt_or_le d 0 with h0 | h0
      · obtain ⟨D, rfl⟩ : ∃ D : Nat, d = -(D : Int) := ⟨d.natAbs, by omega⟩
        exact reduce_neg h1 h2 hL hM hz (by omega)
      · obtain ⟨D, rfl⟩ := Int.eq_ofNat_of_zero_le h0
        exact reduce_pos h1 h2 hL hM hz (by omega)

end Go.Proofs.YtnokcaigpnejeaaGreatDoor
