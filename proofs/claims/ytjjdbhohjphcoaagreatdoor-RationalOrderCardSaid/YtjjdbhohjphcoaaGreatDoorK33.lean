/- What the statements of this claim stand on: of Aw3, what they name -/
import Derived.Test.YtjjdbhohjphcoaaGreatDoorK30
import Derived.Test.YtjjdbhohjphcoaaGreatDoorK32

namespace Go.Proofs.YtjjdbhohjphcoaaGreatDoor
open Go.RowKit

def s24 : ByteArray := { data := #[50, 47, 52] }

theorem good_digit {s : ByteArray} (h : s.size = 1) (h1 : 48 ≤ by' s 0) (h2 : by' s 0 ≤ 57) : Good s := by
  refine ⟨by omega, fun _ => h, fun j hj => ?_⟩
  have : j = 0 := by omega
  subst this
  exact ⟨h1, h2⟩

theorem pre_good {s : ByteArray} (h : Good s) : pre s = 0 := if_pos h

theorem nP_good {s : ByteArray} (h : Good s) : nP s = pv (by' s) s.size := by
  unfold nP prx
  rw [if_pos h, val_dg]

theorem ipe_good {s : ByteArray} (h : Good s) (hm : ¬ isM s) : ipe s = 0 ∧ zP s = (nP s : Int) := by
  have hb := ibody_no hm
  have h0 : ipe s = 0 := if_pos ⟨by rw [hb]; exact pre_good h, fun q => hm q.1⟩
  refine ⟨h0, ?_⟩
  have h1 : ips s = false := by unfold ips; rw [if_pos h0]; exact decide_eq_false hm
  have h2 : ipx s = prx s := by unfold ipx; rw [if_pos h0, hb]
  unfold zP nP
  rw [h1, h2]
  rfl

theorem parse24 (w : World) : Calls Tryz.prog 56 #[.string { data := #[50, 47, 52] }] w (fun e w' => e = .returned (.tuple #[rw' false none 0 0 none 0 0, .int .i64 6]) ∧ Fr [] w w') := by
  have e0 : s24.extract 0 1 = { data := #[50] } := by decide +kernel
  have e1 : s24.extract (1 + 1) s24.size = { data := #[52] } := by decide +kernel
  have g2 : Good ({ data := #[50] } : ByteArray) := good_digit rfl (by decide +kernel) (by decide +kernel)
  have g4 : Good ({ data := #[52] } : ByteArray) := good_digit rfl (by decide +kernel) (by decide +kernel)
  obtain ⟨a1, a2⟩ := ipe_good g2 (by decide +kernel)
  have n2 : nP ({ data := #[50] } : ByteArray) = 2 := by rw [nP_good g2]; decide +kernel
  have n4 : nP ({ data := #[52] } : ByteArray) = 4 := by rw [nP_good g4]; decide +kernel
  rw [n2] at a2
  refine qparse_low (s := s24) (i := 1) (by decide +kernel) (by decide +kernel) (by decide +kernel) ?_ ?_ ?_ ?_ ?_ ?_ ?_
  · rw [e0]; exact a1
  · rw [e1]; exact pre_good g4
  · rw [e1, n4]; decide
  · rw [e1, n4]; decide
  · rw [e0, e1, a2, n4]; decide +kernel
  · rw [e0, a2]; unfold nz; exact Nat.le_trans (dg_len_le (k := 1) (by rw [pB_one]; decide)) (by decide)
  · rw [e1, n4]; exact Nat.le_trans (dg_len_le (k := 1) (by rw [pB_one]; decide)) (by decide)

theorem nq_small {r : Rat} (h : r.num.natAbs < 4294967296) (h2 : r.den < 4294967296) : nq r ≤ 2 := by
  unfold nq nz
  have h3 := dg_len_le (n := r.num.natAbs) (k := 1) (by rw [pB_one]; exact h)
  have h4 := dg_len_le (n := r.den) (k := 1) (by rw [pB_one]; exact h2)
  omega

theorem frac_e (x y : Int) {q : Rat} {w : World} (hq : Rat.divInt x y = q) (ht : Tab w) (hx : -9223372036854775808 ≤ x) (hx2 : x ≤ 9223372036854775807) (hy : -9223372036854775808 ≤ y) (hy2 : y ≤ 9223372036854775807) : Calls Tryz.prog 45 #[.int .i64 x, .int .i64 y] w (RV (fun w' => VQ w' q) w) := hq ▸ frac_v x y ht hx hx2 hy hy2

theorem rfrac_e (x y : Int) {q : Rat} {w : World} (hq : Rat.divInt x y = q) (hx0 : x ≠ 0) (hy0 : 0 < y) (hx : -9223372036854775808 ≤ x) (hx2 : x ≤ 9223372036854775807) (hy : -9223372036854775808 ≤ y) (hy2 : y ≤ 9223372036854775807) : Calls Tryz.prog 39 #[.int .i64 x, .int .i64 y] w (RV (fun w' => VQ w' q) w) := hq ▸ rfrac_p x y hx0 hy0 hx hx2 hy hy2

theorem down_e {w : World} {L k : Nat} {r q : Rat} {va : Value} (hq : downQ r k = q) (ht : Tab w) (h1 : VR w L r va) (hL : L ≤ 16383) (hk : k ≤ 256) : Calls Tryz.prog 46 #[va, .int .i64 (k : Int)] w (RM q w) := hq ▸ down_v ht h1 hL hk

theorem up_e {w : World} {L k : Nat} {r q : Rat} {va : Value} (hq : upQ r k = q) (ht : Tab w) (h1 : VR w L r va) (hL : L ≤ 16383) (hk : k ≤ 256) : Calls Tryz.prog 48 #[va, .int .i64 (k : Int)] w (RM q w) := hq ▸ up_v ht h1 hL hk

theorem floor_e {w : World} {L : Nat} {r : Rat} {z : Int} {va : Value} (hz : r.floor = z) (h1 : VR w L r va) (hL : L ≤ 65535) : Calls Tryz.prog 54 #[va] w (RV (fun w' => VZ w' z) w) := hz ▸ floor_v h1 hL

theorem qformat_e {w : World} {L : Nat} {r : Rat} {s : ByteArray} {va : Value} (hs : qtx r = s) (ht : Tab w) (h1 : VR w L r va) (hL : L ≤ 65535) (hn : r.num.natAbs < pB 10) (hdn : r.den < pB 10) (hd : r.den ≠ 1) : Calls Tryz.prog 58 #[va] w (fun e w' => e = .returned (.string s) ∧ Fr [] w w') := hs ▸ qformat_0 ht h1 hL hn hdn hd

set_option maxRecDepth 100000 in
set_option maxHeartbeats 1000000 in
theorem awake3_any (w : World) (ht : Tab w) : Calls Tryz.prog 15 #[] w (RB true w) := by
  obtain ⟨qa, hqa⟩ : ∃ q, Rat.divInt 1 3 = q := ⟨_, rfl⟩
  have lqa : nq qa ≤ 2 := by rw [← hqa]; exact nq_small (by decide +kernel) (by decide +kernel)
  obtain ⟨qb, hqb⟩ : ∃ q, Rat.divInt 1 4 = q := ⟨_, rfl⟩
  have lqb : nq qb ≤ 2 := by rw [← hqb]; exact nq_small (by decide +kernel) (by decide +kernel)
  obtain ⟨qc, hqc⟩ : ∃ q, Rat.divInt 1 2 = q := ⟨_, rfl⟩
  have lqc : nq qc ≤ 2 := by rw [← hqc]; exact nq_small (by decide +kernel) (by decide +kernel)
  obtain ⟨qd, hqd⟩ : ∃ q, Rat.divInt 6 (-4) = q := ⟨_, rfl⟩
  have lqd : nq qd ≤ 2 := by rw [← hqd]; exact nq_small (by decide +kernel) (by decide +kernel)
  obtain ⟨qe, hqe⟩ : ∃ q, Rat.divInt (-1) 2 = q := ⟨_, rfl⟩
  have lqe : nq qe ≤ 2 := by rw [← hqe]; exact nq_small (by decide +kernel) (by decide +kernel)
  have hdo : downQ qa 2 = qb := by rw [← hqa, ← hqb]; decide +kernel
  have hup : upQ qa 2 = qc := by rw [← hqa, ← hqc]; decide +kernel
  have hfl : qe.floor = -1 := by rw [← hqe]; decide +kernel
  have hfm : qtx qd = { data := #[45, 51, 47, 50] } := by rw [← hqd]; decide +kernel
  have hdn1 : qd.num.natAbs < pB 10 := by rw [← hqd]; decide +kernel
  have hdn2 : qd.den < pB 10 := by rw [← hqd]; decide +kernel
  have hdn3 : qd.den ≠ 1 := by rw [← hqd]; decide +kernel
  have Hhqa := Lib.hid hqa
  have Hhqb := Lib.hid hqb
  have Hhqc := Lib.hid hqc
  have Hhqd := Lib.hid hqd
  have Hhqe := Lib.hid hqe
  have Hhdo := Lib.hid hdo
  have Hhup := Lib.hid hup
  have Hhfl := Lib.hid hfl
  have Hhfm := Lib.hid hfm
  have Hhdn1 := Lib.hid hdn1
  have Hhdn2 := Lib.hid hdn2
  have Hhdn3 := Lib.hid hdn3
  clear hqa hqb hqc hqd hqe hdo hup hfl hfm hdn1 hdn2 hdn3
  go_enter Tryz.func15, Tryz.ntmps15
  go_upto_region 1 with fail
  have hw := Fr.refl [] w
  refine wp_region_inv (w0 := w) (by kernel_rfl) [false, true, false, false, false, false, false, false, true, false, false, false, false, false, false, false, false, false, false, false, false, false, false, false, false, false, false, false, false, false, false, false, false, false, false, false, false, false, false, false, false, false, false, false, false, false, false, false, false, false, false, false, false, false] []
    [⟨[8], F1 (fun xx ww => VQ ww qa xx), .pure⟩,
    ⟨[], F0, .new 26 3⟩,
    ⟨[8], F0, .store 1 26 cellsOf⟩]
    [[], [], [0, 1]] ?mk1 ?hmk1 (by kernel_rfl)
    ⟨F1.st (fun _ _ _ k h => h.kp k), F0.st, F0.st, trivial⟩ (by simp) (by simp) (n := 3) rfl ⟨⟨⟨trivial, ?s1_0⟩, ?s1_1⟩, ?s1_2⟩ ?done1
  case hmk1 => intro v; simp only [mkv, mix, Nat.reduceAdd]; rfl
  case s1_0 =>
    refine stepOk_of _ _ rfl rfl ?_
    intro v W1 f kp ho hd K' hK
    go_simp
    refine (frac_e 1 3 Hhqa.out (ht.kp kp) (by decide) (by decide) (by decide) (by decide)).mono ?_
    rintro e W' ⟨x, rfl, hx, ff⟩
    exact hK x W' ff hx
  case s1_1 =>
    refine stepOk_of _ _ rfl rfl ?_
    intro v W1 f kp ho hd K' hK
    go_simp
    exact hK _ _ (move_new rfl rfl rfl rfl rfl) trivial
  case s1_2 =>
    refine stepOk_of _ _ rfl rfl ?_
    intro v W1 f kp ho hd K' hK
    obtain ⟨-, A1, e1, -, sb1⟩ := hd 1 (by decide) _ _ rfl rfl
    have f8 : VQ W1 qa (v 8) := (hd 0 (by decide) _ _ rfl rfl).1
    have o8 := f8
    obtain ⟨p8, c8, q8, d8, e8, s8, t8⟩ := o8
    obtain ⟨zz0, zz1, zz2, bz⟩ := sb1.open3
    have k0 := bz.cell (j := 0) rfl
    have fr0 := bz.free 0
    have k1 := bz.cell (j := 1) rfl
    have fr1 := bz.free 1
    have k2 := bz.cell (j := 2) rfl
    have fr2 := bz.free 2
    simp only [e1, e8] at hK ⊢
    go_simp
    exact hK undef _ (move_store (cs := #[.bool (decide ((qa).num < 0)), .slice p8 (dg (qa).num.natAbs).length c8, .slice q8 (dg (qa).den).length d8]) rfl e1 (by simp only [List.map, e8]; rfl) sb1 rfl rfl ((((Fr.refl _ _).put1 0 _).put1 1 _).put1 2 _) ((((bz.put1 0 _).put1 1 _).put1 2 _))) trivial
  case done1 =>
    intro v W1 f kp hF hD
    have f8 : VQ W1 qa (v 8) := (hF 0 _ _ rfl rfl).1
    have o8 := f8
    obtain ⟨p8, c8, q8, d8, e8, s8, t8⟩ := o8
    rw [e8] at f8
    obtain ⟨-, A1, e1, g1, -⟩ := hF 1 _ _ rfl rfl
    obtain ⟨-, A', eA, b1⟩ := hF 2 _ _ rfl rfl
    rw [e1] at eA; injection eA with eA; injection eA with eA; injection eA with eA; subst eA
    replace b1 : Bx W1 A1 26 #[.bool (decide ((qa).num < 0)), .slice p8 (dg (qa).num.natAbs).length c8, .slice q8 (dg (qa).den).length d8] := by simp only [List.map, e8] at b1; exact b1
    clear hF hD
    simp only [e8, e1]
    replace ht := ht.kp kp
    replace hw := hw.trans (a := w) (b := w) (c := W1) f (by simp)
    have hsz1 := f.size
    clear f kp
    have hlt_b1 := b1.lt
    have c_b1_0 := b1.cell (j := 0) rfl
    have c_b1_1 := b1.cell (j := 1) rfl
    have c_b1_2 := b1.cell (j := 2) rfl
    go_upto_region 2 with fail
    clear c_b1_0 c_b1_1 c_b1_2
    refine wp_region_inv (w0 := W1) (by kernel_rfl) [false, false, true, true, false, false, false, false, true, true, true, true, true, true, false, false, false, false, false, false, false, false, false, false, false, false, false, false, false, false, false, false, false, false, false, false, false, false, false, false, false, false, false, false, false, false, false, false, false, false, false, false, false, false] []
      [⟨[10], F1 (fun xx _ => xx = .agg #[.bool (decide ((qa).num < 0)), .slice p8 (dg (qa).num.natAbs).length c8, .slice q8 (dg (qa).den).length d8]), .pure⟩,
    ⟨[11], F1 (fun xx ww => ∃ y0, xx = .tuple #[y0, .int .i64 0] ∧ VQ ww qb y0), .pure⟩,
    ⟨[9], F1 (fun xx ww => ∃ y0, xx = .tuple #[y0, .int .i64 0] ∧ VQ ww qb y0), .pure⟩,
    ⟨[12], F1 (fun xx ww => VQ ww qb xx), .pure⟩,
    ⟨[13], F1 (fun xx _ => xx = .int .i64 0), .pure⟩,
    ⟨[], F0, .new 26 3⟩,
    ⟨[12], F0, .store 2 26 cellsOf⟩,
    ⟨[3], F1 (fun xx _ => xx = .int .i64 0), .pure⟩]
      [[], [0], [0, 1], [0, 1, 2], [0, 1, 2], [], [0, 1, 2, 3, 5], [0, 1, 2, 3, 4, 5, 6]] ?mk2 ?hmk2 (by kernel_rfl)
      ⟨F1.st (st_eq _), F1.st (fun _ _ _ k h => by obtain ⟨y0, e, h0⟩ := h; exact ⟨y0, e, h0.kp k⟩), F1.st (fun _ _ _ k h => by obtain ⟨y0, e, h0⟩ := h; exact ⟨y0, e, h0.kp k⟩), F1.st (fun _ _ _ k h => h.kp k), F1.st (st_eq _), F0.st, F0.st, F1.st (st_eq _), trivial⟩ (by simp) (by simp) (n := 8) rfl ⟨⟨⟨⟨⟨⟨⟨⟨trivial, ?s2_0⟩, ?s2_1⟩, ?s2_2⟩, ?s2_3⟩, ?s2_4⟩, ?s2_5⟩, ?s2_6⟩, ?s2_7⟩ ?done2
    case hmk2 => intro v; simp only [mkv, mix, Nat.reduceAdd]; rfl
    case s2_0 =>
      refine stepOk_of _ _ rfl rfl ?_
      intro v W2 f kp ho hd K' hK
      have k0 := (b1.keep f (by simp)).cell (j := 0) rfl
      have k1 := (b1.keep f (by simp)).cell (j := 1) rfl
      have k2 := (b1.keep f (by simp)).cell (j := 2) rfl
      go_simp
      exact hK _ _ (Fr.refl [] _) rfl
    case s2_1 =>
      refine stepOk_of _ _ rfl rfl ?_
      intro v W2 f kp ho hd K' hK
      have e10 : v 10 = .agg #[.bool (decide ((qa).num < 0)), .slice p8 (dg (qa).num.natAbs).length c8, .slice q8 (dg (qa).den).length d8] := (hd 0 (by decide) _ _ rfl rfl).1
      simp only [e10] at hK ⊢
      go_simp
      refine (down_e (k := 2) Hhdo.out (ht.kp kp) ((f8.kp kp).raw lqa) (by omega) (by omega)).mono ?_
      rintro e W' ⟨x0, rfl, y0, ff⟩
      exact hK _ W' ff ⟨_, rfl, y0⟩
    case s2_2 =>
      refine stepOk_of _ _ rfl rfl ?_
      intro v W2 f kp ho hd K' hK
      have f11 : ∃ y0, v 11 = .tuple #[y0, .int .i64 0] ∧ VQ W2 qb y0 := (hd 1 (by decide) _ _ rfl rfl).1
      obtain ⟨a11_0, e11, h11_0⟩ := f11
      simp only [e11] at hK ⊢
      go_simp
      exact hK _ _ (Fr.refl [] _) ⟨_, rfl, h11_0⟩
    case s2_3 =>
      refine stepOk_of _ _ rfl rfl ?_
      intro v W2 f kp ho hd K' hK
      have f9 : ∃ y0, v 9 = .tuple #[y0, .int .i64 0] ∧ VQ W2 qb y0 := (hd 2 (by decide) _ _ rfl rfl).1
      obtain ⟨a9_0, e9, h9_0⟩ := f9
      simp only [e9] at hK ⊢
      go_simp
      exact hK _ _ (Fr.refl [] _) h9_0
    case s2_4 =>
      refine stepOk_of _ _ rfl rfl ?_
      intro v W2 f kp ho hd K' hK
      have f9 : ∃ y0, v 9 = .tuple #[y0, .int .i64 0] ∧ VQ W2 qb y0 := (hd 2 (by decide) _ _ rfl rfl).1
      obtain ⟨a9_0, e9, h9_0⟩ := f9
      simp only [e9] at hK ⊢
      go_simp
      exact hK _ _ (Fr.refl [] _) rfl
    case s2_5 =>
      refine stepOk_of _ _ rfl rfl ?_
      intro v W2 f kp ho hd K' hK
      go_simp
      exact hK _ _ (move_new rfl rfl rfl rfl rfl) trivial
    case s2_6 =>
      refine stepOk_of _ _ rfl rfl ?_
      intro v W2 f kp ho hd K' hK
      obtain ⟨-, A2, e2, -, sb2⟩ := hd 5 (by decide) _ _ rfl rfl
      have f12 : VQ W2 qb (v 12) := (hd 3 (by decide) _ _ rfl rfl).1
      have o12 := f12
      obtain ⟨p12, c12, q12, d12, e12, s12, t12⟩ := o12
      obtain ⟨zz0, zz1, zz2, bz⟩ := sb2.open3
      have k0 := bz.cell (j := 0) rfl
      have fr0 := bz.free 0
      have k1 := bz.cell (j := 1) rfl
      have fr1 := bz.free 1
      have k2 := bz.cell (j := 2) rfl
      have fr2 := bz.free 2
      simp only [e2, e12] at hK ⊢
      go_simp
      exact hK undef _ (move_store (cs := #[.bool (decide ((qb).num < 0)), .slice p12 (dg (qb).num.natAbs).length c12, .slice q12 (dg (qb).den).length d12]) rfl e2 (by simp only [List.map, e12]; rfl) sb2 rfl rfl ((((Fr.refl _ _).put1 0 _).put1 1 _).put1 2 _) ((((bz.put1 0 _).put1 1 _).put1 2 _))) trivial
    case s2_7 =>
      refine stepOk_of _ _ rfl rfl ?_
      intro v W2 f kp ho hd K' hK
      have e13 : v 13 = .int .i64 0 := (hd 4 (by decide) _ _ rfl rfl).1
      simp only [e13] at hK ⊢
      go_simp
      exact hK _ _ (Fr.refl [] _) rfl
    case done2 =>
      intro v W2 f kp hF hD
      have e10 : v 10 = .agg #[.bool (decide ((qa).num < 0)), .slice p8 (dg (qa).num.natAbs).length c8, .slice q8 (dg (qa).den).length d8] := (hF 0 _ _ rfl rfl).1
      have f12 : VQ W2 qb (v 12) := (hF 3 _ _ rfl rfl).1
      have o12 := f12
      obtain ⟨p12, c12, q12, d12, e12, s12, t12⟩ := o12
      rw [e12] at f12
      have e13 : v 13 = .int .i64 0 := (hF 4 _ _ rfl rfl).1
      obtain ⟨-, A2, e2, g2, -⟩ := hF 5 _ _ rfl rfl
      have e3 : v 3 = .int .i64 0 := (hF 7 _ _ rfl rfl).1
      obtain ⟨-, A', eA, b2⟩ := hF 6 _ _ rfl rfl
      rw [e2] at eA; injection eA with eA; injection eA with eA; injection eA with eA; subst eA
      replace b2 : Bx W2 A2 26 #[.bool (decide ((qb).num < 0)), .slice p12 (dg (qb).num.natAbs).length c12, .slice q12 (dg (qb).den).length d12] := by simp only [List.map, e12] at b2; exact b2
      clear hF hD
      simp only [e10, e12, e13, e2, e3]
      replace b1 := b1.keep f (by simp)
      replace ht := ht.kp kp
      replace s8 := s8.kp kp
      replace t8 := t8.kp kp
      replace f8 := f8.kp kp
      replace hw := hw.trans (a := w) (b := W1) (c := W2) f (by simp)
      have hsz2 := f.size
      clear f kp
      have hlt_b2 := b2.lt
      have c_b1_0 := b1.cell (j := 0) rfl
      have c_b1_1 := b1.cell (j := 1) rfl
      have c_b1_2 := b1.cell (j := 2) rfl
      have c_b2_0 := b2.cell (j := 0) rfl
      have c_b2_1 := b2.cell (j := 1) rfl
      have c_b2_2 := b2.cell (j := 2) rfl
      go_upto_region 3 with fail
      clear c_b1_0 c_b1_1 c_b1_2 c_b2_0 c_b2_1 c_b2_2
      refine wp_region_inv (w0 := W2) (by kernel_rfl) [false, false, false, false, true, true, false, false, true, true, true, true, true, true, true, true, true, true, true, false, false, false, false, false, false, false, false, false, false, false, false, false, false, false, false, false, false, false, false, false, false, false, false, false, false, false, false, false, false, false, false, false, false, false] []
        [⟨[15], F1 (fun xx _ => xx = .agg #[.bool (decide ((qa).num < 0)), .slice p8 (dg (qa).num.natAbs).length c8, .slice q8 (dg (qa).den).length d8]), .pure⟩,
    ⟨[16], F1 (fun xx ww => ∃ y0, xx = .tuple #[y0, .int .i64 0] ∧ VQ ww qc y0), .pure⟩,
    ⟨[14], F1 (fun xx ww => ∃ y0, xx = .tuple #[y0, .int .i64 0] ∧ VQ ww qc y0), .pure⟩,
    ⟨[17], F1 (fun xx ww => VQ ww qc xx), .pure⟩,
    ⟨[18], F1 (fun xx _ => xx = .int .i64 0), .pure⟩,
    ⟨[], F0, .new 26 3⟩,
    ⟨[17], F0, .store 4 26 cellsOf⟩,
    ⟨[5], F1 (fun xx _ => xx = .int .i64 0), .pure⟩]
        [[], [0], [0, 1], [0, 1, 2], [0, 1, 2], [], [0, 1, 2, 3, 5], [0, 1, 2, 3, 4, 5, 6]] ?mk3 ?hmk3 (by kernel_rfl)
        ⟨F1.st (st_eq _), F1.st (fun _ _ _ k h => by obtain ⟨y0, e, h0⟩ := h; exact ⟨y0, e, h0.kp k⟩), F1.st (fun _ _ _ k h => by obtain ⟨y0, e, h0⟩ := h; exact ⟨y0, e, h0.kp k⟩), F1.st (fun _ _ _ k h => h.kp k), F1.st (st_eq _), F0.st, F0.st, F1.st (st_eq _), trivial⟩ (by simp) (by simp) (n := 8) rfl ⟨⟨⟨⟨⟨⟨⟨⟨trivial, ?s3_0⟩, ?s3_1⟩, ?s3_2⟩, ?s3_3⟩, ?s3_4⟩, ?s3_5⟩, ?s3_6⟩, ?s3_7⟩ ?done3
      case hmk3 => intro v; simp only [mkv, mix, Nat.reduceAdd]; rfl
      case s3_0 =>
        refine stepOk_of _ _ rfl rfl ?_
        intro v W3 f kp ho hd K' hK
        have k0 := (b1.keep f (by simp)).cell (j := 0) rfl
        have k1 := (b1.keep f (by simp)).cell (j := 1) rfl
        have k2 := (b1.keep f (by simp)).cell (j := 2) rfl
        go_simp
        exact hK _ _ (Fr.refl [] _) rfl
      case s3_1 =>
        refine stepOk_of _ _ rfl rfl ?_
        intro v W3 f kp ho hd K' hK
        have e15 : v 15 = .agg #[.bool (decide ((qa).num < 0)), .slice p8 (dg (qa).num.natAbs).length c8, .slice q8 (dg (qa).den).length d8] := (hd 0 (by decide) _ _ rfl rfl).1
        simp only [e15] at hK ⊢
        go_simp
        refine (up_e (k := 2) Hhup.out (ht.kp kp) ((f8.kp kp).raw lqa) (by omega) (by omega)).mono ?_
        rintro e W' ⟨x0, rfl, y0, ff⟩
        exact hK _ W' ff ⟨_, rfl, y0⟩
      case s3_2 =>
        refine stepOk_of _ _ rfl rfl ?_
        intro v W3 f kp ho hd K' hK
        have f16 : ∃ y0, v 16 = .tuple #[y0, .int .i64 0] ∧ VQ W3 qc y0 := (hd 1 (by decide) _ _ rfl rfl).1
        obtain ⟨a16_0, e16, h16_0⟩ := f16
        simp only [e16] at hK ⊢
        go_simp
        exact hK _ _ (Fr.refl [] _) ⟨_, rfl, h16_0⟩
      case s3_3 =>
        refine stepOk_of _ _ rfl rfl ?_
        intro v W3 f kp ho hd K' hK
        have f14 : ∃ y0, v 14 = .tuple #[y0, .int .i64 0] ∧ VQ W3 qc y0 := (hd 2 (by decide) _ _ rfl rfl).1
        obtain ⟨a14_0, e14, h14_0⟩ := f14
        simp only [e14] at hK ⊢
        go_simp
        exact hK _ _ (Fr.refl [] _) h14_0
      case s3_4 =>
        refine stepOk_of _ _ rfl rfl ?_
        intro v W3 f kp ho hd K' hK
        have f14 : ∃ y0, v 14 = .tuple #[y0, .int .i64 0] ∧ VQ W3 qc y0 := (hd 2 (by decide) _ _ rfl rfl).1
        obtain ⟨a14_0, e14, h14_0⟩ := f14
        simp only [e14] at hK ⊢
        go_simp
        exact hK _ _ (Fr.refl [] _) rfl
      case s3_5 =>
        refine stepOk_of _ _ rfl rfl ?_
        intro v W3 f kp ho hd K' hK
        go_simp
        exact hK _ _ (move_new rfl rfl rfl rfl rfl) trivial
      case s3_6 =>
        refine stepOk_of _ _ rfl rfl ?_
        intro v W3 f kp ho hd K' hK
        obtain ⟨-, A4, e4, -, sb4⟩ := hd 5 (by decide) _ _ rfl rfl
        have f17 : VQ W3 qc (v 17) := (hd 3 (by decide) _ _ rfl rfl).1
        have o17 := f17
        obtain ⟨p17, c17, q17, d17, e17, s17, t17⟩ := o17
        obtain ⟨zz0, zz1, zz2, bz⟩ := sb4.open3
        have k0 := bz.cell (j := 0) rfl
        have fr0 := bz.free 0
        have k1 := bz.cell (j := 1) rfl
        have fr1 := bz.free 1
        have k2 := bz.cell (j := 2) rfl
        have fr2 := bz.free 2
        simp only [e4, e17] at hK ⊢
        go_simp
        exact hK undef _ (move_store (cs := #[.bool (decide ((qc).num < 0)), .slice p17 (dg (qc).num.natAbs).length c17, .slice q17 (dg (qc).den).length d17]) rfl e4 (by simp only [List.map, e17]; rfl) sb4 rfl rfl ((((Fr.refl _ _).put1 0 _).put1 1 _).put1 2 _) ((((bz.put1 0 _).put1 1 _).put1 2 _))) trivial
      case s3_7 =>
        refine stepOk_of _ _ rfl rfl ?_
        intro v W3 f kp ho hd K' hK
        have e18 : v 18 = .int .i64 0 := (hd 4 (by decide) _ _ rfl rfl).1
        simp only [e18] at hK ⊢
        go_simp
        exact hK _ _ (Fr.refl [] _) rfl
      case done3 =>
        intro v W3 f kp hF hD
        have e15 : v 15 = .agg #[.bool (decide ((qa).num < 0)), .slice p8 (dg (qa).num.natAbs).length c8, .slice q8 (dg (qa).den).length d8] := (hF 0 _ _ rfl rfl).1
        have f17 : VQ W3 qc (v 17) := (hF 3 _ _ rfl rfl).1
        have o17 := f17
        obtain ⟨p17, c17, q17, d17, e17, s17, t17⟩ := o17
        rw [e17] at f17
        have e18 : v 18 = .int .i64 0 := (hF 4 _ _ rfl rfl).1
        obtain ⟨-, A4, e4, g4, -⟩ := hF 5 _ _ rfl rfl
        have e5 : v 5 = .int .i64 0 := (hF 7 _ _ rfl rfl).1
        obtain ⟨-, A', eA, b4⟩ := hF 6 _ _ rfl rfl
        rw [e4] at eA; injection eA with eA; injection eA with eA; injection eA with eA; subst eA
        replace b4 : Bx W3 A4 26 #[.bool (decide ((qc).num < 0)), .slice p17 (dg (qc).num.natAbs).length c17, .slice q17 (dg (qc).den).length d17] := by simp only [List.map, e17] at b4; exact b4
        clear hF hD
        simp only [e15, e17, e18, e4, e5]
        replace b1 := b1.keep f (by simp)
        replace b2 := b2.keep f (by simp)
        replace ht := ht.kp kp
        replace s8 := s8.kp kp
        replace t8 := t8.kp kp
        replace f8 := f8.kp kp
        replace s12 := s12.kp kp
        replace t12 := t12.kp kp
        replace f12 := f12.kp kp
        replace hw := hw.trans (a := w) (b := W2) (c := W3) f (by simp)
        have hsz3 := f.size
        clear f kp
        have hlt_b4 := b4.lt
        have c_b1_0 := b1.cell (j := 0) rfl
        have c_b1_1 := b1.cell (j := 1) rfl
        have c_b1_2 := b1.cell (j := 2) rfl
        have c_b2_0 := b2.cell (j := 0) rfl
        have c_b2_1 := b2.cell (j := 1) rfl
        have c_b2_2 := b2.cell (j := 2) rfl
        have c_b4_0 := b4.cell (j := 0) rfl
        have c_b4_1 := b4.cell (j := 1) rfl
        have c_b4_2 := b4.cell (j := 2) rfl
        go_upto_region 4 with fail
        clear c_b1_0 c_b1_1 c_b1_2 c_b2_0 c_b2_1 c_b2_2 c_b4_0 c_b4_1 c_b4_2
        refine wp_region_inv (w0 := W3) (by kernel_rfl) [false, true, false, false, false, false, true, true, true, true, true, true, true, true, true, true, true, true, true, true, true, true, true, false, false, false, false, false, false, false, false, false, false, false, false, false, false, false, false, false, false, false, false, false, false, false, false, false, false, false, false, false, false, false] []
          [⟨[20], F1 (fun xx ww => xx = .tuple #[rw' false none 0 0 none 0 0, .int .i64 6]), .pure⟩,
    ⟨[19], F1 (fun xx ww => xx = .tuple #[rw' false none 0 0 none 0 0, .int .i64 6]), .pure⟩,
    ⟨[21], F1 (fun xx _ => xx = rw' false none 0 0 none 0 0), .pure⟩,
    ⟨[22], F1 (fun xx _ => xx = .int .i64 6), .pure⟩,
    ⟨[], F0, .new 26 3⟩,
    ⟨[21], F0, .store 6 26 cellsOf⟩,
    ⟨[7], F1 (fun xx _ => xx = .int .i64 6), .pure⟩]
          [[], [0], [0, 1], [0, 1], [], [0, 1, 2, 4], [0, 1, 2, 3, 4, 5]] ?mk4 ?hmk4 (by kernel_rfl)
          ⟨F1.st (fun _ _ _ k h => by exact h), F1.st (fun _ _ _ k h => by exact h), F1.st (st_eq _), F1.st (st_eq _), F0.st, F0.st, F1.st (st_eq _), trivial⟩ (by simp) (by simp) (n := 7) rfl ⟨⟨⟨⟨⟨⟨⟨trivial, ?s4_0⟩, ?s4_1⟩, ?s4_2⟩, ?s4_3⟩, ?s4_4⟩, ?s4_5⟩, ?s4_6⟩ ?done4
        case hmk4 => intro v; simp only [mkv, mix, Nat.reduceAdd]; rfl
        case s4_0 =>
          refine stepOk_of _ _ rfl rfl ?_
          intro v W4 f kp ho hd K' hK
          go_simp
          refine (parse24 _).mono ?_
          rintro e W' ⟨rfl, ff⟩
          exact hK _ W' ff rfl
        case s4_1 =>
          refine stepOk_of _ _ rfl rfl ?_
          intro v W4 f kp ho hd K' hK
          have f20 : v 20 = .tuple #[rw' false none 0 0 none 0 0, .int .i64 6] := (hd 0 (by decide) _ _ rfl rfl).1
          have e20 := f20
          simp only [e20] at hK ⊢
          go_simp
          exact hK _ _ (Fr.refl [] _) rfl
        case s4_2 =>
          refine stepOk_of _ _ rfl rfl ?_
          intro v W4 f kp ho hd K' hK
          have f19 : v 19 = .tuple #[rw' false none 0 0 none 0 0, .int .i64 6] := (hd 1 (by decide) _ _ rfl rfl).1
          have e19 := f19
          simp only [e19] at hK ⊢
          go_simp
          exact hK _ _ (Fr.refl [] _) rfl
        case s4_3 =>
          refine stepOk_of _ _ rfl rfl ?_
          intro v W4 f kp ho hd K' hK
          have f19 : v 19 = .tuple #[rw' false none 0 0 none 0 0, .int .i64 6] := (hd 1 (by decide) _ _ rfl rfl).1
          have e19 := f19
          simp only [e19] at hK ⊢
          go_simp
          exact hK _ _ (Fr.refl [] _) rfl
        case s4_4 =>
          refine stepOk_of _ _ rfl rfl ?_
          intro v W4 f kp ho hd K' hK
          go_simp
          exact hK _ _ (move_new rfl rfl rfl rfl rfl) trivial
        case s4_5 =>
          refine stepOk_of _ _ rfl rfl ?_
          intro v W4 f kp ho hd K' hK
          obtain ⟨-, A6, e6, -, sb6⟩ := hd 4 (by decide) _ _ rfl rfl
          have e21 : v 21 = rw' false none 0 0 none 0 0 := (hd 2 (by decide) _ _ rfl rfl).1
          obtain ⟨zz0, zz1, zz2, bz⟩ := sb6.open3
          have k0 := bz.cell (j := 0) rfl
          have fr0 := bz.free 0
          have k1 := bz.cell (j := 1) rfl
          have fr1 := bz.free 1
          have k2 := bz.cell (j := 2) rfl
          have fr2 := bz.free 2
          simp only [e6, e21] at hK ⊢
          go_simp
          exact hK undef _ (move_store (cs := #[.bool false, .slice none 0 0, .slice none 0 0]) rfl e6 (by simp only [List.map, e21]; rfl) sb6 rfl rfl ((((Fr.refl _ _).put1 0 _).put1 1 _).put1 2 _) ((((bz.put1 0 _).put1 1 _).put1 2 _))) trivial
        case s4_6 =>
          refine stepOk_of _ _ rfl rfl ?_
          intro v W4 f kp ho hd K' hK
          have e22 : v 22 = .int .i64 6 := (hd 3 (by decide) _ _ rfl rfl).1
          simp only [e22] at hK ⊢
          go_simp
          exact hK _ _ (Fr.refl [] _) rfl
        case done4 =>
          intro v W4 f kp hF hD
          have e21 : v 21 = rw' false none 0 0 none 0 0 := (hF 2 _ _ rfl rfl).1
          have e22 : v 22 = .int .i64 6 := (hF 3 _ _ rfl rfl).1
          obtain ⟨-, A6, e6, g6, -⟩ := hF 4 _ _ rfl rfl
          have e7 : v 7 = .int .i64 6 := (hF 6 _ _ rfl rfl).1
          obtain ⟨-, A', eA, b6⟩ := hF 5 _ _ rfl rfl
          rw [e6] at eA; injection eA with eA; injection eA with eA; injection eA with eA; subst eA
          replace b6 : Bx W4 A6 26 #[.bool false, .slice none 0 0, .slice none 0 0] := by simp only [List.map, e21] at b6; exact b6
          clear hF hD
          simp only [e21, e22, e6, e7]
          replace b1 := b1.keep f (by simp)
          replace b2 := b2.keep f (by simp)
          replace b4 := b4.keep f (by simp)
          replace ht := ht.kp kp
          replace s8 := s8.kp kp
          replace t8 := t8.kp kp
          replace f8 := f8.kp kp
          replace s12 := s12.kp kp
          replace t12 := t12.kp kp
          replace f12 := f12.kp kp
          replace s17 := s17.kp kp
          replace t17 := t17.kp kp
          replace f17 := f17.kp kp
          replace hw := hw.trans (a := w) (b := W3) (c := W4) f (by simp)
          have hsz4 := f.size
          clear f kp
          have hlt_b6 := b6.lt
          have c_b1_0 := b1.cell (j := 0) rfl
          have c_b1_1 := b1.cell (j := 1) rfl
          have c_b1_2 := b1.cell (j := 2) rfl
          have c_b2_0 := b2.cell (j := 0) rfl
          have c_b2_1 := b2.cell (j := 1) rfl
          have c_b2_2 := b2.cell (j := 2) rfl
          have c_b4_0 := b4.cell (j := 0) rfl
          have c_b4_1 := b4.cell (j := 1) rfl
          have c_b4_2 := b4.cell (j := 2) rfl
          have c_b6_0 := b6.cell (j := 0) rfl
          have c_b6_1 := b6.cell (j := 1) rfl
          have c_b6_2 := b6.cell (j := 2) rfl
          go_upto_region 5 with fail
          clear c_b1_0 c_b1_1 c_b1_2 c_b2_0 c_b2_1 c_b2_2 c_b4_0 c_b4_1 c_b4_2 c_b6_0 c_b6_1 c_b6_2
          refine wp_region_inv (w0 := W4) (by kernel_rfl) [true, true, false, false, false, false, true, false, true, true, true, true, true, true, true, true, true, true, true, true, true, true, true, true, true, true, true, true, true, true, true, true, true, true, true, true, true, true, true, true, true, true, true, true, true, true, true, true, true, true, true, true, true, true] []
            [⟨[23], F1 (fun xx _ => xx = .int .i64 0), .pure⟩,
    ⟨[24], F1 (fun xx _ => xx = .bool true), .pure⟩,
    ⟨[25], F1 (fun xx _ => xx = .bool true), .pure⟩,
    ⟨[26], F1 (fun xx _ => xx = .int .i64 0), .pure⟩,
    ⟨[27], F1 (fun xx _ => xx = .bool true), .pure⟩,
    ⟨[28], F1 (fun xx _ => xx = .bool true), .pure⟩,
    ⟨[29], F1 (fun xx _ => xx = .bool true), .pure⟩,
    ⟨[30], F1 (fun xx _ => xx = .int .i64 6), .pure⟩,
    ⟨[31], F1 (fun xx _ => xx = .bool true), .pure⟩,
    ⟨[32], F1 (fun xx _ => xx = .bool true), .pure⟩,
    ⟨[33], F1 (fun xx _ => xx = .bool true), .pure⟩,
    ⟨[34], F1 (fun xx _ => xx = .agg #[.bool (decide ((qb).num < 0)), .slice p12 (dg (qb).num.natAbs).length c12, .slice q12 (dg (qb).den).length d12]), .pure⟩,
    ⟨[35], F1 (fun xx ww => VQ ww qb xx), .pure⟩,
    ⟨[36], F1 (fun xx _ => xx = .bool true), .pure⟩,
    ⟨[37], F1 (fun xx _ => xx = .bool true), .pure⟩,
    ⟨[38], F1 (fun xx _ => xx = .bool true), .pure⟩,
    ⟨[39], F1 (fun xx _ => xx = .agg #[.bool (decide ((qc).num < 0)), .slice p17 (dg (qc).num.natAbs).length c17, .slice q17 (dg (qc).den).length d17]), .pure⟩,
    ⟨[40], F1 (fun xx ww => VQ ww qc xx), .pure⟩,
    ⟨[41], F1 (fun xx _ => xx = .bool true), .pure⟩,
    ⟨[42], F1 (fun xx _ => xx = .bool true), .pure⟩,
    ⟨[43], F1 (fun xx _ => xx = .bool true), .pure⟩,
    ⟨[44], F1 (fun xx ww => VQ ww qd xx), .pure⟩,
    ⟨[45], F1 (fun xx _ => xx = .string { data := #[45, 51, 47, 50] }), .pure⟩,
    ⟨[46], F1 (fun xx _ => xx = .bool true), .pure⟩,
    ⟨[47], F1 (fun xx _ => xx = .bool true), .pure⟩,
    ⟨[48], F1 (fun xx _ => xx = .bool true), .pure⟩,
    ⟨[49], F1 (fun xx ww => VQ ww qe xx), .pure⟩,
    ⟨[50], F1 (fun xx ww => VZ ww (-1) xx), .pure⟩,
    ⟨[51], F1 (fun xx ww => VZ ww (-1) xx), .pure⟩,
    ⟨[52], F1 (fun xx _ => xx = .bool true), .pure⟩,
    ⟨[53], F1 (fun xx _ => xx = .bool true), .pure⟩,
    ⟨[0], F1 (fun xx _ => xx = .bool true), .pure⟩]
            [[], [0], [0, 1], [0, 1, 2], [0, 1, 2, 3], [0, 1, 2, 3, 4], [0, 1, 2, 3, 4, 5], [0, 1, 2, 3, 4, 5, 6], [0, 1, 2, 3, 4, 5, 6, 7], [0, 1, 2, 3, 4, 5, 6, 7, 8], [0, 1, 2, 3, 4, 5, 6, 7, 8, 9], [0, 1, 2, 3, 4, 5, 6, 7, 8, 9, 10], [0, 1, 2, 3, 4, 5, 6, 7, 8, 9, 10], [0, 1, 2, 3, 4, 5, 6, 7, 8, 9, 10, 11, 12], [0, 1, 2, 3, 4, 5, 6, 7, 8, 9, 10, 11, 12, 13], [0, 1, 2, 3, 4, 5, 6, 7, 8, 9, 10, 11, 12, 13, 14], [0, 1, 2, 3, 4, 5, 6, 7, 8, 9, 10, 11, 12, 13, 14, 15], [0, 1, 2, 3, 4, 5, 6, 7, 8, 9, 10, 11, 12, 13, 14, 15], [0, 1, 2, 3, 4, 5, 6, 7, 8, 9, 10, 11, 12, 13, 14, 15, 16, 17], [0, 1, 2, 3, 4, 5, 6, 7, 8, 9, 10, 11, 12, 13, 14, 15, 16, 17, 18], [0, 1, 2, 3, 4, 5, 6, 7, 8, 9, 10, 11, 12, 13, 14, 15, 16, 17, 18, 19], [0, 1, 2, 3, 4, 5, 6, 7, 8, 9, 10, 11, 12, 13, 14, 15, 16, 17, 18, 19, 20], [0, 1, 2, 3, 4, 5, 6, 7, 8, 9, 10, 11, 12, 13, 14, 15, 16, 17, 18, 19, 20, 21], [0, 1, 2, 3, 4, 5, 6, 7, 8, 9, 10, 11, 12, 13, 14, 15, 16, 17, 18, 19, 20, 21, 22], [0, 1, 2, 3, 4, 5, 6, 7, 8, 9, 10, 11, 12, 13, 14, 15, 16, 17, 18, 19, 20, 21, 22, 23], [0, 1, 2, 3, 4, 5, 6, 7, 8, 9, 10, 11, 12, 13, 14, 15, 16, 17, 18, 19, 20, 21, 22, 23, 24], [0, 1, 2, 3, 4, 5, 6, 7, 8, 9, 10, 11, 12, 13, 14, 15, 16, 17, 18, 19, 20, 21, 22, 23, 24, 25], [0, 1, 2, 3, 4, 5, 6, 7, 8, 9, 10, 11, 12, 13, 14, 15, 16, 17, 18, 19, 20, 21, 22, 23, 24, 25, 26], [0, 1, 2, 3, 4, 5, 6, 7, 8, 9, 10, 11, 12, 13, 14, 15, 16, 17, 18, 19, 20, 21, 22, 23, 24, 25, 26, 27], [0, 1, 2, 3, 4, 5, 6, 7, 8, 9, 10, 11, 12, 13, 14, 15, 16, 17, 18, 19, 20, 21, 22, 23, 24, 25, 26, 27, 28], [0, 1, 2, 3, 4, 5, 6, 7, 8, 9, 10, 11, 12, 13, 14, 15, 16, 17, 18, 19, 20, 21, 22, 23, 24, 25, 26, 27, 28, 29], [0, 1, 2, 3, 4, 5, 6, 7, 8, 9, 10, 11, 12, 13, 14, 15, 16, 17, 18, 19, 20, 21, 22, 23, 24, 25, 26, 27, 28, 29, 30]] ?mk5 ?hmk5 (by kernel_rfl)
            ⟨F1.st (st_eq _), F1.st (st_eq _), F1.st (st_eq _), F1.st (st_eq _), F1.st (st_eq _), F1.st (st_eq _), F1.st (st_eq _), F1.st (st_eq _), F1.st (st_eq _), F1.st (st_eq _), F1.st (st_eq _), F1.st (st_eq _), F1.st (fun _ _ _ k h => h.kp k), F1.st (st_eq _), F1.st (st_eq _), F1.st (st_eq _), F1.st (st_eq _), F1.st (fun _ _ _ k h => h.kp k), F1.st (st_eq _), F1.st (st_eq _), F1.st (st_eq _), F1.st (fun _ _ _ k h => h.kp k), F1.st (st_eq _), F1.st (st_eq _), F1.st (st_eq _), F1.st (st_eq _), F1.st (fun _ _ _ k h => h.kp k), F1.st (fun _ _ _ k h => h.kp k), F1.st (fun _ _ _ k h => h.kp k), F1.st (st_eq _), F1.st (st_eq _), F1.st (st_eq _), trivial⟩ (by simp) (by simp) (n := 32) rfl ⟨⟨⟨⟨⟨⟨⟨⟨⟨⟨⟨⟨⟨⟨⟨⟨⟨⟨⟨⟨⟨⟨⟨⟨⟨⟨⟨⟨⟨⟨⟨⟨trivial, ?s5_0⟩, ?s5_1⟩, ?s5_2⟩, ?s5_3⟩, ?s5_4⟩, ?s5_5⟩, ?s5_6⟩, ?s5_7⟩, ?s5_8⟩, ?s5_9⟩, ?s5_10⟩, ?s5_11⟩, ?s5_12⟩, ?s5_13⟩, ?s5_14⟩, ?s5_15⟩, ?s5_16⟩, ?s5_17⟩, ?s5_18⟩, ?s5_19⟩, ?s5_20⟩, ?s5_21⟩, ?s5_22⟩, ?s5_23⟩, ?s5_24⟩, ?s5_25⟩, ?s5_26⟩, ?s5_27⟩, ?s5_28⟩, ?s5_29⟩, ?s5_30⟩, ?s5_31⟩ ?done5
          case hmk5 => intro v; simp only [mkv, mix, Nat.reduceAdd]; rfl
          case s5_0 =>
            refine stepOk_of _ _ rfl rfl ?_
            intro v W5 f kp ho hd K' hK
            go_simp
            exact hK _ _ (Fr.refl [] _) rfl
          case s5_1 =>
            refine stepOk_of _ _ rfl rfl ?_
            intro v W5 f kp ho hd K' hK
            have e23 : v 23 = .int .i64 0 := (hd 0 (by decide) _ _ rfl rfl).1
            simp only [e23] at hK ⊢
            go_simp
            exact hK _ _ (Fr.refl [] _) rfl
          case s5_2 =>
            refine stepOk_of _ _ rfl rfl ?_
            intro v W5 f kp ho hd K' hK
            have e24 : v 24 = .bool true := (hd 1 (by decide) _ _ rfl rfl).1
            simp only [e24] at hK ⊢
            go_simp
            exact hK _ _ (Fr.refl [] _) rfl
          case s5_3 =>
            refine stepOk_of _ _ rfl rfl ?_
            intro v W5 f kp ho hd K' hK
            have e25 : v 25 = .bool true := (hd 2 (by decide) _ _ rfl rfl).1
            simp only [e25] at hK ⊢
            go_simp
            exact hK _ _ (Fr.refl [] _) rfl
          case s5_4 =>
            refine stepOk_of _ _ rfl rfl ?_
            intro v W5 f kp ho hd K' hK
            have e26 : v 26 = .int .i64 0 := (hd 3 (by decide) _ _ rfl rfl).1
            have e25 : v 25 = .bool true := (hd 2 (by decide) _ _ rfl rfl).1
            simp only [e26, e25] at hK ⊢
            go_simp
            exact hK _ _ (Fr.refl [] _) rfl
          case s5_5 =>
            refine stepOk_of _ _ rfl rfl ?_
            intro v W5 f kp ho hd K' hK
            have e25 : v 25 = .bool true := (hd 2 (by decide) _ _ rfl rfl).1
            have e27 : v 27 = .bool true := (hd 4 (by decide) _ _ rfl rfl).1
            simp only [e25, e27] at hK ⊢
            go_simp
            exact hK _ _ (Fr.refl [] _) rfl
          case s5_6 =>
            refine stepOk_of _ _ rfl rfl ?_
            intro v W5 f kp ho hd K' hK
            have e28 : v 28 = .bool true := (hd 5 (by decide) _ _ rfl rfl).1
            simp only [e28] at hK ⊢
            go_simp
            exact hK _ _ (Fr.refl [] _) rfl
          case s5_7 =>
            refine stepOk_of _ _ rfl rfl ?_
            intro v W5 f kp ho hd K' hK
            have e29 : v 29 = .bool true := (hd 6 (by decide) _ _ rfl rfl).1
            simp only [e29] at hK ⊢
            go_simp
            exact hK _ _ (Fr.refl [] _) rfl
          case s5_8 =>
            refine stepOk_of _ _ rfl rfl ?_
            intro v W5 f kp ho hd K' hK
            have e30 : v 30 = .int .i64 6 := (hd 7 (by decide) _ _ rfl rfl).1
            have e29 : v 29 = .bool true := (hd 6 (by decide) _ _ rfl rfl).1
            simp only [e30, e29] at hK ⊢
            go_simp
            exact hK _ _ (Fr.refl [] _) rfl
          case s5_9 =>
            refine stepOk_of _ _ rfl rfl ?_
            intro v W5 f kp ho hd K' hK
            have e29 : v 29 = .bool true := (hd 6 (by decide) _ _ rfl rfl).1
            have e31 : v 31 = .bool true := (hd 8 (by decide) _ _ rfl rfl).1
            simp only [e29, e31] at hK ⊢
            go_simp
            exact hK _ _ (Fr.refl [] _) rfl
          case s5_10 =>
            refine stepOk_of _ _ rfl rfl ?_
            intro v W5 f kp ho hd K' hK
            have e32 : v 32 = .bool true := (hd 9 (by decide) _ _ rfl rfl).1
            simp only [e32] at hK ⊢
            go_simp
            exact hK _ _ (Fr.refl [] _) rfl
          case s5_11 =>
            refine stepOk_of _ _ rfl rfl ?_
            intro v W5 f kp ho hd K' hK
            have e33 : v 33 = .bool true := (hd 10 (by decide) _ _ rfl rfl).1
            have k0 := (b2.keep f (by simp)).cell (j := 0) rfl
            have k1 := (b2.keep f (by simp)).cell (j := 1) rfl
            have k2 := (b2.keep f (by simp)).cell (j := 2) rfl
            simp only [e33] at hK ⊢
            go_simp
            exact hK _ _ (Fr.refl [] _) rfl
          case s5_12 =>
            refine stepOk_of _ _ rfl rfl ?_
            intro v W5 f kp ho hd K' hK
            have e33 : v 33 = .bool true := (hd 10 (by decide) _ _ rfl rfl).1
            simp only [e33] at hK ⊢
            go_simp
            refine (rfrac_e 1 4 Hhqb.out (by decide) (by decide) (by decide) (by decide) (by decide) (by decide)).mono ?_
            rintro e W' ⟨x, rfl, hx, ff⟩
            exact hK x W' ff hx
          case s5_13 =>
            refine stepOk_of _ _ rfl rfl ?_
            intro v W5 f kp ho hd K' hK
            have e34 : v 34 = .agg #[.bool (decide ((qb).num < 0)), .slice p12 (dg (qb).num.natAbs).length c12, .slice q12 (dg (qb).den).length d12] := (hd 11 (by decide) _ _ rfl rfl).1
            have f35 : VQ W5 qb (v 35) := (hd 12 (by decide) _ _ rfl rfl).1
            have e33 : v 33 = .bool true := (hd 10 (by decide) _ _ rfl rfl).1
            simp only [e34, e33] at hK ⊢
            go_simp
            refine (same_q (f12.kp kp) f35).mono ?_
            rintro e W' ⟨rfl, ff⟩
            exact hK _ W' ff rfl
          case s5_14 =>
            refine stepOk_of _ _ rfl rfl ?_
            intro v W5 f kp ho hd K' hK
            have e33 : v 33 = .bool true := (hd 10 (by decide) _ _ rfl rfl).1
            have e36 : v 36 = .bool true := (hd 13 (by decide) _ _ rfl rfl).1
            simp only [e33, e36] at hK ⊢
            go_simp
            exact hK _ _ (Fr.refl [] _) rfl
          case s5_15 =>
            refine stepOk_of _ _ rfl rfl ?_
            intro v W5 f kp ho hd K' hK
            have e37 : v 37 = .bool true := (hd 14 (by decide) _ _ rfl rfl).1
            simp only [e37] at hK ⊢
            go_simp
            exact hK _ _ (Fr.refl [] _) rfl
          case s5_16 =>
            refine stepOk_of _ _ rfl rfl ?_
            intro v W5 f kp ho hd K' hK
            have e38 : v 38 = .bool true := (hd 15 (by decide) _ _ rfl rfl).1
            have k0 := (b4.keep f (by simp)).cell (j := 0) rfl
            have k1 := (b4.keep f (by simp)).cell (j := 1) rfl
            have k2 := (b4.keep f (by simp)).cell (j := 2) rfl
            simp only [e38] at hK ⊢
            go_simp
            exact hK _ _ (Fr.refl [] _) rfl
          case s5_17 =>
            refine stepOk_of _ _ rfl rfl ?_
            intro v W5 f kp ho hd K' hK
            have e38 : v 38 = .bool true := (hd 15 (by decide) _ _ rfl rfl).1
            simp only [e38] at hK ⊢
            go_simp
            refine (rfrac_e 1 2 Hhqc.out (by decide) (by decide) (by decide) (by decide) (by decide) (by decide)).mono ?_
            rintro e W' ⟨x, rfl, hx, ff⟩
            exact hK x W' ff hx
          case s5_18 =>
            refine stepOk_of _ _ rfl rfl ?_
            intro v W5 f kp ho hd K' hK
            have e39 : v 39 = .agg #[.bool (decide ((qc).num < 0)), .slice p17 (dg (qc).num.natAbs).length c17, .slice q17 (dg (qc).den).length d17] := (hd 16 (by decide) _ _ rfl rfl).1
            have f40 : VQ W5 qc (v 40) := (hd 17 (by decide) _ _ rfl rfl).1
            have e38 : v 38 = .bool true := (hd 15 (by decide) _ _ rfl rfl).1
            simp only [e39, e38] at hK ⊢
            go_simp
            refine (same_q (f17.kp kp) f40).mono ?_
            rintro e W' ⟨rfl, ff⟩
            exact hK _ W' ff rfl
          case s5_19 =>
            refine stepOk_of _ _ rfl rfl ?_
            intro v W5 f kp ho hd K' hK
            have e38 : v 38 = .bool true := (hd 15 (by decide) _ _ rfl rfl).1
            have e41 : v 41 = .bool true := (hd 18 (by decide) _ _ rfl rfl).1
            simp only [e38, e41] at hK ⊢
            go_simp
            exact hK _ _ (Fr.refl [] _) rfl
          case s5_20 =>
            refine stepOk_of _ _ rfl rfl ?_
            intro v W5 f kp ho hd K' hK
            have e42 : v 42 = .bool true := (hd 19 (by decide) _ _ rfl rfl).1
            simp only [e42] at hK ⊢
            go_simp
            exact hK _ _ (Fr.refl [] _) rfl
          case s5_21 =>
            refine stepOk_of _ _ rfl rfl ?_
            intro v W5 f kp ho hd K' hK
            have e43 : v 43 = .bool true := (hd 20 (by decide) _ _ rfl rfl).1
            simp only [e43] at hK ⊢
            go_simp
            refine (frac_e 6 (-4) Hhqd.out (ht.kp kp) (by decide) (by decide) (by decide) (by decide)).mono ?_
            rintro e W' ⟨x, rfl, hx, ff⟩
            exact hK x W' ff hx
          case s5_22 =>
            refine stepOk_of _ _ rfl rfl ?_
            intro v W5 f kp ho hd K' hK
            have f44 : VQ W5 qd (v 44) := (hd 21 (by decide) _ _ rfl rfl).1
            have e43 : v 43 = .bool true := (hd 20 (by decide) _ _ rfl rfl).1
            simp only [e43] at hK ⊢
            go_simp
            refine (qformat_e Hhfm.out (ht.kp kp) (f44.raw lqd) (by omega) Hhdn1.out Hhdn2.out Hhdn3.out).mono ?_
            rintro e W' ⟨rfl, ff⟩
            exact hK _ W' ff rfl
          case s5_23 =>
            refine stepOk_of _ _ rfl rfl ?_
            intro v W5 f kp ho hd K' hK
            have e45 : v 45 = .string { data := #[45, 51, 47, 50] } := (hd 22 (by decide) _ _ rfl rfl).1
            have e43 : v 43 = .bool true := (hd 20 (by decide) _ _ rfl rfl).1
            simp only [e45, e43] at hK ⊢
            go_simp
            exact hK _ _ (Fr.refl [] _) rfl
          case s5_24 =>
            refine stepOk_of _ _ rfl rfl ?_
            intro v W5 f kp ho hd K' hK
            have e43 : v 43 = .bool true := (hd 20 (by decide) _ _ rfl rfl).1
            have e46 : v 46 = .bool true := (hd 23 (by decide) _ _ rfl rfl).1
            simp only [e43, e46] at hK ⊢
            go_simp
            exact hK _ _ (Fr.refl [] _) rfl
          case s5_25 =>
            refine stepOk_of _ _ rfl rfl ?_
            intro v W5 f kp ho hd K' hK
            have e47 : v 47 = .bool true := (hd 24 (by decide) _ _ rfl rfl).1
            simp only [e47] at hK ⊢
            go_simp
            exact hK _ _ (Fr.refl [] _) rfl
          case s5_26 =>
            refine stepOk_of _ _ rfl rfl ?_
            intro v W5 f kp ho hd K' hK
            have e48 : v 48 = .bool true := (hd 25 (by decide) _ _ rfl rfl).1
            simp only [e48] at hK ⊢
            go_simp
            refine (frac_e (-1) 2 Hhqe.out (ht.kp kp) (by decide) (by decide) (by decide) (by decide)).mono ?_
            rintro e W' ⟨x, rfl, hx, ff⟩
            exact hK x W' ff hx
          case s5_27 =>
            refine stepOk_of _ _ rfl rfl ?_
            intro v W5 f kp ho hd K' hK
            have f49 : VQ W5 qe (v 49) := (hd 26 (by decide) _ _ rfl rfl).1
            have e48 : v 48 = .bool true := (hd 25 (by decide) _ _ rfl rfl).1
            simp only [e48] at hK ⊢
            go_simp
            refine (floor_e Hhfl.out (f49.raw lqe) (by omega)).mono ?_
            rintro e W' ⟨x, rfl, hx, ff⟩
            exact hK x W' ff hx
          case s5_28 =>
            refine stepOk_of _ _ rfl rfl ?_
            intro v W5 f kp ho hd K' hK
            have e48 : v 48 = .bool true := (hd 25 (by decide) _ _ rfl rfl).1
            simp only [e48] at hK ⊢
            go_simp
            refine (riof_v (-1) _ (by decide) (by decide)).mono ?_
            rintro e W' ⟨x, rfl, hx, ff⟩
            exact hK x W' ff hx
          case s5_29 =>
            refine stepOk_of _ _ rfl rfl ?_
            intro v W5 f kp ho hd K' hK
            have f50 : VZ W5 (-1) (v 50) := (hd 27 (by decide) _ _ rfl rfl).1
            have f51 : VZ W5 (-1) (v 51) := (hd 28 (by decide) _ _ rfl rfl).1
            have e48 : v 48 = .bool true := (hd 25 (by decide) _ _ rfl rfl).1
            simp only [e48] at hK ⊢
            go_simp
            refine (isame_v f50 f51).mono ?_
            rintro e W' ⟨rfl, ff⟩
            exact hK _ W' ff rfl
          case s5_30 =>
            refine stepOk_of _ _ rfl rfl ?_
            intro v W5 f kp ho hd K' hK
            have e48 : v 48 = .bool true := (hd 25 (by decide) _ _ rfl rfl).1
            have e52 : v 52 = .bool true := (hd 29 (by decide) _ _ rfl rfl).1
            simp only [e48, e52] at hK ⊢
            go_simp
            exact hK _ _ (Fr.refl [] _) rfl
          case s5_31 =>
            refine stepOk_of _ _ rfl rfl ?_
            intro v W5 f kp ho hd K' hK
            have e53 : v 53 = .bool true := (hd 30 (by decide) _ _ rfl rfl).1
            simp only [e53] at hK ⊢
            go_simp
            exact hK _ _ (Fr.refl [] _) rfl
          case done5 =>
            intro v W5 f kp hF hD
            have e23 : v 23 = .int .i64 0 := (hF 0 _ _ rfl rfl).1
            have e24 : v 24 = .bool true := (hF 1 _ _ rfl rfl).1
            have e25 : v 25 = .bool true := (hF 2 _ _ rfl rfl).1
            have e26 : v 26 = .int .i64 0 := (hF 3 _ _ rfl rfl).1
            have e27 : v 27 = .bool true := (hF 4 _ _ rfl rfl).1
            have e28 : v 28 = .bool true := (hF 5 _ _ rfl rfl).1
            have e29 : v 29 = .bool true := (hF 6 _ _ rfl rfl).1
            have e30 : v 30 = .int .i64 6 := (hF 7 _ _ rfl rfl).1
            have e31 : v 31 = .bool true := (hF 8 _ _ rfl rfl).1
            have e32 : v 32 = .bool true := (hF 9 _ _ rfl rfl).1
            have e33 : v 33 = .bool true := (hF 10 _ _ rfl rfl).1
            have e34 : v 34 = .agg #[.bool (decide ((qb).num < 0)), .slice p12 (dg (qb).num.natAbs).length c12, .slice q12 (dg (qb).den).length d12] := (hF 11 _ _ rfl rfl).1
            have f35 : VQ W5 qb (v 35) := (hF 12 _ _ rfl rfl).1
            have e36 : v 36 = .bool true := (hF 13 _ _ rfl rfl).1
            have e37 : v 37 = .bool true := (hF 14 _ _ rfl rfl).1
            have e38 : v 38 = .bool true := (hF 15 _ _ rfl rfl).1
            have e39 : v 39 = .agg #[.bool (decide ((qc).num < 0)), .slice p17 (dg (qc).num.natAbs).length c17, .slice q17 (dg (qc).den).length d17] := (hF 16 _ _ rfl rfl).1
            have f40 : VQ W5 qc (v 40) := (hF 17 _ _ rfl rfl).1
            have e41 : v 41 = .bool true := (hF 18 _ _ rfl rfl).1
            have e42 : v 42 = .bool true := (hF 19 _ _ rfl rfl).1
            have e43 : v 43 = .bool true := (hF 20 _ _ rfl rfl).1
            have f44 : VQ W5 qd (v 44) := (hF 21 _ _ rfl rfl).1
            have e45 : v 45 = .string { data := #[45, 51, 47, 50] } := (hF 22 _ _ rfl rfl).1
            have e46 : v 46 = .bool true := (hF 23 _ _ rfl rfl).1
            have e47 : v 47 = .bool true := (hF 24 _ _ rfl rfl).1
            have e48 : v 48 = .bool true := (hF 25 _ _ rfl rfl).1
            have f49 : VQ W5 qe (v 49) := (hF 26 _ _ rfl rfl).1
            have f50 : VZ W5 (-1) (v 50) := (hF 27 _ _ rfl rfl).1
            have f51 : VZ W5 (-1) (v 51) := (hF 28 _ _ rfl rfl).1
            have e52 : v 52 = .bool true := (hF 29 _ _ rfl rfl).1
            have e53 : v 53 = .bool true := (hF 30 _ _ rfl rfl).1
            have e0 : v 0 = .bool true := (hF 31 _ _ rfl rfl).1
            clear hF hD
            simp only [e23, e24, e25, e26, e27, e28, e29, e30, e31, e32, e33, e34, e36, e37, e38, e39, e41, e42, e43, e45, e46, e47, e48, e52, e53, e0]
            replace b1 := b1.keep f (by simp)
            replace b2 := b2.keep f (by simp)
            replace b4 := b4.keep f (by simp)
            replace b6 := b6.keep f (by simp)
            replace ht := ht.kp kp
            replace s8 := s8.kp kp
            replace t8 := t8.kp kp
            replace f8 := f8.kp kp
            replace s12 := s12.kp kp
            replace t12 := t12.kp kp
            replace f12 := f12.kp kp
            replace s17 := s17.kp kp
            replace t17 := t17.kp kp
            replace f17 := f17.kp kp
            replace hw := hw.trans (a := w) (b := W4) (c := W5) f (by simp)
            have hsz5 := f.size
            clear f kp
            go_wp2_with fail
            exact bodyPost_ret (v := .bool true) (by simp [results, Tryz.results15, go_sem]) rfl ⟨rfl, hw⟩

end Go.Proofs.YtjjdbhohjphcoaaGreatDoor
