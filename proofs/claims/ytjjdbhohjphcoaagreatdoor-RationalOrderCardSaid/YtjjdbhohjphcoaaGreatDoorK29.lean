/- What the statements of this claim stand on: of Rat12, what they name -/
import Derived.Test.YtjjdbhohjphcoaaGreatDoorK27

namespace Go.Proofs.YtjjdbhohjphcoaaGreatDoor
open Go.RowKit

theorem idiv_e {w : World} {L M : Nat} {a b q : Int} {u u' : Value} (hq : a / b = q) (h : VI w L a u) (h' : VI w M b u') (hL : L ≤ 1048575) (hM : M ≤ 1048575) (hb : b ≠ 0) : Calls Tryz.prog 174 #[u, u'] w fun e w' => ∃ x y, e = .returned (.tuple #[x, y, .int .i64 0]) ∧ VZ w' q x ∧ VZ w' (a % b) y ∧ Fr [] w w' := hq ▸ idiv_v h h' hL hM hb

theorem vz_nat {w : World} {k : Nat} {p : Option Addr} {c : Nat} (s : Sl w p (dg k).length c (dg k)) : VZ w (k : Int) (iw false p (dg k).length c) := by
  refine ⟨p, c, ?_, ?_⟩
  · rw [Int.natAbs_natCast, decide_eq_false (by omega)]
  · rw [Int.natAbs_natCast]; exact s

theorem pow2_v {w : World} {n : Nat} {k : Nat} (hk : 2 ^ n = k) (hn : n ≤ 65536) : Calls Tryz.prog 176 #[.int .i64 (n : Int)] w (RV (fun w' => VZ w' (k : Int)) w) := by
  subst hk
  refine (pow2_any n w hn).mono ?_
  rintro e w' ⟨q, d, rfl, o, f⟩
  exact ⟨_, rfl, vz_nat o.sl, f⟩

theorem nz_floor (a : Int) (d : Nat) : nz (a / (d : Int)) ≤ nz a := by
  unfold nz
  exact dg_len_mono (Int.natAbs_ediv_le_natAbs _ _)

theorem nz_pow2 {n : Nat} (_h : n ≤ 257) : nz ((2 ^ n : Nat) : Int) ≤ 9 := by
  rw [nz_nat]
  exact dg_pow_len (by omega)

def downQ (r : Rat) (k : Nat) : Rat := mkRat (r * mkRat (2 ^ k : Nat) 1).floor (2 ^ k)

def upQ (r : Rat) (k : Nat) : Rat := -downQ (-r) k

theorem mk_scale (z : Int) (d P : Nat) : mkRat z d * mkRat (P : Int) 1 = mkRat (z * P) d := by
  rw [Rat.mkRat_mul_mkRat, Nat.mul_one]

set_option maxRecDepth 100000 in
set_option maxHeartbeats 1000000 in
theorem ffloor_v {w : World} {L : Nat} {r : Rat} {va : Value} (h1 : VF w L r va) (_hL : L ≤ 1048575) : Calls Tryz.prog 132 #[va] w (RV (fun w' => VZ w' r.floor) w) := by
  obtain ⟨fl, hfl⟩ : ∃ z, r.floor = z := ⟨_, rfl⟩
  rw [hfl]
  have o_h1 := h1
  obtain ⟨ga, pa, na, ca, Xa, qa, ma, da, Ya, rfl, -, -, -, -, -, -⟩ := o_h1
  go_enter Tryz.func132, Tryz.ntmps132
  go_upto_region 1 with fail
  have hw : Fr [] w ((w.alloc (Obj.cells #[.bool ga, .slice pa na ca, .bool false, .slice qa ma da] 75)).alloc (Obj.cells #[.bool false, .slice none 0 0] 24)) := ((Fr.refl _ _).alloc _).alloc _
  have b1 : Bx ((w.alloc (Obj.cells #[.bool ga, .slice pa na ca, .bool false, .slice qa ma da] 75)).alloc (Obj.cells #[.bool false, .slice none 0 0] 24)) w.heap.size 75 #[.bool ga, .slice pa na ca, .bool false, .slice qa ma da] := (Bx.made' (by simp) _ _).kept ((Fr.refl _ _).alloc _)
  have b2 : Bx ((w.alloc (Obj.cells #[.bool ga, .slice pa na ca, .bool false, .slice qa ma da] 75)).alloc (Obj.cells #[.bool false, .slice none 0 0] 24)) (w.heap.size + 1) 24 #[.bool false, .slice none 0 0] := (Bx.made' (by simp) _ _).kept (Fr.refl _ _)
  generalize ((w.alloc (Obj.cells #[.bool ga, .slice pa na ca, .bool false, .slice qa ma da] 75)).alloc (Obj.cells #[.bool false, .slice none 0 0] 24)) = W at *
  have hbs := b2.lt
  replace h1 := h1.kept hw
  obtain ⟨Xa, Ya, sa, ta, za, ya, la, lma⟩ : ∃ Xa Ya, Sl W pa na ca Xa ∧ Sl W qa ma da Ya ∧ mkRat (iv ga (val Xa)) (val Ya) = r ∧ val Ya ≠ 0 ∧ na ≤ L ∧ ma ≤ L := by
    obtain ⟨_, _, _, _, X, _, _, _, Y, e, s, t, z, y, l, lm⟩ := h1
    cases e; exact ⟨X, Y, s, t, z, y, l, lm⟩
  have ia : VI W (L) (iv ga (val Xa)) (iw ga pa na ca) := ⟨_, _, _, _, _, rfl, sa, rfl, la⟩
  have ja : VI W (L) ((val Ya : Nat) : Int) (iw false qa ma da) := ⟨_, _, _, _, _, rfl, ta, rfl, lma⟩
  have hq : iv ga (val Xa) / ((val Ya : Nat) : Int) = fl := by rw [← hfl, ← za]; exact (floor_mk _ ya).symm
  have hY : ((val Ya : Nat) : Int) ≠ 0 := by omega
  have Hhq := Lib.hid hq; clear hq
  have HhY := Lib.hid hY; clear hY
  have Hhfl := Lib.hid hfl; clear hfl
  clear za ya
  refine wp_region_inv (w0 := W) (by kernel_rfl) [true, false, false, true, true, true, true, true, true, true, true, true, true, true, true, false] []
    [⟨[7], F1 (fun x _ => x = .pointer (some ⟨w.heap.size, 0, none⟩)), .pure⟩,
    ⟨[8], F1 (fun x _ => x = .agg #[.bool ga, .slice pa na ca]), .pure⟩,
    ⟨[9], F1 (fun x _ => x = .pointer (some ⟨w.heap.size, 2, none⟩)), .pure⟩,
    ⟨[10], F1 (fun x _ => x = .agg #[.bool false, .slice qa ma da]), .pure⟩,
    ⟨[11], F1 (fun x w => ∃ y0 y1, x = .tuple #[y0, y1, .int .i64 0] ∧ VZ w fl y0 ∧ VZ w (iv ga (val Xa) % ((val Ya : Nat) : Int)) y1), .pure⟩,
    ⟨[6], F1 (fun x w => ∃ y0 y1, x = .tuple #[y0, y1, .int .i64 0] ∧ VZ w fl y0 ∧ VZ w (iv ga (val Xa) % ((val Ya : Nat) : Int)) y1), .pure⟩,
    ⟨[12], F1 (fun x w => VZ w fl x), .pure⟩,
    ⟨[13], F1 (fun x w => VZ w (iv ga (val Xa) % ((val Ya : Nat) : Int)) x), .pure⟩,
    ⟨[14], F1 (fun x _ => x = .int .i64 0), .pure⟩,
    ⟨[], F0, .new 24 2⟩,
    ⟨[], F0, .new 24 2⟩,
    ⟨[12], F0, .store 3 24 cellsOf⟩,
    ⟨[13], F0, .store 4 24 cellsOf⟩,
    ⟨[5], F1 (fun x _ => x = .int .i64 0), .pure⟩]
    [[], [0], [], [2], [0, 1, 2, 3], [0, 1, 2, 3, 4], [0, 1, 2, 3, 4, 5], [0, 1, 2, 3, 4, 5], [0, 1, 2, 3, 4, 5], [], [], [0, 1, 2, 3, 4, 5, 6, 9, 10], [0, 1, 2, 3, 4, 5, 6, 7, 9, 10, 11], [0, 1, 2, 3, 4, 5, 6, 7, 8, 9, 10, 11, 12]] ?mk1 ?hmk1 (by kernel_rfl)
    ⟨F1.st (st_eq _), F1.st (st_eq _), F1.st (st_eq _), F1.st (st_eq _), F1.st (fun _ _ _ k h => by obtain ⟨y0, y1, e, h0, h1⟩ := h; exact ⟨y0, y1, e, h0.kp k, h1.kp k⟩), F1.st (fun _ _ _ k h => by obtain ⟨y0, y1, e, h0, h1⟩ := h; exact ⟨y0, y1, e, h0.kp k, h1.kp k⟩), F1.st (fun _ _ _ k h => h.kp k), F1.st (fun _ _ _ k h => h.kp k), F1.st (st_eq _), F0.st, F0.st, F0.st, F0.st, F1.st (st_eq _), trivial⟩ (by simp) (by simp) (n := 14) rfl ⟨⟨⟨⟨⟨⟨⟨⟨⟨⟨⟨⟨⟨⟨trivial, ?s1_0⟩, ?s1_1⟩, ?s1_2⟩, ?s1_3⟩, ?s1_4⟩, ?s1_5⟩, ?s1_6⟩, ?s1_7⟩, ?s1_8⟩, ?s1_9⟩, ?s1_10⟩, ?s1_11⟩, ?s1_12⟩, ?s1_13⟩ ?done1
  case hmk1 => intro v; simp only [mkv, mix, Nat.reduceAdd]; rfl
  case s1_0 =>
    refine stepOk_of _ _ rfl rfl ?_
    intro v W1 f kp ho hd K' hK
    go_simp
    exact hK _ _ (Fr.refl [] _) rfl
  case s1_1 =>
    refine stepOk_of _ _ rfl rfl ?_
    intro v W1 f kp ho hd K' hK
    have e7 : v 7 = .pointer (some ⟨w.heap.size, 0, none⟩) := (hd 0 (by decide) _ _ rfl rfl).1
    have k0 := (b1.keep f (by simp)).cell (j := 0) rfl
    have k1 := (b1.keep f (by simp)).cell (j := 1) rfl
    simp only [e7] at hK ⊢
    go_simp
    exact hK _ _ (Fr.refl [] _) rfl
  case s1_2 =>
    refine stepOk_of _ _ rfl rfl ?_
    intro v W1 f kp ho hd K' hK
    go_simp
    exact hK _ _ (Fr.refl [] _) rfl
  case s1_3 =>
    refine stepOk_of _ _ rfl rfl ?_
    intro v W1 f kp ho hd K' hK
    have e9 : v 9 = .pointer (some ⟨w.heap.size, 2, none⟩) := (hd 2 (by decide) _ _ rfl rfl).1
    have k0 := (b1.keep f (by simp)).cell (j := 2) rfl
    have k1 := (b1.keep f (by simp)).cell (j := 3) rfl
    simp only [e9] at hK ⊢
    go_simp
    exact hK _ _ (Fr.refl [] _) rfl
  case s1_4 =>
    refine stepOk_of _ _ rfl rfl ?_
    intro v W1 f kp ho hd K' hK
    have e8 : v 8 = .agg #[.bool ga, .slice pa na ca] := (hd 1 (by decide) _ _ rfl rfl).1
    have e10 : v 10 = .agg #[.bool false, .slice qa ma da] := (hd 3 (by decide) _ _ rfl rfl).1
    simp only [e8, e10] at hK ⊢
    go_simp
    refine (idiv_e Hhq.out (ia.kp kp) (ja.kp kp) (by omega) (by omega) HhY.out).mono ?_
    rintro e W' ⟨x0, x1, rfl, y0, y1, ff⟩
    exact hK _ W' ff ⟨_, _, rfl, y0, y1⟩
  case s1_5 =>
    refine stepOk_of _ _ rfl rfl ?_
    intro v W1 f kp ho hd K' hK
    have f11 : ∃ y0 y1, v 11 = .tuple #[y0, y1, .int .i64 0] ∧ VZ W1 fl y0 ∧ VZ W1 (iv ga (val Xa) % ((val Ya : Nat) : Int)) y1 := (hd 4 (by decide) _ _ rfl rfl).1
    obtain ⟨a11_0, a11_1, e11, h11_0, h11_1⟩ := f11
    simp only [e11] at hK ⊢
    go_simp
    exact hK _ _ (Fr.refl [] _) ⟨_, _, rfl, h11_0, h11_1⟩
  case s1_6 =>
    refine stepOk_of _ _ rfl rfl ?_
    intro v W1 f kp ho hd K' hK
    have f6 : ∃ y0 y1, v 6 = .tuple #[y0, y1, .int .i64 0] ∧ VZ W1 fl y0 ∧ VZ W1 (iv ga (val Xa) % ((val Ya : Nat) : Int)) y1 := (hd 5 (by decide) _ _ rfl rfl).1
    obtain ⟨a6_0, a6_1, e6, h6_0, h6_1⟩ := f6
    simp only [e6] at hK ⊢
    go_simp
    exact hK _ _ (Fr.refl [] _) h6_0
  case s1_7 =>
    refine stepOk_of _ _ rfl rfl ?_
    intro v W1 f kp ho hd K' hK
    have f6 : ∃ y0 y1, v 6 = .tuple #[y0, y1, .int .i64 0] ∧ VZ W1 fl y0 ∧ VZ W1 (iv ga (val Xa) % ((val Ya : Nat) : Int)) y1 := (hd 5 (by decide) _ _ rfl rfl).1
    obtain ⟨a6_0, a6_1, e6, h6_0, h6_1⟩ := f6
    simp only [e6] at hK ⊢
    go_simp
    exact hK _ _ (Fr.refl [] _) h6_1
  case s1_8 =>
    refine stepOk_of _ _ rfl rfl ?_
    intro v W1 f kp ho hd K' hK
    have f6 : ∃ y0 y1, v 6 = .tuple #[y0, y1, .int .i64 0] ∧ VZ W1 fl y0 ∧ VZ W1 (iv ga (val Xa) % ((val Ya : Nat) : Int)) y1 := (hd 5 (by decide) _ _ rfl rfl).1
    obtain ⟨a6_0, a6_1, e6, h6_0, h6_1⟩ := f6
    simp only [e6] at hK ⊢
    go_simp
    exact hK _ _ (Fr.refl [] _) rfl
  case s1_9 =>
    refine stepOk_of _ _ rfl rfl ?_
    intro v W1 f kp ho hd K' hK
    go_simp
    exact hK _ _ (move_new rfl rfl rfl rfl rfl) trivial
  case s1_10 =>
    refine stepOk_of _ _ rfl rfl ?_
    intro v W1 f kp ho hd K' hK
    go_simp
    exact hK _ _ (move_new rfl rfl rfl rfl rfl) trivial
  case s1_11 =>
    refine stepOk_of _ _ rfl rfl ?_
    intro v W1 f kp ho hd K' hK
    obtain ⟨-, A3, e3, -, sb3⟩ := hd 9 (by decide) _ _ rfl rfl
    have f12 : VZ W1 fl (v 12) := (hd 6 (by decide) _ _ rfl rfl).1
    have o12 := f12
    obtain ⟨p12, c12, e12, s12⟩ := o12
    obtain ⟨zz0, zz1, bz⟩ := sb3.open2
    have k0 := bz.cell (j := 0) rfl
    have fr0 := bz.free 0
    have k1 := bz.cell (j := 1) rfl
    have fr1 := bz.free 1
    simp only [e3, e12] at hK ⊢
    go_simp
    exact hK undef _ (move_store (cs := #[.bool (decide (fl < 0)), .slice p12 (dg (fl).natAbs).length c12]) rfl e3 (by simp only [List.map, e12]; rfl) sb3 rfl rfl (((Fr.refl _ _).put1 0 _).put1 1 _) (((bz.put1 0 _).put1 1 _))) trivial
  case s1_12 =>
    refine stepOk_of _ _ rfl rfl ?_
    intro v W1 f kp ho hd K' hK
    obtain ⟨-, A4, e4, -, sb4⟩ := hd 10 (by decide) _ _ rfl rfl
    have f13 : VZ W1 (iv ga (val Xa) % ((val Ya : Nat) : Int)) (v 13) := (hd 7 (by decide) _ _ rfl rfl).1
    have o13 := f13
    obtain ⟨p13, c13, e13, s13⟩ := o13
    obtain ⟨zz0, zz1, bz⟩ := sb4.open2
    have k0 := bz.cell (j := 0) rfl
    have fr0 := bz.free 0
    have k1 := bz.cell (j := 1) rfl
    have fr1 := bz.free 1
    simp only [e4, e13] at hK ⊢
    go_simp
    exact hK undef _ (move_store (cs := #[.bool (decide ((iv ga (val Xa) % ((val Ya : Nat) : Int)) < 0)), .slice p13 (dg ((iv ga (val Xa) % ((val Ya : Nat) : Int))).natAbs).length c13]) rfl e4 (by simp only [List.map, e13]; rfl) sb4 rfl rfl (((Fr.refl _ _).put1 0 _).put1 1 _) (((bz.put1 0 _).put1 1 _))) trivial
  case s1_13 =>
    refine stepOk_of _ _ rfl rfl ?_
    intro v W1 f kp ho hd K' hK
    have e14 : v 14 = .int .i64 0 := (hd 8 (by decide) _ _ rfl rfl).1
    simp only [e14] at hK ⊢
    go_simp
    exact hK _ _ (Fr.refl [] _) rfl
  case done1 =>
    intro v W1 f kp hF hD
    have e7 : v 7 = .pointer (some ⟨w.heap.size, 0, none⟩) := (hF 0 _ _ rfl rfl).1
    have e8 : v 8 = .agg #[.bool ga, .slice pa na ca] := (hF 1 _ _ rfl rfl).1
    have e9 : v 9 = .pointer (some ⟨w.heap.size, 2, none⟩) := (hF 2 _ _ rfl rfl).1
    have e10 : v 10 = .agg #[.bool false, .slice qa ma da] := (hF 3 _ _ rfl rfl).1
    have f12 : VZ W1 fl (v 12) := (hF 6 _ _ rfl rfl).1
    have o12 := f12
    obtain ⟨p12, c12, e12, s12⟩ := o12
    rw [e12] at f12
    have f13 : VZ W1 (iv ga (val Xa) % ((val Ya : Nat) : Int)) (v 13) := (hF 7 _ _ rfl rfl).1
    have o13 := f13
    obtain ⟨p13, c13, e13, s13⟩ := o13
    rw [e13] at f13
    have e14 : v 14 = .int .i64 0 := (hF 8 _ _ rfl rfl).1
    obtain ⟨-, A3, e3, g3, -⟩ := hF 9 _ _ rfl rfl
    obtain ⟨-, A4, e4, g4, -⟩ := hF 10 _ _ rfl rfl
    have e5 : v 5 = .int .i64 0 := (hF 13 _ _ rfl rfl).1
    obtain ⟨-, A', eA, b3⟩ := hF 11 _ _ rfl rfl
    rw [e3] at eA; injection eA with eA; injection eA with eA; injection eA with eA; subst eA
    replace b3 : Bx W1 A3 24 #[.bool (decide (fl < 0)), .slice p12 (dg (fl).natAbs).length c12] := by simp only [List.map, e12] at b3; exact b3
    obtain ⟨-, A', eA, b4⟩ := hF 12 _ _ rfl rfl
    rw [e4] at eA; injection eA with eA; injection eA with eA; injection eA with eA; subst eA
    replace b4 : Bx W1 A4 24 #[.bool (decide ((iv ga (val Xa) % ((val Ya : Nat) : Int)) < 0)), .slice p13 (dg ((iv ga (val Xa) % ((val Ya : Nat) : Int))).natAbs).length c13] := by simp only [List.map, e13] at b4; exact b4
    have dd3_4 : A3 ≠ A4 := fun e => hD 9 10 _ _ _ _ _ _ _ _ (by decide) rfl rfl rfl rfl rfl rfl 3 4 rfl rfl (by rw [e3, e4, e])
    clear hF hD
    simp only [e7, e8, e9, e10, e12, e13, e14, e3, e4, e5]
    replace b1 := b1.keep f (by simp)
    replace b2 := b2.keep f (by simp)
    replace h1 := h1.kp kp
    replace ia := ia.kp kp
    replace ja := ja.kp kp
    replace hw := hw.trans (a := w) (b := W) (c := W1) f (by simp)
    have hsz1 := f.size
    clear f kp
    have hlt_b3 := b3.lt
    have hlt_b4 := b4.lt
    have c_b1_0 := b1.cell (j := 0) rfl
    have c_b1_1 := b1.cell (j := 1) rfl
    have c_b1_2 := b1.cell (j := 2) rfl
    have c_b1_3 := b1.cell (j := 3) rfl
    have c_b2_0 := b2.cell (j := 0) rfl
    have c_b2_1 := b2.cell (j := 1) rfl
    have c_b3_0 := b3.cell (j := 0) rfl
    have c_b3_1 := b3.cell (j := 1) rfl
    have c_b4_0 := b4.cell (j := 0) rfl
    have c_b4_1 := b4.cell (j := 1) rfl
    go_upto_region 2 with fail
    clear c_b1_0 c_b1_1 c_b1_2 c_b1_3 c_b2_0 c_b2_1 c_b3_0 c_b3_1 c_b4_0 c_b4_1
    refine wp_region_inv (w0 := W1) (by kernel_rfl) [true, true, false, false, true, true, true, true, true, true, true, true, true, true, true, true] [(w.heap.size + 1)]
      [⟨[15], F1 (fun x _ => x = .agg #[.bool (decide (fl < 0)), .slice p12 (dg (fl).natAbs).length c12]), .pure⟩,
    ⟨[15], F0, .out 0 24 cellsOf⟩]
      [[], [0]] ?mk2 ?hmk2 (by kernel_rfl)
      ⟨F1.st (st_eq _), F0.st, trivial⟩ (by simp) (by simp <;> omega) (n := 2) rfl ⟨⟨trivial, ?s2_0⟩, ?s2_1⟩ ?done2
    case hmk2 => intro v; simp only [mkv, mix, Nat.reduceAdd]; rfl
    case s2_0 =>
      refine stepOk_of _ _ rfl rfl ?_
      intro v W2 f kp ho hd K' hK
      have k0 := (b3.keep f (by simp <;> omega)).cell (j := 0) rfl
      have k1 := (b3.keep f (by simp <;> omega)).cell (j := 1) rfl
      go_simp
      exact hK _ _ (Fr.refl [] _) rfl
    case s2_1 =>
      refine stepOk_of _ _ rfl rfl ?_
      intro v W2 f kp ho hd K' hK
      have e15 : v 15 = .agg #[.bool (decide (fl < 0)), .slice p12 (dg (fl).natAbs).length c12] := (hd 0 (by decide) _ _ rfl rfl).1
      have bz : Bx W2 (w.heap.size + 1) 24 #[.bool false, .slice none 0 0] := (ho 0 _ rfl (by kernel_rfl)).trans b2
      have k0 := bz.cell (j := 0) rfl
      have fr0 := bz.free 0
      have k1 := bz.cell (j := 1) rfl
      have fr1 := bz.free 1
      simp only [e15] at hK ⊢
      go_simp
      exact hK undef _ (move_out (cs := #[.bool (decide (fl < 0)), .slice p12 (dg (fl).natAbs).length c12]) rfl rfl (by simp only [List.map, e15]; rfl) (bz.soft rfl) rfl rfl (((Fr.refl _ _).put1 0 _).put1 1 _) (((bz.put1 0 _).put1 1 _))) trivial
    case done2 =>
      intro v W2 f kp hF hD
      have e15 : v 15 = .agg #[.bool (decide (fl < 0)), .slice p12 (dg (fl).natAbs).length c12] := (hF 0 _ _ rfl rfl).1
      obtain ⟨-, A', eA, nb2⟩ := hF 1 _ _ rfl rfl
      injection eA with eA; subst eA
      replace nb2 : Bx W2 (w.heap.size + 1) 24 #[.bool (decide (fl < 0)), .slice p12 (dg (fl).natAbs).length c12] := by simp only [List.map, e15] at nb2; exact nb2
      clear hF hD
      simp only [e15]
      replace b1 := b1.keep f (by simp <;> omega)
      replace b3 := b3.keep f (by simp <;> omega)
      replace b4 := b4.keep f (by simp <;> omega)
      clear b2; have b2 := nb2; clear nb2
      replace h1 := h1.kp kp
      replace ia := ia.kp kp
      replace ja := ja.kp kp
      replace s12 := s12.kp kp
      replace f12 := f12.kp kp
      replace s13 := s13.kp kp
      replace f13 := f13.kp kp
      replace hw := hw.trans (a := w) (b := W1) (c := W2) f (fun x hx hl => by simp at hx; omega)
      have hsz2 := f.size
      clear f kp
      go_wp2_with fail
      have c_b2_0 := b2.cell (j := 0) rfl
      have c_b2_1 := b2.cell (j := 1) rfl
      exact bodyPost_ret (v := .agg #[.bool (decide (fl < 0)), .slice p12 (dg (fl).natAbs).length c12]) (by simp [results, Tryz.results132, go_sem, c_b2_0, c_b2_1]) rfl ⟨_, rfl, f12, hw⟩

set_option maxRecDepth 100000 in
set_option maxHeartbeats 1000000 in
theorem floor_v {w : World} {L : Nat} {r : Rat} {va : Value} (h1 : VR w L r va) (_hL : L ≤ 65535) : Calls Tryz.prog 54 #[va] w (RV (fun w' => VZ w' r.floor) w) := by
  obtain ⟨fl, hfl⟩ : ∃ z, r.floor = z := ⟨_, rfl⟩
  rw [hfl]
  have Hfl := Lib.hid hfl; clear hfl
  have o_h1 := h1
  obtain ⟨ga, pa, na, ca, Xa, qa, ma, da, Ya, rfl, -, -, -, -, -⟩ := o_h1
  go_enter Tryz.func54, Tryz.ntmps54
  go_upto_region 1 with fail
  have hw : Fr [] w ((w.alloc (Obj.cells #[.bool ga, .slice pa na ca, .slice qa ma da] 26)).alloc (Obj.cells #[.bool false, .slice none 0 0] 24)) := ((Fr.refl _ _).alloc _).alloc _
  have b1 : Bx ((w.alloc (Obj.cells #[.bool ga, .slice pa na ca, .slice qa ma da] 26)).alloc (Obj.cells #[.bool false, .slice none 0 0] 24)) w.heap.size 26 #[.bool ga, .slice pa na ca, .slice qa ma da] := (Bx.made' (by simp) _ _).kept ((Fr.refl _ _).alloc _)
  have b2 : Bx ((w.alloc (Obj.cells #[.bool ga, .slice pa na ca, .slice qa ma da] 26)).alloc (Obj.cells #[.bool false, .slice none 0 0] 24)) (w.heap.size + 1) 24 #[.bool false, .slice none 0 0] := (Bx.made' (by simp) _ _).kept (Fr.refl _ _)
  generalize ((w.alloc (Obj.cells #[.bool ga, .slice pa na ca, .slice qa ma da] 26)).alloc (Obj.cells #[.bool false, .slice none 0 0] 24)) = W at *
  have hbs := b2.lt
  replace h1 := h1.kept hw
  refine wp_region_inv (w0 := W) (by kernel_rfl) [true, false, false, true, true, true] [(w.heap.size + 1)]
    [⟨[3], F1 (fun x _ => x = .agg #[.bool ga, .slice pa na ca, .slice qa ma da]), .pure⟩,
    ⟨[4], F1 (fun x w => VF w (L + 1) r x), .pure⟩,
    ⟨[5], F1 (fun x w => VZ w fl x), .pure⟩,
    ⟨[5], F0, .out 0 24 cellsOf⟩]
    [[], [0], [0, 1], [0, 1, 2]] ?mk1 ?hmk1 (by kernel_rfl)
    ⟨F1.st (st_eq _), F1.st (fun _ _ _ k h => h.kp k), F1.st (fun _ _ _ k h => h.kp k), F0.st, trivial⟩ (by simp) (by simp <;> omega) (n := 4) rfl ⟨⟨⟨⟨trivial, ?s1_0⟩, ?s1_1⟩, ?s1_2⟩, ?s1_3⟩ ?done1
  case hmk1 => intro v; simp only [mkv, mix, Nat.reduceAdd]; rfl
  case s1_0 =>
    refine stepOk_of _ _ rfl rfl ?_
    intro v W1 f kp ho hd K' hK
    have k0 := (b1.keep f (by simp <;> omega)).cell (j := 0) rfl
    have k1 := (b1.keep f (by simp <;> omega)).cell (j := 1) rfl
    have k2 := (b1.keep f (by simp <;> omega)).cell (j := 2) rfl
    go_simp
    exact hK _ _ (Fr.refl [] _) rfl
  case s1_1 =>
    refine stepOk_of _ _ rfl rfl ?_
    intro v W1 f kp ho hd K' hK
    have e3 : v 3 = .agg #[.bool ga, .slice pa na ca, .slice qa ma da] := (hd 0 (by decide) _ _ rfl rfl).1
    simp only [e3] at hK ⊢
    go_simp
    refine (read_v (h1.kp kp) (by omega)).mono ?_
    rintro e W' ⟨x, rfl, hx, ff⟩
    exact hK x W' ff hx
  case s1_2 =>
    refine stepOk_of _ _ rfl rfl ?_
    intro v W1 f kp ho hd K' hK
    have f4 : VF W1 (L + 1) r (v 4) := (hd 1 (by decide) _ _ rfl rfl).1
    go_simp
    refine (ffloor_v f4 (by omega)).mono ?_
    rw [Hfl.out]
    rintro e W' ⟨x, rfl, hx, ff⟩
    exact hK x W' ff hx
  case s1_3 =>
    refine stepOk_of _ _ rfl rfl ?_
    intro v W1 f kp ho hd K' hK
    have f5 : VZ W1 fl (v 5) := (hd 2 (by decide) _ _ rfl rfl).1
    have o5 := f5
    obtain ⟨p5, c5, e5, s5⟩ := o5
    have bz : Bx W1 (w.heap.size + 1) 24 #[.bool false, .slice none 0 0] := (ho 0 _ rfl (by kernel_rfl)).trans b2
    have k0 := bz.cell (j := 0) rfl
    have fr0 := bz.free 0
    have k1 := bz.cell (j := 1) rfl
    have fr1 := bz.free 1
    simp only [e5] at hK ⊢
    go_simp
    exact hK undef _ (move_out (cs := #[.bool (decide (fl < 0)), .slice p5 (dg (fl).natAbs).length c5]) rfl rfl (by simp only [List.map, e5]; rfl) (bz.soft rfl) rfl rfl (((Fr.refl _ _).put1 0 _).put1 1 _) (((bz.put1 0 _).put1 1 _))) trivial
  case done1 =>
    intro v W1 f kp hF hD
    have e3 : v 3 = .agg #[.bool ga, .slice pa na ca, .slice qa ma da] := (hF 0 _ _ rfl rfl).1
    have f4 : VF W1 (L + 1) r (v 4) := (hF 1 _ _ rfl rfl).1
    have f5 : VZ W1 fl (v 5) := (hF 2 _ _ rfl rfl).1
    have o5 := f5
    obtain ⟨p5, c5, e5, s5⟩ := o5
    rw [e5] at f5
    obtain ⟨-, A', eA, nb2⟩ := hF 3 _ _ rfl rfl
    injection eA with eA; subst eA
    replace nb2 : Bx W1 (w.heap.size + 1) 24 #[.bool (decide (fl < 0)), .slice p5 (dg (fl).natAbs).length c5] := by simp only [List.map, e5] at nb2; exact nb2
    clear hF hD
    simp only [e3, e5]
    replace b1 := b1.keep f (by simp <;> omega)
    clear b2; have b2 := nb2; clear nb2
    replace h1 := h1.kp kp
    replace hw := hw.trans (a := w) (b := W) (c := W1) f (fun x hx hl => by simp at hx; omega)
    have hsz1 := f.size
    clear f kp
    go_wp2_with fail
    have c_b2_0 := b2.cell (j := 0) rfl
    have c_b2_1 := b2.cell (j := 1) rfl
    exact bodyPost_ret (v := iw (decide (fl < 0)) p5 (dg (fl).natAbs).length c5) (by simp [results, Tryz.results54, go_sem, c_b2_0, c_b2_1]) rfl ⟨_, rfl, f5, hw⟩

set_option maxRecDepth 100000 in
set_option maxHeartbeats 1000000 in
theorem fdown_v {w : World} {L k : Nat} {r : Rat} {va : Value} (h1 : VF w L r va) (_hL : L ≤ 262143) (_hk : k ≤ 256) : Calls Tryz.prog 126 #[va, .int .i64 (k : Int)] w (RV (fun w' => VF w' (L + 9) (downQ r k)) w) := by
  obtain ⟨q, hq⟩ : ∃ q, downQ r k = q := ⟨_, rfl⟩
  rw [hq]
  obtain ⟨P, hP⟩ : ∃ P, 2 ^ k = P := ⟨_, rfl⟩
  have hP0 : P ≠ 0 := by rw [← hP]; exact Nat.ne_of_gt (Nat.two_pow_pos k)
  have hP9 : nz (P : Int) ≤ 9 := by rw [← hP]; exact nz_pow2 (by omega)
  have HP := Lib.hid hP
  have HP0 := Lib.hid hP0
  have Hq := Lib.hid hq
  clear hP hP0 hq
  have o_h1 := h1
  obtain ⟨ga, pa, na, ca, Xa, qa, ma, da, Ya, rfl, -, -, -, -, -, -⟩ := o_h1
  go_enter Tryz.func126, Tryz.ntmps126
  go_upto_region 1 with fail
  have hw : Fr [] w ((w.alloc (Obj.cells #[.bool ga, .slice pa na ca, .bool false, .slice qa ma da] 75)).alloc (Obj.cells #[.bool false, .slice none 0 0, .bool false, .slice none 0 0] 75)) := ((Fr.refl _ _).alloc _).alloc _
  have b2 : Bx ((w.alloc (Obj.cells #[.bool ga, .slice pa na ca, .bool false, .slice qa ma da] 75)).alloc (Obj.cells #[.bool false, .slice none 0 0, .bool false, .slice none 0 0] 75)) w.heap.size 75 #[.bool ga, .slice pa na ca, .bool false, .slice qa ma da] := (Bx.made' (by simp) _ _).kept ((Fr.refl _ _).alloc _)
  have b4 : Bx ((w.alloc (Obj.cells #[.bool ga, .slice pa na ca, .bool false, .slice qa ma da] 75)).alloc (Obj.cells #[.bool false, .slice none 0 0, .bool false, .slice none 0 0] 75)) (w.heap.size + 1) 75 #[.bool false, .slice none 0 0, .bool false, .slice none 0 0] := (Bx.made' (by simp) _ _).kept (Fr.refl _ _)
  generalize ((w.alloc (Obj.cells #[.bool ga, .slice pa na ca, .bool false, .slice qa ma da] 75)).alloc (Obj.cells #[.bool false, .slice none 0 0, .bool false, .slice none 0 0] 75)) = W at *
  have hbs := b4.lt
  replace h1 := h1.kept hw
  obtain ⟨Xa, Ya, sa, ta, za, ya, la, lma⟩ : ∃ Xa Ya, Sl W pa na ca Xa ∧ Sl W qa ma da Ya ∧ mkRat (iv ga (val Xa)) (val Ya) = r ∧ val Ya ≠ 0 ∧ na ≤ L ∧ ma ≤ L := by
    obtain ⟨_, _, _, _, X, _, _, _, Y, e, s, t, z, y, l, lm⟩ := h1
    cases e; exact ⟨X, Y, s, t, z, y, l, lm⟩
  have ia : VI W (L) (iv ga (val Xa)) (iw ga pa na ca) := ⟨_, _, _, _, _, rfl, sa, rfl, la⟩
  have ja : VI W (L) ((val Ya : Nat) : Int) (iw false qa ma da) := ⟨_, _, _, _, _, rfl, ta, rfl, lma⟩
  obtain ⟨z1, hz1⟩ : ∃ z, iv ga (val Xa) * (P : Int) = z := ⟨_, rfl⟩
  obtain ⟨r1, hr1⟩ : ∃ q, r * mkRat (P : Int) 1 = q := ⟨_, rfl⟩
  obtain ⟨fl, hfl⟩ : ∃ z, r1.floor = z := ⟨_, rfl⟩
  have hN : mkRat z1 (val Ya) = r1 := by rw [← hz1, ← hr1, ← za, mk_scale]
  have hl1 : nz z1 ≤ L + 9 := by rw [← hz1]; have := nz_mul (iv ga (val Xa)) (P : Int); have := nz_len ia; omega
  have hfz : nz fl ≤ L + 9 := by rw [← hfl, ← hN, floor_mk _ ya]; exact Nat.le_trans (nz_floor _ _) hl1
  have hQ : mkRat fl P = q := by rw [← Hq.out, ← hfl, ← hr1, ← HP.out]; rfl
  have Hhz1 := Lib.hid hz1; clear hz1
  have Hhr1 := Lib.hid hr1; clear hr1
  have Hhfl := Lib.hid hfl; clear hfl
  have HhN := Lib.hid hN; clear hN
  have HhQ := Lib.hid hQ; clear hQ
  have Hya := Lib.hid ya; clear ya
  clear za
  refine wp_region_inv (w0 := W) (by kernel_rfl) [true, false, false, true, false, true, true, true, false, false, false, false, false, false, false, false, false, false] []
    [⟨[6], F1 (fun x _ => x = .int .i64 (k : Int)), .pure⟩,
    ⟨[7], F1 (fun x w => VZ w (P : Int) x), .pure⟩,
    ⟨[], F0, .new 24 2⟩,
    ⟨[7], F0, .store 5 24 cellsOf⟩]
    [[], [0], [], [0, 1, 2]] ?mk1 ?hmk1 (by kernel_rfl)
    ⟨F1.st (st_eq _), F1.st (fun _ _ _ k h => h.kp k), F0.st, F0.st, trivial⟩ (by simp) (by simp) (n := 4) rfl ⟨⟨⟨⟨trivial, ?s1_0⟩, ?s1_1⟩, ?s1_2⟩, ?s1_3⟩ ?done1
  case hmk1 => intro v; simp only [mkv, mix, Nat.reduceAdd]; rfl
  case s1_0 =>
    refine stepOk_of _ _ rfl rfl ?_
    intro v W1 f kp ho hd K' hK
    go_simp
    exact hK _ _ (Fr.refl [] _) rfl
  case s1_1 =>
    refine stepOk_of _ _ rfl rfl ?_
    intro v W1 f kp ho hd K' hK
    have e6 : v 6 = .int .i64 (k : Int) := (hd 0 (by decide) _ _ rfl rfl).1
    simp only [e6] at hK ⊢
    go_simp
    refine (pow2_v HP.out (by omega)).mono ?_
    rintro e W' ⟨x, rfl, hx, ff⟩
    exact hK x W' ff hx
  case s1_2 =>
    refine stepOk_of _ _ rfl rfl ?_
    intro v W1 f kp ho hd K' hK
    go_simp
    exact hK _ _ (move_new rfl rfl rfl rfl rfl) trivial
  case s1_3 =>
    refine stepOk_of _ _ rfl rfl ?_
    intro v W1 f kp ho hd K' hK
    obtain ⟨-, A5, e5, -, sb5⟩ := hd 2 (by decide) _ _ rfl rfl
    have f7 : VZ W1 (P : Int) (v 7) := (hd 1 (by decide) _ _ rfl rfl).1
    have o7 := f7
    obtain ⟨p7, c7, e7, s7⟩ := o7
    obtain ⟨zz0, zz1, bz⟩ := sb5.open2
    have k0 := bz.cell (j := 0) rfl
    have fr0 := bz.free 0
    have k1 := bz.cell (j := 1) rfl
    have fr1 := bz.free 1
    simp only [e5, e7] at hK ⊢
    go_simp
    exact hK undef _ (move_store (cs := #[.bool (decide ((P : Int) < 0)), .slice p7 (dg ((P : Int)).natAbs).length c7]) rfl e5 (by simp only [List.map, e7]; rfl) sb5 rfl rfl (((Fr.refl _ _).put1 0 _).put1 1 _) (((bz.put1 0 _).put1 1 _))) trivial
  case done1 =>
    intro v W1 f kp hF hD
    have e6 : v 6 = .int .i64 (k : Int) := (hF 0 _ _ rfl rfl).1
    have f7 : VZ W1 (P : Int) (v 7) := (hF 1 _ _ rfl rfl).1
    have o7 := f7
    obtain ⟨p7, c7, e7, s7⟩ := o7
    rw [e7] at f7
    obtain ⟨-, A5, e5, g5, -⟩ := hF 2 _ _ rfl rfl
    obtain ⟨-, A', eA, b5⟩ := hF 3 _ _ rfl rfl
    rw [e5] at eA; injection eA with eA; injection eA with eA; injection eA with eA; subst eA
    replace b5 : Bx W1 A5 24 #[.bool (decide ((P : Int) < 0)), .slice p7 (dg ((P : Int)).natAbs).length c7] := by simp only [List.map, e7] at b5; exact b5
    clear hF hD
    simp only [e6, e7, e5]
    replace b2 := b2.keep f (by simp)
    replace b4 := b4.keep f (by simp)
    replace h1 := h1.kp kp
    replace ia := ia.kp kp
    replace ja := ja.kp kp
    replace sa := sa.kp kp
    replace ta := ta.kp kp
    replace hw := hw.trans (a := w) (b := W) (c := W1) f (by simp)
    have hsz1 := f.size
    clear f kp
    have hlt_b5 := b5.lt
    have c_b2_0 := b2.cell (j := 0) rfl
    have c_b2_1 := b2.cell (j := 1) rfl
    have c_b2_2 := b2.cell (j := 2) rfl
    have c_b2_3 := b2.cell (j := 3) rfl
    have c_b4_0 := b4.cell (j := 0) rfl
    have c_b4_1 := b4.cell (j := 1) rfl
    have c_b4_2 := b4.cell (j := 2) rfl
    have c_b4_3 := b4.cell (j := 3) rfl
    have c_b5_0 := b5.cell (j := 0) rfl
    have c_b5_1 := b5.cell (j := 1) rfl
    go_upto_region 2 with fail
    clear c_b2_0 c_b2_1 c_b2_2 c_b2_3 c_b4_0 c_b4_1 c_b4_2 c_b4_3 c_b5_0 c_b5_1
    refine wp_region_inv (w0 := W1) (by kernel_rfl) [true, true, false, true, false, false, true, true, true, true, true, true, true, true, true, true, true, true] [(w.heap.size + 1)]
      [⟨[8], F1 (fun x _ => x = .pointer (some ⟨w.heap.size, 0, none⟩)), .pure⟩,
    ⟨[9], F1 (fun x _ => x = .agg #[.bool ga, .slice pa na ca]), .pure⟩,
    ⟨[10], F1 (fun x _ => x = .agg #[.bool (decide ((P : Int) < 0)), .slice p7 (dg ((P : Int)).natAbs).length c7]), .pure⟩,
    ⟨[11], F1 (fun x w => VZ w z1 x), .pure⟩,
    ⟨[12], F1 (fun x _ => x = .pointer (some ⟨w.heap.size, 2, none⟩)), .pure⟩,
    ⟨[13], F1 (fun x _ => x = .agg #[.bool false, .slice qa ma da]), .pure⟩,
    ⟨[14], F1 (fun x w => VF w (L + 9) r1 x), .pure⟩,
    ⟨[15], F1 (fun x w => VZ w fl x), .pure⟩,
    ⟨[16], F1 (fun x _ => x = .agg #[.bool (decide ((P : Int) < 0)), .slice p7 (dg ((P : Int)).natAbs).length c7]), .pure⟩,
    ⟨[17], F1 (fun x w => VF w (L + 9) q x), .pure⟩,
    ⟨[17], F0, .out 0 75 cellsOf⟩]
      [[], [0], [], [0, 1, 2], [], [4], [0, 1, 2, 3, 4, 5], [0, 1, 2, 3, 4, 5, 6], [], [0, 1, 2, 3, 4, 5, 6, 7, 8], [0, 1, 2, 3, 4, 5, 6, 7, 8, 9]] ?mk2 ?hmk2 (by kernel_rfl)
      ⟨F1.st (st_eq _), F1.st (st_eq _), F1.st (st_eq _), F1.st (fun _ _ _ k h => h.kp k), F1.st (st_eq _), F1.st (st_eq _), F1.st (fun _ _ _ k h => h.kp k), F1.st (fun _ _ _ k h => h.kp k), F1.st (st_eq _), F1.st (fun _ _ _ k h => h.kp k), F0.st, trivial⟩ (by simp) (by simp <;> omega) (n := 11) rfl ⟨⟨⟨⟨⟨⟨⟨⟨⟨⟨⟨trivial, ?s2_0⟩, ?s2_1⟩, ?s2_2⟩, ?s2_3⟩, ?s2_4⟩, ?s2_5⟩, ?s2_6⟩, ?s2_7⟩, ?s2_8⟩, ?s2_9⟩, ?s2_10⟩ ?done2
    case hmk2 => intro v; simp only [mkv, mix, Nat.reduceAdd]; rfl
    case s2_0 =>
      refine stepOk_of _ _ rfl rfl ?_
      intro v W2 f kp ho hd K' hK
      go_simp
      exact hK _ _ (Fr.refl [] _) rfl
    case s2_1 =>
      refine stepOk_of _ _ rfl rfl ?_
      intro v W2 f kp ho hd K' hK
      have e8 : v 8 = .pointer (some ⟨w.heap.size, 0, none⟩) := (hd 0 (by decide) _ _ rfl rfl).1
      have k0 := (b2.keep f (by simp <;> omega)).cell (j := 0) rfl
      have k1 := (b2.keep f (by simp <;> omega)).cell (j := 1) rfl
      simp only [e8] at hK ⊢
      go_simp
      exact hK _ _ (Fr.refl [] _) rfl
    case s2_2 =>
      refine stepOk_of _ _ rfl rfl ?_
      intro v W2 f kp ho hd K' hK
      have k0 := (b5.keep f (by simp <;> omega)).cell (j := 0) rfl
      have k1 := (b5.keep f (by simp <;> omega)).cell (j := 1) rfl
      go_simp
      exact hK _ _ (Fr.refl [] _) rfl
    case s2_3 =>
      refine stepOk_of _ _ rfl rfl ?_
      intro v W2 f kp ho hd K' hK
      have e9 : v 9 = .agg #[.bool ga, .slice pa na ca] := (hd 1 (by decide) _ _ rfl rfl).1
      have e10 : v 10 = .agg #[.bool (decide ((P : Int) < 0)), .slice p7 (dg ((P : Int)).natAbs).length c7] := (hd 2 (by decide) _ _ rfl rfl).1
      simp only [e9, e10] at hK ⊢
      go_simp
      refine (imul_e Hhz1.out (ia.kp kp) ((f7.kp kp).raw hP9) (by omega) (by omega)).mono ?_
      rintro e W' ⟨x, rfl, hx, ff⟩
      exact hK x W' ff hx
    case s2_4 =>
      refine stepOk_of _ _ rfl rfl ?_
      intro v W2 f kp ho hd K' hK
      go_simp
      exact hK _ _ (Fr.refl [] _) rfl
    case s2_5 =>
      refine stepOk_of _ _ rfl rfl ?_
      intro v W2 f kp ho hd K' hK
      have e12 : v 12 = .pointer (some ⟨w.heap.size, 2, none⟩) := (hd 4 (by decide) _ _ rfl rfl).1
      have k0 := (b2.keep f (by simp <;> omega)).cell (j := 2) rfl
      have k1 := (b2.keep f (by simp <;> omega)).cell (j := 3) rfl
      simp only [e12] at hK ⊢
      go_simp
      exact hK _ _ (Fr.refl [] _) rfl
    case s2_6 =>
      refine stepOk_of _ _ rfl rfl ?_
      intro v W2 f kp ho hd K' hK
      have f11 : VZ W2 z1 (v 11) := (hd 3 (by decide) _ _ rfl rfl).1
      have o11 := f11
      obtain ⟨p11, c11, e11, s11⟩ := o11
      have e13 : v 13 = .agg #[.bool false, .slice qa ma da] := (hd 5 (by decide) _ _ rfl rfl).1
      simp only [e11, e13] at hK ⊢
      go_simp
      exact hK _ _ (Fr.refl [] _) ⟨_, _, _, _, _, _, _, _, _, rfl, s11, (ta.kp kp), by rw [val_dg, iv_eq rfl rfl]; exact HhN.out, Hya.out, hl1, by omega⟩
    case s2_7 =>
      refine stepOk_of _ _ rfl rfl ?_
      intro v W2 f kp ho hd K' hK
      have f14 : VF W2 (L + 9) r1 (v 14) := (hd 6 (by decide) _ _ rfl rfl).1
      go_simp
      refine (ffloor_v f14 (by omega)).mono ?_
      rw [Hhfl.out]
      rintro e W' ⟨x, rfl, hx, ff⟩
      exact hK x W' ff hx
    case s2_8 =>
      refine stepOk_of _ _ rfl rfl ?_
      intro v W2 f kp ho hd K' hK
      have k0 := (b5.keep f (by simp <;> omega)).cell (j := 0) rfl
      have k1 := (b5.keep f (by simp <;> omega)).cell (j := 1) rfl
      go_simp
      exact hK _ _ (Fr.refl [] _) rfl
    case s2_9 =>
      refine stepOk_of _ _ rfl rfl ?_
      intro v W2 f kp ho hd K' hK
      have f15 : VZ W2 fl (v 15) := (hd 7 (by decide) _ _ rfl rfl).1
      have o15 := f15
      obtain ⟨p15, c15, e15, s15⟩ := o15
      have e16 : v 16 = .agg #[.bool (decide ((P : Int) < 0)), .slice p7 (dg ((P : Int)).natAbs).length c7] := (hd 8 (by decide) _ _ rfl rfl).1
      simp only [e15, e16] at hK ⊢
      go_simp
      exact hK _ _ (Fr.refl [] _) (build_f s15 (s7.kp kp) rfl HhQ.out HP0.out hfz (by omega))
    case s2_10 =>
      refine stepOk_of _ _ rfl rfl ?_
      intro v W2 f kp ho hd K' hK
      have f17 : VF W2 (L + 9) q (v 17) := (hd 9 (by decide) _ _ rfl rfl).1
      have o17 := f17
      obtain ⟨g17, p17, n17, c17, X17, q17, m17, d17, Y17, e17, s17, t17, z17, y17, l17, lm17⟩ := o17
      have bz : Bx W2 (w.heap.size + 1) 75 #[.bool false, .slice none 0 0, .bool false, .slice none 0 0] := (ho 0 _ rfl (by kernel_rfl)).trans b4
      have k0 := bz.cell (j := 0) rfl
      have fr0 := bz.free 0
      have k1 := bz.cell (j := 1) rfl
      have fr1 := bz.free 1
      have k2 := bz.cell (j := 2) rfl
      have fr2 := bz.free 2
      have k3 := bz.cell (j := 3) rfl
      have fr3 := bz.free 3
      simp only [e17] at hK ⊢
      go_simp
      exact hK undef _ (move_out (cs := #[.bool g17, .slice p17 n17 c17, .bool false, .slice q17 m17 d17]) rfl rfl (by simp only [List.map, e17]; rfl) (bz.soft rfl) rfl rfl (((((Fr.refl _ _).put1 0 _).put1 1 _).put1 2 _).put1 3 _) (((((bz.put1 0 _).put1 1 _).put1 2 _).put1 3 _))) trivial
    case done2 =>
      intro v W2 f kp hF hD
      have e8 : v 8 = .pointer (some ⟨w.heap.size, 0, none⟩) := (hF 0 _ _ rfl rfl).1
      have e9 : v 9 = .agg #[.bool ga, .slice pa na ca] := (hF 1 _ _ rfl rfl).1
      have e10 : v 10 = .agg #[.bool (decide ((P : Int) < 0)), .slice p7 (dg ((P : Int)).natAbs).length c7] := (hF 2 _ _ rfl rfl).1
      have f11 : VZ W2 z1 (v 11) := (hF 3 _ _ rfl rfl).1
      have e12 : v 12 = .pointer (some ⟨w.heap.size, 2, none⟩) := (hF 4 _ _ rfl rfl).1
      have e13 : v 13 = .agg #[.bool false, .slice qa ma da] := (hF 5 _ _ rfl rfl).1
      have f14 : VF W2 (L + 9) r1 (v 14) := (hF 6 _ _ rfl rfl).1
      have f15 : VZ W2 fl (v 15) := (hF 7 _ _ rfl rfl).1
      have e16 : v 16 = .agg #[.bool (decide ((P : Int) < 0)), .slice p7 (dg ((P : Int)).natAbs).length c7] := (hF 8 _ _ rfl rfl).1
      have f17 : VF W2 (L + 9) q (v 17) := (hF 9 _ _ rfl rfl).1
      have o17 := f17
      obtain ⟨g17, p17, n17, c17, X17, q17, m17, d17, Y17, e17, s17, t17, z17, y17, l17, lm17⟩ := o17
      rw [e17] at f17
      obtain ⟨-, A', eA, nb4⟩ := hF 10 _ _ rfl rfl
      injection eA with eA; subst eA
      replace nb4 : Bx W2 (w.heap.size + 1) 75 #[.bool g17, .slice p17 n17 c17, .bool false, .slice q17 m17 d17] := by simp only [List.map, e17] at nb4; exact nb4
      clear hF hD
      simp only [e8, e9, e10, e12, e13, e16, e17]
      replace b2 := b2.keep f (by simp <;> omega)
      replace b5 := b5.keep f (by simp <;> omega)
      clear b4; have b4 := nb4; clear nb4
      replace h1 := h1.kp kp
      replace ia := ia.kp kp
      replace ja := ja.kp kp
      replace sa := sa.kp kp
      replace ta := ta.kp kp
      replace s7 := s7.kp kp
      replace f7 := f7.kp kp
      replace hw := hw.trans (a := w) (b := W1) (c := W2) f (fun x hx hl => by simp at hx; omega)
      have hsz2 := f.size
      clear f kp
      go_wp2_with fail
      have c_b4_0 := b4.cell (j := 0) rfl
      have c_b4_1 := b4.cell (j := 1) rfl
      have c_b4_2 := b4.cell (j := 2) rfl
      have c_b4_3 := b4.cell (j := 3) rfl
      exact bodyPost_ret (v := fw g17 p17 n17 c17 false q17 m17 d17) (by simp [results, Tryz.results126, go_sem, c_b4_0, c_b4_1, c_b4_2, c_b4_3]) rfl ⟨_, rfl, f17, hw⟩

set_option maxRecDepth 100000 in
set_option maxHeartbeats 1000000 in
theorem fup_v {w : World} {L k : Nat} {r : Rat} {va : Value} (h1 : VF w L r va) (_hL : L ≤ 65535) (hk : k ≤ 256) : Calls Tryz.prog 129 #[va, .int .i64 (k : Int)] w (RV (fun w' => VF w' (L + 9) (upQ r k)) w) := by
  have o_h1 := h1
  obtain ⟨ga, pa, na, ca, Xa, qa, ma, da, Ya, rfl, -, -, -, -, -, -⟩ := o_h1
  go_enter Tryz.func129, Tryz.ntmps129
  go_upto_region 1 with fail
  have hw : Fr [] w ((w.alloc (Obj.cells #[.bool ga, .slice pa na ca, .bool false, .slice qa ma da] 75)).alloc (Obj.cells #[.bool false, .slice none 0 0, .bool false, .slice none 0 0] 75)) := ((Fr.refl _ _).alloc _).alloc _
  have b2 : Bx ((w.alloc (Obj.cells #[.bool ga, .slice pa na ca, .bool false, .slice qa ma da] 75)).alloc (Obj.cells #[.bool false, .slice none 0 0, .bool false, .slice none 0 0] 75)) w.heap.size 75 #[.bool ga, .slice pa na ca, .bool false, .slice qa ma da] := (Bx.made' (by simp) _ _).kept ((Fr.refl _ _).alloc _)
  have b4 : Bx ((w.alloc (Obj.cells #[.bool ga, .slice pa na ca, .bool false, .slice qa ma da] 75)).alloc (Obj.cells #[.bool false, .slice none 0 0, .bool false, .slice none 0 0] 75)) (w.heap.size + 1) 75 #[.bool false, .slice none 0 0, .bool false, .slice none 0 0] := (Bx.made' (by simp) _ _).kept (Fr.refl _ _)
  generalize ((w.alloc (Obj.cells #[.bool ga, .slice pa na ca, .bool false, .slice qa ma da] 75)).alloc (Obj.cells #[.bool false, .slice none 0 0, .bool false, .slice none 0 0] 75)) = W at *
  have hbs := b4.lt
  replace h1 := h1.kept hw
  refine wp_region_inv (w0 := W) (by kernel_rfl) [true, false, false, true, false, true, true, true, true, true] [(w.heap.size + 1)]
    [⟨[5], F1 (fun x _ => x = .agg #[.bool ga, .slice pa na ca, .bool false, .slice qa ma da]), .pure⟩,
    ⟨[6], F1 (fun x w => VF w L (-r) x), .pure⟩,
    ⟨[7], F1 (fun x _ => x = .int .i64 (k : Int)), .pure⟩,
    ⟨[8], F1 (fun x w => VF w (L + 9) (downQ (-r) k) x), .pure⟩,
    ⟨[9], F1 (fun x w => VF w (L + 9) (upQ r k) x), .pure⟩,
    ⟨[9], F0, .out 0 75 cellsOf⟩]
    [[], [0], [], [0, 1, 2], [0, 1, 2, 3], [0, 1, 2, 3, 4]] ?mk1 ?hmk1 (by kernel_rfl)
    ⟨F1.st (st_eq _), F1.st (fun _ _ _ k h => h.kp k), F1.st (st_eq _), F1.st (fun _ _ _ k h => h.kp k), F1.st (fun _ _ _ k h => h.kp k), F0.st, trivial⟩ (by simp) (by simp <;> omega) (n := 6) rfl ⟨⟨⟨⟨⟨⟨trivial, ?s1_0⟩, ?s1_1⟩, ?s1_2⟩, ?s1_3⟩, ?s1_4⟩, ?s1_5⟩ ?done1
  case hmk1 => intro v; simp only [mkv, mix, Nat.reduceAdd]; rfl
  case s1_0 =>
    refine stepOk_of _ _ rfl rfl ?_
    intro v W1 f kp ho hd K' hK
    have k0 := (b2.keep f (by simp <;> omega)).cell (j := 0) rfl
    have k1 := (b2.keep f (by simp <;> omega)).cell (j := 1) rfl
    have k2 := (b2.keep f (by simp <;> omega)).cell (j := 2) rfl
    have k3 := (b2.keep f (by simp <;> omega)).cell (j := 3) rfl
    go_simp
    exact hK _ _ (Fr.refl [] _) rfl
  case s1_1 =>
    refine stepOk_of _ _ rfl rfl ?_
    intro v W1 f kp ho hd K' hK
    have e5 : v 5 = .agg #[.bool ga, .slice pa na ca, .bool false, .slice qa ma da] := (hd 0 (by decide) _ _ rfl rfl).1
    simp only [e5] at hK ⊢
    go_simp
    refine (negation_v (h1.kp kp) (by omega)).mono ?_
    rintro e W' ⟨x, rfl, hx, ff⟩
    exact hK x W' ff hx
  case s1_2 =>
    refine stepOk_of _ _ rfl rfl ?_
    intro v W1 f kp ho hd K' hK
    go_simp
    exact hK _ _ (Fr.refl [] _) rfl
  case s1_3 =>
    refine stepOk_of _ _ rfl rfl ?_
    intro v W1 f kp ho hd K' hK
    have f6 : VF W1 L (-r) (v 6) := (hd 1 (by decide) _ _ rfl rfl).1
    have e7 : v 7 = .int .i64 (k : Int) := (hd 2 (by decide) _ _ rfl rfl).1
    simp only [e7] at hK ⊢
    go_simp
    refine (fdown_v f6 (by omega) hk).mono ?_
    rintro e W' ⟨x, rfl, hx, ff⟩
    exact hK x W' ff hx
  case s1_4 =>
    refine stepOk_of _ _ rfl rfl ?_
    intro v W1 f kp ho hd K' hK
    have f8 : VF W1 (L + 9) (downQ (-r) k) (v 8) := (hd 3 (by decide) _ _ rfl rfl).1
    go_simp
    refine (negation_v f8 (by omega)).mono ?_
    rintro e W' ⟨x, rfl, hx, ff⟩
    exact hK x W' ff hx
  case s1_5 =>
    refine stepOk_of _ _ rfl rfl ?_
    intro v W1 f kp ho hd K' hK
    have f9 : VF W1 (L + 9) (upQ r k) (v 9) := (hd 4 (by decide) _ _ rfl rfl).1
    have o9 := f9
    obtain ⟨g9, p9, n9, c9, X9, q9, m9, d9, Y9, e9, s9, t9, z9, y9, l9, lm9⟩ := o9
    have bz : Bx W1 (w.heap.size + 1) 75 #[.bool false, .slice none 0 0, .bool false, .slice none 0 0] := (ho 0 _ rfl (by kernel_rfl)).trans b4
    have k0 := bz.cell (j := 0) rfl
    have fr0 := bz.free 0
    have k1 := bz.cell (j := 1) rfl
    have fr1 := bz.free 1
    have k2 := bz.cell (j := 2) rfl
    have fr2 := bz.free 2
    have k3 := bz.cell (j := 3) rfl
    have fr3 := bz.free 3
    simp only [e9] at hK ⊢
    go_simp
    exact hK undef _ (move_out (cs := #[.bool g9, .slice p9 n9 c9, .bool false, .slice q9 m9 d9]) rfl rfl (by simp only [List.map, e9]; rfl) (bz.soft rfl) rfl rfl (((((Fr.refl _ _).put1 0 _).put1 1 _).put1 2 _).put1 3 _) (((((bz.put1 0 _).put1 1 _).put1 2 _).put1 3 _))) trivial
  case done1 =>
    intro v W1 f kp hF hD
    have e5 : v 5 = .agg #[.bool ga, .slice pa na ca, .bool false, .slice qa ma da] := (hF 0 _ _ rfl rfl).1
    have f6 : VF W1 L (-r) (v 6) := (hF 1 _ _ rfl rfl).1
    have e7 : v 7 = .int .i64 (k : Int) := (hF 2 _ _ rfl rfl).1
    have f8 : VF W1 (L + 9) (downQ (-r) k) (v 8) := (hF 3 _ _ rfl rfl).1
    have f9 : VF W1 (L + 9) (upQ r k) (v 9) := (hF 4 _ _ rfl rfl).1
    have o9 := f9
    obtain ⟨g9, p9, n9, c9, X9, q9, m9, d9, Y9, e9, s9, t9, z9, y9, l9, lm9⟩ := o9
    rw [e9] at f9
    obtain ⟨-, A', eA, nb4⟩ := hF 5 _ _ rfl rfl
    injection eA with eA; subst eA
    replace nb4 : Bx W1 (w.heap.size + 1) 75 #[.bool g9, .slice p9 n9 c9, .bool false, .slice q9 m9 d9] := by simp only [List.map, e9] at nb4; exact nb4
    clear hF hD
    simp only [e5, e7, e9]
    replace b2 := b2.keep f (by simp <;> omega)
    clear b4; have b4 := nb4; clear nb4
    replace h1 := h1.kp kp
    replace hw := hw.trans (a := w) (b := W) (c := W1) f (fun x hx hl => by simp at hx; omega)
    have hsz1 := f.size
    clear f kp
    go_wp2_with fail
    have c_b4_0 := b4.cell (j := 0) rfl
    have c_b4_1 := b4.cell (j := 1) rfl
    have c_b4_2 := b4.cell (j := 2) rfl
    have c_b4_3 := b4.cell (j := 3) rfl
    exact bodyPost_ret (v := fw g9 p9 n9 c9 false q9 m9 d9) (by simp [results, Tryz.results129, go_sem, c_b4_0, c_b4_1, c_b4_2, c_b4_3]) rfl ⟨_, rfl, f9, hw⟩

end Go.Proofs.YtjjdbhohjphcoaaGreatDoor
