/- What the statements of this claim stand on: of Rat11, what they name -/
import Derived.Test.YtjjdbhohjphcoaaGreatDoorK27

namespace Go.Proofs.YtjjdbhohjphcoaaGreatDoor
open Go.RowKit

set_option maxRecDepth 100000 in
set_option maxHeartbeats 1000000 in
theorem mul_v {w : World} {L M : Nat} {r s : Rat} {va vb : Value} (ht : Tab w) (h1 : VR w L r va) (h2 : VR w M s vb) (_hL : L ≤ 65535) (_hM : M ≤ 65535) : Calls Tryz.prog 35 #[va, vb] w (RV (fun w' => VQ w' (r * s)) w) := by
  have o_h1 := h1
  obtain ⟨ga, pa, na, ca, Xa, qa, ma, da, Ya, rfl, -, -, -, -, -⟩ := o_h1
  have o_h2 := h2
  obtain ⟨gb, pb, nb, cb, Xb, qb, mb, db, Yb, rfl, -, -, -, -, -⟩ := o_h2
  go_enter Tryz.func35, Tryz.ntmps35
  go_upto_region 1 with fail
  have hw : Fr [] w (((w.alloc (Obj.cells #[.bool ga, .slice pa na ca, .slice qa ma da] 26)).alloc (Obj.cells #[.bool gb, .slice pb nb cb, .slice qb mb db] 26)).alloc (Obj.cells #[.bool false, .slice none 0 0, .slice none 0 0] 26)) := (((Fr.refl _ _).alloc _).alloc _).alloc _
  have b2 : Bx (((w.alloc (Obj.cells #[.bool ga, .slice pa na ca, .slice qa ma da] 26)).alloc (Obj.cells #[.bool gb, .slice pb nb cb, .slice qb mb db] 26)).alloc (Obj.cells #[.bool false, .slice none 0 0, .slice none 0 0] 26)) w.heap.size 26 #[.bool ga, .slice pa na ca, .slice qa ma da] := (Bx.made' (by simp) _ _).kept (((Fr.refl _ _).alloc _).alloc _)
  have b3 : Bx (((w.alloc (Obj.cells #[.bool ga, .slice pa na ca, .slice qa ma da] 26)).alloc (Obj.cells #[.bool gb, .slice pb nb cb, .slice qb mb db] 26)).alloc (Obj.cells #[.bool false, .slice none 0 0, .slice none 0 0] 26)) (w.heap.size + 1) 26 #[.bool gb, .slice pb nb cb, .slice qb mb db] := (Bx.made' (by simp) _ _).kept ((Fr.refl _ _).alloc _)
  have b4 : Bx (((w.alloc (Obj.cells #[.bool ga, .slice pa na ca, .slice qa ma da] 26)).alloc (Obj.cells #[.bool gb, .slice pb nb cb, .slice qb mb db] 26)).alloc (Obj.cells #[.bool false, .slice none 0 0, .slice none 0 0] 26)) (w.heap.size + 2) 26 #[.bool false, .slice none 0 0, .slice none 0 0] := (Bx.made' (by simp) _ _).kept (Fr.refl _ _)
  generalize (((w.alloc (Obj.cells #[.bool ga, .slice pa na ca, .slice qa ma da] 26)).alloc (Obj.cells #[.bool gb, .slice pb nb cb, .slice qb mb db] 26)).alloc (Obj.cells #[.bool false, .slice none 0 0, .slice none 0 0] 26)) = W at *
  have hbs := b4.lt
  replace ht := ht.kept hw
  replace h1 := h1.kept hw
  replace h2 := h2.kept hw
  refine wp_region_inv (w0 := W) (by kernel_rfl) [true, true, false, false, false, true, true, true, true, true, true, false, false, false, false, false, false, false, false, false, false, false, false] []
    [⟨[7], F1 (fun x _ => x = .agg #[.bool ga, .slice pa na ca, .slice qa ma da]), .pure⟩,
    ⟨[8], F1 (fun x w => VF w (L + 1) r x), .pure⟩,
    ⟨[9], F1 (fun x _ => x = .agg #[.bool gb, .slice pb nb cb, .slice qb mb db]), .pure⟩,
    ⟨[10], F1 (fun x w => VF w (M + 1) s x), .pure⟩,
    ⟨[], F0, .new 75 4⟩,
    ⟨[], F0, .new 75 4⟩,
    ⟨[8], F0, .store 5 75 cellsOf⟩,
    ⟨[10], F0, .store 6 75 cellsOf⟩]
    [[], [0], [], [0, 1, 2], [], [], [0, 1, 2, 3, 4, 5], [0, 1, 2, 3, 4, 5, 6]] ?mk1 ?hmk1 (by kernel_rfl)
    ⟨F1.st (st_eq _), F1.st (fun _ _ _ k h => h.kp k), F1.st (st_eq _), F1.st (fun _ _ _ k h => h.kp k), F0.st, F0.st, F0.st, F0.st, trivial⟩ (by simp) (by simp) (n := 8) rfl ⟨⟨⟨⟨⟨⟨⟨⟨trivial, ?s1_0⟩, ?s1_1⟩, ?s1_2⟩, ?s1_3⟩, ?s1_4⟩, ?s1_5⟩, ?s1_6⟩, ?s1_7⟩ ?done1
  case hmk1 => intro v; simp only [mkv, mix, Nat.reduceAdd]; rfl
  case s1_0 =>
    refine stepOk_of _ _ rfl rfl ?_
    intro v W1 f kp ho hd K' hK
    have k0 := (b2.keep f (by simp)).cell (j := 0) rfl
    have k1 := (b2.keep f (by simp)).cell (j := 1) rfl
    have k2 := (b2.keep f (by simp)).cell (j := 2) rfl
    go_simp
    exact hK _ _ (Fr.refl [] _) rfl
  case s1_1 =>
    refine stepOk_of _ _ rfl rfl ?_
    intro v W1 f kp ho hd K' hK
    have e7 : v 7 = .agg #[.bool ga, .slice pa na ca, .slice qa ma da] := (hd 0 (by decide) _ _ rfl rfl).1
    simp only [e7] at hK ⊢
    go_simp
    refine (read_v (h1.kp kp) (by omega)).mono ?_
    rintro e W' ⟨x, rfl, hx, ff⟩
    exact hK x W' ff hx
  case s1_2 =>
    refine stepOk_of _ _ rfl rfl ?_
    intro v W1 f kp ho hd K' hK
    have k0 := (b3.keep f (by simp)).cell (j := 0) rfl
    have k1 := (b3.keep f (by simp)).cell (j := 1) rfl
    have k2 := (b3.keep f (by simp)).cell (j := 2) rfl
    go_simp
    exact hK _ _ (Fr.refl [] _) rfl
  case s1_3 =>
    refine stepOk_of _ _ rfl rfl ?_
    intro v W1 f kp ho hd K' hK
    have e9 : v 9 = .agg #[.bool gb, .slice pb nb cb, .slice qb mb db] := (hd 2 (by decide) _ _ rfl rfl).1
    simp only [e9] at hK ⊢
    go_simp
    refine (read_v (h2.kp kp) (by omega)).mono ?_
    rintro e W' ⟨x, rfl, hx, ff⟩
    exact hK x W' ff hx
  case s1_4 =>
    refine stepOk_of _ _ rfl rfl ?_
    intro v W1 f kp ho hd K' hK
    go_simp
    exact hK _ _ (move_new rfl rfl rfl rfl rfl) trivial
  case s1_5 =>
    refine stepOk_of _ _ rfl rfl ?_
    intro v W1 f kp ho hd K' hK
    go_simp
    exact hK _ _ (move_new rfl rfl rfl rfl rfl) trivial
  case s1_6 =>
    refine stepOk_of _ _ rfl rfl ?_
    intro v W1 f kp ho hd K' hK
    obtain ⟨-, A5, e5, -, sb5⟩ := hd 4 (by decide) _ _ rfl rfl
    have f8 : VF W1 (L + 1) r (v 8) := (hd 1 (by decide) _ _ rfl rfl).1
    have o8 := f8
    obtain ⟨g8, p8, n8, c8, X8, q8, m8, d8, Y8, e8, s8, t8, z8, y8, l8, lm8⟩ := o8
    obtain ⟨zz0, zz1, zz2, zz3, bz⟩ := sb5.open4
    have k0 := bz.cell (j := 0) rfl
    have fr0 := bz.free 0
    have k1 := bz.cell (j := 1) rfl
    have fr1 := bz.free 1
    have k2 := bz.cell (j := 2) rfl
    have fr2 := bz.free 2
    have k3 := bz.cell (j := 3) rfl
    have fr3 := bz.free 3
    simp only [e5, e8] at hK ⊢
    go_simp
    exact hK undef _ (move_store (cs := #[.bool g8, .slice p8 n8 c8, .bool false, .slice q8 m8 d8]) rfl e5 (by simp only [List.map, e8]; rfl) sb5 rfl rfl (((((Fr.refl _ _).put1 0 _).put1 1 _).put1 2 _).put1 3 _) (((((bz.put1 0 _).put1 1 _).put1 2 _).put1 3 _))) trivial
  case s1_7 =>
    refine stepOk_of _ _ rfl rfl ?_
    intro v W1 f kp ho hd K' hK
    obtain ⟨-, A6, e6, -, sb6⟩ := hd 5 (by decide) _ _ rfl rfl
    have f10 : VF W1 (M + 1) s (v 10) := (hd 3 (by decide) _ _ rfl rfl).1
    have o10 := f10
    obtain ⟨g10, p10, n10, c10, X10, q10, m10, d10, Y10, e10, s10, t10, z10, y10, l10, lm10⟩ := o10
    obtain ⟨zz0, zz1, zz2, zz3, bz⟩ := sb6.open4
    have k0 := bz.cell (j := 0) rfl
    have fr0 := bz.free 0
    have k1 := bz.cell (j := 1) rfl
    have fr1 := bz.free 1
    have k2 := bz.cell (j := 2) rfl
    have fr2 := bz.free 2
    have k3 := bz.cell (j := 3) rfl
    have fr3 := bz.free 3
    simp only [e6, e10] at hK ⊢
    go_simp
    exact hK undef _ (move_store (cs := #[.bool g10, .slice p10 n10 c10, .bool false, .slice q10 m10 d10]) rfl e6 (by simp only [List.map, e10]; rfl) sb6 rfl rfl (((((Fr.refl _ _).put1 0 _).put1 1 _).put1 2 _).put1 3 _) (((((bz.put1 0 _).put1 1 _).put1 2 _).put1 3 _))) trivial
  case done1 =>
    intro v W1 f kp hF hD
    have e7 : v 7 = .agg #[.bool ga, .slice pa na ca, .slice qa ma da] := (hF 0 _ _ rfl rfl).1
    have f8 : VF W1 (L + 1) r (v 8) := (hF 1 _ _ rfl rfl).1
    have o8 := f8
    obtain ⟨g8, p8, n8, c8, X8, q8, m8, d8, Y8, e8, s8, t8, z8, y8, l8, lm8⟩ := o8
    rw [e8] at f8
    have e9 : v 9 = .agg #[.bool gb, .slice pb nb cb, .slice qb mb db] := (hF 2 _ _ rfl rfl).1
    have f10 : VF W1 (M + 1) s (v 10) := (hF 3 _ _ rfl rfl).1
    have o10 := f10
    obtain ⟨g10, p10, n10, c10, X10, q10, m10, d10, Y10, e10, s10, t10, z10, y10, l10, lm10⟩ := o10
    rw [e10] at f10
    obtain ⟨-, A5, e5, g5, -⟩ := hF 4 _ _ rfl rfl
    obtain ⟨-, A6, e6, g6, -⟩ := hF 5 _ _ rfl rfl
    obtain ⟨-, A', eA, b5⟩ := hF 6 _ _ rfl rfl
    rw [e5] at eA; injection eA with eA; injection eA with eA; injection eA with eA; subst eA
    replace b5 : Bx W1 A5 75 #[.bool g8, .slice p8 n8 c8, .bool false, .slice q8 m8 d8] := by simp only [List.map, e8] at b5; exact b5
    obtain ⟨-, A', eA, b6⟩ := hF 7 _ _ rfl rfl
    rw [e6] at eA; injection eA with eA; injection eA with eA; injection eA with eA; subst eA
    replace b6 : Bx W1 A6 75 #[.bool g10, .slice p10 n10 c10, .bool false, .slice q10 m10 d10] := by simp only [List.map, e10] at b6; exact b6
    have dd5_6 : A5 ≠ A6 := fun e => hD 4 5 _ _ _ _ _ _ _ _ (by decide) rfl rfl rfl rfl rfl rfl 5 6 rfl rfl (by rw [e5, e6, e])
    clear hF hD
    simp only [e7, e8, e9, e10, e5, e6]
    replace b2 := b2.keep f (by simp)
    replace b3 := b3.keep f (by simp)
    replace b4 := b4.keep f (by simp)
    replace ht := ht.kp kp
    replace h1 := h1.kp kp
    replace h2 := h2.kp kp
    replace hw := hw.trans (a := w) (b := W) (c := W1) f (by simp)
    have hsz1 := f.size
    clear f kp
    have hlt_b5 := b5.lt
    have hlt_b6 := b6.lt
    have i8 : VI W1 (L + 1) (iv g8 (val X8)) (iw g8 p8 n8 c8) := ⟨_, _, _, _, _, rfl, s8, rfl, l8⟩
    have j8 : VI W1 (L + 1) ((val Y8 : Nat) : Int) (iw false q8 m8 d8) := ⟨_, _, _, _, _, rfl, t8, rfl, lm8⟩
    have i10 : VI W1 (M + 1) (iv g10 (val X10)) (iw g10 p10 n10 c10) := ⟨_, _, _, _, _, rfl, s10, rfl, l10⟩
    have j10 : VI W1 (M + 1) ((val Y10 : Nat) : Int) (iw false q10 m10 d10) := ⟨_, _, _, _, _, rfl, t10, rfl, lm10⟩
    obtain ⟨za, hza⟩ : ∃ z, iv g8 (val X8) * iv g10 (val X10) = z := ⟨_, rfl⟩
    obtain ⟨zb, hzb⟩ : ∃ z, ((val Y8 : Nat) : Int) * ((val Y10 : Nat) : Int) = z := ⟨_, rfl⟩
    have hN : mkRat za (val Y8 * val Y10) = r * s := by rw [← hza, ← z8, ← z10, Rat.mkRat_mul_mkRat]
    have hla : nz za ≤ L + M + 2 := by rw [← hza]; have := nz_mul (iv g8 (val X8)) (iv g10 (val X10)); have := nz_len i8; have := nz_len i10; omega
    have hlb : nz zb ≤ L + M + 2 := by rw [← hzb]; have := nz_mul ((val Y8 : Nat) : Int) ((val Y10 : Nat) : Int); have := nz_len j8; have := nz_len j10; omega
    have hD : zb = ((val Y8 * val Y10 : Nat) : Int) := by rw [← hzb, Int.natCast_mul]
    have hY := Nat.mul_ne_zero y8 y10
    have Hhza := Lib.hid hza; clear hza
    have Hhzb := Lib.hid hzb; clear hzb
    have HhD := Lib.hid hD; clear hD
    have HhN := Lib.hid hN; clear hN
    have HhY := Lib.hid hY; clear hY
    clear z8 z10 y8 y10
    have c_b2_0 := b2.cell (j := 0) rfl
    have c_b2_1 := b2.cell (j := 1) rfl
    have c_b2_2 := b2.cell (j := 2) rfl
    have c_b3_0 := b3.cell (j := 0) rfl
    have c_b3_1 := b3.cell (j := 1) rfl
    have c_b3_2 := b3.cell (j := 2) rfl
    have c_b4_0 := b4.cell (j := 0) rfl
    have c_b4_1 := b4.cell (j := 1) rfl
    have c_b4_2 := b4.cell (j := 2) rfl
    have c_b5_0 := b5.cell (j := 0) rfl
    have c_b5_1 := b5.cell (j := 1) rfl
    have c_b5_2 := b5.cell (j := 2) rfl
    have c_b5_3 := b5.cell (j := 3) rfl
    have c_b6_0 := b6.cell (j := 0) rfl
    have c_b6_1 := b6.cell (j := 1) rfl
    have c_b6_2 := b6.cell (j := 2) rfl
    have c_b6_3 := b6.cell (j := 3) rfl
    go_upto_region 2 with fail
    clear c_b2_0 c_b2_1 c_b2_2 c_b3_0 c_b3_1 c_b3_2 c_b4_0 c_b4_1 c_b4_2 c_b5_0 c_b5_1 c_b5_2 c_b5_3 c_b6_0 c_b6_1 c_b6_2 c_b6_3
    refine wp_region_inv (w0 := W1) (by kernel_rfl) [true, true, true, true, false, false, false, true, true, true, true, true, true, true, true, true, true, true, true, true, true, true, true] [(w.heap.size + 2)]
      [⟨[11], F1 (fun x _ => x = .pointer (some ⟨A5, 0, none⟩)), .pure⟩,
    ⟨[12], F1 (fun x _ => x = .agg #[.bool g8, .slice p8 n8 c8]), .pure⟩,
    ⟨[13], F1 (fun x _ => x = .pointer (some ⟨A6, 0, none⟩)), .pure⟩,
    ⟨[14], F1 (fun x _ => x = .agg #[.bool g10, .slice p10 n10 c10]), .pure⟩,
    ⟨[15], F1 (fun x w => VZ w za x), .pure⟩,
    ⟨[16], F1 (fun x _ => x = .pointer (some ⟨A5, 2, none⟩)), .pure⟩,
    ⟨[17], F1 (fun x _ => x = .agg #[.bool false, .slice q8 m8 d8]), .pure⟩,
    ⟨[18], F1 (fun x _ => x = .pointer (some ⟨A6, 2, none⟩)), .pure⟩,
    ⟨[19], F1 (fun x _ => x = .agg #[.bool false, .slice q10 m10 d10]), .pure⟩,
    ⟨[20], F1 (fun x w => VZ w zb x), .pure⟩,
    ⟨[21], F1 (fun x w => VF w (L + M + 2) (r * s) x), .pure⟩,
    ⟨[22], F1 (fun x w => VQ w (r * s) x), .pure⟩,
    ⟨[22], F0, .out 0 26 cellsOf⟩]
      [[], [0], [], [2], [0, 1, 2, 3], [], [5], [], [7], [0, 1, 2, 3, 4, 5, 6, 7, 8], [0, 1, 2, 3, 4, 5, 6, 7, 8, 9], [0, 1, 2, 3, 4, 5, 6, 7, 8, 9, 10], [0, 1, 2, 3, 4, 5, 6, 7, 8, 9, 10, 11]] ?mk2 ?hmk2 (by kernel_rfl)
      ⟨F1.st (st_eq _), F1.st (st_eq _), F1.st (st_eq _), F1.st (st_eq _), F1.st (fun _ _ _ k h => h.kp k), F1.st (st_eq _), F1.st (st_eq _), F1.st (st_eq _), F1.st (st_eq _), F1.st (fun _ _ _ k h => h.kp k), F1.st (fun _ _ _ k h => h.kp k), F1.st (fun _ _ _ k h => h.kp k), F0.st, trivial⟩ (by simp) (by simp <;> omega) (n := 13) rfl ⟨⟨⟨⟨⟨⟨⟨⟨⟨⟨⟨⟨⟨trivial, ?s2_0⟩, ?s2_1⟩, ?s2_2⟩, ?s2_3⟩, ?s2_4⟩, ?s2_5⟩, ?s2_6⟩, ?s2_7⟩, ?s2_8⟩, ?s2_9⟩, ?s2_10⟩, ?s2_11⟩, ?s2_12⟩ ?done2
    case hmk2 => intro v; simp only [mkv, mix, Nat.reduceAdd]; rfl
    case s2_0 =>
      refine stepOk_of _ _ rfl rfl ?_
      intro v W2 f kp ho hd K' hK
      go_simp
      exact hK _ _ (Fr.refl [] _) rfl
    case s2_1 =>
      refine stepOk_of _ _ rfl rfl ?_
      intro v W2 f kp ho hd K' hK
      have e11 : v 11 = .pointer (some ⟨A5, 0, none⟩) := (hd 0 (by decide) _ _ rfl rfl).1
      have k0 := (b5.keep f (by simp <;> omega)).cell (j := 0) rfl
      have k1 := (b5.keep f (by simp <;> omega)).cell (j := 1) rfl
      simp only [e11] at hK ⊢
      go_simp
      exact hK _ _ (Fr.refl [] _) rfl
    case s2_2 =>
      refine stepOk_of _ _ rfl rfl ?_
      intro v W2 f kp ho hd K' hK
      go_simp
      exact hK _ _ (Fr.refl [] _) rfl
    case s2_3 =>
      refine stepOk_of _ _ rfl rfl ?_
      intro v W2 f kp ho hd K' hK
      have e13 : v 13 = .pointer (some ⟨A6, 0, none⟩) := (hd 2 (by decide) _ _ rfl rfl).1
      have k0 := (b6.keep f (by simp <;> omega)).cell (j := 0) rfl
      have k1 := (b6.keep f (by simp <;> omega)).cell (j := 1) rfl
      simp only [e13] at hK ⊢
      go_simp
      exact hK _ _ (Fr.refl [] _) rfl
    case s2_4 =>
      refine stepOk_of _ _ rfl rfl ?_
      intro v W2 f kp ho hd K' hK
      have e12 : v 12 = .agg #[.bool g8, .slice p8 n8 c8] := (hd 1 (by decide) _ _ rfl rfl).1
      have e14 : v 14 = .agg #[.bool g10, .slice p10 n10 c10] := (hd 3 (by decide) _ _ rfl rfl).1
      simp only [e12, e14] at hK ⊢
      go_simp
      refine (imul_e Hhza.out (i8.kp kp) (i10.kp kp) (by omega) (by omega)).mono ?_
      rintro e W' ⟨x, rfl, hx, ff⟩
      exact hK x W' ff hx
    case s2_5 =>
      refine stepOk_of _ _ rfl rfl ?_
      intro v W2 f kp ho hd K' hK
      go_simp
      exact hK _ _ (Fr.refl [] _) rfl
    case s2_6 =>
      refine stepOk_of _ _ rfl rfl ?_
      intro v W2 f kp ho hd K' hK
      have e16 : v 16 = .pointer (some ⟨A5, 2, none⟩) := (hd 5 (by decide) _ _ rfl rfl).1
      have k0 := (b5.keep f (by simp <;> omega)).cell (j := 2) rfl
      have k1 := (b5.keep f (by simp <;> omega)).cell (j := 3) rfl
      simp only [e16] at hK ⊢
      go_simp
      exact hK _ _ (Fr.refl [] _) rfl
    case s2_7 =>
      refine stepOk_of _ _ rfl rfl ?_
      intro v W2 f kp ho hd K' hK
      go_simp
      exact hK _ _ (Fr.refl [] _) rfl
    case s2_8 =>
      refine stepOk_of _ _ rfl rfl ?_
      intro v W2 f kp ho hd K' hK
      have e18 : v 18 = .pointer (some ⟨A6, 2, none⟩) := (hd 7 (by decide) _ _ rfl rfl).1
      have k0 := (b6.keep f (by simp <;> omega)).cell (j := 2) rfl
      have k1 := (b6.keep f (by simp <;> omega)).cell (j := 3) rfl
      simp only [e18] at hK ⊢
      go_simp
      exact hK _ _ (Fr.refl [] _) rfl
    case s2_9 =>
      refine stepOk_of _ _ rfl rfl ?_
      intro v W2 f kp ho hd K' hK
      have e17 : v 17 = .agg #[.bool false, .slice q8 m8 d8] := (hd 6 (by decide) _ _ rfl rfl).1
      have e19 : v 19 = .agg #[.bool false, .slice q10 m10 d10] := (hd 8 (by decide) _ _ rfl rfl).1
      simp only [e17, e19] at hK ⊢
      go_simp
      refine (imul_e Hhzb.out (j8.kp kp) (j10.kp kp) (by omega) (by omega)).mono ?_
      rintro e W' ⟨x, rfl, hx, ff⟩
      exact hK x W' ff hx
    case s2_10 =>
      refine stepOk_of _ _ rfl rfl ?_
      intro v W2 f kp ho hd K' hK
      have f15 : VZ W2 za (v 15) := (hd 4 (by decide) _ _ rfl rfl).1
      have o15 := f15
      obtain ⟨p15, c15, e15, s15⟩ := o15
      have f20 : VZ W2 zb (v 20) := (hd 9 (by decide) _ _ rfl rfl).1
      have o20 := f20
      obtain ⟨p20, c20, e20, s20⟩ := o20
      simp only [e15, e20] at hK ⊢
      go_simp
      exact hK _ _ (Fr.refl [] _) (build_f s15 s20 HhD.out HhN.out HhY.out hla hlb)
    case s2_11 =>
      refine stepOk_of _ _ rfl rfl ?_
      intro v W2 f kp ho hd K' hK
      have f21 : VF W2 (L + M + 2) (r * s) (v 21) := (hd 10 (by decide) _ _ rfl rfl).1
      go_simp
      refine (result_v (ht.kp kp) f21 (by omega)).mono ?_
      rintro e W' ⟨x, rfl, hx, ff⟩
      exact hK x W' ff hx
    case s2_12 =>
      refine stepOk_of _ _ rfl rfl ?_
      intro v W2 f kp ho hd K' hK
      have f22 : VQ W2 (r * s) (v 22) := (hd 11 (by decide) _ _ rfl rfl).1
      have o22 := f22
      obtain ⟨p22, c22, q22, d22, e22, s22, t22⟩ := o22
      have bz : Bx W2 (w.heap.size + 2) 26 #[.bool false, .slice none 0 0, .slice none 0 0] := (ho 0 _ rfl (by kernel_rfl)).trans b4
      have k0 := bz.cell (j := 0) rfl
      have fr0 := bz.free 0
      have k1 := bz.cell (j := 1) rfl
      have fr1 := bz.free 1
      have k2 := bz.cell (j := 2) rfl
      have fr2 := bz.free 2
      simp only [e22] at hK ⊢
      go_simp
      exact hK undef _ (move_out (cs := #[.bool (decide (((r * s)).num < 0)), .slice p22 (dg ((r * s)).num.natAbs).length c22, .slice q22 (dg ((r * s)).den).length d22]) rfl rfl (by simp only [List.map, e22]; rfl) (bz.soft rfl) rfl rfl ((((Fr.refl _ _).put1 0 _).put1 1 _).put1 2 _) ((((bz.put1 0 _).put1 1 _).put1 2 _))) trivial
    case done2 =>
      intro v W2 f kp hF hD
      have e11 : v 11 = .pointer (some ⟨A5, 0, none⟩) := (hF 0 _ _ rfl rfl).1
      have e12 : v 12 = .agg #[.bool g8, .slice p8 n8 c8] := (hF 1 _ _ rfl rfl).1
      have e13 : v 13 = .pointer (some ⟨A6, 0, none⟩) := (hF 2 _ _ rfl rfl).1
      have e14 : v 14 = .agg #[.bool g10, .slice p10 n10 c10] := (hF 3 _ _ rfl rfl).1
      have f15 : VZ W2 za (v 15) := (hF 4 _ _ rfl rfl).1
      have e16 : v 16 = .pointer (some ⟨A5, 2, none⟩) := (hF 5 _ _ rfl rfl).1
      have e17 : v 17 = .agg #[.bool false, .slice q8 m8 d8] := (hF 6 _ _ rfl rfl).1
      have e18 : v 18 = .pointer (some ⟨A6, 2, none⟩) := (hF 7 _ _ rfl rfl).1
      have e19 : v 19 = .agg #[.bool false, .slice q10 m10 d10] := (hF 8 _ _ rfl rfl).1
      have f20 : VZ W2 zb (v 20) := (hF 9 _ _ rfl rfl).1
      have f21 : VF W2 (L + M + 2) (r * s) (v 21) := (hF 10 _ _ rfl rfl).1
      have f22 : VQ W2 (r * s) (v 22) := (hF 11 _ _ rfl rfl).1
      have o22 := f22
      obtain ⟨p22, c22, q22, d22, e22, s22, t22⟩ := o22
      rw [e22] at f22
      obtain ⟨-, A', eA, nb4⟩ := hF 12 _ _ rfl rfl
      injection eA with eA; subst eA
      replace nb4 : Bx W2 (w.heap.size + 2) 26 #[.bool (decide (((r * s)).num < 0)), .slice p22 (dg ((r * s)).num.natAbs).length c22, .slice q22 (dg ((r * s)).den).length d22] := by simp only [List.map, e22] at nb4; exact nb4
      clear hF hD
      simp only [e11, e12, e13, e14, e16, e17, e18, e19, e22]
      replace b2 := b2.keep f (by simp <;> omega)
      replace b3 := b3.keep f (by simp <;> omega)
      replace b5 := b5.keep f (by simp <;> omega)
      replace b6 := b6.keep f (by simp <;> omega)
      clear b4; have b4 := nb4; clear nb4
      replace ht := ht.kp kp
      replace h1 := h1.kp kp
      replace h2 := h2.kp kp
      replace s8 := s8.kp kp
      replace t8 := t8.kp kp
      replace f8 := f8.kp kp
      replace s10 := s10.kp kp
      replace t10 := t10.kp kp
      replace f10 := f10.kp kp
      replace i8 := i8.kp kp
      replace j8 := j8.kp kp
      replace i10 := i10.kp kp
      replace j10 := j10.kp kp
      replace hw := hw.trans (a := w) (b := W1) (c := W2) f (fun x hx hl => by simp at hx; omega)
      have hsz2 := f.size
      clear f kp
      go_wp2_with fail
      have c_b4_0 := b4.cell (j := 0) rfl
      have c_b4_1 := b4.cell (j := 1) rfl
      have c_b4_2 := b4.cell (j := 2) rfl
      exact bodyPost_ret (v := rw' (decide (((r * s)).num < 0)) p22 (dg ((r * s)).num.natAbs).length c22 q22 (dg ((r * s)).den).length d22) (by simp [results, Tryz.results35, go_sem, c_b4_0, c_b4_1, c_b4_2]) rfl ⟨_, rfl, f22, hw⟩

set_option maxRecDepth 100000 in
set_option maxHeartbeats 1000000 in
theorem cmp_v {w : World} {L M : Nat} {r s : Rat} {va vb : Value} (ht : Tab w) (h1 : VR w L r va) (h2 : VR w M s vb) (_hL : L ≤ 65535) (_hM : M ≤ 65535) : Calls Tryz.prog 23 #[va, vb] w (RN (cmpQ r s) w) := by
  obtain ⟨cq, hcq⟩ : ∃ z, cmpQ r s = z := ⟨_, rfl⟩
  rw [hcq]
  have o_h1 := h1
  obtain ⟨ga, pa, na, ca, Xa, qa, ma, da, Ya, rfl, -, -, -, -, -⟩ := o_h1
  have o_h2 := h2
  obtain ⟨gb, pb, nb, cb, Xb, qb, mb, db, Yb, rfl, -, -, -, -, -⟩ := o_h2
  go_enter Tryz.func23, Tryz.ntmps23
  go_upto_region 1 with fail
  have hw : Fr [] w ((w.alloc (Obj.cells #[.bool ga, .slice pa na ca, .slice qa ma da] 26)).alloc (Obj.cells #[.bool gb, .slice pb nb cb, .slice qb mb db] 26)) := ((Fr.refl _ _).alloc _).alloc _
  have b2 : Bx ((w.alloc (Obj.cells #[.bool ga, .slice pa na ca, .slice qa ma da] 26)).alloc (Obj.cells #[.bool gb, .slice pb nb cb, .slice qb mb db] 26)) w.heap.size 26 #[.bool ga, .slice pa na ca, .slice qa ma da] := (Bx.made' (by simp) _ _).kept ((Fr.refl _ _).alloc _)
  have b3 : Bx ((w.alloc (Obj.cells #[.bool ga, .slice pa na ca, .slice qa ma da] 26)).alloc (Obj.cells #[.bool gb, .slice pb nb cb, .slice qb mb db] 26)) (w.heap.size + 1) 26 #[.bool gb, .slice pb nb cb, .slice qb mb db] := (Bx.made' (by simp) _ _).kept (Fr.refl _ _)
  generalize ((w.alloc (Obj.cells #[.bool ga, .slice pa na ca, .slice qa ma da] 26)).alloc (Obj.cells #[.bool gb, .slice pb nb cb, .slice qb mb db] 26)) = W at *
  have hbs := b3.lt
  replace ht := ht.kept hw
  replace h1 := h1.kept hw
  replace h2 := h2.kept hw
  refine wp_region_inv (w0 := W) (by kernel_rfl) [true, true, false, false, false, true, true, true, true, true, true, false, false, false, false, false, false, false, false, false, false, false] []
    [⟨[7], F1 (fun x _ => x = .agg #[.bool ga, .slice pa na ca, .slice qa ma da]), .pure⟩,
    ⟨[8], F1 (fun x w => VF w (L + 1) r x), .pure⟩,
    ⟨[9], F1 (fun x _ => x = .agg #[.bool gb, .slice pb nb cb, .slice qb mb db]), .pure⟩,
    ⟨[10], F1 (fun x w => VF w (M + 1) s x), .pure⟩,
    ⟨[], F0, .new 75 4⟩,
    ⟨[], F0, .new 75 4⟩,
    ⟨[8], F0, .store 5 75 cellsOf⟩,
    ⟨[10], F0, .store 6 75 cellsOf⟩]
    [[], [0], [], [0, 1, 2], [], [], [0, 1, 2, 3, 4, 5], [0, 1, 2, 3, 4, 5, 6]] ?mk1 ?hmk1 (by kernel_rfl)
    ⟨F1.st (st_eq _), F1.st (fun _ _ _ k h => h.kp k), F1.st (st_eq _), F1.st (fun _ _ _ k h => h.kp k), F0.st, F0.st, F0.st, F0.st, trivial⟩ (by simp) (by simp) (n := 8) rfl ⟨⟨⟨⟨⟨⟨⟨⟨trivial, ?s1_0⟩, ?s1_1⟩, ?s1_2⟩, ?s1_3⟩, ?s1_4⟩, ?s1_5⟩, ?s1_6⟩, ?s1_7⟩ ?done1
  case hmk1 => intro v; simp only [mkv, mix, Nat.reduceAdd]; rfl
  case s1_0 =>
    refine stepOk_of _ _ rfl rfl ?_
    intro v W1 f kp ho hd K' hK
    have k0 := (b2.keep f (by simp)).cell (j := 0) rfl
    have k1 := (b2.keep f (by simp)).cell (j := 1) rfl
    have k2 := (b2.keep f (by simp)).cell (j := 2) rfl
    go_simp
    exact hK _ _ (Fr.refl [] _) rfl
  case s1_1 =>
    refine stepOk_of _ _ rfl rfl ?_
    intro v W1 f kp ho hd K' hK
    have e7 : v 7 = .agg #[.bool ga, .slice pa na ca, .slice qa ma da] := (hd 0 (by decide) _ _ rfl rfl).1
    simp only [e7] at hK ⊢
    go_simp
    refine (read_v (h1.kp kp) (by omega)).mono ?_
    rintro e W' ⟨x, rfl, hx, ff⟩
    exact hK x W' ff hx
  case s1_2 =>
    refine stepOk_of _ _ rfl rfl ?_
    intro v W1 f kp ho hd K' hK
    have k0 := (b3.keep f (by simp)).cell (j := 0) rfl
    have k1 := (b3.keep f (by simp)).cell (j := 1) rfl
    have k2 := (b3.keep f (by simp)).cell (j := 2) rfl
    go_simp
    exact hK _ _ (Fr.refl [] _) rfl
  case s1_3 =>
    refine stepOk_of _ _ rfl rfl ?_
    intro v W1 f kp ho hd K' hK
    have e9 : v 9 = .agg #[.bool gb, .slice pb nb cb, .slice qb mb db] := (hd 2 (by decide) _ _ rfl rfl).1
    simp only [e9] at hK ⊢
    go_simp
    refine (read_v (h2.kp kp) (by omega)).mono ?_
    rintro e W' ⟨x, rfl, hx, ff⟩
    exact hK x W' ff hx
  case s1_4 =>
    refine stepOk_of _ _ rfl rfl ?_
    intro v W1 f kp ho hd K' hK
    go_simp
    exact hK _ _ (move_new rfl rfl rfl rfl rfl) trivial
  case s1_5 =>
    refine stepOk_of _ _ rfl rfl ?_
    intro v W1 f kp ho hd K' hK
    go_simp
    exact hK _ _ (move_new rfl rfl rfl rfl rfl) trivial
  case s1_6 =>
    refine stepOk_of _ _ rfl rfl ?_
    intro v W1 f kp ho hd K' hK
    obtain ⟨-, A5, e5, -, sb5⟩ := hd 4 (by decide) _ _ rfl rfl
    have f8 : VF W1 (L + 1) r (v 8) := (hd 1 (by decide) _ _ rfl rfl).1
    have o8 := f8
    obtain ⟨g8, p8, n8, c8, X8, q8, m8, d8, Y8, e8, s8, t8, z8, y8, l8, lm8⟩ := o8
    obtain ⟨zz0, zz1, zz2, zz3, bz⟩ := sb5.open4
    have k0 := bz.cell (j := 0) rfl
    have fr0 := bz.free 0
    have k1 := bz.cell (j := 1) rfl
    have fr1 := bz.free 1
    have k2 := bz.cell (j := 2) rfl
    have fr2 := bz.free 2
    have k3 := bz.cell (j := 3) rfl
    have fr3 := bz.free 3
    simp only [e5, e8] at hK ⊢
    go_simp
    exact hK undef _ (move_store (cs := #[.bool g8, .slice p8 n8 c8, .bool false, .slice q8 m8 d8]) rfl e5 (by simp only [List.map, e8]; rfl) sb5 rfl rfl (((((Fr.refl _ _).put1 0 _).put1 1 _).put1 2 _).put1 3 _) (((((bz.put1 0 _).put1 1 _).put1 2 _).put1 3 _))) trivial
  case s1_7 =>
    refine stepOk_of _ _ rfl rfl ?_
    intro v W1 f kp ho hd K' hK
    obtain ⟨-, A6, e6, -, sb6⟩ := hd 5 (by decide) _ _ rfl rfl
    have f10 : VF W1 (M + 1) s (v 10) := (hd 3 (by decide) _ _ rfl rfl).1
    have o10 := f10
    obtain ⟨g10, p10, n10, c10, X10, q10, m10, d10, Y10, e10, s10, t10, z10, y10, l10, lm10⟩ := o10
    obtain ⟨zz0, zz1, zz2, zz3, bz⟩ := sb6.open4
    have k0 := bz.cell (j := 0) rfl
    have fr0 := bz.free 0
    have k1 := bz.cell (j := 1) rfl
    have fr1 := bz.free 1
    have k2 := bz.cell (j := 2) rfl
    have fr2 := bz.free 2
    have k3 := bz.cell (j := 3) rfl
    have fr3 := bz.free 3
    simp only [e6, e10] at hK ⊢
    go_simp
    exact hK undef _ (move_store (cs := #[.bool g10, .slice p10 n10 c10, .bool false, .slice q10 m10 d10]) rfl e6 (by simp only [List.map, e10]; rfl) sb6 rfl rfl (((((Fr.refl _ _).put1 0 _).put1 1 _).put1 2 _).put1 3 _) (((((bz.put1 0 _).put1 1 _).put1 2 _).put1 3 _))) trivial
  case done1 =>
    intro v W1 f kp hF hD
    have e7 : v 7 = .agg #[.bool ga, .slice pa na ca, .slice qa ma da] := (hF 0 _ _ rfl rfl).1
    have f8 : VF W1 (L + 1) r (v 8) := (hF 1 _ _ rfl rfl).1
    have o8 := f8
    obtain ⟨g8, p8, n8, c8, X8, q8, m8, d8, Y8, e8, s8, t8, z8, y8, l8, lm8⟩ := o8
    rw [e8] at f8
    have e9 : v 9 = .agg #[.bool gb, .slice pb nb cb, .slice qb mb db] := (hF 2 _ _ rfl rfl).1
    have f10 : VF W1 (M + 1) s (v 10) := (hF 3 _ _ rfl rfl).1
    have o10 := f10
    obtain ⟨g10, p10, n10, c10, X10, q10, m10, d10, Y10, e10, s10, t10, z10, y10, l10, lm10⟩ := o10
    rw [e10] at f10
    obtain ⟨-, A5, e5, g5, -⟩ := hF 4 _ _ rfl rfl
    obtain ⟨-, A6, e6, g6, -⟩ := hF 5 _ _ rfl rfl
    obtain ⟨-, A', eA, b5⟩ := hF 6 _ _ rfl rfl
    rw [e5] at eA; injection eA with eA; injection eA with eA; injection eA with eA; subst eA
    replace b5 : Bx W1 A5 75 #[.bool g8, .slice p8 n8 c8, .bool false, .slice q8 m8 d8] := by simp only [List.map, e8] at b5; exact b5
    obtain ⟨-, A', eA, b6⟩ := hF 7 _ _ rfl rfl
    rw [e6] at eA; injection eA with eA; injection eA with eA; injection eA with eA; subst eA
    replace b6 : Bx W1 A6 75 #[.bool g10, .slice p10 n10 c10, .bool false, .slice q10 m10 d10] := by simp only [List.map, e10] at b6; exact b6
    have dd5_6 : A5 ≠ A6 := fun e => hD 4 5 _ _ _ _ _ _ _ _ (by decide) rfl rfl rfl rfl rfl rfl 5 6 rfl rfl (by rw [e5, e6, e])
    clear hF hD
    simp only [e7, e8, e9, e10, e5, e6]
    replace b2 := b2.keep f (by simp)
    replace b3 := b3.keep f (by simp)
    replace ht := ht.kp kp
    replace h1 := h1.kp kp
    replace h2 := h2.kp kp
    replace hw := hw.trans (a := w) (b := W) (c := W1) f (by simp)
    have hsz1 := f.size
    clear f kp
    have hlt_b5 := b5.lt
    have hlt_b6 := b6.lt
    have i8 : VI W1 (L + 1) (iv g8 (val X8)) (iw g8 p8 n8 c8) := ⟨_, _, _, _, _, rfl, s8, rfl, l8⟩
    have j8 : VI W1 (L + 1) ((val Y8 : Nat) : Int) (iw false q8 m8 d8) := ⟨_, _, _, _, _, rfl, t8, rfl, lm8⟩
    have i10 : VI W1 (M + 1) (iv g10 (val X10)) (iw g10 p10 n10 c10) := ⟨_, _, _, _, _, rfl, s10, rfl, l10⟩
    have j10 : VI W1 (M + 1) ((val Y10 : Nat) : Int) (iw false q10 m10 d10) := ⟨_, _, _, _, _, rfl, t10, rfl, lm10⟩
    obtain ⟨za, hza⟩ : ∃ z, iv g8 (val X8) * ((val Y10 : Nat) : Int) = z := ⟨_, rfl⟩
    obtain ⟨zb, hzb⟩ : ∃ z, iv g10 (val X10) * ((val Y8 : Nat) : Int) = z := ⟨_, rfl⟩
    have hla : nz za ≤ L + M + 2 := by rw [← hza]; have := nz_mul (iv g8 (val X8)) ((val Y10 : Nat) : Int); have := nz_len i8; have := nz_len j10; omega
    have hlb : nz zb ≤ L + M + 2 := by rw [← hzb]; have := nz_mul (iv g10 (val X10)) ((val Y8 : Nat) : Int); have := nz_len i10; have := nz_len j8; omega
    have hN : cmpZ za zb = cq := by rw [← hza, ← hzb, ← hcq]; exact cmp_mk z8 z10 y8 y10
    have Hhza := Lib.hid hza; clear hza
    have Hhzb := Lib.hid hzb; clear hzb
    have HhN := Lib.hid hN; clear hN
    have Hhcq := Lib.hid hcq; clear hcq
    clear z8 z10 y8 y10
    have c_b2_0 := b2.cell (j := 0) rfl
    have c_b2_1 := b2.cell (j := 1) rfl
    have c_b2_2 := b2.cell (j := 2) rfl
    have c_b3_0 := b3.cell (j := 0) rfl
    have c_b3_1 := b3.cell (j := 1) rfl
    have c_b3_2 := b3.cell (j := 2) rfl
    have c_b5_0 := b5.cell (j := 0) rfl
    have c_b5_1 := b5.cell (j := 1) rfl
    have c_b5_2 := b5.cell (j := 2) rfl
    have c_b5_3 := b5.cell (j := 3) rfl
    have c_b6_0 := b6.cell (j := 0) rfl
    have c_b6_1 := b6.cell (j := 1) rfl
    have c_b6_2 := b6.cell (j := 2) rfl
    have c_b6_3 := b6.cell (j := 3) rfl
    go_upto_region 2 with fail
    clear c_b2_0 c_b2_1 c_b2_2 c_b3_0 c_b3_1 c_b3_2 c_b5_0 c_b5_1 c_b5_2 c_b5_3 c_b6_0 c_b6_1 c_b6_2 c_b6_3
    refine wp_region_inv (w0 := W1) (by kernel_rfl) [true, true, true, true, true, false, false, true, true, true, true, true, true, true, true, true, true, true, true, true, true, true] []
      [⟨[11], F1 (fun x _ => x = .pointer (some ⟨A5, 0, none⟩)), .pure⟩,
    ⟨[12], F1 (fun x _ => x = .agg #[.bool g8, .slice p8 n8 c8]), .pure⟩,
    ⟨[13], F1 (fun x _ => x = .pointer (some ⟨A6, 2, none⟩)), .pure⟩,
    ⟨[14], F1 (fun x _ => x = .agg #[.bool false, .slice q10 m10 d10]), .pure⟩,
    ⟨[15], F1 (fun x w => VZ w za x), .pure⟩,
    ⟨[16], F1 (fun x _ => x = .pointer (some ⟨A6, 0, none⟩)), .pure⟩,
    ⟨[17], F1 (fun x _ => x = .agg #[.bool g10, .slice p10 n10 c10]), .pure⟩,
    ⟨[18], F1 (fun x _ => x = .pointer (some ⟨A5, 2, none⟩)), .pure⟩,
    ⟨[19], F1 (fun x _ => x = .agg #[.bool false, .slice q8 m8 d8]), .pure⟩,
    ⟨[20], F1 (fun x w => VZ w zb x), .pure⟩,
    ⟨[21], F1 (fun x _ => x = .int .i64 cq), .pure⟩,
    ⟨[4], F1 (fun x _ => x = .int .i64 cq), .pure⟩]
      [[], [0], [], [2], [0, 1, 2, 3], [], [5], [], [7], [0, 1, 2, 3, 4, 5, 6, 7, 8], [0, 1, 2, 3, 4, 5, 6, 7, 8, 9], [0, 1, 2, 3, 4, 5, 6, 7, 8, 9, 10]] ?mk2 ?hmk2 (by kernel_rfl)
      ⟨F1.st (st_eq _), F1.st (st_eq _), F1.st (st_eq _), F1.st (st_eq _), F1.st (fun _ _ _ k h => h.kp k), F1.st (st_eq _), F1.st (st_eq _), F1.st (st_eq _), F1.st (st_eq _), F1.st (fun _ _ _ k h => h.kp k), F1.st (st_eq _), F1.st (st_eq _), trivial⟩ (by simp) (by simp) (n := 12) rfl ⟨⟨⟨⟨⟨⟨⟨⟨⟨⟨⟨⟨trivial, ?s2_0⟩, ?s2_1⟩, ?s2_2⟩, ?s2_3⟩, ?s2_4⟩, ?s2_5⟩, ?s2_6⟩, ?s2_7⟩, ?s2_8⟩, ?s2_9⟩, ?s2_10⟩, ?s2_11⟩ ?done2
    case hmk2 => intro v; simp only [mkv, mix, Nat.reduceAdd]; rfl
    case s2_0 =>
      refine stepOk_of _ _ rfl rfl ?_
      intro v W2 f kp ho hd K' hK
      go_simp
      exact hK _ _ (Fr.refl [] _) rfl
    case s2_1 =>
      refine stepOk_of _ _ rfl rfl ?_
      intro v W2 f kp ho hd K' hK
      have e11 : v 11 = .pointer (some ⟨A5, 0, none⟩) := (hd 0 (by decide) _ _ rfl rfl).1
      have k0 := (b5.keep f (by simp)).cell (j := 0) rfl
      have k1 := (b5.keep f (by simp)).cell (j := 1) rfl
      simp only [e11] at hK ⊢
      go_simp
      exact hK _ _ (Fr.refl [] _) rfl
    case s2_2 =>
      refine stepOk_of _ _ rfl rfl ?_
      intro v W2 f kp ho hd K' hK
      go_simp
      exact hK _ _ (Fr.refl [] _) rfl
    case s2_3 =>
      refine stepOk_of _ _ rfl rfl ?_
      intro v W2 f kp ho hd K' hK
      have e13 : v 13 = .pointer (some ⟨A6, 2, none⟩) := (hd 2 (by decide) _ _ rfl rfl).1
      have k0 := (b6.keep f (by simp)).cell (j := 2) rfl
      have k1 := (b6.keep f (by simp)).cell (j := 3) rfl
      simp only [e13] at hK ⊢
      go_simp
      exact hK _ _ (Fr.refl [] _) rfl
    case s2_4 =>
      refine stepOk_of _ _ rfl rfl ?_
      intro v W2 f kp ho hd K' hK
      have e12 : v 12 = .agg #[.bool g8, .slice p8 n8 c8] := (hd 1 (by decide) _ _ rfl rfl).1
      have e14 : v 14 = .agg #[.bool false, .slice q10 m10 d10] := (hd 3 (by decide) _ _ rfl rfl).1
      simp only [e12, e14] at hK ⊢
      go_simp
      refine (imul_e Hhza.out (i8.kp kp) (j10.kp kp) (by omega) (by omega)).mono ?_
      rintro e W' ⟨x, rfl, hx, ff⟩
      exact hK x W' ff hx
    case s2_5 =>
      refine stepOk_of _ _ rfl rfl ?_
      intro v W2 f kp ho hd K' hK
      go_simp
      exact hK _ _ (Fr.refl [] _) rfl
    case s2_6 =>
      refine stepOk_of _ _ rfl rfl ?_
      intro v W2 f kp ho hd K' hK
      have e16 : v 16 = .pointer (some ⟨A6, 0, none⟩) := (hd 5 (by decide) _ _ rfl rfl).1
      have k0 := (b6.keep f (by simp)).cell (j := 0) rfl
      have k1 := (b6.keep f (by simp)).cell (j := 1) rfl
      simp only [e16] at hK ⊢
      go_simp
      exact hK _ _ (Fr.refl [] _) rfl
    case s2_7 =>
      refine stepOk_of _ _ rfl rfl ?_
      intro v W2 f kp ho hd K' hK
      go_simp
      exact hK _ _ (Fr.refl [] _) rfl
    case s2_8 =>
      refine stepOk_of _ _ rfl rfl ?_
      intro v W2 f kp ho hd K' hK
      have e18 : v 18 = .pointer (some ⟨A5, 2, none⟩) := (hd 7 (by decide) _ _ rfl rfl).1
      have k0 := (b5.keep f (by simp)).cell (j := 2) rfl
      have k1 := (b5.keep f (by simp)).cell (j := 3) rfl
      simp only [e18] at hK ⊢
      go_simp
      exact hK _ _ (Fr.refl [] _) rfl
    case s2_9 =>
      refine stepOk_of _ _ rfl rfl ?_
      intro v W2 f kp ho hd K' hK
      have e17 : v 17 = .agg #[.bool g10, .slice p10 n10 c10] := (hd 6 (by decide) _ _ rfl rfl).1
      have e19 : v 19 = .agg #[.bool false, .slice q8 m8 d8] := (hd 8 (by decide) _ _ rfl rfl).1
      simp only [e17, e19] at hK ⊢
      go_simp
      refine (imul_e Hhzb.out (i10.kp kp) (j8.kp kp) (by omega) (by omega)).mono ?_
      rintro e W' ⟨x, rfl, hx, ff⟩
      exact hK x W' ff hx
    case s2_10 =>
      refine stepOk_of _ _ rfl rfl ?_
      intro v W2 f kp ho hd K' hK
      have f15 : VZ W2 za (v 15) := (hd 4 (by decide) _ _ rfl rfl).1
      have f20 : VZ W2 zb (v 20) := (hd 9 (by decide) _ _ rfl rfl).1
      go_simp
      refine (icmp_e HhN.out (f15.raw hla) (f20.raw hlb) (by omega) (by omega)).mono ?_
      rintro e W' ⟨rfl, ff⟩
      exact hK _ W' ff rfl
    case s2_11 =>
      refine stepOk_of _ _ rfl rfl ?_
      intro v W2 f kp ho hd K' hK
      have e21 : v 21 = .int .i64 cq := (hd 10 (by decide) _ _ rfl rfl).1
      simp only [e21] at hK ⊢
      go_simp
      exact hK _ _ (Fr.refl [] _) rfl
    case done2 =>
      intro v W2 f kp hF hD
      have e11 : v 11 = .pointer (some ⟨A5, 0, none⟩) := (hF 0 _ _ rfl rfl).1
      have e12 : v 12 = .agg #[.bool g8, .slice p8 n8 c8] := (hF 1 _ _ rfl rfl).1
      have e13 : v 13 = .pointer (some ⟨A6, 2, none⟩) := (hF 2 _ _ rfl rfl).1
      have e14 : v 14 = .agg #[.bool false, .slice q10 m10 d10] := (hF 3 _ _ rfl rfl).1
      have f15 : VZ W2 za (v 15) := (hF 4 _ _ rfl rfl).1
      have e16 : v 16 = .pointer (some ⟨A6, 0, none⟩) := (hF 5 _ _ rfl rfl).1
      have e17 : v 17 = .agg #[.bool g10, .slice p10 n10 c10] := (hF 6 _ _ rfl rfl).1
      have e18 : v 18 = .pointer (some ⟨A5, 2, none⟩) := (hF 7 _ _ rfl rfl).1
      have e19 : v 19 = .agg #[.bool false, .slice q8 m8 d8] := (hF 8 _ _ rfl rfl).1
      have f20 : VZ W2 zb (v 20) := (hF 9 _ _ rfl rfl).1
      have e21 : v 21 = .int .i64 cq := (hF 10 _ _ rfl rfl).1
      have e4 : v 4 = .int .i64 cq := (hF 11 _ _ rfl rfl).1
      clear hF hD
      simp only [e11, e12, e13, e14, e16, e17, e18, e19, e21, e4]
      replace b2 := b2.keep f (by simp)
      replace b3 := b3.keep f (by simp)
      replace b5 := b5.keep f (by simp)
      replace b6 := b6.keep f (by simp)
      replace ht := ht.kp kp
      replace h1 := h1.kp kp
      replace h2 := h2.kp kp
      replace s8 := s8.kp kp
      replace t8 := t8.kp kp
      replace f8 := f8.kp kp
      replace s10 := s10.kp kp
      replace t10 := t10.kp kp
      replace f10 := f10.kp kp
      replace i8 := i8.kp kp
      replace j8 := j8.kp kp
      replace i10 := i10.kp kp
      replace j10 := j10.kp kp
      replace hw := hw.trans (a := w) (b := W1) (c := W2) f (by simp)
      have hsz2 := f.size
      clear f kp
      go_wp2_with fail
      exact bodyPost_ret (v := .int .i64 cq) (by simp [results, Tryz.results23, go_sem]) rfl ⟨rfl, hw⟩

end Go.Proofs.YtjjdbhohjphcoaaGreatDoor
