/- What the statements of this claim stand on: of Rat14, what they name -/
import Derived.Test.YtjjdbhohjphcoaaGreatDoorK27

namespace Go.Proofs.YtjjdbhohjphcoaaGreatDoor
open Go.RowKit

set_option maxRecDepth 100000 in
set_option maxHeartbeats 1000000 in
theorem div_0 {w : World} {L M : Nat} {r : Rat} {va vb : Value} (ht : Tab w) (h1 : VR w L r va) (h2 : VR w M 0 vb) (_hL : L ≤ 65535) (_hM : M ≤ 65535) : Calls Tryz.prog 16 #[va, vb] w fun e w' => e = .returned (.tuple #[rw' false none 0 0 none 0 0, .int .i64 3]) ∧ Fr [] w w' := by
  have o_h1 := h1
  obtain ⟨ga, pa, na, ca, Xa, qa, ma, da, Ya, rfl, -, -, -, -, -⟩ := o_h1
  have o_h2 := h2
  obtain ⟨gb, pb, nb, cb, Xb, qb, mb, db, Yb, rfl, -, -, -, -, -⟩ := o_h2
  go_enter Tryz.func16, Tryz.ntmps16
  go_upto_region 1 with fail
  have hw : Fr [] w (((w.alloc (Obj.cells #[.bool ga, .slice pa na ca, .slice qa ma da] 26)).alloc (Obj.cells #[.bool gb, .slice pb nb cb, .slice qb mb db] 26)).alloc (Obj.cells #[.bool false, .slice none 0 0, .slice none 0 0] 26)) := (((Fr.refl _ _).alloc _).alloc _).alloc _
  have b2 : Bx (((w.alloc (Obj.cells #[.bool ga, .slice pa na ca, .slice qa ma da] 26)).alloc (Obj.cells #[.bool gb, .slice pb nb cb, .slice qb mb db] 26)).alloc (Obj.cells #[.bool false, .slice none 0 0, .slice none 0 0] 26)) w.heap.size 26 #[.bool ga, .slice pa na ca, .slice qa ma da] := (Bx.made' (by simp) _ _).kept (((Fr.refl _ _).alloc _).alloc _)
  have b3 : Bx (((w.alloc (Obj.cells #[.bool ga, .slice pa na ca, .slice qa ma da] 26)).alloc (Obj.cells #[.bool gb, .slice pb nb cb, .slice qb mb db] 26)).alloc (Obj.cells #[.bool false, .slice none 0 0, .slice none 0 0] 26)) (w.heap.size + 1) 26 #[.bool gb, .slice pb nb cb, .slice qb mb db] := (Bx.made' (by simp) _ _).kept ((Fr.refl _ _).alloc _)
  have b4 : Bx (((w.alloc (Obj.cells #[.bool ga, .slice pa na ca, .slice qa ma da] 26)).alloc (Obj.cells #[.bool gb, .slice pb nb cb, .slice qb mb db] 26)).alloc (Obj.cells #[.bool false, .slice none 0 0, .slice none 0 0] 26)) (w.heap.size + 2) 26 #[.bool false, .slice none 0 0, .slice none 0 0] := (Bx.made' (by simp) _ _).kept (Fr.refl _ _)
  generalize (((w.alloc (Obj.cells #[.bool ga, .slice pa na ca, .slice qa ma da] 26)).alloc (Obj.cells #[.bool gb, .slice pb nb cb, .slice qb mb db] 26)).alloc (Obj.cells #[.bool false, .slice none 0 0, .slice none 0 0] 26)) = W at *
  have hbs := b4.lt
  replace ht := ht.kept hw
  replace h1 := h1.kept hw
  replace h2 := h2.kept hw
  refine wp_region_inv (w0 := W) (by kernel_rfl) [true, true, false, false, false, false, true, true, true, true, true, true, false, false, false, false, false, false, false, false, false, false, false, false, false] []
    [⟨[8], F1 (fun x _ => x = .agg #[.bool ga, .slice pa na ca, .slice qa ma da]), .pure⟩,
    ⟨[9], F1 (fun x w => VF w (L + 1) r x), .pure⟩,
    ⟨[10], F1 (fun x _ => x = .agg #[.bool gb, .slice pb nb cb, .slice qb mb db]), .pure⟩,
    ⟨[11], F1 (fun x w => VF w (M + 1) 0 x), .pure⟩,
    ⟨[], F0, .new 75 4⟩,
    ⟨[], F0, .new 75 4⟩,
    ⟨[9], F0, .store 6 75 cellsOf⟩,
    ⟨[11], F0, .store 7 75 cellsOf⟩]
    [[], [0], [], [0, 1, 2], [], [], [0, 1, 2, 3, 4, 5], [0, 1, 2, 3, 4, 5, 6]] ?mk1 ?hmk1 (by kernel_rfl)
    ⟨F1.st (st_eq _), F1.st (fun _ _ _ k h => h.kp k), F1.st (st_eq _), F1.st (fun _ _ _ k h => h.kp k), F0.st, F0.st, F0.st, F0.st, trivial⟩ (by simp) (by simp) (n := 8) rfl ⟨⟨⟨⟨⟨⟨⟨⟨trivial, ?s1_0⟩, ?s1_1⟩, ?s1_2⟩, ?s1_3⟩, ?s1_4⟩, ?s1_5⟩, ?s1_6⟩, ?s1_7⟩ ?done1
  case hmk1 => intro v; simp only [mkv, mix, Nat.reduceAdd]; rfl
  case s1_0 =>
    refine stepOk_of _ _ rfl rfl ?_
    intro v W1 f kp ho hd K' hK
    have k0 := (b2.keep f (by simp)).cell (j := 0) rfl
    have k1 := (b2.keep f (by simp)).cell (j := 1) rfl
    have k2 := (b2.keep f (by simp)).cell (j := 2) rfl
    go_simp
    exact hK _ _ (Fr.refl [] _) rfl
  case s1_1 =>
    refine stepOk_of _ _ rfl rfl ?_
    intro v W1 f kp ho hd K' hK
    have e8 : v 8 = .agg #[.bool ga, .slice pa na ca, .slice qa ma da] := (hd 0 (by decide) _ _ rfl rfl).1
    simp only [e8] at hK ⊢
    go_simp
    refine (read_v (h1.kp kp) (by omega)).mono ?_
    rintro e W' ⟨x, rfl, hx, ff⟩
    exact hK x W' ff hx
  case s1_2 =>
    refine stepOk_of _ _ rfl rfl ?_
    intro v W1 f kp ho hd K' hK
    have k0 := (b3.keep f (by simp)).cell (j := 0) rfl
    have k1 := (b3.keep f (by simp)).cell (j := 1) rfl
    have k2 := (b3.keep f (by simp)).cell (j := 2) rfl
    go_simp
    exact hK _ _ (Fr.refl [] _) rfl
  case s1_3 =>
    refine stepOk_of _ _ rfl rfl ?_
    intro v W1 f kp ho hd K' hK
    have e10 : v 10 = .agg #[.bool gb, .slice pb nb cb, .slice qb mb db] := (hd 2 (by decide) _ _ rfl rfl).1
    simp only [e10] at hK ⊢
    go_simp
    refine (read_v (h2.kp kp) (by omega)).mono ?_
    rintro e W' ⟨x, rfl, hx, ff⟩
    exact hK x W' ff hx
  case s1_4 =>
    refine stepOk_of _ _ rfl rfl ?_
    intro v W1 f kp ho hd K' hK
    go_simp
    exact hK _ _ (move_new rfl rfl rfl rfl rfl) trivial
  case s1_5 =>
    refine stepOk_of _ _ rfl rfl ?_
    intro v W1 f kp ho hd K' hK
    go_simp
    exact hK _ _ (move_new rfl rfl rfl rfl rfl) trivial
  case s1_6 =>
    refine stepOk_of _ _ rfl rfl ?_
    intro v W1 f kp ho hd K' hK
    obtain ⟨-, A6, e6, -, sb6⟩ := hd 4 (by decide) _ _ rfl rfl
    have f9 : VF W1 (L + 1) r (v 9) := (hd 1 (by decide) _ _ rfl rfl).1
    have o9 := f9
    obtain ⟨g9, p9, n9, c9, X9, q9, m9, d9, Y9, e9, s9, t9, z9, y9, l9, lm9⟩ := o9
    obtain ⟨zz0, zz1, zz2, zz3, bz⟩ := sb6.open4
    have k0 := bz.cell (j := 0) rfl
    have fr0 := bz.free 0
    have k1 := bz.cell (j := 1) rfl
    have fr1 := bz.free 1
    have k2 := bz.cell (j := 2) rfl
    have fr2 := bz.free 2
    have k3 := bz.cell (j := 3) rfl
    have fr3 := bz.free 3
    simp only [e6, e9] at hK ⊢
    go_simp
    exact hK undef _ (move_store (cs := #[.bool g9, .slice p9 n9 c9, .bool false, .slice q9 m9 d9]) rfl e6 (by simp only [List.map, e9]; rfl) sb6 rfl rfl (((((Fr.refl _ _).put1 0 _).put1 1 _).put1 2 _).put1 3 _) (((((bz.put1 0 _).put1 1 _).put1 2 _).put1 3 _))) trivial
  case s1_7 =>
    refine stepOk_of _ _ rfl rfl ?_
    intro v W1 f kp ho hd K' hK
    obtain ⟨-, A7, e7, -, sb7⟩ := hd 5 (by decide) _ _ rfl rfl
    have f11 : VF W1 (M + 1) 0 (v 11) := (hd 3 (by decide) _ _ rfl rfl).1
    have o11 := f11
    obtain ⟨g11, p11, n11, c11, X11, q11, m11, d11, Y11, e11, s11, t11, z11, y11, l11, lm11⟩ := o11
    obtain ⟨zz0, zz1, zz2, zz3, bz⟩ := sb7.open4
    have k0 := bz.cell (j := 0) rfl
    have fr0 := bz.free 0
    have k1 := bz.cell (j := 1) rfl
    have fr1 := bz.free 1
    have k2 := bz.cell (j := 2) rfl
    have fr2 := bz.free 2
    have k3 := bz.cell (j := 3) rfl
    have fr3 := bz.free 3
    simp only [e7, e11] at hK ⊢
    go_simp
    exact hK undef _ (move_store (cs := #[.bool g11, .slice p11 n11 c11, .bool false, .slice q11 m11 d11]) rfl e7 (by simp only [List.map, e11]; rfl) sb7 rfl rfl (((((Fr.refl _ _).put1 0 _).put1 1 _).put1 2 _).put1 3 _) (((((bz.put1 0 _).put1 1 _).put1 2 _).put1 3 _))) trivial
  case done1 =>
    intro v W1 f kp hF hD
    have e8 : v 8 = .agg #[.bool ga, .slice pa na ca, .slice qa ma da] := (hF 0 _ _ rfl rfl).1
    have f9 : VF W1 (L + 1) r (v 9) := (hF 1 _ _ rfl rfl).1
    have o9 := f9
    obtain ⟨g9, p9, n9, c9, X9, q9, m9, d9, Y9, e9, s9, t9, z9, y9, l9, lm9⟩ := o9
    rw [e9] at f9
    have e10 : v 10 = .agg #[.bool gb, .slice pb nb cb, .slice qb mb db] := (hF 2 _ _ rfl rfl).1
    have f11 : VF W1 (M + 1) 0 (v 11) := (hF 3 _ _ rfl rfl).1
    have o11 := f11
    obtain ⟨g11, p11, n11, c11, X11, q11, m11, d11, Y11, e11, s11, t11, z11, y11, l11, lm11⟩ := o11
    rw [e11] at f11
    obtain ⟨-, A6, e6, g6, -⟩ := hF 4 _ _ rfl rfl
    obtain ⟨-, A7, e7, g7, -⟩ := hF 5 _ _ rfl rfl
    obtain ⟨-, A', eA, b6⟩ := hF 6 _ _ rfl rfl
    rw [e6] at eA; injection eA with eA; injection eA with eA; injection eA with eA; subst eA
    replace b6 : Bx W1 A6 75 #[.bool g9, .slice p9 n9 c9, .bool false, .slice q9 m9 d9] := by simp only [List.map, e9] at b6; exact b6
    obtain ⟨-, A', eA, b7⟩ := hF 7 _ _ rfl rfl
    rw [e7] at eA; injection eA with eA; injection eA with eA; injection eA with eA; subst eA
    replace b7 : Bx W1 A7 75 #[.bool g11, .slice p11 n11 c11, .bool false, .slice q11 m11 d11] := by simp only [List.map, e11] at b7; exact b7
    have dd6_7 : A6 ≠ A7 := fun e => hD 4 5 _ _ _ _ _ _ _ _ (by decide) rfl rfl rfl rfl rfl rfl 6 7 rfl rfl (by rw [e6, e7, e])
    clear hF hD
    simp only [e8, e9, e10, e11, e6, e7]
    replace b2 := b2.keep f (by simp)
    replace b3 := b3.keep f (by simp)
    replace b4 := b4.keep f (by simp)
    replace ht := ht.kp kp
    replace h1 := h1.kp kp
    replace h2 := h2.kp kp
    replace hw := hw.trans (a := w) (b := W) (c := W1) f (by simp)
    have hsz1 := f.size
    clear f kp
    have hlt_b6 := b6.lt
    have hlt_b7 := b7.lt
    have i9 : VI W1 (L + 1) (iv g9 (val X9)) (iw g9 p9 n9 c9) := ⟨_, _, _, _, _, rfl, s9, rfl, l9⟩
    have j9 : VI W1 (L + 1) ((val Y9 : Nat) : Int) (iw false q9 m9 d9) := ⟨_, _, _, _, _, rfl, t9, rfl, lm9⟩
    have i11 : VI W1 (M + 1) (iv g11 (val X11)) (iw g11 p11 n11 c11) := ⟨_, _, _, _, _, rfl, s11, rfl, l11⟩
    have j11 : VI W1 (M + 1) ((val Y11 : Nat) : Int) (iw false q11 m11 d11) := ⟨_, _, _, _, _, rfl, t11, rfl, lm11⟩
    obtain ⟨za, hza⟩ : ∃ z, iv g9 (val X9) * ((val Y11 : Nat) : Int) = z := ⟨_, rfl⟩
    obtain ⟨zb, hzb⟩ : ∃ z, ((val Y9 : Nat) : Int) * iv g11 (val X11) = z := ⟨_, rfl⟩
    have hla : nz za ≤ L + M + 2 := by rw [← hza]; have := nz_mul (iv g9 (val X9)) ((val Y11 : Nat) : Int); have := nz_len i9; have := nz_len j11; omega
    have hlb : nz zb ≤ L + M + 2 := by rw [← hzb]; have := nz_mul ((val Y9 : Nat) : Int) (iv g11 (val X11)); have := nz_len j9; have := nz_len i11; omega
    have hx : iv g11 (val X11) = 0 := (mk_zero_iff _ y11).1 z11
    have h0b : zb = 0 := by rw [← hzb, hx, Int.mul_zero]
    clear hx
    have Hhza := Lib.hid hza; clear hza
    have Hhzb := Lib.hid hzb; clear hzb
    have Hh0b := Lib.hid h0b; clear h0b
    clear z9 z11 y9 y11
    have c_b2_0 := b2.cell (j := 0) rfl
    have c_b2_1 := b2.cell (j := 1) rfl
    have c_b2_2 := b2.cell (j := 2) rfl
    have c_b3_0 := b3.cell (j := 0) rfl
    have c_b3_1 := b3.cell (j := 1) rfl
    have c_b3_2 := b3.cell (j := 2) rfl
    have c_b4_0 := b4.cell (j := 0) rfl
    have c_b4_1 := b4.cell (j := 1) rfl
    have c_b4_2 := b4.cell (j := 2) rfl
    have c_b6_0 := b6.cell (j := 0) rfl
    have c_b6_1 := b6.cell (j := 1) rfl
    have c_b6_2 := b6.cell (j := 2) rfl
    have c_b6_3 := b6.cell (j := 3) rfl
    have c_b7_0 := b7.cell (j := 0) rfl
    have c_b7_1 := b7.cell (j := 1) rfl
    have c_b7_2 := b7.cell (j := 2) rfl
    have c_b7_3 := b7.cell (j := 3) rfl
    go_upto_region 2 with fail
    clear c_b2_0 c_b2_1 c_b2_2 c_b3_0 c_b3_1 c_b3_2 c_b4_0 c_b4_1 c_b4_2 c_b6_0 c_b6_1 c_b6_2 c_b6_3 c_b7_0 c_b7_1 c_b7_2 c_b7_3
    refine wp_region_inv (w0 := W1) (by kernel_rfl) [true, true, true, true, false, true, false, false, true, true, true, true, true, true, true, true, true, true, true, true, true, true, true, true, true] [(w.heap.size + 2)]
      [⟨[12], F1 (fun x _ => x = .pointer (some ⟨A6, 0, none⟩)), .pure⟩,
    ⟨[13], F1 (fun x _ => x = .agg #[.bool g9, .slice p9 n9 c9]), .pure⟩,
    ⟨[14], F1 (fun x _ => x = .pointer (some ⟨A7, 2, none⟩)), .pure⟩,
    ⟨[15], F1 (fun x _ => x = .agg #[.bool false, .slice q11 m11 d11]), .pure⟩,
    ⟨[16], F1 (fun x w => VZ w za x), .pure⟩,
    ⟨[17], F1 (fun x _ => x = .pointer (some ⟨A6, 2, none⟩)), .pure⟩,
    ⟨[18], F1 (fun x _ => x = .agg #[.bool false, .slice q9 m9 d9]), .pure⟩,
    ⟨[19], F1 (fun x _ => x = .pointer (some ⟨A7, 0, none⟩)), .pure⟩,
    ⟨[20], F1 (fun x _ => x = .agg #[.bool g11, .slice p11 n11 c11]), .pure⟩,
    ⟨[21], F1 (fun x w => VZ w zb x), .pure⟩,
    ⟨[22], F1 (fun x w => x = .tuple #[rw' false none 0 0 none 0 0, .int .i64 3]), .pure⟩,
    ⟨[23], F1 (fun x _ => x = rw' false none 0 0 none 0 0), .pure⟩,
    ⟨[24], F1 (fun x _ => x = .int .i64 3), .pure⟩,
    ⟨[23], F0, .out 0 26 cellsOf⟩,
    ⟨[5], F1 (fun x _ => x = .int .i64 3), .pure⟩]
      [[], [0], [], [2], [0, 1, 2, 3], [], [5], [], [7], [0, 1, 2, 3, 4, 5, 6, 7, 8], [0, 1, 2, 3, 4, 5, 6, 7, 8, 9], [0, 1, 2, 3, 4, 5, 6, 7, 8, 9, 10], [0, 1, 2, 3, 4, 5, 6, 7, 8, 9, 10], [0, 1, 2, 3, 4, 5, 6, 7, 8, 9, 10, 11, 12], [0, 1, 2, 3, 4, 5, 6, 7, 8, 9, 10, 11, 12, 13]] ?mk2 ?hmk2 (by kernel_rfl)
      ⟨F1.st (st_eq _), F1.st (st_eq _), F1.st (st_eq _), F1.st (st_eq _), F1.st (fun _ _ _ k h => h.kp k), F1.st (st_eq _), F1.st (st_eq _), F1.st (st_eq _), F1.st (st_eq _), F1.st (fun _ _ _ k h => h.kp k), F1.st (fun _ _ _ k h => by exact h), F1.st (st_eq _), F1.st (st_eq _), F0.st, F1.st (st_eq _), trivial⟩ (by simp) (by simp <;> omega) (n := 15) rfl ⟨⟨⟨⟨⟨⟨⟨⟨⟨⟨⟨⟨⟨⟨⟨trivial, ?s2_0⟩, ?s2_1⟩, ?s2_2⟩, ?s2_3⟩, ?s2_4⟩, ?s2_5⟩, ?s2_6⟩, ?s2_7⟩, ?s2_8⟩, ?s2_9⟩, ?s2_10⟩, ?s2_11⟩, ?s2_12⟩, ?s2_13⟩, ?s2_14⟩ ?done2
    case hmk2 => intro v; simp only [mkv, mix, Nat.reduceAdd]; rfl
    case s2_0 =>
      refine stepOk_of _ _ rfl rfl ?_
      intro v W2 f kp ho hd K' hK
      go_simp
      exact hK _ _ (Fr.refl [] _) rfl
    case s2_1 =>
      refine stepOk_of _ _ rfl rfl ?_
      intro v W2 f kp ho hd K' hK
      have e12 : v 12 = .pointer (some ⟨A6, 0, none⟩) := (hd 0 (by decide) _ _ rfl rfl).1
      have k0 := (b6.keep f (by simp <;> omega)).cell (j := 0) rfl
      have k1 := (b6.keep f (by simp <;> omega)).cell (j := 1) rfl
      simp only [e12] at hK ⊢
      go_simp
      exact hK _ _ (Fr.refl [] _) rfl
    case s2_2 =>
      refine stepOk_of _ _ rfl rfl ?_
      intro v W2 f kp ho hd K' hK
      go_simp
      exact hK _ _ (Fr.refl [] _) rfl
    case s2_3 =>
      refine stepOk_of _ _ rfl rfl ?_
      intro v W2 f kp ho hd K' hK
      have e14 : v 14 = .pointer (some ⟨A7, 2, none⟩) := (hd 2 (by decide) _ _ rfl rfl).1
      have k0 := (b7.keep f (by simp <;> omega)).cell (j := 2) rfl
      have k1 := (b7.keep f (by simp <;> omega)).cell (j := 3) rfl
      simp only [e14] at hK ⊢
      go_simp
      exact hK _ _ (Fr.refl [] _) rfl
    case s2_4 =>
      refine stepOk_of _ _ rfl rfl ?_
      intro v W2 f kp ho hd K' hK
      have e13 : v 13 = .agg #[.bool g9, .slice p9 n9 c9] := (hd 1 (by decide) _ _ rfl rfl).1
      have e15 : v 15 = .agg #[.bool false, .slice q11 m11 d11] := (hd 3 (by decide) _ _ rfl rfl).1
      simp only [e13, e15] at hK ⊢
      go_simp
      refine (imul_e Hhza.out (i9.kp kp) (j11.kp kp) (by omega) (by omega)).mono ?_
      rintro e W' ⟨x, rfl, hx, ff⟩
      exact hK x W' ff hx
    case s2_5 =>
      refine stepOk_of _ _ rfl rfl ?_
      intro v W2 f kp ho hd K' hK
      go_simp
      exact hK _ _ (Fr.refl [] _) rfl
    case s2_6 =>
      refine stepOk_of _ _ rfl rfl ?_
      intro v W2 f kp ho hd K' hK
      have e17 : v 17 = .pointer (some ⟨A6, 2, none⟩) := (hd 5 (by decide) _ _ rfl rfl).1
      have k0 := (b6.keep f (by simp <;> omega)).cell (j := 2) rfl
      have k1 := (b6.keep f (by simp <;> omega)).cell (j := 3) rfl
      simp only [e17] at hK ⊢
      go_simp
      exact hK _ _ (Fr.refl [] _) rfl
    case s2_7 =>
      refine stepOk_of _ _ rfl rfl ?_
      intro v W2 f kp ho hd K' hK
      go_simp
      exact hK _ _ (Fr.refl [] _) rfl
    case s2_8 =>
      refine stepOk_of _ _ rfl rfl ?_
      intro v W2 f kp ho hd K' hK
      have e19 : v 19 = .pointer (some ⟨A7, 0, none⟩) := (hd 7 (by decide) _ _ rfl rfl).1
      have k0 := (b7.keep f (by simp <;> omega)).cell (j := 0) rfl
      have k1 := (b7.keep f (by simp <;> omega)).cell (j := 1) rfl
      simp only [e19] at hK ⊢
      go_simp
      exact hK _ _ (Fr.refl [] _) rfl
    case s2_9 =>
      refine stepOk_of _ _ rfl rfl ?_
      intro v W2 f kp ho hd K' hK
      have e18 : v 18 = .agg #[.bool false, .slice q9 m9 d9] := (hd 6 (by decide) _ _ rfl rfl).1
      have e20 : v 20 = .agg #[.bool g11, .slice p11 n11 c11] := (hd 8 (by decide) _ _ rfl rfl).1
      simp only [e18, e20] at hK ⊢
      go_simp
      refine (imul_e Hhzb.out (j9.kp kp) (i11.kp kp) (by omega) (by omega)).mono ?_
      rintro e W' ⟨x, rfl, hx, ff⟩
      exact hK x W' ff hx
    case s2_10 =>
      refine stepOk_of _ _ rfl rfl ?_
      intro v W2 f kp ho hd K' hK
      have f16 : VZ W2 za (v 16) := (hd 4 (by decide) _ _ rfl rfl).1
      have f21 : VZ W2 zb (v 21) := (hd 9 (by decide) _ _ rfl rfl).1
      go_simp
      refine (make_e0 Hh0b.out (ht.kp kp) (f16.raw hla) (f21.raw hlb) (by omega) (by omega)).mono ?_
      rintro e W' ⟨rfl, ff⟩
      exact hK _ W' ff rfl
    case s2_11 =>
      refine stepOk_of _ _ rfl rfl ?_
      intro v W2 f kp ho hd K' hK
      have f22 : v 22 = .tuple #[rw' false none 0 0 none 0 0, .int .i64 3] := (hd 10 (by decide) _ _ rfl rfl).1
      have e22 := f22
      simp only [e22] at hK ⊢
      go_simp
      exact hK _ _ (Fr.refl [] _) rfl
    case s2_12 =>
      refine stepOk_of _ _ rfl rfl ?_
      intro v W2 f kp ho hd K' hK
      have f22 : v 22 = .tuple #[rw' false none 0 0 none 0 0, .int .i64 3] := (hd 10 (by decide) _ _ rfl rfl).1
      have e22 := f22
      simp only [e22] at hK ⊢
      go_simp
      exact hK _ _ (Fr.refl [] _) rfl
    case s2_13 =>
      refine stepOk_of _ _ rfl rfl ?_
      intro v W2 f kp ho hd K' hK
      have e23 : v 23 = rw' false none 0 0 none 0 0 := (hd 11 (by decide) _ _ rfl rfl).1
      have bz : Bx W2 (w.heap.size + 2) 26 #[.bool false, .slice none 0 0, .slice none 0 0] := (ho 0 _ rfl (by kernel_rfl)).trans b4
      have k0 := bz.cell (j := 0) rfl
      have fr0 := bz.free 0
      have k1 := bz.cell (j := 1) rfl
      have fr1 := bz.free 1
      have k2 := bz.cell (j := 2) rfl
      have fr2 := bz.free 2
      simp only [e23] at hK ⊢
      go_simp
      exact hK undef _ (move_out (cs := #[.bool false, .slice none 0 0, .slice none 0 0]) rfl rfl (by simp only [List.map, e23]; rfl) (bz.soft rfl) rfl rfl ((((Fr.refl _ _).put1 0 _).put1 1 _).put1 2 _) ((((bz.put1 0 _).put1 1 _).put1 2 _))) trivial
    case s2_14 =>
      refine stepOk_of _ _ rfl rfl ?_
      intro v W2 f kp ho hd K' hK
      have e24 : v 24 = .int .i64 3 := (hd 12 (by decide) _ _ rfl rfl).1
      simp only [e24] at hK ⊢
      go_simp
      exact hK _ _ (Fr.refl [] _) rfl
    case done2 =>
      intro v W2 f kp hF hD
      have e12 : v 12 = .pointer (some ⟨A6, 0, none⟩) := (hF 0 _ _ rfl rfl).1
      have e13 : v 13 = .agg #[.bool g9, .slice p9 n9 c9] := (hF 1 _ _ rfl rfl).1
      have e14 : v 14 = .pointer (some ⟨A7, 2, none⟩) := (hF 2 _ _ rfl rfl).1
      have e15 : v 15 = .agg #[.bool false, .slice q11 m11 d11] := (hF 3 _ _ rfl rfl).1
      have f16 : VZ W2 za (v 16) := (hF 4 _ _ rfl rfl).1
      have e17 : v 17 = .pointer (some ⟨A6, 2, none⟩) := (hF 5 _ _ rfl rfl).1
      have e18 : v 18 = .agg #[.bool false, .slice q9 m9 d9] := (hF 6 _ _ rfl rfl).1
      have e19 : v 19 = .pointer (some ⟨A7, 0, none⟩) := (hF 7 _ _ rfl rfl).1
      have e20 : v 20 = .agg #[.bool g11, .slice p11 n11 c11] := (hF 8 _ _ rfl rfl).1
      have f21 : VZ W2 zb (v 21) := (hF 9 _ _ rfl rfl).1
      have e23 : v 23 = rw' false none 0 0 none 0 0 := (hF 11 _ _ rfl rfl).1
      have e24 : v 24 = .int .i64 3 := (hF 12 _ _ rfl rfl).1
      have e5 : v 5 = .int .i64 3 := (hF 14 _ _ rfl rfl).1
      obtain ⟨-, A', eA, nb4⟩ := hF 13 _ _ rfl rfl
      injection eA with eA; subst eA
      replace nb4 : Bx W2 (w.heap.size + 2) 26 #[.bool false, .slice none 0 0, .slice none 0 0] := by simp only [List.map, e23] at nb4; exact nb4
      clear hF hD
      simp only [e12, e13, e14, e15, e17, e18, e19, e20, e23, e24, e5]
      replace b2 := b2.keep f (by simp <;> omega)
      replace b3 := b3.keep f (by simp <;> omega)
      replace b6 := b6.keep f (by simp <;> omega)
      replace b7 := b7.keep f (by simp <;> omega)
      clear b4; have b4 := nb4; clear nb4
      replace ht := ht.kp kp
      replace h1 := h1.kp kp
      replace h2 := h2.kp kp
      replace s9 := s9.kp kp
      replace t9 := t9.kp kp
      replace f9 := f9.kp kp
      replace s11 := s11.kp kp
      replace t11 := t11.kp kp
      replace f11 := f11.kp kp
      replace i9 := i9.kp kp
      replace j9 := j9.kp kp
      replace i11 := i11.kp kp
      replace j11 := j11.kp kp
      replace hw := hw.trans (a := w) (b := W1) (c := W2) f (fun x hx hl => by simp at hx; omega)
      have hsz2 := f.size
      clear f kp
      go_wp2_with fail
      have c_b4_0 := b4.cell (j := 0) rfl
      have c_b4_1 := b4.cell (j := 1) rfl
      have c_b4_2 := b4.cell (j := 2) rfl
      exact bodyPost_ret (v := .tuple #[rw' false none 0 0 none 0 0, .int .i64 3]) (by simp [results, Tryz.results16, go_sem, c_b4_0, c_b4_1, c_b4_2]) rfl ⟨rfl, hw⟩

set_option maxRecDepth 100000 in
set_option maxHeartbeats 1000000 in
theorem div_v {w : World} {L M : Nat} {r s : Rat} {va vb : Value} (ht : Tab w) (h1 : VR w L r va) (h2 : VR w M s vb) (_hL : L ≤ 65535) (_hM : M ≤ 65535) (h0 : s ≠ 0) : Calls Tryz.prog 16 #[va, vb] w (RM (r / s) w) := by
  have o_h1 := h1
  obtain ⟨ga, pa, na, ca, Xa, qa, ma, da, Ya, rfl, -, -, -, -, -⟩ := o_h1
  have o_h2 := h2
  obtain ⟨gb, pb, nb, cb, Xb, qb, mb, db, Yb, rfl, -, -, -, -, -⟩ := o_h2
  go_enter Tryz.func16, Tryz.ntmps16
  go_upto_region 1 with fail
  have hw : Fr [] w (((w.alloc (Obj.cells #[.bool ga, .slice pa na ca, .slice qa ma da] 26)).alloc (Obj.cells #[.bool gb, .slice pb nb cb, .slice qb mb db] 26)).alloc (Obj.cells #[.bool false, .slice none 0 0, .slice none 0 0] 26)) := (((Fr.refl _ _).alloc _).alloc _).alloc _
  have b2 : Bx (((w.alloc (Obj.cells #[.bool ga, .slice pa na ca, .slice qa ma da] 26)).alloc (Obj.cells #[.bool gb, .slice pb nb cb, .slice qb mb db] 26)).alloc (Obj.cells #[.bool false, .slice none 0 0, .slice none 0 0] 26)) w.heap.size 26 #[.bool ga, .slice pa na ca, .slice qa ma da] := (Bx.made' (by simp) _ _).kept (((Fr.refl _ _).alloc _).alloc _)
  have b3 : Bx (((w.alloc (Obj.cells #[.bool ga, .slice pa na ca, .slice qa ma da] 26)).alloc (Obj.cells #[.bool gb, .slice pb nb cb, .slice qb mb db] 26)).alloc (Obj.cells #[.bool false, .slice none 0 0, .slice none 0 0] 26)) (w.heap.size + 1) 26 #[.bool gb, .slice pb nb cb, .slice qb mb db] := (Bx.made' (by simp) _ _).kept ((Fr.refl _ _).alloc _)
  have b4 : Bx (((w.alloc (Obj.cells #[.bool ga, .slice pa na ca, .slice qa ma da] 26)).alloc (Obj.cells #[.bool gb, .slice pb nb cb, .slice qb mb db] 26)).alloc (Obj.cells #[.bool false, .slice none 0 0, .slice none 0 0] 26)) (w.heap.size + 2) 26 #[.bool false, .slice none 0 0, .slice none 0 0] := (Bx.made' (by simp) _ _).kept (Fr.refl _ _)
  generalize (((w.alloc (Obj.cells #[.bool ga, .slice pa na ca, .slice qa ma da] 26)).alloc (Obj.cells #[.bool gb, .slice pb nb cb, .slice qb mb db] 26)).alloc (Obj.cells #[.bool false, .slice none 0 0, .slice none 0 0] 26)) = W at *
  have hbs := b4.lt
  replace ht := ht.kept hw
  replace h1 := h1.kept hw
  replace h2 := h2.kept hw
  refine wp_region_inv (w0 := W) (by kernel_rfl) [true, true, false, false, false, false, true, true, true, true, true, true, false, false, false, false, false, false, false, false, false, false, false, false, false] []
    [⟨[8], F1 (fun x _ => x = .agg #[.bool ga, .slice pa na ca, .slice qa ma da]), .pure⟩,
    ⟨[9], F1 (fun x w => VF w (L + 1) r x), .pure⟩,
    ⟨[10], F1 (fun x _ => x = .agg #[.bool gb, .slice pb nb cb, .slice qb mb db]), .pure⟩,
    ⟨[11], F1 (fun x w => VF w (M + 1) s x), .pure⟩,
    ⟨[], F0, .new 75 4⟩,
    ⟨[], F0, .new 75 4⟩,
    ⟨[9], F0, .store 6 75 cellsOf⟩,
    ⟨[11], F0, .store 7 75 cellsOf⟩]
    [[], [0], [], [0, 1, 2], [], [], [0, 1, 2, 3, 4, 5], [0, 1, 2, 3, 4, 5, 6]] ?mk1 ?hmk1 (by kernel_rfl)
    ⟨F1.st (st_eq _), F1.st (fun _ _ _ k h => h.kp k), F1.st (st_eq _), F1.st (fun _ _ _ k h => h.kp k), F0.st, F0.st, F0.st, F0.st, trivial⟩ (by simp) (by simp) (n := 8) rfl ⟨⟨⟨⟨⟨⟨⟨⟨trivial, ?s1_0⟩, ?s1_1⟩, ?s1_2⟩, ?s1_3⟩, ?s1_4⟩, ?s1_5⟩, ?s1_6⟩, ?s1_7⟩ ?done1
  case hmk1 => intro v; simp only [mkv, mix, Nat.reduceAdd]; rfl
  case s1_0 =>
    refine stepOk_of _ _ rfl rfl ?_
    intro v W1 f kp ho hd K' hK
    have k0 := (b2.keep f (by simp)).cell (j := 0) rfl
    have k1 := (b2.keep f (by simp)).cell (j := 1) rfl
    have k2 := (b2.keep f (by simp)).cell (j := 2) rfl
    go_simp
    exact hK _ _ (Fr.refl [] _) rfl
  case s1_1 =>
    refine stepOk_of _ _ rfl rfl ?_
    intro v W1 f kp ho hd K' hK
    have e8 : v 8 = .agg #[.bool ga, .slice pa na ca, .slice qa ma da] := (hd 0 (by decide) _ _ rfl rfl).1
    simp only [e8] at hK ⊢
    go_simp
    refine (read_v (h1.kp kp) (by omega)).mono ?_
    rintro e W' ⟨x, rfl, hx, ff⟩
    exact hK x W' ff hx
  case s1_2 =>
    refine stepOk_of _ _ rfl rfl ?_
    intro v W1 f kp ho hd K' hK
    have k0 := (b3.keep f (by simp)).cell (j := 0) rfl
    have k1 := (b3.keep f (by simp)).cell (j := 1) rfl
    have k2 := (b3.keep f (by simp)).cell (j := 2) rfl
    go_simp
    exact hK _ _ (Fr.refl [] _) rfl
  case s1_3 =>
    refine stepOk_of _ _ rfl rfl ?_
    intro v W1 f kp ho hd K' hK
    have e10 : v 10 = .agg #[.bool gb, .slice pb nb cb, .slice qb mb db] := (hd 2 (by decide) _ _ rfl rfl).1
    simp only [e10] at hK ⊢
    go_simp
    refine (read_v (h2.kp kp) (by omega)).mono ?_
    rintro e W' ⟨x, rfl, hx, ff⟩
    exact hK x W' ff hx
  case s1_4 =>
    refine stepOk_of _ _ rfl rfl ?_
    intro v W1 f kp ho hd K' hK
    go_simp
    exact hK _ _ (move_new rfl rfl rfl rfl rfl) trivial
  case s1_5 =>
    refine stepOk_of _ _ rfl rfl ?_
    intro v W1 f kp ho hd K' hK
    go_simp
    exact hK _ _ (move_new rfl rfl rfl rfl rfl) trivial
  case s1_6 =>
    refine stepOk_of _ _ rfl rfl ?_
    intro v W1 f kp ho hd K' hK
    obtain ⟨-, A6, e6, -, sb6⟩ := hd 4 (by decide) _ _ rfl rfl
    have f9 : VF W1 (L + 1) r (v 9) := (hd 1 (by decide) _ _ rfl rfl).1
    have o9 := f9
    obtain ⟨g9, p9, n9, c9, X9, q9, m9, d9, Y9, e9, s9, t9, z9, y9, l9, lm9⟩ := o9
    obtain ⟨zz0, zz1, zz2, zz3, bz⟩ := sb6.open4
    have k0 := bz.cell (j := 0) rfl
    have fr0 := bz.free 0
    have k1 := bz.cell (j := 1) rfl
    have fr1 := bz.free 1
    have k2 := bz.cell (j := 2) rfl
    have fr2 := bz.free 2
    have k3 := bz.cell (j := 3) rfl
    have fr3 := bz.free 3
    simp only [e6, e9] at hK ⊢
    go_simp
    exact hK undef _ (move_store (cs := #[.bool g9, .slice p9 n9 c9, .bool false, .slice q9 m9 d9]) rfl e6 (by simp only [List.map, e9]; rfl) sb6 rfl rfl (((((Fr.refl _ _).put1 0 _).put1 1 _).put1 2 _).put1 3 _) (((((bz.put1 0 _).put1 1 _).put1 2 _).put1 3 _))) trivial
  case s1_7 =>
    refine stepOk_of _ _ rfl rfl ?_
    intro v W1 f kp ho hd K' hK
    obtain ⟨-, A7, e7, -, sb7⟩ := hd 5 (by decide) _ _ rfl rfl
    have f11 : VF W1 (M + 1) s (v 11) := (hd 3 (by decide) _ _ rfl rfl).1
    have o11 := f11
    obtain ⟨g11, p11, n11, c11, X11, q11, m11, d11, Y11, e11, s11, t11, z11, y11, l11, lm11⟩ := o11
    obtain ⟨zz0, zz1, zz2, zz3, bz⟩ := sb7.open4
    have k0 := bz.cell (j := 0) rfl
    have fr0 := bz.free 0
    have k1 := bz.cell (j := 1) rfl
    have fr1 := bz.free 1
    have k2 := bz.cell (j := 2) rfl
    have fr2 := bz.free 2
    have k3 := bz.cell (j := 3) rfl
    have fr3 := bz.free 3
    simp only [e7, e11] at hK ⊢
    go_simp
    exact hK undef _ (move_store (cs := #[.bool g11, .slice p11 n11 c11, .bool false, .slice q11 m11 d11]) rfl e7 (by simp only [List.map, e11]; rfl) sb7 rfl rfl (((((Fr.refl _ _).put1 0 _).put1 1 _).put1 2 _).put1 3 _) (((((bz.put1 0 _).put1 1 _).put1 2 _).put1 3 _))) trivial
  case done1 =>
    intro v W1 f kp hF hD
    have e8 : v 8 = .agg #[.bool ga, .slice pa na ca, .slice qa ma da] := (hF 0 _ _ rfl rfl).1
    have f9 : VF W1 (L + 1) r (v 9) := (hF 1 _ _ rfl rfl).1
    have o9 := f9
    obtain ⟨g9, p9, n9, c9, X9, q9, m9, d9, Y9, e9, s9, t9, z9, y9, l9, lm9⟩ := o9
    rw [e9] at f9
    have e10 : v 10 = .agg #[.bool gb, .slice pb nb cb, .slice qb mb db] := (hF 2 _ _ rfl rfl).1
    have f11 : VF W1 (M + 1) s (v 11) := (hF 3 _ _ rfl rfl).1
    have o11 := f11
    obtain ⟨g11, p11, n11, c11, X11, q11, m11, d11, Y11, e11, s11, t11, z11, y11, l11, lm11⟩ := o11
    rw [e11] at f11
    obtain ⟨-, A6, e6, g6, -⟩ := hF 4 _ _ rfl rfl
    obtain ⟨-, A7, e7, g7, -⟩ := hF 5 _ _ rfl rfl
    obtain ⟨-, A', eA, b6⟩ := hF 6 _ _ rfl rfl
    rw [e6] at eA; injection eA with eA; injection eA with eA; injection eA with eA; subst eA
    replace b6 : Bx W1 A6 75 #[.bool g9, .slice p9 n9 c9, .bool false, .slice q9 m9 d9] := by simp only [List.map, e9] at b6; exact b6
    obtain ⟨-, A', eA, b7⟩ := hF 7 _ _ rfl rfl
    rw [e7] at eA; injection eA with eA; injection eA with eA; injection eA with eA; subst eA
    replace b7 : Bx W1 A7 75 #[.bool g11, .slice p11 n11 c11, .bool false, .slice q11 m11 d11] := by simp only [List.map, e11] at b7; exact b7
    have dd6_7 : A6 ≠ A7 := fun e => hD 4 5 _ _ _ _ _ _ _ _ (by decide) rfl rfl rfl rfl rfl rfl 6 7 rfl rfl (by rw [e6, e7, e])
    clear hF hD
    simp only [e8, e9, e10, e11, e6, e7]
    replace b2 := b2.keep f (by simp)
    replace b3 := b3.keep f (by simp)
    replace b4 := b4.keep f (by simp)
    replace ht := ht.kp kp
    replace h1 := h1.kp kp
    replace h2 := h2.kp kp
    replace hw := hw.trans (a := w) (b := W) (c := W1) f (by simp)
    have hsz1 := f.size
    clear f kp
    have hlt_b6 := b6.lt
    have hlt_b7 := b7.lt
    have i9 : VI W1 (L + 1) (iv g9 (val X9)) (iw g9 p9 n9 c9) := ⟨_, _, _, _, _, rfl, s9, rfl, l9⟩
    have j9 : VI W1 (L + 1) ((val Y9 : Nat) : Int) (iw false q9 m9 d9) := ⟨_, _, _, _, _, rfl, t9, rfl, lm9⟩
    have i11 : VI W1 (M + 1) (iv g11 (val X11)) (iw g11 p11 n11 c11) := ⟨_, _, _, _, _, rfl, s11, rfl, l11⟩
    have j11 : VI W1 (M + 1) ((val Y11 : Nat) : Int) (iw false q11 m11 d11) := ⟨_, _, _, _, _, rfl, t11, rfl, lm11⟩
    obtain ⟨za, hza⟩ : ∃ z, iv g9 (val X9) * ((val Y11 : Nat) : Int) = z := ⟨_, rfl⟩
    obtain ⟨zb, hzb⟩ : ∃ z, ((val Y9 : Nat) : Int) * iv g11 (val X11) = z := ⟨_, rfl⟩
    have hla : nz za ≤ L + M + 2 := by rw [← hza]; have := nz_mul (iv g9 (val X9)) ((val Y11 : Nat) : Int); have := nz_len i9; have := nz_len j11; omega
    have hlb : nz zb ≤ L + M + 2 := by rw [← hzb]; have := nz_mul ((val Y9 : Nat) : Int) (iv g11 (val X11)); have := nz_len j9; have := nz_len i11; omega
    have hx : iv g11 (val X11) ≠ 0 := fun e => h0 (by rw [← z11, e]; exact Rat.zero_mkRat _)
    have hN : Rat.divInt za zb = r / s := by rw [← hza, ← hzb, ← z9, ← z11]; exact (div_mk y9 y11 hx).symm
    have h0b : zb ≠ 0 := by rw [← hzb]; exact Int.mul_ne_zero (by omega) hx
    clear hx
    have Hhza := Lib.hid hza; clear hza
    have Hhzb := Lib.hid hzb; clear hzb
    have HhN := Lib.hid hN; clear hN
    have Hh0b := Lib.hid h0b; clear h0b
    clear z9 z11 y9 y11 h0
    have c_b2_0 := b2.cell (j := 0) rfl
    have c_b2_1 := b2.cell (j := 1) rfl
    have c_b2_2 := b2.cell (j := 2) rfl
    have c_b3_0 := b3.cell (j := 0) rfl
    have c_b3_1 := b3.cell (j := 1) rfl
    have c_b3_2 := b3.cell (j := 2) rfl
    have c_b4_0 := b4.cell (j := 0) rfl
    have c_b4_1 := b4.cell (j := 1) rfl
    have c_b4_2 := b4.cell (j := 2) rfl
    have c_b6_0 := b6.cell (j := 0) rfl
    have c_b6_1 := b6.cell (j := 1) rfl
    have c_b6_2 := b6.cell (j := 2) rfl
    have c_b6_3 := b6.cell (j := 3) rfl
    have c_b7_0 := b7.cell (j := 0) rfl
    have c_b7_1 := b7.cell (j := 1) rfl
    have c_b7_2 := b7.cell (j := 2) rfl
    have c_b7_3 := b7.cell (j := 3) rfl
    go_upto_region 2 with fail
    clear c_b2_0 c_b2_1 c_b2_2 c_b3_0 c_b3_1 c_b3_2 c_b4_0 c_b4_1 c_b4_2 c_b6_0 c_b6_1 c_b6_2 c_b6_3 c_b7_0 c_b7_1 c_b7_2 c_b7_3
    refine wp_region_inv (w0 := W1) (by kernel_rfl) [true, true, true, true, false, true, false, false, true, true, true, true, true, true, true, true, true, true, true, true, true, true, true, true, true] [(w.heap.size + 2)]
      [⟨[12], F1 (fun x _ => x = .pointer (some ⟨A6, 0, none⟩)), .pure⟩,
    ⟨[13], F1 (fun x _ => x = .agg #[.bool g9, .slice p9 n9 c9]), .pure⟩,
    ⟨[14], F1 (fun x _ => x = .pointer (some ⟨A7, 2, none⟩)), .pure⟩,
    ⟨[15], F1 (fun x _ => x = .agg #[.bool false, .slice q11 m11 d11]), .pure⟩,
    ⟨[16], F1 (fun x w => VZ w za x), .pure⟩,
    ⟨[17], F1 (fun x _ => x = .pointer (some ⟨A6, 2, none⟩)), .pure⟩,
    ⟨[18], F1 (fun x _ => x = .agg #[.bool false, .slice q9 m9 d9]), .pure⟩,
    ⟨[19], F1 (fun x _ => x = .pointer (some ⟨A7, 0, none⟩)), .pure⟩,
    ⟨[20], F1 (fun x _ => x = .agg #[.bool g11, .slice p11 n11 c11]), .pure⟩,
    ⟨[21], F1 (fun x w => VZ w zb x), .pure⟩,
    ⟨[22], F1 (fun x w => ∃ y0, x = .tuple #[y0, .int .i64 0] ∧ VQ w (r / s) y0), .pure⟩,
    ⟨[23], F1 (fun x w => VQ w (r / s) x), .pure⟩,
    ⟨[24], F1 (fun x _ => x = .int .i64 0), .pure⟩,
    ⟨[23], F0, .out 0 26 cellsOf⟩,
    ⟨[5], F1 (fun x _ => x = .int .i64 0), .pure⟩]
      [[], [0], [], [2], [0, 1, 2, 3], [], [5], [], [7], [0, 1, 2, 3, 4, 5, 6, 7, 8], [0, 1, 2, 3, 4, 5, 6, 7, 8, 9], [0, 1, 2, 3, 4, 5, 6, 7, 8, 9, 10], [0, 1, 2, 3, 4, 5, 6, 7, 8, 9, 10], [0, 1, 2, 3, 4, 5, 6, 7, 8, 9, 10, 11, 12], [0, 1, 2, 3, 4, 5, 6, 7, 8, 9, 10, 11, 12, 13]] ?mk2 ?hmk2 (by kernel_rfl)
      ⟨F1.st (st_eq _), F1.st (st_eq _), F1.st (st_eq _), F1.st (st_eq _), F1.st (fun _ _ _ k h => h.kp k), F1.st (st_eq _), F1.st (st_eq _), F1.st (st_eq _), F1.st (st_eq _), F1.st (fun _ _ _ k h => h.kp k), F1.st (fun _ _ _ k h => by obtain ⟨y0, e, h0⟩ := h; exact ⟨y0, e, h0.kp k⟩), F1.st (fun _ _ _ k h => h.kp k), F1.st (st_eq _), F0.st, F1.st (st_eq _), trivial⟩ (by simp) (by simp <;> omega) (n := 15) rfl ⟨⟨⟨⟨⟨⟨⟨⟨⟨⟨⟨⟨⟨⟨⟨trivial, ?s2_0⟩, ?s2_1⟩, ?s2_2⟩, ?s2_3⟩, ?s2_4⟩, ?s2_5⟩, ?s2_6⟩, ?s2_7⟩, ?s2_8⟩, ?s2_9⟩, ?s2_10⟩, ?s2_11⟩, ?s2_12⟩, ?s2_13⟩, ?s2_14⟩ ?done2
    case hmk2 => intro v; simp only [mkv, mix, Nat.reduceAdd]; rfl
    case s2_0 =>
      refine stepOk_of _ _ rfl rfl ?_
      intro v W2 f kp ho hd K' hK
      go_simp
      exact hK _ _ (Fr.refl [] _) rfl
    case s2_1 =>
      refine stepOk_of _ _ rfl rfl ?_
      intro v W2 f kp ho hd K' hK
      have e12 : v 12 = .pointer (some ⟨A6, 0, none⟩) := (hd 0 (by decide) _ _ rfl rfl).1
      have k0 := (b6.keep f (by simp <;> omega)).cell (j := 0) rfl
      have k1 := (b6.keep f (by simp <;> omega)).cell (j := 1) rfl
      simp only [e12] at hK ⊢
      go_simp
      exact hK _ _ (Fr.refl [] _) rfl
    case s2_2 =>
      refine stepOk_of _ _ rfl rfl ?_
      intro v W2 f kp ho hd K' hK
      go_simp
      exact hK _ _ (Fr.refl [] _) rfl
    case s2_3 =>
      refine stepOk_of _ _ rfl rfl ?_
      intro v W2 f kp ho hd K' hK
      have e14 : v 14 = .pointer (some ⟨A7, 2, none⟩) := (hd 2 (by decide) _ _ rfl rfl).1
      have k0 := (b7.keep f (by simp <;> omega)).cell (j := 2) rfl
      have k1 := (b7.keep f (by simp <;> omega)).cell (j := 3) rfl
      simp only [e14] at hK ⊢
      go_simp
      exact hK _ _ (Fr.refl [] _) rfl
    case s2_4 =>
      refine stepOk_of _ _ rfl rfl ?_
      intro v W2 f kp ho hd K' hK
      have e13 : v 13 = .agg #[.bool g9, .slice p9 n9 c9] := (hd 1 (by decide) _ _ rfl rfl).1
      have e15 : v 15 = .agg #[.bool false, .slice q11 m11 d11] := (hd 3 (by decide) _ _ rfl rfl).1
      simp only [e13, e15] at hK ⊢
      go_simp
      refine (imul_e Hhza.out (i9.kp kp) (j11.kp kp) (by omega) (by omega)).mono ?_
      rintro e W' ⟨x, rfl, hx, ff⟩
      exact hK x W' ff hx
    case s2_5 =>
      refine stepOk_of _ _ rfl rfl ?_
      intro v W2 f kp ho hd K' hK
      go_simp
      exact hK _ _ (Fr.refl [] _) rfl
    case s2_6 =>
      refine stepOk_of _ _ rfl rfl ?_
      intro v W2 f kp ho hd K' hK
      have e17 : v 17 = .pointer (some ⟨A6, 2, none⟩) := (hd 5 (by decide) _ _ rfl rfl).1
      have k0 := (b6.keep f (by simp <;> omega)).cell (j := 2) rfl
      have k1 := (b6.keep f (by simp <;> omega)).cell (j := 3) rfl
      simp only [e17] at hK ⊢
      go_simp
      exact hK _ _ (Fr.refl [] _) rfl
    case s2_7 =>
      refine stepOk_of _ _ rfl rfl ?_
      intro v W2 f kp ho hd K' hK
      go_simp
      exact hK _ _ (Fr.refl [] _) rfl
    case s2_8 =>
      refine stepOk_of _ _ rfl rfl ?_
      intro v W2 f kp ho hd K' hK
      have e19 : v 19 = .pointer (some ⟨A7, 0, none⟩) := (hd 7 (by decide) _ _ rfl rfl).1
      have k0 := (b7.keep f (by simp <;> omega)).cell (j := 0) rfl
      have k1 := (b7.keep f (by simp <;> omega)).cell (j := 1) rfl
      simp only [e19] at hK ⊢
      go_simp
      exact hK _ _ (Fr.refl [] _) rfl
    case s2_9 =>
      refine stepOk_of _ _ rfl rfl ?_
      intro v W2 f kp ho hd K' hK
      have e18 : v 18 = .agg #[.bool false, .slice q9 m9 d9] := (hd 6 (by decide) _ _ rfl rfl).1
      have e20 : v 20 = .agg #[.bool g11, .slice p11 n11 c11] := (hd 8 (by decide) _ _ rfl rfl).1
      simp only [e18, e20] at hK ⊢
      go_simp
      refine (imul_e Hhzb.out (j9.kp kp) (i11.kp kp) (by omega) (by omega)).mono ?_
      rintro e W' ⟨x, rfl, hx, ff⟩
      exact hK x W' ff hx
    case s2_10 =>
      refine stepOk_of _ _ rfl rfl ?_
      intro v W2 f kp ho hd K' hK
      have f16 : VZ W2 za (v 16) := (hd 4 (by decide) _ _ rfl rfl).1
      have f21 : VZ W2 zb (v 21) := (hd 9 (by decide) _ _ rfl rfl).1
      go_simp
      refine (make_e HhN.out (ht.kp kp) (f16.raw hla) (f21.raw hlb) (by omega) (by omega) Hh0b.out).mono ?_
      rintro e W' ⟨x0, rfl, y0, ff⟩
      exact hK _ W' ff ⟨_, rfl, y0⟩
    case s2_11 =>
      refine stepOk_of _ _ rfl rfl ?_
      intro v W2 f kp ho hd K' hK
      have f22 : ∃ y0, v 22 = .tuple #[y0, .int .i64 0] ∧ VQ W2 (r / s) y0 := (hd 10 (by decide) _ _ rfl rfl).1
      obtain ⟨a22_0, e22, h22_0⟩ := f22
      simp only [e22] at hK ⊢
      go_simp
      exact hK _ _ (Fr.refl [] _) h22_0
    case s2_12 =>
      refine stepOk_of _ _ rfl rfl ?_
      intro v W2 f kp ho hd K' hK
      have f22 : ∃ y0, v 22 = .tuple #[y0, .int .i64 0] ∧ VQ W2 (r / s) y0 := (hd 10 (by decide) _ _ rfl rfl).1
      obtain ⟨a22_0, e22, h22_0⟩ := f22
      simp only [e22] at hK ⊢
      go_simp
      exact hK _ _ (Fr.refl [] _) rfl
    case s2_13 =>
      refine stepOk_of _ _ rfl rfl ?_
      intro v W2 f kp ho hd K' hK
      have f23 : VQ W2 (r / s) (v 23) := (hd 11 (by decide) _ _ rfl rfl).1
      have o23 := f23
      obtain ⟨p23, c23, q23, d23, e23, s23, t23⟩ := o23
      have bz : Bx W2 (w.heap.size + 2) 26 #[.bool false, .slice none 0 0, .slice none 0 0] := (ho 0 _ rfl (by kernel_rfl)).trans b4
      have k0 := bz.cell (j := 0) rfl
      have fr0 := bz.free 0
      have k1 := bz.cell (j := 1) rfl
      have fr1 := bz.free 1
      have k2 := bz.cell (j := 2) rfl
      have fr2 := bz.free 2
      simp only [e23] at hK ⊢
      go_simp
      exact hK undef _ (move_out (cs := #[.bool (decide (((r / s)).num < 0)), .slice p23 (dg ((r / s)).num.natAbs).length c23, .slice q23 (dg ((r / s)).den).length d23]) rfl rfl (by simp only [List.map, e23]; rfl) (bz.soft rfl) rfl rfl ((((Fr.refl _ _).put1 0 _).put1 1 _).put1 2 _) ((((bz.put1 0 _).put1 1 _).put1 2 _))) trivial
    case s2_14 =>
      refine stepOk_of _ _ rfl rfl ?_
      intro v W2 f kp ho hd K' hK
      have e24 : v 24 = .int .i64 0 := (hd 12 (by decide) _ _ rfl rfl).1
      simp only [e24] at hK ⊢
      go_simp
      exact hK _ _ (Fr.refl [] _) rfl
    case done2 =>
      intro v W2 f kp hF hD
      have e12 : v 12 = .pointer (some ⟨A6, 0, none⟩) := (hF 0 _ _ rfl rfl).1
      have e13 : v 13 = .agg #[.bool g9, .slice p9 n9 c9] := (hF 1 _ _ rfl rfl).1
      have e14 : v 14 = .pointer (some ⟨A7, 2, none⟩) := (hF 2 _ _ rfl rfl).1
      have e15 : v 15 = .agg #[.bool false, .slice q11 m11 d11] := (hF 3 _ _ rfl rfl).1
      have f16 : VZ W2 za (v 16) := (hF 4 _ _ rfl rfl).1
      have e17 : v 17 = .pointer (some ⟨A6, 2, none⟩) := (hF 5 _ _ rfl rfl).1
      have e18 : v 18 = .agg #[.bool false, .slice q9 m9 d9] := (hF 6 _ _ rfl rfl).1
      have e19 : v 19 = .pointer (some ⟨A7, 0, none⟩) := (hF 7 _ _ rfl rfl).1
      have e20 : v 20 = .agg #[.bool g11, .slice p11 n11 c11] := (hF 8 _ _ rfl rfl).1
      have f21 : VZ W2 zb (v 21) := (hF 9 _ _ rfl rfl).1
      have f23 : VQ W2 (r / s) (v 23) := (hF 11 _ _ rfl rfl).1
      have o23 := f23
      obtain ⟨p23, c23, q23, d23, e23, s23, t23⟩ := o23
      rw [e23] at f23
      have e24 : v 24 = .int .i64 0 := (hF 12 _ _ rfl rfl).1
      have e5 : v 5 = .int .i64 0 := (hF 14 _ _ rfl rfl).1
      obtain ⟨-, A', eA, nb4⟩ := hF 13 _ _ rfl rfl
      injection eA with eA; subst eA
      replace nb4 : Bx W2 (w.heap.size + 2) 26 #[.bool (decide (((r / s)).num < 0)), .slice p23 (dg ((r / s)).num.natAbs).length c23, .slice q23 (dg ((r / s)).den).length d23] := by simp only [List.map, e23] at nb4; exact nb4
      clear hF hD
      simp only [e12, e13, e14, e15, e17, e18, e19, e20, e23, e24, e5]
      replace b2 := b2.keep f (by simp <;> omega)
      replace b3 := b3.keep f (by simp <;> omega)
      replace b6 := b6.keep f (by simp <;> omega)
      replace b7 := b7.keep f (by simp <;> omega)
      clear b4; have b4 := nb4; clear nb4
      replace ht := ht.kp kp
      replace h1 := h1.kp kp
      replace h2 := h2.kp kp
      replace s9 := s9.kp kp
      replace t9 := t9.kp kp
      replace f9 := f9.kp kp
      replace s11 := s11.kp kp
      replace t11 := t11.kp kp
      replace f11 := f11.kp kp
      replace i9 := i9.kp kp
      replace j9 := j9.kp kp
      replace i11 := i11.kp kp
      replace j11 := j11.kp kp
      replace hw := hw.trans (a := w) (b := W1) (c := W2) f (fun x hx hl => by simp at hx; omega)
      have hsz2 := f.size
      clear f kp
      go_wp2_with fail
      have c_b4_0 := b4.cell (j := 0) rfl
      have c_b4_1 := b4.cell (j := 1) rfl
      have c_b4_2 := b4.cell (j := 2) rfl
      exact bodyPost_ret (v := .tuple #[rw' (decide (((r / s)).num < 0)) p23 (dg ((r / s)).num.natAbs).length c23 q23 (dg ((r / s)).den).length d23, .int .i64 0]) (by simp [results, Tryz.results16, go_sem, c_b4_0, c_b4_1, c_b4_2]) rfl ⟨_, rfl, f23, hw⟩

end Go.Proofs.YtjjdbhohjphcoaaGreatDoor
