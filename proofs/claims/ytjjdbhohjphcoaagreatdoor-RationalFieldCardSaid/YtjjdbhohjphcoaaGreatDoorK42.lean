/- What the statements of this claim stand on: of Fld3b, what they name -/
import Derived.Test.YtjjdbhohjphcoaaGreatDoorK36

namespace Go.Proofs.YtjjdbhohjphcoaaGreatDoor
open Go.RowKit

set_option maxRecDepth 100000 in
set_option maxHeartbeats 16000000 in
theorem field_small0 {w : World} {ra rb rc : Rat} {va vb vc : Value} (ht : Tab w) (h1 : VR w 4 ra va) (h2 : VR w 4 rb vb) (h3 : VR w 4 rc vc) (h0 : rb = 0) : Calls Tryz.prog 7 #[va, vb, vc] w (RB true w) := by
  have lra := nq_vr h1
  have lrb := nq_vr h2
  have lrc := nq_vr h3
  have o_h1 := h1
  obtain ⟨ga, pa, na, ca, Xa, qa, ma, da, Ya, rfl, -, -, -, -, -⟩ := o_h1
  have o_h2 := h2
  obtain ⟨gb, pb, nb, cb, Xb, qb, mb, db, Yb, rfl, -, -, -, -, -⟩ := o_h2
  have o_h3 := h3
  obtain ⟨gc, pc, nc, cc, Xc, qc, mc, dc, Yc, rfl, -, -, -, -, -⟩ := o_h3
  go_enter Tryz.func7, Tryz.ntmps7
  go_upto_region 1 with fail
  have hw : Fr [] w (((w.alloc (Obj.cells #[.bool ga, .slice pa na ca, .slice qa ma da] 26)).alloc (Obj.cells #[.bool gb, .slice pb nb cb, .slice qb mb db] 26)).alloc (Obj.cells #[.bool gc, .slice pc nc cc, .slice qc mc dc] 26)) := (((Fr.refl _ _).alloc _).alloc _).alloc _
  have b3 : Bx (((w.alloc (Obj.cells #[.bool ga, .slice pa na ca, .slice qa ma da] 26)).alloc (Obj.cells #[.bool gb, .slice pb nb cb, .slice qb mb db] 26)).alloc (Obj.cells #[.bool gc, .slice pc nc cc, .slice qc mc dc] 26)) w.heap.size 26 #[.bool ga, .slice pa na ca, .slice qa ma da] := (Bx.made' (by simp) _ _).kept (((Fr.refl _ _).alloc _).alloc _)
  have b4 : Bx (((w.alloc (Obj.cells #[.bool ga, .slice pa na ca, .slice qa ma da] 26)).alloc (Obj.cells #[.bool gb, .slice pb nb cb, .slice qb mb db] 26)).alloc (Obj.cells #[.bool gc, .slice pc nc cc, .slice qc mc dc] 26)) (w.heap.size + 1) 26 #[.bool gb, .slice pb nb cb, .slice qb mb db] := (Bx.made' (by simp) _ _).kept ((Fr.refl _ _).alloc _)
  have b5 : Bx (((w.alloc (Obj.cells #[.bool ga, .slice pa na ca, .slice qa ma da] 26)).alloc (Obj.cells #[.bool gb, .slice pb nb cb, .slice qb mb db] 26)).alloc (Obj.cells #[.bool gc, .slice pc nc cc, .slice qc mc dc] 26)) (w.heap.size + 2) 26 #[.bool gc, .slice pc nc cc, .slice qc mc dc] := (Bx.made' (by simp) _ _).kept (Fr.refl _ _)
  generalize (((w.alloc (Obj.cells #[.bool ga, .slice pa na ca, .slice qa ma da] 26)).alloc (Obj.cells #[.bool gb, .slice pb nb cb, .slice qb mb db] 26)).alloc (Obj.cells #[.bool gc, .slice pc nc cc, .slice qc mc dc] 26)) = W at *
  have hbs := b5.lt
  replace ht := ht.kept hw
  replace h1 := h1.kept hw
  replace h2 := h2.kept hw
  replace h3 := h3.kept hw
  have Hs1 := Lib.hid (vr_small h1)
  have Hs2 := Lib.hid (vr_small h2)
  have Hs3 := Lib.hid (vr_small h3)
  refine wp_region_inv (w0 := W) (by kernel_rfl) [true, true, true, false, false, false, false, false, false, true, true, true, true, true, true, true, true, true, true, true, true, true, false, false, false, false, false, false, false, false, false, false, false, false, false, false, false, false, false, false, false, false, false, false, false, false, false, false, false, false, false, false, false, false, false, false, false, false, false, false, false, false, false, false, false, false, false, false, false, false, false, false, false, false, false, false, false, false, false, false, false, false, false, false, false, false, false, false, false, false, false, false, false, false, false, false] []
    [⟨[9], F1 (fun xx _ => xx = .agg #[.bool ga, .slice pa na ca, .slice qa ma da]), .pure⟩,
    ⟨[10], F1 (fun xx _ => xx = .bool true), .pure⟩,
    ⟨[11], F1 (fun xx _ => xx = .bool false), .pure⟩,
    ⟨[12], F1 (fun xx _ => xx = .bool false), .pure⟩,
    ⟨[13], F1 (fun xx _ => xx = .agg #[.bool gb, .slice pb nb cb, .slice qb mb db]), .pure⟩,
    ⟨[14], F1 (fun xx _ => xx = .bool true), .pure⟩,
    ⟨[15], F1 (fun xx _ => xx = .bool false), .pure⟩,
    ⟨[16], F1 (fun xx _ => xx = .bool false), .pure⟩,
    ⟨[17], F1 (fun xx _ => xx = .bool false), .pure⟩,
    ⟨[18], F1 (fun xx _ => xx = .agg #[.bool gc, .slice pc nc cc, .slice qc mc dc]), .pure⟩,
    ⟨[19], F1 (fun xx _ => xx = .bool true), .pure⟩,
    ⟨[20], F1 (fun xx _ => xx = .bool false), .pure⟩,
    ⟨[21], F1 (fun xx _ => xx = .bool false), .pure⟩]
    [[], [0], [0, 1], [0, 1, 2], [0, 1, 2, 3], [0, 1, 2, 3, 4], [0, 1, 2, 3, 4, 5], [0, 1, 2, 3, 4, 5, 6], [0, 1, 2, 3, 4, 5, 6, 7], [0, 1, 2, 3, 4, 5, 6, 7, 8], [0, 1, 2, 3, 4, 5, 6, 7, 8, 9], [0, 1, 2, 3, 4, 5, 6, 7, 8, 9, 10], [0, 1, 2, 3, 4, 5, 6, 7, 8, 9, 10, 11]] ?mk1 ?hmk1 (by kernel_rfl)
    ⟨F1.st (st_eq _), F1.st (st_eq _), F1.st (st_eq _), F1.st (st_eq _), F1.st (st_eq _), F1.st (st_eq _), F1.st (st_eq _), F1.st (st_eq _), F1.st (st_eq _), F1.st (st_eq _), F1.st (st_eq _), F1.st (st_eq _), F1.st (st_eq _), trivial⟩ (by simp) (by simp) (n := 13) rfl ⟨⟨⟨⟨⟨⟨⟨⟨⟨⟨⟨⟨⟨trivial, ?s1_0⟩, ?s1_1⟩, ?s1_2⟩, ?s1_3⟩, ?s1_4⟩, ?s1_5⟩, ?s1_6⟩, ?s1_7⟩, ?s1_8⟩, ?s1_9⟩, ?s1_10⟩, ?s1_11⟩, ?s1_12⟩ ?done1
  case hmk1 => intro v; simp only [mkv, mix, Nat.reduceAdd]; rfl
  case s1_0 =>
    refine stepOk_of _ _ rfl rfl ?_
    intro v W1 f kp ho hd K' hK
    have k0 := (b3.keep f (by simp)).cell (j := 0) rfl
    have k1 := (b3.keep f (by simp)).cell (j := 1) rfl
    have k2 := (b3.keep f (by simp)).cell (j := 2) rfl
    go_simp
    exact hK _ _ (Fr.refl [] _) rfl
  case s1_1 =>
    refine stepOk_of _ _ rfl rfl ?_
    intro v W1 f kp ho hd K' hK
    have e9 : v 9 = .agg #[.bool ga, .slice pa na ca, .slice qa ma da] := (hd 0 (by decide) _ _ rfl rfl).1
    simp only [e9] at hK ⊢
    go_simp
    refine (smallrat_e Hs1.out _).mono ?_
    rintro e W' ⟨rfl, ff⟩
    exact hK _ W' ff rfl
  case s1_2 =>
    refine stepOk_of _ _ rfl rfl ?_
    intro v W1 f kp ho hd K' hK
    have e10 : v 10 = .bool true := (hd 1 (by decide) _ _ rfl rfl).1
    simp only [e10] at hK ⊢
    go_simp
    exact hK _ _ (Fr.refl [] _) rfl
  case s1_3 =>
    refine stepOk_of _ _ rfl rfl ?_
    intro v W1 f kp ho hd K' hK
    have e11 : v 11 = .bool false := (hd 2 (by decide) _ _ rfl rfl).1
    simp only [e11] at hK ⊢
    go_simp
    exact hK _ _ (Fr.refl [] _) rfl
  case s1_4 =>
    refine stepOk_of _ _ rfl rfl ?_
    intro v W1 f kp ho hd K' hK
    have e12 : v 12 = .bool false := (hd 3 (by decide) _ _ rfl rfl).1
    have k0 := (b4.keep f (by simp)).cell (j := 0) rfl
    have k1 := (b4.keep f (by simp)).cell (j := 1) rfl
    have k2 := (b4.keep f (by simp)).cell (j := 2) rfl
    simp only [e12] at hK ⊢
    go_simp
    exact hK _ _ (Fr.refl [] _) rfl
  case s1_5 =>
    refine stepOk_of _ _ rfl rfl ?_
    intro v W1 f kp ho hd K' hK
    have e13 : v 13 = .agg #[.bool gb, .slice pb nb cb, .slice qb mb db] := (hd 4 (by decide) _ _ rfl rfl).1
    have e12 : v 12 = .bool false := (hd 3 (by decide) _ _ rfl rfl).1
    simp only [e13, e12] at hK ⊢
    go_simp
    refine (smallrat_e Hs2.out _).mono ?_
    rintro e W' ⟨rfl, ff⟩
    exact hK _ W' ff rfl
  case s1_6 =>
    refine stepOk_of _ _ rfl rfl ?_
    intro v W1 f kp ho hd K' hK
    have e14 : v 14 = .bool true := (hd 5 (by decide) _ _ rfl rfl).1
    have e12 : v 12 = .bool false := (hd 3 (by decide) _ _ rfl rfl).1
    simp only [e14, e12] at hK ⊢
    go_simp
    exact hK _ _ (Fr.refl [] _) rfl
  case s1_7 =>
    refine stepOk_of _ _ rfl rfl ?_
    intro v W1 f kp ho hd K' hK
    have e12 : v 12 = .bool false := (hd 3 (by decide) _ _ rfl rfl).1
    have e15 : v 15 = .bool false := (hd 6 (by decide) _ _ rfl rfl).1
    simp only [e12, e15] at hK ⊢
    go_simp
    exact hK _ _ (Fr.refl [] _) rfl
  case s1_8 =>
    refine stepOk_of _ _ rfl rfl ?_
    intro v W1 f kp ho hd K' hK
    have e16 : v 16 = .bool false := (hd 7 (by decide) _ _ rfl rfl).1
    simp only [e16] at hK ⊢
    go_simp
    exact hK _ _ (Fr.refl [] _) rfl
  case s1_9 =>
    refine stepOk_of _ _ rfl rfl ?_
    intro v W1 f kp ho hd K' hK
    have e17 : v 17 = .bool false := (hd 8 (by decide) _ _ rfl rfl).1
    have k0 := (b5.keep f (by simp)).cell (j := 0) rfl
    have k1 := (b5.keep f (by simp)).cell (j := 1) rfl
    have k2 := (b5.keep f (by simp)).cell (j := 2) rfl
    simp only [e17] at hK ⊢
    go_simp
    exact hK _ _ (Fr.refl [] _) rfl
  case s1_10 =>
    refine stepOk_of _ _ rfl rfl ?_
    intro v W1 f kp ho hd K' hK
    have e18 : v 18 = .agg #[.bool gc, .slice pc nc cc, .slice qc mc dc] := (hd 9 (by decide) _ _ rfl rfl).1
    have e17 : v 17 = .bool false := (hd 8 (by decide) _ _ rfl rfl).1
    simp only [e18, e17] at hK ⊢
    go_simp
    refine (smallrat_e Hs3.out _).mono ?_
    rintro e W' ⟨rfl, ff⟩
    exact hK _ W' ff rfl
  case s1_11 =>
    refine stepOk_of _ _ rfl rfl ?_
    intro v W1 f kp ho hd K' hK
    have e19 : v 19 = .bool true := (hd 10 (by decide) _ _ rfl rfl).1
    have e17 : v 17 = .bool false := (hd 8 (by decide) _ _ rfl rfl).1
    simp only [e19, e17] at hK ⊢
    go_simp
    exact hK _ _ (Fr.refl [] _) rfl
  case s1_12 =>
    refine stepOk_of _ _ rfl rfl ?_
    intro v W1 f kp ho hd K' hK
    have e17 : v 17 = .bool false := (hd 8 (by decide) _ _ rfl rfl).1
    have e20 : v 20 = .bool false := (hd 11 (by decide) _ _ rfl rfl).1
    simp only [e17, e20] at hK ⊢
    go_simp
    exact hK _ _ (Fr.refl [] _) rfl
  case done1 =>
    intro v W1 f kp hF hD
    have e9 : v 9 = .agg #[.bool ga, .slice pa na ca, .slice qa ma da] := (hF 0 _ _ rfl rfl).1
    have e10 : v 10 = .bool true := (hF 1 _ _ rfl rfl).1
    have e11 : v 11 = .bool false := (hF 2 _ _ rfl rfl).1
    have e12 : v 12 = .bool false := (hF 3 _ _ rfl rfl).1
    have e13 : v 13 = .agg #[.bool gb, .slice pb nb cb, .slice qb mb db] := (hF 4 _ _ rfl rfl).1
    have e14 : v 14 = .bool true := (hF 5 _ _ rfl rfl).1
    have e15 : v 15 = .bool false := (hF 6 _ _ rfl rfl).1
    have e16 : v 16 = .bool false := (hF 7 _ _ rfl rfl).1
    have e17 : v 17 = .bool false := (hF 8 _ _ rfl rfl).1
    have e18 : v 18 = .agg #[.bool gc, .slice pc nc cc, .slice qc mc dc] := (hF 9 _ _ rfl rfl).1
    have e19 : v 19 = .bool true := (hF 10 _ _ rfl rfl).1
    have e20 : v 20 = .bool false := (hF 11 _ _ rfl rfl).1
    have e21 : v 21 = .bool false := (hF 12 _ _ rfl rfl).1
    clear hF hD
    simp only [e9, e10, e11, e12, e13, e14, e15, e16, e17, e18, e19, e20, e21]
    replace b3 := b3.keep f (by simp)
    replace b4 := b4.keep f (by simp)
    replace b5 := b5.keep f (by simp)
    replace ht := ht.kp kp
    replace h1 := h1.kp kp
    replace h2 := h2.kp kp
    replace h3 := h3.kp kp
    replace hw := hw.trans (a := w) (b := W) (c := W1) f (by simp)
    have hsz1 := f.size
    clear f kp
    have hsb : rb.num.sign = 0 := by rw [h0]; rfl
    have Hb0 := Lib.hid h0
    have Hsb := Lib.hid hsb
    clear h0 hsb
    have c_b3_0 := b3.cell (j := 0) rfl
    have c_b3_1 := b3.cell (j := 1) rfl
    have c_b3_2 := b3.cell (j := 2) rfl
    have c_b4_0 := b4.cell (j := 0) rfl
    have c_b4_1 := b4.cell (j := 1) rfl
    have c_b4_2 := b4.cell (j := 2) rfl
    have c_b5_0 := b5.cell (j := 0) rfl
    have c_b5_1 := b5.cell (j := 1) rfl
    have c_b5_2 := b5.cell (j := 2) rfl
    go_upto_region 3 with fail
    clear c_b3_0 c_b3_1 c_b3_2 c_b4_0 c_b4_1 c_b4_2 c_b5_0 c_b5_1 c_b5_2
    refine wp_region_inv (w0 := W1) (by kernel_rfl) [true, true, true, false, false, false, false, true, true, true, true, true, true, true, true, true, true, true, true, true, true, true, true, true, true, true, true, true, true, false, false, false, false, false, false, false, false, false, false, false, false, false, false, false, false, false, false, false, false, false, false, false, false, false, false, false, false, false, false, false, false, false, false, false, false, false, false, false, false, false, false, false, false, false, false, false, false, false, false, false, false, false, false, false, false, false, false, false, false, false, false, false, false, false, false, false] []
      [⟨[24], F1 (fun xx _ => xx = .agg #[.bool ga, .slice pa na ca, .slice qa ma da]), .pure⟩,
    ⟨[25], F1 (fun xx _ => xx = .agg #[.bool gb, .slice pb nb cb, .slice qb mb db]), .pure⟩,
    ⟨[26], F1 (fun xx ww => xx = .tuple #[rw' false none 0 0 none 0 0, .int .i64 3]), .pure⟩,
    ⟨[23], F1 (fun xx ww => xx = .tuple #[rw' false none 0 0 none 0 0, .int .i64 3]), .pure⟩,
    ⟨[27], F1 (fun xx _ => xx = rw' false none 0 0 none 0 0), .pure⟩,
    ⟨[28], F1 (fun xx _ => xx = .int .i64 3), .pure⟩,
    ⟨[], F0, .new 26 3⟩,
    ⟨[27], F0, .store 7 26 cellsOf⟩,
    ⟨[8], F1 (fun xx _ => xx = .int .i64 3), .pure⟩]
      [[], [], [0, 1], [0, 1, 2], [0, 1, 2, 3], [0, 1, 2, 3], [], [0, 1, 2, 3, 4, 6], [0, 1, 2, 3, 4, 5, 6, 7]] ?mk2 ?hmk2 (by kernel_rfl)
      ⟨F1.st (st_eq _), F1.st (st_eq _), F1.st (fun _ _ _ k h => by exact h), F1.st (fun _ _ _ k h => by exact h), F1.st (st_eq _), F1.st (st_eq _), F0.st, F0.st, F1.st (st_eq _), trivial⟩ (by simp) (by simp) (n := 9) rfl ⟨⟨⟨⟨⟨⟨⟨⟨⟨trivial, ?s2_0⟩, ?s2_1⟩, ?s2_2⟩, ?s2_3⟩, ?s2_4⟩, ?s2_5⟩, ?s2_6⟩, ?s2_7⟩, ?s2_8⟩ ?done2
    case hmk2 => intro v; simp only [mkv, mix, Nat.reduceAdd]; rfl
    case s2_0 =>
      refine stepOk_of _ _ rfl rfl ?_
      intro v W2 f kp ho hd K' hK
      have k0 := (b3.keep f (by simp)).cell (j := 0) rfl
      have k1 := (b3.keep f (by simp)).cell (j := 1) rfl
      have k2 := (b3.keep f (by simp)).cell (j := 2) rfl
      go_simp
      exact hK _ _ (Fr.refl [] _) rfl
    case s2_1 =>
      refine stepOk_of _ _ rfl rfl ?_
      intro v W2 f kp ho hd K' hK
      have k0 := (b4.keep f (by simp)).cell (j := 0) rfl
      have k1 := (b4.keep f (by simp)).cell (j := 1) rfl
      have k2 := (b4.keep f (by simp)).cell (j := 2) rfl
      go_simp
      exact hK _ _ (Fr.refl [] _) rfl
    case s2_2 =>
      refine stepOk_of _ _ rfl rfl ?_
      intro v W2 f kp ho hd K' hK
      have e24 : v 24 = .agg #[.bool ga, .slice pa na ca, .slice qa ma da] := (hd 0 (by decide) _ _ rfl rfl).1
      have e25 : v 25 = .agg #[.bool gb, .slice pb nb cb, .slice qb mb db] := (hd 1 (by decide) _ _ rfl rfl).1
      simp only [e24, e25] at hK ⊢
      go_simp
      refine (div_e0 Hb0.out (ht.kp kp) (h1.kp kp) (h2.kp kp) (by omega) (by omega)).mono ?_
      rintro e W' ⟨rfl, ff⟩
      exact hK _ W' ff rfl
    case s2_3 =>
      refine stepOk_of _ _ rfl rfl ?_
      intro v W2 f kp ho hd K' hK
      have f26 : v 26 = .tuple #[rw' false none 0 0 none 0 0, .int .i64 3] := (hd 2 (by decide) _ _ rfl rfl).1
      have e26 := f26
      simp only [e26] at hK ⊢
      go_simp
      exact hK _ _ (Fr.refl [] _) rfl
    case s2_4 =>
      refine stepOk_of _ _ rfl rfl ?_
      intro v W2 f kp ho hd K' hK
      have f23 : v 23 = .tuple #[rw' false none 0 0 none 0 0, .int .i64 3] := (hd 3 (by decide) _ _ rfl rfl).1
      have e23 := f23
      simp only [e23] at hK ⊢
      go_simp
      exact hK _ _ (Fr.refl [] _) rfl
    case s2_5 =>
      refine stepOk_of _ _ rfl rfl ?_
      intro v W2 f kp ho hd K' hK
      have f23 : v 23 = .tuple #[rw' false none 0 0 none 0 0, .int .i64 3] := (hd 3 (by decide) _ _ rfl rfl).1
      have e23 := f23
      simp only [e23] at hK ⊢
      go_simp
      exact hK _ _ (Fr.refl [] _) rfl
    case s2_6 =>
      refine stepOk_of _ _ rfl rfl ?_
      intro v W2 f kp ho hd K' hK
      go_simp
      exact hK _ _ (move_new rfl rfl rfl rfl rfl) trivial
    case s2_7 =>
      refine stepOk_of _ _ rfl rfl ?_
      intro v W2 f kp ho hd K' hK
      obtain ⟨-, A7, e7, -, sb7⟩ := hd 6 (by decide) _ _ rfl rfl
      have e27 : v 27 = rw' false none 0 0 none 0 0 := (hd 4 (by decide) _ _ rfl rfl).1
      obtain ⟨zz0, zz1, zz2, bz⟩ := sb7.open3
      have k0 := bz.cell (j := 0) rfl
      have fr0 := bz.free 0
      have k1 := bz.cell (j := 1) rfl
      have fr1 := bz.free 1
      have k2 := bz.cell (j := 2) rfl
      have fr2 := bz.free 2
      simp only [e7, e27] at hK ⊢
      go_simp
      exact hK undef _ (move_store (cs := #[.bool false, .slice none 0 0, .slice none 0 0]) rfl e7 (by simp only [List.map, e27]; rfl) sb7 rfl rfl ((((Fr.refl _ _).put1 0 _).put1 1 _).put1 2 _) ((((bz.put1 0 _).put1 1 _).put1 2 _))) trivial
    case s2_8 =>
      refine stepOk_of _ _ rfl rfl ?_
      intro v W2 f kp ho hd K' hK
      have e28 : v 28 = .int .i64 3 := (hd 5 (by decide) _ _ rfl rfl).1
      simp only [e28] at hK ⊢
      go_simp
      exact hK _ _ (Fr.refl [] _) rfl
    case done2 =>
      intro v W2 f kp hF hD
      have e24 : v 24 = .agg #[.bool ga, .slice pa na ca, .slice qa ma da] := (hF 0 _ _ rfl rfl).1
      have e25 : v 25 = .agg #[.bool gb, .slice pb nb cb, .slice qb mb db] := (hF 1 _ _ rfl rfl).1
      have e27 : v 27 = rw' false none 0 0 none 0 0 := (hF 4 _ _ rfl rfl).1
      have e28 : v 28 = .int .i64 3 := (hF 5 _ _ rfl rfl).1
      obtain ⟨-, A7, e7, g7, -⟩ := hF 6 _ _ rfl rfl
      have e8 : v 8 = .int .i64 3 := (hF 8 _ _ rfl rfl).1
      obtain ⟨-, A', eA, b7⟩ := hF 7 _ _ rfl rfl
      rw [e7] at eA; injection eA with eA; injection eA with eA; injection eA with eA; subst eA
      replace b7 : Bx W2 A7 26 #[.bool false, .slice none 0 0, .slice none 0 0] := by simp only [List.map, e27] at b7; exact b7
      clear hF hD
      simp only [e24, e25, e27, e28, e7, e8]
      replace b3 := b3.keep f (by simp)
      replace b4 := b4.keep f (by simp)
      replace b5 := b5.keep f (by simp)
      replace ht := ht.kp kp
      replace h1 := h1.kp kp
      replace h2 := h2.kp kp
      replace h3 := h3.kp kp
      replace hw := hw.trans (a := w) (b := W1) (c := W2) f (by simp)
      have hsz2 := f.size
      clear f kp
      have hlt_b7 := b7.lt
      have c_b3_0 := b3.cell (j := 0) rfl
      have c_b3_1 := b3.cell (j := 1) rfl
      have c_b3_2 := b3.cell (j := 2) rfl
      have c_b4_0 := b4.cell (j := 0) rfl
      have c_b4_1 := b4.cell (j := 1) rfl
      have c_b4_2 := b4.cell (j := 2) rfl
      have c_b5_0 := b5.cell (j := 0) rfl
      have c_b5_1 := b5.cell (j := 1) rfl
      have c_b5_2 := b5.cell (j := 2) rfl
      have c_b7_0 := b7.cell (j := 0) rfl
      have c_b7_1 := b7.cell (j := 1) rfl
      have c_b7_2 := b7.cell (j := 2) rfl
      go_upto_region 4 with fail
      clear c_b3_0 c_b3_1 c_b3_2 c_b4_0 c_b4_1 c_b4_2 c_b5_0 c_b5_1 c_b5_2 c_b7_0 c_b7_1 c_b7_2
      refine wp_region_inv (w0 := W2) (by kernel_rfl) [true, true, true, false, false, false, false, false, false, true, true, true, true, true, true, true, true, true, true, true, true, true, true, true, true, true, true, true, true, true, true, true, true, true, true, true, true, true, true, true, true, true, true, true, true, true, true, false, false, false, false, false, false, false, false, false, false, false, false, false, false, false, false, false, false, false, false, false, false, false, false, false, false, false, false, false, false, false, false, false, false, false, false, false, false, false, false, false, false, false, false, false, false, false, false, false] []
        [⟨[29], F1 (fun xx _ => xx = .int .i64 3), .pure⟩,
    ⟨[30], F1 (fun xx _ => xx = .bool false), .pure⟩,
    ⟨[31], F1 (fun xx _ => xx = .agg #[.bool gb, .slice pb nb cb, .slice qb mb db]), .pure⟩,
    ⟨[32], F1 (fun xx _ => xx = .int .i64 0), .pure⟩,
    ⟨[33], F1 (fun xx _ => xx = .bool false), .pure⟩,
    ⟨[34], F1 (fun xx _ => xx = .bool false), .pure⟩,
    ⟨[35], F1 (fun xx _ => xx = .bool false), .pure⟩,
    ⟨[36], F1 (fun xx _ => xx = .int .i64 3), .pure⟩,
    ⟨[37], F1 (fun xx _ => xx = .bool false), .pure⟩,
    ⟨[38], F1 (fun xx _ => xx = .bool false), .pure⟩,
    ⟨[39], F1 (fun xx _ => xx = undef), .pure⟩,
    ⟨[40], F1 (fun xx _ => xx = undef), .pure⟩,
    ⟨[41], F1 (fun xx _ => xx = undef), .pure⟩,
    ⟨[42], F1 (fun xx _ => xx = undef), .pure⟩,
    ⟨[43], F1 (fun xx _ => xx = undef), .pure⟩,
    ⟨[44], F1 (fun xx _ => xx = undef), .pure⟩,
    ⟨[45], F1 (fun xx _ => xx = .bool false), .pure⟩,
    ⟨[46], F1 (fun xx _ => xx = .bool false), .pure⟩]
        [[], [0], [], [2], [2, 3], [0, 1, 2, 3, 4], [0, 1, 2, 3, 4, 5], [0, 1, 2, 3, 4, 5, 6], [0, 1, 2, 3, 4, 5, 6, 7], [0, 1, 2, 3, 4, 5, 6, 7, 8], [0, 1, 2, 3, 4, 5, 6, 7, 8, 9], [0, 1, 2, 3, 4, 5, 6, 7, 8, 9], [0, 1, 2, 3, 4, 5, 6, 7, 8, 9, 10, 11], [0, 1, 2, 3, 4, 5, 6, 7, 8, 9], [0, 1, 2, 3, 4, 5, 6, 7, 8, 9, 10, 11, 12, 13], [0, 1, 2, 3, 4, 5, 6, 7, 8, 9, 10, 11, 12, 13, 14], [0, 1, 2, 3, 4, 5, 6, 7, 8, 9, 10, 11, 12, 13, 14, 15], [0, 1, 2, 3, 4, 5, 6, 7, 8, 9, 10, 11, 12, 13, 14, 15, 16]] ?mk3 ?hmk3 (by kernel_rfl)
        ⟨F1.st (st_eq _), F1.st (st_eq _), F1.st (st_eq _), F1.st (st_eq _), F1.st (st_eq _), F1.st (st_eq _), F1.st (st_eq _), F1.st (st_eq _), F1.st (st_eq _), F1.st (st_eq _), F1.st (st_eq _), F1.st (st_eq _), F1.st (st_eq _), F1.st (st_eq _), F1.st (st_eq _), F1.st (st_eq _), F1.st (st_eq _), F1.st (st_eq _), trivial⟩ (by simp) (by simp) (n := 18) rfl ⟨⟨⟨⟨⟨⟨⟨⟨⟨⟨⟨⟨⟨⟨⟨⟨⟨⟨trivial, ?s3_0⟩, ?s3_1⟩, ?s3_2⟩, ?s3_3⟩, ?s3_4⟩, ?s3_5⟩, ?s3_6⟩, ?s3_7⟩, ?s3_8⟩, ?s3_9⟩, ?s3_10⟩, ?s3_11⟩, ?s3_12⟩, ?s3_13⟩, ?s3_14⟩, ?s3_15⟩, ?s3_16⟩, ?s3_17⟩ ?done3
      case hmk3 => intro v; simp only [mkv, mix, Nat.reduceAdd]; rfl
      case s3_0 =>
        refine stepOk_of _ _ rfl rfl ?_
        intro v W3 f kp ho hd K' hK
        go_simp
        exact hK _ _ (Fr.refl [] _) rfl
      case s3_1 =>
        refine stepOk_of _ _ rfl rfl ?_
        intro v W3 f kp ho hd K' hK
        have e29 : v 29 = .int .i64 3 := (hd 0 (by decide) _ _ rfl rfl).1
        simp only [e29] at hK ⊢
        go_simp
        exact hK _ _ (Fr.refl [] _) rfl
      case s3_2 =>
        refine stepOk_of _ _ rfl rfl ?_
        intro v W3 f kp ho hd K' hK
        have k0 := (b4.keep f (by simp)).cell (j := 0) rfl
        have k1 := (b4.keep f (by simp)).cell (j := 1) rfl
        have k2 := (b4.keep f (by simp)).cell (j := 2) rfl
        go_simp
        exact hK _ _ (Fr.refl [] _) rfl
      case s3_3 =>
        refine stepOk_of _ _ rfl rfl ?_
        intro v W3 f kp ho hd K' hK
        have e31 : v 31 = .agg #[.bool gb, .slice pb nb cb, .slice qb mb db] := (hd 2 (by decide) _ _ rfl rfl).1
        simp only [e31] at hK ⊢
        go_simp
        refine (sign_e Hsb.out (h2.kp kp) (by omega)).mono ?_
        rintro e W' ⟨rfl, ff⟩
        exact hK _ W' ff rfl
      case s3_4 =>
        refine stepOk_of _ _ rfl rfl ?_
        intro v W3 f kp ho hd K' hK
        have e32 : v 32 = .int .i64 0 := (hd 3 (by decide) _ _ rfl rfl).1
        simp only [e32] at hK ⊢
        go_simp
        exact hK _ _ (Fr.refl [] _) rfl
      case s3_5 =>
        refine stepOk_of _ _ rfl rfl ?_
        intro v W3 f kp ho hd K' hK
        have e30 : v 30 = .bool false := (hd 1 (by decide) _ _ rfl rfl).1
        have e33 : v 33 = .bool false := (hd 4 (by decide) _ _ rfl rfl).1
        simp only [e30, e33] at hK ⊢
        go_simp
        exact hK _ _ (Fr.refl [] _) rfl
      case s3_6 =>
        refine stepOk_of _ _ rfl rfl ?_
        intro v W3 f kp ho hd K' hK
        have e34 : v 34 = .bool false := (hd 5 (by decide) _ _ rfl rfl).1
        simp only [e34] at hK ⊢
        go_simp
        exact hK _ _ (Fr.refl [] _) rfl
      case s3_7 =>
        refine stepOk_of _ _ rfl rfl ?_
        intro v W3 f kp ho hd K' hK
        have e35 : v 35 = .bool false := (hd 6 (by decide) _ _ rfl rfl).1
        simp only [e35] at hK ⊢
        go_simp
        exact hK _ _ (Fr.refl [] _) rfl
      case s3_8 =>
        refine stepOk_of _ _ rfl rfl ?_
        intro v W3 f kp ho hd K' hK
        have e36 : v 36 = .int .i64 3 := (hd 7 (by decide) _ _ rfl rfl).1
        have e35 : v 35 = .bool false := (hd 6 (by decide) _ _ rfl rfl).1
        simp only [e36, e35] at hK ⊢
        go_simp
        exact hK _ _ (Fr.refl [] _) rfl
      case s3_9 =>
        refine stepOk_of _ _ rfl rfl ?_
        intro v W3 f kp ho hd K' hK
        have e37 : v 37 = .bool false := (hd 8 (by decide) _ _ rfl rfl).1
        have e35 : v 35 = .bool false := (hd 6 (by decide) _ _ rfl rfl).1
        simp only [e37, e35] at hK ⊢
        go_simp
        exact hK _ _ (Fr.refl [] _) rfl
      case s3_10 =>
        refine stepOk_of _ _ rfl rfl ?_
        intro v W3 f kp ho hd K' hK
        have e38 : v 38 = .bool false := (hd 9 (by decide) _ _ rfl rfl).1
        simp only [e38] at hK ⊢
        go_simp
        exact hK _ _ (Fr.refl [] _) rfl
      case s3_11 =>
        refine stepOk_of _ _ rfl rfl ?_
        intro v W3 f kp ho hd K' hK
        have e38 : v 38 = .bool false := (hd 9 (by decide) _ _ rfl rfl).1
        simp only [e38] at hK ⊢
        go_simp
        exact hK _ _ (Fr.refl [] _) rfl
      case s3_12 =>
        refine stepOk_of _ _ rfl rfl ?_
        intro v W3 f kp ho hd K' hK
        have e39 : v 39 = undef := (hd 10 (by decide) _ _ rfl rfl).1
        have e40 : v 40 = undef := (hd 11 (by decide) _ _ rfl rfl).1
        have e38 : v 38 = .bool false := (hd 9 (by decide) _ _ rfl rfl).1
        simp only [e39, e40, e38] at hK ⊢
        go_simp
        exact hK _ _ (Fr.refl [] _) rfl
      case s3_13 =>
        refine stepOk_of _ _ rfl rfl ?_
        intro v W3 f kp ho hd K' hK
        have e38 : v 38 = .bool false := (hd 9 (by decide) _ _ rfl rfl).1
        simp only [e38] at hK ⊢
        go_simp
        exact hK _ _ (Fr.refl [] _) rfl
      case s3_14 =>
        refine stepOk_of _ _ rfl rfl ?_
        intro v W3 f kp ho hd K' hK
        have e41 : v 41 = undef := (hd 12 (by decide) _ _ rfl rfl).1
        have e42 : v 42 = undef := (hd 13 (by decide) _ _ rfl rfl).1
        have e38 : v 38 = .bool false := (hd 9 (by decide) _ _ rfl rfl).1
        simp only [e41, e42, e38] at hK ⊢
        go_simp
        exact hK _ _ (Fr.refl [] _) rfl
      case s3_15 =>
        refine stepOk_of _ _ rfl rfl ?_
        intro v W3 f kp ho hd K' hK
        have e43 : v 43 = undef := (hd 14 (by decide) _ _ rfl rfl).1
        have e38 : v 38 = .bool false := (hd 9 (by decide) _ _ rfl rfl).1
        simp only [e43, e38] at hK ⊢
        go_simp
        exact hK _ _ (Fr.refl [] _) rfl
      case s3_16 =>
        refine stepOk_of _ _ rfl rfl ?_
        intro v W3 f kp ho hd K' hK
        have e38 : v 38 = .bool false := (hd 9 (by decide) _ _ rfl rfl).1
        have e44 : v 44 = undef := (hd 15 (by decide) _ _ rfl rfl).1
        have e35 : v 35 = .bool false := (hd 6 (by decide) _ _ rfl rfl).1
        simp only [e38, e44, e35] at hK ⊢
        go_simp
        exact hK _ _ (Fr.refl [] _) rfl
      case s3_17 =>
        refine stepOk_of _ _ rfl rfl ?_
        intro v W3 f kp ho hd K' hK
        have e35 : v 35 = .bool false := (hd 6 (by decide) _ _ rfl rfl).1
        have e45 : v 45 = .bool false := (hd 16 (by decide) _ _ rfl rfl).1
        simp only [e35, e45] at hK ⊢
        go_simp
        exact hK _ _ (Fr.refl [] _) rfl
      case done3 =>
        intro v W3 f kp hF hD
        have e29 : v 29 = .int .i64 3 := (hF 0 _ _ rfl rfl).1
        have e30 : v 30 = .bool false := (hF 1 _ _ rfl rfl).1
        have e31 : v 31 = .agg #[.bool gb, .slice pb nb cb, .slice qb mb db] := (hF 2 _ _ rfl rfl).1
        have e32 : v 32 = .int .i64 0 := (hF 3 _ _ rfl rfl).1
        have e33 : v 33 = .bool false := (hF 4 _ _ rfl rfl).1
        have e34 : v 34 = .bool false := (hF 5 _ _ rfl rfl).1
        have e35 : v 35 = .bool false := (hF 6 _ _ rfl rfl).1
        have e36 : v 36 = .int .i64 3 := (hF 7 _ _ rfl rfl).1
        have e37 : v 37 = .bool false := (hF 8 _ _ rfl rfl).1
        have e38 : v 38 = .bool false := (hF 9 _ _ rfl rfl).1
        have e39 : v 39 = undef := (hF 10 _ _ rfl rfl).1
        have e40 : v 40 = undef := (hF 11 _ _ rfl rfl).1
        have e41 : v 41 = undef := (hF 12 _ _ rfl rfl).1
        have e42 : v 42 = undef := (hF 13 _ _ rfl rfl).1
        have e43 : v 43 = undef := (hF 14 _ _ rfl rfl).1
        have e44 : v 44 = undef := (hF 15 _ _ rfl rfl).1
        have e45 : v 45 = .bool false := (hF 16 _ _ rfl rfl).1
        have e46 : v 46 = .bool false := (hF 17 _ _ rfl rfl).1
        clear hF hD
        simp only [e29, e30, e31, e32, e33, e34, e35, e36, e37, e38, e39, e40, e41, e42, e43, e44, e45, e46]
        replace b3 := b3.keep f (by simp)
        replace b4 := b4.keep f (by simp)
        replace b5 := b5.keep f (by simp)
        replace b7 := b7.keep f (by simp)
        replace ht := ht.kp kp
        replace h1 := h1.kp kp
        replace h2 := h2.kp kp
        replace h3 := h3.kp kp
        replace hw := hw.trans (a := w) (b := W2) (c := W3) f (by simp)
        have hsz3 := f.size
        clear f kp
        obtain ⟨q51, hq51⟩ : ∃ q : Rat, ra + rb = q := ⟨_, rfl⟩
        have l51 : nq q51 ≤ 37 := by rw [← hq51]; have := nq_add' ra rb; omega
        have Hq51 := Lib.hid hq51
        obtain ⟨q53, hq53⟩ : ∃ q : Rat, q51 + rc = q := ⟨_, rfl⟩
        have l53 : nq q53 ≤ 93 := by rw [← hq53]; have := nq_add' q51 rc; omega
        have Hq53 := Lib.hid hq53
        obtain ⟨q57, hq57⟩ : ∃ q : Rat, rb + rc = q := ⟨_, rfl⟩
        have l57 : nq q57 ≤ 37 := by rw [← hq57]; have := nq_add' rb rc; omega
        have Hq57 := Lib.hid hq57
        obtain ⟨q58, hq58⟩ : ∃ q : Rat, ra + q57 = q := ⟨_, rfl⟩
        have l58 : nq q58 ≤ 93 := by rw [← hq58]; have := nq_add' ra q57; omega
        have Hq58 := Lib.hid hq58
        have hs59 : q53 = q58 := by rw [← hq53, ← hq51, ← hq58, ← hq57]; exact Rat.add_assoc _ _ _
        have Hs59 := Lib.hid hs59; clear hs59
        obtain ⟨q64, hq64⟩ : ∃ q : Rat, ra * rb = q := ⟨_, rfl⟩
        have l64 : nq q64 ≤ 18 := by rw [← hq64]; have := nq_mul ra rb; omega
        have Hq64 := Lib.hid hq64
        obtain ⟨q66, hq66⟩ : ∃ q : Rat, q64 * rc = q := ⟨_, rfl⟩
        have l66 : nq q66 ≤ 27 := by rw [← hq66]; have := nq_mul q64 rc; omega
        have Hq66 := Lib.hid hq66
        obtain ⟨q70, hq70⟩ : ∃ q : Rat, rb * rc = q := ⟨_, rfl⟩
        have l70 : nq q70 ≤ 18 := by rw [← hq70]; have := nq_mul rb rc; omega
        have Hq70 := Lib.hid hq70
        obtain ⟨q71, hq71⟩ : ∃ q : Rat, ra * q70 = q := ⟨_, rfl⟩
        have l71 : nq q71 ≤ 27 := by rw [← hq71]; have := nq_mul ra q70; omega
        have Hq71 := Lib.hid hq71
        have hs72 : q66 = q71 := by rw [← hq66, ← hq64, ← hq71, ← hq70]; exact Rat.mul_assoc _ _ _
        have Hs72 := Lib.hid hs72; clear hs72
        obtain ⟨q78, hq78⟩ : ∃ q : Rat, rb + rc = q := ⟨_, rfl⟩
        have l78 : nq q78 ≤ 37 := by rw [← hq78]; have := nq_add' rb rc; omega
        have Hq78 := Lib.hid hq78
        obtain ⟨q79, hq79⟩ : ∃ q : Rat, ra * q78 = q := ⟨_, rfl⟩
        have l79 : nq q79 ≤ 46 := by rw [← hq79]; have := nq_mul ra q78; omega
        have Hq79 := Lib.hid hq79
        obtain ⟨q82, hq82⟩ : ∃ q : Rat, ra * rb = q := ⟨_, rfl⟩
        have l82 : nq q82 ≤ 18 := by rw [← hq82]; have := nq_mul ra rb; omega
        have Hq82 := Lib.hid hq82
        obtain ⟨q85, hq85⟩ : ∃ q : Rat, ra * rc = q := ⟨_, rfl⟩
        have l85 : nq q85 ≤ 18 := by rw [← hq85]; have := nq_mul ra rc; omega
        have Hq85 := Lib.hid hq85
        obtain ⟨q86, hq86⟩ : ∃ q : Rat, q82 + q85 = q := ⟨_, rfl⟩
        have l86 : nq q86 ≤ 73 := by rw [← hq86]; have := nq_add' q82 q85; omega
        have Hq86 := Lib.hid hq86
        have hs87 : q79 = q86 := by rw [← hq79, ← hq78, ← hq86, ← hq82, ← hq85]; exact Rat.mul_add _ _ _
        have Hs87 := Lib.hid hs87; clear hs87
        obtain ⟨q92, hq92⟩ : ∃ q : Rat, ra - ra = q := ⟨_, rfl⟩
        have l92 : nq q92 ≤ 37 := by rw [← hq92]; have := nq_sub ra ra; omega
        have Hq92 := Lib.hid hq92
        obtain ⟨z93, hz93⟩ : ∃ z : Int, q92.num.sign = z := ⟨_, rfl⟩
        have Hz93 := Lib.hid hz93
        have t93 : (z93 == 0) = true := by rw [← hz93, ← hq92, sign_sub]; unfold cmpQ; rw [if_neg Rat.lt_irrefl, if_neg Rat.lt_irrefl]; rfl
        clear hq51 hq53 hq57 hq58 hq64 hq66 hq70 hq71 hq78 hq79 hq82 hq85 hq86 hq92 hz93
        have c_b3_0 := b3.cell (j := 0) rfl
        have c_b3_1 := b3.cell (j := 1) rfl
        have c_b3_2 := b3.cell (j := 2) rfl
        have c_b4_0 := b4.cell (j := 0) rfl
        have c_b4_1 := b4.cell (j := 1) rfl
        have c_b4_2 := b4.cell (j := 2) rfl
        have c_b5_0 := b5.cell (j := 0) rfl
        have c_b5_1 := b5.cell (j := 1) rfl
        have c_b5_2 := b5.cell (j := 2) rfl
        have c_b7_0 := b7.cell (j := 0) rfl
        have c_b7_1 := b7.cell (j := 1) rfl
        have c_b7_2 := b7.cell (j := 2) rfl
        go_upto_region 6 with fail
        clear c_b3_0 c_b3_1 c_b3_2 c_b4_0 c_b4_1 c_b4_2 c_b5_0 c_b5_1 c_b5_2 c_b7_0 c_b7_1 c_b7_2
        refine wp_region_inv (w0 := W3) (by kernel_rfl) [true, true, true, false, false, false, true, true, true, true, true, true, true, true, true, true, true, true, true, true, true, true, true, true, true, true, true, true, true, true, true, true, true, true, true, true, true, true, true, true, true, true, true, true, true, true, true, true, true, true, true, true, true, true, true, true, true, true, true, true, true, true, true, true, true, true, true, true, true, true, true, true, true, true, true, true, true, true, true, true, true, true, true, true, true, true, true, true, true, true, true, true, true, true, true, true] []
          [⟨[47], F1 (fun xx _ => xx = .bool true), .pure⟩,
    ⟨[48], F1 (fun xx _ => xx = .bool true), .pure⟩,
    ⟨[49], F1 (fun xx _ => xx = .agg #[.bool ga, .slice pa na ca, .slice qa ma da]), .pure⟩,
    ⟨[50], F1 (fun xx _ => xx = .agg #[.bool gb, .slice pb nb cb, .slice qb mb db]), .pure⟩,
    ⟨[51], F1 (fun xx ww => VQ ww q51 xx), .pure⟩,
    ⟨[52], F1 (fun xx _ => xx = .agg #[.bool gc, .slice pc nc cc, .slice qc mc dc]), .pure⟩,
    ⟨[53], F1 (fun xx ww => VQ ww q53 xx), .pure⟩,
    ⟨[54], F1 (fun xx _ => xx = .agg #[.bool ga, .slice pa na ca, .slice qa ma da]), .pure⟩,
    ⟨[55], F1 (fun xx _ => xx = .agg #[.bool gb, .slice pb nb cb, .slice qb mb db]), .pure⟩,
    ⟨[56], F1 (fun xx _ => xx = .agg #[.bool gc, .slice pc nc cc, .slice qc mc dc]), .pure⟩,
    ⟨[57], F1 (fun xx ww => VQ ww q57 xx), .pure⟩,
    ⟨[58], F1 (fun xx ww => VQ ww q58 xx), .pure⟩,
    ⟨[59], F1 (fun xx _ => xx = .bool true), .pure⟩,
    ⟨[60], F1 (fun xx _ => xx = .bool true), .pure⟩,
    ⟨[61], F1 (fun xx _ => xx = .bool true), .pure⟩,
    ⟨[62], F1 (fun xx _ => xx = .agg #[.bool ga, .slice pa na ca, .slice qa ma da]), .pure⟩,
    ⟨[63], F1 (fun xx _ => xx = .agg #[.bool gb, .slice pb nb cb, .slice qb mb db]), .pure⟩,
    ⟨[64], F1 (fun xx ww => VQ ww q64 xx), .pure⟩,
    ⟨[65], F1 (fun xx _ => xx = .agg #[.bool gc, .slice pc nc cc, .slice qc mc dc]), .pure⟩,
    ⟨[66], F1 (fun xx ww => VQ ww q66 xx), .pure⟩,
    ⟨[67], F1 (fun xx _ => xx = .agg #[.bool ga, .slice pa na ca, .slice qa ma da]), .pure⟩,
    ⟨[68], F1 (fun xx _ => xx = .agg #[.bool gb, .slice pb nb cb, .slice qb mb db]), .pure⟩,
    ⟨[69], F1 (fun xx _ => xx = .agg #[.bool gc, .slice pc nc cc, .slice qc mc dc]), .pure⟩,
    ⟨[70], F1 (fun xx ww => VQ ww q70 xx), .pure⟩,
    ⟨[71], F1 (fun xx ww => VQ ww q71 xx), .pure⟩,
    ⟨[72], F1 (fun xx _ => xx = .bool true), .pure⟩,
    ⟨[73], F1 (fun xx _ => xx = .bool true), .pure⟩,
    ⟨[74], F1 (fun xx _ => xx = .bool true), .pure⟩,
    ⟨[75], F1 (fun xx _ => xx = .agg #[.bool ga, .slice pa na ca, .slice qa ma da]), .pure⟩,
    ⟨[76], F1 (fun xx _ => xx = .agg #[.bool gb, .slice pb nb cb, .slice qb mb db]), .pure⟩,
    ⟨[77], F1 (fun xx _ => xx = .agg #[.bool gc, .slice pc nc cc, .slice qc mc dc]), .pure⟩,
    ⟨[78], F1 (fun xx ww => VQ ww q78 xx), .pure⟩,
    ⟨[79], F1 (fun xx ww => VQ ww q79 xx), .pure⟩,
    ⟨[80], F1 (fun xx _ => xx = .agg #[.bool ga, .slice pa na ca, .slice qa ma da]), .pure⟩,
    ⟨[81], F1 (fun xx _ => xx = .agg #[.bool gb, .slice pb nb cb, .slice qb mb db]), .pure⟩,
    ⟨[82], F1 (fun xx ww => VQ ww q82 xx), .pure⟩,
    ⟨[83], F1 (fun xx _ => xx = .agg #[.bool ga, .slice pa na ca, .slice qa ma da]), .pure⟩,
    ⟨[84], F1 (fun xx _ => xx = .agg #[.bool gc, .slice pc nc cc, .slice qc mc dc]), .pure⟩,
    ⟨[85], F1 (fun xx ww => VQ ww q85 xx), .pure⟩,
    ⟨[86], F1 (fun xx ww => VQ ww q86 xx), .pure⟩,
    ⟨[87], F1 (fun xx _ => xx = .bool true), .pure⟩,
    ⟨[88], F1 (fun xx _ => xx = .bool true), .pure⟩,
    ⟨[89], F1 (fun xx _ => xx = .bool true), .pure⟩,
    ⟨[90], F1 (fun xx _ => xx = .agg #[.bool ga, .slice pa na ca, .slice qa ma da]), .pure⟩,
    ⟨[91], F1 (fun xx _ => xx = .agg #[.bool ga, .slice pa na ca, .slice qa ma da]), .pure⟩,
    ⟨[92], F1 (fun xx ww => VQ ww q92 xx), .pure⟩,
    ⟨[93], F1 (fun xx _ => xx = .int .i64 z93), .pure⟩,
    ⟨[94], F1 (fun xx _ => xx = .bool true), .pure⟩,
    ⟨[95], F1 (fun xx _ => xx = .bool true), .pure⟩,
    ⟨[6], F1 (fun xx _ => xx = .bool true), .pure⟩]
          [[], [0], [0, 1], [0, 1], [0, 1, 2, 3], [0, 1], [0, 1, 2, 3, 4, 5], [0, 1], [0, 1], [0, 1], [0, 1, 2, 3, 4, 5, 6, 8, 9], [0, 1, 2, 3, 4, 5, 6, 7, 8, 9, 10], [0, 1, 2, 3, 4, 5, 6, 7, 8, 9, 10, 11], [0, 1, 2, 3, 4, 5, 6, 7, 8, 9, 10, 11, 12], [0, 1, 2, 3, 4, 5, 6, 7, 8, 9, 10, 11, 12, 13], [0, 1, 2, 3, 4, 5, 6, 7, 8, 9, 10, 11, 12, 13, 14], [0, 1, 2, 3, 4, 5, 6, 7, 8, 9, 10, 11, 12, 13, 14], [0, 1, 2, 3, 4, 5, 6, 7, 8, 9, 10, 11, 12, 13, 14, 15, 16], [0, 1, 2, 3, 4, 5, 6, 7, 8, 9, 10, 11, 12, 13, 14], [0, 1, 2, 3, 4, 5, 6, 7, 8, 9, 10, 11, 12, 13, 14, 15, 16, 17, 18], [0, 1, 2, 3, 4, 5, 6, 7, 8, 9, 10, 11, 12, 13, 14], [0, 1, 2, 3, 4, 5, 6, 7, 8, 9, 10, 11, 12, 13, 14], [0, 1, 2, 3, 4, 5, 6, 7, 8, 9, 10, 11, 12, 13, 14], [0, 1, 2, 3, 4, 5, 6, 7, 8, 9, 10, 11, 12, 13, 14, 15, 16, 17, 18, 19, 21, 22], [0, 1, 2, 3, 4, 5, 6, 7, 8, 9, 10, 11, 12, 13, 14, 15, 16, 17, 18, 19, 20, 21, 22, 23], [0, 1, 2, 3, 4, 5, 6, 7, 8, 9, 10, 11, 12, 13, 14, 15, 16, 17, 18, 19, 20, 21, 22, 23, 24], [0, 1, 2, 3, 4, 5, 6, 7, 8, 9, 10, 11, 12, 13, 14, 15, 16, 17, 18, 19, 20, 21, 22, 23, 24, 25], [0, 1, 2, 3, 4, 5, 6, 7, 8, 9, 10, 11, 12, 13, 14, 15, 16, 17, 18, 19, 20, 21, 22, 23, 24, 25, 26], [0, 1, 2, 3, 4, 5, 6, 7, 8, 9, 10, 11, 12, 13, 14, 15, 16, 17, 18, 19, 20, 21, 22, 23, 24, 25, 26, 27], [0, 1, 2, 3, 4, 5, 6, 7, 8, 9, 10, 11, 12, 13, 14, 15, 16, 17, 18, 19, 20, 21, 22, 23, 24, 25, 26, 27], [0, 1, 2, 3, 4, 5, 6, 7, 8, 9, 10, 11, 12, 13, 14, 15, 16, 17, 18, 19, 20, 21, 22, 23, 24, 25, 26, 27], [0, 1, 2, 3, 4, 5, 6, 7, 8, 9, 10, 11, 12, 13, 14, 15, 16, 17, 18, 19, 20, 21, 22, 23, 24, 25, 26, 27, 29, 30], [0, 1, 2, 3, 4, 5, 6, 7, 8, 9, 10, 11, 12, 13, 14, 15, 16, 17, 18, 19, 20, 21, 22, 23, 24, 25, 26, 27, 28, 29, 30, 31], [0, 1, 2, 3, 4, 5, 6, 7, 8, 9, 10, 11, 12, 13, 14, 15, 16, 17, 18, 19, 20, 21, 22, 23, 24, 25, 26, 27], [0, 1, 2, 3, 4, 5, 6, 7, 8, 9, 10, 11, 12, 13, 14, 15, 16, 17, 18, 19, 20, 21, 22, 23, 24, 25, 26, 27], [0, 1, 2, 3, 4, 5, 6, 7, 8, 9, 10, 11, 12, 13, 14, 15, 16, 17, 18, 19, 20, 21, 22, 23, 24, 25, 26, 27, 28, 29, 30, 31, 32, 33, 34], [0, 1, 2, 3, 4, 5, 6, 7, 8, 9, 10, 11, 12, 13, 14, 15, 16, 17, 18, 19, 20, 21, 22, 23, 24, 25, 26, 27], [0, 1, 2, 3, 4, 5, 6, 7, 8, 9, 10, 11, 12, 13, 14, 15, 16, 17, 18, 19, 20, 21, 22, 23, 24, 25, 26, 27], [0, 1, 2, 3, 4, 5, 6, 7, 8, 9, 10, 11, 12, 13, 14, 15, 16, 17, 18, 19, 20, 21, 22, 23, 24, 25, 26, 27, 28, 29, 30, 31, 32, 33, 34, 35, 36, 37], [0, 1, 2, 3, 4, 5, 6, 7, 8, 9, 10, 11, 12, 13, 14, 15, 16, 17, 18, 19, 20, 21, 22, 23, 24, 25, 26, 27, 28, 29, 30, 31, 32, 33, 34, 35, 36, 37, 38], [0, 1, 2, 3, 4, 5, 6, 7, 8, 9, 10, 11, 12, 13, 14, 15, 16, 17, 18, 19, 20, 21, 22, 23, 24, 25, 26, 27, 28, 29, 30, 31, 32, 33, 34, 35, 36, 37, 38, 39], [0, 1, 2, 3, 4, 5, 6, 7, 8, 9, 10, 11, 12, 13, 14, 15, 16, 17, 18, 19, 20, 21, 22, 23, 24, 25, 26, 27, 28, 29, 30, 31, 32, 33, 34, 35, 36, 37, 38, 39, 40], [0, 1, 2, 3, 4, 5, 6, 7, 8, 9, 10, 11, 12, 13, 14, 15, 16, 17, 18, 19, 20, 21, 22, 23, 24, 25, 26, 27, 28, 29, 30, 31, 32, 33, 34, 35, 36, 37, 38, 39, 40, 41], [0, 1, 2, 3, 4, 5, 6, 7, 8, 9, 10, 11, 12, 13, 14, 15, 16, 17, 18, 19, 20, 21, 22, 23, 24, 25, 26, 27, 28, 29, 30, 31, 32, 33, 34, 35, 36, 37, 38, 39, 40, 41, 42], [0, 1, 2, 3, 4, 5, 6, 7, 8, 9, 10, 11, 12, 13, 14, 15, 16, 17, 18, 19, 20, 21, 22, 23, 24, 25, 26, 27, 28, 29, 30, 31, 32, 33, 34, 35, 36, 37, 38, 39, 40, 41, 42], [0, 1, 2, 3, 4, 5, 6, 7, 8, 9, 10, 11, 12, 13, 14, 15, 16, 17, 18, 19, 20, 21, 22, 23, 24, 25, 26, 27, 28, 29, 30, 31, 32, 33, 34, 35, 36, 37, 38, 39, 40, 41, 42, 43, 44], [0, 1, 2, 3, 4, 5, 6, 7, 8, 9, 10, 11, 12, 13, 14, 15, 16, 17, 18, 19, 20, 21, 22, 23, 24, 25, 26, 27, 28, 29, 30, 31, 32, 33, 34, 35, 36, 37, 38, 39, 40, 41, 42, 43, 44, 45], [0, 1, 2, 3, 4, 5, 6, 7, 8, 9, 10, 11, 12, 13, 14, 15, 16, 17, 18, 19, 20, 21, 22, 23, 24, 25, 26, 27, 28, 29, 30, 31, 32, 33, 34, 35, 36, 37, 38, 39, 40, 41, 42, 43, 44, 45, 46], [0, 1, 2, 3, 4, 5, 6, 7, 8, 9, 10, 11, 12, 13, 14, 15, 16, 17, 18, 19, 20, 21, 22, 23, 24, 25, 26, 27, 28, 29, 30, 31, 32, 33, 34, 35, 36, 37, 38, 39, 40, 41, 42, 43, 44, 45, 46, 47], [0, 1, 2, 3, 4, 5, 6, 7, 8, 9, 10, 11, 12, 13, 14, 15, 16, 17, 18, 19, 20, 21, 22, 23, 24, 25, 26, 27, 28, 29, 30, 31, 32, 33, 34, 35, 36, 37, 38, 39, 40, 41, 42, 43, 44, 45, 46, 47, 48]] ?mk4 ?hmk4 (by kernel_rfl)
          ⟨F1.st (st_eq _), F1.st (st_eq _), F1.st (st_eq _), F1.st (st_eq _), F1.st (fun _ _ _ k h => h.kp k), F1.st (st_eq _), F1.st (fun _ _ _ k h => h.kp k), F1.st (st_eq _), F1.st (st_eq _), F1.st (st_eq _), F1.st (fun _ _ _ k h => h.kp k), F1.st (fun _ _ _ k h => h.kp k), F1.st (st_eq _), F1.st (st_eq _), F1.st (st_eq _), F1.st (st_eq _), F1.st (st_eq _), F1.st (fun _ _ _ k h => h.kp k), F1.st (st_eq _), F1.st (fun _ _ _ k h => h.kp k), F1.st (st_eq _), F1.st (st_eq _), F1.st (st_eq _), F1.st (fun _ _ _ k h => h.kp k), F1.st (fun _ _ _ k h => h.kp k), F1.st (st_eq _), F1.st (st_eq _), F1.st (st_eq _), F1.st (st_eq _), F1.st (st_eq _), F1.st (st_eq _), F1.st (fun _ _ _ k h => h.kp k), F1.st (fun _ _ _ k h => h.kp k), F1.st (st_eq _), F1.st (st_eq _), F1.st (fun _ _ _ k h => h.kp k), F1.st (st_eq _), F1.st (st_eq _), F1.st (fun _ _ _ k h => h.kp k), F1.st (fun _ _ _ k h => h.kp k), F1.st (st_eq _), F1.st (st_eq _), F1.st (st_eq _), F1.st (st_eq _), F1.st (st_eq _), F1.st (fun _ _ _ k h => h.kp k), F1.st (st_eq _), F1.st (st_eq _), F1.st (st_eq _), F1.st (st_eq _), trivial⟩ (by simp) (by simp) (n := 50) rfl ⟨⟨⟨⟨⟨⟨⟨⟨⟨⟨⟨⟨⟨⟨⟨⟨⟨⟨⟨⟨⟨⟨⟨⟨⟨⟨⟨⟨⟨⟨⟨⟨⟨⟨⟨⟨⟨⟨⟨⟨⟨⟨⟨⟨⟨⟨⟨⟨⟨⟨trivial, ?s4_0⟩, ?s4_1⟩, ?s4_2⟩, ?s4_3⟩, ?s4_4⟩, ?s4_5⟩, ?s4_6⟩, ?s4_7⟩, ?s4_8⟩, ?s4_9⟩, ?s4_10⟩, ?s4_11⟩, ?s4_12⟩, ?s4_13⟩, ?s4_14⟩, ?s4_15⟩, ?s4_16⟩, ?s4_17⟩, ?s4_18⟩, ?s4_19⟩, ?s4_20⟩, ?s4_21⟩, ?s4_22⟩, ?s4_23⟩, ?s4_24⟩, ?s4_25⟩, ?s4_26⟩, ?s4_27⟩, ?s4_28⟩, ?s4_29⟩, ?s4_30⟩, ?s4_31⟩, ?s4_32⟩, ?s4_33⟩, ?s4_34⟩, ?s4_35⟩, ?s4_36⟩, ?s4_37⟩, ?s4_38⟩, ?s4_39⟩, ?s4_40⟩, ?s4_41⟩, ?s4_42⟩, ?s4_43⟩, ?s4_44⟩, ?s4_45⟩, ?s4_46⟩, ?s4_47⟩, ?s4_48⟩, ?s4_49⟩ ?done4
        case hmk4 => intro v; simp only [mkv, mix, Nat.reduceAdd]; rfl
        case s4_0 =>
          refine stepOk_of _ _ rfl rfl ?_
          intro v W4 f kp ho hd K' hK
          go_simp
          refine (awake3_any _ (ht.kp kp)).mono ?_
          rintro e W' ⟨rfl, ff⟩
          exact hK _ W' ff rfl
        case s4_1 =>
          refine stepOk_of _ _ rfl rfl ?_
          intro v W4 f kp ho hd K' hK
          have e47 : v 47 = .bool true := (hd 0 (by decide) _ _ rfl rfl).1
          simp only [e47] at hK ⊢
          go_simp
          exact hK _ _ (Fr.refl [] _) rfl
        case s4_2 =>
          refine stepOk_of _ _ rfl rfl ?_
          intro v W4 f kp ho hd K' hK
          have e48 : v 48 = .bool true := (hd 1 (by decide) _ _ rfl rfl).1
          have k0 := (b3.keep f (by simp)).cell (j := 0) rfl
          have k1 := (b3.keep f (by simp)).cell (j := 1) rfl
          have k2 := (b3.keep f (by simp)).cell (j := 2) rfl
          simp only [e48] at hK ⊢
          go_simp
          exact hK _ _ (Fr.refl [] _) rfl
        case s4_3 =>
          refine stepOk_of _ _ rfl rfl ?_
          intro v W4 f kp ho hd K' hK
          have e48 : v 48 = .bool true := (hd 1 (by decide) _ _ rfl rfl).1
          have k0 := (b4.keep f (by simp)).cell (j := 0) rfl
          have k1 := (b4.keep f (by simp)).cell (j := 1) rfl
          have k2 := (b4.keep f (by simp)).cell (j := 2) rfl
          simp only [e48] at hK ⊢
          go_simp
          exact hK _ _ (Fr.refl [] _) rfl
        case s4_4 =>
          refine stepOk_of _ _ rfl rfl ?_
          intro v W4 f kp ho hd K' hK
          have e49 : v 49 = .agg #[.bool ga, .slice pa na ca, .slice qa ma da] := (hd 2 (by decide) _ _ rfl rfl).1
          have e50 : v 50 = .agg #[.bool gb, .slice pb nb cb, .slice qb mb db] := (hd 3 (by decide) _ _ rfl rfl).1
          have e48 : v 48 = .bool true := (hd 1 (by decide) _ _ rfl rfl).1
          simp only [e49, e50, e48] at hK ⊢
          go_simp
          refine (add_e Hq51.out (ht.kp kp) (h1.kp kp) (h2.kp kp) (by omega) (by omega)).mono ?_
          rintro e W' ⟨x, rfl, hx, ff⟩
          exact hK x W' ff hx
        case s4_5 =>
          refine stepOk_of _ _ rfl rfl ?_
          intro v W4 f kp ho hd K' hK
          have e48 : v 48 = .bool true := (hd 1 (by decide) _ _ rfl rfl).1
          have k0 := (b5.keep f (by simp)).cell (j := 0) rfl
          have k1 := (b5.keep f (by simp)).cell (j := 1) rfl
          have k2 := (b5.keep f (by simp)).cell (j := 2) rfl
          simp only [e48] at hK ⊢
          go_simp
          exact hK _ _ (Fr.refl [] _) rfl
        case s4_6 =>
          refine stepOk_of _ _ rfl rfl ?_
          intro v W4 f kp ho hd K' hK
          have f51 : VQ W4 q51 (v 51) := (hd 4 (by decide) _ _ rfl rfl).1
          have e52 : v 52 = .agg #[.bool gc, .slice pc nc cc, .slice qc mc dc] := (hd 5 (by decide) _ _ rfl rfl).1
          have e48 : v 48 = .bool true := (hd 1 (by decide) _ _ rfl rfl).1
          simp only [e52, e48] at hK ⊢
          go_simp
          refine (add_e Hq53.out (ht.kp kp) (f51.raw l51) (h3.kp kp) (by omega) (by omega)).mono ?_
          rintro e W' ⟨x, rfl, hx, ff⟩
          exact hK x W' ff hx
        case s4_7 =>
          refine stepOk_of _ _ rfl rfl ?_
          intro v W4 f kp ho hd K' hK
          have e48 : v 48 = .bool true := (hd 1 (by decide) _ _ rfl rfl).1
          have k0 := (b3.keep f (by simp)).cell (j := 0) rfl
          have k1 := (b3.keep f (by simp)).cell (j := 1) rfl
          have k2 := (b3.keep f (by simp)).cell (j := 2) rfl
          simp only [e48] at hK ⊢
          go_simp
          exact hK _ _ (Fr.refl [] _) rfl
        case s4_8 =>
          refine stepOk_of _ _ rfl rfl ?_
          intro v W4 f kp ho hd K' hK
          have e48 : v 48 = .bool true := (hd 1 (by decide) _ _ rfl rfl).1
          have k0 := (b4.keep f (by simp)).cell (j := 0) rfl
          have k1 := (b4.keep f (by simp)).cell (j := 1) rfl
          have k2 := (b4.keep f (by simp)).cell (j := 2) rfl
          simp only [e48] at hK ⊢
          go_simp
          exact hK _ _ (Fr.refl [] _) rfl
        case s4_9 =>
          refine stepOk_of _ _ rfl rfl ?_
          intro v W4 f kp ho hd K' hK
          have e48 : v 48 = .bool true := (hd 1 (by decide) _ _ rfl rfl).1
          have k0 := (b5.keep f (by simp)).cell (j := 0) rfl
          have k1 := (b5.keep f (by simp)).cell (j := 1) rfl
          have k2 := (b5.keep f (by simp)).cell (j := 2) rfl
          simp only [e48] at hK ⊢
          go_simp
          exact hK _ _ (Fr.refl [] _) rfl
        case s4_10 =>
          refine stepOk_of _ _ rfl rfl ?_
          intro v W4 f kp ho hd K' hK
          have e55 : v 55 = .agg #[.bool gb, .slice pb nb cb, .slice qb mb db] := (hd 8 (by decide) _ _ rfl rfl).1
          have e56 : v 56 = .agg #[.bool gc, .slice pc nc cc, .slice qc mc dc] := (hd 9 (by decide) _ _ rfl rfl).1
          have e48 : v 48 = .bool true := (hd 1 (by decide) _ _ rfl rfl).1
          simp only [e55, e56, e48] at hK ⊢
          go_simp
          refine (add_e Hq57.out (ht.kp kp) (h2.kp kp) (h3.kp kp) (by omega) (by omega)).mono ?_
          rintro e W' ⟨x, rfl, hx, ff⟩
          exact hK x W' ff hx
        case s4_11 =>
          refine stepOk_of _ _ rfl rfl ?_
          intro v W4 f kp ho hd K' hK
          have e54 : v 54 = .agg #[.bool ga, .slice pa na ca, .slice qa ma da] := (hd 7 (by decide) _ _ rfl rfl).1
          have f57 : VQ W4 q57 (v 57) := (hd 10 (by decide) _ _ rfl rfl).1
          have e48 : v 48 = .bool true := (hd 1 (by decide) _ _ rfl rfl).1
          simp only [e54, e48] at hK ⊢
          go_simp
          refine (add_e Hq58.out (ht.kp kp) (h1.kp kp) (f57.raw l57) (by omega) (by omega)).mono ?_
          rintro e W' ⟨x, rfl, hx, ff⟩
          exact hK x W' ff hx
        case s4_12 =>
          refine stepOk_of _ _ rfl rfl ?_
          intro v W4 f kp ho hd K' hK
          have f53 : VQ W4 q53 (v 53) := (hd 6 (by decide) _ _ rfl rfl).1
          have f58 : VQ W4 q58 (v 58) := (hd 11 (by decide) _ _ rfl rfl).1
          have e48 : v 48 = .bool true := (hd 1 (by decide) _ _ rfl rfl).1
          simp only [e48] at hK ⊢
          go_simp
          refine (same_e Hs59.out f53 f58).mono ?_
          rintro e W' ⟨rfl, ff⟩
          exact hK _ W' ff rfl
        case s4_13 =>
          refine stepOk_of _ _ rfl rfl ?_
          intro v W4 f kp ho hd K' hK
          have e48 : v 48 = .bool true := (hd 1 (by decide) _ _ rfl rfl).1
          have e59 : v 59 = .bool true := (hd 12 (by decide) _ _ rfl rfl).1
          simp only [e48, e59] at hK ⊢
          go_simp
          exact hK _ _ (Fr.refl [] _) rfl
        case s4_14 =>
          refine stepOk_of _ _ rfl rfl ?_
          intro v W4 f kp ho hd K' hK
          have e60 : v 60 = .bool true := (hd 13 (by decide) _ _ rfl rfl).1
          simp only [e60] at hK ⊢
          go_simp
          exact hK _ _ (Fr.refl [] _) rfl
        case s4_15 =>
          refine stepOk_of _ _ rfl rfl ?_
          intro v W4 f kp ho hd K' hK
          have e61 : v 61 = .bool true := (hd 14 (by decide) _ _ rfl rfl).1
          have k0 := (b3.keep f (by simp)).cell (j := 0) rfl
          have k1 := (b3.keep f (by simp)).cell (j := 1) rfl
          have k2 := (b3.keep f (by simp)).cell (j := 2) rfl
          simp only [e61] at hK ⊢
          go_simp
          exact hK _ _ (Fr.refl [] _) rfl
        case s4_16 =>
          refine stepOk_of _ _ rfl rfl ?_
          intro v W4 f kp ho hd K' hK
          have e61 : v 61 = .bool true := (hd 14 (by decide) _ _ rfl rfl).1
          have k0 := (b4.keep f (by simp)).cell (j := 0) rfl
          have k1 := (b4.keep f (by simp)).cell (j := 1) rfl
          have k2 := (b4.keep f (by simp)).cell (j := 2) rfl
          simp only [e61] at hK ⊢
          go_simp
          exact hK _ _ (Fr.refl [] _) rfl
        case s4_17 =>
          refine stepOk_of _ _ rfl rfl ?_
          intro v W4 f kp ho hd K' hK
          have e62 : v 62 = .agg #[.bool ga, .slice pa na ca, .slice qa ma da] := (hd 15 (by decide) _ _ rfl rfl).1
          have e63 : v 63 = .agg #[.bool gb, .slice pb nb cb, .slice qb mb db] := (hd 16 (by decide) _ _ rfl rfl).1
          have e61 : v 61 = .bool true := (hd 14 (by decide) _ _ rfl rfl).1
          simp only [e62, e63, e61] at hK ⊢
          go_simp
          refine (mul_e Hq64.out (ht.kp kp) (h1.kp kp) (h2.kp kp) (by omega) (by omega)).mono ?_
          rintro e W' ⟨x, rfl, hx, ff⟩
          exact hK x W' ff hx
        case s4_18 =>
          refine stepOk_of _ _ rfl rfl ?_
          intro v W4 f kp ho hd K' hK
          have e61 : v 61 = .bool true := (hd 14 (by decide) _ _ rfl rfl).1
          have k0 := (b5.keep f (by simp)).cell (j := 0) rfl
          have k1 := (b5.keep f (by simp)).cell (j := 1) rfl
          have k2 := (b5.keep f (by simp)).cell (j := 2) rfl
          simp only [e61] at hK ⊢
          go_simp
          exact hK _ _ (Fr.refl [] _) rfl
        case s4_19 =>
          refine stepOk_of _ _ rfl rfl ?_
          intro v W4 f kp ho hd K' hK
          have f64 : VQ W4 q64 (v 64) := (hd 17 (by decide) _ _ rfl rfl).1
          have e65 : v 65 = .agg #[.bool gc, .slice pc nc cc, .slice qc mc dc] := (hd 18 (by decide) _ _ rfl rfl).1
          have e61 : v 61 = .bool true := (hd 14 (by decide) _ _ rfl rfl).1
          simp only [e65, e61] at hK ⊢
          go_simp
          refine (mul_e Hq66.out (ht.kp kp) (f64.raw l64) (h3.kp kp) (by omega) (by omega)).mono ?_
          rintro e W' ⟨x, rfl, hx, ff⟩
          exact hK x W' ff hx
        case s4_20 =>
          refine stepOk_of _ _ rfl rfl ?_
          intro v W4 f kp ho hd K' hK
          have e61 : v 61 = .bool true := (hd 14 (by decide) _ _ rfl rfl).1
          have k0 := (b3.keep f (by simp)).cell (j := 0) rfl
          have k1 := (b3.keep f (by simp)).cell (j := 1) rfl
          have k2 := (b3.keep f (by simp)).cell (j := 2) rfl
          simp only [e61] at hK ⊢
          go_simp
          exact hK _ _ (Fr.refl [] _) rfl
        case s4_21 =>
          refine stepOk_of _ _ rfl rfl ?_
          intro v W4 f kp ho hd K' hK
          have e61 : v 61 = .bool true := (hd 14 (by decide) _ _ rfl rfl).1
          have k0 := (b4.keep f (by simp)).cell (j := 0) rfl
          have k1 := (b4.keep f (by simp)).cell (j := 1) rfl
          have k2 := (b4.keep f (by simp)).cell (j := 2) rfl
          simp only [e61] at hK ⊢
          go_simp
          exact hK _ _ (Fr.refl [] _) rfl
        case s4_22 =>
          refine stepOk_of _ _ rfl rfl ?_
          intro v W4 f kp ho hd K' hK
          have e61 : v 61 = .bool true := (hd 14 (by decide) _ _ rfl rfl).1
          have k0 := (b5.keep f (by simp)).cell (j := 0) rfl
          have k1 := (b5.keep f (by simp)).cell (j := 1) rfl
          have k2 := (b5.keep f (by simp)).cell (j := 2) rfl
          simp only [e61] at hK ⊢
          go_simp
          exact hK _ _ (Fr.refl [] _) rfl
        case s4_23 =>
          refine stepOk_of _ _ rfl rfl ?_
          intro v W4 f kp ho hd K' hK
          have e68 : v 68 = .agg #[.bool gb, .slice pb nb cb, .slice qb mb db] := (hd 21 (by decide) _ _ rfl rfl).1
          have e69 : v 69 = .agg #[.bool gc, .slice pc nc cc, .slice qc mc dc] := (hd 22 (by decide) _ _ rfl rfl).1
          have e61 : v 61 = .bool true := (hd 14 (by decide) _ _ rfl rfl).1
          simp only [e68, e69, e61] at hK ⊢
          go_simp
          refine (mul_e Hq70.out (ht.kp kp) (h2.kp kp) (h3.kp kp) (by omega) (by omega)).mono ?_
          rintro e W' ⟨x, rfl, hx, ff⟩
          exact hK x W' ff hx
        case s4_24 =>
          refine stepOk_of _ _ rfl rfl ?_
          intro v W4 f kp ho hd K' hK
          have e67 : v 67 = .agg #[.bool ga, .slice pa na ca, .slice qa ma da] := (hd 20 (by decide) _ _ rfl rfl).1
          have f70 : VQ W4 q70 (v 70) := (hd 23 (by decide) _ _ rfl rfl).1
          have e61 : v 61 = .bool true := (hd 14 (by decide) _ _ rfl rfl).1
          simp only [e67, e61] at hK ⊢
          go_simp
          refine (mul_e Hq71.out (ht.kp kp) (h1.kp kp) (f70.raw l70) (by omega) (by omega)).mono ?_
          rintro e W' ⟨x, rfl, hx, ff⟩
          exact hK x W' ff hx
        case s4_25 =>
          refine stepOk_of _ _ rfl rfl ?_
          intro v W4 f kp ho hd K' hK
          have f66 : VQ W4 q66 (v 66) := (hd 19 (by decide) _ _ rfl rfl).1
          have f71 : VQ W4 q71 (v 71) := (hd 24 (by decide) _ _ rfl rfl).1
          have e61 : v 61 = .bool true := (hd 14 (by decide) _ _ rfl rfl).1
          simp only [e61] at hK ⊢
          go_simp
          refine (same_e Hs72.out f66 f71).mono ?_
          rintro e W' ⟨rfl, ff⟩
          exact hK _ W' ff rfl
        case s4_26 =>
          refine stepOk_of _ _ rfl rfl ?_
          intro v W4 f kp ho hd K' hK
          have e61 : v 61 = .bool true := (hd 14 (by decide) _ _ rfl rfl).1
          have e72 : v 72 = .bool true := (hd 25 (by decide) _ _ rfl rfl).1
          simp only [e61, e72] at hK ⊢
          go_simp
          exact hK _ _ (Fr.refl [] _) rfl
        case s4_27 =>
          refine stepOk_of _ _ rfl rfl ?_
          intro v W4 f kp ho hd K' hK
          have e73 : v 73 = .bool true := (hd 26 (by decide) _ _ rfl rfl).1
          simp only [e73] at hK ⊢
          go_simp
          exact hK _ _ (Fr.refl [] _) rfl
        case s4_28 =>
          refine stepOk_of _ _ rfl rfl ?_
          intro v W4 f kp ho hd K' hK
          have e74 : v 74 = .bool true := (hd 27 (by decide) _ _ rfl rfl).1
          have k0 := (b3.keep f (by simp)).cell (j := 0) rfl
          have k1 := (b3.keep f (by simp)).cell (j := 1) rfl
          have k2 := (b3.keep f (by simp)).cell (j := 2) rfl
          simp only [e74] at hK ⊢
          go_simp
          exact hK _ _ (Fr.refl [] _) rfl
        case s4_29 =>
          refine stepOk_of _ _ rfl rfl ?_
          intro v W4 f kp ho hd K' hK
          have e74 : v 74 = .bool true := (hd 27 (by decide) _ _ rfl rfl).1
          have k0 := (b4.keep f (by simp)).cell (j := 0) rfl
          have k1 := (b4.keep f (by simp)).cell (j := 1) rfl
          have k2 := (b4.keep f (by simp)).cell (j := 2) rfl
          simp only [e74] at hK ⊢
          go_simp
          exact hK _ _ (Fr.refl [] _) rfl
        case s4_30 =>
          refine stepOk_of _ _ rfl rfl ?_
          intro v W4 f kp ho hd K' hK
          have e74 : v 74 = .bool true := (hd 27 (by decide) _ _ rfl rfl).1
          have k0 := (b5.keep f (by simp)).cell (j := 0) rfl
          have k1 := (b5.keep f (by simp)).cell (j := 1) rfl
          have k2 := (b5.keep f (by simp)).cell (j := 2) rfl
          simp only [e74] at hK ⊢
          go_simp
          exact hK _ _ (Fr.refl [] _) rfl
        case s4_31 =>
          refine stepOk_of _ _ rfl rfl ?_
          intro v W4 f kp ho hd K' hK
          have e76 : v 76 = .agg #[.bool gb, .slice pb nb cb, .slice qb mb db] := (hd 29 (by decide) _ _ rfl rfl).1
          have e77 : v 77 = .agg #[.bool gc, .slice pc nc cc, .slice qc mc dc] := (hd 30 (by decide) _ _ rfl rfl).1
          have e74 : v 74 = .bool true := (hd 27 (by decide) _ _ rfl rfl).1
          simp only [e76, e77, e74] at hK ⊢
          go_simp
          refine (add_e Hq78.out (ht.kp kp) (h2.kp kp) (h3.kp kp) (by omega) (by omega)).mono ?_
          rintro e W' ⟨x, rfl, hx, ff⟩
          exact hK x W' ff hx
        case s4_32 =>
          refine stepOk_of _ _ rfl rfl ?_
          intro v W4 f kp ho hd K' hK
          have e75 : v 75 = .agg #[.bool ga, .slice pa na ca, .slice qa ma da] := (hd 28 (by decide) _ _ rfl rfl).1
          have f78 : VQ W4 q78 (v 78) := (hd 31 (by decide) _ _ rfl rfl).1
          have e74 : v 74 = .bool true := (hd 27 (by decide) _ _ rfl rfl).1
          simp only [e75, e74] at hK ⊢
          go_simp
          refine (mul_e Hq79.out (ht.kp kp) (h1.kp kp) (f78.raw l78) (by omega) (by omega)).mono ?_
          rintro e W' ⟨x, rfl, hx, ff⟩
          exact hK x W' ff hx
        case s4_33 =>
          refine stepOk_of _ _ rfl rfl ?_
          intro v W4 f kp ho hd K' hK
          have e74 : v 74 = .bool true := (hd 27 (by decide) _ _ rfl rfl).1
          have k0 := (b3.keep f (by simp)).cell (j := 0) rfl
          have k1 := (b3.keep f (by simp)).cell (j := 1) rfl
          have k2 := (b3.keep f (by simp)).cell (j := 2) rfl
          simp only [e74] at hK ⊢
          go_simp
          exact hK _ _ (Fr.refl [] _) rfl
        case s4_34 =>
          refine stepOk_of _ _ rfl rfl ?_
          intro v W4 f kp ho hd K' hK
          have e74 : v 74 = .bool true := (hd 27 (by decide) _ _ rfl rfl).1
          have k0 := (b4.keep f (by simp)).cell (j := 0) rfl
          have k1 := (b4.keep f (by simp)).cell (j := 1) rfl
          have k2 := (b4.keep f (by simp)).cell (j := 2) rfl
          simp only [e74] at hK ⊢
          go_simp
          exact hK _ _ (Fr.refl [] _) rfl
        case s4_35 =>
          refine stepOk_of _ _ rfl rfl ?_
          intro v W4 f kp ho hd K' hK
          have e80 : v 80 = .agg #[.bool ga, .slice pa na ca, .slice qa ma da] := (hd 33 (by decide) _ _ rfl rfl).1
          have e81 : v 81 = .agg #[.bool gb, .slice pb nb cb, .slice qb mb db] := (hd 34 (by decide) _ _ rfl rfl).1
          have e74 : v 74 = .bool true := (hd 27 (by decide) _ _ rfl rfl).1
          simp only [e80, e81, e74] at hK ⊢
          go_simp
          refine (mul_e Hq82.out (ht.kp kp) (h1.kp kp) (h2.kp kp) (by omega) (by omega)).mono ?_
          rintro e W' ⟨x, rfl, hx, ff⟩
          exact hK x W' ff hx
        case s4_36 =>
          refine stepOk_of _ _ rfl rfl ?_
          intro v W4 f kp ho hd K' hK
          have e74 : v 74 = .bool true := (hd 27 (by decide) _ _ rfl rfl).1
          have k0 := (b3.keep f (by simp)).cell (j := 0) rfl
          have k1 := (b3.keep f (by simp)).cell (j := 1) rfl
          have k2 := (b3.keep f (by simp)).cell (j := 2) rfl
          simp only [e74] at hK ⊢
          go_simp
          exact hK _ _ (Fr.refl [] _) rfl
        case s4_37 =>
          refine stepOk_of _ _ rfl rfl ?_
          intro v W4 f kp ho hd K' hK
          have e74 : v 74 = .bool true := (hd 27 (by decide) _ _ rfl rfl).1
          have k0 := (b5.keep f (by simp)).cell (j := 0) rfl
          have k1 := (b5.keep f (by simp)).cell (j := 1) rfl
          have k2 := (b5.keep f (by simp)).cell (j := 2) rfl
          simp only [e74] at hK ⊢
          go_simp
          exact hK _ _ (Fr.refl [] _) rfl
        case s4_38 =>
          refine stepOk_of _ _ rfl rfl ?_
          intro v W4 f kp ho hd K' hK
          have e83 : v 83 = .agg #[.bool ga, .slice pa na ca, .slice qa ma da] := (hd 36 (by decide) _ _ rfl rfl).1
          have e84 : v 84 = .agg #[.bool gc, .slice pc nc cc, .slice qc mc dc] := (hd 37 (by decide) _ _ rfl rfl).1
          have e74 : v 74 = .bool true := (hd 27 (by decide) _ _ rfl rfl).1
          simp only [e83, e84, e74] at hK ⊢
          go_simp
          refine (mul_e Hq85.out (ht.kp kp) (h1.kp kp) (h3.kp kp) (by omega) (by omega)).mono ?_
          rintro e W' ⟨x, rfl, hx, ff⟩
          exact hK x W' ff hx
        case s4_39 =>
          refine stepOk_of _ _ rfl rfl ?_
          intro v W4 f kp ho hd K' hK
          have f82 : VQ W4 q82 (v 82) := (hd 35 (by decide) _ _ rfl rfl).1
          have f85 : VQ W4 q85 (v 85) := (hd 38 (by decide) _ _ rfl rfl).1
          have e74 : v 74 = .bool true := (hd 27 (by decide) _ _ rfl rfl).1
          simp only [e74] at hK ⊢
          go_simp
          refine (add_e Hq86.out (ht.kp kp) (f82.raw l82) (f85.raw l85) (by omega) (by omega)).mono ?_
          rintro e W' ⟨x, rfl, hx, ff⟩
          exact hK x W' ff hx
        case s4_40 =>
          refine stepOk_of _ _ rfl rfl ?_
          intro v W4 f kp ho hd K' hK
          have f79 : VQ W4 q79 (v 79) := (hd 32 (by decide) _ _ rfl rfl).1
          have f86 : VQ W4 q86 (v 86) := (hd 39 (by decide) _ _ rfl rfl).1
          have e74 : v 74 = .bool true := (hd 27 (by decide) _ _ rfl rfl).1
          simp only [e74] at hK ⊢
          go_simp
          refine (same_e Hs87.out f79 f86).mono ?_
          rintro e W' ⟨rfl, ff⟩
          exact hK _ W' ff rfl
        case s4_41 =>
          refine stepOk_of _ _ rfl rfl ?_
          intro v W4 f kp ho hd K' hK
          have e74 : v 74 = .bool true := (hd 27 (by decide) _ _ rfl rfl).1
          have e87 : v 87 = .bool true := (hd 40 (by decide) _ _ rfl rfl).1
          simp only [e74, e87] at hK ⊢
          go_simp
          exact hK _ _ (Fr.refl [] _) rfl
        case s4_42 =>
          refine stepOk_of _ _ rfl rfl ?_
          intro v W4 f kp ho hd K' hK
          have e88 : v 88 = .bool true := (hd 41 (by decide) _ _ rfl rfl).1
          simp only [e88] at hK ⊢
          go_simp
          exact hK _ _ (Fr.refl [] _) rfl
        case s4_43 =>
          refine stepOk_of _ _ rfl rfl ?_
          intro v W4 f kp ho hd K' hK
          have e89 : v 89 = .bool true := (hd 42 (by decide) _ _ rfl rfl).1
          have k0 := (b3.keep f (by simp)).cell (j := 0) rfl
          have k1 := (b3.keep f (by simp)).cell (j := 1) rfl
          have k2 := (b3.keep f (by simp)).cell (j := 2) rfl
          simp only [e89] at hK ⊢
          go_simp
          exact hK _ _ (Fr.refl [] _) rfl
        case s4_44 =>
          refine stepOk_of _ _ rfl rfl ?_
          intro v W4 f kp ho hd K' hK
          have e89 : v 89 = .bool true := (hd 42 (by decide) _ _ rfl rfl).1
          have k0 := (b3.keep f (by simp)).cell (j := 0) rfl
          have k1 := (b3.keep f (by simp)).cell (j := 1) rfl
          have k2 := (b3.keep f (by simp)).cell (j := 2) rfl
          simp only [e89] at hK ⊢
          go_simp
          exact hK _ _ (Fr.refl [] _) rfl
        case s4_45 =>
          refine stepOk_of _ _ rfl rfl ?_
          intro v W4 f kp ho hd K' hK
          have e90 : v 90 = .agg #[.bool ga, .slice pa na ca, .slice qa ma da] := (hd 43 (by decide) _ _ rfl rfl).1
          have e91 : v 91 = .agg #[.bool ga, .slice pa na ca, .slice qa ma da] := (hd 44 (by decide) _ _ rfl rfl).1
          have e89 : v 89 = .bool true := (hd 42 (by decide) _ _ rfl rfl).1
          simp only [e90, e91, e89] at hK ⊢
          go_simp
          refine (sub_e Hq92.out (ht.kp kp) (h1.kp kp) (h1.kp kp) (by omega) (by omega)).mono ?_
          rintro e W' ⟨x, rfl, hx, ff⟩
          exact hK x W' ff hx
        case s4_46 =>
          refine stepOk_of _ _ rfl rfl ?_
          intro v W4 f kp ho hd K' hK
          have f92 : VQ W4 q92 (v 92) := (hd 45 (by decide) _ _ rfl rfl).1
          have e89 : v 89 = .bool true := (hd 42 (by decide) _ _ rfl rfl).1
          simp only [e89] at hK ⊢
          go_simp
          refine (sign_e Hz93.out (f92.raw l92) (by omega)).mono ?_
          rintro e W' ⟨rfl, ff⟩
          exact hK _ W' ff rfl
        case s4_47 =>
          refine stepOk_of _ _ rfl rfl ?_
          intro v W4 f kp ho hd K' hK
          have e93 : v 93 = .int .i64 z93 := (hd 46 (by decide) _ _ rfl rfl).1
          have e89 : v 89 = .bool true := (hd 42 (by decide) _ _ rfl rfl).1
          simp only [e93, e89] at hK ⊢
          go_simp
          exact hK _ _ (Fr.refl [] _) rfl
        case s4_48 =>
          refine stepOk_of _ _ rfl rfl ?_
          intro v W4 f kp ho hd K' hK
          have e89 : v 89 = .bool true := (hd 42 (by decide) _ _ rfl rfl).1
          have e94 : v 94 = .bool true := (hd 47 (by decide) _ _ rfl rfl).1
          simp only [e89, e94] at hK ⊢
          go_simp
          exact hK _ _ (Fr.refl [] _) rfl
        case s4_49 =>
          refine stepOk_of _ _ rfl rfl ?_
          intro v W4 f kp ho hd K' hK
          have e95 : v 95 = .bool true := (hd 48 (by decide) _ _ rfl rfl).1
          simp only [e95] at hK ⊢
          go_simp
          exact hK _ _ (Fr.refl [] _) rfl
        case done4 =>
          intro v W4 f kp hF hD
          have e47 : v 47 = .bool true := (hF 0 _ _ rfl rfl).1
          have e48 : v 48 = .bool true := (hF 1 _ _ rfl rfl).1
          have e49 : v 49 = .agg #[.bool ga, .slice pa na ca, .slice qa ma da] := (hF 2 _ _ rfl rfl).1
          have e50 : v 50 = .agg #[.bool gb, .slice pb nb cb, .slice qb mb db] := (hF 3 _ _ rfl rfl).1
          have f51 : VQ W4 q51 (v 51) := (hF 4 _ _ rfl rfl).1
          have e52 : v 52 = .agg #[.bool gc, .slice pc nc cc, .slice qc mc dc] := (hF 5 _ _ rfl rfl).1
          have f53 : VQ W4 q53 (v 53) := (hF 6 _ _ rfl rfl).1
          have e54 : v 54 = .agg #[.bool ga, .slice pa na ca, .slice qa ma da] := (hF 7 _ _ rfl rfl).1
          have e55 : v 55 = .agg #[.bool gb, .slice pb nb cb, .slice qb mb db] := (hF 8 _ _ rfl rfl).1
          have e56 : v 56 = .agg #[.bool gc, .slice pc nc cc, .slice qc mc dc] := (hF 9 _ _ rfl rfl).1
          have f57 : VQ W4 q57 (v 57) := (hF 10 _ _ rfl rfl).1
          have f58 : VQ W4 q58 (v 58) := (hF 11 _ _ rfl rfl).1
          have e59 : v 59 = .bool true := (hF 12 _ _ rfl rfl).1
          have e60 : v 60 = .bool true := (hF 13 _ _ rfl rfl).1
          have e61 : v 61 = .bool true := (hF 14 _ _ rfl rfl).1
          have e62 : v 62 = .agg #[.bool ga, .slice pa na ca, .slice qa ma da] := (hF 15 _ _ rfl rfl).1
          have e63 : v 63 = .agg #[.bool gb, .slice pb nb cb, .slice qb mb db] := (hF 16 _ _ rfl rfl).1
          have f64 : VQ W4 q64 (v 64) := (hF 17 _ _ rfl rfl).1
          have e65 : v 65 = .agg #[.bool gc, .slice pc nc cc, .slice qc mc dc] := (hF 18 _ _ rfl rfl).1
          have f66 : VQ W4 q66 (v 66) := (hF 19 _ _ rfl rfl).1
          have e67 : v 67 = .agg #[.bool ga, .slice pa na ca, .slice qa ma da] := (hF 20 _ _ rfl rfl).1
          have e68 : v 68 = .agg #[.bool gb, .slice pb nb cb, .slice qb mb db] := (hF 21 _ _ rfl rfl).1
          have e69 : v 69 = .agg #[.bool gc, .slice pc nc cc, .slice qc mc dc] := (hF 22 _ _ rfl rfl).1
          have f70 : VQ W4 q70 (v 70) := (hF 23 _ _ rfl rfl).1
          have f71 : VQ W4 q71 (v 71) := (hF 24 _ _ rfl rfl).1
          have e72 : v 72 = .bool true := (hF 25 _ _ rfl rfl).1
          have e73 : v 73 = .bool true := (hF 26 _ _ rfl rfl).1
          have e74 : v 74 = .bool true := (hF 27 _ _ rfl rfl).1
          have e75 : v 75 = .agg #[.bool ga, .slice pa na ca, .slice qa ma da] := (hF 28 _ _ rfl rfl).1
          have e76 : v 76 = .agg #[.bool gb, .slice pb nb cb, .slice qb mb db] := (hF 29 _ _ rfl rfl).1
          have e77 : v 77 = .agg #[.bool gc, .slice pc nc cc, .slice qc mc dc] := (hF 30 _ _ rfl rfl).1
          have f78 : VQ W4 q78 (v 78) := (hF 31 _ _ rfl rfl).1
          have f79 : VQ W4 q79 (v 79) := (hF 32 _ _ rfl rfl).1
          have e80 : v 80 = .agg #[.bool ga, .slice pa na ca, .slice qa ma da] := (hF 33 _ _ rfl rfl).1
          have e81 : v 81 = .agg #[.bool gb, .slice pb nb cb, .slice qb mb db] := (hF 34 _ _ rfl rfl).1
          have f82 : VQ W4 q82 (v 82) := (hF 35 _ _ rfl rfl).1
          have e83 : v 83 = .agg #[.bool ga, .slice pa na ca, .slice qa ma da] := (hF 36 _ _ rfl rfl).1
          have e84 : v 84 = .agg #[.bool gc, .slice pc nc cc, .slice qc mc dc] := (hF 37 _ _ rfl rfl).1
          have f85 : VQ W4 q85 (v 85) := (hF 38 _ _ rfl rfl).1
          have f86 : VQ W4 q86 (v 86) := (hF 39 _ _ rfl rfl).1
          have e87 : v 87 = .bool true := (hF 40 _ _ rfl rfl).1
          have e88 : v 88 = .bool true := (hF 41 _ _ rfl rfl).1
          have e89 : v 89 = .bool true := (hF 42 _ _ rfl rfl).1
          have e90 : v 90 = .agg #[.bool ga, .slice pa na ca, .slice qa ma da] := (hF 43 _ _ rfl rfl).1
          have e91 : v 91 = .agg #[.bool ga, .slice pa na ca, .slice qa ma da] := (hF 44 _ _ rfl rfl).1
          have f92 : VQ W4 q92 (v 92) := (hF 45 _ _ rfl rfl).1
          have e93 : v 93 = .int .i64 z93 := (hF 46 _ _ rfl rfl).1
          have e94 : v 94 = .bool true := (hF 47 _ _ rfl rfl).1
          have e95 : v 95 = .bool true := (hF 48 _ _ rfl rfl).1
          have e6 : v 6 = .bool true := (hF 49 _ _ rfl rfl).1
          clear hF hD
          simp only [e47, e48, e49, e50, e52, e54, e55, e56, e59, e60, e61, e62, e63, e65, e67, e68, e69, e72, e73, e74, e75, e76, e77, e80, e81, e83, e84, e87, e88, e89, e90, e91, e93, e94, e95, e6]
          replace b3 := b3.keep f (by simp)
          replace b4 := b4.keep f (by simp)
          replace b5 := b5.keep f (by simp)
          replace b7 := b7.keep f (by simp)
          replace ht := ht.kp kp
          replace h1 := h1.kp kp
          replace h2 := h2.kp kp
          replace h3 := h3.kp kp
          replace hw := hw.trans (a := w) (b := W3) (c := W4) f (by simp)
          have hsz4 := f.size
          clear f kp
          go_wp2_with fail
          exact bodyPost_ret (v := .bool true) (by simp [results, Tryz.results7, go_sem]) rfl ⟨rfl, hw⟩

end Go.Proofs.YtjjdbhohjphcoaaGreatDoor
