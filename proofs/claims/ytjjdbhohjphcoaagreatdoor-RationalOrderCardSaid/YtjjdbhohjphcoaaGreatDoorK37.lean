/- What the statements of this claim stand on: of Ord3, what they name -/
import Derived.Test.YtjjdbhohjphcoaaGreatDoorK36

namespace Go.Proofs.YtjjdbhohjphcoaaGreatDoor
open Go.RowKit

set_option maxRecDepth 100000 in
set_option maxHeartbeats 1000000 in
theorem order_small {w : World} {ra rb rc : Rat} {va vb vc : Value} (ht : Tab w) (h1 : VR w 4 ra va) (h2 : VR w 4 rb vb) (h3 : VR w 4 rc vc) : Calls Tryz.prog 8 #[va, vb, vc] w (RB true w) := by
  have lra := nq_vr h1
  have lrb := nq_vr h2
  have lrc := nq_vr h3
  have o_h1 := h1
  obtain ⟨ga, pa, na, ca, Xa, qa, ma, da, Ya, rfl, -, -, -, -, -⟩ := o_h1
  have o_h2 := h2
  obtain ⟨gb, pb, nb, cb, Xb, qb, mb, db, Yb, rfl, -, -, -, -, -⟩ := o_h2
  have o_h3 := h3
  obtain ⟨gc, pc, nc, cc, Xc, qc, mc, dc, Yc, rfl, -, -, -, -, -⟩ := o_h3
  go_enter Tryz.func8, Tryz.ntmps8
  go_upto_region 1 with fail
  have hw : Fr [] w (((w.alloc (Obj.cells #[.bool ga, .slice pa na ca, .slice qa ma da] 26)).alloc (Obj.cells #[.bool gb, .slice pb nb cb, .slice qb mb db] 26)).alloc (Obj.cells #[.bool gc, .slice pc nc cc, .slice qc mc dc] 26)) := (((Fr.refl _ _).alloc _).alloc _).alloc _
  have b3 : Bx (((w.alloc (Obj.cells #[.bool ga, .slice pa na ca, .slice qa ma da] 26)).alloc (Obj.cells #[.bool gb, .slice pb nb cb, .slice qb mb db] 26)).alloc (Obj.cells #[.bool gc, .slice pc nc cc, .slice qc mc dc] 26)) w.heap.size 26 #[.bool ga, .slice pa na ca, .slice qa ma da] := (Bx.made' (by simp) _ _).kept (((Fr.refl _ _).alloc _).alloc _)
  have b4 : Bx (((w.alloc (Obj.cells #[.bool ga, .slice pa na ca, .slice qa ma da] 26)).alloc (Obj.cells #[.bool gb, .slice pb nb cb, .slice qb mb db] 26)).alloc (Obj.cells #[.bool gc, .slice pc nc cc, .slice qc mc dc] 26)) (w.heap.size + 1) 26 #[.bool gb, .slice pb nb cb, .slice qb mb db] := (Bx.made' (by simp) _ _).kept ((Fr.refl _ _).alloc _)
  have b5 : Bx (((w.alloc (Obj.cells #[.bool ga, .slice pa na ca, .slice qa ma da] 26)).alloc (Obj.cells #[.bool gb, .slice pb nb cb, .slice qb mb db] 26)).alloc (Obj.cells #[.bool gc, .slice pc nc cc, .slice qc mc dc] 26)) (w.heap.size + 2) 26 #[.bool gc, .slice pc nc cc, .slice qc mc dc] := (Bx.made' (by simp) _ _).kept (Fr.refl _ _)
  generalize (((w.alloc (Obj.cells #[.bool ga, .slice pa na ca, .slice qa ma da] 26)).alloc (Obj.cells #[.bool gb, .slice pb nb cb, .slice qb mb db] 26)).alloc (Obj.cells #[.bool gc, .slice pc nc cc, .slice qc mc dc] 26)) = W at *
  have hbs := b5.lt
  replace ht := ht.kept hw
  replace h1 := h1.kept hw
  replace h2 := h2.kept hw
  replace h3 := h3.kept hw
  have Hs1 := Lib.hid (vr_small h1)
  have Hs2 := Lib.hid (vr_small h2)
  have Hs3 := Lib.hid (vr_small h3)
  refine wp_region_inv (w0 := W) (by kernel_rfl) [true, true, true, false, false, false, false, false, true, true, true, true, true, true, true, true, true, true, true, true, true, false, false, false, false, false, false, false, false, false, false, false, false, false, false, false, false, false, false, false, false, false, false, false, false, false, false, false, false, false, false, false, false, false, false, false, false, false, false, false, false, false, false, false, false, false, false] []
    [⟨[8], F1 (fun xx _ => xx = .agg #[.bool ga, .slice pa na ca, .slice qa ma da]), .pure⟩,
    ⟨[9], F1 (fun xx _ => xx = .bool true), .pure⟩,
    ⟨[10], F1 (fun xx _ => xx = .bool false), .pure⟩,
    ⟨[11], F1 (fun xx _ => xx = .bool false), .pure⟩,
    ⟨[12], F1 (fun xx _ => xx = .agg #[.bool gb, .slice pb nb cb, .slice qb mb db]), .pure⟩,
    ⟨[13], F1 (fun xx _ => xx = .bool true), .pure⟩,
    ⟨[14], F1 (fun xx _ => xx = .bool false), .pure⟩,
    ⟨[15], F1 (fun xx _ => xx = .bool false), .pure⟩,
    ⟨[16], F1 (fun xx _ => xx = .bool false), .pure⟩,
    ⟨[17], F1 (fun xx _ => xx = .agg #[.bool gc, .slice pc nc cc, .slice qc mc dc]), .pure⟩,
    ⟨[18], F1 (fun xx _ => xx = .bool true), .pure⟩,
    ⟨[19], F1 (fun xx _ => xx = .bool false), .pure⟩,
    ⟨[20], F1 (fun xx _ => xx = .bool false), .pure⟩]
    [[], [0], [0, 1], [0, 1, 2], [0, 1, 2, 3], [0, 1, 2, 3, 4], [0, 1, 2, 3, 4, 5], [0, 1, 2, 3, 4, 5, 6], [0, 1, 2, 3, 4, 5, 6, 7], [0, 1, 2, 3, 4, 5, 6, 7, 8], [0, 1, 2, 3, 4, 5, 6, 7, 8, 9], [0, 1, 2, 3, 4, 5, 6, 7, 8, 9, 10], [0, 1, 2, 3, 4, 5, 6, 7, 8, 9, 10, 11]] ?mk1 ?hmk1 (by kernel_rfl)
    ⟨F1.st (st_eq _), F1.st (st_eq _), F1.st (st_eq _), F1.st (st_eq _), F1.st (st_eq _), F1.st (st_eq _), F1.st (st_eq _), F1.st (st_eq _), F1.st (st_eq _), F1.st (st_eq _), F1.st (st_eq _), F1.st (st_eq _), F1.st (st_eq _), trivial⟩ (by simp) (by simp) (n := 13) rfl ⟨⟨⟨⟨⟨⟨⟨⟨⟨⟨⟨⟨⟨trivial, ?s1_0⟩, ?s1_1⟩, ?s1_2⟩, ?s1_3⟩, ?s1_4⟩, ?s1_5⟩, ?s1_6⟩, ?s1_7⟩, ?s1_8⟩, ?s1_9⟩, ?s1_10⟩, ?s1_11⟩, ?s1_12⟩ ?done1
  case hmk1 => intro v; simp only [mkv, mix, Nat.reduceAdd]; rfl
  case s1_0 =>
    refine stepOk_of _ _ rfl rfl ?_
    intro v W1 f kp ho hd K' hK
    have k0 := (b3.keep f (by simp)).cell (j := 0) rfl
    have k1 := (b3.keep f (by simp)).cell (j := 1) rfl
    have k2 := (b3.keep f (by simp)).cell (j := 2) rfl
    go_simp
    exact hK _ _ (Fr.refl [] _) rfl
  case s1_1 =>
    refine stepOk_of _ _ rfl rfl ?_
    intro v W1 f kp ho hd K' hK
    have e8 : v 8 = .agg #[.bool ga, .slice pa na ca, .slice qa ma da] := (hd 0 (by decide) _ _ rfl rfl).1
    simp only [e8] at hK ⊢
    go_simp
    refine (smallrat_e Hs1.out _).mono ?_
    rintro e W' ⟨rfl, ff⟩
    exact hK _ W' ff rfl
  case s1_2 =>
    refine stepOk_of _ _ rfl rfl ?_
    intro v W1 f kp ho hd K' hK
    have e9 : v 9 = .bool true := (hd 1 (by decide) _ _ rfl rfl).1
    simp only [e9] at hK ⊢
    go_simp
    exact hK _ _ (Fr.refl [] _) rfl
  case s1_3 =>
    refine stepOk_of _ _ rfl rfl ?_
    intro v W1 f kp ho hd K' hK
    have e10 : v 10 = .bool false := (hd 2 (by decide) _ _ rfl rfl).1
    simp only [e10] at hK ⊢
    go_simp
    exact hK _ _ (Fr.refl [] _) rfl
  case s1_4 =>
    refine stepOk_of _ _ rfl rfl ?_
    intro v W1 f kp ho hd K' hK
    have e11 : v 11 = .bool false := (hd 3 (by decide) _ _ rfl rfl).1
    have k0 := (b4.keep f (by simp)).cell (j := 0) rfl
    have k1 := (b4.keep f (by simp)).cell (j := 1) rfl
    have k2 := (b4.keep f (by simp)).cell (j := 2) rfl
    simp only [e11] at hK ⊢
    go_simp
    exact hK _ _ (Fr.refl [] _) rfl
  case s1_5 =>
    refine stepOk_of _ _ rfl rfl ?_
    intro v W1 f kp ho hd K' hK
    have e12 : v 12 = .agg #[.bool gb, .slice pb nb cb, .slice qb mb db] := (hd 4 (by decide) _ _ rfl rfl).1
    have e11 : v 11 = .bool false := (hd 3 (by decide) _ _ rfl rfl).1
    simp only [e12, e11] at hK ⊢
    go_simp
    refine (smallrat_e Hs2.out _).mono ?_
    rintro e W' ⟨rfl, ff⟩
    exact hK _ W' ff rfl
  case s1_6 =>
    refine stepOk_of _ _ rfl rfl ?_
    intro v W1 f kp ho hd K' hK
    have e13 : v 13 = .bool true := (hd 5 (by decide) _ _ rfl rfl).1
    have e11 : v 11 = .bool false := (hd 3 (by decide) _ _ rfl rfl).1
    simp only [e13, e11] at hK ⊢
    go_simp
    exact hK _ _ (Fr.refl [] _) rfl
  case s1_7 =>
    refine stepOk_of _ _ rfl rfl ?_
    intro v W1 f kp ho hd K' hK
    have e11 : v 11 = .bool false := (hd 3 (by decide) _ _ rfl rfl).1
    have e14 : v 14 = .bool false := (hd 6 (by decide) _ _ rfl rfl).1
    simp only [e11, e14] at hK ⊢
    go_simp
    exact hK _ _ (Fr.refl [] _) rfl
  case s1_8 =>
    refine stepOk_of _ _ rfl rfl ?_
    intro v W1 f kp ho hd K' hK
    have e15 : v 15 = .bool false := (hd 7 (by decide) _ _ rfl rfl).1
    simp only [e15] at hK ⊢
    go_simp
    exact hK _ _ (Fr.refl [] _) rfl
  case s1_9 =>
    refine stepOk_of _ _ rfl rfl ?_
    intro v W1 f kp ho hd K' hK
    have e16 : v 16 = .bool false := (hd 8 (by decide) _ _ rfl rfl).1
    have k0 := (b5.keep f (by simp)).cell (j := 0) rfl
    have k1 := (b5.keep f (by simp)).cell (j := 1) rfl
    have k2 := (b5.keep f (by simp)).cell (j := 2) rfl
    simp only [e16] at hK ⊢
    go_simp
    exact hK _ _ (Fr.refl [] _) rfl
  case s1_10 =>
    refine stepOk_of _ _ rfl rfl ?_
    intro v W1 f kp ho hd K' hK
    have e17 : v 17 = .agg #[.bool gc, .slice pc nc cc, .slice qc mc dc] := (hd 9 (by decide) _ _ rfl rfl).1
    have e16 : v 16 = .bool false := (hd 8 (by decide) _ _ rfl rfl).1
    simp only [e17, e16] at hK ⊢
    go_simp
    refine (smallrat_e Hs3.out _).mono ?_
    rintro e W' ⟨rfl, ff⟩
    exact hK _ W' ff rfl
  case s1_11 =>
    refine stepOk_of _ _ rfl rfl ?_
    intro v W1 f kp ho hd K' hK
    have e18 : v 18 = .bool true := (hd 10 (by decide) _ _ rfl rfl).1
    have e16 : v 16 = .bool false := (hd 8 (by decide) _ _ rfl rfl).1
    simp only [e18, e16] at hK ⊢
    go_simp
    exact hK _ _ (Fr.refl [] _) rfl
  case s1_12 =>
    refine stepOk_of _ _ rfl rfl ?_
    intro v W1 f kp ho hd K' hK
    have e16 : v 16 = .bool false := (hd 8 (by decide) _ _ rfl rfl).1
    have e19 : v 19 = .bool false := (hd 11 (by decide) _ _ rfl rfl).1
    simp only [e16, e19] at hK ⊢
    go_simp
    exact hK _ _ (Fr.refl [] _) rfl
  case done1 =>
    intro v W1 f kp hF hD
    have e8 : v 8 = .agg #[.bool ga, .slice pa na ca, .slice qa ma da] := (hF 0 _ _ rfl rfl).1
    have e9 : v 9 = .bool true := (hF 1 _ _ rfl rfl).1
    have e10 : v 10 = .bool false := (hF 2 _ _ rfl rfl).1
    have e11 : v 11 = .bool false := (hF 3 _ _ rfl rfl).1
    have e12 : v 12 = .agg #[.bool gb, .slice pb nb cb, .slice qb mb db] := (hF 4 _ _ rfl rfl).1
    have e13 : v 13 = .bool true := (hF 5 _ _ rfl rfl).1
    have e14 : v 14 = .bool false := (hF 6 _ _ rfl rfl).1
    have e15 : v 15 = .bool false := (hF 7 _ _ rfl rfl).1
    have e16 : v 16 = .bool false := (hF 8 _ _ rfl rfl).1
    have e17 : v 17 = .agg #[.bool gc, .slice pc nc cc, .slice qc mc dc] := (hF 9 _ _ rfl rfl).1
    have e18 : v 18 = .bool true := (hF 10 _ _ rfl rfl).1
    have e19 : v 19 = .bool false := (hF 11 _ _ rfl rfl).1
    have e20 : v 20 = .bool false := (hF 12 _ _ rfl rfl).1
    clear hF hD
    simp only [e8, e9, e10, e11, e12, e13, e14, e15, e16, e17, e18, e19, e20]
    replace b3 := b3.keep f (by simp)
    replace b4 := b4.keep f (by simp)
    replace b5 := b5.keep f (by simp)
    replace ht := ht.kp kp
    replace h1 := h1.kp kp
    replace h2 := h2.kp kp
    replace h3 := h3.kp kp
    replace hw := hw.trans (a := w) (b := W) (c := W1) f (by simp)
    have hsz1 := f.size
    clear f kp
    obtain ⟨z24, hz24⟩ : ∃ z : Int, cmpQ ra rb = z := ⟨_, rfl⟩
    have Hz24 := Lib.hid hz24
    clear hz24
    have c_b3_0 := b3.cell (j := 0) rfl
    have c_b3_1 := b3.cell (j := 1) rfl
    have c_b3_2 := b3.cell (j := 2) rfl
    have c_b4_0 := b4.cell (j := 0) rfl
    have c_b4_1 := b4.cell (j := 1) rfl
    have c_b4_2 := b4.cell (j := 2) rfl
    have c_b5_0 := b5.cell (j := 0) rfl
    have c_b5_1 := b5.cell (j := 1) rfl
    have c_b5_2 := b5.cell (j := 2) rfl
    go_upto_region 3 with fail
    clear c_b3_0 c_b3_1 c_b3_2 c_b4_0 c_b4_1 c_b4_2 c_b5_0 c_b5_1 c_b5_2
    refine wp_region_inv (w0 := W1) (by kernel_rfl) [true, true, true, false, false, false, false, true, true, true, true, true, true, true, true, true, true, true, true, true, true, true, true, true, true, false, false, false, false, false, false, false, false, false, false, false, false, false, false, false, false, false, false, false, false, false, false, false, false, false, false, false, false, false, false, false, false, false, false, false, false, false, false, false, false, false, false] []
      [⟨[22], F1 (fun xx _ => xx = .agg #[.bool ga, .slice pa na ca, .slice qa ma da]), .pure⟩,
    ⟨[23], F1 (fun xx _ => xx = .agg #[.bool gb, .slice pb nb cb, .slice qb mb db]), .pure⟩,
    ⟨[24], F1 (fun xx _ => xx = .int .i64 z24), .pure⟩,
    ⟨[7], F1 (fun xx _ => xx = .int .i64 z24), .pure⟩]
      [[], [], [0, 1], [0, 1, 2]] ?mk2 ?hmk2 (by kernel_rfl)
      ⟨F1.st (st_eq _), F1.st (st_eq _), F1.st (st_eq _), F1.st (st_eq _), trivial⟩ (by simp) (by simp) (n := 4) rfl ⟨⟨⟨⟨trivial, ?s2_0⟩, ?s2_1⟩, ?s2_2⟩, ?s2_3⟩ ?done2
    case hmk2 => intro v; simp only [mkv, mix, Nat.reduceAdd]; rfl
    case s2_0 =>
      refine stepOk_of _ _ rfl rfl ?_
      intro v W2 f kp ho hd K' hK
      have k0 := (b3.keep f (by simp)).cell (j := 0) rfl
      have k1 := (b3.keep f (by simp)).cell (j := 1) rfl
      have k2 := (b3.keep f (by simp)).cell (j := 2) rfl
      go_simp
      exact hK _ _ (Fr.refl [] _) rfl
    case s2_1 =>
      refine stepOk_of _ _ rfl rfl ?_
      intro v W2 f kp ho hd K' hK
      have k0 := (b4.keep f (by simp)).cell (j := 0) rfl
      have k1 := (b4.keep f (by simp)).cell (j := 1) rfl
      have k2 := (b4.keep f (by simp)).cell (j := 2) rfl
      go_simp
      exact hK _ _ (Fr.refl [] _) rfl
    case s2_2 =>
      refine stepOk_of _ _ rfl rfl ?_
      intro v W2 f kp ho hd K' hK
      have e22 : v 22 = .agg #[.bool ga, .slice pa na ca, .slice qa ma da] := (hd 0 (by decide) _ _ rfl rfl).1
      have e23 : v 23 = .agg #[.bool gb, .slice pb nb cb, .slice qb mb db] := (hd 1 (by decide) _ _ rfl rfl).1
      simp only [e22, e23] at hK ⊢
      go_simp
      refine (cmp_e Hz24.out (ht.kp kp) (h1.kp kp) (h2.kp kp) (by omega) (by omega)).mono ?_
      rintro e W' ⟨rfl, ff⟩
      exact hK _ W' ff rfl
    case s2_3 =>
      refine stepOk_of _ _ rfl rfl ?_
      intro v W2 f kp ho hd K' hK
      have e24 : v 24 = .int .i64 z24 := (hd 2 (by decide) _ _ rfl rfl).1
      simp only [e24] at hK ⊢
      go_simp
      exact hK _ _ (Fr.refl [] _) rfl
    case done2 =>
      intro v W2 f kp hF hD
      have e22 : v 22 = .agg #[.bool ga, .slice pa na ca, .slice qa ma da] := (hF 0 _ _ rfl rfl).1
      have e23 : v 23 = .agg #[.bool gb, .slice pb nb cb, .slice qb mb db] := (hF 1 _ _ rfl rfl).1
      have e24 : v 24 = .int .i64 z24 := (hF 2 _ _ rfl rfl).1
      have e7 : v 7 = .int .i64 z24 := (hF 3 _ _ rfl rfl).1
      clear hF hD
      simp only [e22, e23, e24, e7]
      replace b3 := b3.keep f (by simp)
      replace b4 := b4.keep f (by simp)
      replace b5 := b5.keep f (by simp)
      replace ht := ht.kp kp
      replace h1 := h1.kp kp
      replace h2 := h2.kp kp
      replace h3 := h3.kp kp
      replace hw := hw.trans (a := w) (b := W1) (c := W2) f (by simp)
      have hsz2 := f.size
      clear f kp
      obtain ⟨z29, hz29⟩ : ∃ z : Int, cmpQ rb ra = z := ⟨_, rfl⟩
      have Hz29 := Lib.hid hz29
      obtain ⟨q37, hq37⟩ : ∃ q : Rat, ra + rc = q := ⟨_, rfl⟩
      have l37 : nq q37 ≤ 37 := by rw [← hq37]; have := nq_add' ra rc; omega
      have Hq37 := Lib.hid hq37
      obtain ⟨q40, hq40⟩ : ∃ q : Rat, rb + rc = q := ⟨_, rfl⟩
      have l40 : nq q40 ≤ 37 := by rw [← hq40]; have := nq_add' rb rc; omega
      have Hq40 := Lib.hid hq40
      obtain ⟨z41, hz41⟩ : ∃ z : Int, cmpQ q37 q40 = z := ⟨_, rfl⟩
      have Hz41 := Lib.hid hz41
      obtain ⟨q48, hq48⟩ : ∃ q : Rat, ra * rc = q := ⟨_, rfl⟩
      have l48 : nq q48 ≤ 18 := by rw [← hq48]; have := nq_mul ra rc; omega
      have Hq48 := Lib.hid hq48
      obtain ⟨q51, hq51⟩ : ∃ q : Rat, rb * rc = q := ⟨_, rfl⟩
      have l51 : nq q51 ≤ 18 := by rw [← hq51]; have := nq_mul rb rc; omega
      have Hq51 := Lib.hid hq51
      obtain ⟨z52, hz52⟩ : ∃ z : Int, cmpQ q48 q51 = z := ⟨_, rfl⟩
      have Hz52 := Lib.hid hz52
      obtain ⟨z55, hz55⟩ : ∃ z : Int, rc.num.sign = z := ⟨_, rfl⟩
      have Hz55 := Lib.hid hz55
      obtain ⟨q62, hq62⟩ : ∃ q : Rat, ra - rb = q := ⟨_, rfl⟩
      have l62 : nq q62 ≤ 37 := by rw [← hq62]; have := nq_sub ra rb; omega
      have Hq62 := Lib.hid hq62
      obtain ⟨z63, hz63⟩ : ∃ z : Int, q62.num.sign = z := ⟨_, rfl⟩
      have Hz63 := Lib.hid hz63
      have e29 : z29 = -z24 := by rw [← hz29, ← Hz24.out]; exact cmp_swap _ _
      have b24 : -1 ≤ z24 ∧ z24 ≤ 1 := by rw [← Hz24.out]; exact cmp_bd _ _
      have hw1 : IntKind.i64.wrap (-z24) = z29 := by rw [e29]; exact IntWalk.i64_in _ (by omega)
      have e41 : z41 = z24 := by rw [← hz41, ← hq37, ← hq40, ← Hz24.out]; exact cmp_add _ _ _
      have t41 : (z41 == z24) = true := by rw [e41]; exact beq_self_eq_true _
      have e52 : z52 = z24 * z55 := by rw [← hz52, ← hq48, ← hq51, ← Hz24.out, ← hz55]; exact cmp_mul _ _ _
      have b55 : -1 ≤ z55 ∧ z55 ≤ 1 := by rw [← hz55, sign_cmp]; exact cmp_bd _ _
      have hb2 : -1 ≤ z24 * z55 ∧ z24 * z55 ≤ 1 := by rw [← e52, ← hz52]; exact cmp_bd _ _
      have hw2 : IntKind.i64.wrap (z24 * z55) = z52 := by rw [e52]; exact IntWalk.i64_in _ (by omega)
      have e63 : z63 = z24 := by rw [← hz63, ← hq62, ← Hz24.out]; exact sign_sub _ _
      have t63 : (z63 == z24) = true := by rw [e63]; exact beq_self_eq_true _
      clear e29 e41 e52 e63 hb2
      clear hz29 hq37 hq40 hz41 hq48 hq51 hz52 hz55 hq62 hz63
      have c_b3_0 := b3.cell (j := 0) rfl
      have c_b3_1 := b3.cell (j := 1) rfl
      have c_b3_2 := b3.cell (j := 2) rfl
      have c_b4_0 := b4.cell (j := 0) rfl
      have c_b4_1 := b4.cell (j := 1) rfl
      have c_b4_2 := b4.cell (j := 2) rfl
      have c_b5_0 := b5.cell (j := 0) rfl
      have c_b5_1 := b5.cell (j := 1) rfl
      have c_b5_2 := b5.cell (j := 2) rfl
      go_upto_region 4 with fail
      clear c_b3_0 c_b3_1 c_b3_2 c_b4_0 c_b4_1 c_b4_2 c_b5_0 c_b5_1 c_b5_2
      refine wp_region_inv (w0 := W2) (by kernel_rfl) [true, true, true, false, false, false, true, false, true, true, true, true, true, true, true, true, true, true, true, true, true, true, true, true, true, true, true, true, true, true, true, true, true, true, true, true, true, true, true, true, true, true, true, true, true, true, true, true, true, true, true, true, true, true, true, true, true, true, true, true, true, true, true, true, true, true, true] []
        [⟨[25], F1 (fun xx _ => xx = .bool true), .pure⟩,
    ⟨[26], F1 (fun xx _ => xx = .bool true), .pure⟩,
    ⟨[27], F1 (fun xx _ => xx = .agg #[.bool gb, .slice pb nb cb, .slice qb mb db]), .pure⟩,
    ⟨[28], F1 (fun xx _ => xx = .agg #[.bool ga, .slice pa na ca, .slice qa ma da]), .pure⟩,
    ⟨[29], F1 (fun xx _ => xx = .int .i64 z29), .pure⟩,
    ⟨[30], F1 (fun xx _ => xx = .int .i64 z24), .pure⟩,
    ⟨[31], F1 (fun xx _ => xx = .int .i64 z29), .pure⟩,
    ⟨[32], F1 (fun xx _ => xx = .bool true), .pure⟩,
    ⟨[33], F1 (fun xx _ => xx = .bool true), .pure⟩,
    ⟨[34], F1 (fun xx _ => xx = .bool true), .pure⟩,
    ⟨[35], F1 (fun xx _ => xx = .agg #[.bool ga, .slice pa na ca, .slice qa ma da]), .pure⟩,
    ⟨[36], F1 (fun xx _ => xx = .agg #[.bool gc, .slice pc nc cc, .slice qc mc dc]), .pure⟩,
    ⟨[37], F1 (fun xx ww => VQ ww q37 xx), .pure⟩,
    ⟨[38], F1 (fun xx _ => xx = .agg #[.bool gb, .slice pb nb cb, .slice qb mb db]), .pure⟩,
    ⟨[39], F1 (fun xx _ => xx = .agg #[.bool gc, .slice pc nc cc, .slice qc mc dc]), .pure⟩,
    ⟨[40], F1 (fun xx ww => VQ ww q40 xx), .pure⟩,
    ⟨[41], F1 (fun xx _ => xx = .int .i64 z41), .pure⟩,
    ⟨[42], F1 (fun xx _ => xx = .int .i64 z24), .pure⟩,
    ⟨[43], F1 (fun xx _ => xx = .bool true), .pure⟩,
    ⟨[44], F1 (fun xx _ => xx = .bool true), .pure⟩,
    ⟨[45], F1 (fun xx _ => xx = .bool true), .pure⟩,
    ⟨[46], F1 (fun xx _ => xx = .agg #[.bool ga, .slice pa na ca, .slice qa ma da]), .pure⟩,
    ⟨[47], F1 (fun xx _ => xx = .agg #[.bool gc, .slice pc nc cc, .slice qc mc dc]), .pure⟩,
    ⟨[48], F1 (fun xx ww => VQ ww q48 xx), .pure⟩,
    ⟨[49], F1 (fun xx _ => xx = .agg #[.bool gb, .slice pb nb cb, .slice qb mb db]), .pure⟩,
    ⟨[50], F1 (fun xx _ => xx = .agg #[.bool gc, .slice pc nc cc, .slice qc mc dc]), .pure⟩,
    ⟨[51], F1 (fun xx ww => VQ ww q51 xx), .pure⟩,
    ⟨[52], F1 (fun xx _ => xx = .int .i64 z52), .pure⟩,
    ⟨[53], F1 (fun xx _ => xx = .int .i64 z24), .pure⟩,
    ⟨[54], F1 (fun xx _ => xx = .agg #[.bool gc, .slice pc nc cc, .slice qc mc dc]), .pure⟩,
    ⟨[55], F1 (fun xx _ => xx = .int .i64 z55), .pure⟩,
    ⟨[56], F1 (fun xx _ => xx = .int .i64 z52), .pure⟩,
    ⟨[57], F1 (fun xx _ => xx = .bool true), .pure⟩,
    ⟨[58], F1 (fun xx _ => xx = .bool true), .pure⟩,
    ⟨[59], F1 (fun xx _ => xx = .bool true), .pure⟩,
    ⟨[60], F1 (fun xx _ => xx = .agg #[.bool ga, .slice pa na ca, .slice qa ma da]), .pure⟩,
    ⟨[61], F1 (fun xx _ => xx = .agg #[.bool gb, .slice pb nb cb, .slice qb mb db]), .pure⟩,
    ⟨[62], F1 (fun xx ww => VQ ww q62 xx), .pure⟩,
    ⟨[63], F1 (fun xx _ => xx = .int .i64 z63), .pure⟩,
    ⟨[64], F1 (fun xx _ => xx = .int .i64 z24), .pure⟩,
    ⟨[65], F1 (fun xx _ => xx = .bool true), .pure⟩,
    ⟨[66], F1 (fun xx _ => xx = .bool true), .pure⟩,
    ⟨[6], F1 (fun xx _ => xx = .bool true), .pure⟩]
        [[], [0], [0, 1], [0, 1], [0, 1, 2, 3], [0, 1], [0, 1, 5], [0, 1, 2, 3, 4, 5, 6], [0, 1, 2, 3, 4, 5, 6, 7], [0, 1, 2, 3, 4, 5, 6, 7, 8], [0, 1, 2, 3, 4, 5, 6, 7, 8, 9], [0, 1, 2, 3, 4, 5, 6, 7, 8, 9], [0, 1, 2, 3, 4, 5, 6, 7, 8, 9, 10, 11], [0, 1, 2, 3, 4, 5, 6, 7, 8, 9], [0, 1, 2, 3, 4, 5, 6, 7, 8, 9], [0, 1, 2, 3, 4, 5, 6, 7, 8, 9, 10, 11, 12, 13, 14], [0, 1, 2, 3, 4, 5, 6, 7, 8, 9, 10, 11, 12, 13, 14, 15], [0, 1, 2, 3, 4, 5, 6, 7, 8, 9], [0, 1, 2, 3, 4, 5, 6, 7, 8, 9, 10, 11, 12, 13, 14, 15, 16, 17], [0, 1, 2, 3, 4, 5, 6, 7, 8, 9, 10, 11, 12, 13, 14, 15, 16, 17, 18], [0, 1, 2, 3, 4, 5, 6, 7, 8, 9, 10, 11, 12, 13, 14, 15, 16, 17, 18, 19], [0, 1, 2, 3, 4, 5, 6, 7, 8, 9, 10, 11, 12, 13, 14, 15, 16, 17, 18, 19, 20], [0, 1, 2, 3, 4, 5, 6, 7, 8, 9, 10, 11, 12, 13, 14, 15, 16, 17, 18, 19, 20], [0, 1, 2, 3, 4, 5, 6, 7, 8, 9, 10, 11, 12, 13, 14, 15, 16, 17, 18, 19, 20, 21, 22], [0, 1, 2, 3, 4, 5, 6, 7, 8, 9, 10, 11, 12, 13, 14, 15, 16, 17, 18, 19, 20], [0, 1, 2, 3, 4, 5, 6, 7, 8, 9, 10, 11, 12, 13, 14, 15, 16, 17, 18, 19, 20], [0, 1, 2, 3, 4, 5, 6, 7, 8, 9, 10, 11, 12, 13, 14, 15, 16, 17, 18, 19, 20, 21, 22, 23, 24, 25], [0, 1, 2, 3, 4, 5, 6, 7, 8, 9, 10, 11, 12, 13, 14, 15, 16, 17, 18, 19, 20, 21, 22, 23, 24, 25, 26], [0, 1, 2, 3, 4, 5, 6, 7, 8, 9, 10, 11, 12, 13, 14, 15, 16, 17, 18, 19, 20], [0, 1, 2, 3, 4, 5, 6, 7, 8, 9, 10, 11, 12, 13, 14, 15, 16, 17, 18, 19, 20], [0, 1, 2, 3, 4, 5, 6, 7, 8, 9, 10, 11, 12, 13, 14, 15, 16, 17, 18, 19, 20, 21, 22, 23, 24, 25, 26, 27, 29], [0, 1, 2, 3, 4, 5, 6, 7, 8, 9, 10, 11, 12, 13, 14, 15, 16, 17, 18, 19, 20, 21, 22, 23, 24, 25, 26, 27, 28, 29, 30], [0, 1, 2, 3, 4, 5, 6, 7, 8, 9, 10, 11, 12, 13, 14, 15, 16, 17, 18, 19, 20, 21, 22, 23, 24, 25, 26, 27, 28, 29, 30, 31], [0, 1, 2, 3, 4, 5, 6, 7, 8, 9, 10, 11, 12, 13, 14, 15, 16, 17, 18, 19, 20, 21, 22, 23, 24, 25, 26, 27, 28, 29, 30, 31, 32], [0, 1, 2, 3, 4, 5, 6, 7, 8, 9, 10, 11, 12, 13, 14, 15, 16, 17, 18, 19, 20, 21, 22, 23, 24, 25, 26, 27, 28, 29, 30, 31, 32, 33], [0, 1, 2, 3, 4, 5, 6, 7, 8, 9, 10, 11, 12, 13, 14, 15, 16, 17, 18, 19, 20, 21, 22, 23, 24, 25, 26, 27, 28, 29, 30, 31, 32, 33, 34], [0, 1, 2, 3, 4, 5, 6, 7, 8, 9, 10, 11, 12, 13, 14, 15, 16, 17, 18, 19, 20, 21, 22, 23, 24, 25, 26, 27, 28, 29, 30, 31, 32, 33, 34], [0, 1, 2, 3, 4, 5, 6, 7, 8, 9, 10, 11, 12, 13, 14, 15, 16, 17, 18, 19, 20, 21, 22, 23, 24, 25, 26, 27, 28, 29, 30, 31, 32, 33, 34, 35, 36], [0, 1, 2, 3, 4, 5, 6, 7, 8, 9, 10, 11, 12, 13, 14, 15, 16, 17, 18, 19, 20, 21, 22, 23, 24, 25, 26, 27, 28, 29, 30, 31, 32, 33, 34, 35, 36, 37], [0, 1, 2, 3, 4, 5, 6, 7, 8, 9, 10, 11, 12, 13, 14, 15, 16, 17, 18, 19, 20, 21, 22, 23, 24, 25, 26, 27, 28, 29, 30, 31, 32, 33, 34], [0, 1, 2, 3, 4, 5, 6, 7, 8, 9, 10, 11, 12, 13, 14, 15, 16, 17, 18, 19, 20, 21, 22, 23, 24, 25, 26, 27, 28, 29, 30, 31, 32, 33, 34, 35, 36, 37, 38, 39], [0, 1, 2, 3, 4, 5, 6, 7, 8, 9, 10, 11, 12, 13, 14, 15, 16, 17, 18, 19, 20, 21, 22, 23, 24, 25, 26, 27, 28, 29, 30, 31, 32, 33, 34, 35, 36, 37, 38, 39, 40], [0, 1, 2, 3, 4, 5, 6, 7, 8, 9, 10, 11, 12, 13, 14, 15, 16, 17, 18, 19, 20, 21, 22, 23, 24, 25, 26, 27, 28, 29, 30, 31, 32, 33, 34, 35, 36, 37, 38, 39, 40, 41]] ?mk3 ?hmk3 (by kernel_rfl)
        ⟨F1.st (st_eq _), F1.st (st_eq _), F1.st (st_eq _), F1.st (st_eq _), F1.st (st_eq _), F1.st (st_eq _), F1.st (st_eq _), F1.st (st_eq _), F1.st (st_eq _), F1.st (st_eq _), F1.st (st_eq _), F1.st (st_eq _), F1.st (fun _ _ _ k h => h.kp k), F1.st (st_eq _), F1.st (st_eq _), F1.st (fun _ _ _ k h => h.kp k), F1.st (st_eq _), F1.st (st_eq _), F1.st (st_eq _), F1.st (st_eq _), F1.st (st_eq _), F1.st (st_eq _), F1.st (st_eq _), F1.st (fun _ _ _ k h => h.kp k), F1.st (st_eq _), F1.st (st_eq _), F1.st (fun _ _ _ k h => h.kp k), F1.st (st_eq _), F1.st (st_eq _), F1.st (st_eq _), F1.st (st_eq _), F1.st (st_eq _), F1.st (st_eq _), F1.st (st_eq _), F1.st (st_eq _), F1.st (st_eq _), F1.st (st_eq _), F1.st (fun _ _ _ k h => h.kp k), F1.st (st_eq _), F1.st (st_eq _), F1.st (st_eq _), F1.st (st_eq _), F1.st (st_eq _), trivial⟩ (by simp) (by simp) (n := 43) rfl ⟨⟨⟨⟨⟨⟨⟨⟨⟨⟨⟨⟨⟨⟨⟨⟨⟨⟨⟨⟨⟨⟨⟨⟨⟨⟨⟨⟨⟨⟨⟨⟨⟨⟨⟨⟨⟨⟨⟨⟨⟨⟨⟨trivial, ?s3_0⟩, ?s3_1⟩, ?s3_2⟩, ?s3_3⟩, ?s3_4⟩, ?s3_5⟩, ?s3_6⟩, ?s3_7⟩, ?s3_8⟩, ?s3_9⟩, ?s3_10⟩, ?s3_11⟩, ?s3_12⟩, ?s3_13⟩, ?s3_14⟩, ?s3_15⟩, ?s3_16⟩, ?s3_17⟩, ?s3_18⟩, ?s3_19⟩, ?s3_20⟩, ?s3_21⟩, ?s3_22⟩, ?s3_23⟩, ?s3_24⟩, ?s3_25⟩, ?s3_26⟩, ?s3_27⟩, ?s3_28⟩, ?s3_29⟩, ?s3_30⟩, ?s3_31⟩, ?s3_32⟩, ?s3_33⟩, ?s3_34⟩, ?s3_35⟩, ?s3_36⟩, ?s3_37⟩, ?s3_38⟩, ?s3_39⟩, ?s3_40⟩, ?s3_41⟩, ?s3_42⟩ ?done3
      case hmk3 => intro v; simp only [mkv, mix, Nat.reduceAdd]; rfl
      case s3_0 =>
        refine stepOk_of _ _ rfl rfl ?_
        intro v W3 f kp ho hd K' hK
        go_simp
        refine (awake3_any _ (ht.kp kp)).mono ?_
        rintro e W' ⟨rfl, ff⟩
        exact hK _ W' ff rfl
      case s3_1 =>
        refine stepOk_of _ _ rfl rfl ?_
        intro v W3 f kp ho hd K' hK
        have e25 : v 25 = .bool true := (hd 0 (by decide) _ _ rfl rfl).1
        simp only [e25] at hK ⊢
        go_simp
        exact hK _ _ (Fr.refl [] _) rfl
      case s3_2 =>
        refine stepOk_of _ _ rfl rfl ?_
        intro v W3 f kp ho hd K' hK
        have e26 : v 26 = .bool true := (hd 1 (by decide) _ _ rfl rfl).1
        have k0 := (b4.keep f (by simp)).cell (j := 0) rfl
        have k1 := (b4.keep f (by simp)).cell (j := 1) rfl
        have k2 := (b4.keep f (by simp)).cell (j := 2) rfl
        simp only [e26] at hK ⊢
        go_simp
        exact hK _ _ (Fr.refl [] _) rfl
      case s3_3 =>
        refine stepOk_of _ _ rfl rfl ?_
        intro v W3 f kp ho hd K' hK
        have e26 : v 26 = .bool true := (hd 1 (by decide) _ _ rfl rfl).1
        have k0 := (b3.keep f (by simp)).cell (j := 0) rfl
        have k1 := (b3.keep f (by simp)).cell (j := 1) rfl
        have k2 := (b3.keep f (by simp)).cell (j := 2) rfl
        simp only [e26] at hK ⊢
        go_simp
        exact hK _ _ (Fr.refl [] _) rfl
      case s3_4 =>
        refine stepOk_of _ _ rfl rfl ?_
        intro v W3 f kp ho hd K' hK
        have e27 : v 27 = .agg #[.bool gb, .slice pb nb cb, .slice qb mb db] := (hd 2 (by decide) _ _ rfl rfl).1
        have e28 : v 28 = .agg #[.bool ga, .slice pa na ca, .slice qa ma da] := (hd 3 (by decide) _ _ rfl rfl).1
        have e26 : v 26 = .bool true := (hd 1 (by decide) _ _ rfl rfl).1
        simp only [e27, e28, e26] at hK ⊢
        go_simp
        refine (cmp_e Hz29.out (ht.kp kp) (h2.kp kp) (h1.kp kp) (by omega) (by omega)).mono ?_
        rintro e W' ⟨rfl, ff⟩
        exact hK _ W' ff rfl
      case s3_5 =>
        refine stepOk_of _ _ rfl rfl ?_
        intro v W3 f kp ho hd K' hK
        have e26 : v 26 = .bool true := (hd 1 (by decide) _ _ rfl rfl).1
        simp only [e26] at hK ⊢
        go_simp
        exact hK _ _ (Fr.refl [] _) rfl
      case s3_6 =>
        refine stepOk_of _ _ rfl rfl ?_
        intro v W3 f kp ho hd K' hK
        have e30 : v 30 = .int .i64 z24 := (hd 5 (by decide) _ _ rfl rfl).1
        have e26 : v 26 = .bool true := (hd 1 (by decide) _ _ rfl rfl).1
        simp only [e30, e26] at hK ⊢
        go_simp
        exact hK _ _ (Fr.refl [] _) rfl
      case s3_7 =>
        refine stepOk_of _ _ rfl rfl ?_
        intro v W3 f kp ho hd K' hK
        have e29 : v 29 = .int .i64 z29 := (hd 4 (by decide) _ _ rfl rfl).1
        have e31 : v 31 = .int .i64 z29 := (hd 6 (by decide) _ _ rfl rfl).1
        have e26 : v 26 = .bool true := (hd 1 (by decide) _ _ rfl rfl).1
        simp only [e29, e31, e26] at hK ⊢
        go_simp
        exact hK _ _ (Fr.refl [] _) rfl
      case s3_8 =>
        refine stepOk_of _ _ rfl rfl ?_
        intro v W3 f kp ho hd K' hK
        have e26 : v 26 = .bool true := (hd 1 (by decide) _ _ rfl rfl).1
        have e32 : v 32 = .bool true := (hd 7 (by decide) _ _ rfl rfl).1
        simp only [e26, e32] at hK ⊢
        go_simp
        exact hK _ _ (Fr.refl [] _) rfl
      case s3_9 =>
        refine stepOk_of _ _ rfl rfl ?_
        intro v W3 f kp ho hd K' hK
        have e33 : v 33 = .bool true := (hd 8 (by decide) _ _ rfl rfl).1
        simp only [e33] at hK ⊢
        go_simp
        exact hK _ _ (Fr.refl [] _) rfl
      case s3_10 =>
        refine stepOk_of _ _ rfl rfl ?_
        intro v W3 f kp ho hd K' hK
        have e34 : v 34 = .bool true := (hd 9 (by decide) _ _ rfl rfl).1
        have k0 := (b3.keep f (by simp)).cell (j := 0) rfl
        have k1 := (b3.keep f (by simp)).cell (j := 1) rfl
        have k2 := (b3.keep f (by simp)).cell (j := 2) rfl
        simp only [e34] at hK ⊢
        go_simp
        exact hK _ _ (Fr.refl [] _) rfl
      case s3_11 =>
        refine stepOk_of _ _ rfl rfl ?_
        intro v W3 f kp ho hd K' hK
        have e34 : v 34 = .bool true := (hd 9 (by decide) _ _ rfl rfl).1
        have k0 := (b5.keep f (by simp)).cell (j := 0) rfl
        have k1 := (b5.keep f (by simp)).cell (j := 1) rfl
        have k2 := (b5.keep f (by simp)).cell (j := 2) rfl
        simp only [e34] at hK ⊢
        go_simp
        exact hK _ _ (Fr.refl [] _) rfl
      case s3_12 =>
        refine stepOk_of _ _ rfl rfl ?_
        intro v W3 f kp ho hd K' hK
        have e35 : v 35 = .agg #[.bool ga, .slice pa na ca, .slice qa ma da] := (hd 10 (by decide) _ _ rfl rfl).1
        have e36 : v 36 = .agg #[.bool gc, .slice pc nc cc, .slice qc mc dc] := (hd 11 (by decide) _ _ rfl rfl).1
        have e34 : v 34 = .bool true := (hd 9 (by decide) _ _ rfl rfl).1
        simp only [e35, e36, e34] at hK ⊢
        go_simp
        refine (add_e Hq37.out (ht.kp kp) (h1.kp kp) (h3.kp kp) (by omega) (by omega)).mono ?_
        rintro e W' ⟨x, rfl, hx, ff⟩
        exact hK x W' ff hx
      case s3_13 =>
        refine stepOk_of _ _ rfl rfl ?_
        intro v W3 f kp ho hd K' hK
        have e34 : v 34 = .bool true := (hd 9 (by decide) _ _ rfl rfl).1
        have k0 := (b4.keep f (by simp)).cell (j := 0) rfl
        have k1 := (b4.keep f (by simp)).cell (j := 1) rfl
        have k2 := (b4.keep f (by simp)).cell (j := 2) rfl
        simp only [e34] at hK ⊢
        go_simp
        exact hK _ _ (Fr.refl [] _) rfl
      case s3_14 =>
        refine stepOk_of _ _ rfl rfl ?_
        intro v W3 f kp ho hd K' hK
        have e34 : v 34 = .bool true := (hd 9 (by decide) _ _ rfl rfl).1
        have k0 := (b5.keep f (by simp)).cell (j := 0) rfl
        have k1 := (b5.keep f (by simp)).cell (j := 1) rfl
        have k2 := (b5.keep f (by simp)).cell (j := 2) rfl
        simp only [e34] at hK ⊢
        go_simp
        exact hK _ _ (Fr.refl [] _) rfl
      case s3_15 =>
        refine stepOk_of _ _ rfl rfl ?_
        intro v W3 f kp ho hd K' hK
        have e38 : v 38 = .agg #[.bool gb, .slice pb nb cb, .slice qb mb db] := (hd 13 (by decide) _ _ rfl rfl).1
        have e39 : v 39 = .agg #[.bool gc, .slice pc nc cc, .slice qc mc dc] := (hd 14 (by decide) _ _ rfl rfl).1
        have e34 : v 34 = .bool true := (hd 9 (by decide) _ _ rfl rfl).1
        simp only [e38, e39, e34] at hK ⊢
        go_simp
        refine (add_e Hq40.out (ht.kp kp) (h2.kp kp) (h3.kp kp) (by omega) (by omega)).mono ?_
        rintro e W' ⟨x, rfl, hx, ff⟩
        exact hK x W' ff hx
      case s3_16 =>
        refine stepOk_of _ _ rfl rfl ?_
        intro v W3 f kp ho hd K' hK
        have f37 : VQ W3 q37 (v 37) := (hd 12 (by decide) _ _ rfl rfl).1
        have f40 : VQ W3 q40 (v 40) := (hd 15 (by decide) _ _ rfl rfl).1
        have e34 : v 34 = .bool true := (hd 9 (by decide) _ _ rfl rfl).1
        simp only [e34] at hK ⊢
        go_simp
        refine (cmp_e Hz41.out (ht.kp kp) (f37.raw l37) (f40.raw l40) (by omega) (by omega)).mono ?_
        rintro e W' ⟨rfl, ff⟩
        exact hK _ W' ff rfl
      case s3_17 =>
        refine stepOk_of _ _ rfl rfl ?_
        intro v W3 f kp ho hd K' hK
        have e34 : v 34 = .bool true := (hd 9 (by decide) _ _ rfl rfl).1
        simp only [e34] at hK ⊢
        go_simp
        exact hK _ _ (Fr.refl [] _) rfl
      case s3_18 =>
        refine stepOk_of _ _ rfl rfl ?_
        intro v W3 f kp ho hd K' hK
        have e41 : v 41 = .int .i64 z41 := (hd 16 (by decide) _ _ rfl rfl).1
        have e42 : v 42 = .int .i64 z24 := (hd 17 (by decide) _ _ rfl rfl).1
        have e34 : v 34 = .bool true := (hd 9 (by decide) _ _ rfl rfl).1
        simp only [e41, e42, e34] at hK ⊢
        go_simp
        exact hK _ _ (Fr.refl [] _) rfl
      case s3_19 =>
        refine stepOk_of _ _ rfl rfl ?_
        intro v W3 f kp ho hd K' hK
        have e34 : v 34 = .bool true := (hd 9 (by decide) _ _ rfl rfl).1
        have e43 : v 43 = .bool true := (hd 18 (by decide) _ _ rfl rfl).1
        simp only [e34, e43] at hK ⊢
        go_simp
        exact hK _ _ (Fr.refl [] _) rfl
      case s3_20 =>
        refine stepOk_of _ _ rfl rfl ?_
        intro v W3 f kp ho hd K' hK
        have e44 : v 44 = .bool true := (hd 19 (by decide) _ _ rfl rfl).1
        simp only [e44] at hK ⊢
        go_simp
        exact hK _ _ (Fr.refl [] _) rfl
      case s3_21 =>
        refine stepOk_of _ _ rfl rfl ?_
        intro v W3 f kp ho hd K' hK
        have e45 : v 45 = .bool true := (hd 20 (by decide) _ _ rfl rfl).1
        have k0 := (b3.keep f (by simp)).cell (j := 0) rfl
        have k1 := (b3.keep f (by simp)).cell (j := 1) rfl
        have k2 := (b3.keep f (by simp)).cell (j := 2) rfl
        simp only [e45] at hK ⊢
        go_simp
        exact hK _ _ (Fr.refl [] _) rfl
      case s3_22 =>
        refine stepOk_of _ _ rfl rfl ?_
        intro v W3 f kp ho hd K' hK
        have e45 : v 45 = .bool true := (hd 20 (by decide) _ _ rfl rfl).1
        have k0 := (b5.keep f (by simp)).cell (j := 0) rfl
        have k1 := (b5.keep f (by simp)).cell (j := 1) rfl
        have k2 := (b5.keep f (by simp)).cell (j := 2) rfl
        simp only [e45] at hK ⊢
        go_simp
        exact hK _ _ (Fr.refl [] _) rfl
      case s3_23 =>
        refine stepOk_of _ _ rfl rfl ?_
        intro v W3 f kp ho hd K' hK
        have e46 : v 46 = .agg #[.bool ga, .slice pa na ca, .slice qa ma da] := (hd 21 (by decide) _ _ rfl rfl).1
        have e47 : v 47 = .agg #[.bool gc, .slice pc nc cc, .slice qc mc dc] := (hd 22 (by decide) _ _ rfl rfl).1
        have e45 : v 45 = .bool true := (hd 20 (by decide) _ _ rfl rfl).1
        simp only [e46, e47, e45] at hK ⊢
        go_simp
        refine (mul_e Hq48.out (ht.kp kp) (h1.kp kp) (h3.kp kp) (by omega) (by omega)).mono ?_
        rintro e W' ⟨x, rfl, hx, ff⟩
        exact hK x W' ff hx
      case s3_24 =>
        refine stepOk_of _ _ rfl rfl ?_
        intro v W3 f kp ho hd K' hK
        have e45 : v 45 = .bool true := (hd 20 (by decide) _ _ rfl rfl).1
        have k0 := (b4.keep f (by simp)).cell (j := 0) rfl
        have k1 := (b4.keep f (by simp)).cell (j := 1) rfl
        have k2 := (b4.keep f (by simp)).cell (j := 2) rfl
        simp only [e45] at hK ⊢
        go_simp
        exact hK _ _ (Fr.refl [] _) rfl
      case s3_25 =>
        refine stepOk_of _ _ rfl rfl ?_
        intro v W3 f kp ho hd K' hK
        have e45 : v 45 = .bool true := (hd 20 (by decide) _ _ rfl rfl).1
        have k0 := (b5.keep f (by simp)).cell (j := 0) rfl
        have k1 := (b5.keep f (by simp)).cell (j := 1) rfl
        have k2 := (b5.keep f (by simp)).cell (j := 2) rfl
        simp only [e45] at hK ⊢
        go_simp
        exact hK _ _ (Fr.refl [] _) rfl
      case s3_26 =>
        refine stepOk_of _ _ rfl rfl ?_
        intro v W3 f kp ho hd K' hK
        have e49 : v 49 = .agg #[.bool gb, .slice pb nb cb, .slice qb mb db] := (hd 24 (by decide) _ _ rfl rfl).1
        have e50 : v 50 = .agg #[.bool gc, .slice pc nc cc, .slice qc mc dc] := (hd 25 (by decide) _ _ rfl rfl).1
        have e45 : v 45 = .bool true := (hd 20 (by decide) _ _ rfl rfl).1
        simp only [e49, e50, e45] at hK ⊢
        go_simp
        refine (mul_e Hq51.out (ht.kp kp) (h2.kp kp) (h3.kp kp) (by omega) (by omega)).mono ?_
        rintro e W' ⟨x, rfl, hx, ff⟩
        exact hK x W' ff hx
      case s3_27 =>
        refine stepOk_of _ _ rfl rfl ?_
        intro v W3 f kp ho hd K' hK
        have f48 : VQ W3 q48 (v 48) := (hd 23 (by decide) _ _ rfl rfl).1
        have f51 : VQ W3 q51 (v 51) := (hd 26 (by decide) _ _ rfl rfl).1
        have e45 : v 45 = .bool true := (hd 20 (by decide) _ _ rfl rfl).1
        simp only [e45] at hK ⊢
        go_simp
        refine (cmp_e Hz52.out (ht.kp kp) (f48.raw l48) (f51.raw l51) (by omega) (by omega)).mono ?_
        rintro e W' ⟨rfl, ff⟩
        exact hK _ W' ff rfl
      case s3_28 =>
        refine stepOk_of _ _ rfl rfl ?_
        intro v W3 f kp ho hd K' hK
        have e45 : v 45 = .bool true := (hd 20 (by decide) _ _ rfl rfl).1
        simp only [e45] at hK ⊢
        go_simp
        exact hK _ _ (Fr.refl [] _) rfl
      case s3_29 =>
        refine stepOk_of _ _ rfl rfl ?_
        intro v W3 f kp ho hd K' hK
        have e45 : v 45 = .bool true := (hd 20 (by decide) _ _ rfl rfl).1
        have k0 := (b5.keep f (by simp)).cell (j := 0) rfl
        have k1 := (b5.keep f (by simp)).cell (j := 1) rfl
        have k2 := (b5.keep f (by simp)).cell (j := 2) rfl
        simp only [e45] at hK ⊢
        go_simp
        exact hK _ _ (Fr.refl [] _) rfl
      case s3_30 =>
        refine stepOk_of _ _ rfl rfl ?_
        intro v W3 f kp ho hd K' hK
        have e54 : v 54 = .agg #[.bool gc, .slice pc nc cc, .slice qc mc dc] := (hd 29 (by decide) _ _ rfl rfl).1
        have e45 : v 45 = .bool true := (hd 20 (by decide) _ _ rfl rfl).1
        simp only [e54, e45] at hK ⊢
        go_simp
        refine (sign_e Hz55.out (h3.kp kp) (by omega)).mono ?_
        rintro e W' ⟨rfl, ff⟩
        exact hK _ W' ff rfl
      case s3_31 =>
        refine stepOk_of _ _ rfl rfl ?_
        intro v W3 f kp ho hd K' hK
        have e53 : v 53 = .int .i64 z24 := (hd 28 (by decide) _ _ rfl rfl).1
        have e55 : v 55 = .int .i64 z55 := (hd 30 (by decide) _ _ rfl rfl).1
        have e45 : v 45 = .bool true := (hd 20 (by decide) _ _ rfl rfl).1
        simp only [e53, e55, e45] at hK ⊢
        go_simp
        exact hK _ _ (Fr.refl [] _) rfl
      case s3_32 =>
        refine stepOk_of _ _ rfl rfl ?_
        intro v W3 f kp ho hd K' hK
        have e52 : v 52 = .int .i64 z52 := (hd 27 (by decide) _ _ rfl rfl).1
        have e56 : v 56 = .int .i64 z52 := (hd 31 (by decide) _ _ rfl rfl).1
        have e45 : v 45 = .bool true := (hd 20 (by decide) _ _ rfl rfl).1
        simp only [e52, e56, e45] at hK ⊢
        go_simp
        exact hK _ _ (Fr.refl [] _) rfl
      case s3_33 =>
        refine stepOk_of _ _ rfl rfl ?_
        intro v W3 f kp ho hd K' hK
        have e45 : v 45 = .bool true := (hd 20 (by decide) _ _ rfl rfl).1
        have e57 : v 57 = .bool true := (hd 32 (by decide) _ _ rfl rfl).1
        simp only [e45, e57] at hK ⊢
        go_simp
        exact hK _ _ (Fr.refl [] _) rfl
      case s3_34 =>
        refine stepOk_of _ _ rfl rfl ?_
        intro v W3 f kp ho hd K' hK
        have e58 : v 58 = .bool true := (hd 33 (by decide) _ _ rfl rfl).1
        simp only [e58] at hK ⊢
        go_simp
        exact hK _ _ (Fr.refl [] _) rfl
      case s3_35 =>
        refine stepOk_of _ _ rfl rfl ?_
        intro v W3 f kp ho hd K' hK
        have e59 : v 59 = .bool true := (hd 34 (by decide) _ _ rfl rfl).1
        have k0 := (b3.keep f (by simp)).cell (j := 0) rfl
        have k1 := (b3.keep f (by simp)).cell (j := 1) rfl
        have k2 := (b3.keep f (by simp)).cell (j := 2) rfl
        simp only [e59] at hK ⊢
        go_simp
        exact hK _ _ (Fr.refl [] _) rfl
      case s3_36 =>
        refine stepOk_of _ _ rfl rfl ?_
        intro v W3 f kp ho hd K' hK
        have e59 : v 59 = .bool true := (hd 34 (by decide) _ _ rfl rfl).1
        have k0 := (b4.keep f (by simp)).cell (j := 0) rfl
        have k1 := (b4.keep f (by simp)).cell (j := 1) rfl
        have k2 := (b4.keep f (by simp)).cell (j := 2) rfl
        simp only [e59] at hK ⊢
        go_simp
        exact hK _ _ (Fr.refl [] _) rfl
      case s3_37 =>
        refine stepOk_of _ _ rfl rfl ?_
        intro v W3 f kp ho hd K' hK
        have e60 : v 60 = .agg #[.bool ga, .slice pa na ca, .slice qa ma da] := (hd 35 (by decide) _ _ rfl rfl).1
        have e61 : v 61 = .agg #[.bool gb, .slice pb nb cb, .slice qb mb db] := (hd 36 (by decide) _ _ rfl rfl).1
        have e59 : v 59 = .bool true := (hd 34 (by decide) _ _ rfl rfl).1
        simp only [e60, e61, e59] at hK ⊢
        go_simp
        refine (sub_e Hq62.out (ht.kp kp) (h1.kp kp) (h2.kp kp) (by omega) (by omega)).mono ?_
        rintro e W' ⟨x, rfl, hx, ff⟩
        exact hK x W' ff hx
      case s3_38 =>
        refine stepOk_of _ _ rfl rfl ?_
        intro v W3 f kp ho hd K' hK
        have f62 : VQ W3 q62 (v 62) := (hd 37 (by decide) _ _ rfl rfl).1
        have e59 : v 59 = .bool true := (hd 34 (by decide) _ _ rfl rfl).1
        simp only [e59] at hK ⊢
        go_simp
        refine (sign_e Hz63.out (f62.raw l62) (by omega)).mono ?_
        rintro e W' ⟨rfl, ff⟩
        exact hK _ W' ff rfl
      case s3_39 =>
        refine stepOk_of _ _ rfl rfl ?_
        intro v W3 f kp ho hd K' hK
        have e59 : v 59 = .bool true := (hd 34 (by decide) _ _ rfl rfl).1
        simp only [e59] at hK ⊢
        go_simp
        exact hK _ _ (Fr.refl [] _) rfl
      case s3_40 =>
        refine stepOk_of _ _ rfl rfl ?_
        intro v W3 f kp ho hd K' hK
        have e63 : v 63 = .int .i64 z63 := (hd 38 (by decide) _ _ rfl rfl).1
        have e64 : v 64 = .int .i64 z24 := (hd 39 (by decide) _ _ rfl rfl).1
        have e59 : v 59 = .bool true := (hd 34 (by decide) _ _ rfl rfl).1
        simp only [e63, e64, e59] at hK ⊢
        go_simp
        exact hK _ _ (Fr.refl [] _) rfl
      case s3_41 =>
        refine stepOk_of _ _ rfl rfl ?_
        intro v W3 f kp ho hd K' hK
        have e59 : v 59 = .bool true := (hd 34 (by decide) _ _ rfl rfl).1
        have e65 : v 65 = .bool true := (hd 40 (by decide) _ _ rfl rfl).1
        simp only [e59, e65] at hK ⊢
        go_simp
        exact hK _ _ (Fr.refl [] _) rfl
      case s3_42 =>
        refine stepOk_of _ _ rfl rfl ?_
        intro v W3 f kp ho hd K' hK
        have e66 : v 66 = .bool true := (hd 41 (by decide) _ _ rfl rfl).1
        simp only [e66] at hK ⊢
        go_simp
        exact hK _ _ (Fr.refl [] _) rfl
      case done3 =>
        intro v W3 f kp hF hD
        have e25 : v 25 = .bool true := (hF 0 _ _ rfl rfl).1
        have e26 : v 26 = .bool true := (hF 1 _ _ rfl rfl).1
        have e27 : v 27 = .agg #[.bool gb, .slice pb nb cb, .slice qb mb db] := (hF 2 _ _ rfl rfl).1
        have e28 : v 28 = .agg #[.bool ga, .slice pa na ca, .slice qa ma da] := (hF 3 _ _ rfl rfl).1
        have e29 : v 29 = .int .i64 z29 := (hF 4 _ _ rfl rfl).1
        have e30 : v 30 = .int .i64 z24 := (hF 5 _ _ rfl rfl).1
        have e31 : v 31 = .int .i64 z29 := (hF 6 _ _ rfl rfl).1
        have e32 : v 32 = .bool true := (hF 7 _ _ rfl rfl).1
        have e33 : v 33 = .bool true := (hF 8 _ _ rfl rfl).1
        have e34 : v 34 = .bool true := (hF 9 _ _ rfl rfl).1
        have e35 : v 35 = .agg #[.bool ga, .slice pa na ca, .slice qa ma da] := (hF 10 _ _ rfl rfl).1
        have e36 : v 36 = .agg #[.bool gc, .slice pc nc cc, .slice qc mc dc] := (hF 11 _ _ rfl rfl).1
        have f37 : VQ W3 q37 (v 37) := (hF 12 _ _ rfl rfl).1
        have e38 : v 38 = .agg #[.bool gb, .slice pb nb cb, .slice qb mb db] := (hF 13 _ _ rfl rfl).1
        have e39 : v 39 = .agg #[.bool gc, .slice pc nc cc, .slice qc mc dc] := (hF 14 _ _ rfl rfl).1
        have f40 : VQ W3 q40 (v 40) := (hF 15 _ _ rfl rfl).1
        have e41 : v 41 = .int .i64 z41 := (hF 16 _ _ rfl rfl).1
        have e42 : v 42 = .int .i64 z24 := (hF 17 _ _ rfl rfl).1
        have e43 : v 43 = .bool true := (hF 18 _ _ rfl rfl).1
        have e44 : v 44 = .bool true := (hF 19 _ _ rfl rfl).1
        have e45 : v 45 = .bool true := (hF 20 _ _ rfl rfl).1
        have e46 : v 46 = .agg #[.bool ga, .slice pa na ca, .slice qa ma da] := (hF 21 _ _ rfl rfl).1
        have e47 : v 47 = .agg #[.bool gc, .slice pc nc cc, .slice qc mc dc] := (hF 22 _ _ rfl rfl).1
        have f48 : VQ W3 q48 (v 48) := (hF 23 _ _ rfl rfl).1
        have e49 : v 49 = .agg #[.bool gb, .slice pb nb cb, .slice qb mb db] := (hF 24 _ _ rfl rfl).1
        have e50 : v 50 = .agg #[.bool gc, .slice pc nc cc, .slice qc mc dc] := (hF 25 _ _ rfl rfl).1
        have f51 : VQ W3 q51 (v 51) := (hF 26 _ _ rfl rfl).1
        have e52 : v 52 = .int .i64 z52 := (hF 27 _ _ rfl rfl).1
        have e53 : v 53 = .int .i64 z24 := (hF 28 _ _ rfl rfl).1
        have e54 : v 54 = .agg #[.bool gc, .slice pc nc cc, .slice qc mc dc] := (hF 29 _ _ rfl rfl).1
        have e55 : v 55 = .int .i64 z55 := (hF 30 _ _ rfl rfl).1
        have e56 : v 56 = .int .i64 z52 := (hF 31 _ _ rfl rfl).1
        have e57 : v 57 = .bool true := (hF 32 _ _ rfl rfl).1
        have e58 : v 58 = .bool true := (hF 33 _ _ rfl rfl).1
        have e59 : v 59 = .bool true := (hF 34 _ _ rfl rfl).1
        have e60 : v 60 = .agg #[.bool ga, .slice pa na ca, .slice qa ma da] := (hF 35 _ _ rfl rfl).1
        have e61 : v 61 = .agg #[.bool gb, .slice pb nb cb, .slice qb mb db] := (hF 36 _ _ rfl rfl).1
        have f62 : VQ W3 q62 (v 62) := (hF 37 _ _ rfl rfl).1
        have e63 : v 63 = .int .i64 z63 := (hF 38 _ _ rfl rfl).1
        have e64 : v 64 = .int .i64 z24 := (hF 39 _ _ rfl rfl).1
        have e65 : v 65 = .bool true := (hF 40 _ _ rfl rfl).1
        have e66 : v 66 = .bool true := (hF 41 _ _ rfl rfl).1
        have e6 : v 6 = .bool true := (hF 42 _ _ rfl rfl).1
        clear hF hD
        simp only [e25, e26, e27, e28, e29, e30, e31, e32, e33, e34, e35, e36, e38, e39, e41, e42, e43, e44, e45, e46, e47, e49, e50, e52, e53, e54, e55, e56, e57, e58, e59, e60, e61, e63, e64, e65, e66, e6]
        replace b3 := b3.keep f (by simp)
        replace b4 := b4.keep f (by simp)
        replace b5 := b5.keep f (by simp)
        replace ht := ht.kp kp
        replace h1 := h1.kp kp
        replace h2 := h2.kp kp
        replace h3 := h3.kp kp
        replace hw := hw.trans (a := w) (b := W2) (c := W3) f (by simp)
        have hsz3 := f.size
        clear f kp
        go_wp2_with fail
        exact bodyPost_ret (v := .bool true) (by simp [results, Tryz.results8, go_sem]) rfl ⟨rfl, hw⟩

end Go.Proofs.YtjjdbhohjphcoaaGreatDoor
