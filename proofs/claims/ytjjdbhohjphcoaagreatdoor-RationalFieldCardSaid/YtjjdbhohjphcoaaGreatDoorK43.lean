/- What the statements of this claim stand on: of FldAny, what they name -/
import Derived.Test.YtjjdbhohjphcoaaGreatDoorK41
import Derived.Test.YtjjdbhohjphcoaaGreatDoorK42

namespace Go.Proofs.YtjjdbhohjphcoaaGreatDoor
open Go.RowKit

set_option maxRecDepth 100000 in
set_option maxHeartbeats 16000000 in
theorem field_big0 {w : World} (ht : Tab w) {ga : Bool} {pa : Option Addr} {na ca : Nat} {qa : Option Addr} {ma da : Nat} {gb : Bool} {pb : Option Addr} {nb cb : Nat} {qb : Option Addr} {mb db : Nat} {gc : Bool} {pc : Option Addr} {nc cc : Nat} {qc : Option Addr} {mc dc : Nat} (ba : (decide (na ≤ 4) && decide (ma ≤ 4)) = false) : Calls Tryz.prog 7 #[rw' ga pa na ca qa ma da, rw' gb pb nb cb qb mb db, rw' gc pc nc cc qc mc dc] w (RB true w) := by
  have Hba := Lib.hid ba; clear ba
  go_enter Tryz.func7, Tryz.ntmps7
  go_upto_region 1 with fail
  have hw : Fr [] w (((w.alloc (Obj.cells #[.bool ga, .slice pa na ca, .slice qa ma da] 26)).alloc (Obj.cells #[.bool gb, .slice pb nb cb, .slice qb mb db] 26)).alloc (Obj.cells #[.bool gc, .slice pc nc cc, .slice qc mc dc] 26)) := (((Fr.refl _ _).alloc _).alloc _).alloc _
  have b3 : Bx (((w.alloc (Obj.cells #[.bool ga, .slice pa na ca, .slice qa ma da] 26)).alloc (Obj.cells #[.bool gb, .slice pb nb cb, .slice qb mb db] 26)).alloc (Obj.cells #[.bool gc, .slice pc nc cc, .slice qc mc dc] 26)) w.heap.size 26 #[.bool ga, .slice pa na ca, .slice qa ma da] := (Bx.made' (by simp) _ _).kept (((Fr.refl _ _).alloc _).alloc _)
  have b4 : Bx (((w.alloc (Obj.cells #[.bool ga, .slice pa na ca, .slice qa ma da] 26)).alloc (Obj.cells #[.bool gb, .slice pb nb cb, .slice qb mb db] 26)).alloc (Obj.cells #[.bool gc, .slice pc nc cc, .slice qc mc dc] 26)) (w.heap.size + 1) 26 #[.bool gb, .slice pb nb cb, .slice qb mb db] := (Bx.made' (by simp) _ _).kept ((Fr.refl _ _).alloc _)
  have b5 : Bx (((w.alloc (Obj.cells #[.bool ga, .slice pa na ca, .slice qa ma da] 26)).alloc (Obj.cells #[.bool gb, .slice pb nb cb, .slice qb mb db] 26)).alloc (Obj.cells #[.bool gc, .slice pc nc cc, .slice qc mc dc] 26)) (w.heap.size + 2) 26 #[.bool gc, .slice pc nc cc, .slice qc mc dc] := (Bx.made' (by simp) _ _).kept (Fr.refl _ _)
  generalize (((w.alloc (Obj.cells #[.bool ga, .slice pa na ca, .slice qa ma da] 26)).alloc (Obj.cells #[.bool gb, .slice pb nb cb, .slice qb mb db] 26)).alloc (Obj.cells #[.bool gc, .slice pc nc cc, .slice qc mc dc] 26)) = W at *
  have hbs := b5.lt
  replace ht := ht.kept hw
  refine wp_region_inv (w0 := W) (by kernel_rfl) [true, true, true, false, false, false, false, false, false, true, true, true, true, true, true, true, true, true, true, true, true, true, false, false, false, false, false, false, false, false, false, false, false, false, false, false, false, false, false, false, false, false, false, false, false, false, false, false, false, false, false, false, false, false, false, false, false, false, false, false, false, false, false, false, false, false, false, false, false, false, false, false, false, false, false, false, false, false, false, false, false, false, false, false, false, false, false, false, false, false, false, false, false, false, false, false] []
    [⟨[9], F1 (fun xx _ => xx = .agg #[.bool ga, .slice pa na ca, .slice qa ma da]), .pure⟩,
    ⟨[10], F1 (fun xx _ => xx = .bool false), .pure⟩,
    ⟨[11], F1 (fun xx _ => xx = .bool true), .pure⟩,
    ⟨[12], F1 (fun xx _ => xx = .bool true), .pure⟩,
    ⟨[13], F1 (fun xx _ => xx = undef), .pure⟩,
    ⟨[14], F1 (fun xx _ => xx = undef), .pure⟩,
    ⟨[15], F1 (fun xx _ => xx = undef), .pure⟩,
    ⟨[16], F1 (fun xx _ => xx = .bool true), .pure⟩,
    ⟨[17], F1 (fun xx _ => xx = .bool true), .pure⟩,
    ⟨[18], F1 (fun xx _ => xx = undef), .pure⟩,
    ⟨[19], F1 (fun xx _ => xx = undef), .pure⟩,
    ⟨[20], F1 (fun xx _ => xx = undef), .pure⟩,
    ⟨[21], F1 (fun xx _ => xx = .bool true), .pure⟩]
    [[], [0], [0, 1], [0, 1, 2], [0, 1, 2, 3], [0, 1, 2, 3, 4], [0, 1, 2, 3, 4, 5], [0, 1, 2, 3, 4, 5, 6], [0, 1, 2, 3, 4, 5, 6, 7], [0, 1, 2, 3, 4, 5, 6, 7, 8], [0, 1, 2, 3, 4, 5, 6, 7, 8, 9], [0, 1, 2, 3, 4, 5, 6, 7, 8, 9, 10], [0, 1, 2, 3, 4, 5, 6, 7, 8, 9, 10, 11]] ?mk1 ?hmk1 (by kernel_rfl)
    ⟨F1.st (st_eq _), F1.st (st_eq _), F1.st (st_eq _), F1.st (st_eq _), F1.st (st_eq _), F1.st (st_eq _), F1.st (st_eq _), F1.st (st_eq _), F1.st (st_eq _), F1.st (st_eq _), F1.st (st_eq _), F1.st (st_eq _), F1.st (st_eq _), trivial⟩ (by simp) (by simp) (n := 13) rfl ⟨⟨⟨⟨⟨⟨⟨⟨⟨⟨⟨⟨⟨trivial, ?s1_0⟩, ?s1_1⟩, ?s1_2⟩, ?s1_3⟩, ?s1_4⟩, ?s1_5⟩, ?s1_6⟩, ?s1_7⟩, ?s1_8⟩, ?s1_9⟩, ?s1_10⟩, ?s1_11⟩, ?s1_12⟩ ?done1
  case hmk1 => intro v; simp only [mkv, mix, Nat.reduceAdd]; rfl
  case s1_0 =>
    refine stepOk_of _ _ rfl rfl ?_
    intro v W1 f kp ho hd K' hK
    have k0 := (b3.keep f (by simp)).cell (j := 0) rfl
    have k1 := (b3.keep f (by simp)).cell (j := 1) rfl
    have k2 := (b3.keep f (by simp)).cell (j := 2) rfl
    go_simp
    exact hK _ _ (Fr.refl [] _) rfl
  case s1_1 =>
    refine stepOk_of _ _ rfl rfl ?_
    intro v W1 f kp ho hd K' hK
    have e9 : v 9 = .agg #[.bool ga, .slice pa na ca, .slice qa ma da] := (hd 0 (by decide) _ _ rfl rfl).1
    simp only [e9] at hK ⊢
    go_simp
    refine (smallrat_e Hba.out _).mono ?_
    rintro e W' ⟨rfl, ff⟩
    exact hK _ W' ff rfl
  case s1_2 =>
    refine stepOk_of _ _ rfl rfl ?_
    intro v W1 f kp ho hd K' hK
    have e10 : v 10 = .bool false := (hd 1 (by decide) _ _ rfl rfl).1
    simp only [e10] at hK ⊢
    go_simp
    exact hK _ _ (Fr.refl [] _) rfl
  case s1_3 =>
    refine stepOk_of _ _ rfl rfl ?_
    intro v W1 f kp ho hd K' hK
    have e11 : v 11 = .bool true := (hd 2 (by decide) _ _ rfl rfl).1
    simp only [e11] at hK ⊢
    go_simp
    exact hK _ _ (Fr.refl [] _) rfl
  case s1_4 =>
    refine stepOk_of _ _ rfl rfl ?_
    intro v W1 f kp ho hd K' hK
    have e12 : v 12 = .bool true := (hd 3 (by decide) _ _ rfl rfl).1
    simp only [e12] at hK ⊢
    go_simp
    exact hK _ _ (Fr.refl [] _) rfl
  case s1_5 =>
    refine stepOk_of _ _ rfl rfl ?_
    intro v W1 f kp ho hd K' hK
    have e13 : v 13 = undef := (hd 4 (by decide) _ _ rfl rfl).1
    have e12 : v 12 = .bool true := (hd 3 (by decide) _ _ rfl rfl).1
    simp only [e13, e12] at hK ⊢
    go_simp
    exact hK _ _ (Fr.refl [] _) rfl
  case s1_6 =>
    refine stepOk_of _ _ rfl rfl ?_
    intro v W1 f kp ho hd K' hK
    have e14 : v 14 = undef := (hd 5 (by decide) _ _ rfl rfl).1
    have e12 : v 12 = .bool true := (hd 3 (by decide) _ _ rfl rfl).1
    simp only [e14, e12] at hK ⊢
    go_simp
    exact hK _ _ (Fr.refl [] _) rfl
  case s1_7 =>
    refine stepOk_of _ _ rfl rfl ?_
    intro v W1 f kp ho hd K' hK
    have e12 : v 12 = .bool true := (hd 3 (by decide) _ _ rfl rfl).1
    have e15 : v 15 = undef := (hd 6 (by decide) _ _ rfl rfl).1
    simp only [e12, e15] at hK ⊢
    go_simp
    exact hK _ _ (Fr.refl [] _) rfl
  case s1_8 =>
    refine stepOk_of _ _ rfl rfl ?_
    intro v W1 f kp ho hd K' hK
    have e16 : v 16 = .bool true := (hd 7 (by decide) _ _ rfl rfl).1
    simp only [e16] at hK ⊢
    go_simp
    exact hK _ _ (Fr.refl [] _) rfl
  case s1_9 =>
    refine stepOk_of _ _ rfl rfl ?_
    intro v W1 f kp ho hd K' hK
    have e17 : v 17 = .bool true := (hd 8 (by decide) _ _ rfl rfl).1
    simp only [e17] at hK ⊢
    go_simp
    exact hK _ _ (Fr.refl [] _) rfl
  case s1_10 =>
    refine stepOk_of _ _ rfl rfl ?_
    intro v W1 f kp ho hd K' hK
    have e18 : v 18 = undef := (hd 9 (by decide) _ _ rfl rfl).1
    have e17 : v 17 = .bool true := (hd 8 (by decide) _ _ rfl rfl).1
    simp only [e18, e17] at hK ⊢
    go_simp
    exact hK _ _ (Fr.refl [] _) rfl
  case s1_11 =>
    refine stepOk_of _ _ rfl rfl ?_
    intro v W1 f kp ho hd K' hK
    have e19 : v 19 = undef := (hd 10 (by decide) _ _ rfl rfl).1
    have e17 : v 17 = .bool true := (hd 8 (by decide) _ _ rfl rfl).1
    simp only [e19, e17] at hK ⊢
    go_simp
    exact hK _ _ (Fr.refl [] _) rfl
  case s1_12 =>
    refine stepOk_of _ _ rfl rfl ?_
    intro v W1 f kp ho hd K' hK
    have e17 : v 17 = .bool true := (hd 8 (by decide) _ _ rfl rfl).1
    have e20 : v 20 = undef := (hd 11 (by decide) _ _ rfl rfl).1
    simp only [e17, e20] at hK ⊢
    go_simp
    exact hK _ _ (Fr.refl [] _) rfl
  case done1 =>
    intro v W1 f kp hF hD
    have e9 : v 9 = .agg #[.bool ga, .slice pa na ca, .slice qa ma da] := (hF 0 _ _ rfl rfl).1
    have e10 : v 10 = .bool false := (hF 1 _ _ rfl rfl).1
    have e11 : v 11 = .bool true := (hF 2 _ _ rfl rfl).1
    have e12 : v 12 = .bool true := (hF 3 _ _ rfl rfl).1
    have e13 : v 13 = undef := (hF 4 _ _ rfl rfl).1
    have e14 : v 14 = undef := (hF 5 _ _ rfl rfl).1
    have e15 : v 15 = undef := (hF 6 _ _ rfl rfl).1
    have e16 : v 16 = .bool true := (hF 7 _ _ rfl rfl).1
    have e17 : v 17 = .bool true := (hF 8 _ _ rfl rfl).1
    have e18 : v 18 = undef := (hF 9 _ _ rfl rfl).1
    have e19 : v 19 = undef := (hF 10 _ _ rfl rfl).1
    have e20 : v 20 = undef := (hF 11 _ _ rfl rfl).1
    have e21 : v 21 = .bool true := (hF 12 _ _ rfl rfl).1
    clear hF hD
    simp only [e9, e10, e11, e12, e13, e14, e15, e16, e17, e18, e19, e20, e21]
    replace b3 := b3.keep f (by simp)
    replace b4 := b4.keep f (by simp)
    replace b5 := b5.keep f (by simp)
    replace ht := ht.kp kp
    replace hw := hw.trans (a := w) (b := W) (c := W1) f (by simp)
    have hsz1 := f.size
    clear f kp
    have c_b3_0 := b3.cell (j := 0) rfl
    have c_b3_1 := b3.cell (j := 1) rfl
    have c_b3_2 := b3.cell (j := 2) rfl
    have c_b4_0 := b4.cell (j := 0) rfl
    have c_b4_1 := b4.cell (j := 1) rfl
    have c_b4_2 := b4.cell (j := 2) rfl
    have c_b5_0 := b5.cell (j := 0) rfl
    have c_b5_1 := b5.cell (j := 1) rfl
    have c_b5_2 := b5.cell (j := 2) rfl
    go_upto_region 2 with fail
    clear c_b3_0 c_b3_1 c_b3_2 c_b4_0 c_b4_1 c_b4_2 c_b5_0 c_b5_1 c_b5_2
    refine wp_region_inv (w0 := W1) (by kernel_rfl) [true, true, true, false, false, false, true, false, false, true, true, true, true, true, true, true, true, true, true, true, true, true, true, false, false, false, false, false, false, false, false, false, false, false, false, false, false, false, false, false, false, false, false, false, false, false, false, false, false, false, false, false, false, false, false, false, false, false, false, false, false, false, false, false, false, false, false, false, false, false, false, false, false, false, false, false, false, false, false, false, false, false, false, false, false, false, false, false, false, false, false, false, false, false, false, false] []
      [⟨[22], F1 (fun xx _ => xx = .bool true), .pure⟩,
    ⟨[6], F1 (fun xx _ => xx = .bool true), .pure⟩]
      [[], [0]] ?mk2 ?hmk2 (by kernel_rfl)
      ⟨F1.st (st_eq _), F1.st (st_eq _), trivial⟩ (by simp) (by simp) (n := 2) rfl ⟨⟨trivial, ?s2_0⟩, ?s2_1⟩ ?done2
    case hmk2 => intro v; simp only [mkv, mix, Nat.reduceAdd]; rfl
    case s2_0 =>
      refine stepOk_of _ _ rfl rfl ?_
      intro v W2 f kp ho hd K' hK
      go_simp
      refine (awake3_any _ (ht.kp kp)).mono ?_
      rintro e W' ⟨rfl, ff⟩
      exact hK _ W' ff rfl
    case s2_1 =>
      refine stepOk_of _ _ rfl rfl ?_
      intro v W2 f kp ho hd K' hK
      have e22 : v 22 = .bool true := (hd 0 (by decide) _ _ rfl rfl).1
      simp only [e22] at hK ⊢
      go_simp
      exact hK _ _ (Fr.refl [] _) rfl
    case done2 =>
      intro v W2 f kp hF hD
      have e22 : v 22 = .bool true := (hF 0 _ _ rfl rfl).1
      have e6 : v 6 = .bool true := (hF 1 _ _ rfl rfl).1
      clear hF hD
      simp only [e22, e6]
      replace b3 := b3.keep f (by simp)
      replace b4 := b4.keep f (by simp)
      replace b5 := b5.keep f (by simp)
      replace ht := ht.kp kp
      replace hw := hw.trans (a := w) (b := W1) (c := W2) f (by simp)
      have hsz2 := f.size
      clear f kp
      go_wp2_with fail
      exact bodyPost_ret (v := .bool true) (by simp [results, Tryz.results7, go_sem]) rfl ⟨rfl, hw⟩

set_option maxRecDepth 100000 in
set_option maxHeartbeats 16000000 in
theorem field_big1 {w : World} (ht : Tab w) {ga : Bool} {pa : Option Addr} {na ca : Nat} {qa : Option Addr} {ma da : Nat} {gb : Bool} {pb : Option Addr} {nb cb : Nat} {qb : Option Addr} {mb db : Nat} {gc : Bool} {pc : Option Addr} {nc cc : Nat} {qc : Option Addr} {mc dc : Nat} (ba : (decide (na ≤ 4) && decide (ma ≤ 4)) = true) (bb : (decide (nb ≤ 4) && decide (mb ≤ 4)) = false) : Calls Tryz.prog 7 #[rw' ga pa na ca qa ma da, rw' gb pb nb cb qb mb db, rw' gc pc nc cc qc mc dc] w (RB true w) := by
  have Hba := Lib.hid ba; clear ba
  have Hbb := Lib.hid bb; clear bb
  go_enter Tryz.func7, Tryz.ntmps7
  go_upto_region 1 with fail
  have hw : Fr [] w (((w.alloc (Obj.cells #[.bool ga, .slice pa na ca, .slice qa ma da] 26)).alloc (Obj.cells #[.bool gb, .slice pb nb cb, .slice qb mb db] 26)).alloc (Obj.cells #[.bool gc, .slice pc nc cc, .slice qc mc dc] 26)) := (((Fr.refl _ _).alloc _).alloc _).alloc _
  have b3 : Bx (((w.alloc (Obj.cells #[.bool ga, .slice pa na ca, .slice qa ma da] 26)).alloc (Obj.cells #[.bool gb, .slice pb nb cb, .slice qb mb db] 26)).alloc (Obj.cells #[.bool gc, .slice pc nc cc, .slice qc mc dc] 26)) w.heap.size 26 #[.bool ga, .slice pa na ca, .slice qa ma da] := (Bx.made' (by simp) _ _).kept (((Fr.refl _ _).alloc _).alloc _)
  have b4 : Bx (((w.alloc (Obj.cells #[.bool ga, .slice pa na ca, .slice qa ma da] 26)).alloc (Obj.cells #[.bool gb, .slice pb nb cb, .slice qb mb db] 26)).alloc (Obj.cells #[.bool gc, .slice pc nc cc, .slice qc mc dc] 26)) (w.heap.size + 1) 26 #[.bool gb, .slice pb nb cb, .slice qb mb db] := (Bx.made' (by simp) _ _).kept ((Fr.refl _ _).alloc _)
  have b5 : Bx (((w.alloc (Obj.cells #[.bool ga, .slice pa na ca, .slice qa ma da] 26)).alloc (Obj.cells #[.bool gb, .slice pb nb cb, .slice qb mb db] 26)).alloc (Obj.cells #[.bool gc, .slice pc nc cc, .slice qc mc dc] 26)) (w.heap.size + 2) 26 #[.bool gc, .slice pc nc cc, .slice qc mc dc] := (Bx.made' (by simp) _ _).kept (Fr.refl _ _)
  generalize (((w.alloc (Obj.cells #[.bool ga, .slice pa na ca, .slice qa ma da] 26)).alloc (Obj.cells #[.bool gb, .slice pb nb cb, .slice qb mb db] 26)).alloc (Obj.cells #[.bool gc, .slice pc nc cc, .slice qc mc dc] 26)) = W at *
  have hbs := b5.lt
  replace ht := ht.kept hw
  refine wp_region_inv (w0 := W) (by kernel_rfl) [true, true, true, false, false, false, false, false, false, true, true, true, true, true, true, true, true, true, true, true, true, true, false, false, false, false, false, false, false, false, false, false, false, false, false, false, false, false, false, false, false, false, false, false, false, false, false, false, false, false, false, false, false, false, false, false, false, false, false, false, false, false, false, false, false, false, false, false, false, false, false, false, false, false, false, false, false, false, false, false, false, false, false, false, false, false, false, false, false, false, false, false, false, false, false, false] []
    [⟨[9], F1 (fun xx _ => xx = .agg #[.bool ga, .slice pa na ca, .slice qa ma da]), .pure⟩,
    ⟨[10], F1 (fun xx _ => xx = .bool true), .pure⟩,
    ⟨[11], F1 (fun xx _ => xx = .bool false), .pure⟩,
    ⟨[12], F1 (fun xx _ => xx = .bool false), .pure⟩,
    ⟨[13], F1 (fun xx _ => xx = .agg #[.bool gb, .slice pb nb cb, .slice qb mb db]), .pure⟩,
    ⟨[14], F1 (fun xx _ => xx = .bool false), .pure⟩,
    ⟨[15], F1 (fun xx _ => xx = .bool true), .pure⟩,
    ⟨[16], F1 (fun xx _ => xx = .bool true), .pure⟩,
    ⟨[17], F1 (fun xx _ => xx = .bool true), .pure⟩,
    ⟨[18], F1 (fun xx _ => xx = undef), .pure⟩,
    ⟨[19], F1 (fun xx _ => xx = undef), .pure⟩,
    ⟨[20], F1 (fun xx _ => xx = undef), .pure⟩,
    ⟨[21], F1 (fun xx _ => xx = .bool true), .pure⟩]
    [[], [0], [0, 1], [0, 1, 2], [0, 1, 2, 3], [0, 1, 2, 3, 4], [0, 1, 2, 3, 4, 5], [0, 1, 2, 3, 4, 5, 6], [0, 1, 2, 3, 4, 5, 6, 7], [0, 1, 2, 3, 4, 5, 6, 7, 8], [0, 1, 2, 3, 4, 5, 6, 7, 8, 9], [0, 1, 2, 3, 4, 5, 6, 7, 8, 9, 10], [0, 1, 2, 3, 4, 5, 6, 7, 8, 9, 10, 11]] ?mk1 ?hmk1 (by kernel_rfl)
    ⟨F1.st (st_eq _), F1.st (st_eq _), F1.st (st_eq _), F1.st (st_eq _), F1.st (st_eq _), F1.st (st_eq _), F1.st (st_eq _), F1.st (st_eq _), F1.st (st_eq _), F1.st (st_eq _), F1.st (st_eq _), F1.st (st_eq _), F1.st (st_eq _), trivial⟩ (by simp) (by simp) (n := 13) rfl ⟨⟨⟨⟨⟨⟨⟨⟨⟨⟨⟨⟨⟨trivial, ?s1_0⟩, ?s1_1⟩, ?s1_2⟩, ?s1_3⟩, ?s1_4⟩, ?s1_5⟩, ?s1_6⟩, ?s1_7⟩, ?s1_8⟩, ?s1_9⟩, ?s1_10⟩, ?s1_11⟩, ?s1_12⟩ ?done1
  case hmk1 => intro v; simp only [mkv, mix, Nat.reduceAdd]; rfl
  case s1_0 =>
    refine stepOk_of _ _ rfl rfl ?_
    intro v W1 f kp ho hd K' hK
    have k0 := (b3.keep f (by simp)).cell (j := 0) rfl
    have k1 := (b3.keep f (by simp)).cell (j := 1) rfl
    have k2 := (b3.keep f (by simp)).cell (j := 2) rfl
    go_simp
    exact hK _ _ (Fr.refl [] _) rfl
  case s1_1 =>
    refine stepOk_of _ _ rfl rfl ?_
    intro v W1 f kp ho hd K' hK
    have e9 : v 9 = .agg #[.bool ga, .slice pa na ca, .slice qa ma da] := (hd 0 (by decide) _ _ rfl rfl).1
    simp only [e9] at hK ⊢
    go_simp
    refine (smallrat_e Hba.out _).mono ?_
    rintro e W' ⟨rfl, ff⟩
    exact hK _ W' ff rfl
  case s1_2 =>
    refine stepOk_of _ _ rfl rfl ?_
    intro v W1 f kp ho hd K' hK
    have e10 : v 10 = .bool true := (hd 1 (by decide) _ _ rfl rfl).1
    simp only [e10] at hK ⊢
    go_simp
    exact hK _ _ (Fr.refl [] _) rfl
  case s1_3 =>
    refine stepOk_of _ _ rfl rfl ?_
    intro v W1 f kp ho hd K' hK
    have e11 : v 11 = .bool false := (hd 2 (by decide) _ _ rfl rfl).1
    simp only [e11] at hK ⊢
    go_simp
    exact hK _ _ (Fr.refl [] _) rfl
  case s1_4 =>
    refine stepOk_of _ _ rfl rfl ?_
    intro v W1 f kp ho hd K' hK
    have e12 : v 12 = .bool false := (hd 3 (by decide) _ _ rfl rfl).1
    have k0 := (b4.keep f (by simp)).cell (j := 0) rfl
    have k1 := (b4.keep f (by simp)).cell (j := 1) rfl
    have k2 := (b4.keep f (by simp)).cell (j := 2) rfl
    simp only [e12] at hK ⊢
    go_simp
    exact hK _ _ (Fr.refl [] _) rfl
  case s1_5 =>
    refine stepOk_of _ _ rfl rfl ?_
    intro v W1 f kp ho hd K' hK
    have e13 : v 13 = .agg #[.bool gb, .slice pb nb cb, .slice qb mb db] := (hd 4 (by decide) _ _ rfl rfl).1
    have e12 : v 12 = .bool false := (hd 3 (by decide) _ _ rfl rfl).1
    simp only [e13, e12] at hK ⊢
    go_simp
    refine (smallrat_e Hbb.out _).mono ?_
    rintro e W' ⟨rfl, ff⟩
    exact hK _ W' ff rfl
  case s1_6 =>
    refine stepOk_of _ _ rfl rfl ?_
    intro v W1 f kp ho hd K' hK
    have e14 : v 14 = .bool false := (hd 5 (by decide) _ _ rfl rfl).1
    have e12 : v 12 = .bool false := (hd 3 (by decide) _ _ rfl rfl).1
    simp only [e14, e12] at hK ⊢
    go_simp
    exact hK _ _ (Fr.refl [] _) rfl
  case s1_7 =>
    refine stepOk_of _ _ rfl rfl ?_
    intro v W1 f kp ho hd K' hK
    have e12 : v 12 = .bool false := (hd 3 (by decide) _ _ rfl rfl).1
    have e15 : v 15 = .bool true := (hd 6 (by decide) _ _ rfl rfl).1
    simp only [e12, e15] at hK ⊢
    go_simp
    exact hK _ _ (Fr.refl [] _) rfl
  case s1_8 =>
    refine stepOk_of _ _ rfl rfl ?_
    intro v W1 f kp ho hd K' hK
    have e16 : v 16 = .bool true := (hd 7 (by decide) _ _ rfl rfl).1
    simp only [e16] at hK ⊢
    go_simp
    exact hK _ _ (Fr.refl [] _) rfl
  case s1_9 =>
    refine stepOk_of _ _ rfl rfl ?_
    intro v W1 f kp ho hd K' hK
    have e17 : v 17 = .bool true := (hd 8 (by decide) _ _ rfl rfl).1
    simp only [e17] at hK ⊢
    go_simp
    exact hK _ _ (Fr.refl [] _) rfl
  case s1_10 =>
    refine stepOk_of _ _ rfl rfl ?_
    intro v W1 f kp ho hd K' hK
    have e18 : v 18 = undef := (hd 9 (by decide) _ _ rfl rfl).1
    have e17 : v 17 = .bool true := (hd 8 (by decide) _ _ rfl rfl).1
    simp only [e18, e17] at hK ⊢
    go_simp
    exact hK _ _ (Fr.refl [] _) rfl
  case s1_11 =>
    refine stepOk_of _ _ rfl rfl ?_
    intro v W1 f kp ho hd K' hK
    have e19 : v 19 = undef := (hd 10 (by decide) _ _ rfl rfl).1
    have e17 : v 17 = .bool true := (hd 8 (by decide) _ _ rfl rfl).1
    simp only [e19, e17] at hK ⊢
    go_simp
    exact hK _ _ (Fr.refl [] _) rfl
  case s1_12 =>
    refine stepOk_of _ _ rfl rfl ?_
    intro v W1 f kp ho hd K' hK
    have e17 : v 17 = .bool true := (hd 8 (by decide) _ _ rfl rfl).1
    have e20 : v 20 = undef := (hd 11 (by decide) _ _ rfl rfl).1
    simp only [e17, e20] at hK ⊢
    go_simp
    exact hK _ _ (Fr.refl [] _) rfl
  case done1 =>
    intro v W1 f kp hF hD
    have e9 : v 9 = .agg #[.bool ga, .slice pa na ca, .slice qa ma da] := (hF 0 _ _ rfl rfl).1
    have e10 : v 10 = .bool true := (hF 1 _ _ rfl rfl).1
    have e11 : v 11 = .bool false := (hF 2 _ _ rfl rfl).1
    have e12 : v 12 = .bool false := (hF 3 _ _ rfl rfl).1
    have e13 : v 13 = .agg #[.bool gb, .slice pb nb cb, .slice qb mb db] := (hF 4 _ _ rfl rfl).1
    have e14 : v 14 = .bool false := (hF 5 _ _ rfl rfl).1
    have e15 : v 15 = .bool true := (hF 6 _ _ rfl rfl).1
    have e16 : v 16 = .bool true := (hF 7 _ _ rfl rfl).1
    have e17 : v 17 = .bool true := (hF 8 _ _ rfl rfl).1
    have e18 : v 18 = undef := (hF 9 _ _ rfl rfl).1
    have e19 : v 19 = undef := (hF 10 _ _ rfl rfl).1
    have e20 : v 20 = undef := (hF 11 _ _ rfl rfl).1
    have e21 : v 21 = .bool true := (hF 12 _ _ rfl rfl).1
    clear hF hD
    simp only [e9, e10, e11, e12, e13, e14, e15, e16, e17, e18, e19, e20, e21]
    replace b3 := b3.keep f (by simp)
    replace b4 := b4.keep f (by simp)
    replace b5 := b5.keep f (by simp)
    replace ht := ht.kp kp
    replace hw := hw.trans (a := w) (b := W) (c := W1) f (by simp)
    have hsz1 := f.size
    clear f kp
    have c_b3_0 := b3.cell (j := 0) rfl
    have c_b3_1 := b3.cell (j := 1) rfl
    have c_b3_2 := b3.cell (j := 2) rfl
    have c_b4_0 := b4.cell (j := 0) rfl
    have c_b4_1 := b4.cell (j := 1) rfl
    have c_b4_2 := b4.cell (j := 2) rfl
    have c_b5_0 := b5.cell (j := 0) rfl
    have c_b5_1 := b5.cell (j := 1) rfl
    have c_b5_2 := b5.cell (j := 2) rfl
    go_upto_region 2 with fail
    clear c_b3_0 c_b3_1 c_b3_2 c_b4_0 c_b4_1 c_b4_2 c_b5_0 c_b5_1 c_b5_2
    refine wp_region_inv (w0 := W1) (by kernel_rfl) [true, true, true, false, false, false, true, false, false, true, true, true, true, true, true, true, true, true, true, true, true, true, true, false, false, false, false, false, false, false, false, false, false, false, false, false, false, false, false, false, false, false, false, false, false, false, false, false, false, false, false, false, false, false, false, false, false, false, false, false, false, false, false, false, false, false, false, false, false, false, false, false, false, false, false, false, false, false, false, false, false, false, false, false, false, false, false, false, false, false, false, false, false, false, false, false] []
      [⟨[22], F1 (fun xx _ => xx = .bool true), .pure⟩,
    ⟨[6], F1 (fun xx _ => xx = .bool true), .pure⟩]
      [[], [0]] ?mk2 ?hmk2 (by kernel_rfl)
      ⟨F1.st (st_eq _), F1.st (st_eq _), trivial⟩ (by simp) (by simp) (n := 2) rfl ⟨⟨trivial, ?s2_0⟩, ?s2_1⟩ ?done2
    case hmk2 => intro v; simp only [mkv, mix, Nat.reduceAdd]; rfl
    case s2_0 =>
      refine stepOk_of _ _ rfl rfl ?_
      intro v W2 f kp ho hd K' hK
      go_simp
      refine (awake3_any _ (ht.kp kp)).mono ?_
      rintro e W' ⟨rfl, ff⟩
      exact hK _ W' ff rfl
    case s2_1 =>
      refine stepOk_of _ _ rfl rfl ?_
      intro v W2 f kp ho hd K' hK
      have e22 : v 22 = .bool true := (hd 0 (by decide) _ _ rfl rfl).1
      simp only [e22] at hK ⊢
      go_simp
      exact hK _ _ (Fr.refl [] _) rfl
    case done2 =>
      intro v W2 f kp hF hD
      have e22 : v 22 = .bool true := (hF 0 _ _ rfl rfl).1
      have e6 : v 6 = .bool true := (hF 1 _ _ rfl rfl).1
      clear hF hD
      simp only [e22, e6]
      replace b3 := b3.keep f (by simp)
      replace b4 := b4.keep f (by simp)
      replace b5 := b5.keep f (by simp)
      replace ht := ht.kp kp
      replace hw := hw.trans (a := w) (b := W1) (c := W2) f (by simp)
      have hsz2 := f.size
      clear f kp
      go_wp2_with fail
      exact bodyPost_ret (v := .bool true) (by simp [results, Tryz.results7, go_sem]) rfl ⟨rfl, hw⟩

set_option maxRecDepth 100000 in
set_option maxHeartbeats 16000000 in
theorem field_big2 {w : World} (ht : Tab w) {ga : Bool} {pa : Option Addr} {na ca : Nat} {qa : Option Addr} {ma da : Nat} {gb : Bool} {pb : Option Addr} {nb cb : Nat} {qb : Option Addr} {mb db : Nat} {gc : Bool} {pc : Option Addr} {nc cc : Nat} {qc : Option Addr} {mc dc : Nat} (ba : (decide (na ≤ 4) && decide (ma ≤ 4)) = true) (bb : (decide (nb ≤ 4) && decide (mb ≤ 4)) = true) (bc : (decide (nc ≤ 4) && decide (mc ≤ 4)) = false) : Calls Tryz.prog 7 #[rw' ga pa na ca qa ma da, rw' gb pb nb cb qb mb db, rw' gc pc nc cc qc mc dc] w (RB true w) := by
  have Hba := Lib.hid ba; clear ba
  have Hbb := Lib.hid bb; clear bb
  have Hbc := Lib.hid bc; clear bc
  go_enter Tryz.func7, Tryz.ntmps7
  go_upto_region 1 with fail
  have hw : Fr [] w (((w.alloc (Obj.cells #[.bool ga, .slice pa na ca, .slice qa ma da] 26)).alloc (Obj.cells #[.bool gb, .slice pb nb cb, .slice qb mb db] 26)).alloc (Obj.cells #[.bool gc, .slice pc nc cc, .slice qc mc dc] 26)) := (((Fr.refl _ _).alloc _).alloc _).alloc _
  have b3 : Bx (((w.alloc (Obj.cells #[.bool ga, .slice pa na ca, .slice qa ma da] 26)).alloc (Obj.cells #[.bool gb, .slice pb nb cb, .slice qb mb db] 26)).alloc (Obj.cells #[.bool gc, .slice pc nc cc, .slice qc mc dc] 26)) w.heap.size 26 #[.bool ga, .slice pa na ca, .slice qa ma da] := (Bx.made' (by simp) _ _).kept (((Fr.refl _ _).alloc _).alloc _)
  have b4 : Bx (((w.alloc (Obj.cells #[.bool ga, .slice pa na ca, .slice qa ma da] 26)).alloc (Obj.cells #[.bool gb, .slice pb nb cb, .slice qb mb db] 26)).alloc (Obj.cells #[.bool gc, .slice pc nc cc, .slice qc mc dc] 26)) (w.heap.size + 1) 26 #[.bool gb, .slice pb nb cb, .slice qb mb db] := (Bx.made' (by simp) _ _).kept ((Fr.refl _ _).alloc _)
  have b5 : Bx (((w.alloc (Obj.cells #[.bool ga, .slice pa na ca, .slice qa ma da] 26)).alloc (Obj.cells #[.bool gb, .slice pb nb cb, .slice qb mb db] 26)).alloc (Obj.cells #[.bool gc, .slice pc nc cc, .slice qc mc dc] 26)) (w.heap.size + 2) 26 #[.bool gc, .slice pc nc cc, .slice qc mc dc] := (Bx.made' (by simp) _ _).kept (Fr.refl _ _)
  generalize (((w.alloc (Obj.cells #[.bool ga, .slice pa na ca, .slice qa ma da] 26)).alloc (Obj.cells #[.bool gb, .slice pb nb cb, .slice qb mb db] 26)).alloc (Obj.cells #[.bool gc, .slice pc nc cc, .slice qc mc dc] 26)) = W at *
  have hbs := b5.lt
  replace ht := ht.kept hw
  refine wp_region_inv (w0 := W) (by kernel_rfl) [true, true, true, false, false, false, false, false, false, true, true, true, true, true, true, true, true, true, true, true, true, true, false, false, false, false, false, false, false, false, false, false, false, false, false, false, false, false, false, false, false, false, false, false, false, false, false, false, false, false, false, false, false, false, false, false, false, false, false, false, false, false, false, false, false, false, false, false, false, false, false, false, false, false, false, false, false, false, false, false, false, false, false, false, false, false, false, false, false, false, false, false, false, false, false, false] []
    [⟨[9], F1 (fun xx _ => xx = .agg #[.bool ga, .slice pa na ca, .slice qa ma da]), .pure⟩,
    ⟨[10], F1 (fun xx _ => xx = .bool true), .pure⟩,
    ⟨[11], F1 (fun xx _ => xx = .bool false), .pure⟩,
    ⟨[12], F1 (fun xx _ => xx = .bool false), .pure⟩,
    ⟨[13], F1 (fun xx _ => xx = .agg #[.bool gb, .slice pb nb cb, .slice qb mb db]), .pure⟩,
    ⟨[14], F1 (fun xx _ => xx = .bool true), .pure⟩,
    ⟨[15], F1 (fun xx _ => xx = .bool false), .pure⟩,
    ⟨[16], F1 (fun xx _ => xx = .bool false), .pure⟩,
    ⟨[17], F1 (fun xx _ => xx = .bool false), .pure⟩,
    ⟨[18], F1 (fun xx _ => xx = .agg #[.bool gc, .slice pc nc cc, .slice qc mc dc]), .pure⟩,
    ⟨[19], F1 (fun xx _ => xx = .bool false), .pure⟩,
    ⟨[20], F1 (fun xx _ => xx = .bool true), .pure⟩,
    ⟨[21], F1 (fun xx _ => xx = .bool true), .pure⟩]
    [[], [0], [0, 1], [0, 1, 2], [0, 1, 2, 3], [0, 1, 2, 3, 4], [0, 1, 2, 3, 4, 5], [0, 1, 2, 3, 4, 5, 6], [0, 1, 2, 3, 4, 5, 6, 7], [0, 1, 2, 3, 4, 5, 6, 7, 8], [0, 1, 2, 3, 4, 5, 6, 7, 8, 9], [0, 1, 2, 3, 4, 5, 6, 7, 8, 9, 10], [0, 1, 2, 3, 4, 5, 6, 7, 8, 9, 10, 11]] ?mk1 ?hmk1 (by kernel_rfl)
    ⟨F1.st (st_eq _), F1.st (st_eq _), F1.st (st_eq _), F1.st (st_eq _), F1.st (st_eq _), F1.st (st_eq _), F1.st (st_eq _), F1.st (st_eq _), F1.st (st_eq _), F1.st (st_eq _), F1.st (st_eq _), F1.st (st_eq _), F1.st (st_eq _), trivial⟩ (by simp) (by simp) (n := 13) rfl ⟨⟨⟨⟨⟨⟨⟨⟨⟨⟨⟨⟨⟨trivial, ?s1_0⟩, ?s1_1⟩, ?s1_2⟩, ?s1_3⟩, ?s1_4⟩, ?s1_5⟩, ?s1_6⟩, ?s1_7⟩, ?s1_8⟩, ?s1_9⟩, ?s1_10⟩, ?s1_11⟩, ?s1_12⟩ ?done1
  case hmk1 => intro v; simp only [mkv, mix, Nat.reduceAdd]; rfl
  case s1_0 =>
    refine stepOk_of _ _ rfl rfl ?_
    intro v W1 f kp ho hd K' hK
    have k0 := (b3.keep f (by simp)).cell (j := 0) rfl
    have k1 := (b3.keep f (by simp)).cell (j := 1) rfl
    have k2 := (b3.keep f (by simp)).cell (j := 2) rfl
    go_simp
    exact hK _ _ (Fr.refl [] _) rfl
  case s1_1 =>
    refine stepOk_of _ _ rfl rfl ?_
    intro v W1 f kp ho hd K' hK
    have e9 : v 9 = .agg #[.bool ga, .slice pa na ca, .slice qa ma da] := (hd 0 (by decide) _ _ rfl rfl).1
    simp only [e9] at hK ⊢
    go_simp
    refine (smallrat_e Hba.out _).mono ?_
    rintro e W' ⟨rfl, ff⟩
    exact hK _ W' ff rfl
  case s1_2 =>
    refine stepOk_of _ _ rfl rfl ?_
    intro v W1 f kp ho hd K' hK
    have e10 : v 10 = .bool true := (hd 1 (by decide) _ _ rfl rfl).1
    simp only [e10] at hK ⊢
    go_simp
    exact hK _ _ (Fr.refl [] _) rfl
  case s1_3 =>
    refine stepOk_of _ _ rfl rfl ?_
    intro v W1 f kp ho hd K' hK
    have e11 : v 11 = .bool false := (hd 2 (by decide) _ _ rfl rfl).1
    simp only [e11] at hK ⊢
    go_simp
    exact hK _ _ (Fr.refl [] _) rfl
  case s1_4 =>
    refine stepOk_of _ _ rfl rfl ?_
    intro v W1 f kp ho hd K' hK
    have e12 : v 12 = .bool false := (hd 3 (by decide) _ _ rfl rfl).1
    have k0 := (b4.keep f (by simp)).cell (j := 0) rfl
    have k1 := (b4.keep f (by simp)).cell (j := 1) rfl
    have k2 := (b4.keep f (by simp)).cell (j := 2) rfl
    simp only [e12] at hK ⊢
    go_simp
    exact hK _ _ (Fr.refl [] _) rfl
  case s1_5 =>
    refine stepOk_of _ _ rfl rfl ?_
    intro v W1 f kp ho hd K' hK
    have e13 : v 13 = .agg #[.bool gb, .slice pb nb cb, .slice qb mb db] := (hd 4 (by decide) _ _ rfl rfl).1
    have e12 : v 12 = .bool false := (hd 3 (by decide) _ _ rfl rfl).1
    simp only [e13, e12] at hK ⊢
    go_simp
    refine (smallrat_e Hbb.out _).mono ?_
    rintro e W' ⟨rfl, ff⟩
    exact hK _ W' ff rfl
  case s1_6 =>
    refine stepOk_of _ _ rfl rfl ?_
    intro v W1 f kp ho hd K' hK
    have e14 : v 14 = .bool true := (hd 5 (by decide) _ _ rfl rfl).1
    have e12 : v 12 = .bool false := (hd 3 (by decide) _ _ rfl rfl).1
    simp only [e14, e12] at hK ⊢
    go_simp
    exact hK _ _ (Fr.refl [] _) rfl
  case s1_7 =>
    refine stepOk_of _ _ rfl rfl ?_
    intro v W1 f kp ho hd K' hK
    have e12 : v 12 = .bool false := (hd 3 (by decide) _ _ rfl rfl).1
    have e15 : v 15 = .bool false := (hd 6 (by decide) _ _ rfl rfl).1
    simp only [e12, e15] at hK ⊢
    go_simp
    exact hK _ _ (Fr.refl [] _) rfl
  case s1_8 =>
    refine stepOk_of _ _ rfl rfl ?_
    intro v W1 f kp ho hd K' hK
    have e16 : v 16 = .bool false := (hd 7 (by decide) _ _ rfl rfl).1
    simp only [e16] at hK ⊢
    go_simp
    exact hK _ _ (Fr.refl [] _) rfl
  case s1_9 =>
    refine stepOk_of _ _ rfl rfl ?_
    intro v W1 f kp ho hd K' hK
    have e17 : v 17 = .bool false := (hd 8 (by decide) _ _ rfl rfl).1
    have k0 := (b5.keep f (by simp)).cell (j := 0) rfl
    have k1 := (b5.keep f (by simp)).cell (j := 1) rfl
    have k2 := (b5.keep f (by simp)).cell (j := 2) rfl
    simp only [e17] at hK ⊢
    go_simp
    exact hK _ _ (Fr.refl [] _) rfl
  case s1_10 =>
    refine stepOk_of _ _ rfl rfl ?_
    intro v W1 f kp ho hd K' hK
    have e18 : v 18 = .agg #[.bool gc, .slice pc nc cc, .slice qc mc dc] := (hd 9 (by decide) _ _ rfl rfl).1
    have e17 : v 17 = .bool false := (hd 8 (by decide) _ _ rfl rfl).1
    simp only [e18, e17] at hK ⊢
    go_simp
    refine (smallrat_e Hbc.out _).mono ?_
    rintro e W' ⟨rfl, ff⟩
    exact hK _ W' ff rfl
  case s1_11 =>
    refine stepOk_of _ _ rfl rfl ?_
    intro v W1 f kp ho hd K' hK
    have e19 : v 19 = .bool false := (hd 10 (by decide) _ _ rfl rfl).1
    have e17 : v 17 = .bool false := (hd 8 (by decide) _ _ rfl rfl).1
    simp only [e19, e17] at hK ⊢
    go_simp
    exact hK _ _ (Fr.refl [] _) rfl
  case s1_12 =>
    refine stepOk_of _ _ rfl rfl ?_
    intro v W1 f kp ho hd K' hK
    have e17 : v 17 = .bool false := (hd 8 (by decide) _ _ rfl rfl).1
    have e20 : v 20 = .bool true := (hd 11 (by decide) _ _ rfl rfl).1
    simp only [e17, e20] at hK ⊢
    go_simp
    exact hK _ _ (Fr.refl [] _) rfl
  case done1 =>
    intro v W1 f kp hF hD
    have e9 : v 9 = .agg #[.bool ga, .slice pa na ca, .slice qa ma da] := (hF 0 _ _ rfl rfl).1
    have e10 : v 10 = .bool true := (hF 1 _ _ rfl rfl).1
    have e11 : v 11 = .bool false := (hF 2 _ _ rfl rfl).1
    have e12 : v 12 = .bool false := (hF 3 _ _ rfl rfl).1
    have e13 : v 13 = .agg #[.bool gb, .slice pb nb cb, .slice qb mb db] := (hF 4 _ _ rfl rfl).1
    have e14 : v 14 = .bool true := (hF 5 _ _ rfl rfl).1
    have e15 : v 15 = .bool false := (hF 6 _ _ rfl rfl).1
    have e16 : v 16 = .bool false := (hF 7 _ _ rfl rfl).1
    have e17 : v 17 = .bool false := (hF 8 _ _ rfl rfl).1
    have e18 : v 18 = .agg #[.bool gc, .slice pc nc cc, .slice qc mc dc] := (hF 9 _ _ rfl rfl).1
    have e19 : v 19 = .bool false := (hF 10 _ _ rfl rfl).1
    have e20 : v 20 = .bool true := (hF 11 _ _ rfl rfl).1
    have e21 : v 21 = .bool true := (hF 12 _ _ rfl rfl).1
    clear hF hD
    simp only [e9, e10, e11, e12, e13, e14, e15, e16, e17, e18, e19, e20, e21]
    replace b3 := b3.keep f (by simp)
    replace b4 := b4.keep f (by simp)
    replace b5 := b5.keep f (by simp)
    replace ht := ht.kp kp
    replace hw := hw.trans (a := w) (b := W) (c := W1) f (by simp)
    have hsz1 := f.size
    clear f kp
    have c_b3_0 := b3.cell (j := 0) rfl
    have c_b3_1 := b3.cell (j := 1) rfl
    have c_b3_2 := b3.cell (j := 2) rfl
    have c_b4_0 := b4.cell (j := 0) rfl
    have c_b4_1 := b4.cell (j := 1) rfl
    have c_b4_2 := b4.cell (j := 2) rfl
    have c_b5_0 := b5.cell (j := 0) rfl
    have c_b5_1 := b5.cell (j := 1) rfl
    have c_b5_2 := b5.cell (j := 2) rfl
    go_upto_region 2 with fail
    clear c_b3_0 c_b3_1 c_b3_2 c_b4_0 c_b4_1 c_b4_2 c_b5_0 c_b5_1 c_b5_2
    refine wp_region_inv (w0 := W1) (by kernel_rfl) [true, true, true, false, false, false, true, false, false, true, true, true, true, true, true, true, true, true, true, true, true, true, true, false, false, false, false, false, false, false, false, false, false, false, false, false, false, false, false, false, false, false, false, false, false, false, false, false, false, false, false, false, false, false, false, false, false, false, false, false, false, false, false, false, false, false, false, false, false, false, false, false, false, false, false, false, false, false, false, false, false, false, false, false, false, false, false, false, false, false, false, false, false, false, false, false] []
      [⟨[22], F1 (fun xx _ => xx = .bool true), .pure⟩,
    ⟨[6], F1 (fun xx _ => xx = .bool true), .pure⟩]
      [[], [0]] ?mk2 ?hmk2 (by kernel_rfl)
      ⟨F1.st (st_eq _), F1.st (st_eq _), trivial⟩ (by simp) (by simp) (n := 2) rfl ⟨⟨trivial, ?s2_0⟩, ?s2_1⟩ ?done2
    case hmk2 => intro v; simp only [mkv, mix, Nat.reduceAdd]; rfl
    case s2_0 =>
      refine stepOk_of _ _ rfl rfl ?_
      intro v W2 f kp ho hd K' hK
      go_simp
      refine (awake3_any _ (ht.kp kp)).mono ?_
      rintro e W' ⟨rfl, ff⟩
      exact hK _ W' ff rfl
    case s2_1 =>
      refine stepOk_of _ _ rfl rfl ?_
      intro v W2 f kp ho hd K' hK
      have e22 : v 22 = .bool true := (hd 0 (by decide) _ _ rfl rfl).1
      simp only [e22] at hK ⊢
      go_simp
      exact hK _ _ (Fr.refl [] _) rfl
    case done2 =>
      intro v W2 f kp hF hD
      have e22 : v 22 = .bool true := (hF 0 _ _ rfl rfl).1
      have e6 : v 6 = .bool true := (hF 1 _ _ rfl rfl).1
      clear hF hD
      simp only [e22, e6]
      replace b3 := b3.keep f (by simp)
      replace b4 := b4.keep f (by simp)
      replace b5 := b5.keep f (by simp)
      replace ht := ht.kp kp
      replace hw := hw.trans (a := w) (b := W1) (c := W2) f (by simp)
      have hsz2 := f.size
      clear f kp
      go_wp2_with fail
      exact bodyPost_ret (v := .bool true) (by simp [results, Tryz.results7, go_sem]) rfl ⟨rfl, hw⟩

theorem field_small {w : World} {ra rb rc : Rat} {va vb vc : Value} (ht : Tab w) (h1 : VR w 4 ra va) (h2 : VR w 4 rb vb) (h3 : VR w 4 rc vc) : Calls Tryz.prog 7 #[va, vb, vc] w (RB true w) := by
  by_cases h0 : rb = 0
  · exact field_small0 ht h1 h2 h3 h0
  · exact field_small1 ht h1 h2 h3 h0

theorem field_any (ga : Bool) (pa : Option Addr) (na ca : Nat) (Xa : List Nat) (qa : Option Addr) (ma da : Nat) (Ya : List Nat) (gb : Bool) (pb : Option Addr) (nb cb : Nat) (Xb : List Nat) (qb : Option Addr) (mb db : Nat) (Yb : List Nat) (gc : Bool) (pc : Option Addr) (nc cc : Nat) (Xc : List Nat) (qc : Option Addr) (mc dc : Nat) (Yc : List Nat) (w : World) (ht : Tab w) (sa : Sl w pa na ca Xa) (ta : Sl w qa ma da Ya) (sb : Sl w pb nb cb Xb) (tb : Sl w qb mb db Yb) (sc : Sl w pc nc cc Xc) (tc : Sl w qc mc dc Yc) :
    Calls Tryz.prog 7 #[rw' ga pa na ca qa ma da, rw' gb pb nb cb qb mb db, rw' gc pc nc cc qc mc dc] w (RB true w) := by
  cases ba : (decide (na ≤ 4) && decide (ma ≤ 4))
  · exact field_big0 ht ba
  · have la := ba
    simp only [Bool.and_eq_true, decide_eq_true_eq] at la
    cases bb : (decide (nb ≤ 4) && decide (mb ≤ 4))
    · exact field_big1 ht ba bb
    · have lb := bb
      simp only [Bool.and_eq_true, decide_eq_true_eq] at lb
      cases bc : (decide (nc ≤ 4) && decide (mc ≤ 4))
      · exact field_big2 ht ba bb bc
      · have lc := bc
        simp only [Bool.and_eq_true, decide_eq_true_eq] at lc
        exact field_small ht ⟨_, _, _, _, _, _, _, _, _, rfl, sa, ta, rfl, la.1, la.2⟩ ⟨_, _, _, _, _, _, _, _, _, rfl, sb, tb, rfl, lb.1, lb.2⟩ ⟨_, _, _, _, _, _, _, _, _, rfl, sc, tc, rfl, lc.1, lc.2⟩

end Go.Proofs.YtjjdbhohjphcoaaGreatDoor
