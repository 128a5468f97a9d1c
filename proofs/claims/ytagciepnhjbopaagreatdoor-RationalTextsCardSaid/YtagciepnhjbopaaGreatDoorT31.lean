/- What the statements of this claim stand on: of Rat16, what they name -/
import Derived.Test.YtagciepnhjbopaaGreatDoorT18
import Derived.Test.YtagciepnhjbopaaGreatDoorT30

namespace Go.Proofs.YtagciepnhjbopaaGreatDoor
open Go.RowKit

def vi (g : Bool) (n : Nat) (X : List Nat) : Bool := nmb X && !(g && decide (n = 0))

theorem ivalid_e {w : World} {g : Bool} {p : Option Addr} {n c : Nat} {X : List Nat} {b : Bool} (hb : vi g n X = b) (s : Sl w p n c X) (hn : n ≤ 1048576) : Calls Tryz.prog 105 #[iw g p n c] w (RB b w) := hb ▸ ivalid_any g p n c X w s hn

theorem normal_e {w : World} {p : Option Addr} {n c : Nat} {X : List Nat} {b : Bool} (hb : nmb X = b) (s : Sl w p n c X) (_hn : n ≤ 1048576) : Calls Tryz.prog 106 #[.slice p n c] w (RB b w) := by
  subst hb
  refine (isnormal_any p n c X w s (by omega)).mono ?_
  rintro e w' ⟨rfl, rfl⟩
  exact ⟨rfl, Fr.refl _ _⟩

theorem ngcd_e {w : World} {p q : Option Addr} {n c m d : Nat} {X Y : List Nat} {k : Nat} (hk : Nat.gcd (val X) (val Y) = k) (s : Sl w p n c X) (s' : Sl w q m d Y) (_hn : n ≤ 1048575) (_hm : m ≤ 1048575) : Calls Tryz.prog 108 #[.slice p n c, .slice q m d] w (RV (fun w' => VD w' k) w) := by
  subst hk
  refine (gcd_any p q n m c d X Y w s s' (by omega) (by omega)).mono ?_
  rintro e w' ⟨r, k, rfl, o, f⟩
  exact ⟨_, rfl, ⟨r, k, rfl, o.sl⟩, f⟩

set_option maxRecDepth 100000 in
set_option maxHeartbeats 1000000 in
theorem valid_A {w : World} {g : Bool} {p : Option Addr} {n c : Nat} {X : List Nat} {q : Option Addr} {m d : Nat} {Y : List Nat} (sa : Sl w p n c X) (ta : Sl w q m d Y) (_la : n ≤ 131071) (_lma : m ≤ 131071) (hb : vi g n X = false) : Calls Tryz.prog 19 #[rw' g p n c q m d] w (RB false w) := by
  have Hhb := Lib.hid hb; clear hb
  go_enter Tryz.func19, Tryz.ntmps19
  go_upto_region 1 with fail
  have hw : Fr [] w (w.alloc (Obj.cells #[.bool g, .slice p n c, .slice q m d] 26)) := (Fr.refl _ _).alloc _
  have b1 : Bx (w.alloc (Obj.cells #[.bool g, .slice p n c, .slice q m d] 26)) w.heap.size 26 #[.bool g, .slice p n c, .slice q m d] := (Bx.made' (by simp) _ _).kept (Fr.refl _ _)
  generalize (w.alloc (Obj.cells #[.bool g, .slice p n c, .slice q m d] 26)) = W at *
  have hbs := b1.lt
  replace sa := sa.kept hw
  replace ta := ta.kept hw
  refine wp_region_inv (w0 := W) (by kernel_rfl) [true, false, false, true, true, true, true, true, true, true, true, true, true, true, true, true, true, true, true, false, false, false, false, false, false, false] []
    [⟨[3], F1 (fun xx _ => xx = .pointer (some ⟨w.heap.size, 0, none⟩)), .pure⟩,
    ⟨[4], F1 (fun xx _ => xx = .agg #[.bool g, .slice p n c]), .pure⟩,
    ⟨[5], F1 (fun xx _ => xx = .bool false), .pure⟩,
    ⟨[6], F1 (fun xx _ => xx = .bool true), .pure⟩,
    ⟨[7], F1 (fun xx _ => xx = .bool true), .pure⟩,
    ⟨[8], F1 (fun xx _ => xx = undef), .pure⟩,
    ⟨[9], F1 (fun xx _ => xx = undef), .pure⟩,
    ⟨[10], F1 (fun xx _ => xx = undef), .pure⟩,
    ⟨[11], F1 (fun xx _ => xx = undef), .pure⟩,
    ⟨[12], F1 (fun xx _ => xx = .bool true), .pure⟩,
    ⟨[13], F1 (fun xx _ => xx = .bool true), .pure⟩,
    ⟨[14], F1 (fun xx _ => xx = undef), .pure⟩,
    ⟨[15], F1 (fun xx _ => xx = undef), .pure⟩,
    ⟨[16], F1 (fun xx _ => xx = undef), .pure⟩,
    ⟨[17], F1 (fun xx _ => xx = undef), .pure⟩,
    ⟨[18], F1 (fun xx _ => xx = .bool true), .pure⟩]
    [[], [0], [0, 1], [0, 1, 2], [0, 1, 2, 3], [0, 1, 2, 3, 4], [0, 1, 2, 3, 4, 5], [0, 1, 2, 3, 4, 5, 6], [0, 1, 2, 3, 4, 5, 6, 7], [0, 1, 2, 3, 4, 5, 6, 7, 8], [0, 1, 2, 3, 4, 5, 6, 7, 8, 9], [0, 1, 2, 3, 4, 5, 6, 7, 8, 9, 10], [0, 1, 2, 3, 4, 5, 6, 7, 8, 9, 10, 11], [0, 1, 2, 3, 4, 5, 6, 7, 8, 9, 10, 11, 12], [0, 1, 2, 3, 4, 5, 6, 7, 8, 9, 10, 11, 12, 13], [0, 1, 2, 3, 4, 5, 6, 7, 8, 9, 10, 11, 12, 13, 14]] ?mk1 ?hmk1 (by kernel_rfl)
    ⟨F1.st (st_eq _), F1.st (st_eq _), F1.st (st_eq _), F1.st (st_eq _), F1.st (st_eq _), F1.st (st_eq _), F1.st (st_eq _), F1.st (st_eq _), F1.st (st_eq _), F1.st (st_eq _), F1.st (st_eq _), F1.st (st_eq _), F1.st (st_eq _), F1.st (st_eq _), F1.st (st_eq _), F1.st (st_eq _), trivial⟩ (by simp) (by simp) (n := 16) rfl ⟨⟨⟨⟨⟨⟨⟨⟨⟨⟨⟨⟨⟨⟨⟨⟨trivial, ?s1_0⟩, ?s1_1⟩, ?s1_2⟩, ?s1_3⟩, ?s1_4⟩, ?s1_5⟩, ?s1_6⟩, ?s1_7⟩, ?s1_8⟩, ?s1_9⟩, ?s1_10⟩, ?s1_11⟩, ?s1_12⟩, ?s1_13⟩, ?s1_14⟩, ?s1_15⟩ ?done1
  case hmk1 => intro v; simp only [mkv, mix, Nat.reduceAdd]; rfl
  case s1_0 =>
    refine stepOk_of _ _ rfl rfl ?_
    intro v W1 f kp ho hd K' hK
    go_simp
    exact hK _ _ (Fr.refl [] _) rfl
  case s1_1 =>
    refine stepOk_of _ _ rfl rfl ?_
    intro v W1 f kp ho hd K' hK
    have e3 : v 3 = .pointer (some ⟨w.heap.size, 0, none⟩) := (hd 0 (by decide) _ _ rfl rfl).1
    have k0 := (b1.keep f (by simp)).cell (j := 0) rfl
    have k1 := (b1.keep f (by simp)).cell (j := 1) rfl
    simp only [e3] at hK ⊢
    go_simp
    exact hK _ _ (Fr.refl [] _) rfl
  case s1_2 =>
    refine stepOk_of _ _ rfl rfl ?_
    intro v W1 f kp ho hd K' hK
    have e4 : v 4 = .agg #[.bool g, .slice p n c] := (hd 1 (by decide) _ _ rfl rfl).1
    simp only [e4] at hK ⊢
    go_simp
    refine (ivalid_e Hhb.out (sa.kp kp) (by omega)).mono ?_
    rintro e W' ⟨rfl, ff⟩
    exact hK _ W' ff rfl
  case s1_3 =>
    refine stepOk_of _ _ rfl rfl ?_
    intro v W1 f kp ho hd K' hK
    have e5 : v 5 = .bool false := (hd 2 (by decide) _ _ rfl rfl).1
    simp only [e5] at hK ⊢
    go_simp
    exact hK _ _ (Fr.refl [] _) rfl
  case s1_4 =>
    refine stepOk_of _ _ rfl rfl ?_
    intro v W1 f kp ho hd K' hK
    have e6 : v 6 = .bool true := (hd 3 (by decide) _ _ rfl rfl).1
    simp only [e6] at hK ⊢
    go_simp
    exact hK _ _ (Fr.refl [] _) rfl
  case s1_5 =>
    refine stepOk_of _ _ rfl rfl ?_
    intro v W1 f kp ho hd K' hK
    have e7 : v 7 = .bool true := (hd 4 (by decide) _ _ rfl rfl).1
    simp only [e7] at hK ⊢
    go_simp
    exact hK _ _ (Fr.refl [] _) rfl
  case s1_6 =>
    refine stepOk_of _ _ rfl rfl ?_
    intro v W1 f kp ho hd K' hK
    have e8 : v 8 = undef := (hd 5 (by decide) _ _ rfl rfl).1
    have e7 : v 7 = .bool true := (hd 4 (by decide) _ _ rfl rfl).1
    simp only [e8, e7] at hK ⊢
    go_simp
    exact hK _ _ (Fr.refl [] _) rfl
  case s1_7 =>
    refine stepOk_of _ _ rfl rfl ?_
    intro v W1 f kp ho hd K' hK
    have e9 : v 9 = undef := (hd 6 (by decide) _ _ rfl rfl).1
    have e7 : v 7 = .bool true := (hd 4 (by decide) _ _ rfl rfl).1
    simp only [e9, e7] at hK ⊢
    go_simp
    exact hK _ _ (Fr.refl [] _) rfl
  case s1_8 =>
    refine stepOk_of _ _ rfl rfl ?_
    intro v W1 f kp ho hd K' hK
    have e10 : v 10 = undef := (hd 7 (by decide) _ _ rfl rfl).1
    have e7 : v 7 = .bool true := (hd 4 (by decide) _ _ rfl rfl).1
    simp only [e10, e7] at hK ⊢
    go_simp
    exact hK _ _ (Fr.refl [] _) rfl
  case s1_9 =>
    refine stepOk_of _ _ rfl rfl ?_
    intro v W1 f kp ho hd K' hK
    have e7 : v 7 = .bool true := (hd 4 (by decide) _ _ rfl rfl).1
    have e11 : v 11 = undef := (hd 8 (by decide) _ _ rfl rfl).1
    simp only [e7, e11] at hK ⊢
    go_simp
    exact hK _ _ (Fr.refl [] _) rfl
  case s1_10 =>
    refine stepOk_of _ _ rfl rfl ?_
    intro v W1 f kp ho hd K' hK
    have e12 : v 12 = .bool true := (hd 9 (by decide) _ _ rfl rfl).1
    simp only [e12] at hK ⊢
    go_simp
    exact hK _ _ (Fr.refl [] _) rfl
  case s1_11 =>
    refine stepOk_of _ _ rfl rfl ?_
    intro v W1 f kp ho hd K' hK
    have e13 : v 13 = .bool true := (hd 10 (by decide) _ _ rfl rfl).1
    simp only [e13] at hK ⊢
    go_simp
    exact hK _ _ (Fr.refl [] _) rfl
  case s1_12 =>
    refine stepOk_of _ _ rfl rfl ?_
    intro v W1 f kp ho hd K' hK
    have e14 : v 14 = undef := (hd 11 (by decide) _ _ rfl rfl).1
    have e13 : v 13 = .bool true := (hd 10 (by decide) _ _ rfl rfl).1
    simp only [e14, e13] at hK ⊢
    go_simp
    exact hK _ _ (Fr.refl [] _) rfl
  case s1_13 =>
    refine stepOk_of _ _ rfl rfl ?_
    intro v W1 f kp ho hd K' hK
    have e15 : v 15 = undef := (hd 12 (by decide) _ _ rfl rfl).1
    have e13 : v 13 = .bool true := (hd 10 (by decide) _ _ rfl rfl).1
    simp only [e15, e13] at hK ⊢
    go_simp
    exact hK _ _ (Fr.refl [] _) rfl
  case s1_14 =>
    refine stepOk_of _ _ rfl rfl ?_
    intro v W1 f kp ho hd K' hK
    have e16 : v 16 = undef := (hd 13 (by decide) _ _ rfl rfl).1
    have e13 : v 13 = .bool true := (hd 10 (by decide) _ _ rfl rfl).1
    simp only [e16, e13] at hK ⊢
    go_simp
    exact hK _ _ (Fr.refl [] _) rfl
  case s1_15 =>
    refine stepOk_of _ _ rfl rfl ?_
    intro v W1 f kp ho hd K' hK
    have e13 : v 13 = .bool true := (hd 10 (by decide) _ _ rfl rfl).1
    have e17 : v 17 = undef := (hd 14 (by decide) _ _ rfl rfl).1
    simp only [e13, e17] at hK ⊢
    go_simp
    exact hK _ _ (Fr.refl [] _) rfl
  case done1 =>
    intro v W1 f kp hF hD
    have e3 : v 3 = .pointer (some ⟨w.heap.size, 0, none⟩) := (hF 0 _ _ rfl rfl).1
    have e4 : v 4 = .agg #[.bool g, .slice p n c] := (hF 1 _ _ rfl rfl).1
    have e5 : v 5 = .bool false := (hF 2 _ _ rfl rfl).1
    have e6 : v 6 = .bool true := (hF 3 _ _ rfl rfl).1
    have e7 : v 7 = .bool true := (hF 4 _ _ rfl rfl).1
    have e8 : v 8 = undef := (hF 5 _ _ rfl rfl).1
    have e9 : v 9 = undef := (hF 6 _ _ rfl rfl).1
    have e10 : v 10 = undef := (hF 7 _ _ rfl rfl).1
    have e11 : v 11 = undef := (hF 8 _ _ rfl rfl).1
    have e12 : v 12 = .bool true := (hF 9 _ _ rfl rfl).1
    have e13 : v 13 = .bool true := (hF 10 _ _ rfl rfl).1
    have e14 : v 14 = undef := (hF 11 _ _ rfl rfl).1
    have e15 : v 15 = undef := (hF 12 _ _ rfl rfl).1
    have e16 : v 16 = undef := (hF 13 _ _ rfl rfl).1
    have e17 : v 17 = undef := (hF 14 _ _ rfl rfl).1
    have e18 : v 18 = .bool true := (hF 15 _ _ rfl rfl).1
    clear hF hD
    simp only [e3, e4, e5, e6, e7, e8, e9, e10, e11, e12, e13, e14, e15, e16, e17, e18]
    replace b1 := b1.keep f (by simp)
    replace sa := sa.kp kp
    replace ta := ta.kp kp
    replace hw := hw.trans (a := w) (b := W) (c := W1) f (by simp)
    have hsz1 := f.size
    clear f kp
    have c_b1_0 := b1.cell (j := 0) rfl
    have c_b1_1 := b1.cell (j := 1) rfl
    have c_b1_2 := b1.cell (j := 2) rfl
    go_upto_region 2 with fail
    clear c_b1_0 c_b1_1 c_b1_2
    refine wp_region_inv (w0 := W1) (by kernel_rfl) [true, false, true, true, true, true, true, true, true, true, true, true, true, true, true, true, true, true, true, false, false, false, false, false, false, false] []
      [⟨[2], F1 (fun xx _ => xx = .bool false), .pure⟩]
      [[]] ?mk2 ?hmk2 (by kernel_rfl)
      ⟨F1.st (st_eq _), trivial⟩ (by simp) (by simp) (n := 1) rfl ⟨trivial, ?s2_0⟩ ?done2
    case hmk2 => intro v; simp only [mkv, mix, Nat.reduceAdd]; rfl
    case s2_0 =>
      refine stepOk_of _ _ rfl rfl ?_
      intro v W2 f kp ho hd K' hK
      go_simp
      exact hK _ _ (Fr.refl [] _) rfl
    case done2 =>
      intro v W2 f kp hF hD
      have e2 : v 2 = .bool false := (hF 0 _ _ rfl rfl).1
      clear hF hD
      simp only [e2]
      replace b1 := b1.keep f (by simp)
      replace sa := sa.kp kp
      replace ta := ta.kp kp
      replace hw := hw.trans (a := w) (b := W1) (c := W2) f (by simp)
      have hsz2 := f.size
      clear f kp
      go_wp2_with fail
      exact bodyPost_ret (v := .bool false) (by simp [results, Tryz.results19, go_sem]) rfl ⟨rfl, hw⟩

set_option maxRecDepth 100000 in
set_option maxHeartbeats 1000000 in
theorem valid_B {w : World} {g : Bool} {p : Option Addr} {n c : Nat} {X : List Nat} {q : Option Addr} {m d : Nat} {Y : List Nat} (sa : Sl w p n c X) (ta : Sl w q m d Y) (_la : n ≤ 131071) (_lma : m ≤ 131071) (hb : vi g n X = true) (hb2 : nmb Y = false) : Calls Tryz.prog 19 #[rw' g p n c q m d] w (RB false w) := by
  have Hhb := Lib.hid hb; clear hb
  have Hhb2 := Lib.hid hb2; clear hb2
  go_enter Tryz.func19, Tryz.ntmps19
  go_upto_region 1 with fail
  have hw : Fr [] w (w.alloc (Obj.cells #[.bool g, .slice p n c, .slice q m d] 26)) := (Fr.refl _ _).alloc _
  have b1 : Bx (w.alloc (Obj.cells #[.bool g, .slice p n c, .slice q m d] 26)) w.heap.size 26 #[.bool g, .slice p n c, .slice q m d] := (Bx.made' (by simp) _ _).kept (Fr.refl _ _)
  generalize (w.alloc (Obj.cells #[.bool g, .slice p n c, .slice q m d] 26)) = W at *
  have hbs := b1.lt
  replace sa := sa.kept hw
  replace ta := ta.kept hw
  refine wp_region_inv (w0 := W) (by kernel_rfl) [true, false, false, true, true, true, true, true, true, true, true, true, true, true, true, true, true, true, true, false, false, false, false, false, false, false] []
    [⟨[3], F1 (fun xx _ => xx = .pointer (some ⟨w.heap.size, 0, none⟩)), .pure⟩,
    ⟨[4], F1 (fun xx _ => xx = .agg #[.bool g, .slice p n c]), .pure⟩,
    ⟨[5], F1 (fun xx _ => xx = .bool true), .pure⟩,
    ⟨[6], F1 (fun xx _ => xx = .bool false), .pure⟩,
    ⟨[7], F1 (fun xx _ => xx = .bool false), .pure⟩,
    ⟨[8], F1 (fun xx _ => xx = .pointer (some ⟨w.heap.size, 2, none⟩)), .pure⟩,
    ⟨[9], F1 (fun xx _ => xx = .slice q m d), .pure⟩,
    ⟨[10], F1 (fun xx _ => xx = .bool false), .pure⟩,
    ⟨[11], F1 (fun xx _ => xx = .bool true), .pure⟩,
    ⟨[12], F1 (fun xx _ => xx = .bool true), .pure⟩,
    ⟨[13], F1 (fun xx _ => xx = .bool true), .pure⟩,
    ⟨[14], F1 (fun xx _ => xx = undef), .pure⟩,
    ⟨[15], F1 (fun xx _ => xx = undef), .pure⟩,
    ⟨[16], F1 (fun xx _ => xx = undef), .pure⟩,
    ⟨[17], F1 (fun xx _ => xx = undef), .pure⟩,
    ⟨[18], F1 (fun xx _ => xx = .bool true), .pure⟩]
    [[], [0], [0, 1], [0, 1, 2], [0, 1, 2, 3], [0, 1, 2, 3, 4], [0, 1, 2, 3, 4, 5], [0, 1, 2, 3, 4, 5, 6], [0, 1, 2, 3, 4, 5, 6, 7], [0, 1, 2, 3, 4, 5, 6, 7, 8], [0, 1, 2, 3, 4, 5, 6, 7, 8, 9], [0, 1, 2, 3, 4, 5, 6, 7, 8, 9, 10], [0, 1, 2, 3, 4, 5, 6, 7, 8, 9, 10, 11], [0, 1, 2, 3, 4, 5, 6, 7, 8, 9, 10, 11, 12], [0, 1, 2, 3, 4, 5, 6, 7, 8, 9, 10, 11, 12, 13], [0, 1, 2, 3, 4, 5, 6, 7, 8, 9, 10, 11, 12, 13, 14]] ?mk1 ?hmk1 (by kernel_rfl)
    ⟨F1.st (st_eq _), F1.st (st_eq _), F1.st (st_eq _), F1.st (st_eq _), F1.st (st_eq _), F1.st (st_eq _), F1.st (st_eq _), F1.st (st_eq _), F1.st (st_eq _), F1.st (st_eq _), F1.st (st_eq _), F1.st (st_eq _), F1.st (st_eq _), F1.st (st_eq _), F1.st (st_eq _), F1.st (st_eq _), trivial⟩ (by simp) (by simp) (n := 16) rfl ⟨⟨⟨⟨⟨⟨⟨⟨⟨⟨⟨⟨⟨⟨⟨⟨trivial, ?s1_0⟩, ?s1_1⟩, ?s1_2⟩, ?s1_3⟩, ?s1_4⟩, ?s1_5⟩, ?s1_6⟩, ?s1_7⟩, ?s1_8⟩, ?s1_9⟩, ?s1_10⟩, ?s1_11⟩, ?s1_12⟩, ?s1_13⟩, ?s1_14⟩, ?s1_15⟩ ?done1
  case hmk1 => intro v; simp only [mkv, mix, Nat.reduceAdd]; rfl
  case s1_0 =>
    refine stepOk_of _ _ rfl rfl ?_
    intro v W1 f kp ho hd K' hK
    go_simp
    exact hK _ _ (Fr.refl [] _) rfl
  case s1_1 =>
    refine stepOk_of _ _ rfl rfl ?_
    intro v W1 f kp ho hd K' hK
    have e3 : v 3 = .pointer (some ⟨w.heap.size, 0, none⟩) := (hd 0 (by decide) _ _ rfl rfl).1
    have k0 := (b1.keep f (by simp)).cell (j := 0) rfl
    have k1 := (b1.keep f (by simp)).cell (j := 1) rfl
    simp only [e3] at hK ⊢
    go_simp
    exact hK _ _ (Fr.refl [] _) rfl
  case s1_2 =>
    refine stepOk_of _ _ rfl rfl ?_
    intro v W1 f kp ho hd K' hK
    have e4 : v 4 = .agg #[.bool g, .slice p n c] := (hd 1 (by decide) _ _ rfl rfl).1
    simp only [e4] at hK ⊢
    go_simp
    refine (ivalid_e Hhb.out (sa.kp kp) (by omega)).mono ?_
    rintro e W' ⟨rfl, ff⟩
    exact hK _ W' ff rfl
  case s1_3 =>
    refine stepOk_of _ _ rfl rfl ?_
    intro v W1 f kp ho hd K' hK
    have e5 : v 5 = .bool true := (hd 2 (by decide) _ _ rfl rfl).1
    simp only [e5] at hK ⊢
    go_simp
    exact hK _ _ (Fr.refl [] _) rfl
  case s1_4 =>
    refine stepOk_of _ _ rfl rfl ?_
    intro v W1 f kp ho hd K' hK
    have e6 : v 6 = .bool false := (hd 3 (by decide) _ _ rfl rfl).1
    simp only [e6] at hK ⊢
    go_simp
    exact hK _ _ (Fr.refl [] _) rfl
  case s1_5 =>
    refine stepOk_of _ _ rfl rfl ?_
    intro v W1 f kp ho hd K' hK
    have e7 : v 7 = .bool false := (hd 4 (by decide) _ _ rfl rfl).1
    simp only [e7] at hK ⊢
    go_simp
    exact hK _ _ (Fr.refl [] _) rfl
  case s1_6 =>
    refine stepOk_of _ _ rfl rfl ?_
    intro v W1 f kp ho hd K' hK
    have e8 : v 8 = .pointer (some ⟨w.heap.size, 2, none⟩) := (hd 5 (by decide) _ _ rfl rfl).1
    have e7 : v 7 = .bool false := (hd 4 (by decide) _ _ rfl rfl).1
    have k0 := (b1.keep f (by simp)).cell (j := 2) rfl
    simp only [e8, e7] at hK ⊢
    go_simp
    exact hK _ _ (Fr.refl [] _) rfl
  case s1_7 =>
    refine stepOk_of _ _ rfl rfl ?_
    intro v W1 f kp ho hd K' hK
    have e9 : v 9 = .slice q m d := (hd 6 (by decide) _ _ rfl rfl).1
    have e7 : v 7 = .bool false := (hd 4 (by decide) _ _ rfl rfl).1
    simp only [e9, e7] at hK ⊢
    go_simp
    refine (normal_e Hhb2.out (ta.kp kp) (by omega)).mono ?_
    rintro e W' ⟨rfl, ff⟩
    exact hK _ W' ff rfl
  case s1_8 =>
    refine stepOk_of _ _ rfl rfl ?_
    intro v W1 f kp ho hd K' hK
    have e10 : v 10 = .bool false := (hd 7 (by decide) _ _ rfl rfl).1
    have e7 : v 7 = .bool false := (hd 4 (by decide) _ _ rfl rfl).1
    simp only [e10, e7] at hK ⊢
    go_simp
    exact hK _ _ (Fr.refl [] _) rfl
  case s1_9 =>
    refine stepOk_of _ _ rfl rfl ?_
    intro v W1 f kp ho hd K' hK
    have e7 : v 7 = .bool false := (hd 4 (by decide) _ _ rfl rfl).1
    have e11 : v 11 = .bool true := (hd 8 (by decide) _ _ rfl rfl).1
    simp only [e7, e11] at hK ⊢
    go_simp
    exact hK _ _ (Fr.refl [] _) rfl
  case s1_10 =>
    refine stepOk_of _ _ rfl rfl ?_
    intro v W1 f kp ho hd K' hK
    have e12 : v 12 = .bool true := (hd 9 (by decide) _ _ rfl rfl).1
    simp only [e12] at hK ⊢
    go_simp
    exact hK _ _ (Fr.refl [] _) rfl
  case s1_11 =>
    refine stepOk_of _ _ rfl rfl ?_
    intro v W1 f kp ho hd K' hK
    have e13 : v 13 = .bool true := (hd 10 (by decide) _ _ rfl rfl).1
    simp only [e13] at hK ⊢
    go_simp
    exact hK _ _ (Fr.refl [] _) rfl
  case s1_12 =>
    refine stepOk_of _ _ rfl rfl ?_
    intro v W1 f kp ho hd K' hK
    have e14 : v 14 = undef := (hd 11 (by decide) _ _ rfl rfl).1
    have e13 : v 13 = .bool true := (hd 10 (by decide) _ _ rfl rfl).1
    simp only [e14, e13] at hK ⊢
    go_simp
    exact hK _ _ (Fr.refl [] _) rfl
  case s1_13 =>
    refine stepOk_of _ _ rfl rfl ?_
    intro v W1 f kp ho hd K' hK
    have e15 : v 15 = undef := (hd 12 (by decide) _ _ rfl rfl).1
    have e13 : v 13 = .bool true := (hd 10 (by decide) _ _ rfl rfl).1
    simp only [e15, e13] at hK ⊢
    go_simp
    exact hK _ _ (Fr.refl [] _) rfl
  case s1_14 =>
    refine stepOk_of _ _ rfl rfl ?_
    intro v W1 f kp ho hd K' hK
    have e16 : v 16 = undef := (hd 13 (by decide) _ _ rfl rfl).1
    have e13 : v 13 = .bool true := (hd 10 (by decide) _ _ rfl rfl).1
    simp only [e16, e13] at hK ⊢
    go_simp
    exact hK _ _ (Fr.refl [] _) rfl
  case s1_15 =>
    refine stepOk_of _ _ rfl rfl ?_
    intro v W1 f kp ho hd K' hK
    have e13 : v 13 = .bool true := (hd 10 (by decide) _ _ rfl rfl).1
    have e17 : v 17 = undef := (hd 14 (by decide) _ _ rfl rfl).1
    simp only [e13, e17] at hK ⊢
    go_simp
    exact hK _ _ (Fr.refl [] _) rfl
  case done1 =>
    intro v W1 f kp hF hD
    have e3 : v 3 = .pointer (some ⟨w.heap.size, 0, none⟩) := (hF 0 _ _ rfl rfl).1
    have e4 : v 4 = .agg #[.bool g, .slice p n c] := (hF 1 _ _ rfl rfl).1
    have e5 : v 5 = .bool true := (hF 2 _ _ rfl rfl).1
    have e6 : v 6 = .bool false := (hF 3 _ _ rfl rfl).1
    have e7 : v 7 = .bool false := (hF 4 _ _ rfl rfl).1
    have e8 : v 8 = .pointer (some ⟨w.heap.size, 2, none⟩) := (hF 5 _ _ rfl rfl).1
    have e9 : v 9 = .slice q m d := (hF 6 _ _ rfl rfl).1
    have e10 : v 10 = .bool false := (hF 7 _ _ rfl rfl).1
    have e11 : v 11 = .bool true := (hF 8 _ _ rfl rfl).1
    have e12 : v 12 = .bool true := (hF 9 _ _ rfl rfl).1
    have e13 : v 13 = .bool true := (hF 10 _ _ rfl rfl).1
    have e14 : v 14 = undef := (hF 11 _ _ rfl rfl).1
    have e15 : v 15 = undef := (hF 12 _ _ rfl rfl).1
    have e16 : v 16 = undef := (hF 13 _ _ rfl rfl).1
    have e17 : v 17 = undef := (hF 14 _ _ rfl rfl).1
    have e18 : v 18 = .bool true := (hF 15 _ _ rfl rfl).1
    clear hF hD
    simp only [e3, e4, e5, e6, e7, e8, e9, e10, e11, e12, e13, e14, e15, e16, e17, e18]
    replace b1 := b1.keep f (by simp)
    replace sa := sa.kp kp
    replace ta := ta.kp kp
    replace hw := hw.trans (a := w) (b := W) (c := W1) f (by simp)
    have hsz1 := f.size
    clear f kp
    have c_b1_0 := b1.cell (j := 0) rfl
    have c_b1_1 := b1.cell (j := 1) rfl
    have c_b1_2 := b1.cell (j := 2) rfl
    go_upto_region 2 with fail
    clear c_b1_0 c_b1_1 c_b1_2
    refine wp_region_inv (w0 := W1) (by kernel_rfl) [true, false, true, true, true, true, true, true, true, true, true, true, true, true, true, true, true, true, true, false, false, false, false, false, false, false] []
      [⟨[2], F1 (fun xx _ => xx = .bool false), .pure⟩]
      [[]] ?mk2 ?hmk2 (by kernel_rfl)
      ⟨F1.st (st_eq _), trivial⟩ (by simp) (by simp) (n := 1) rfl ⟨trivial, ?s2_0⟩ ?done2
    case hmk2 => intro v; simp only [mkv, mix, Nat.reduceAdd]; rfl
    case s2_0 =>
      refine stepOk_of _ _ rfl rfl ?_
      intro v W2 f kp ho hd K' hK
      go_simp
      exact hK _ _ (Fr.refl [] _) rfl
    case done2 =>
      intro v W2 f kp hF hD
      have e2 : v 2 = .bool false := (hF 0 _ _ rfl rfl).1
      clear hF hD
      simp only [e2]
      replace b1 := b1.keep f (by simp)
      replace sa := sa.kp kp
      replace ta := ta.kp kp
      replace hw := hw.trans (a := w) (b := W1) (c := W2) f (by simp)
      have hsz2 := f.size
      clear f kp
      go_wp2_with fail
      exact bodyPost_ret (v := .bool false) (by simp [results, Tryz.results19, go_sem]) rfl ⟨rfl, hw⟩

set_option maxRecDepth 100000 in
set_option maxHeartbeats 1000000 in
theorem valid_C {w : World} {g : Bool} {p : Option Addr} {n c : Nat} {X : List Nat} {q : Option Addr} {m d : Nat} {Y : List Nat} (sa : Sl w p n c X) (ta : Sl w q m d Y) (_la : n ≤ 131071) (_lma : m ≤ 131071) (hb : vi g n X = true) (hb2 : nmb Y = true) (hm0 : m = 0) : Calls Tryz.prog 19 #[rw' g p n c q m d] w (RB false w) := by
  have Hhb := Lib.hid hb; clear hb
  have Hhb2 := Lib.hid hb2; clear hb2
  have ht : ((m : Int) == 0) = true := by rw [hm0]; rfl
  clear hm0
  go_enter Tryz.func19, Tryz.ntmps19
  go_upto_region 1 with fail
  have hw : Fr [] w (w.alloc (Obj.cells #[.bool g, .slice p n c, .slice q m d] 26)) := (Fr.refl _ _).alloc _
  have b1 : Bx (w.alloc (Obj.cells #[.bool g, .slice p n c, .slice q m d] 26)) w.heap.size 26 #[.bool g, .slice p n c, .slice q m d] := (Bx.made' (by simp) _ _).kept (Fr.refl _ _)
  generalize (w.alloc (Obj.cells #[.bool g, .slice p n c, .slice q m d] 26)) = W at *
  have hbs := b1.lt
  replace sa := sa.kept hw
  replace ta := ta.kept hw
  refine wp_region_inv (w0 := W) (by kernel_rfl) [true, false, false, true, true, true, true, true, true, true, true, true, true, true, true, true, true, true, true, false, false, false, false, false, false, false] []
    [⟨[3], F1 (fun xx _ => xx = .pointer (some ⟨w.heap.size, 0, none⟩)), .pure⟩,
    ⟨[4], F1 (fun xx _ => xx = .agg #[.bool g, .slice p n c]), .pure⟩,
    ⟨[5], F1 (fun xx _ => xx = .bool true), .pure⟩,
    ⟨[6], F1 (fun xx _ => xx = .bool false), .pure⟩,
    ⟨[7], F1 (fun xx _ => xx = .bool false), .pure⟩,
    ⟨[8], F1 (fun xx _ => xx = .pointer (some ⟨w.heap.size, 2, none⟩)), .pure⟩,
    ⟨[9], F1 (fun xx _ => xx = .slice q m d), .pure⟩,
    ⟨[10], F1 (fun xx _ => xx = .bool true), .pure⟩,
    ⟨[11], F1 (fun xx _ => xx = .bool false), .pure⟩,
    ⟨[12], F1 (fun xx _ => xx = .bool false), .pure⟩,
    ⟨[13], F1 (fun xx _ => xx = .bool false), .pure⟩,
    ⟨[14], F1 (fun xx _ => xx = .pointer (some ⟨w.heap.size, 2, none⟩)), .pure⟩,
    ⟨[15], F1 (fun xx _ => xx = .slice q m d), .pure⟩,
    ⟨[16], F1 (fun xx _ => xx = .int .i64 (m : Int)), .pure⟩,
    ⟨[17], F1 (fun xx _ => xx = .bool true), .pure⟩,
    ⟨[18], F1 (fun xx _ => xx = .bool true), .pure⟩]
    [[], [0], [0, 1], [0, 1, 2], [0, 1, 2, 3], [0, 1, 2, 3, 4], [0, 1, 2, 3, 4, 5], [0, 1, 2, 3, 4, 5, 6], [0, 1, 2, 3, 4, 5, 6, 7], [0, 1, 2, 3, 4, 5, 6, 7, 8], [0, 1, 2, 3, 4, 5, 6, 7, 8, 9], [0, 1, 2, 3, 4, 5, 6, 7, 8, 9, 10], [0, 1, 2, 3, 4, 5, 6, 7, 8, 9, 10, 11], [0, 1, 2, 3, 4, 5, 6, 7, 8, 9, 10, 11, 12], [0, 1, 2, 3, 4, 5, 6, 7, 8, 9, 10, 11, 12, 13], [0, 1, 2, 3, 4, 5, 6, 7, 8, 9, 10, 11, 12, 13, 14]] ?mk1 ?hmk1 (by kernel_rfl)
    ⟨F1.st (st_eq _), F1.st (st_eq _), F1.st (st_eq _), F1.st (st_eq _), F1.st (st_eq _), F1.st (st_eq _), F1.st (st_eq _), F1.st (st_eq _), F1.st (st_eq _), F1.st (st_eq _), F1.st (st_eq _), F1.st (st_eq _), F1.st (st_eq _), F1.st (st_eq _), F1.st (st_eq _), F1.st (st_eq _), trivial⟩ (by simp) (by simp) (n := 16) rfl ⟨⟨⟨⟨⟨⟨⟨⟨⟨⟨⟨⟨⟨⟨⟨⟨trivial, ?s1_0⟩, ?s1_1⟩, ?s1_2⟩, ?s1_3⟩, ?s1_4⟩, ?s1_5⟩, ?s1_6⟩, ?s1_7⟩, ?s1_8⟩, ?s1_9⟩, ?s1_10⟩, ?s1_11⟩, ?s1_12⟩, ?s1_13⟩, ?s1_14⟩, ?s1_15⟩ ?done1
  case hmk1 => intro v; simp only [mkv, mix, Nat.reduceAdd]; rfl
  case s1_0 =>
    refine stepOk_of _ _ rfl rfl ?_
    intro v W1 f kp ho hd K' hK
    go_simp
    exact hK _ _ (Fr.refl [] _) rfl
  case s1_1 =>
    refine stepOk_of _ _ rfl rfl ?_
    intro v W1 f kp ho hd K' hK
    have e3 : v 3 = .pointer (some ⟨w.heap.size, 0, none⟩) := (hd 0 (by decide) _ _ rfl rfl).1
    have k0 := (b1.keep f (by simp)).cell (j := 0) rfl
    have k1 := (b1.keep f (by simp)).cell (j := 1) rfl
    simp only [e3] at hK ⊢
    go_simp
    exact hK _ _ (Fr.refl [] _) rfl
  case s1_2 =>
    refine stepOk_of _ _ rfl rfl ?_
    intro v W1 f kp ho hd K' hK
    have e4 : v 4 = .agg #[.bool g, .slice p n c] := (hd 1 (by decide) _ _ rfl rfl).1
    simp only [e4] at hK ⊢
    go_simp
    refine (ivalid_e Hhb.out (sa.kp kp) (by omega)).mono ?_
    rintro e W' ⟨rfl, ff⟩
    exact hK _ W' ff rfl
  case s1_3 =>
    refine stepOk_of _ _ rfl rfl ?_
    intro v W1 f kp ho hd K' hK
    have e5 : v 5 = .bool true := (hd 2 (by decide) _ _ rfl rfl).1
    simp only [e5] at hK ⊢
    go_simp
    exact hK _ _ (Fr.refl [] _) rfl
  case s1_4 =>
    refine stepOk_of _ _ rfl rfl ?_
    intro v W1 f kp ho hd K' hK
    have e6 : v 6 = .bool false := (hd 3 (by decide) _ _ rfl rfl).1
    simp only [e6] at hK ⊢
    go_simp
    exact hK _ _ (Fr.refl [] _) rfl
  case s1_5 =>
    refine stepOk_of _ _ rfl rfl ?_
    intro v W1 f kp ho hd K' hK
    have e7 : v 7 = .bool false := (hd 4 (by decide) _ _ rfl rfl).1
    simp only [e7] at hK ⊢
    go_simp
    exact hK _ _ (Fr.refl [] _) rfl
  case s1_6 =>
    refine stepOk_of _ _ rfl rfl ?_
    intro v W1 f kp ho hd K' hK
    have e8 : v 8 = .pointer (some ⟨w.heap.size, 2, none⟩) := (hd 5 (by decide) _ _ rfl rfl).1
    have e7 : v 7 = .bool false := (hd 4 (by decide) _ _ rfl rfl).1
    have k0 := (b1.keep f (by simp)).cell (j := 2) rfl
    simp only [e8, e7] at hK ⊢
    go_simp
    exact hK _ _ (Fr.refl [] _) rfl
  case s1_7 =>
    refine stepOk_of _ _ rfl rfl ?_
    intro v W1 f kp ho hd K' hK
    have e9 : v 9 = .slice q m d := (hd 6 (by decide) _ _ rfl rfl).1
    have e7 : v 7 = .bool false := (hd 4 (by decide) _ _ rfl rfl).1
    simp only [e9, e7] at hK ⊢
    go_simp
    refine (normal_e Hhb2.out (ta.kp kp) (by omega)).mono ?_
    rintro e W' ⟨rfl, ff⟩
    exact hK _ W' ff rfl
  case s1_8 =>
    refine stepOk_of _ _ rfl rfl ?_
    intro v W1 f kp ho hd K' hK
    have e10 : v 10 = .bool true := (hd 7 (by decide) _ _ rfl rfl).1
    have e7 : v 7 = .bool false := (hd 4 (by decide) _ _ rfl rfl).1
    simp only [e10, e7] at hK ⊢
    go_simp
    exact hK _ _ (Fr.refl [] _) rfl
  case s1_9 =>
    refine stepOk_of _ _ rfl rfl ?_
    intro v W1 f kp ho hd K' hK
    have e7 : v 7 = .bool false := (hd 4 (by decide) _ _ rfl rfl).1
    have e11 : v 11 = .bool false := (hd 8 (by decide) _ _ rfl rfl).1
    simp only [e7, e11] at hK ⊢
    go_simp
    exact hK _ _ (Fr.refl [] _) rfl
  case s1_10 =>
    refine stepOk_of _ _ rfl rfl ?_
    intro v W1 f kp ho hd K' hK
    have e12 : v 12 = .bool false := (hd 9 (by decide) _ _ rfl rfl).1
    simp only [e12] at hK ⊢
    go_simp
    exact hK _ _ (Fr.refl [] _) rfl
  case s1_11 =>
    refine stepOk_of _ _ rfl rfl ?_
    intro v W1 f kp ho hd K' hK
    have e13 : v 13 = .bool false := (hd 10 (by decide) _ _ rfl rfl).1
    simp only [e13] at hK ⊢
    go_simp
    exact hK _ _ (Fr.refl [] _) rfl
  case s1_12 =>
    refine stepOk_of _ _ rfl rfl ?_
    intro v W1 f kp ho hd K' hK
    have e14 : v 14 = .pointer (some ⟨w.heap.size, 2, none⟩) := (hd 11 (by decide) _ _ rfl rfl).1
    have e13 : v 13 = .bool false := (hd 10 (by decide) _ _ rfl rfl).1
    have k0 := (b1.keep f (by simp)).cell (j := 2) rfl
    simp only [e14, e13] at hK ⊢
    go_simp
    exact hK _ _ (Fr.refl [] _) rfl
  case s1_13 =>
    refine stepOk_of _ _ rfl rfl ?_
    intro v W1 f kp ho hd K' hK
    have e15 : v 15 = .slice q m d := (hd 12 (by decide) _ _ rfl rfl).1
    have e13 : v 13 = .bool false := (hd 10 (by decide) _ _ rfl rfl).1
    simp only [e15, e13] at hK ⊢
    go_simp
    exact hK _ _ (Fr.refl [] _) rfl
  case s1_14 =>
    refine stepOk_of _ _ rfl rfl ?_
    intro v W1 f kp ho hd K' hK
    have e16 : v 16 = .int .i64 (m : Int) := (hd 13 (by decide) _ _ rfl rfl).1
    have e13 : v 13 = .bool false := (hd 10 (by decide) _ _ rfl rfl).1
    simp only [e16, e13] at hK ⊢
    go_simp
    exact hK _ _ (Fr.refl [] _) rfl
  case s1_15 =>
    refine stepOk_of _ _ rfl rfl ?_
    intro v W1 f kp ho hd K' hK
    have e13 : v 13 = .bool false := (hd 10 (by decide) _ _ rfl rfl).1
    have e17 : v 17 = .bool true := (hd 14 (by decide) _ _ rfl rfl).1
    simp only [e13, e17] at hK ⊢
    go_simp
    exact hK _ _ (Fr.refl [] _) rfl
  case done1 =>
    intro v W1 f kp hF hD
    have e3 : v 3 = .pointer (some ⟨w.heap.size, 0, none⟩) := (hF 0 _ _ rfl rfl).1
    have e4 : v 4 = .agg #[.bool g, .slice p n c] := (hF 1 _ _ rfl rfl).1
    have e5 : v 5 = .bool true := (hF 2 _ _ rfl rfl).1
    have e6 : v 6 = .bool false := (hF 3 _ _ rfl rfl).1
    have e7 : v 7 = .bool false := (hF 4 _ _ rfl rfl).1
    have e8 : v 8 = .pointer (some ⟨w.heap.size, 2, none⟩) := (hF 5 _ _ rfl rfl).1
    have e9 : v 9 = .slice q m d := (hF 6 _ _ rfl rfl).1
    have e10 : v 10 = .bool true := (hF 7 _ _ rfl rfl).1
    have e11 : v 11 = .bool false := (hF 8 _ _ rfl rfl).1
    have e12 : v 12 = .bool false := (hF 9 _ _ rfl rfl).1
    have e13 : v 13 = .bool false := (hF 10 _ _ rfl rfl).1
    have e14 : v 14 = .pointer (some ⟨w.heap.size, 2, none⟩) := (hF 11 _ _ rfl rfl).1
    have e15 : v 15 = .slice q m d := (hF 12 _ _ rfl rfl).1
    have e16 : v 16 = .int .i64 (m : Int) := (hF 13 _ _ rfl rfl).1
    have e17 : v 17 = .bool true := (hF 14 _ _ rfl rfl).1
    have e18 : v 18 = .bool true := (hF 15 _ _ rfl rfl).1
    clear hF hD
    simp only [e3, e4, e5, e6, e7, e8, e9, e10, e11, e12, e13, e14, e15, e16, e17, e18]
    replace b1 := b1.keep f (by simp)
    replace sa := sa.kp kp
    replace ta := ta.kp kp
    replace hw := hw.trans (a := w) (b := W) (c := W1) f (by simp)
    have hsz1 := f.size
    clear f kp
    have c_b1_0 := b1.cell (j := 0) rfl
    have c_b1_1 := b1.cell (j := 1) rfl
    have c_b1_2 := b1.cell (j := 2) rfl
    go_upto_region 2 with fail
    clear c_b1_0 c_b1_1 c_b1_2
    refine wp_region_inv (w0 := W1) (by kernel_rfl) [true, false, true, true, true, true, true, true, true, true, true, true, true, true, true, true, true, true, true, false, false, false, false, false, false, false] []
      [⟨[2], F1 (fun xx _ => xx = .bool false), .pure⟩]
      [[]] ?mk2 ?hmk2 (by kernel_rfl)
      ⟨F1.st (st_eq _), trivial⟩ (by simp) (by simp) (n := 1) rfl ⟨trivial, ?s2_0⟩ ?done2
    case hmk2 => intro v; simp only [mkv, mix, Nat.reduceAdd]; rfl
    case s2_0 =>
      refine stepOk_of _ _ rfl rfl ?_
      intro v W2 f kp ho hd K' hK
      go_simp
      exact hK _ _ (Fr.refl [] _) rfl
    case done2 =>
      intro v W2 f kp hF hD
      have e2 : v 2 = .bool false := (hF 0 _ _ rfl rfl).1
      clear hF hD
      simp only [e2]
      replace b1 := b1.keep f (by simp)
      replace sa := sa.kp kp
      replace ta := ta.kp kp
      replace hw := hw.trans (a := w) (b := W1) (c := W2) f (by simp)
      have hsz2 := f.size
      clear f kp
      go_wp2_with fail
      exact bodyPost_ret (v := .bool false) (by simp [results, Tryz.results19, go_sem]) rfl ⟨rfl, hw⟩

set_option maxRecDepth 100000 in
set_option maxHeartbeats 1000000 in
theorem valid_D {w : World} {g : Bool} {p : Option Addr} {n c : Nat} {X : List Nat} {q : Option Addr} {m d : Nat} {Y : List Nat} (sa : Sl w p n c X) (ta : Sl w q m d Y) (_la : n ≤ 131071) (_lma : m ≤ 131071) (hb : vi g n X = true) (hb2 : nmb Y = true) (_hm0 : m ≠ 0) : Calls Tryz.prog 19 #[rw' g p n c q m d] w (RB (decide (Nat.gcd (val X) (val Y) = 1)) w) := by
  have Hhb := Lib.hid hb; clear hb
  have Hhb2 := Lib.hid hb2; clear hb2
  have ht : ((m : Int) == 0) = false := beq_eq_false_iff_ne.2 (by omega)
  clear _hm0
  obtain ⟨k, hk⟩ : ∃ k, Nat.gcd (val X) (val Y) = k := ⟨_, rfl⟩
  have e0 : decide (Nat.gcd (val X) (val Y) = 1) = decide (k = 1) := by simp only [hk]
  rw [e0]
  clear e0
  obtain ⟨b4, hb4⟩ : ∃ b, decide (k = 1) = b := ⟨_, rfl⟩
  rw [hb4]
  have Hhk := Lib.hid hk; clear hk
  have Hhb4 := Lib.hid hb4; clear hb4
  go_enter Tryz.func19, Tryz.ntmps19
  go_upto_region 1 with fail
  have hw : Fr [] w (w.alloc (Obj.cells #[.bool g, .slice p n c, .slice q m d] 26)) := (Fr.refl _ _).alloc _
  have b1 : Bx (w.alloc (Obj.cells #[.bool g, .slice p n c, .slice q m d] 26)) w.heap.size 26 #[.bool g, .slice p n c, .slice q m d] := (Bx.made' (by simp) _ _).kept (Fr.refl _ _)
  generalize (w.alloc (Obj.cells #[.bool g, .slice p n c, .slice q m d] 26)) = W at *
  have hbs := b1.lt
  replace sa := sa.kept hw
  replace ta := ta.kept hw
  refine wp_region_inv (w0 := W) (by kernel_rfl) [true, false, false, true, true, true, true, true, true, true, true, true, true, true, true, true, true, true, true, false, false, false, false, false, false, false] []
    [⟨[3], F1 (fun xx _ => xx = .pointer (some ⟨w.heap.size, 0, none⟩)), .pure⟩,
    ⟨[4], F1 (fun xx _ => xx = .agg #[.bool g, .slice p n c]), .pure⟩,
    ⟨[5], F1 (fun xx _ => xx = .bool true), .pure⟩,
    ⟨[6], F1 (fun xx _ => xx = .bool false), .pure⟩,
    ⟨[7], F1 (fun xx _ => xx = .bool false), .pure⟩,
    ⟨[8], F1 (fun xx _ => xx = .pointer (some ⟨w.heap.size, 2, none⟩)), .pure⟩,
    ⟨[9], F1 (fun xx _ => xx = .slice q m d), .pure⟩,
    ⟨[10], F1 (fun xx _ => xx = .bool true), .pure⟩,
    ⟨[11], F1 (fun xx _ => xx = .bool false), .pure⟩,
    ⟨[12], F1 (fun xx _ => xx = .bool false), .pure⟩,
    ⟨[13], F1 (fun xx _ => xx = .bool false), .pure⟩,
    ⟨[14], F1 (fun xx _ => xx = .pointer (some ⟨w.heap.size, 2, none⟩)), .pure⟩,
    ⟨[15], F1 (fun xx _ => xx = .slice q m d), .pure⟩,
    ⟨[16], F1 (fun xx _ => xx = .int .i64 (m : Int)), .pure⟩,
    ⟨[17], F1 (fun xx _ => xx = .bool false), .pure⟩,
    ⟨[18], F1 (fun xx _ => xx = .bool false), .pure⟩]
    [[], [0], [0, 1], [0, 1, 2], [0, 1, 2, 3], [0, 1, 2, 3, 4], [0, 1, 2, 3, 4, 5], [0, 1, 2, 3, 4, 5, 6], [0, 1, 2, 3, 4, 5, 6, 7], [0, 1, 2, 3, 4, 5, 6, 7, 8], [0, 1, 2, 3, 4, 5, 6, 7, 8, 9], [0, 1, 2, 3, 4, 5, 6, 7, 8, 9, 10], [0, 1, 2, 3, 4, 5, 6, 7, 8, 9, 10, 11], [0, 1, 2, 3, 4, 5, 6, 7, 8, 9, 10, 11, 12], [0, 1, 2, 3, 4, 5, 6, 7, 8, 9, 10, 11, 12, 13], [0, 1, 2, 3, 4, 5, 6, 7, 8, 9, 10, 11, 12, 13, 14]] ?mk1 ?hmk1 (by kernel_rfl)
    ⟨F1.st (st_eq _), F1.st (st_eq _), F1.st (st_eq _), F1.st (st_eq _), F1.st (st_eq _), F1.st (st_eq _), F1.st (st_eq _), F1.st (st_eq _), F1.st (st_eq _), F1.st (st_eq _), F1.st (st_eq _), F1.st (st_eq _), F1.st (st_eq _), F1.st (st_eq _), F1.st (st_eq _), F1.st (st_eq _), trivial⟩ (by simp) (by simp) (n := 16) rfl ⟨⟨⟨⟨⟨⟨⟨⟨⟨⟨⟨⟨⟨⟨⟨⟨trivial, ?s1_0⟩, ?s1_1⟩, ?s1_2⟩, ?s1_3⟩, ?s1_4⟩, ?s1_5⟩, ?s1_6⟩, ?s1_7⟩, ?s1_8⟩, ?s1_9⟩, ?s1_10⟩, ?s1_11⟩, ?s1_12⟩, ?s1_13⟩, ?s1_14⟩, ?s1_15⟩ ?done1
  case hmk1 => intro v; simp only [mkv, mix, Nat.reduceAdd]; rfl
  case s1_0 =>
    refine stepOk_of _ _ rfl rfl ?_
    intro v W1 f kp ho hd K' hK
    go_simp
    exact hK _ _ (Fr.refl [] _) rfl
  case s1_1 =>
    refine stepOk_of _ _ rfl rfl ?_
    intro v W1 f kp ho hd K' hK
    have e3 : v 3 = .pointer (some ⟨w.heap.size, 0, none⟩) := (hd 0 (by decide) _ _ rfl rfl).1
    have k0 := (b1.keep f (by simp)).cell (j := 0) rfl
    have k1 := (b1.keep f (by simp)).cell (j := 1) rfl
    simp only [e3] at hK ⊢
    go_simp
    exact hK _ _ (Fr.refl [] _) rfl
  case s1_2 =>
    refine stepOk_of _ _ rfl rfl ?_
    intro v W1 f kp ho hd K' hK
    have e4 : v 4 = .agg #[.bool g, .slice p n c] := (hd 1 (by decide) _ _ rfl rfl).1
    simp only [e4] at hK ⊢
    go_simp
    refine (ivalid_e Hhb.out (sa.kp kp) (by omega)).mono ?_
    rintro e W' ⟨rfl, ff⟩
    exact hK _ W' ff rfl
  case s1_3 =>
    refine stepOk_of _ _ rfl rfl ?_
    intro v W1 f kp ho hd K' hK
    have e5 : v 5 = .bool true := (hd 2 (by decide) _ _ rfl rfl).1
    simp only [e5] at hK ⊢
    go_simp
    exact hK _ _ (Fr.refl [] _) rfl
  case s1_4 =>
    refine stepOk_of _ _ rfl rfl ?_
    intro v W1 f kp ho hd K' hK
    have e6 : v 6 = .bool false := (hd 3 (by decide) _ _ rfl rfl).1
    simp only [e6] at hK ⊢
    go_simp
    exact hK _ _ (Fr.refl [] _) rfl
  case s1_5 =>
    refine stepOk_of _ _ rfl rfl ?_
    intro v W1 f kp ho hd K' hK
    have e7 : v 7 = .bool false := (hd 4 (by decide) _ _ rfl rfl).1
    simp only [e7] at hK ⊢
    go_simp
    exact hK _ _ (Fr.refl [] _) rfl
  case s1_6 =>
    refine stepOk_of _ _ rfl rfl ?_
    intro v W1 f kp ho hd K' hK
    have e8 : v 8 = .pointer (some ⟨w.heap.size, 2, none⟩) := (hd 5 (by decide) _ _ rfl rfl).1
    have e7 : v 7 = .bool false := (hd 4 (by decide) _ _ rfl rfl).1
    have k0 := (b1.keep f (by simp)).cell (j := 2) rfl
    simp only [e8, e7] at hK ⊢
    go_simp
    exact hK _ _ (Fr.refl [] _) rfl
  case s1_7 =>
    refine stepOk_of _ _ rfl rfl ?_
    intro v W1 f kp ho hd K' hK
    have e9 : v 9 = .slice q m d := (hd 6 (by decide) _ _ rfl rfl).1
    have e7 : v 7 = .bool false := (hd 4 (by decide) _ _ rfl rfl).1
    simp only [e9, e7] at hK ⊢
    go_simp
    refine (normal_e Hhb2.out (ta.kp kp) (by omega)).mono ?_
    rintro e W' ⟨rfl, ff⟩
    exact hK _ W' ff rfl
  case s1_8 =>
    refine stepOk_of _ _ rfl rfl ?_
    intro v W1 f kp ho hd K' hK
    have e10 : v 10 = .bool true := (hd 7 (by decide) _ _ rfl rfl).1
    have e7 : v 7 = .bool false := (hd 4 (by decide) _ _ rfl rfl).1
    simp only [e10, e7] at hK ⊢
    go_simp
    exact hK _ _ (Fr.refl [] _) rfl
  case s1_9 =>
    refine stepOk_of _ _ rfl rfl ?_
    intro v W1 f kp ho hd K' hK
    have e7 : v 7 = .bool false := (hd 4 (by decide) _ _ rfl rfl).1
    have e11 : v 11 = .bool false := (hd 8 (by decide) _ _ rfl rfl).1
    simp only [e7, e11] at hK ⊢
    go_simp
    exact hK _ _ (Fr.refl [] _) rfl
  case s1_10 =>
    refine stepOk_of _ _ rfl rfl ?_
    intro v W1 f kp ho hd K' hK
    have e12 : v 12 = .bool false := (hd 9 (by decide) _ _ rfl rfl).1
    simp only [e12] at hK ⊢
    go_simp
    exact hK _ _ (Fr.refl [] _) rfl
  case s1_11 =>
    refine stepOk_of _ _ rfl rfl ?_
    intro v W1 f kp ho hd K' hK
    have e13 : v 13 = .bool false := (hd 10 (by decide) _ _ rfl rfl).1
    simp only [e13] at hK ⊢
    go_simp
    exact hK _ _ (Fr.refl [] _) rfl
  case s1_12 =>
    refine stepOk_of _ _ rfl rfl ?_
    intro v W1 f kp ho hd K' hK
    have e14 : v 14 = .pointer (some ⟨w.heap.size, 2, none⟩) := (hd 11 (by decide) _ _ rfl rfl).1
    have e13 : v 13 = .bool false := (hd 10 (by decide) _ _ rfl rfl).1
    have k0 := (b1.keep f (by simp)).cell (j := 2) rfl
    simp only [e14, e13] at hK ⊢
    go_simp
    exact hK _ _ (Fr.refl [] _) rfl
  case s1_13 =>
    refine stepOk_of _ _ rfl rfl ?_
    intro v W1 f kp ho hd K' hK
    have e15 : v 15 = .slice q m d := (hd 12 (by decide) _ _ rfl rfl).1
    have e13 : v 13 = .bool false := (hd 10 (by decide) _ _ rfl rfl).1
    simp only [e15, e13] at hK ⊢
    go_simp
    exact hK _ _ (Fr.refl [] _) rfl
  case s1_14 =>
    refine stepOk_of _ _ rfl rfl ?_
    intro v W1 f kp ho hd K' hK
    have e16 : v 16 = .int .i64 (m : Int) := (hd 13 (by decide) _ _ rfl rfl).1
    have e13 : v 13 = .bool false := (hd 10 (by decide) _ _ rfl rfl).1
    simp only [e16, e13] at hK ⊢
    go_simp
    exact hK _ _ (Fr.refl [] _) rfl
  case s1_15 =>
    refine stepOk_of _ _ rfl rfl ?_
    intro v W1 f kp ho hd K' hK
    have e13 : v 13 = .bool false := (hd 10 (by decide) _ _ rfl rfl).1
    have e17 : v 17 = .bool false := (hd 14 (by decide) _ _ rfl rfl).1
    simp only [e13, e17] at hK ⊢
    go_simp
    exact hK _ _ (Fr.refl [] _) rfl
  case done1 =>
    intro v W1 f kp hF hD
    have e3 : v 3 = .pointer (some ⟨w.heap.size, 0, none⟩) := (hF 0 _ _ rfl rfl).1
    have e4 : v 4 = .agg #[.bool g, .slice p n c] := (hF 1 _ _ rfl rfl).1
    have e5 : v 5 = .bool true := (hF 2 _ _ rfl rfl).1
    have e6 : v 6 = .bool false := (hF 3 _ _ rfl rfl).1
    have e7 : v 7 = .bool false := (hF 4 _ _ rfl rfl).1
    have e8 : v 8 = .pointer (some ⟨w.heap.size, 2, none⟩) := (hF 5 _ _ rfl rfl).1
    have e9 : v 9 = .slice q m d := (hF 6 _ _ rfl rfl).1
    have e10 : v 10 = .bool true := (hF 7 _ _ rfl rfl).1
    have e11 : v 11 = .bool false := (hF 8 _ _ rfl rfl).1
    have e12 : v 12 = .bool false := (hF 9 _ _ rfl rfl).1
    have e13 : v 13 = .bool false := (hF 10 _ _ rfl rfl).1
    have e14 : v 14 = .pointer (some ⟨w.heap.size, 2, none⟩) := (hF 11 _ _ rfl rfl).1
    have e15 : v 15 = .slice q m d := (hF 12 _ _ rfl rfl).1
    have e16 : v 16 = .int .i64 (m : Int) := (hF 13 _ _ rfl rfl).1
    have e17 : v 17 = .bool false := (hF 14 _ _ rfl rfl).1
    have e18 : v 18 = .bool false := (hF 15 _ _ rfl rfl).1
    clear hF hD
    simp only [e3, e4, e5, e6, e7, e8, e9, e10, e11, e12, e13, e14, e15, e16, e17, e18]
    replace b1 := b1.keep f (by simp)
    replace sa := sa.kp kp
    replace ta := ta.kp kp
    replace hw := hw.trans (a := w) (b := W) (c := W1) f (by simp)
    have hsz1 := f.size
    clear f kp
    have c_b1_0 := b1.cell (j := 0) rfl
    have c_b1_1 := b1.cell (j := 1) rfl
    have c_b1_2 := b1.cell (j := 2) rfl
    go_upto_region 3 with fail
    clear c_b1_0 c_b1_1 c_b1_2
    refine wp_region_inv (w0 := W1) (by kernel_rfl) [true, false, true, true, true, true, true, true, true, true, true, true, true, true, true, true, true, true, true, true, true, true, true, true, true, true] []
      [⟨[19], F1 (fun xx _ => xx = .pointer (some ⟨w.heap.size, 0, none⟩)), .pure⟩,
    ⟨[20], F1 (fun xx _ => xx = .pointer (some ⟨w.heap.size, 1, none⟩)), .pure⟩,
    ⟨[21], F1 (fun xx _ => xx = .slice p n c), .pure⟩,
    ⟨[22], F1 (fun xx _ => xx = .pointer (some ⟨w.heap.size, 2, none⟩)), .pure⟩,
    ⟨[23], F1 (fun xx _ => xx = .slice q m d), .pure⟩,
    ⟨[24], F1 (fun xx ww => VD ww k xx), .pure⟩,
    ⟨[25], F1 (fun xx _ => xx = .bool b4), .pure⟩,
    ⟨[2], F1 (fun xx _ => xx = .bool b4), .pure⟩]
      [[], [0], [0, 1], [], [3], [0, 1, 2, 3, 4], [0, 1, 2, 3, 4, 5], [0, 1, 2, 3, 4, 5, 6]] ?mk2 ?hmk2 (by kernel_rfl)
      ⟨F1.st (st_eq _), F1.st (st_eq _), F1.st (st_eq _), F1.st (st_eq _), F1.st (st_eq _), F1.st (fun _ _ _ k h => h.kp k), F1.st (st_eq _), F1.st (st_eq _), trivial⟩ (by simp) (by simp) (n := 8) rfl ⟨⟨⟨⟨⟨⟨⟨⟨trivial, ?s2_0⟩, ?s2_1⟩, ?s2_2⟩, ?s2_3⟩, ?s2_4⟩, ?s2_5⟩, ?s2_6⟩, ?s2_7⟩ ?done2
    case hmk2 => intro v; simp only [mkv, mix, Nat.reduceAdd]; rfl
    case s2_0 =>
      refine stepOk_of _ _ rfl rfl ?_
      intro v W2 f kp ho hd K' hK
      go_simp
      exact hK _ _ (Fr.refl [] _) rfl
    case s2_1 =>
      refine stepOk_of _ _ rfl rfl ?_
      intro v W2 f kp ho hd K' hK
      have e19 : v 19 = .pointer (some ⟨w.heap.size, 0, none⟩) := (hd 0 (by decide) _ _ rfl rfl).1
      simp only [e19] at hK ⊢
      go_simp
      exact hK _ _ (Fr.refl [] _) rfl
    case s2_2 =>
      refine stepOk_of _ _ rfl rfl ?_
      intro v W2 f kp ho hd K' hK
      have e20 : v 20 = .pointer (some ⟨w.heap.size, 1, none⟩) := (hd 1 (by decide) _ _ rfl rfl).1
      have k0 := (b1.keep f (by simp)).cell (j := 1) rfl
      simp only [e20] at hK ⊢
      go_simp
      exact hK _ _ (Fr.refl [] _) rfl
    case s2_3 =>
      refine stepOk_of _ _ rfl rfl ?_
      intro v W2 f kp ho hd K' hK
      go_simp
      exact hK _ _ (Fr.refl [] _) rfl
    case s2_4 =>
      refine stepOk_of _ _ rfl rfl ?_
      intro v W2 f kp ho hd K' hK
      have e22 : v 22 = .pointer (some ⟨w.heap.size, 2, none⟩) := (hd 3 (by decide) _ _ rfl rfl).1
      have k0 := (b1.keep f (by simp)).cell (j := 2) rfl
      simp only [e22] at hK ⊢
      go_simp
      exact hK _ _ (Fr.refl [] _) rfl
    case s2_5 =>
      refine stepOk_of _ _ rfl rfl ?_
      intro v W2 f kp ho hd K' hK
      have e21 : v 21 = .slice p n c := (hd 2 (by decide) _ _ rfl rfl).1
      have e23 : v 23 = .slice q m d := (hd 4 (by decide) _ _ rfl rfl).1
      simp only [e21, e23] at hK ⊢
      go_simp
      refine (ngcd_e Hhk.out (sa.kp kp) (ta.kp kp) (by omega) (by omega)).mono ?_
      rintro e W' ⟨x, rfl, hx, ff⟩
      exact hK x W' ff hx
    case s2_6 =>
      refine stepOk_of _ _ rfl rfl ?_
      intro v W2 f kp ho hd K' hK
      have f24 : VD W2 k (v 24) := (hd 5 (by decide) _ _ rfl rfl).1
      go_simp
      refine (isone_e Hhb4.out f24).mono ?_
      rintro e W' ⟨rfl, ff⟩
      exact hK _ W' ff rfl
    case s2_7 =>
      refine stepOk_of _ _ rfl rfl ?_
      intro v W2 f kp ho hd K' hK
      have e25 : v 25 = .bool b4 := (hd 6 (by decide) _ _ rfl rfl).1
      simp only [e25] at hK ⊢
      go_simp
      exact hK _ _ (Fr.refl [] _) rfl
    case done2 =>
      intro v W2 f kp hF hD
      have e19 : v 19 = .pointer (some ⟨w.heap.size, 0, none⟩) := (hF 0 _ _ rfl rfl).1
      have e20 : v 20 = .pointer (some ⟨w.heap.size, 1, none⟩) := (hF 1 _ _ rfl rfl).1
      have e21 : v 21 = .slice p n c := (hF 2 _ _ rfl rfl).1
      have e22 : v 22 = .pointer (some ⟨w.heap.size, 2, none⟩) := (hF 3 _ _ rfl rfl).1
      have e23 : v 23 = .slice q m d := (hF 4 _ _ rfl rfl).1
      have f24 : VD W2 k (v 24) := (hF 5 _ _ rfl rfl).1
      have e25 : v 25 = .bool b4 := (hF 6 _ _ rfl rfl).1
      have e2 : v 2 = .bool b4 := (hF 7 _ _ rfl rfl).1
      clear hF hD
      simp only [e19, e20, e21, e22, e23, e25, e2]
      replace b1 := b1.keep f (by simp)
      replace sa := sa.kp kp
      replace ta := ta.kp kp
      replace hw := hw.trans (a := w) (b := W1) (c := W2) f (by simp)
      have hsz2 := f.size
      clear f kp
      go_wp2_with fail
      exact bodyPost_ret (v := .bool b4) (by simp [results, Tryz.results19, go_sem]) rfl ⟨rfl, hw⟩

def vq (g : Bool) (n : Nat) (X : List Nat) (m : Nat) (Y : List Nat) : Bool := vi g n X && nmb Y && !decide (m = 0) && decide (Nat.gcd (val X) (val Y) = 1)

theorem valid_any {w : World} {g : Bool} {p : Option Addr} {n c : Nat} {X : List Nat} {q : Option Addr} {m d : Nat} {Y : List Nat} (sa : Sl w p n c X) (ta : Sl w q m d Y) (la : n ≤ 131071) (lma : m ≤ 131071) : Calls Tryz.prog 19 #[rw' g p n c q m d] w (RB (vq g n X m Y) w) := by
  unfold vq
  cases hb : vi g n X
  · exact valid_A sa ta la lma hb
  · cases hb2 : nmb Y
    · exact valid_B sa ta la lma hb hb2
    · by_cases hm0 : m = 0
      · rw [decide_eq_true hm0]
        exact valid_C sa ta la lma hb hb2 hm0
      · rw [decide_eq_false hm0]
        exact valid_D sa ta la lma hb hb2 hm0

theorem nmb_dg (x : Nat) : nmb (dg x) = true := by
  unfold nmb
  apply decide_eq_true
  by_cases h : (dg x).length = 0
  · exact Or.inl h
  · obtain ⟨k, hk⟩ : ∃ k, (dg x).length = k + 1 := ⟨(dg x).length - 1, by omega⟩
    refine Or.inr ?_
    rw [hk]
    exact dg_last hk

theorem vq_dg (z : Int) (x : Nat) : vq (decide (z < 0)) (dg z.natAbs).length (dg z.natAbs) (dg x).length (dg x) = decide (x ≠ 0 ∧ Nat.gcd z.natAbs x = 1) := by
  unfold vq vi
  rw [nmb_dg, nmb_dg, val_dg, val_dg]
  have h1 : (decide (z < 0) && decide ((dg z.natAbs).length = 0)) = false := by
    by_cases h : z < 0
    · have : (dg z.natAbs).length ≠ 0 := fun e => by
        have h2 := val_dg z.natAbs
        rw [List.eq_nil_of_length_eq_zero e] at h2
        simp [val] at h2
        omega
      rw [decide_eq_false this]; simp
    · rw [decide_eq_false h]; simp
  rw [h1]
  by_cases h : x = 0
  · subst h; rw [dg_zero]; simp
  · have : (dg x).length ≠ 0 := fun e => by
      have h2 := val_dg x
      rw [List.eq_nil_of_length_eq_zero e] at h2
      simp [val] at h2
      omega
    simp [h, this]

theorem vi_dg (z : Int) : vi (decide (z < 0)) (dg z.natAbs).length (dg z.natAbs) = true := by
  unfold vi
  rw [nmb_dg]
  by_cases h : z < 0
  · have : (dg z.natAbs).length ≠ 0 := fun e => by
      have h2 := val_dg z.natAbs
      rw [List.eq_nil_of_length_eq_zero e] at h2
      simp [val] at h2
      omega
    rw [decide_eq_false this]; simp
  · rw [decide_eq_false h]; simp

theorem valid_nc {w : World} {z : Int} {x : Nat} {b : Bool} {p q : Option Addr} {c d : Nat} (hx0 : x ≠ 0) (hb : decide (x ≠ 0 ∧ Nat.gcd z.natAbs x = 1) = b) (s : Sl w p (dg z.natAbs).length c (dg z.natAbs)) (s' : Sl w q (dg x).length d (dg x)) (hz : nz z ≤ 131071) (hx : (dg x).length ≤ 131071) : Calls Tryz.prog 19 #[rw' (decide (z < 0)) p (dg z.natAbs).length c q (dg x).length d] w (RB b w) := by
  have e : b = decide (Nat.gcd (val (dg z.natAbs)) (val (dg x)) = 1) := by rw [val_dg, val_dg, ← hb]; simp [hx0]
  rw [e]
  exact valid_D s s' hz hx (vi_dg z) (nmb_dg x) (fun e => by
    have h2 := val_dg x
    rw [List.eq_nil_of_length_eq_zero e] at h2
    simp [val] at h2
    omega)

noncomputable def zP (s : ByteArray) : Int := iv (ips s) (val (ipx s))

noncomputable def nP (s : ByteArray) : Nat := val (prx s)

theorem prx_dg (s : ByteArray) : prx s = dg (nP s) := by
  unfold nP prx
  split
  · rw [val_dg]
  · rw [val, dg_zero]

theorem ipx_dg (s : ByteArray) : ipx s = dg (val (ipx s)) := by
  unfold ipx
  split
  · exact prx_dg _
  · rw [val, dg_zero]

theorem zP_sign {s : ByteArray} (h : ipe s = 0) : decide (zP s < 0) = ips s := by
  unfold zP
  have h1 : ips s = decide (isM s) := by unfold ips; rw [if_pos h]
  cases hs : ips s
  · exact decide_eq_false (by unfold iv; simp <;> omega)
  · have hm : isM s := by rw [hs] at h1; exact of_decide_eq_true h1.symm
    have hx : prx (ibody s) ≠ [] := by
      unfold ipe at h
      split at h
      · next q => exact fun e => q.2 ⟨hm, e⟩
      · cases h
    have h2 : ipx s = prx (ibody s) := by unfold ipx; rw [if_pos h]
    have h3 : val (ipx s) ≠ 0 := by
      rw [h2, prx_dg, val_dg]
      intro e
      exact hx (by rw [prx_dg, e, dg_zero])
    exact decide_eq_true (by unfold iv; simp <;> omega)

theorem zP_abs (s : ByteArray) : (zP s).natAbs = val (ipx s) := by unfold zP; rw [iv_abs]

theorem iparse_ok {s : ByteArray} {z : Int} {w : World} (h : s.size ≤ 4096) (h0 : ipe s = 0) (hz : zP s = z) : Calls Tryz.prog 135 #[.string s] w fun e w' => ∃ x, e = .returned (.tuple #[x, .int .i64 0]) ∧ VZ w' z x ∧ Fr [] w w' := by
  subst hz
  refine (iparse_any s w h).mono ?_
  rintro e w' ⟨p, c, rfl, o, f⟩
  rw [h0]
  refine ⟨_, rfl, ⟨p, c, ?_, ?_⟩, f⟩
  · rw [zP_sign h0, zP_abs, ← ipx_dg]
  · rw [zP_abs, ← ipx_dg]; exact o.sl

theorem nparse_ok {s : ByteArray} {x : Nat} {w : World} (h : s.size ≤ 4096) (h0 : pre s = 0) (hx : nP s = x) : Calls Tryz.prog 136 #[.string s] w fun e w' => ∃ u, e = .returned (.tuple #[u, .int .i64 0]) ∧ VD w' x u ∧ Fr [] w w' := by
  subst hx
  refine (parse_s s w h).mono ?_
  rintro e w' ⟨p, c, rfl, o, f⟩
  rw [h0]
  exact ⟨_, rfl, ⟨p, c, by rw [← prx_dg], by rw [← prx_dg]; exact o⟩, f⟩

end Go.Proofs.YtagciepnhjbopaaGreatDoor
