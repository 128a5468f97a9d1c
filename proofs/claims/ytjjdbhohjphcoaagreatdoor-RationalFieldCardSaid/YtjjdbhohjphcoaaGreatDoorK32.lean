/- What the statements of this claim stand on: of Rat16, what they name -/
import Derived.Test.YtjjdbhohjphcoaaGreatDoorK12
import Derived.Test.YtjjdbhohjphcoaaGreatDoorK31

namespace Go.Proofs.YtjjdbhohjphcoaaGreatDoor
open Go.RowKit

def vi (g : Bool) (n : Nat) (X : List Nat) : Bool := nmb X && !(g && decide (n = 0))

theorem ivalid_e {w : World} {g : Bool} {p : Option Addr} {n c : Nat} {X : List Nat} {b : Bool} (hb : vi g n X = b) (s : Sl w p n c X) (hn : n ≤ 1048576) : Calls Tryz.prog 105 #[iw g p n c] w (RB b w) := hb ▸ ivalid_any g p n c X w s hn

theorem normal_e {w : World} {p : Option Addr} {n c : Nat} {X : List Nat} {b : Bool} (hb : nmb X = b) (s : Sl w p n c X) (_hn : n ≤ 1048576) : Calls Tryz.prog 106 #[.slice p n c] w (RB b w) := by
  subst hb
  refine (isnormal_any p n c X w s (by omega)).mono ?_
  rintro e w' ⟨rfl, rfl⟩
  exact ⟨rfl, Fr.refl _ _⟩

theorem ngcd_e {w : World} {p q : Option Addr} {n c m d : Nat} {X Y : List Nat} {k : Nat} (hk : Nat.gcd (val X) (val Y) = k) (s : Sl w p n c X) (s' : Sl w q m d Y) (_hn : n ≤ 1048575) (_hm : m ≤ 1048575) : Calls Tryz.prog 108 #[.slice p n c, .slice q m d] w (RV (fun w' => VD w' k) w) := by
  subst hk
  refine (gcd_any p q n m c d X Y w s s' (by omega) (by omega)).mono ?_
  rintro e w' ⟨r, k, rfl, o, f⟩
  exact ⟨_, rfl, ⟨r, k, rfl, o.sl⟩, f⟩

set_option maxRecDepth 100000 in
set_option maxHeartbeats 1000000 in
theorem valid_D {w : World} {g : Bool} {p : Option Addr} {n c : Nat} {X : List Nat} {q : Option Addr} {m d : Nat} {Y : List Nat} (sa : Sl w p n c X) (ta : Sl w q m d Y) (_la : n ≤ 131071) (_lma : m ≤ 131071) (hb : vi g n X = true) (hb2 : nmb Y = true) (_hm0 : m ≠ 0) : Calls Tryz.prog 19 #[rw' g p n c q m d] w (RB (decide (Nat.gcd (val X) (val Y) = 1)) w) := by
  have Hhb := Lib.hid hb; clear hb
  have Hhb2 := Lib.hid hb2; clear hb2
  have ht : ((m : Int) == 0) = false := beq_eq_false_iff_ne.2 (by omega)
  clear _hm0
  obtain ⟨k, hk⟩ : ∃ k, Nat.gcd (val X) (val Y) = k := ⟨_, rfl⟩
  have e0 : decide (Nat.gcd (val X) (val Y) = 1) = decide (k = 1) := by simp only [hk]
  rw [e0]
  clear e0
  obtain ⟨b4, hb4⟩ : ∃ b, decide (k = 1) = b := ⟨_, rfl⟩
  rw [hb4]
  have Hhk := Lib.hid hk; clear hk
  have Hhb4 := Lib.hid hb4; clear hb4
  go_enter Tryz.func19, Tryz.ntmps19
  go_upto_region 1 with fail
  have hw : Fr [] w (w.alloc (Obj.cells #[.bool g, .slice p n c, .slice q m d] 26)) := (Fr.refl _ _).alloc _
  have b1 : Bx (w.alloc (Obj.cells #[.bool g, .slice p n c, .slice q m d] 26)) w.heap.size 26 #[.bool g, .slice p n c, .slice q m d] := (Bx.made' (by simp) _ _).kept (Fr.refl _ _)
  generalize (w.alloc (Obj.cells #[.bool g, .slice p n c, .slice q m d] 26)) = W at *
  have hbs := b1.lt
  replace sa := sa.kept hw
  replace ta := ta.kept hw
  refine wp_region_inv (w0 := W) (by kernel_rfl) [true, false, false, true, true, true, true, true, true, true, true, true, true, true, true, true, true, true, true, false, false, false, false, false, false, false] []
    [⟨[3], F1 (fun xx _ => xx = .pointer (some ⟨w.heap.size, 0, none⟩)), .pure⟩,
    ⟨[4], F1 (fun xx _ => xx = .agg #[.bool g, .slice p n c]), .pure⟩,
    ⟨[5], F1 (fun xx _ => xx = .bool true), .pure⟩,
    ⟨[6], F1 (fun xx _ => xx = .bool false), .pure⟩,
    ⟨[7], F1 (fun xx _ => xx = .bool false), .pure⟩,
    ⟨[8], F1 (fun xx _ => xx = .pointer (some ⟨w.heap.size, 2, none⟩)), .pure⟩,
    ⟨[9], F1 (fun xx _ => xx = .slice q m d), .pure⟩,
    ⟨[10], F1 (fun xx _ => xx = .bool true), .pure⟩,
    ⟨[11], F1 (fun xx _ => xx = .bool false), .pure⟩,
    ⟨[12], F1 (fun xx _ => xx = .bool false), .pure⟩,
    ⟨[13], F1 (fun xx _ => xx = .bool false), .pure⟩,
    ⟨[14], F1 (fun xx _ => xx = .pointer (some ⟨w.heap.size, 2, none⟩)), .pure⟩,
    ⟨[15], F1 (fun xx _ => xx = .slice q m d), .pure⟩,
    ⟨[16], F1 (fun xx _ => xx = .int .i64 (m : Int)), .pure⟩,
    ⟨[17], F1 (fun xx _ => xx = .bool false), .pure⟩,
    ⟨[18], F1 (fun xx _ => xx = .bool false), .pure⟩]
    [[], [0], [0, 1], [0, 1, 2], [0, 1, 2, 3], [0, 1, 2, 3, 4], [0, 1, 2, 3, 4, 5], [0, 1, 2, 3, 4, 5, 6], [0, 1, 2, 3, 4, 5, 6, 7], [0, 1, 2, 3, 4, 5, 6, 7, 8], [0, 1, 2, 3, 4, 5, 6, 7, 8, 9], [0, 1, 2, 3, 4, 5, 6, 7, 8, 9, 10], [0, 1, 2, 3, 4, 5, 6, 7, 8, 9, 10, 11], [0, 1, 2, 3, 4, 5, 6, 7, 8, 9, 10, 11, 12], [0, 1, 2, 3, 4, 5, 6, 7, 8, 9, 10, 11, 12, 13], [0, 1, 2, 3, 4, 5, 6, 7, 8, 9, 10, 11, 12, 13, 14]] ?mk1 ?hmk1 (by kernel_rfl)
    ⟨F1.st (st_eq _), F1.st (st_eq _), F1.st (st_eq _), F1.st (st_eq _), F1.st (st_eq _), F1.st (st_eq _), F1.st (st_eq _), F1.st (st_eq _), F1.st (st_eq _), F1.st (st_eq _), F1.st (st_eq _), F1.st (st_eq _), F1.st (st_eq _), F1.st (st_eq _), F1.st (st_eq _), F1.st (st_eq _), trivial⟩ (by simp) (by simp) (n := 16) rfl ⟨⟨⟨⟨⟨⟨⟨⟨⟨⟨⟨⟨⟨⟨⟨⟨trivial, ?s1_0⟩, ?s1_1⟩, ?s1_2⟩, ?s1_3⟩, ?s1_4⟩, ?s1_5⟩, ?s1_6⟩, ?s1_7⟩, ?s1_8⟩, ?s1_9⟩, ?s1_10⟩, ?s1_11⟩, ?s1_12⟩, ?s1_13⟩, ?s1_14⟩, ?s1_15⟩ ?done1
  case hmk1 => intro v; simp only [mkv, mix, Nat.reduceAdd]; rfl
  case s1_0 =>
    refine stepOk_of _ _ rfl rfl ?_
    intro v W1 f kp ho hd K' hK
    go_simp
    exact hK _ _ (Fr.refl [] _) rfl
  case s1_1 =>
    refine stepOk_of _ _ rfl rfl ?_
    intro v W1 f kp ho hd K' hK
    have e3 : v 3 = .pointer (some ⟨w.heap.size, 0, none⟩) := (hd 0 (by decide) _ _ rfl rfl).1
    have k0 := (b1.keep f (by simp)).cell (j := 0) rfl
    have k1 := (b1.keep f (by simp)).cell (j := 1) rfl
    simp only [e3] at hK ⊢
    go_simp
    exact hK _ _ (Fr.refl [] _) rfl
  case s1_2 =>
    refine stepOk_of _ _ rfl rfl ?_
    intro v W1 f kp ho hd K' hK
    have e4 : v 4 = .agg #[.bool g, .slice p n c] := (hd 1 (by decide) _ _ rfl rfl).1
    simp only [e4] at hK ⊢
    go_simp
    refine (ivalid_e Hhb.out (sa.kp kp) (by omega)).mono ?_
    rintro e W' ⟨rfl, ff⟩
    exact hK _ W' ff rfl
  case s1_3 =>
    refine stepOk_of _ _ rfl rfl ?_
    intro v W1 f kp ho hd K' hK
    have e5 : v 5 = .bool true := (hd 2 (by decide) _ _ rfl rfl).1
    simp only [e5] at hK ⊢
    go_simp
    exact hK _ _ (Fr.refl [] _) rfl
  case s1_4 =>
    refine stepOk_of _ _ rfl rfl ?_
    intro v W1 f kp ho hd K' hK
    have e6 : v 6 = .bool false := (hd 3 (by decide) _ _ rfl rfl).1
    simp only [e6] at hK ⊢
    go_simp
    exact hK _ _ (Fr.refl [] _) rfl
  case s1_5 =>
    refine stepOk_of _ _ rfl rfl ?_
    intro v W1 f kp ho hd K' hK
    have e7 : v 7 = .bool false := (hd 4 (by decide) _ _ rfl rfl).1
    simp only [e7] at hK ⊢
    go_simp
    exact hK _ _ (Fr.refl [] _) rfl
  case s1_6 =>
    refine stepOk_of _ _ rfl rfl ?_
    intro v W1 f kp ho hd K' hK
    have e8 : v 8 = .pointer (some ⟨w.heap.size, 2, none⟩) := (hd 5 (by decide) _ _ rfl rfl).1
    have e7 : v 7 = .bool false := (hd 4 (by decide) _ _ rfl rfl).1
    have k0 := (b1.keep f (by simp)).cell (j := 2) rfl
    simp only [e8, e7] at hK ⊢
    go_simp
    exact hK _ _ (Fr.refl [] _) rfl
  case s1_7 =>
    refine stepOk_of _ _ rfl rfl ?_
    intro v W1 f kp ho hd K' hK
    have e9 : v 9 = .slice q m d := (hd 6 (by decide) _ _ rfl rfl).1
    have e7 : v 7 = .bool false := (hd 4 (by decide) _ _ rfl rfl).1
    simp only [e9, e7] at hK ⊢
    go_simp
    refine (normal_e Hhb2.out (ta.kp kp) (by omega)).mono ?_
    rintro e W' ⟨rfl, ff⟩
    exact hK _ W' ff rfl
  case s1_8 =>
    refine stepOk_of _ _ rfl rfl ?_
    intro v W1 f kp ho hd K' hK
    have e10 : v 10 = .bool true := (hd 7 (by decide) _ _ rfl rfl).1
    have e7 : v 7 = .bool false := (hd 4 (by decide) _ _ rfl rfl).1
    simp only [e10, e7] at hK ⊢
    go_simp
    exact hK _ _ (Fr.refl [] _) rfl
  case s1_9 =>
    refine stepOk_of _ _ rfl rfl ?_
    intro v W1 f kp ho hd K' hK
    have e7 : v 7 = .bool false := (hd 4 (by decide) _ _ rfl rfl).1
    have e11 : v 11 = .bool false := (hd 8 (by decide) _ _ rfl rfl).1
    simp only [e7, e11] at hK ⊢
    go_simp
    exact hK _ _ (Fr.refl [] _) rfl
  case s1_10 =>
    refine stepOk_of _ _ rfl rfl ?_
    intro v W1 f kp ho hd K' hK
    have e12 : v 12 = .bool false := (hd 9 (by decide) _ _ rfl rfl).1
    simp only [e12] at hK ⊢
    go_simp
    exact hK _ _ (Fr.refl [] _) rfl
  case s1_11 =>
    refine stepOk_of _ _ rfl rfl ?_
    intro v W1 f kp ho hd K' hK
    have e13 : v 13 = .bool false := (hd 10 (by decide) _ _ rfl rfl).1
    simp only [e13] at hK ⊢
    go_simp
    exact hK _ _ (Fr.refl [] _) rfl
  case s1_12 =>
    refine stepOk_of _ _ rfl rfl ?_
    intro v W1 f kp ho hd K' hK
    have e14 : v 14 = .pointer (some ⟨w.heap.size, 2, none⟩) := (hd 11 (by decide) _ _ rfl rfl).1
    have e13 : v 13 = .bool false := (hd 10 (by decide) _ _ rfl rfl).1
    have k0 := (b1.keep f (by simp)).cell (j := 2) rfl
    simp only [e14, e13] at hK ⊢
    go_simp
    exact hK _ _ (Fr.refl [] _) rfl
  case s1_13 =>
    refine stepOk_of _ _ rfl rfl ?_
    intro v W1 f kp ho hd K' hK
    have e15 : v 15 = .slice q m d := (hd 12 (by decide) _ _ rfl rfl).1
    have e13 : v 13 = .bool false := (hd 10 (by decide) _ _ rfl rfl).1
    simp only [e15, e13] at hK ⊢
    go_simp
    exact hK _ _ (Fr.refl [] _) rfl
  case s1_14 =>
    refine stepOk_of _ _ rfl rfl ?_
    intro v W1 f kp ho hd K' hK
    have e16 : v 16 = .int .i64 (m : Int) := (hd 13 (by decide) _ _ rfl rfl).1
    have e13 : v 13 = .bool false := (hd 10 (by decide) _ _ rfl rfl).1
    simp only [e16, e13] at hK ⊢
    go_simp
    exact hK _ _ (Fr.refl [] _) rfl
  case s1_15 =>
    refine stepOk_of _ _ rfl rfl ?_
    intro v W1 f kp ho hd K' hK
    have e13 : v 13 = .bool false := (hd 10 (by decide) _ _ rfl rfl).1
    have e17 : v 17 = .bool false := (hd 14 (by decide) _ _ rfl rfl).1
    simp only [e13, e17] at hK ⊢
    go_simp
    exact hK _ _ (Fr.refl [] _) rfl
  case done1 =>
    intro v W1 f kp hF hD
    have e3 : v 3 = .pointer (some ⟨w.heap.size, 0, none⟩) := (hF 0 _ _ rfl rfl).1
    have e4 : v 4 = .agg #[.bool g, .slice p n c] := (hF 1 _ _ rfl rfl).1
    have e5 : v 5 = .bool true := (hF 2 _ _ rfl rfl).1
    have e6 : v 6 = .bool false := (hF 3 _ _ rfl rfl).1
    have e7 : v 7 = .bool false := (hF 4 _ _ rfl rfl).1
    have e8 : v 8 = .pointer (some ⟨w.heap.size, 2, none⟩) := (hF 5 _ _ rfl rfl).1
    have e9 : v 9 = .slice q m d := (hF 6 _ _ rfl rfl).1
    have e10 : v 10 = .bool true := (hF 7 _ _ rfl rfl).1
    have e11 : v 11 = .bool false := (hF 8 _ _ rfl rfl).1
    have e12 : v 12 = .bool false := (hF 9 _ _ rfl rfl).1
    have e13 : v 13 = .bool false := (hF 10 _ _ rfl rfl).1
    have e14 : v 14 = .pointer (some ⟨w.heap.size, 2, none⟩) := (hF 11 _ _ rfl rfl).1
    have e15 : v 15 = .slice q m d := (hF 12 _ _ rfl rfl).1
    have e16 : v 16 = .int .i64 (m : Int) := (hF 13 _ _ rfl rfl).1
    have e17 : v 17 = .bool false := (hF 14 _ _ rfl rfl).1
    have e18 : v 18 = .bool false := (hF 15 _ _ rfl rfl).1
    clear hF hD
    simp only [e3, e4, e5, e6, e7, e8, e9, e10, e11, e12, e13, e14, e15, e16, e17, e18]
    replace b1 := b1.keep f (by simp)
    replace sa := sa.kp kp
    replace ta := ta.kp kp
    replace hw := hw.trans (a := w) (b := W) (c := W1) f (by simp)
    have hsz1 := f.size
    clear f kp
    have c_b1_0 := b1.cell (j := 0) rfl
    have c_b1_1 := b1.cell (j := 1) rfl
    have c_b1_2 := b1.cell (j := 2) rfl
    go_upto_region 3 with fail
    clear c_b1_0 c_b1_1 c_b1_2
    refine wp_region_inv (w0 := W1) (by kernel_rfl) [true, false, true, true, true, true, true, true, true, true, true, true, true, true, true, true, true, true, true, true, true, true, true, true, true, true] []
      [⟨[19], F1 (fun xx _ => xx = .pointer (some ⟨w.heap.size, 0, none⟩)), .pure⟩,
    ⟨[20], F1 (fun xx _ => xx = .pointer (some ⟨w.heap.size, 1, none⟩)), .pure⟩,
    ⟨[21], F1 (fun xx _ => xx = .slice p n c), .pure⟩,
    ⟨[22], F1 (fun xx _ => xx = .pointer (some ⟨w.heap.size, 2, none⟩)), .pure⟩,
    ⟨[23], F1 (fun xx _ => xx = .slice q m d), .pure⟩,
    ⟨[24], F1 (fun xx ww => VD ww k xx), .pure⟩,
    ⟨[25], F1 (fun xx _ => xx = .bool b4), .pure⟩,
    ⟨[2], F1 (fun xx _ => xx = .bool b4), .pure⟩]
      [[], [0], [0, 1], [], [3], [0, 1, 2, 3, 4], [0, 1, 2, 3, 4, 5], [0, 1, 2, 3, 4, 5, 6]] ?mk2 ?hmk2 (by kernel_rfl)
      ⟨F1.st (st_eq _), F1.st (st_eq _), F1.st (st_eq _), F1.st (st_eq _), F1.st (st_eq _), F1.st (fun _ _ _ k h => h.kp k), F1.st (st_eq _), F1.st (st_eq _), trivial⟩ (by simp) (by simp) (n := 8) rfl ⟨⟨⟨⟨⟨⟨⟨⟨trivial, ?s2_0⟩, ?s2_1⟩, ?s2_2⟩, ?s2_3⟩, ?s2_4⟩, ?s2_5⟩, ?s2_6⟩, ?s2_7⟩ ?done2
    case hmk2 => intro v; simp only [mkv, mix, Nat.reduceAdd]; rfl
    case s2_0 =>
      refine stepOk_of _ _ rfl rfl ?_
      intro v W2 f kp ho hd K' hK
      go_simp
      exact hK _ _ (Fr.refl [] _) rfl
    case s2_1 =>
      refine stepOk_of _ _ rfl rfl ?_
      intro v W2 f kp ho hd K' hK
      have e19 : v 19 = .pointer (some ⟨w.heap.size, 0, none⟩) := (hd 0 (by decide) _ _ rfl rfl).1
      simp only [e19] at hK ⊢
      go_simp
      exact hK _ _ (Fr.refl [] _) rfl
    case s2_2 =>
      refine stepOk_of _ _ rfl rfl ?_
      intro v W2 f kp ho hd K' hK
      have e20 : v 20 = .pointer (some ⟨w.heap.size, 1, none⟩) := (hd 1 (by decide) _ _ rfl rfl).1
      have k0 := (b1.keep f (by simp)).cell (j := 1) rfl
      simp only [e20] at hK ⊢
      go_simp
      exact hK _ _ (Fr.refl [] _) rfl
    case s2_3 =>
      refine stepOk_of _ _ rfl rfl ?_
      intro v W2 f kp ho hd K' hK
      go_simp
      exact hK _ _ (Fr.refl [] _) rfl
    case s2_4 =>
      refine stepOk_of _ _ rfl rfl ?_
      intro v W2 f kp ho hd K' hK
      have e22 : v 22 = .pointer (some ⟨w.heap.size, 2, none⟩) := (hd 3 (by decide) _ _ rfl rfl).1
      have k0 := (b1.keep f (by simp)).cell (j := 2) rfl
      simp only [e22] at hK ⊢
      go_simp
      exact hK _ _ (Fr.refl [] _) rfl
    case s2_5 =>
      refine stepOk_of _ _ rfl rfl ?_
      intro v W2 f kp ho hd K' hK
      have e21 : v 21 = .slice p n c := (hd 2 (by decide) _ _ rfl rfl).1
      have e23 : v 23 = .slice q m d := (hd 4 (by decide) _ _ rfl rfl).1
      simp only [e21, e23] at hK ⊢
      go_simp
      refine (ngcd_e Hhk.out (sa.kp kp) (ta.kp kp) (by omega) (by omega)).mono ?_
      rintro e W' ⟨x, rfl, hx, ff⟩
      exact hK x W' ff hx
    case s2_6 =>
      refine stepOk_of _ _ rfl rfl ?_
      intro v W2 f kp ho hd K' hK
      have f24 : VD W2 k (v 24) := (hd 5 (by decide) _ _ rfl rfl).1
      go_simp
      refine (isone_e Hhb4.out f24).mono ?_
      rintro e W' ⟨rfl, ff⟩
      exact hK _ W' ff rfl
    case s2_7 =>
      refine stepOk_of _ _ rfl rfl ?_
      intro v W2 f kp ho hd K' hK
      have e25 : v 25 = .bool b4 := (hd 6 (by decide) _ _ rfl rfl).1
      simp only [e25] at hK ⊢
      go_simp
      exact hK _ _ (Fr.refl [] _) rfl
    case done2 =>
      intro v W2 f kp hF hD
      have e19 : v 19 = .pointer (some ⟨w.heap.size, 0, none⟩) := (hF 0 _ _ rfl rfl).1
      have e20 : v 20 = .pointer (some ⟨w.heap.size, 1, none⟩) := (hF 1 _ _ rfl rfl).1
      have e21 : v 21 = .slice p n c := (hF 2 _ _ rfl rfl).1
      have e22 : v 22 = .pointer (some ⟨w.heap.size, 2, none⟩) := (hF 3 _ _ rfl rfl).1
      have e23 : v 23 = .slice q m d := (hF 4 _ _ rfl rfl).1
      have f24 : VD W2 k (v 24) := (hF 5 _ _ rfl rfl).1
      have e25 : v 25 = .bool b4 := (hF 6 _ _ rfl rfl).1
      have e2 : v 2 = .bool b4 := (hF 7 _ _ rfl rfl).1
      clear hF hD
      simp only [e19, e20, e21, e22, e23, e25, e2]
      replace b1 := b1.keep f (by simp)
      replace sa := sa.kp kp
      replace ta := ta.kp kp
      replace hw := hw.trans (a := w) (b := W1) (c := W2) f (by simp)
      have hsz2 := f.size
      clear f kp
      go_wp2_with fail
      exact bodyPost_ret (v := .bool b4) (by simp [results, Tryz.results19, go_sem]) rfl ⟨rfl, hw⟩

theorem nmb_dg (x : Nat) : nmb (dg x) = true := by
  unfold nmb
  apply decide_eq_true
  by_cases h : (dg x).length = 0
  · exact Or.inl h
  · obtain ⟨k, hk⟩ : ∃ k, (dg x).length = k + 1 := ⟨(dg x).length - 1, by omega⟩
    refine Or.inr ?_
    rw [hk]
    exact dg_last hk

theorem vi_dg (z : Int) : vi (decide (z < 0)) (dg z.natAbs).length (dg z.natAbs) = true := by
  unfold vi
  rw [nmb_dg]
  by_cases h : z < 0
  · have : (dg z.natAbs).length ≠ 0 := fun e => by
      have h2 := val_dg z.natAbs
      rw [List.eq_nil_of_length_eq_zero e] at h2
      simp [val] at h2
      omega
    rw [decide_eq_false this]; simp
  · rw [decide_eq_false h]; simp

theorem valid_nc {w : World} {z : Int} {x : Nat} {b : Bool} {p q : Option Addr} {c d : Nat} (hx0 : x ≠ 0) (hb : decide (x ≠ 0 ∧ Nat.gcd z.natAbs x = 1) = b) (s : Sl w p (dg z.natAbs).length c (dg z.natAbs)) (s' : Sl w q (dg x).length d (dg x)) (hz : nz z ≤ 131071) (hx : (dg x).length ≤ 131071) : Calls Tryz.prog 19 #[rw' (decide (z < 0)) p (dg z.natAbs).length c q (dg x).length d] w (RB b w) := by
  have e : b = decide (Nat.gcd (val (dg z.natAbs)) (val (dg x)) = 1) := by rw [val_dg, val_dg, ← hb]; simp [hx0]
  rw [e]
  exact valid_D s s' hz hx (vi_dg z) (nmb_dg x) (fun e => by
    have h2 := val_dg x
    rw [List.eq_nil_of_length_eq_zero e] at h2
    simp [val] at h2
    omega)

def VC (w : World) (z : Int) (x : Nat) (v : Value) : Prop := ∃ (p : Option Addr) (c : Nat) (q : Option Addr) (d : Nat), v = rw' (decide (z < 0)) p (dg z.natAbs).length c q (dg x).length d ∧ Sl w p (dg z.natAbs).length c (dg z.natAbs) ∧ Sl w q (dg x).length d (dg x)

theorem VC.kp {w w' : World} {z : Int} {x : Nat} {v : Value} (h : VC w z x v) (k : Kp w w') : VC w' z x v := by
  obtain ⟨p, c, q, d, e, s, t⟩ := h; exact ⟨p, c, q, d, e, s.kp k, t.kp k⟩

noncomputable def zP (s : ByteArray) : Int := iv (ips s) (val (ipx s))

noncomputable def nP (s : ByteArray) : Nat := val (prx s)

theorem prx_dg (s : ByteArray) : prx s = dg (nP s) := by
  unfold nP prx
  split
  · rw [val_dg]
  · rw [val, dg_zero]

theorem ipx_dg (s : ByteArray) : ipx s = dg (val (ipx s)) := by
  unfold ipx
  split
  · exact prx_dg _
  · rw [val, dg_zero]

theorem zP_sign {s : ByteArray} (h : ipe s = 0) : decide (zP s < 0) = ips s := by
  unfold zP
  have h1 : ips s = decide (isM s) := by unfold ips; rw [if_pos h]
  cases hs : ips s
  · exact decide_eq_false (by unfold iv; simp <;> omega)
  · have hm : isM s := by rw [hs] at h1; exact of_decide_eq_true h1.symm
    have hx : prx (ibody s) ≠ [] := by
      unfold ipe at h
      split at h
      · next q => exact fun e => q.2 ⟨hm, e⟩
      · cases h
    have h2 : ipx s = prx (ibody s) := by unfold ipx; rw [if_pos h]
    have h3 : val (ipx s) ≠ 0 := by
      rw [h2, prx_dg, val_dg]
      intro e
      exact hx (by rw [prx_dg, e, dg_zero])
    exact decide_eq_true (by unfold iv; simp <;> omega)

theorem zP_abs (s : ByteArray) : (zP s).natAbs = val (ipx s) := by unfold zP; rw [iv_abs]

theorem iparse_ok {s : ByteArray} {z : Int} {w : World} (h : s.size ≤ 4096) (h0 : ipe s = 0) (hz : zP s = z) : Calls Tryz.prog 135 #[.string s] w fun e w' => ∃ x, e = .returned (.tuple #[x, .int .i64 0]) ∧ VZ w' z x ∧ Fr [] w w' := by
  subst hz
  refine (iparse_any s w h).mono ?_
  rintro e w' ⟨p, c, rfl, o, f⟩
  rw [h0]
  refine ⟨_, rfl, ⟨p, c, ?_, ?_⟩, f⟩
  · rw [zP_sign h0, zP_abs, ← ipx_dg]
  · rw [zP_abs, ← ipx_dg]; exact o.sl

theorem nparse_ok {s : ByteArray} {x : Nat} {w : World} (h : s.size ≤ 4096) (h0 : pre s = 0) (hx : nP s = x) : Calls Tryz.prog 136 #[.string s] w fun e w' => ∃ u, e = .returned (.tuple #[u, .int .i64 0]) ∧ VD w' x u ∧ Fr [] w w' := by
  subst hx
  refine (parse_s s w h).mono ?_
  rintro e w' ⟨p, c, rfl, o, f⟩
  rw [h0]
  exact ⟨_, rfl, ⟨p, c, by rw [← prx_dg], by rw [← prx_dg]; exact o⟩, f⟩

set_option maxRecDepth 100000 in
set_option maxHeartbeats 1000000 in
theorem qparse_low {w : World} {s : ByteArray} {i : Nat} (_hs : s.size ≤ 4096) (hi : Lib.indexByte s.data.toList 47 = i) (hi2 : i + 1 ≤ s.size) (ha : ipe (s.extract 0 i) = 0) (hb : pre (s.extract (i + 1) s.size) = 0) (hx1 : nP (s.extract (i + 1) s.size) ≠ 1) (hx0 : nP (s.extract (i + 1) s.size) ≠ 0) (hg : ¬ (nP (s.extract (i + 1) s.size) ≠ 0 ∧ Nat.gcd (zP (s.extract 0 i)).natAbs (nP (s.extract (i + 1) s.size)) = 1)) (hzl : nz (zP (s.extract 0 i)) ≤ 131071) (hxl : (dg (nP (s.extract (i + 1) s.size))).length ≤ 131071) : Calls Tryz.prog 56 #[.string s] w (fun e w' => e = .returned (.tuple #[rw' false none 0 0 none 0 0, .int .i64 6]) ∧ Fr [] w w') := by
  have l0 : ¬ 4096 < s.size := by omega
  have tlen : decide ((4096 : Int) < (s.size : Int)) = false := decide_eq_false (by omega)
  obtain ⟨sa, hsa⟩ : ∃ t, s.extract 0 i = t := ⟨_, rfl⟩
  obtain ⟨sb, hsb⟩ : ∃ t, s.extract (i + 1) s.size = t := ⟨_, rfl⟩
  have la : sa.size ≤ 4096 := by rw [← hsa, ByteArray.size_extract]; omega
  have lb : sb.size ≤ 4096 := by rw [← hsb, ByteArray.size_extract]; omega
  rw [hsa] at ha
  rw [hsb] at hb
  obtain ⟨z, hz⟩ : ∃ z, zP sa = z := ⟨_, rfl⟩
  obtain ⟨xn, hx⟩ : ∃ x, nP sb = x := ⟨_, rfl⟩
  rw [hsa] at hzl
  rw [hsb] at hxl hx1
  rw [hz] at hzl
  rw [hx] at hxl hx1
  rw [hsa, hsb, hz, hx] at hg
  rw [hsb, hx] at hx0
  have h1 : decide (xn = 1) = false := decide_eq_false hx1
  have h2 : decide (xn ≠ 0 ∧ Nat.gcd z.natAbs xn = 1) = false := decide_eq_false hg
  clear hg
  clear hx1
  have Hha := Lib.hid ha; clear ha
  have Hhb := Lib.hid hb; clear hb
  have Hhz := Lib.hid hz; clear hz
  have Hhx := Lib.hid hx; clear hx
  have Hhi := Lib.hid hi; clear hi
  have Hhsa := Lib.hid hsa; clear hsa
  have Hhsb := Lib.hid hsb; clear hsb
  have Hh1 := Lib.hid h1; clear h1
  have Hh2 := Lib.hid h2; clear h2
  have Hhx0 := Lib.hid hx0; clear hx0
  go_enter Tryz.func56, Tryz.ntmps56
  go_upto_region 3 with fail
  have hw : Fr [] w (w.alloc (Obj.cells #[.bool false, .slice none 0 0, .slice none 0 0] 26)) := (Fr.refl _ _).alloc _
  have b2 : Bx (w.alloc (Obj.cells #[.bool false, .slice none 0 0, .slice none 0 0] 26)) w.heap.size 26 #[.bool false, .slice none 0 0, .slice none 0 0] := (Bx.made' (by simp) _ _).kept (Fr.refl _ _)
  generalize (w.alloc (Obj.cells #[.bool false, .slice none 0 0, .slice none 0 0] 26)) = W at *
  have hbs := b2.lt
  refine wp_region_inv (w0 := W) (by kernel_rfl) [false, true, false, false, true, true, true, false, false, false, false, true, true, true, true, true, true, true, true, true, true, false, false, false, false, false, false, false, false, false, false, false, false, false, false, false, false, false, false, false, false, false, false, false, false, false, false, false, false, false, false, false, false, false, false, false] []
    [⟨[16], F1 (fun xx _ => xx = .string s), .pure⟩,
    ⟨[17], F1 (fun xx ww => xx = .tuple #[.string sa, .string sb, .bool true]), .pure⟩,
    ⟨[15], F1 (fun xx ww => xx = .tuple #[.string sa, .string sb, .bool true]), .pure⟩,
    ⟨[18], F1 (fun xx _ => xx = .string sa), .pure⟩,
    ⟨[19], F1 (fun xx _ => xx = .string sb), .pure⟩,
    ⟨[20], F1 (fun xx _ => xx = .bool true), .pure⟩,
    ⟨[4], F1 (fun xx _ => xx = .string sa), .pure⟩,
    ⟨[5], F1 (fun xx _ => xx = .string sb), .pure⟩,
    ⟨[6], F1 (fun xx _ => xx = .bool true), .pure⟩]
    [[], [0], [0, 1], [0, 1, 2], [0, 1, 2], [0, 1, 2], [0, 1, 2, 3], [0, 1, 2, 3, 4, 6], [0, 1, 2, 3, 4, 5, 6, 7]] ?mk1 ?hmk1 (by kernel_rfl)
    ⟨F1.st (st_eq _), F1.st (fun _ _ _ k h => by exact h), F1.st (fun _ _ _ k h => by exact h), F1.st (st_eq _), F1.st (st_eq _), F1.st (st_eq _), F1.st (st_eq _), F1.st (st_eq _), F1.st (st_eq _), trivial⟩ (by simp) (by simp) (n := 9) rfl ⟨⟨⟨⟨⟨⟨⟨⟨⟨trivial, ?s1_0⟩, ?s1_1⟩, ?s1_2⟩, ?s1_3⟩, ?s1_4⟩, ?s1_5⟩, ?s1_6⟩, ?s1_7⟩, ?s1_8⟩ ?done1
  case hmk1 => intro v; simp only [mkv, mix, Nat.reduceAdd]; rfl
  case s1_0 =>
    refine stepOk_of _ _ rfl rfl ?_
    intro v W1 f kp ho hd K' hK
    go_simp
    exact hK _ _ (Fr.refl [] _) rfl
  case s1_1 =>
    refine stepOk_of _ _ rfl rfl ?_
    intro v W1 f kp ho hd K' hK
    have e16 : v 16 = .string s := (hd 0 (by decide) _ _ rfl rfl).1
    simp only [e16] at hK ⊢
    go_simp
    refine (cut_yes s i _ Hhi.out hi2 (by omega)).mono ?_
    rw [Hhsa.out, Hhsb.out]
    rintro e W' ⟨rfl, ff⟩
    exact hK _ W' ff rfl
  case s1_2 =>
    refine stepOk_of _ _ rfl rfl ?_
    intro v W1 f kp ho hd K' hK
    have f17 : v 17 = .tuple #[.string sa, .string sb, .bool true] := (hd 1 (by decide) _ _ rfl rfl).1
    have e17 := f17
    simp only [e17] at hK ⊢
    go_simp
    exact hK _ _ (Fr.refl [] _) rfl
  case s1_3 =>
    refine stepOk_of _ _ rfl rfl ?_
    intro v W1 f kp ho hd K' hK
    have f15 : v 15 = .tuple #[.string sa, .string sb, .bool true] := (hd 2 (by decide) _ _ rfl rfl).1
    have e15 := f15
    simp only [e15] at hK ⊢
    go_simp
    exact hK _ _ (Fr.refl [] _) rfl
  case s1_4 =>
    refine stepOk_of _ _ rfl rfl ?_
    intro v W1 f kp ho hd K' hK
    have f15 : v 15 = .tuple #[.string sa, .string sb, .bool true] := (hd 2 (by decide) _ _ rfl rfl).1
    have e15 := f15
    simp only [e15] at hK ⊢
    go_simp
    exact hK _ _ (Fr.refl [] _) rfl
  case s1_5 =>
    refine stepOk_of _ _ rfl rfl ?_
    intro v W1 f kp ho hd K' hK
    have f15 : v 15 = .tuple #[.string sa, .string sb, .bool true] := (hd 2 (by decide) _ _ rfl rfl).1
    have e15 := f15
    simp only [e15] at hK ⊢
    go_simp
    exact hK _ _ (Fr.refl [] _) rfl
  case s1_6 =>
    refine stepOk_of _ _ rfl rfl ?_
    intro v W1 f kp ho hd K' hK
    have e18 : v 18 = .string sa := (hd 3 (by decide) _ _ rfl rfl).1
    simp only [e18] at hK ⊢
    go_simp
    exact hK _ _ (Fr.refl [] _) rfl
  case s1_7 =>
    refine stepOk_of _ _ rfl rfl ?_
    intro v W1 f kp ho hd K' hK
    have e19 : v 19 = .string sb := (hd 4 (by decide) _ _ rfl rfl).1
    simp only [e19] at hK ⊢
    go_simp
    exact hK _ _ (Fr.refl [] _) rfl
  case s1_8 =>
    refine stepOk_of _ _ rfl rfl ?_
    intro v W1 f kp ho hd K' hK
    have e20 : v 20 = .bool true := (hd 5 (by decide) _ _ rfl rfl).1
    simp only [e20] at hK ⊢
    go_simp
    exact hK _ _ (Fr.refl [] _) rfl
  case done1 =>
    intro v W1 f kp hF hD
    have e16 : v 16 = .string s := (hF 0 _ _ rfl rfl).1
    have e18 : v 18 = .string sa := (hF 3 _ _ rfl rfl).1
    have e19 : v 19 = .string sb := (hF 4 _ _ rfl rfl).1
    have e20 : v 20 = .bool true := (hF 5 _ _ rfl rfl).1
    have e4 : v 4 = .string sa := (hF 6 _ _ rfl rfl).1
    have e5 : v 5 = .string sb := (hF 7 _ _ rfl rfl).1
    have e6 : v 6 = .bool true := (hF 8 _ _ rfl rfl).1
    clear hF hD
    simp only [e16, e18, e19, e20, e4, e5, e6]
    replace b2 := b2.keep f (by simp)
    replace hw := hw.trans (a := w) (b := W) (c := W1) f (by simp)
    have hsz1 := f.size
    clear f kp
    have c_b2_0 := b2.cell (j := 0) rfl
    have c_b2_1 := b2.cell (j := 1) rfl
    have c_b2_2 := b2.cell (j := 2) rfl
    go_upto_region 4 with fail
    clear c_b2_0 c_b2_1 c_b2_2
    refine wp_region_inv (w0 := W1) (by kernel_rfl) [true, true, false, false, false, false, false, true, true, false, false, true, true, true, true, true, true, true, true, true, true, true, true, true, true, true, false, false, false, false, false, false, false, false, false, false, false, false, false, false, false, false, false, false, false, false, false, false, false, false, false, false, false, false, false, false] []
      [⟨[22], F1 (fun xx _ => xx = .string sa), .pure⟩,
    ⟨[23], F1 (fun xx ww => ∃ y0, xx = .tuple #[y0, .int .i64 0] ∧ VZ ww z y0), .pure⟩,
    ⟨[21], F1 (fun xx ww => ∃ y0, xx = .tuple #[y0, .int .i64 0] ∧ VZ ww z y0), .pure⟩,
    ⟨[24], F1 (fun xx ww => VZ ww z xx), .pure⟩,
    ⟨[25], F1 (fun xx _ => xx = .int .i64 0), .pure⟩,
    ⟨[], F0, .new 24 2⟩,
    ⟨[24], F0, .store 7 24 cellsOf⟩,
    ⟨[8], F1 (fun xx _ => xx = .int .i64 0), .pure⟩]
      [[], [0], [0, 1], [0, 1, 2], [0, 1, 2], [], [0, 1, 2, 3, 5], [0, 1, 2, 3, 4, 5, 6]] ?mk2 ?hmk2 (by kernel_rfl)
      ⟨F1.st (st_eq _), F1.st (fun _ _ _ k h => by obtain ⟨y0, e, h0⟩ := h; exact ⟨y0, e, h0.kp k⟩), F1.st (fun _ _ _ k h => by obtain ⟨y0, e, h0⟩ := h; exact ⟨y0, e, h0.kp k⟩), F1.st (fun _ _ _ k h => h.kp k), F1.st (st_eq _), F0.st, F0.st, F1.st (st_eq _), trivial⟩ (by simp) (by simp) (n := 8) rfl ⟨⟨⟨⟨⟨⟨⟨⟨trivial, ?s2_0⟩, ?s2_1⟩, ?s2_2⟩, ?s2_3⟩, ?s2_4⟩, ?s2_5⟩, ?s2_6⟩, ?s2_7⟩ ?done2
    case hmk2 => intro v; simp only [mkv, mix, Nat.reduceAdd]; rfl
    case s2_0 =>
      refine stepOk_of _ _ rfl rfl ?_
      intro v W2 f kp ho hd K' hK
      go_simp
      exact hK _ _ (Fr.refl [] _) rfl
    case s2_1 =>
      refine stepOk_of _ _ rfl rfl ?_
      intro v W2 f kp ho hd K' hK
      have e22 : v 22 = .string sa := (hd 0 (by decide) _ _ rfl rfl).1
      simp only [e22] at hK ⊢
      go_simp
      refine (iparse_ok la Hha.out Hhz.out).mono ?_
      rintro e W' ⟨x0, rfl, y0, ff⟩
      exact hK _ W' ff ⟨_, rfl, y0⟩
    case s2_2 =>
      refine stepOk_of _ _ rfl rfl ?_
      intro v W2 f kp ho hd K' hK
      have f23 : ∃ y0, v 23 = .tuple #[y0, .int .i64 0] ∧ VZ W2 z y0 := (hd 1 (by decide) _ _ rfl rfl).1
      obtain ⟨a23_0, e23, h23_0⟩ := f23
      simp only [e23] at hK ⊢
      go_simp
      exact hK _ _ (Fr.refl [] _) ⟨_, rfl, h23_0⟩
    case s2_3 =>
      refine stepOk_of _ _ rfl rfl ?_
      intro v W2 f kp ho hd K' hK
      have f21 : ∃ y0, v 21 = .tuple #[y0, .int .i64 0] ∧ VZ W2 z y0 := (hd 2 (by decide) _ _ rfl rfl).1
      obtain ⟨a21_0, e21, h21_0⟩ := f21
      simp only [e21] at hK ⊢
      go_simp
      exact hK _ _ (Fr.refl [] _) h21_0
    case s2_4 =>
      refine stepOk_of _ _ rfl rfl ?_
      intro v W2 f kp ho hd K' hK
      have f21 : ∃ y0, v 21 = .tuple #[y0, .int .i64 0] ∧ VZ W2 z y0 := (hd 2 (by decide) _ _ rfl rfl).1
      obtain ⟨a21_0, e21, h21_0⟩ := f21
      simp only [e21] at hK ⊢
      go_simp
      exact hK _ _ (Fr.refl [] _) rfl
    case s2_5 =>
      refine stepOk_of _ _ rfl rfl ?_
      intro v W2 f kp ho hd K' hK
      go_simp
      exact hK _ _ (move_new rfl rfl rfl rfl rfl) trivial
    case s2_6 =>
      refine stepOk_of _ _ rfl rfl ?_
      intro v W2 f kp ho hd K' hK
      obtain ⟨-, A7, e7, -, sb7⟩ := hd 5 (by decide) _ _ rfl rfl
      have f24 : VZ W2 z (v 24) := (hd 3 (by decide) _ _ rfl rfl).1
      have o24 := f24
      obtain ⟨p24, c24, e24, s24⟩ := o24
      obtain ⟨zz0, zz1, bz⟩ := sb7.open2
      have k0 := bz.cell (j := 0) rfl
      have fr0 := bz.free 0
      have k1 := bz.cell (j := 1) rfl
      have fr1 := bz.free 1
      simp only [e7, e24] at hK ⊢
      go_simp
      exact hK undef _ (move_store (cs := #[.bool (decide (z < 0)), .slice p24 (dg (z).natAbs).length c24]) rfl e7 (by simp only [List.map, e24]; rfl) sb7 rfl rfl (((Fr.refl _ _).put1 0 _).put1 1 _) (((bz.put1 0 _).put1 1 _))) trivial
    case s2_7 =>
      refine stepOk_of _ _ rfl rfl ?_
      intro v W2 f kp ho hd K' hK
      have e25 : v 25 = .int .i64 0 := (hd 4 (by decide) _ _ rfl rfl).1
      simp only [e25] at hK ⊢
      go_simp
      exact hK _ _ (Fr.refl [] _) rfl
    case done2 =>
      intro v W2 f kp hF hD
      have e22 : v 22 = .string sa := (hF 0 _ _ rfl rfl).1
      have f24 : VZ W2 z (v 24) := (hF 3 _ _ rfl rfl).1
      have o24 := f24
      obtain ⟨p24, c24, e24, s24⟩ := o24
      rw [e24] at f24
      have e25 : v 25 = .int .i64 0 := (hF 4 _ _ rfl rfl).1
      obtain ⟨-, A7, e7, g7, -⟩ := hF 5 _ _ rfl rfl
      have e8 : v 8 = .int .i64 0 := (hF 7 _ _ rfl rfl).1
      obtain ⟨-, A', eA, b7⟩ := hF 6 _ _ rfl rfl
      rw [e7] at eA; injection eA with eA; injection eA with eA; injection eA with eA; subst eA
      replace b7 : Bx W2 A7 24 #[.bool (decide (z < 0)), .slice p24 (dg (z).natAbs).length c24] := by simp only [List.map, e24] at b7; exact b7
      clear hF hD
      simp only [e22, e24, e25, e7, e8]
      replace b2 := b2.keep f (by simp)
      replace hw := hw.trans (a := w) (b := W1) (c := W2) f (by simp)
      have hsz2 := f.size
      clear f kp
      have hlt_b7 := b7.lt
      have c_b2_0 := b2.cell (j := 0) rfl
      have c_b2_1 := b2.cell (j := 1) rfl
      have c_b2_2 := b2.cell (j := 2) rfl
      have c_b7_0 := b7.cell (j := 0) rfl
      have c_b7_1 := b7.cell (j := 1) rfl
      go_upto_region 9 with fail
      clear c_b2_0 c_b2_1 c_b2_2 c_b7_0 c_b7_1
      refine wp_region_inv (w0 := W2) (by kernel_rfl) [true, true, false, false, true, false, true, false, true, true, false, true, true, true, true, true, true, true, true, true, true, true, true, true, true, true, true, true, true, true, true, true, true, true, true, true, true, true, true, true, false, false, false, false, false, false, false, false, false, false, false, false, false, false, false, false] []
        [⟨[36], F1 (fun xx _ => xx = .string sb), .pure⟩,
    ⟨[37], F1 (fun xx ww => ∃ y0, xx = .tuple #[y0, .int .i64 0] ∧ VD ww xn y0), .pure⟩,
    ⟨[35], F1 (fun xx ww => ∃ y0, xx = .tuple #[y0, .int .i64 0] ∧ VD ww xn y0), .pure⟩,
    ⟨[38], F1 (fun xx ww => VD ww xn xx), .pure⟩,
    ⟨[39], F1 (fun xx _ => xx = .int .i64 0), .pure⟩,
    ⟨[9], F1 (fun xx ww => VD ww xn xx), .pure⟩,
    ⟨[8], F1 (fun xx _ => xx = .int .i64 0), .pure⟩]
        [[], [0], [0, 1], [0, 1, 2], [0, 1, 2], [0, 1, 2, 3], [0, 1, 2, 3, 4, 5]] ?mk3 ?hmk3 (by kernel_rfl)
        ⟨F1.st (st_eq _), F1.st (fun _ _ _ k h => by obtain ⟨y0, e, h0⟩ := h; exact ⟨y0, e, h0.kp k⟩), F1.st (fun _ _ _ k h => by obtain ⟨y0, e, h0⟩ := h; exact ⟨y0, e, h0.kp k⟩), F1.st (fun _ _ _ k h => h.kp k), F1.st (st_eq _), F1.st (fun _ _ _ k h => h.kp k), F1.st (st_eq _), trivial⟩ (by simp) (by simp) (n := 7) rfl ⟨⟨⟨⟨⟨⟨⟨trivial, ?s3_0⟩, ?s3_1⟩, ?s3_2⟩, ?s3_3⟩, ?s3_4⟩, ?s3_5⟩, ?s3_6⟩ ?done3
      case hmk3 => intro v; simp only [mkv, mix, Nat.reduceAdd]; rfl
      case s3_0 =>
        refine stepOk_of _ _ rfl rfl ?_
        intro v W3 f kp ho hd K' hK
        go_simp
        exact hK _ _ (Fr.refl [] _) rfl
      case s3_1 =>
        refine stepOk_of _ _ rfl rfl ?_
        intro v W3 f kp ho hd K' hK
        have e36 : v 36 = .string sb := (hd 0 (by decide) _ _ rfl rfl).1
        simp only [e36] at hK ⊢
        go_simp
        refine (nparse_ok lb Hhb.out Hhx.out).mono ?_
        rintro e W' ⟨x0, rfl, y0, ff⟩
        exact hK _ W' ff ⟨_, rfl, y0⟩
      case s3_2 =>
        refine stepOk_of _ _ rfl rfl ?_
        intro v W3 f kp ho hd K' hK
        have f37 : ∃ y0, v 37 = .tuple #[y0, .int .i64 0] ∧ VD W3 xn y0 := (hd 1 (by decide) _ _ rfl rfl).1
        obtain ⟨a37_0, e37, h37_0⟩ := f37
        simp only [e37] at hK ⊢
        go_simp
        exact hK _ _ (Fr.refl [] _) ⟨_, rfl, h37_0⟩
      case s3_3 =>
        refine stepOk_of _ _ rfl rfl ?_
        intro v W3 f kp ho hd K' hK
        have f35 : ∃ y0, v 35 = .tuple #[y0, .int .i64 0] ∧ VD W3 xn y0 := (hd 2 (by decide) _ _ rfl rfl).1
        obtain ⟨a35_0, e35, h35_0⟩ := f35
        simp only [e35] at hK ⊢
        go_simp
        exact hK _ _ (Fr.refl [] _) h35_0
      case s3_4 =>
        refine stepOk_of _ _ rfl rfl ?_
        intro v W3 f kp ho hd K' hK
        have f35 : ∃ y0, v 35 = .tuple #[y0, .int .i64 0] ∧ VD W3 xn y0 := (hd 2 (by decide) _ _ rfl rfl).1
        obtain ⟨a35_0, e35, h35_0⟩ := f35
        simp only [e35] at hK ⊢
        go_simp
        exact hK _ _ (Fr.refl [] _) rfl
      case s3_5 =>
        refine stepOk_of _ _ rfl rfl ?_
        intro v W3 f kp ho hd K' hK
        have f38 : VD W3 xn (v 38) := (hd 3 (by decide) _ _ rfl rfl).1
        go_simp
        exact hK _ _ (Fr.refl [] _) f38
      case s3_6 =>
        refine stepOk_of _ _ rfl rfl ?_
        intro v W3 f kp ho hd K' hK
        have e39 : v 39 = .int .i64 0 := (hd 4 (by decide) _ _ rfl rfl).1
        simp only [e39] at hK ⊢
        go_simp
        exact hK _ _ (Fr.refl [] _) rfl
      case done3 =>
        intro v W3 f kp hF hD
        have e36 : v 36 = .string sb := (hF 0 _ _ rfl rfl).1
        have f38 : VD W3 xn (v 38) := (hF 3 _ _ rfl rfl).1
        have e39 : v 39 = .int .i64 0 := (hF 4 _ _ rfl rfl).1
        have f9 : VD W3 xn (v 9) := (hF 5 _ _ rfl rfl).1
        have e8 : v 8 = .int .i64 0 := (hF 6 _ _ rfl rfl).1
        clear hF hD
        simp only [e36, e39, e8]
        replace b2 := b2.keep f (by simp)
        replace b7 := b7.keep f (by simp)
        replace s24 := s24.kp kp
        replace f24 := f24.kp kp
        replace hw := hw.trans (a := w) (b := W2) (c := W3) f (by simp)
        have hsz3 := f.size
        clear f kp
        have c_b2_0 := b2.cell (j := 0) rfl
        have c_b2_1 := b2.cell (j := 1) rfl
        have c_b2_2 := b2.cell (j := 2) rfl
        have c_b7_0 := b7.cell (j := 0) rfl
        have c_b7_1 := b7.cell (j := 1) rfl
        go_upto_region 12 with fail
        clear c_b2_0 c_b2_1 c_b2_2 c_b7_0 c_b7_1
        refine wp_region_inv (w0 := W3) (by kernel_rfl) [true, true, false, false, true, true, true, false, true, false, true, true, true, true, true, true, true, true, true, true, true, true, true, true, true, true, true, true, true, true, true, true, true, true, true, true, true, true, true, true, true, true, true, true, true, true, true, false, false, false, false, false, false, false, false, false] []
          [⟨[44], F1 (fun xx _ => xx = .agg #[.bool (decide (z < 0)), .slice p24 (dg (z).natAbs).length c24]), .pure⟩,
    ⟨[45], F1 (fun xx ww => VD ww xn xx), .pure⟩,
    ⟨[46], F1 (fun xx ww => VC ww z xn xx), .pure⟩,
    ⟨[], F0, .new 26 3⟩,
    ⟨[46], F0, .store 10 26 cellsOf⟩]
          [[], [], [0, 1], [], [0, 1, 2, 3]] ?mk4 ?hmk4 (by kernel_rfl)
          ⟨F1.st (st_eq _), F1.st (fun _ _ _ k h => h.kp k), F1.st (fun _ _ _ k h => h.kp k), F0.st, F0.st, trivial⟩ (by simp) (by simp) (n := 5) rfl ⟨⟨⟨⟨⟨trivial, ?s4_0⟩, ?s4_1⟩, ?s4_2⟩, ?s4_3⟩, ?s4_4⟩ ?done4
        case hmk4 => intro v; simp only [mkv, mix, Nat.reduceAdd]; rfl
        case s4_0 =>
          refine stepOk_of _ _ rfl rfl ?_
          intro v W4 f kp ho hd K' hK
          have k0 := (b7.keep f (by simp)).cell (j := 0) rfl
          have k1 := (b7.keep f (by simp)).cell (j := 1) rfl
          go_simp
          exact hK _ _ (Fr.refl [] _) rfl
        case s4_1 =>
          refine stepOk_of _ _ rfl rfl ?_
          intro v W4 f kp ho hd K' hK
          go_simp
          exact hK _ _ (Fr.refl [] _) (f9.kp kp)
        case s4_2 =>
          refine stepOk_of _ _ rfl rfl ?_
          intro v W4 f kp ho hd K' hK
          have e44 : v 44 = .agg #[.bool (decide (z < 0)), .slice p24 (dg (z).natAbs).length c24] := (hd 0 (by decide) _ _ rfl rfl).1
          have f45 : VD W4 xn (v 45) := (hd 1 (by decide) _ _ rfl rfl).1
          have o45 := f45
          obtain ⟨p45, c45, e45, s45⟩ := o45
          simp only [e44, e45] at hK ⊢
          go_simp
          exact hK _ _ (Fr.refl [] _) ⟨_, _, _, _, rfl, (s24.kp kp), s45⟩
        case s4_3 =>
          refine stepOk_of _ _ rfl rfl ?_
          intro v W4 f kp ho hd K' hK
          go_simp
          exact hK _ _ (move_new rfl rfl rfl rfl rfl) trivial
        case s4_4 =>
          refine stepOk_of _ _ rfl rfl ?_
          intro v W4 f kp ho hd K' hK
          obtain ⟨-, A10, e10, -, sb10⟩ := hd 3 (by decide) _ _ rfl rfl
          have f46 : VC W4 z xn (v 46) := (hd 2 (by decide) _ _ rfl rfl).1
          have o46 := f46
          obtain ⟨p46, c46, q46, d46, e46, s46, t46⟩ := o46
          obtain ⟨zz0, zz1, zz2, bz⟩ := sb10.open3
          have k0 := bz.cell (j := 0) rfl
          have fr0 := bz.free 0
          have k1 := bz.cell (j := 1) rfl
          have fr1 := bz.free 1
          have k2 := bz.cell (j := 2) rfl
          have fr2 := bz.free 2
          simp only [e10, e46] at hK ⊢
          go_simp
          exact hK undef _ (move_store (cs := #[.bool (decide (z < 0)), .slice p46 (dg (z).natAbs).length c46, .slice q46 (dg xn).length d46]) rfl e10 (by simp only [List.map, e46]; rfl) sb10 rfl rfl ((((Fr.refl _ _).put1 0 _).put1 1 _).put1 2 _) ((((bz.put1 0 _).put1 1 _).put1 2 _))) trivial
        case done4 =>
          intro v W4 f kp hF hD
          have e44 : v 44 = .agg #[.bool (decide (z < 0)), .slice p24 (dg (z).natAbs).length c24] := (hF 0 _ _ rfl rfl).1
          have f45 : VD W4 xn (v 45) := (hF 1 _ _ rfl rfl).1
          have f46 : VC W4 z xn (v 46) := (hF 2 _ _ rfl rfl).1
          have o46 := f46
          obtain ⟨p46, c46, q46, d46, e46, s46, t46⟩ := o46
          rw [e46] at f46
          obtain ⟨-, A10, e10, g10, -⟩ := hF 3 _ _ rfl rfl
          obtain ⟨-, A', eA, b10⟩ := hF 4 _ _ rfl rfl
          rw [e10] at eA; injection eA with eA; injection eA with eA; injection eA with eA; subst eA
          replace b10 : Bx W4 A10 26 #[.bool (decide (z < 0)), .slice p46 (dg (z).natAbs).length c46, .slice q46 (dg xn).length d46] := by simp only [List.map, e46] at b10; exact b10
          clear hF hD
          simp only [e44, e46, e10]
          replace b2 := b2.keep f (by simp)
          replace b7 := b7.keep f (by simp)
          replace s24 := s24.kp kp
          replace f24 := f24.kp kp
          replace f38 := f38.kp kp
          replace f9 := f9.kp kp
          replace hw := hw.trans (a := w) (b := W3) (c := W4) f (by simp)
          have hsz4 := f.size
          clear f kp
          have hlt_b10 := b10.lt
          have c_b2_0 := b2.cell (j := 0) rfl
          have c_b2_1 := b2.cell (j := 1) rfl
          have c_b2_2 := b2.cell (j := 2) rfl
          have c_b7_0 := b7.cell (j := 0) rfl
          have c_b7_1 := b7.cell (j := 1) rfl
          have c_b10_0 := b10.cell (j := 0) rfl
          have c_b10_1 := b10.cell (j := 1) rfl
          have c_b10_2 := b10.cell (j := 2) rfl
          go_upto_region 13 with fail
          clear c_b2_0 c_b2_1 c_b2_2 c_b7_0 c_b7_1 c_b10_0 c_b10_1 c_b10_2
          refine wp_region_inv (w0 := W4) (by kernel_rfl) [true, true, false, false, true, true, true, true, true, false, false, true, true, true, true, true, true, true, true, true, true, true, true, true, true, true, true, true, true, true, true, true, true, true, true, true, true, true, true, true, true, true, true, true, true, true, true, true, true, true, true, true, true, true, false, false] []
            [⟨[47], F1 (fun xx ww => VD ww xn xx), .pure⟩,
    ⟨[48], F1 (fun xx _ => xx = .bool false), .pure⟩,
    ⟨[49], F1 (fun xx _ => xx = .bool false), .pure⟩,
    ⟨[50], F1 (fun xx _ => xx = .agg #[.bool (decide (z < 0)), .slice p46 (dg (z).natAbs).length c46, .slice q46 (dg xn).length d46]), .pure⟩,
    ⟨[51], F1 (fun xx _ => xx = .bool false), .pure⟩,
    ⟨[52], F1 (fun xx _ => xx = .bool true), .pure⟩,
    ⟨[53], F1 (fun xx _ => xx = .bool true), .pure⟩]
            [[], [0], [0, 1], [0, 1, 2], [0, 1, 2, 3], [0, 1, 2, 3, 4], [0, 1, 2, 3, 4, 5]] ?mk5 ?hmk5 (by kernel_rfl)
            ⟨F1.st (fun _ _ _ k h => h.kp k), F1.st (st_eq _), F1.st (st_eq _), F1.st (st_eq _), F1.st (st_eq _), F1.st (st_eq _), F1.st (st_eq _), trivial⟩ (by simp) (by simp) (n := 7) rfl ⟨⟨⟨⟨⟨⟨⟨trivial, ?s5_0⟩, ?s5_1⟩, ?s5_2⟩, ?s5_3⟩, ?s5_4⟩, ?s5_5⟩, ?s5_6⟩ ?done5
          case hmk5 => intro v; simp only [mkv, mix, Nat.reduceAdd]; rfl
          case s5_0 =>
            refine stepOk_of _ _ rfl rfl ?_
            intro v W5 f kp ho hd K' hK
            go_simp
            exact hK _ _ (Fr.refl [] _) (f9.kp kp)
          case s5_1 =>
            refine stepOk_of _ _ rfl rfl ?_
            intro v W5 f kp ho hd K' hK
            have f47 : VD W5 xn (v 47) := (hd 0 (by decide) _ _ rfl rfl).1
            go_simp
            refine (isone_e Hh1.out (f47)).mono ?_
            rintro e W' ⟨rfl, ff⟩
            exact hK _ W' ff rfl
          case s5_2 =>
            refine stepOk_of _ _ rfl rfl ?_
            intro v W5 f kp ho hd K' hK
            have e48 : v 48 = .bool false := (hd 1 (by decide) _ _ rfl rfl).1
            simp only [e48] at hK ⊢
            go_simp
            exact hK _ _ (Fr.refl [] _) rfl
          case s5_3 =>
            refine stepOk_of _ _ rfl rfl ?_
            intro v W5 f kp ho hd K' hK
            have e49 : v 49 = .bool false := (hd 2 (by decide) _ _ rfl rfl).1
            have k0 := (b10.keep f (by simp)).cell (j := 0) rfl
            have k1 := (b10.keep f (by simp)).cell (j := 1) rfl
            have k2 := (b10.keep f (by simp)).cell (j := 2) rfl
            simp only [e49] at hK ⊢
            go_simp
            exact hK _ _ (Fr.refl [] _) rfl
          case s5_4 =>
            refine stepOk_of _ _ rfl rfl ?_
            intro v W5 f kp ho hd K' hK
            have e50 : v 50 = .agg #[.bool (decide (z < 0)), .slice p46 (dg (z).natAbs).length c46, .slice q46 (dg xn).length d46] := (hd 3 (by decide) _ _ rfl rfl).1
            have e49 : v 49 = .bool false := (hd 2 (by decide) _ _ rfl rfl).1
            simp only [e50, e49] at hK ⊢
            go_simp
            refine (valid_nc Hhx0.out Hh2.out (s46.kp kp) (t46.kp kp) hzl hxl).mono ?_
            rintro e W' ⟨rfl, ff⟩
            exact hK _ W' ff rfl
          case s5_5 =>
            refine stepOk_of _ _ rfl rfl ?_
            intro v W5 f kp ho hd K' hK
            have e51 : v 51 = .bool false := (hd 4 (by decide) _ _ rfl rfl).1
            have e49 : v 49 = .bool false := (hd 2 (by decide) _ _ rfl rfl).1
            simp only [e51, e49] at hK ⊢
            go_simp
            exact hK _ _ (Fr.refl [] _) rfl
          case s5_6 =>
            refine stepOk_of _ _ rfl rfl ?_
            intro v W5 f kp ho hd K' hK
            have e49 : v 49 = .bool false := (hd 2 (by decide) _ _ rfl rfl).1
            have e52 : v 52 = .bool true := (hd 5 (by decide) _ _ rfl rfl).1
            simp only [e49, e52] at hK ⊢
            go_simp
            exact hK _ _ (Fr.refl [] _) rfl
          case done5 =>
            intro v W5 f kp hF hD
            have f47 : VD W5 xn (v 47) := (hF 0 _ _ rfl rfl).1
            have e48 : v 48 = .bool false := (hF 1 _ _ rfl rfl).1
            have e49 : v 49 = .bool false := (hF 2 _ _ rfl rfl).1
            have e50 : v 50 = .agg #[.bool (decide (z < 0)), .slice p46 (dg (z).natAbs).length c46, .slice q46 (dg xn).length d46] := (hF 3 _ _ rfl rfl).1
            have e51 : v 51 = .bool false := (hF 4 _ _ rfl rfl).1
            have e52 : v 52 = .bool true := (hF 5 _ _ rfl rfl).1
            have e53 : v 53 = .bool true := (hF 6 _ _ rfl rfl).1
            clear hF hD
            simp only [e48, e49, e50, e51, e52, e53]
            replace b2 := b2.keep f (by simp)
            replace b7 := b7.keep f (by simp)
            replace b10 := b10.keep f (by simp)
            replace s24 := s24.kp kp
            replace f24 := f24.kp kp
            replace f38 := f38.kp kp
            replace f9 := f9.kp kp
            replace f45 := f45.kp kp
            replace s46 := s46.kp kp
            replace t46 := t46.kp kp
            replace f46 := f46.kp kp
            replace hw := hw.trans (a := w) (b := W4) (c := W5) f (by simp)
            have hsz5 := f.size
            clear f kp
            have c_b2_0 := b2.cell (j := 0) rfl
            have c_b2_1 := b2.cell (j := 1) rfl
            have c_b2_2 := b2.cell (j := 2) rfl
            have c_b7_0 := b7.cell (j := 0) rfl
            have c_b7_1 := b7.cell (j := 1) rfl
            have c_b10_0 := b10.cell (j := 0) rfl
            have c_b10_1 := b10.cell (j := 1) rfl
            have c_b10_2 := b10.cell (j := 2) rfl
            go_upto_region 14 with fail
            clear c_b2_0 c_b2_1 c_b2_2 c_b7_0 c_b7_1 c_b10_0 c_b10_1 c_b10_2
            refine wp_region_inv (w0 := W5) (by kernel_rfl) [true, true, false, true, true, true, true, true, true, true, false, true, true, true, true, true, true, true, true, true, true, true, true, true, true, true, true, true, true, true, true, true, true, true, true, true, true, true, true, true, true, true, true, true, true, true, true, true, true, true, true, true, true, true, true, false] [w.heap.size]
              [⟨[54], F1 (fun xx _ => xx = .agg #[.bool false, .slice none 0 0, .slice none 0 0]), .pure⟩,
    ⟨[54], F0, .out 0 26 cellsOf⟩,
    ⟨[3], F1 (fun xx _ => xx = .int .i64 6), .pure⟩]
              [[], [0], [0, 1]] ?mk6 ?hmk6 (by kernel_rfl)
              ⟨F1.st (st_eq _), F0.st, F1.st (st_eq _), trivial⟩ (by simp) (by simp <;> omega) (n := 3) rfl ⟨⟨⟨trivial, ?s6_0⟩, ?s6_1⟩, ?s6_2⟩ ?done6
            case hmk6 => intro v; simp only [mkv, mix, Nat.reduceAdd]; rfl
            case s6_0 =>
              refine stepOk_of _ _ rfl rfl ?_
              intro v W6 f kp ho hd K' hK
              go_simp
              exact hK _ _ (Fr.refl [] _) rfl
            case s6_1 =>
              refine stepOk_of _ _ rfl rfl ?_
              intro v W6 f kp ho hd K' hK
              have e54 : v 54 = .agg #[.bool false, .slice none 0 0, .slice none 0 0] := (hd 0 (by decide) _ _ rfl rfl).1
              have bz : Bx W6 w.heap.size 26 #[.bool false, .slice none 0 0, .slice none 0 0] := (ho 0 _ rfl (by kernel_rfl)).trans b2
              have k0 := bz.cell (j := 0) rfl
              have fr0 := bz.free 0
              have k1 := bz.cell (j := 1) rfl
              have fr1 := bz.free 1
              have k2 := bz.cell (j := 2) rfl
              have fr2 := bz.free 2
              simp only [e54] at hK ⊢
              go_simp
              exact hK undef _ (move_out (cs := #[.bool false, .slice none 0 0, .slice none 0 0]) rfl rfl (by simp only [List.map, e54]; rfl) (bz.soft rfl) rfl rfl ((((Fr.refl _ _).put1 0 _).put1 1 _).put1 2 _) ((((bz.put1 0 _).put1 1 _).put1 2 _))) trivial
            case s6_2 =>
              refine stepOk_of _ _ rfl rfl ?_
              intro v W6 f kp ho hd K' hK
              go_simp
              exact hK _ _ (Fr.refl [] _) rfl
            case done6 =>
              intro v W6 f kp hF hD
              have e54 : v 54 = .agg #[.bool false, .slice none 0 0, .slice none 0 0] := (hF 0 _ _ rfl rfl).1
              have e3 : v 3 = .int .i64 6 := (hF 2 _ _ rfl rfl).1
              obtain ⟨-, A', eA, nb2⟩ := hF 1 _ _ rfl rfl
              injection eA with eA; subst eA
              replace nb2 : Bx W6 w.heap.size 26 #[.bool false, .slice none 0 0, .slice none 0 0] := by simp only [List.map, e54] at nb2; exact nb2
              clear hF hD
              simp only [e54, e3]
              replace b7 := b7.keep f (by simp <;> omega)
              replace b10 := b10.keep f (by simp <;> omega)
              clear b2; have b2 := nb2; clear nb2
              replace s24 := s24.kp kp
              replace f24 := f24.kp kp
              replace f38 := f38.kp kp
              replace f9 := f9.kp kp
              replace f45 := f45.kp kp
              replace s46 := s46.kp kp
              replace t46 := t46.kp kp
              replace f46 := f46.kp kp
              replace f47 := f47.kp kp
              replace hw := hw.trans (a := w) (b := W5) (c := W6) f (fun x hx hl => by simp at hx; omega)
              have hsz6 := f.size
              clear f kp
              go_wp2_with fail
              have c_b2_0 := b2.cell (j := 0) rfl
              have c_b2_1 := b2.cell (j := 1) rfl
              have c_b2_2 := b2.cell (j := 2) rfl
              exact bodyPost_ret (v := .tuple #[rw' false none 0 0 none 0 0, .int .i64 6]) (by simp [results, Tryz.results56, go_sem, c_b2_0, c_b2_1, c_b2_2]) rfl ⟨rfl, hw⟩

end Go.Proofs.YtjjdbhohjphcoaaGreatDoor
