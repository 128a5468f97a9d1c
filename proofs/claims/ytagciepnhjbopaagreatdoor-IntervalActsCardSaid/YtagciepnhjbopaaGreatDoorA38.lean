/- What the statements of this claim stand on: of Same, what they name -/
import Derived.Test.YtagciepnhjbopaaGreatDoorA30
import Derived.Test.YtagciepnhjbopaaGreatDoorA36

namespace Go.Proofs.YtagciepnhjbopaaGreatDoor
open Go.RowKit

set_option maxRecDepth 100000 in
set_option maxHeartbeats 400000 in
theorem rsame_ne (p q : Option Addr) (n m c d : Nat) (w : World) (_hnm : n ≠ m) :
    Calls Tryz.prog 104 #[.slice p n c, .slice q m d] w (RB false w) := by
  have hne : ((n : Int) != m) = true := by simp; omega
  go_enter Tryz.func104, Tryz.ntmps104
  go_wp2
  go_ret
  exact ⟨rfl, Fr.refl _ _⟩

set_option maxRecDepth 100000 in
set_option maxHeartbeats 400000 in
theorem rsame_eq (p q : Option Addr) (n c d : Nat) (xs ys : List Nat) (w : World) (h1 : Sl w p n c xs) (h2 : Sl w q n d ys) :
    Calls Tryz.prog 104 #[.slice p n c, .slice q n d] w (RB (decide (xs = ys)) w) := by
  have hx := h1.len
  have hy := h2.len
  have hc := h1.le
  have hm := h1.cap
  have hne : ((n : Int) != n) = false := by simp
  go_enter Tryz.func104, Tryz.ntmps104
  go_wp2
  go_loopw [5] (fun s wr => ∃ k : Nat, k ≤ n ∧ s = .int .i64 k ∧ Fr [] w wr ∧ ∀ j, j < k → gd xs j = gd ys j) (fun s _ => n - (intOf s).toNat)
  case atStart => exact ⟨0, Nat.zero_le _, rfl, Fr.refl _ _, fun j h => absurd h (Nat.not_lt_zero j)⟩
  case round =>
    obtain ⟨k, hk, rfl, hf, heq⟩ := hrel
    have Heq := Lib.hid heq
    clear heq
    have g1 := (h1.kept hf).rd
    have g2 := (h2.kept hf).rd
    have Hx := Lib.hid hx
    have Hy := Lib.hid hy
    by_cases hlt : k < n
    · obtain ⟨b1, o1, rfl, _, k1⟩ := g1.open (by omega)
      obtain ⟨b2, o2, rfl, _, k2⟩ := g2.open (by omega)
      have c1 := k1 k (by omega)
      have c2 := k2 k (by omega)
      clear h1 h2 hx hy
      obtain ⟨x, hx0⟩ : ∃ x, gd xs k = x := ⟨_, rfl⟩
      obtain ⟨y, hy0⟩ : ∃ y, gd ys k = y := ⟨_, rfl⟩
      rw [hx0] at c1
      rw [hy0] at c2
      have Hx0 := Lib.hid hx0
      have Hy0 := Lib.hid hy0
      clear k1 k2 hx0 hy0
      by_cases hxy : x = y
      · have hxx : ((x : Int) != y) = false := by simp; omega
        have Hxy := Lib.hid hxy
        clear hxy
        go_wp2
        go_quiet (fail)
        go_wp2
        go_roundw
        case rel => exact ⟨k + 1, by omega, by go_num, hf.drewN _, fun j hj => by
          by_cases h : j < k
          · exact Heq.out j h
          · obtain rfl : j = k := by omega
            rw [Hx0.out, Hy0.out, Hxy.out]⟩
        case measure => simp [intOf]; omega
      · have hxx : ((x : Int) != y) = true := by simp; omega
        have Hxy := Lib.hid hxy
        clear hxy
        go_wp2
        go_quiet (fail)
        go_wp2
        go_ret
        refine ⟨?_, hf.drewN _⟩
        have h : ¬ xs = ys := fun e => Hxy.out (by rw [← Hx0.out, ← Hy0.out, e])
        rw [decide_eq_false h]; rfl
    · clear h1 h2
      go_wp2
      go_ret
      refine ⟨?_, hf⟩
      have h : xs = ys := gd_ext (by rw [Hx.out, Hy.out]) (fun j hj => Heq.out j (by rw [Hx.out] at hj; omega))
      rw [decide_eq_true h]; rfl

theorem rsame_g {p q : Option Addr} {n m c d : Nat} {xs ys : List Nat} {w : World} (h1 : Sl w p n c xs) (h2 : Sl w q m d ys) :
    Calls Tryz.prog 104 #[.slice p n c, .slice q m d] w (RB (decide (xs = ys)) w) := by
  by_cases h : n = m
  · subst h; exact rsame_eq p q n c d xs ys w h1 h2
  · have e : ¬ xs = ys := fun e => h (by rw [← h1.len, ← h2.len, e])
    rw [decide_eq_false e]
    exact rsame_ne p q n m c d w h

theorem rsame_e {p q : Option Addr} {n m c d : Nat} {xs ys : List Nat} {w : World} {b : Bool} (hb : decide (xs = ys) = b) (h1 : Sl w p n c xs) (h2 : Sl w q m d ys) :
    Calls Tryz.prog 104 #[.slice p n c, .slice q m d] w (RB b w) := hb ▸ rsame_g h1 h2

set_option maxRecDepth 100000 in
set_option maxHeartbeats 1000000 in
theorem isame_true (p p' : Option Addr) (n c n' c' : Nat) (w : World) : Calls Tryz.prog 53 #[iw true p n c, iw false p' n' c'] w (RB false w) := by
  go_enter Tryz.func53, Tryz.ntmps53
  go_upto_region 1 with fail
  have hw : Fr [] w ((w.alloc (Obj.cells #[.bool true, .slice p n c] 24)).alloc (Obj.cells #[.bool false, .slice p' n' c'] 24)) := ((Fr.refl _ _).alloc _).alloc _
  have b2 : Bx ((w.alloc (Obj.cells #[.bool true, .slice p n c] 24)).alloc (Obj.cells #[.bool false, .slice p' n' c'] 24)) w.heap.size 24 #[.bool true, .slice p n c] := (Bx.made' (by simp) _ _).kept ((Fr.refl _ _).alloc _)
  have b3 : Bx ((w.alloc (Obj.cells #[.bool true, .slice p n c] 24)).alloc (Obj.cells #[.bool false, .slice p' n' c'] 24)) (w.heap.size + 1) 24 #[.bool false, .slice p' n' c'] := (Bx.made' (by simp) _ _).kept (Fr.refl _ _)
  generalize ((w.alloc (Obj.cells #[.bool true, .slice p n c] 24)).alloc (Obj.cells #[.bool false, .slice p' n' c'] 24)) = W at *
  have hbs := b3.lt
  refine wp_region_inv (w0 := W) (by kernel_rfl) [true, true, false, false, true, true, true, true, true, true, true, true, true, true, true, true, true] []
    [⟨[5], F1 (fun xx _ => xx = .pointer (some ⟨w.heap.size, 0, none⟩)), .pure⟩,
    ⟨[6], F1 (fun xx _ => xx = .bool true), .pure⟩,
    ⟨[7], F1 (fun xx _ => xx = .pointer (some ⟨w.heap.size + 1, 0, none⟩)), .pure⟩,
    ⟨[8], F1 (fun xx _ => xx = .bool false), .pure⟩,
    ⟨[9], F1 (fun xx _ => xx = .bool false), .pure⟩,
    ⟨[10], F1 (fun xx _ => xx = .bool false), .pure⟩,
    ⟨[11], F1 (fun xx _ => xx = undef), .pure⟩,
    ⟨[12], F1 (fun xx _ => xx = undef), .pure⟩,
    ⟨[13], F1 (fun xx _ => xx = undef), .pure⟩,
    ⟨[14], F1 (fun xx _ => xx = undef), .pure⟩,
    ⟨[15], F1 (fun xx _ => xx = undef), .pure⟩,
    ⟨[16], F1 (fun xx _ => xx = .bool false), .pure⟩,
    ⟨[4], F1 (fun xx _ => xx = .bool false), .pure⟩]
    [[], [0], [], [2], [0, 1, 2, 3], [0, 1, 2, 3, 4], [0, 1, 2, 3, 4, 5], [0, 1, 2, 3, 4, 5, 6], [0, 1, 2, 3, 4, 5], [0, 1, 2, 3, 4, 5, 8], [0, 1, 2, 3, 4, 5, 6, 7, 8, 9], [0, 1, 2, 3, 4, 5, 6, 7, 8, 9, 10], [0, 1, 2, 3, 4, 5, 6, 7, 8, 9, 10, 11]] ?mk1 ?hmk1 (by kernel_rfl)
    ⟨F1.st (st_eq _), F1.st (st_eq _), F1.st (st_eq _), F1.st (st_eq _), F1.st (st_eq _), F1.st (st_eq _), F1.st (st_eq _), F1.st (st_eq _), F1.st (st_eq _), F1.st (st_eq _), F1.st (st_eq _), F1.st (st_eq _), F1.st (st_eq _), trivial⟩ (by simp) (by simp) (n := 13) rfl ⟨⟨⟨⟨⟨⟨⟨⟨⟨⟨⟨⟨⟨trivial, ?s1_0⟩, ?s1_1⟩, ?s1_2⟩, ?s1_3⟩, ?s1_4⟩, ?s1_5⟩, ?s1_6⟩, ?s1_7⟩, ?s1_8⟩, ?s1_9⟩, ?s1_10⟩, ?s1_11⟩, ?s1_12⟩ ?done1
  case hmk1 => intro v; simp only [mkv, mix, Nat.reduceAdd]; rfl
  case s1_0 =>
    refine stepOk_of _ _ rfl rfl ?_
    intro v W1 f kp ho hd K' hK
    go_simp
    exact hK _ _ (Fr.refl [] _) rfl
  case s1_1 =>
    refine stepOk_of _ _ rfl rfl ?_
    intro v W1 f kp ho hd K' hK
    have e5 : v 5 = .pointer (some ⟨w.heap.size, 0, none⟩) := (hd 0 (by decide) _ _ rfl rfl).1
    have k0 := (b2.keep f (by simp)).cell (j := 0) rfl
    simp only [e5] at hK ⊢
    go_simp
    exact hK _ _ (Fr.refl [] _) rfl
  case s1_2 =>
    refine stepOk_of _ _ rfl rfl ?_
    intro v W1 f kp ho hd K' hK
    go_simp
    exact hK _ _ (Fr.refl [] _) rfl
  case s1_3 =>
    refine stepOk_of _ _ rfl rfl ?_
    intro v W1 f kp ho hd K' hK
    have e7 : v 7 = .pointer (some ⟨w.heap.size + 1, 0, none⟩) := (hd 2 (by decide) _ _ rfl rfl).1
    have k0 := (b3.keep f (by simp)).cell (j := 0) rfl
    simp only [e7] at hK ⊢
    go_simp
    exact hK _ _ (Fr.refl [] _) rfl
  case s1_4 =>
    refine stepOk_of _ _ rfl rfl ?_
    intro v W1 f kp ho hd K' hK
    have e6 : v 6 = .bool true := (hd 1 (by decide) _ _ rfl rfl).1
    have e8 : v 8 = .bool false := (hd 3 (by decide) _ _ rfl rfl).1
    simp only [e6, e8] at hK ⊢
    go_simp
    exact hK _ _ (Fr.refl [] _) rfl
  case s1_5 =>
    refine stepOk_of _ _ rfl rfl ?_
    intro v W1 f kp ho hd K' hK
    have e9 : v 9 = .bool false := (hd 4 (by decide) _ _ rfl rfl).1
    simp only [e9] at hK ⊢
    go_simp
    exact hK _ _ (Fr.refl [] _) rfl
  case s1_6 =>
    refine stepOk_of _ _ rfl rfl ?_
    intro v W1 f kp ho hd K' hK
    have e10 : v 10 = .bool false := (hd 5 (by decide) _ _ rfl rfl).1
    simp only [e10] at hK ⊢
    go_simp
    exact hK _ _ (Fr.refl [] _) rfl
  case s1_7 =>
    refine stepOk_of _ _ rfl rfl ?_
    intro v W1 f kp ho hd K' hK
    have e11 : v 11 = undef := (hd 6 (by decide) _ _ rfl rfl).1
    have e10 : v 10 = .bool false := (hd 5 (by decide) _ _ rfl rfl).1
    simp only [e11, e10] at hK ⊢
    go_simp
    exact hK _ _ (Fr.refl [] _) rfl
  case s1_8 =>
    refine stepOk_of _ _ rfl rfl ?_
    intro v W1 f kp ho hd K' hK
    have e10 : v 10 = .bool false := (hd 5 (by decide) _ _ rfl rfl).1
    simp only [e10] at hK ⊢
    go_simp
    exact hK _ _ (Fr.refl [] _) rfl
  case s1_9 =>
    refine stepOk_of _ _ rfl rfl ?_
    intro v W1 f kp ho hd K' hK
    have e13 : v 13 = undef := (hd 8 (by decide) _ _ rfl rfl).1
    have e10 : v 10 = .bool false := (hd 5 (by decide) _ _ rfl rfl).1
    simp only [e13, e10] at hK ⊢
    go_simp
    exact hK _ _ (Fr.refl [] _) rfl
  case s1_10 =>
    refine stepOk_of _ _ rfl rfl ?_
    intro v W1 f kp ho hd K' hK
    have e12 : v 12 = undef := (hd 7 (by decide) _ _ rfl rfl).1
    have e14 : v 14 = undef := (hd 9 (by decide) _ _ rfl rfl).1
    have e10 : v 10 = .bool false := (hd 5 (by decide) _ _ rfl rfl).1
    simp only [e12, e14, e10] at hK ⊢
    go_simp
    exact hK _ _ (Fr.refl [] _) rfl
  case s1_11 =>
    refine stepOk_of _ _ rfl rfl ?_
    intro v W1 f kp ho hd K' hK
    have e10 : v 10 = .bool false := (hd 5 (by decide) _ _ rfl rfl).1
    have e15 : v 15 = undef := (hd 10 (by decide) _ _ rfl rfl).1
    simp only [e10, e15] at hK ⊢
    go_simp
    exact hK _ _ (Fr.refl [] _) rfl
  case s1_12 =>
    refine stepOk_of _ _ rfl rfl ?_
    intro v W1 f kp ho hd K' hK
    have e16 : v 16 = .bool false := (hd 11 (by decide) _ _ rfl rfl).1
    simp only [e16] at hK ⊢
    go_simp
    exact hK _ _ (Fr.refl [] _) rfl
  case done1 =>
    intro v W1 f kp hF hD
    have e5 : v 5 = .pointer (some ⟨w.heap.size, 0, none⟩) := (hF 0 _ _ rfl rfl).1
    have e6 : v 6 = .bool true := (hF 1 _ _ rfl rfl).1
    have e7 : v 7 = .pointer (some ⟨w.heap.size + 1, 0, none⟩) := (hF 2 _ _ rfl rfl).1
    have e8 : v 8 = .bool false := (hF 3 _ _ rfl rfl).1
    have e9 : v 9 = .bool false := (hF 4 _ _ rfl rfl).1
    have e10 : v 10 = .bool false := (hF 5 _ _ rfl rfl).1
    have e11 : v 11 = undef := (hF 6 _ _ rfl rfl).1
    have e12 : v 12 = undef := (hF 7 _ _ rfl rfl).1
    have e13 : v 13 = undef := (hF 8 _ _ rfl rfl).1
    have e14 : v 14 = undef := (hF 9 _ _ rfl rfl).1
    have e15 : v 15 = undef := (hF 10 _ _ rfl rfl).1
    have e16 : v 16 = .bool false := (hF 11 _ _ rfl rfl).1
    have e4 : v 4 = .bool false := (hF 12 _ _ rfl rfl).1
    clear hF hD
    simp only [e5, e6, e7, e8, e9, e10, e11, e12, e13, e14, e15, e16, e4]
    replace b2 := b2.keep f (by simp)
    replace b3 := b3.keep f (by simp)
    replace hw := hw.trans (a := w) (b := W) (c := W1) f (by simp)
    have hsz1 := f.size
    clear f kp
    go_wp2_with fail
    exact bodyPost_ret (v := .bool false) (by simp [results, Tryz.results53, go_sem]) rfl ⟨rfl, hw⟩

set_option maxRecDepth 100000 in
set_option maxHeartbeats 1000000 in
theorem isame_false (p p' : Option Addr) (n c n' c' : Nat) (w : World) : Calls Tryz.prog 53 #[iw false p n c, iw true p' n' c'] w (RB false w) := by
  go_enter Tryz.func53, Tryz.ntmps53
  go_upto_region 1 with fail
  have hw : Fr [] w ((w.alloc (Obj.cells #[.bool false, .slice p n c] 24)).alloc (Obj.cells #[.bool true, .slice p' n' c'] 24)) := ((Fr.refl _ _).alloc _).alloc _
  have b2 : Bx ((w.alloc (Obj.cells #[.bool false, .slice p n c] 24)).alloc (Obj.cells #[.bool true, .slice p' n' c'] 24)) w.heap.size 24 #[.bool false, .slice p n c] := (Bx.made' (by simp) _ _).kept ((Fr.refl _ _).alloc _)
  have b3 : Bx ((w.alloc (Obj.cells #[.bool false, .slice p n c] 24)).alloc (Obj.cells #[.bool true, .slice p' n' c'] 24)) (w.heap.size + 1) 24 #[.bool true, .slice p' n' c'] := (Bx.made' (by simp) _ _).kept (Fr.refl _ _)
  generalize ((w.alloc (Obj.cells #[.bool false, .slice p n c] 24)).alloc (Obj.cells #[.bool true, .slice p' n' c'] 24)) = W at *
  have hbs := b3.lt
  refine wp_region_inv (w0 := W) (by kernel_rfl) [true, true, false, false, true, true, true, true, true, true, true, true, true, true, true, true, true] []
    [⟨[5], F1 (fun xx _ => xx = .pointer (some ⟨w.heap.size, 0, none⟩)), .pure⟩,
    ⟨[6], F1 (fun xx _ => xx = .bool false), .pure⟩,
    ⟨[7], F1 (fun xx _ => xx = .pointer (some ⟨w.heap.size + 1, 0, none⟩)), .pure⟩,
    ⟨[8], F1 (fun xx _ => xx = .bool true), .pure⟩,
    ⟨[9], F1 (fun xx _ => xx = .bool false), .pure⟩,
    ⟨[10], F1 (fun xx _ => xx = .bool false), .pure⟩,
    ⟨[11], F1 (fun xx _ => xx = undef), .pure⟩,
    ⟨[12], F1 (fun xx _ => xx = undef), .pure⟩,
    ⟨[13], F1 (fun xx _ => xx = undef), .pure⟩,
    ⟨[14], F1 (fun xx _ => xx = undef), .pure⟩,
    ⟨[15], F1 (fun xx _ => xx = undef), .pure⟩,
    ⟨[16], F1 (fun xx _ => xx = .bool false), .pure⟩,
    ⟨[4], F1 (fun xx _ => xx = .bool false), .pure⟩]
    [[], [0], [], [2], [0, 1, 2, 3], [0, 1, 2, 3, 4], [0, 1, 2, 3, 4, 5], [0, 1, 2, 3, 4, 5, 6], [0, 1, 2, 3, 4, 5], [0, 1, 2, 3, 4, 5, 8], [0, 1, 2, 3, 4, 5, 6, 7, 8, 9], [0, 1, 2, 3, 4, 5, 6, 7, 8, 9, 10], [0, 1, 2, 3, 4, 5, 6, 7, 8, 9, 10, 11]] ?mk1 ?hmk1 (by kernel_rfl)
    ⟨F1.st (st_eq _), F1.st (st_eq _), F1.st (st_eq _), F1.st (st_eq _), F1.st (st_eq _), F1.st (st_eq _), F1.st (st_eq _), F1.st (st_eq _), F1.st (st_eq _), F1.st (st_eq _), F1.st (st_eq _), F1.st (st_eq _), F1.st (st_eq _), trivial⟩ (by simp) (by simp) (n := 13) rfl ⟨⟨⟨⟨⟨⟨⟨⟨⟨⟨⟨⟨⟨trivial, ?s1_0⟩, ?s1_1⟩, ?s1_2⟩, ?s1_3⟩, ?s1_4⟩, ?s1_5⟩, ?s1_6⟩, ?s1_7⟩, ?s1_8⟩, ?s1_9⟩, ?s1_10⟩, ?s1_11⟩, ?s1_12⟩ ?done1
  case hmk1 => intro v; simp only [mkv, mix, Nat.reduceAdd]; rfl
  case s1_0 =>
    refine stepOk_of _ _ rfl rfl ?_
    intro v W1 f kp ho hd K' hK
    go_simp
    exact hK _ _ (Fr.refl [] _) rfl
  case s1_1 =>
    refine stepOk_of _ _ rfl rfl ?_
    intro v W1 f kp ho hd K' hK
    have e5 : v 5 = .pointer (some ⟨w.heap.size, 0, none⟩) := (hd 0 (by decide) _ _ rfl rfl).1
    have k0 := (b2.keep f (by simp)).cell (j := 0) rfl
    simp only [e5] at hK ⊢
    go_simp
    exact hK _ _ (Fr.refl [] _) rfl
  case s1_2 =>
    refine stepOk_of _ _ rfl rfl ?_
    intro v W1 f kp ho hd K' hK
    go_simp
    exact hK _ _ (Fr.refl [] _) rfl
  case s1_3 =>
    refine stepOk_of _ _ rfl rfl ?_
    intro v W1 f kp ho hd K' hK
    have e7 : v 7 = .pointer (some ⟨w.heap.size + 1, 0, none⟩) := (hd 2 (by decide) _ _ rfl rfl).1
    have k0 := (b3.keep f (by simp)).cell (j := 0) rfl
    simp only [e7] at hK ⊢
    go_simp
    exact hK _ _ (Fr.refl [] _) rfl
  case s1_4 =>
    refine stepOk_of _ _ rfl rfl ?_
    intro v W1 f kp ho hd K' hK
    have e6 : v 6 = .bool false := (hd 1 (by decide) _ _ rfl rfl).1
    have e8 : v 8 = .bool true := (hd 3 (by decide) _ _ rfl rfl).1
    simp only [e6, e8] at hK ⊢
    go_simp
    exact hK _ _ (Fr.refl [] _) rfl
  case s1_5 =>
    refine stepOk_of _ _ rfl rfl ?_
    intro v W1 f kp ho hd K' hK
    have e9 : v 9 = .bool false := (hd 4 (by decide) _ _ rfl rfl).1
    simp only [e9] at hK ⊢
    go_simp
    exact hK _ _ (Fr.refl [] _) rfl
  case s1_6 =>
    refine stepOk_of _ _ rfl rfl ?_
    intro v W1 f kp ho hd K' hK
    have e10 : v 10 = .bool false := (hd 5 (by decide) _ _ rfl rfl).1
    simp only [e10] at hK ⊢
    go_simp
    exact hK _ _ (Fr.refl [] _) rfl
  case s1_7 =>
    refine stepOk_of _ _ rfl rfl ?_
    intro v W1 f kp ho hd K' hK
    have e11 : v 11 = undef := (hd 6 (by decide) _ _ rfl rfl).1
    have e10 : v 10 = .bool false := (hd 5 (by decide) _ _ rfl rfl).1
    simp only [e11, e10] at hK ⊢
    go_simp
    exact hK _ _ (Fr.refl [] _) rfl
  case s1_8 =>
    refine stepOk_of _ _ rfl rfl ?_
    intro v W1 f kp ho hd K' hK
    have e10 : v 10 = .bool false := (hd 5 (by decide) _ _ rfl rfl).1
    simp only [e10] at hK ⊢
    go_simp
    exact hK _ _ (Fr.refl [] _) rfl
  case s1_9 =>
    refine stepOk_of _ _ rfl rfl ?_
    intro v W1 f kp ho hd K' hK
    have e13 : v 13 = undef := (hd 8 (by decide) _ _ rfl rfl).1
    have e10 : v 10 = .bool false := (hd 5 (by decide) _ _ rfl rfl).1
    simp only [e13, e10] at hK ⊢
    go_simp
    exact hK _ _ (Fr.refl [] _) rfl
  case s1_10 =>
    refine stepOk_of _ _ rfl rfl ?_
    intro v W1 f kp ho hd K' hK
    have e12 : v 12 = undef := (hd 7 (by decide) _ _ rfl rfl).1
    have e14 : v 14 = undef := (hd 9 (by decide) _ _ rfl rfl).1
    have e10 : v 10 = .bool false := (hd 5 (by decide) _ _ rfl rfl).1
    simp only [e12, e14, e10] at hK ⊢
    go_simp
    exact hK _ _ (Fr.refl [] _) rfl
  case s1_11 =>
    refine stepOk_of _ _ rfl rfl ?_
    intro v W1 f kp ho hd K' hK
    have e10 : v 10 = .bool false := (hd 5 (by decide) _ _ rfl rfl).1
    have e15 : v 15 = undef := (hd 10 (by decide) _ _ rfl rfl).1
    simp only [e10, e15] at hK ⊢
    go_simp
    exact hK _ _ (Fr.refl [] _) rfl
  case s1_12 =>
    refine stepOk_of _ _ rfl rfl ?_
    intro v W1 f kp ho hd K' hK
    have e16 : v 16 = .bool false := (hd 11 (by decide) _ _ rfl rfl).1
    simp only [e16] at hK ⊢
    go_simp
    exact hK _ _ (Fr.refl [] _) rfl
  case done1 =>
    intro v W1 f kp hF hD
    have e5 : v 5 = .pointer (some ⟨w.heap.size, 0, none⟩) := (hF 0 _ _ rfl rfl).1
    have e6 : v 6 = .bool false := (hF 1 _ _ rfl rfl).1
    have e7 : v 7 = .pointer (some ⟨w.heap.size + 1, 0, none⟩) := (hF 2 _ _ rfl rfl).1
    have e8 : v 8 = .bool true := (hF 3 _ _ rfl rfl).1
    have e9 : v 9 = .bool false := (hF 4 _ _ rfl rfl).1
    have e10 : v 10 = .bool false := (hF 5 _ _ rfl rfl).1
    have e11 : v 11 = undef := (hF 6 _ _ rfl rfl).1
    have e12 : v 12 = undef := (hF 7 _ _ rfl rfl).1
    have e13 : v 13 = undef := (hF 8 _ _ rfl rfl).1
    have e14 : v 14 = undef := (hF 9 _ _ rfl rfl).1
    have e15 : v 15 = undef := (hF 10 _ _ rfl rfl).1
    have e16 : v 16 = .bool false := (hF 11 _ _ rfl rfl).1
    have e4 : v 4 = .bool false := (hF 12 _ _ rfl rfl).1
    clear hF hD
    simp only [e5, e6, e7, e8, e9, e10, e11, e12, e13, e14, e15, e16, e4]
    replace b2 := b2.keep f (by simp)
    replace b3 := b3.keep f (by simp)
    replace hw := hw.trans (a := w) (b := W) (c := W1) f (by simp)
    have hsz1 := f.size
    clear f kp
    go_wp2_with fail
    exact bodyPost_ret (v := .bool false) (by simp [results, Tryz.results53, go_sem]) rfl ⟨rfl, hw⟩

set_option maxRecDepth 100000 in
set_option maxHeartbeats 1000000 in
theorem isame_f {w : World} {p p' : Option Addr} {n c n' c' : Nat} {X X' : List Nat} {g b : Bool} (hb : decide (X = X') = b) (s : Sl w p n c X) (s2 : Sl w p' n' c' X') : Calls Tryz.prog 53 #[iw g p n c, iw g p' n' c'] w (RB b w) := by
  have Hhb := Lib.hid hb; clear hb
  go_enter Tryz.func53, Tryz.ntmps53
  go_upto_region 1 with fail
  have hw : Fr [] w ((w.alloc (Obj.cells #[.bool g, .slice p n c] 24)).alloc (Obj.cells #[.bool g, .slice p' n' c'] 24)) := ((Fr.refl _ _).alloc _).alloc _
  have b2 : Bx ((w.alloc (Obj.cells #[.bool g, .slice p n c] 24)).alloc (Obj.cells #[.bool g, .slice p' n' c'] 24)) w.heap.size 24 #[.bool g, .slice p n c] := (Bx.made' (by simp) _ _).kept ((Fr.refl _ _).alloc _)
  have b3 : Bx ((w.alloc (Obj.cells #[.bool g, .slice p n c] 24)).alloc (Obj.cells #[.bool g, .slice p' n' c'] 24)) (w.heap.size + 1) 24 #[.bool g, .slice p' n' c'] := (Bx.made' (by simp) _ _).kept (Fr.refl _ _)
  generalize ((w.alloc (Obj.cells #[.bool g, .slice p n c] 24)).alloc (Obj.cells #[.bool g, .slice p' n' c'] 24)) = W at *
  have hbs := b3.lt
  replace s := s.kept hw
  replace s2 := s2.kept hw
  refine wp_region_inv (w0 := W) (by kernel_rfl) [true, true, false, false, true, true, true, true, true, true, true, true, true, true, true, true, true] []
    [⟨[5], F1 (fun xx _ => xx = .pointer (some ⟨w.heap.size, 0, none⟩)), .pure⟩,
    ⟨[6], F1 (fun xx _ => xx = .bool g), .pure⟩,
    ⟨[7], F1 (fun xx _ => xx = .pointer (some ⟨w.heap.size + 1, 0, none⟩)), .pure⟩,
    ⟨[8], F1 (fun xx _ => xx = .bool g), .pure⟩,
    ⟨[9], F1 (fun xx _ => xx = .bool true), .pure⟩,
    ⟨[10], F1 (fun xx _ => xx = .bool true), .pure⟩,
    ⟨[11], F1 (fun xx _ => xx = .pointer (some ⟨w.heap.size, 1, none⟩)), .pure⟩,
    ⟨[12], F1 (fun xx _ => xx = .slice p n c), .pure⟩,
    ⟨[13], F1 (fun xx _ => xx = .pointer (some ⟨w.heap.size + 1, 1, none⟩)), .pure⟩,
    ⟨[14], F1 (fun xx _ => xx = .slice p' n' c'), .pure⟩,
    ⟨[15], F1 (fun xx _ => xx = .bool b), .pure⟩,
    ⟨[16], F1 (fun xx _ => xx = .bool b), .pure⟩,
    ⟨[4], F1 (fun xx _ => xx = .bool b), .pure⟩]
    [[], [0], [], [2], [0, 1, 2, 3], [0, 1, 2, 3, 4], [0, 1, 2, 3, 4, 5], [0, 1, 2, 3, 4, 5, 6], [0, 1, 2, 3, 4, 5], [0, 1, 2, 3, 4, 5, 8], [0, 1, 2, 3, 4, 5, 6, 7, 8, 9], [0, 1, 2, 3, 4, 5, 6, 7, 8, 9, 10], [0, 1, 2, 3, 4, 5, 6, 7, 8, 9, 10, 11]] ?mk1 ?hmk1 (by kernel_rfl)
    ⟨F1.st (st_eq _), F1.st (st_eq _), F1.st (st_eq _), F1.st (st_eq _), F1.st (st_eq _), F1.st (st_eq _), F1.st (st_eq _), F1.st (st_eq _), F1.st (st_eq _), F1.st (st_eq _), F1.st (st_eq _), F1.st (st_eq _), F1.st (st_eq _), trivial⟩ (by simp) (by simp) (n := 13) rfl ⟨⟨⟨⟨⟨⟨⟨⟨⟨⟨⟨⟨⟨trivial, ?s1_0⟩, ?s1_1⟩, ?s1_2⟩, ?s1_3⟩, ?s1_4⟩, ?s1_5⟩, ?s1_6⟩, ?s1_7⟩, ?s1_8⟩, ?s1_9⟩, ?s1_10⟩, ?s1_11⟩, ?s1_12⟩ ?done1
  case hmk1 => intro v; simp only [mkv, mix, Nat.reduceAdd]; rfl
  case s1_0 =>
    refine stepOk_of _ _ rfl rfl ?_
    intro v W1 f kp ho hd K' hK
    go_simp
    exact hK _ _ (Fr.refl [] _) rfl
  case s1_1 =>
    refine stepOk_of _ _ rfl rfl ?_
    intro v W1 f kp ho hd K' hK
    have e5 : v 5 = .pointer (some ⟨w.heap.size, 0, none⟩) := (hd 0 (by decide) _ _ rfl rfl).1
    have k0 := (b2.keep f (by simp)).cell (j := 0) rfl
    simp only [e5] at hK ⊢
    go_simp
    exact hK _ _ (Fr.refl [] _) rfl
  case s1_2 =>
    refine stepOk_of _ _ rfl rfl ?_
    intro v W1 f kp ho hd K' hK
    go_simp
    exact hK _ _ (Fr.refl [] _) rfl
  case s1_3 =>
    refine stepOk_of _ _ rfl rfl ?_
    intro v W1 f kp ho hd K' hK
    have e7 : v 7 = .pointer (some ⟨w.heap.size + 1, 0, none⟩) := (hd 2 (by decide) _ _ rfl rfl).1
    have k0 := (b3.keep f (by simp)).cell (j := 0) rfl
    simp only [e7] at hK ⊢
    go_simp
    exact hK _ _ (Fr.refl [] _) rfl
  case s1_4 =>
    refine stepOk_of _ _ rfl rfl ?_
    intro v W1 f kp ho hd K' hK
    have e6 : v 6 = .bool g := (hd 1 (by decide) _ _ rfl rfl).1
    have e8 : v 8 = .bool g := (hd 3 (by decide) _ _ rfl rfl).1
    simp only [e6, e8] at hK ⊢
    go_simp
    exact hK _ _ (Fr.refl [] _) rfl
  case s1_5 =>
    refine stepOk_of _ _ rfl rfl ?_
    intro v W1 f kp ho hd K' hK
    have e9 : v 9 = .bool true := (hd 4 (by decide) _ _ rfl rfl).1
    simp only [e9] at hK ⊢
    go_simp
    exact hK _ _ (Fr.refl [] _) rfl
  case s1_6 =>
    refine stepOk_of _ _ rfl rfl ?_
    intro v W1 f kp ho hd K' hK
    have e10 : v 10 = .bool true := (hd 5 (by decide) _ _ rfl rfl).1
    simp only [e10] at hK ⊢
    go_simp
    exact hK _ _ (Fr.refl [] _) rfl
  case s1_7 =>
    refine stepOk_of _ _ rfl rfl ?_
    intro v W1 f kp ho hd K' hK
    have e11 : v 11 = .pointer (some ⟨w.heap.size, 1, none⟩) := (hd 6 (by decide) _ _ rfl rfl).1
    have e10 : v 10 = .bool true := (hd 5 (by decide) _ _ rfl rfl).1
    have k0 := (b2.keep f (by simp)).cell (j := 1) rfl
    simp only [e11, e10] at hK ⊢
    go_simp
    exact hK _ _ (Fr.refl [] _) rfl
  case s1_8 =>
    refine stepOk_of _ _ rfl rfl ?_
    intro v W1 f kp ho hd K' hK
    have e10 : v 10 = .bool true := (hd 5 (by decide) _ _ rfl rfl).1
    simp only [e10] at hK ⊢
    go_simp
    exact hK _ _ (Fr.refl [] _) rfl
  case s1_9 =>
    refine stepOk_of _ _ rfl rfl ?_
    intro v W1 f kp ho hd K' hK
    have e13 : v 13 = .pointer (some ⟨w.heap.size + 1, 1, none⟩) := (hd 8 (by decide) _ _ rfl rfl).1
    have e10 : v 10 = .bool true := (hd 5 (by decide) _ _ rfl rfl).1
    have k0 := (b3.keep f (by simp)).cell (j := 1) rfl
    simp only [e13, e10] at hK ⊢
    go_simp
    exact hK _ _ (Fr.refl [] _) rfl
  case s1_10 =>
    refine stepOk_of _ _ rfl rfl ?_
    intro v W1 f kp ho hd K' hK
    have e12 : v 12 = .slice p n c := (hd 7 (by decide) _ _ rfl rfl).1
    have e14 : v 14 = .slice p' n' c' := (hd 9 (by decide) _ _ rfl rfl).1
    have e10 : v 10 = .bool true := (hd 5 (by decide) _ _ rfl rfl).1
    simp only [e12, e14, e10] at hK ⊢
    go_simp
    refine (rsame_e Hhb.out (s.kp kp) (s2.kp kp)).mono ?_
    rintro e W' ⟨rfl, ff⟩
    exact hK _ W' ff rfl
  case s1_11 =>
    refine stepOk_of _ _ rfl rfl ?_
    intro v W1 f kp ho hd K' hK
    have e10 : v 10 = .bool true := (hd 5 (by decide) _ _ rfl rfl).1
    have e15 : v 15 = .bool b := (hd 10 (by decide) _ _ rfl rfl).1
    simp only [e10, e15] at hK ⊢
    go_simp
    exact hK _ _ (Fr.refl [] _) rfl
  case s1_12 =>
    refine stepOk_of _ _ rfl rfl ?_
    intro v W1 f kp ho hd K' hK
    have e16 : v 16 = .bool b := (hd 11 (by decide) _ _ rfl rfl).1
    simp only [e16] at hK ⊢
    go_simp
    exact hK _ _ (Fr.refl [] _) rfl
  case done1 =>
    intro v W1 f kp hF hD
    have e5 : v 5 = .pointer (some ⟨w.heap.size, 0, none⟩) := (hF 0 _ _ rfl rfl).1
    have e6 : v 6 = .bool g := (hF 1 _ _ rfl rfl).1
    have e7 : v 7 = .pointer (some ⟨w.heap.size + 1, 0, none⟩) := (hF 2 _ _ rfl rfl).1
    have e8 : v 8 = .bool g := (hF 3 _ _ rfl rfl).1
    have e9 : v 9 = .bool true := (hF 4 _ _ rfl rfl).1
    have e10 : v 10 = .bool true := (hF 5 _ _ rfl rfl).1
    have e11 : v 11 = .pointer (some ⟨w.heap.size, 1, none⟩) := (hF 6 _ _ rfl rfl).1
    have e12 : v 12 = .slice p n c := (hF 7 _ _ rfl rfl).1
    have e13 : v 13 = .pointer (some ⟨w.heap.size + 1, 1, none⟩) := (hF 8 _ _ rfl rfl).1
    have e14 : v 14 = .slice p' n' c' := (hF 9 _ _ rfl rfl).1
    have e15 : v 15 = .bool b := (hF 10 _ _ rfl rfl).1
    have e16 : v 16 = .bool b := (hF 11 _ _ rfl rfl).1
    have e4 : v 4 = .bool b := (hF 12 _ _ rfl rfl).1
    clear hF hD
    simp only [e5, e6, e7, e8, e9, e10, e11, e12, e13, e14, e15, e16, e4]
    replace b2 := b2.keep f (by simp)
    replace b3 := b3.keep f (by simp)
    replace s := s.kp kp
    replace s2 := s2.kp kp
    replace hw := hw.trans (a := w) (b := W) (c := W1) f (by simp)
    have hsz1 := f.size
    clear f kp
    go_wp2_with fail
    exact bodyPost_ret (v := .bool b) (by simp [results, Tryz.results53, go_sem]) rfl ⟨rfl, hw⟩

theorem isame_g {w : World} {p p' : Option Addr} {n c n' c' : Nat} {X X' : List Nat} {g g' b : Bool} (hb : decide (g = g' ∧ X = X') = b) (s : Sl w p n c X) (s2 : Sl w p' n' c' X') : Calls Tryz.prog 53 #[iw g p n c, iw g' p' n' c'] w (RB b w) := by
  cases g <;> cases g'
  · exact isame_f (by rw [← hb]; simp) s s2
  · rw [show b = false by rw [← hb]; simp]; exact isame_false p p' n c n' c' w
  · rw [show b = false by rw [← hb]; simp]; exact isame_true p p' n c n' c' w
  · exact isame_f (by rw [← hb]; simp) s s2

set_option maxRecDepth 100000 in
set_option maxHeartbeats 1000000 in
theorem rrsame_f {w : World} {p p' : Option Addr} {n c n' c' : Nat} {X X' : List Nat} {q q' : Option Addr} {m d m' d' : Nat} {g g' : Bool} (hb : decide (g = g' ∧ X = X') = false) (s : Sl w p n c X) (s2 : Sl w p' n' c' X') : Calls Tryz.prog 18 #[rw' g p n c q m d, rw' g' p' n' c' q' m' d'] w (RB false w) := by
  have Hhb := Lib.hid hb; clear hb
  go_enter Tryz.func18, Tryz.ntmps18
  go_upto_region 1 with fail
  have hw : Fr [] w ((w.alloc (Obj.cells #[.bool g, .slice p n c, .slice q m d] 26)).alloc (Obj.cells #[.bool g', .slice p' n' c', .slice q' m' d'] 26)) := ((Fr.refl _ _).alloc _).alloc _
  have b2 : Bx ((w.alloc (Obj.cells #[.bool g, .slice p n c, .slice q m d] 26)).alloc (Obj.cells #[.bool g', .slice p' n' c', .slice q' m' d'] 26)) w.heap.size 26 #[.bool g, .slice p n c, .slice q m d] := (Bx.made' (by simp) _ _).kept ((Fr.refl _ _).alloc _)
  have b3 : Bx ((w.alloc (Obj.cells #[.bool g, .slice p n c, .slice q m d] 26)).alloc (Obj.cells #[.bool g', .slice p' n' c', .slice q' m' d'] 26)) (w.heap.size + 1) 26 #[.bool g', .slice p' n' c', .slice q' m' d'] := (Bx.made' (by simp) _ _).kept (Fr.refl _ _)
  generalize ((w.alloc (Obj.cells #[.bool g, .slice p n c, .slice q m d] 26)).alloc (Obj.cells #[.bool g', .slice p' n' c', .slice q' m' d'] 26)) = W at *
  have hbs := b3.lt
  replace s := s.kept hw
  replace s2 := s2.kept hw
  refine wp_region_inv (w0 := W) (by kernel_rfl) [true, true, false, false, true, true, true, true, true, true, true, true, true, true, true, true, true] []
    [⟨[5], F1 (fun xx _ => xx = .pointer (some ⟨w.heap.size, 0, none⟩)), .pure⟩,
    ⟨[6], F1 (fun xx _ => xx = .agg #[.bool g, .slice p n c]), .pure⟩,
    ⟨[7], F1 (fun xx _ => xx = .pointer (some ⟨w.heap.size + 1, 0, none⟩)), .pure⟩,
    ⟨[8], F1 (fun xx _ => xx = .agg #[.bool g', .slice p' n' c']), .pure⟩,
    ⟨[9], F1 (fun xx _ => xx = .bool false), .pure⟩,
    ⟨[10], F1 (fun xx _ => xx = .bool false), .pure⟩,
    ⟨[11], F1 (fun xx _ => xx = undef), .pure⟩,
    ⟨[12], F1 (fun xx _ => xx = undef), .pure⟩,
    ⟨[13], F1 (fun xx _ => xx = undef), .pure⟩,
    ⟨[14], F1 (fun xx _ => xx = undef), .pure⟩,
    ⟨[15], F1 (fun xx _ => xx = undef), .pure⟩,
    ⟨[16], F1 (fun xx _ => xx = .bool false), .pure⟩,
    ⟨[4], F1 (fun xx _ => xx = .bool false), .pure⟩]
    [[], [0], [], [2], [0, 1, 2, 3], [0, 1, 2, 3, 4], [0, 1, 2, 3, 4, 5], [0, 1, 2, 3, 4, 5, 6], [0, 1, 2, 3, 4, 5], [0, 1, 2, 3, 4, 5, 8], [0, 1, 2, 3, 4, 5, 6, 7, 8, 9], [0, 1, 2, 3, 4, 5, 6, 7, 8, 9, 10], [0, 1, 2, 3, 4, 5, 6, 7, 8, 9, 10, 11]] ?mk1 ?hmk1 (by kernel_rfl)
    ⟨F1.st (st_eq _), F1.st (st_eq _), F1.st (st_eq _), F1.st (st_eq _), F1.st (st_eq _), F1.st (st_eq _), F1.st (st_eq _), F1.st (st_eq _), F1.st (st_eq _), F1.st (st_eq _), F1.st (st_eq _), F1.st (st_eq _), F1.st (st_eq _), trivial⟩ (by simp) (by simp) (n := 13) rfl ⟨⟨⟨⟨⟨⟨⟨⟨⟨⟨⟨⟨⟨trivial, ?s1_0⟩, ?s1_1⟩, ?s1_2⟩, ?s1_3⟩, ?s1_4⟩, ?s1_5⟩, ?s1_6⟩, ?s1_7⟩, ?s1_8⟩, ?s1_9⟩, ?s1_10⟩, ?s1_11⟩, ?s1_12⟩ ?done1
  case hmk1 => intro v; simp only [mkv, mix, Nat.reduceAdd]; rfl
  case s1_0 =>
    refine stepOk_of _ _ rfl rfl ?_
    intro v W1 f kp ho hd K' hK
    go_simp
    exact hK _ _ (Fr.refl [] _) rfl
  case s1_1 =>
    refine stepOk_of _ _ rfl rfl ?_
    intro v W1 f kp ho hd K' hK
    have e5 : v 5 = .pointer (some ⟨w.heap.size, 0, none⟩) := (hd 0 (by decide) _ _ rfl rfl).1
    have k0 := (b2.keep f (by simp)).cell (j := 0) rfl
    have k1 := (b2.keep f (by simp)).cell (j := 1) rfl
    simp only [e5] at hK ⊢
    go_simp
    exact hK _ _ (Fr.refl [] _) rfl
  case s1_2 =>
    refine stepOk_of _ _ rfl rfl ?_
    intro v W1 f kp ho hd K' hK
    go_simp
    exact hK _ _ (Fr.refl [] _) rfl
  case s1_3 =>
    refine stepOk_of _ _ rfl rfl ?_
    intro v W1 f kp ho hd K' hK
    have e7 : v 7 = .pointer (some ⟨w.heap.size + 1, 0, none⟩) := (hd 2 (by decide) _ _ rfl rfl).1
    have k0 := (b3.keep f (by simp)).cell (j := 0) rfl
    have k1 := (b3.keep f (by simp)).cell (j := 1) rfl
    simp only [e7] at hK ⊢
    go_simp
    exact hK _ _ (Fr.refl [] _) rfl
  case s1_4 =>
    refine stepOk_of _ _ rfl rfl ?_
    intro v W1 f kp ho hd K' hK
    have e6 : v 6 = .agg #[.bool g, .slice p n c] := (hd 1 (by decide) _ _ rfl rfl).1
    have e8 : v 8 = .agg #[.bool g', .slice p' n' c'] := (hd 3 (by decide) _ _ rfl rfl).1
    simp only [e6, e8] at hK ⊢
    go_simp
    refine (isame_g Hhb.out (s.kp kp) (s2.kp kp)).mono ?_
    rintro e W' ⟨rfl, ff⟩
    exact hK _ W' ff rfl
  case s1_5 =>
    refine stepOk_of _ _ rfl rfl ?_
    intro v W1 f kp ho hd K' hK
    have e9 : v 9 = .bool false := (hd 4 (by decide) _ _ rfl rfl).1
    simp only [e9] at hK ⊢
    go_simp
    exact hK _ _ (Fr.refl [] _) rfl
  case s1_6 =>
    refine stepOk_of _ _ rfl rfl ?_
    intro v W1 f kp ho hd K' hK
    have e10 : v 10 = .bool false := (hd 5 (by decide) _ _ rfl rfl).1
    simp only [e10] at hK ⊢
    go_simp
    exact hK _ _ (Fr.refl [] _) rfl
  case s1_7 =>
    refine stepOk_of _ _ rfl rfl ?_
    intro v W1 f kp ho hd K' hK
    have e11 : v 11 = undef := (hd 6 (by decide) _ _ rfl rfl).1
    have e10 : v 10 = .bool false := (hd 5 (by decide) _ _ rfl rfl).1
    simp only [e11, e10] at hK ⊢
    go_simp
    exact hK _ _ (Fr.refl [] _) rfl
  case s1_8 =>
    refine stepOk_of _ _ rfl rfl ?_
    intro v W1 f kp ho hd K' hK
    have e10 : v 10 = .bool false := (hd 5 (by decide) _ _ rfl rfl).1
    simp only [e10] at hK ⊢
    go_simp
    exact hK _ _ (Fr.refl [] _) rfl
  case s1_9 =>
    refine stepOk_of _ _ rfl rfl ?_
    intro v W1 f kp ho hd K' hK
    have e13 : v 13 = undef := (hd 8 (by decide) _ _ rfl rfl).1
    have e10 : v 10 = .bool false := (hd 5 (by decide) _ _ rfl rfl).1
    simp only [e13, e10] at hK ⊢
    go_simp
    exact hK _ _ (Fr.refl [] _) rfl
  case s1_10 =>
    refine stepOk_of _ _ rfl rfl ?_
    intro v W1 f kp ho hd K' hK
    have e12 : v 12 = undef := (hd 7 (by decide) _ _ rfl rfl).1
    have e14 : v 14 = undef := (hd 9 (by decide) _ _ rfl rfl).1
    have e10 : v 10 = .bool false := (hd 5 (by decide) _ _ rfl rfl).1
    simp only [e12, e14, e10] at hK ⊢
    go_simp
    exact hK _ _ (Fr.refl [] _) rfl
  case s1_11 =>
    refine stepOk_of _ _ rfl rfl ?_
    intro v W1 f kp ho hd K' hK
    have e10 : v 10 = .bool false := (hd 5 (by decide) _ _ rfl rfl).1
    have e15 : v 15 = undef := (hd 10 (by decide) _ _ rfl rfl).1
    simp only [e10, e15] at hK ⊢
    go_simp
    exact hK _ _ (Fr.refl [] _) rfl
  case s1_12 =>
    refine stepOk_of _ _ rfl rfl ?_
    intro v W1 f kp ho hd K' hK
    have e16 : v 16 = .bool false := (hd 11 (by decide) _ _ rfl rfl).1
    simp only [e16] at hK ⊢
    go_simp
    exact hK _ _ (Fr.refl [] _) rfl
  case done1 =>
    intro v W1 f kp hF hD
    have e5 : v 5 = .pointer (some ⟨w.heap.size, 0, none⟩) := (hF 0 _ _ rfl rfl).1
    have e6 : v 6 = .agg #[.bool g, .slice p n c] := (hF 1 _ _ rfl rfl).1
    have e7 : v 7 = .pointer (some ⟨w.heap.size + 1, 0, none⟩) := (hF 2 _ _ rfl rfl).1
    have e8 : v 8 = .agg #[.bool g', .slice p' n' c'] := (hF 3 _ _ rfl rfl).1
    have e9 : v 9 = .bool false := (hF 4 _ _ rfl rfl).1
    have e10 : v 10 = .bool false := (hF 5 _ _ rfl rfl).1
    have e11 : v 11 = undef := (hF 6 _ _ rfl rfl).1
    have e12 : v 12 = undef := (hF 7 _ _ rfl rfl).1
    have e13 : v 13 = undef := (hF 8 _ _ rfl rfl).1
    have e14 : v 14 = undef := (hF 9 _ _ rfl rfl).1
    have e15 : v 15 = undef := (hF 10 _ _ rfl rfl).1
    have e16 : v 16 = .bool false := (hF 11 _ _ rfl rfl).1
    have e4 : v 4 = .bool false := (hF 12 _ _ rfl rfl).1
    clear hF hD
    simp only [e5, e6, e7, e8, e9, e10, e11, e12, e13, e14, e15, e16, e4]
    replace b2 := b2.keep f (by simp)
    replace b3 := b3.keep f (by simp)
    replace s := s.kp kp
    replace s2 := s2.kp kp
    replace hw := hw.trans (a := w) (b := W) (c := W1) f (by simp)
    have hsz1 := f.size
    clear f kp
    go_wp2_with fail
    exact bodyPost_ret (v := .bool false) (by simp [results, Tryz.results18, go_sem]) rfl ⟨rfl, hw⟩

set_option maxRecDepth 100000 in
set_option maxHeartbeats 1000000 in
theorem rrsame_t {w : World} {p p' : Option Addr} {n c n' c' : Nat} {X X' : List Nat} {q q' : Option Addr} {m d m' d' : Nat} {Y Y' : List Nat} {g g' : Bool} {b : Bool} (hb : decide (g = g' ∧ X = X') = true) (hc : decide (Y = Y') = b) (s : Sl w p n c X) (s2 : Sl w p' n' c' X') (t : Sl w q m d Y) (t2 : Sl w q' m' d' Y') : Calls Tryz.prog 18 #[rw' g p n c q m d, rw' g' p' n' c' q' m' d'] w (RB b w) := by
  have Hhb := Lib.hid hb; clear hb
  have Hhc := Lib.hid hc; clear hc
  go_enter Tryz.func18, Tryz.ntmps18
  go_upto_region 1 with fail
  have hw : Fr [] w ((w.alloc (Obj.cells #[.bool g, .slice p n c, .slice q m d] 26)).alloc (Obj.cells #[.bool g', .slice p' n' c', .slice q' m' d'] 26)) := ((Fr.refl _ _).alloc _).alloc _
  have b2 : Bx ((w.alloc (Obj.cells #[.bool g, .slice p n c, .slice q m d] 26)).alloc (Obj.cells #[.bool g', .slice p' n' c', .slice q' m' d'] 26)) w.heap.size 26 #[.bool g, .slice p n c, .slice q m d] := (Bx.made' (by simp) _ _).kept ((Fr.refl _ _).alloc _)
  have b3 : Bx ((w.alloc (Obj.cells #[.bool g, .slice p n c, .slice q m d] 26)).alloc (Obj.cells #[.bool g', .slice p' n' c', .slice q' m' d'] 26)) (w.heap.size + 1) 26 #[.bool g', .slice p' n' c', .slice q' m' d'] := (Bx.made' (by simp) _ _).kept (Fr.refl _ _)
  generalize ((w.alloc (Obj.cells #[.bool g, .slice p n c, .slice q m d] 26)).alloc (Obj.cells #[.bool g', .slice p' n' c', .slice q' m' d'] 26)) = W at *
  have hbs := b3.lt
  replace s := s.kept hw
  replace s2 := s2.kept hw
  replace t := t.kept hw
  replace t2 := t2.kept hw
  refine wp_region_inv (w0 := W) (by kernel_rfl) [true, true, false, false, true, true, true, true, true, true, true, true, true, true, true, true, true] []
    [⟨[5], F1 (fun xx _ => xx = .pointer (some ⟨w.heap.size, 0, none⟩)), .pure⟩,
    ⟨[6], F1 (fun xx _ => xx = .agg #[.bool g, .slice p n c]), .pure⟩,
    ⟨[7], F1 (fun xx _ => xx = .pointer (some ⟨w.heap.size + 1, 0, none⟩)), .pure⟩,
    ⟨[8], F1 (fun xx _ => xx = .agg #[.bool g', .slice p' n' c']), .pure⟩,
    ⟨[9], F1 (fun xx _ => xx = .bool true), .pure⟩,
    ⟨[10], F1 (fun xx _ => xx = .bool true), .pure⟩,
    ⟨[11], F1 (fun xx _ => xx = .pointer (some ⟨w.heap.size, 2, none⟩)), .pure⟩,
    ⟨[12], F1 (fun xx _ => xx = .slice q m d), .pure⟩,
    ⟨[13], F1 (fun xx _ => xx = .pointer (some ⟨w.heap.size + 1, 2, none⟩)), .pure⟩,
    ⟨[14], F1 (fun xx _ => xx = .slice q' m' d'), .pure⟩,
    ⟨[15], F1 (fun xx _ => xx = .bool b), .pure⟩,
    ⟨[16], F1 (fun xx _ => xx = .bool b), .pure⟩,
    ⟨[4], F1 (fun xx _ => xx = .bool b), .pure⟩]
    [[], [0], [], [2], [0, 1, 2, 3], [0, 1, 2, 3, 4], [0, 1, 2, 3, 4, 5], [0, 1, 2, 3, 4, 5, 6], [0, 1, 2, 3, 4, 5], [0, 1, 2, 3, 4, 5, 8], [0, 1, 2, 3, 4, 5, 6, 7, 8, 9], [0, 1, 2, 3, 4, 5, 6, 7, 8, 9, 10], [0, 1, 2, 3, 4, 5, 6, 7, 8, 9, 10, 11]] ?mk1 ?hmk1 (by kernel_rfl)
    ⟨F1.st (st_eq _), F1.st (st_eq _), F1.st (st_eq _), F1.st (st_eq _), F1.st (st_eq _), F1.st (st_eq _), F1.st (st_eq _), F1.st (st_eq _), F1.st (st_eq _), F1.st (st_eq _), F1.st (st_eq _), F1.st (st_eq _), F1.st (st_eq _), trivial⟩ (by simp) (by simp) (n := 13) rfl ⟨⟨⟨⟨⟨⟨⟨⟨⟨⟨⟨⟨⟨trivial, ?s1_0⟩, ?s1_1⟩, ?s1_2⟩, ?s1_3⟩, ?s1_4⟩, ?s1_5⟩, ?s1_6⟩, ?s1_7⟩, ?s1_8⟩, ?s1_9⟩, ?s1_10⟩, ?s1_11⟩, ?s1_12⟩ ?done1
  case hmk1 => intro v; simp only [mkv, mix, Nat.reduceAdd]; rfl
  case s1_0 =>
    refine stepOk_of _ _ rfl rfl ?_
    intro v W1 f kp ho hd K' hK
    go_simp
    exact hK _ _ (Fr.refl [] _) rfl
  case s1_1 =>
    refine stepOk_of _ _ rfl rfl ?_
    intro v W1 f kp ho hd K' hK
    have e5 : v 5 = .pointer (some ⟨w.heap.size, 0, none⟩) := (hd 0 (by decide) _ _ rfl rfl).1
    have k0 := (b2.keep f (by simp)).cell (j := 0) rfl
    have k1 := (b2.keep f (by simp)).cell (j := 1) rfl
    simp only [e5] at hK ⊢
    go_simp
    exact hK _ _ (Fr.refl [] _) rfl
  case s1_2 =>
    refine stepOk_of _ _ rfl rfl ?_
    intro v W1 f kp ho hd K' hK
    go_simp
    exact hK _ _ (Fr.refl [] _) rfl
  case s1_3 =>
    refine stepOk_of _ _ rfl rfl ?_
    intro v W1 f kp ho hd K' hK
    have e7 : v 7 = .pointer (some ⟨w.heap.size + 1, 0, none⟩) := (hd 2 (by decide) _ _ rfl rfl).1
    have k0 := (b3.keep f (by simp)).cell (j := 0) rfl
    have k1 := (b3.keep f (by simp)).cell (j := 1) rfl
    simp only [e7] at hK ⊢
    go_simp
    exact hK _ _ (Fr.refl [] _) rfl
  case s1_4 =>
    refine stepOk_of _ _ rfl rfl ?_
    intro v W1 f kp ho hd K' hK
    have e6 : v 6 = .agg #[.bool g, .slice p n c] := (hd 1 (by decide) _ _ rfl rfl).1
    have e8 : v 8 = .agg #[.bool g', .slice p' n' c'] := (hd 3 (by decide) _ _ rfl rfl).1
    simp only [e6, e8] at hK ⊢
    go_simp
    refine (isame_g Hhb.out (s.kp kp) (s2.kp kp)).mono ?_
    rintro e W' ⟨rfl, ff⟩
    exact hK _ W' ff rfl
  case s1_5 =>
    refine stepOk_of _ _ rfl rfl ?_
    intro v W1 f kp ho hd K' hK
    have e9 : v 9 = .bool true := (hd 4 (by decide) _ _ rfl rfl).1
    simp only [e9] at hK ⊢
    go_simp
    exact hK _ _ (Fr.refl [] _) rfl
  case s1_6 =>
    refine stepOk_of _ _ rfl rfl ?_
    intro v W1 f kp ho hd K' hK
    have e10 : v 10 = .bool true := (hd 5 (by decide) _ _ rfl rfl).1
    simp only [e10] at hK ⊢
    go_simp
    exact hK _ _ (Fr.refl [] _) rfl
  case s1_7 =>
    refine stepOk_of _ _ rfl rfl ?_
    intro v W1 f kp ho hd K' hK
    have e11 : v 11 = .pointer (some ⟨w.heap.size, 2, none⟩) := (hd 6 (by decide) _ _ rfl rfl).1
    have e10 : v 10 = .bool true := (hd 5 (by decide) _ _ rfl rfl).1
    have k0 := (b2.keep f (by simp)).cell (j := 2) rfl
    simp only [e11, e10] at hK ⊢
    go_simp
    exact hK _ _ (Fr.refl [] _) rfl
  case s1_8 =>
    refine stepOk_of _ _ rfl rfl ?_
    intro v W1 f kp ho hd K' hK
    have e10 : v 10 = .bool true := (hd 5 (by decide) _ _ rfl rfl).1
    simp only [e10] at hK ⊢
    go_simp
    exact hK _ _ (Fr.refl [] _) rfl
  case s1_9 =>
    refine stepOk_of _ _ rfl rfl ?_
    intro v W1 f kp ho hd K' hK
    have e13 : v 13 = .pointer (some ⟨w.heap.size + 1, 2, none⟩) := (hd 8 (by decide) _ _ rfl rfl).1
    have e10 : v 10 = .bool true := (hd 5 (by decide) _ _ rfl rfl).1
    have k0 := (b3.keep f (by simp)).cell (j := 2) rfl
    simp only [e13, e10] at hK ⊢
    go_simp
    exact hK _ _ (Fr.refl [] _) rfl
  case s1_10 =>
    refine stepOk_of _ _ rfl rfl ?_
    intro v W1 f kp ho hd K' hK
    have e12 : v 12 = .slice q m d := (hd 7 (by decide) _ _ rfl rfl).1
    have e14 : v 14 = .slice q' m' d' := (hd 9 (by decide) _ _ rfl rfl).1
    have e10 : v 10 = .bool true := (hd 5 (by decide) _ _ rfl rfl).1
    simp only [e12, e14, e10] at hK ⊢
    go_simp
    refine (rsame_e Hhc.out (t.kp kp) (t2.kp kp)).mono ?_
    rintro e W' ⟨rfl, ff⟩
    exact hK _ W' ff rfl
  case s1_11 =>
    refine stepOk_of _ _ rfl rfl ?_
    intro v W1 f kp ho hd K' hK
    have e10 : v 10 = .bool true := (hd 5 (by decide) _ _ rfl rfl).1
    have e15 : v 15 = .bool b := (hd 10 (by decide) _ _ rfl rfl).1
    simp only [e10, e15] at hK ⊢
    go_simp
    exact hK _ _ (Fr.refl [] _) rfl
  case s1_12 =>
    refine stepOk_of _ _ rfl rfl ?_
    intro v W1 f kp ho hd K' hK
    have e16 : v 16 = .bool b := (hd 11 (by decide) _ _ rfl rfl).1
    simp only [e16] at hK ⊢
    go_simp
    exact hK _ _ (Fr.refl [] _) rfl
  case done1 =>
    intro v W1 f kp hF hD
    have e5 : v 5 = .pointer (some ⟨w.heap.size, 0, none⟩) := (hF 0 _ _ rfl rfl).1
    have e6 : v 6 = .agg #[.bool g, .slice p n c] := (hF 1 _ _ rfl rfl).1
    have e7 : v 7 = .pointer (some ⟨w.heap.size + 1, 0, none⟩) := (hF 2 _ _ rfl rfl).1
    have e8 : v 8 = .agg #[.bool g', .slice p' n' c'] := (hF 3 _ _ rfl rfl).1
    have e9 : v 9 = .bool true := (hF 4 _ _ rfl rfl).1
    have e10 : v 10 = .bool true := (hF 5 _ _ rfl rfl).1
    have e11 : v 11 = .pointer (some ⟨w.heap.size, 2, none⟩) := (hF 6 _ _ rfl rfl).1
    have e12 : v 12 = .slice q m d := (hF 7 _ _ rfl rfl).1
    have e13 : v 13 = .pointer (some ⟨w.heap.size + 1, 2, none⟩) := (hF 8 _ _ rfl rfl).1
    have e14 : v 14 = .slice q' m' d' := (hF 9 _ _ rfl rfl).1
    have e15 : v 15 = .bool b := (hF 10 _ _ rfl rfl).1
    have e16 : v 16 = .bool b := (hF 11 _ _ rfl rfl).1
    have e4 : v 4 = .bool b := (hF 12 _ _ rfl rfl).1
    clear hF hD
    simp only [e5, e6, e7, e8, e9, e10, e11, e12, e13, e14, e15, e16, e4]
    replace b2 := b2.keep f (by simp)
    replace b3 := b3.keep f (by simp)
    replace s := s.kp kp
    replace s2 := s2.kp kp
    replace t := t.kp kp
    replace t2 := t2.kp kp
    replace hw := hw.trans (a := w) (b := W) (c := W1) f (by simp)
    have hsz1 := f.size
    clear f kp
    go_wp2_with fail
    exact bodyPost_ret (v := .bool b) (by simp [results, Tryz.results18, go_sem]) rfl ⟨rfl, hw⟩

theorem rrsame_g {w : World} {p p' : Option Addr} {n c n' c' : Nat} {X X' : List Nat} {q q' : Option Addr} {m d m' d' : Nat} {Y Y' : List Nat} {g g' b : Bool} (hb : decide (g = g' ∧ X = X' ∧ Y = Y') = b) (s : Sl w p n c X) (s2 : Sl w p' n' c' X') (t : Sl w q m d Y) (t2 : Sl w q' m' d' Y') : Calls Tryz.prog 18 #[rw' g p n c q m d, rw' g' p' n' c' q' m' d'] w (RB b w) := by
  cases h : decide (g = g' ∧ X = X')
  · have e : b = false := by
      rw [← hb]
      have h' := of_decide_eq_false h
      exact decide_eq_false (fun k => h' ⟨k.1, k.2.1⟩)
    rw [e]
    exact rrsame_f h s s2
  · refine rrsame_t h ?_ s s2 t t2
    have h' := of_decide_eq_true h
    rw [← hb]
    simp [h'.1, h'.2]

theorem nmb_iff {X : List Nat} (h : Dg X) : nmb X = true ↔ X = dg (val X) := by
  constructor
  · intro hn
    unfold nmb at hn
    rcases of_decide_eq_true hn with h0 | h0
    · rw [List.eq_nil_of_length_eq_zero h0]; simp [val, dg_zero]
    · by_cases hl : X.length = 0
      · rw [List.eq_nil_of_length_eq_zero hl]; simp [val, dg_zero]
      · have k := dg_of_last h (X.length - 1) (by omega) h0
        rw [List.take_of_length_le (by omega)] at k
        exact k.symm
  · intro e
    rw [e]; exact nmb_dg _

theorem dg_nil_0 {x : Nat} (h : dg x = []) : x = 0 := by
  have h2 := val_dg x
  rw [h] at h2
  simp [val] at h2
  omega

theorem vq_eq {g : Bool} {X Y : List Nat} {r : Rat} (hX : Dg X) (hY : Dg Y) (hr : mkRat (iv g (val X)) (val Y) = r) : decide (g = decide (r.num < 0) ∧ X = dg r.num.natAbs ∧ Y = dg r.den) = vq g X.length X Y.length Y := by
  rw [Bool.eq_iff_iff, decide_eq_true_iff]
  unfold vq vi
  simp only [Bool.and_eq_true, Bool.not_eq_true', Bool.and_eq_false_iff, decide_eq_true_iff, decide_eq_false_iff_not]
  constructor
  · rintro ⟨h1, h2, h3⟩
    refine ⟨⟨⟨⟨?_, ?_⟩, ?_⟩, ?_⟩, ?_⟩
    · rw [h2]; exact nmb_dg _
    · by_cases hl : X.length = 0
      · refine Or.inl ?_
        rw [List.eq_nil_of_length_eq_zero hl] at h2
        have h0 := dg_nil_0 h2.symm
        have h4 : r.num = 0 := by omega
        rw [h1, h4]; rfl
      · exact Or.inr hl
    · rw [h3]; exact nmb_dg _
    · intro hl
      rw [List.eq_nil_of_length_eq_zero hl] at h3
      exact r.den_nz (dg_nil_0 h3.symm)
    · rw [h2, h3, val_dg, val_dg]; exact r.reduced
  · rintro ⟨⟨⟨⟨h1, h2⟩, h3⟩, h4⟩, h5⟩
    have eX := (nmb_iff hX).1 h1
    have eY := (nmb_iff hY).1 h3
    have hD : val Y ≠ 0 := fun e => h4 (by rw [eY, e, dg_zero]; rfl)
    have e : (⟨iv g (val X), val Y, hD, by rw [iv_abs]; exact h5⟩ : Rat) = r := by rw [← hr]; exact Rat.mk_eq_mkRat ..
    rw [← e]
    refine ⟨?_, ?_, eY⟩
    · show g = decide (iv g (val X) < 0)
      rw [iv_lt]
      rcases h2 with h2 | h2
      · rw [h2]; rfl
      · have : 0 < val X := Nat.pos_of_ne_zero (fun e0 => h2 (by rw [eX, e0, dg_zero]; rfl))
        simp [this]
    · show X = dg (iv g (val X)).natAbs
      rw [iv_abs]; exact eX

end Go.Proofs.YtagciepnhjbopaaGreatDoor
