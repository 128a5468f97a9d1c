/- What the statements of this claim stand on: of Rr4, Rat13, what they name -/
import Derived.Test.YtjjdbhohjphcoaaGreatDoorK28
import Derived.Test.YtjjdbhohjphcoaaGreatDoorK29

namespace Go.Proofs.YtjjdbhohjphcoaaGreatDoor
open Go.RowKit

set_option maxRecDepth 100000 in
set_option maxHeartbeats 1000000 in
theorem same_i {w : World} {g : Bool} {p q p' q' : Option Addr} {n c m d c' d' : Nat} {X Y : List Nat} (s1 : Sl w p n c X) (s2 : Sl w p' n c' X) (t1 : Sl w q m d Y) (t2 : Sl w q' m d' Y) : Calls Tryz.prog 18 #[rw' g p n c q m d, rw' g p' n c' q' m d'] w (RB true w) := by
  go_enter Tryz.func18, Tryz.ntmps18
  go_upto_region 1 with fail
  have hw : Fr [] w ((w.alloc (Obj.cells #[.bool g, .slice p n c, .slice q m d] 26)).alloc (Obj.cells #[.bool g, .slice p' n c', .slice q' m d'] 26)) := ((Fr.refl _ _).alloc _).alloc _
  have b2 : Bx ((w.alloc (Obj.cells #[.bool g, .slice p n c, .slice q m d] 26)).alloc (Obj.cells #[.bool g, .slice p' n c', .slice q' m d'] 26)) w.heap.size 26 #[.bool g, .slice p n c, .slice q m d] := (Bx.made' (by simp) _ _).kept ((Fr.refl _ _).alloc _)
  have b3 : Bx ((w.alloc (Obj.cells #[.bool g, .slice p n c, .slice q m d] 26)).alloc (Obj.cells #[.bool g, .slice p' n c', .slice q' m d'] 26)) (w.heap.size + 1) 26 #[.bool g, .slice p' n c', .slice q' m d'] := (Bx.made' (by simp) _ _).kept (Fr.refl _ _)
  generalize ((w.alloc (Obj.cells #[.bool g, .slice p n c, .slice q m d] 26)).alloc (Obj.cells #[.bool g, .slice p' n c', .slice q' m d'] 26)) = W at *
  have hbs := b3.lt
  replace s1 := s1.kept hw
  replace s2 := s2.kept hw
  replace t1 := t1.kept hw
  replace t2 := t2.kept hw
  refine wp_region_inv (w0 := W) (by kernel_rfl) [true, true, false, false, true, true, true, true, true, true, true, true, true, true, true, true, true] []
    [⟨[5], F1 (fun xx _ => xx = .pointer (some ⟨w.heap.size, 0, none⟩)), .pure⟩,
    ⟨[6], F1 (fun xx _ => xx = .agg #[.bool g, .slice p n c]), .pure⟩,
    ⟨[7], F1 (fun xx _ => xx = .pointer (some ⟨w.heap.size + 1, 0, none⟩)), .pure⟩,
    ⟨[8], F1 (fun xx _ => xx = .agg #[.bool g, .slice p' n c']), .pure⟩,
    ⟨[9], F1 (fun xx _ => xx = .bool true), .pure⟩,
    ⟨[10], F1 (fun xx _ => xx = .bool true), .pure⟩,
    ⟨[11], F1 (fun xx _ => xx = .pointer (some ⟨w.heap.size, 2, none⟩)), .pure⟩,
    ⟨[12], F1 (fun xx _ => xx = .slice q m d), .pure⟩,
    ⟨[13], F1 (fun xx _ => xx = .pointer (some ⟨w.heap.size + 1, 2, none⟩)), .pure⟩,
    ⟨[14], F1 (fun xx _ => xx = .slice q' m d'), .pure⟩,
    ⟨[15], F1 (fun xx _ => xx = .bool true), .pure⟩,
    ⟨[16], F1 (fun xx _ => xx = .bool true), .pure⟩,
    ⟨[4], F1 (fun xx _ => xx = .bool true), .pure⟩]
    [[], [0], [], [2], [0, 1, 2, 3], [0, 1, 2, 3, 4], [0, 1, 2, 3, 4, 5], [0, 1, 2, 3, 4, 5, 6], [0, 1, 2, 3, 4, 5], [0, 1, 2, 3, 4, 5, 8], [0, 1, 2, 3, 4, 5, 6, 7, 8, 9], [0, 1, 2, 3, 4, 5, 6, 7, 8, 9, 10], [0, 1, 2, 3, 4, 5, 6, 7, 8, 9, 10, 11]] ?mk1 ?hmk1 (by kernel_rfl)
    ⟨F1.st (st_eq _), F1.st (st_eq _), F1.st (st_eq _), F1.st (st_eq _), F1.st (st_eq _), F1.st (st_eq _), F1.st (st_eq _), F1.st (st_eq _), F1.st (st_eq _), F1.st (st_eq _), F1.st (st_eq _), F1.st (st_eq _), F1.st (st_eq _), trivial⟩ (by simp) (by simp) (n := 13) rfl ⟨⟨⟨⟨⟨⟨⟨⟨⟨⟨⟨⟨⟨trivial, ?s1_0⟩, ?s1_1⟩, ?s1_2⟩, ?s1_3⟩, ?s1_4⟩, ?s1_5⟩, ?s1_6⟩, ?s1_7⟩, ?s1_8⟩, ?s1_9⟩, ?s1_10⟩, ?s1_11⟩, ?s1_12⟩ ?done1
  case hmk1 => intro v; simp only [mkv, mix, Nat.reduceAdd]; rfl
  case s1_0 =>
    refine stepOk_of _ _ rfl rfl ?_
    intro v W1 f kp ho hd K' hK
    go_simp
    exact hK _ _ (Fr.refl [] _) rfl
  case s1_1 =>
    refine stepOk_of _ _ rfl rfl ?_
    intro v W1 f kp ho hd K' hK
    have e5 : v 5 = .pointer (some ⟨w.heap.size, 0, none⟩) := (hd 0 (by decide) _ _ rfl rfl).1
    have k0 := (b2.keep f (by simp)).cell (j := 0) rfl
    have k1 := (b2.keep f (by simp)).cell (j := 1) rfl
    simp only [e5] at hK ⊢
    go_simp
    exact hK _ _ (Fr.refl [] _) rfl
  case s1_2 =>
    refine stepOk_of _ _ rfl rfl ?_
    intro v W1 f kp ho hd K' hK
    go_simp
    exact hK _ _ (Fr.refl [] _) rfl
  case s1_3 =>
    refine stepOk_of _ _ rfl rfl ?_
    intro v W1 f kp ho hd K' hK
    have e7 : v 7 = .pointer (some ⟨w.heap.size + 1, 0, none⟩) := (hd 2 (by decide) _ _ rfl rfl).1
    have k0 := (b3.keep f (by simp)).cell (j := 0) rfl
    have k1 := (b3.keep f (by simp)).cell (j := 1) rfl
    simp only [e7] at hK ⊢
    go_simp
    exact hK _ _ (Fr.refl [] _) rfl
  case s1_4 =>
    refine stepOk_of _ _ rfl rfl ?_
    intro v W1 f kp ho hd K' hK
    have e6 : v 6 = .agg #[.bool g, .slice p n c] := (hd 1 (by decide) _ _ rfl rfl).1
    have e8 : v 8 = .agg #[.bool g, .slice p' n c'] := (hd 3 (by decide) _ _ rfl rfl).1
    simp only [e6, e8] at hK ⊢
    go_simp
    refine (isame_any _ _ _ _ _ _ _ _ (s1.kp kp) (s2.kp kp)).mono ?_
    rintro e W' ⟨rfl, ff⟩
    exact hK _ W' ff rfl
  case s1_5 =>
    refine stepOk_of _ _ rfl rfl ?_
    intro v W1 f kp ho hd K' hK
    have e9 : v 9 = .bool true := (hd 4 (by decide) _ _ rfl rfl).1
    simp only [e9] at hK ⊢
    go_simp
    exact hK _ _ (Fr.refl [] _) rfl
  case s1_6 =>
    refine stepOk_of _ _ rfl rfl ?_
    intro v W1 f kp ho hd K' hK
    have e10 : v 10 = .bool true := (hd 5 (by decide) _ _ rfl rfl).1
    simp only [e10] at hK ⊢
    go_simp
    exact hK _ _ (Fr.refl [] _) rfl
  case s1_7 =>
    refine stepOk_of _ _ rfl rfl ?_
    intro v W1 f kp ho hd K' hK
    have e11 : v 11 = .pointer (some ⟨w.heap.size, 2, none⟩) := (hd 6 (by decide) _ _ rfl rfl).1
    have e10 : v 10 = .bool true := (hd 5 (by decide) _ _ rfl rfl).1
    have k0 := (b2.keep f (by simp)).cell (j := 2) rfl
    simp only [e11, e10] at hK ⊢
    go_simp
    exact hK _ _ (Fr.refl [] _) rfl
  case s1_8 =>
    refine stepOk_of _ _ rfl rfl ?_
    intro v W1 f kp ho hd K' hK
    have e10 : v 10 = .bool true := (hd 5 (by decide) _ _ rfl rfl).1
    simp only [e10] at hK ⊢
    go_simp
    exact hK _ _ (Fr.refl [] _) rfl
  case s1_9 =>
    refine stepOk_of _ _ rfl rfl ?_
    intro v W1 f kp ho hd K' hK
    have e13 : v 13 = .pointer (some ⟨w.heap.size + 1, 2, none⟩) := (hd 8 (by decide) _ _ rfl rfl).1
    have e10 : v 10 = .bool true := (hd 5 (by decide) _ _ rfl rfl).1
    have k0 := (b3.keep f (by simp)).cell (j := 2) rfl
    simp only [e13, e10] at hK ⊢
    go_simp
    exact hK _ _ (Fr.refl [] _) rfl
  case s1_10 =>
    refine stepOk_of _ _ rfl rfl ?_
    intro v W1 f kp ho hd K' hK
    have e12 : v 12 = .slice q m d := (hd 7 (by decide) _ _ rfl rfl).1
    have e14 : v 14 = .slice q' m d' := (hd 9 (by decide) _ _ rfl rfl).1
    have e10 : v 10 = .bool true := (hd 5 (by decide) _ _ rfl rfl).1
    simp only [e12, e14, e10] at hK ⊢
    go_simp
    refine (same_any _ _ _ _ _ _ _ (t1.kp kp) (t2.kp kp)).mono ?_
    rintro e W' ⟨rfl, ff⟩
    exact hK _ W' ff rfl
  case s1_11 =>
    refine stepOk_of _ _ rfl rfl ?_
    intro v W1 f kp ho hd K' hK
    have e10 : v 10 = .bool true := (hd 5 (by decide) _ _ rfl rfl).1
    have e15 : v 15 = .bool true := (hd 10 (by decide) _ _ rfl rfl).1
    simp only [e10, e15] at hK ⊢
    go_simp
    exact hK _ _ (Fr.refl [] _) rfl
  case s1_12 =>
    refine stepOk_of _ _ rfl rfl ?_
    intro v W1 f kp ho hd K' hK
    have e16 : v 16 = .bool true := (hd 11 (by decide) _ _ rfl rfl).1
    simp only [e16] at hK ⊢
    go_simp
    exact hK _ _ (Fr.refl [] _) rfl
  case done1 =>
    intro v W1 f kp hF hD
    have e5 : v 5 = .pointer (some ⟨w.heap.size, 0, none⟩) := (hF 0 _ _ rfl rfl).1
    have e6 : v 6 = .agg #[.bool g, .slice p n c] := (hF 1 _ _ rfl rfl).1
    have e7 : v 7 = .pointer (some ⟨w.heap.size + 1, 0, none⟩) := (hF 2 _ _ rfl rfl).1
    have e8 : v 8 = .agg #[.bool g, .slice p' n c'] := (hF 3 _ _ rfl rfl).1
    have e9 : v 9 = .bool true := (hF 4 _ _ rfl rfl).1
    have e10 : v 10 = .bool true := (hF 5 _ _ rfl rfl).1
    have e11 : v 11 = .pointer (some ⟨w.heap.size, 2, none⟩) := (hF 6 _ _ rfl rfl).1
    have e12 : v 12 = .slice q m d := (hF 7 _ _ rfl rfl).1
    have e13 : v 13 = .pointer (some ⟨w.heap.size + 1, 2, none⟩) := (hF 8 _ _ rfl rfl).1
    have e14 : v 14 = .slice q' m d' := (hF 9 _ _ rfl rfl).1
    have e15 : v 15 = .bool true := (hF 10 _ _ rfl rfl).1
    have e16 : v 16 = .bool true := (hF 11 _ _ rfl rfl).1
    have e4 : v 4 = .bool true := (hF 12 _ _ rfl rfl).1
    clear hF hD
    simp only [e5, e6, e7, e8, e9, e10, e11, e12, e13, e14, e15, e16, e4]
    replace b2 := b2.keep f (by simp)
    replace b3 := b3.keep f (by simp)
    replace s1 := s1.kp kp
    replace s2 := s2.kp kp
    replace t1 := t1.kp kp
    replace t2 := t2.kp kp
    replace hw := hw.trans (a := w) (b := W) (c := W1) f (by simp)
    have hsz1 := f.size
    clear f kp
    go_wp2_with fail
    exact bodyPost_ret (v := .bool true) (by simp [results, Tryz.results18, go_sem]) rfl ⟨rfl, hw⟩

theorem same_q {w : World} {r : Rat} {u u' : Value} (h : VQ w r u) (h' : VQ w r u') : Calls Tryz.prog 18 #[u, u'] w (RB true w) := by
  obtain ⟨p, c, q, d, rfl, s, t⟩ := h
  obtain ⟨p', c', q', d', rfl, s', t'⟩ := h'
  exact same_i s s' t t'

theorem nz_word {x : Int} (_h : -9223372036854775808 ≤ x) (_h2 : x ≤ 9223372036854775807) : nz x ≤ 2 := by
  unfold nz
  exact dg_len_le (by
    have : pB 2 = 18446744073709551616 := by decide
    rw [this]; omega)

set_option maxRecDepth 100000 in
set_option maxHeartbeats 1000000 in
theorem rfrac_p {w : World} (x y : Int) (hx0 : x ≠ 0) (hy0 : 0 < y) (hxx : -9223372036854775808 ≤ x) (hyx : x ≤ 9223372036854775807) (hxy : -9223372036854775808 ≤ y) (hyy : y ≤ 9223372036854775807) : Calls Tryz.prog 39 #[.int .i64 x, .int .i64 y] w (RV (fun w' => VQ w' (Rat.divInt x y)) w) := by
  obtain ⟨q, hq⟩ : ∃ q, Rat.divInt x y = q := ⟨_, rfl⟩
  rw [hq]
  have lx := nz_word hxx hyx
  have ly := nz_word hxy hyy
  have Hhq := Lib.hid hq; clear hq
  go_enter Tryz.func39, Tryz.ntmps39
  go_upto_region 1 with fail
  have hw : Fr [] w (w.alloc (Obj.cells #[.bool false, .slice none 0 0, .slice none 0 0] 26)) := (Fr.refl _ _).alloc _
  have b4 : Bx (w.alloc (Obj.cells #[.bool false, .slice none 0 0, .slice none 0 0] 26)) w.heap.size 26 #[.bool false, .slice none 0 0, .slice none 0 0] := (Bx.made' (by simp) _ _).kept (Fr.refl _ _)
  generalize (w.alloc (Obj.cells #[.bool false, .slice none 0 0, .slice none 0 0] 26)) = W at *
  have hbs := b4.lt
  refine wp_region_inv (w0 := W) (by kernel_rfl) [false, false, true, true, false, true, true, true, true, true] [w.heap.size]
    [⟨[5], F1 (fun xx _ => xx = .int .i64 x), .pure⟩,
    ⟨[6], F1 (fun xx ww => VZ ww x xx), .pure⟩,
    ⟨[7], F1 (fun xx _ => xx = .int .i64 y), .pure⟩,
    ⟨[8], F1 (fun xx ww => VZ ww y xx), .pure⟩,
    ⟨[9], F1 (fun xx ww => VQ ww q xx), .pure⟩,
    ⟨[9], F0, .out 0 26 cellsOf⟩]
    [[], [0], [], [0, 1, 2], [0, 1, 2, 3], [0, 1, 2, 3, 4]] ?mk1 ?hmk1 (by kernel_rfl)
    ⟨F1.st (st_eq _), F1.st (fun _ _ _ k h => h.kp k), F1.st (st_eq _), F1.st (fun _ _ _ k h => h.kp k), F1.st (fun _ _ _ k h => h.kp k), F0.st, trivial⟩ (by simp) (by simp <;> omega) (n := 6) rfl ⟨⟨⟨⟨⟨⟨trivial, ?s1_0⟩, ?s1_1⟩, ?s1_2⟩, ?s1_3⟩, ?s1_4⟩, ?s1_5⟩ ?done1
  case hmk1 => intro v; simp only [mkv, mix, Nat.reduceAdd]; rfl
  case s1_0 =>
    refine stepOk_of _ _ rfl rfl ?_
    intro v W1 f kp ho hd K' hK
    go_simp
    exact hK _ _ (Fr.refl [] _) rfl
  case s1_1 =>
    refine stepOk_of _ _ rfl rfl ?_
    intro v W1 f kp ho hd K' hK
    have e5 : v 5 = .int .i64 x := (hd 0 (by decide) _ _ rfl rfl).1
    simp only [e5] at hK ⊢
    go_simp
    refine (riof_v x _ hxx hyx).mono ?_
    rintro e W' ⟨x, rfl, hx, ff⟩
    exact hK x W' ff hx
  case s1_2 =>
    refine stepOk_of _ _ rfl rfl ?_
    intro v W1 f kp ho hd K' hK
    go_simp
    exact hK _ _ (Fr.refl [] _) rfl
  case s1_3 =>
    refine stepOk_of _ _ rfl rfl ?_
    intro v W1 f kp ho hd K' hK
    have e7 : v 7 = .int .i64 y := (hd 2 (by decide) _ _ rfl rfl).1
    simp only [e7] at hK ⊢
    go_simp
    refine (riof_v y _ hxy hyy).mono ?_
    rintro e W' ⟨x, rfl, hx, ff⟩
    exact hK x W' ff hx
  case s1_4 =>
    refine stepOk_of _ _ rfl rfl ?_
    intro v W1 f kp ho hd K' hK
    have f6 : VZ W1 x (v 6) := (hd 1 (by decide) _ _ rfl rfl).1
    have f8 : VZ W1 y (v 8) := (hd 3 (by decide) _ _ rfl rfl).1
    go_simp
    refine (rreduce_p Hhq.out hx0 hy0 (f6.raw lx) (f8.raw ly) (by omega) (by omega)).mono ?_
    rintro e W' ⟨x, rfl, hx, ff⟩
    exact hK x W' ff hx
  case s1_5 =>
    refine stepOk_of _ _ rfl rfl ?_
    intro v W1 f kp ho hd K' hK
    have f9 : VQ W1 q (v 9) := (hd 4 (by decide) _ _ rfl rfl).1
    have o9 := f9
    obtain ⟨p9, c9, q9, d9, e9, s9, t9⟩ := o9
    have bz : Bx W1 w.heap.size 26 #[.bool false, .slice none 0 0, .slice none 0 0] := (ho 0 _ rfl (by kernel_rfl)).trans b4
    have k0 := bz.cell (j := 0) rfl
    have fr0 := bz.free 0
    have k1 := bz.cell (j := 1) rfl
    have fr1 := bz.free 1
    have k2 := bz.cell (j := 2) rfl
    have fr2 := bz.free 2
    simp only [e9] at hK ⊢
    go_simp
    exact hK undef _ (move_out (cs := #[.bool (decide ((q).num < 0)), .slice p9 (dg (q).num.natAbs).length c9, .slice q9 (dg (q).den).length d9]) rfl rfl (by simp only [List.map, e9]; rfl) (bz.soft rfl) rfl rfl ((((Fr.refl _ _).put1 0 _).put1 1 _).put1 2 _) ((((bz.put1 0 _).put1 1 _).put1 2 _))) trivial
  case done1 =>
    intro v W1 f kp hF hD
    have e5 : v 5 = .int .i64 x := (hF 0 _ _ rfl rfl).1
    have f6 : VZ W1 x (v 6) := (hF 1 _ _ rfl rfl).1
    have e7 : v 7 = .int .i64 y := (hF 2 _ _ rfl rfl).1
    have f8 : VZ W1 y (v 8) := (hF 3 _ _ rfl rfl).1
    have f9 : VQ W1 q (v 9) := (hF 4 _ _ rfl rfl).1
    have o9 := f9
    obtain ⟨p9, c9, q9, d9, e9, s9, t9⟩ := o9
    rw [e9] at f9
    obtain ⟨-, A', eA, nb4⟩ := hF 5 _ _ rfl rfl
    injection eA with eA; subst eA
    replace nb4 : Bx W1 w.heap.size 26 #[.bool (decide ((q).num < 0)), .slice p9 (dg (q).num.natAbs).length c9, .slice q9 (dg (q).den).length d9] := by simp only [List.map, e9] at nb4; exact nb4
    clear hF hD
    simp only [e5, e7, e9]
    clear b4; have b4 := nb4; clear nb4
    replace hw := hw.trans (a := w) (b := W) (c := W1) f (fun x hx hl => by simp at hx; omega)
    have hsz1 := f.size
    clear f kp
    go_wp2_with fail
    have c_b4_0 := b4.cell (j := 0) rfl
    have c_b4_1 := b4.cell (j := 1) rfl
    have c_b4_2 := b4.cell (j := 2) rfl
    exact bodyPost_ret (v := rw' (decide ((q).num < 0)) p9 (dg (q).num.natAbs).length c9 q9 (dg (q).den).length d9) (by simp [results, Tryz.results39, go_sem, c_b4_0, c_b4_1, c_b4_2]) rfl ⟨_, rfl, f9, hw⟩

end Go.Proofs.YtjjdbhohjphcoaaGreatDoor

namespace Go.Proofs.YtjjdbhohjphcoaaGreatDoor
open Go.RowKit

set_option maxRecDepth 100000 in
set_option maxHeartbeats 1000000 in
theorem rounded_down {w : World} {L k : Nat} {r : Rat} {va : Value} (ht : Tab w) (h1 : VR w L r va) (_hL : L ≤ 16383) (hk : k ≤ 256) : Calls Tryz.prog 125 #[va, .int .i64 (k : Int), .func (.func 126) #[] #[]] w (RM (downQ r k) w) := by
  have t0 : decide ((k : Int) < 0) = false := decide_eq_false (by omega)
  have t1 : decide (256 < (k : Int)) = false := decide_eq_false (by omega)
  have o_h1 := h1
  obtain ⟨ga, pa, na, ca, Xa, qa, ma, da, Ya, rfl, -, -, -, -, -⟩ := o_h1
  go_enter Tryz.func125, Tryz.ntmps125
  go_upto_region 3 with fail
  have hw : Fr [] w ((w.alloc (Obj.cells #[.bool ga, .slice pa na ca, .slice qa ma da] 26)).alloc (Obj.cells #[.bool false, .slice none 0 0, .slice none 0 0] 26)) := ((Fr.refl _ _).alloc _).alloc _
  have b3 : Bx ((w.alloc (Obj.cells #[.bool ga, .slice pa na ca, .slice qa ma da] 26)).alloc (Obj.cells #[.bool false, .slice none 0 0, .slice none 0 0] 26)) w.heap.size 26 #[.bool ga, .slice pa na ca, .slice qa ma da] := (Bx.made' (by simp) _ _).kept ((Fr.refl _ _).alloc _)
  have b6 : Bx ((w.alloc (Obj.cells #[.bool ga, .slice pa na ca, .slice qa ma da] 26)).alloc (Obj.cells #[.bool false, .slice none 0 0, .slice none 0 0] 26)) (w.heap.size + 1) 26 #[.bool false, .slice none 0 0, .slice none 0 0] := (Bx.made' (by simp) _ _).kept (Fr.refl _ _)
  generalize ((w.alloc (Obj.cells #[.bool ga, .slice pa na ca, .slice qa ma da] 26)).alloc (Obj.cells #[.bool false, .slice none 0 0, .slice none 0 0] 26)) = W at *
  have hbs := b6.lt
  replace ht := ht.kept hw
  replace h1 := h1.kept hw
  refine wp_region_inv (w0 := W) (by kernel_rfl) [true, false, false, false, true, true, false, true, true, true, true, true, true, true, true, true, true, true, true, true, true] [(w.heap.size + 1)]
    [⟨[15], F1 (fun xx _ => xx = .func (.func 126) #[] #[]), .pure⟩,
    ⟨[16], F1 (fun xx _ => xx = .agg #[.bool ga, .slice pa na ca, .slice qa ma da]), .pure⟩,
    ⟨[17], F1 (fun xx ww => VF ww (L + 1) r xx), .pure⟩,
    ⟨[18], F1 (fun xx _ => xx = .int .i64 (k : Int)), .pure⟩,
    ⟨[19], F1 (fun xx ww => VF ww (L + 1 + 9) (downQ r k) xx), .pure⟩,
    ⟨[20], F1 (fun xx ww => VQ ww (downQ r k) xx), .pure⟩,
    ⟨[20], F0, .out 0 26 cellsOf⟩,
    ⟨[7], F1 (fun xx _ => xx = .int .i64 0), .pure⟩]
    [[], [], [1], [], [0, 1, 2, 3], [0, 1, 2, 3, 4], [0, 1, 2, 3, 4, 5], [0, 1, 2, 3, 4, 5, 6]] ?mk1 ?hmk1 (by kernel_rfl)
    ⟨F1.st (st_eq _), F1.st (st_eq _), F1.st (fun _ _ _ k h => h.kp k), F1.st (st_eq _), F1.st (fun _ _ _ k h => h.kp k), F1.st (fun _ _ _ k h => h.kp k), F0.st, F1.st (st_eq _), trivial⟩ (by simp) (by simp <;> omega) (n := 8) rfl ⟨⟨⟨⟨⟨⟨⟨⟨trivial, ?s1_0⟩, ?s1_1⟩, ?s1_2⟩, ?s1_3⟩, ?s1_4⟩, ?s1_5⟩, ?s1_6⟩, ?s1_7⟩ ?done1
  case hmk1 => intro v; simp only [mkv, mix, Nat.reduceAdd]; rfl
  case s1_0 =>
    refine stepOk_of _ _ rfl rfl ?_
    intro v W1 f kp ho hd K' hK
    go_simp
    exact hK _ _ (Fr.refl [] _) rfl
  case s1_1 =>
    refine stepOk_of _ _ rfl rfl ?_
    intro v W1 f kp ho hd K' hK
    have k0 := (b3.keep f (by simp <;> omega)).cell (j := 0) rfl
    have k1 := (b3.keep f (by simp <;> omega)).cell (j := 1) rfl
    have k2 := (b3.keep f (by simp <;> omega)).cell (j := 2) rfl
    go_simp
    exact hK _ _ (Fr.refl [] _) rfl
  case s1_2 =>
    refine stepOk_of _ _ rfl rfl ?_
    intro v W1 f kp ho hd K' hK
    have e16 : v 16 = .agg #[.bool ga, .slice pa na ca, .slice qa ma da] := (hd 1 (by decide) _ _ rfl rfl).1
    simp only [e16] at hK ⊢
    go_simp
    refine (read_v (h1.kp kp) (by omega)).mono ?_
    rintro e W' ⟨x, rfl, hx, ff⟩
    exact hK x W' ff hx
  case s1_3 =>
    refine stepOk_of _ _ rfl rfl ?_
    intro v W1 f kp ho hd K' hK
    go_simp
    exact hK _ _ (Fr.refl [] _) rfl
  case s1_4 =>
    refine stepOk_of _ _ rfl rfl ?_
    intro v W1 f kp ho hd K' hK
    have e15 : v 15 = .func (.func 126) #[] #[] := (hd 0 (by decide) _ _ rfl rfl).1
    have f17 : VF W1 (L + 1) r (v 17) := (hd 2 (by decide) _ _ rfl rfl).1
    have e18 : v 18 = .int .i64 (k : Int) := (hd 3 (by decide) _ _ rfl rfl).1
    simp only [e15, e18] at hK ⊢
    go_simp
    refine (fdown_v f17 (by omega) hk).mono ?_
    rintro e W' ⟨x, rfl, hx, ff⟩
    exact hK x W' ff hx
  case s1_5 =>
    refine stepOk_of _ _ rfl rfl ?_
    intro v W1 f kp ho hd K' hK
    have f19 : VF W1 (L + 1 + 9) (downQ r k) (v 19) := (hd 4 (by decide) _ _ rfl rfl).1
    go_simp
    refine (result_v (ht.kp kp) f19 (by omega)).mono ?_
    rintro e W' ⟨x, rfl, hx, ff⟩
    exact hK x W' ff hx
  case s1_6 =>
    refine stepOk_of _ _ rfl rfl ?_
    intro v W1 f kp ho hd K' hK
    have f20 : VQ W1 (downQ r k) (v 20) := (hd 5 (by decide) _ _ rfl rfl).1
    have o20 := f20
    obtain ⟨p20, c20, q20, d20, e20, s20, t20⟩ := o20
    have bz : Bx W1 (w.heap.size + 1) 26 #[.bool false, .slice none 0 0, .slice none 0 0] := (ho 0 _ rfl (by kernel_rfl)).trans b6
    have k0 := bz.cell (j := 0) rfl
    have fr0 := bz.free 0
    have k1 := bz.cell (j := 1) rfl
    have fr1 := bz.free 1
    have k2 := bz.cell (j := 2) rfl
    have fr2 := bz.free 2
    simp only [e20] at hK ⊢
    go_simp
    exact hK undef _ (move_out (cs := #[.bool (decide (((downQ r k)).num < 0)), .slice p20 (dg ((downQ r k)).num.natAbs).length c20, .slice q20 (dg ((downQ r k)).den).length d20]) rfl rfl (by simp only [List.map, e20]; rfl) (bz.soft rfl) rfl rfl ((((Fr.refl _ _).put1 0 _).put1 1 _).put1 2 _) ((((bz.put1 0 _).put1 1 _).put1 2 _))) trivial
  case s1_7 =>
    refine stepOk_of _ _ rfl rfl ?_
    intro v W1 f kp ho hd K' hK
    go_simp
    exact hK _ _ (Fr.refl [] _) rfl
  case done1 =>
    intro v W1 f kp hF hD
    have e15 : v 15 = .func (.func 126) #[] #[] := (hF 0 _ _ rfl rfl).1
    have e16 : v 16 = .agg #[.bool ga, .slice pa na ca, .slice qa ma da] := (hF 1 _ _ rfl rfl).1
    have f17 : VF W1 (L + 1) r (v 17) := (hF 2 _ _ rfl rfl).1
    have e18 : v 18 = .int .i64 (k : Int) := (hF 3 _ _ rfl rfl).1
    have f19 : VF W1 (L + 1 + 9) (downQ r k) (v 19) := (hF 4 _ _ rfl rfl).1
    have f20 : VQ W1 (downQ r k) (v 20) := (hF 5 _ _ rfl rfl).1
    have o20 := f20
    obtain ⟨p20, c20, q20, d20, e20, s20, t20⟩ := o20
    rw [e20] at f20
    have e7 : v 7 = .int .i64 0 := (hF 7 _ _ rfl rfl).1
    obtain ⟨-, A', eA, nb6⟩ := hF 6 _ _ rfl rfl
    injection eA with eA; subst eA
    replace nb6 : Bx W1 (w.heap.size + 1) 26 #[.bool (decide (((downQ r k)).num < 0)), .slice p20 (dg ((downQ r k)).num.natAbs).length c20, .slice q20 (dg ((downQ r k)).den).length d20] := by simp only [List.map, e20] at nb6; exact nb6
    clear hF hD
    simp only [e15, e16, e18, e20, e7]
    replace b3 := b3.keep f (by simp <;> omega)
    clear b6; have b6 := nb6; clear nb6
    replace ht := ht.kp kp
    replace h1 := h1.kp kp
    replace hw := hw.trans (a := w) (b := W) (c := W1) f (fun x hx hl => by simp at hx; omega)
    have hsz1 := f.size
    clear f kp
    go_wp2_with fail
    have c_b6_0 := b6.cell (j := 0) rfl
    have c_b6_1 := b6.cell (j := 1) rfl
    have c_b6_2 := b6.cell (j := 2) rfl
    exact bodyPost_ret (v := .tuple #[rw' (decide (((downQ r k)).num < 0)) p20 (dg ((downQ r k)).num.natAbs).length c20 q20 (dg ((downQ r k)).den).length d20, .int .i64 0]) (by simp [results, Tryz.results125, go_sem, c_b6_0, c_b6_1, c_b6_2]) rfl ⟨_, rfl, f20, hw⟩

set_option maxRecDepth 100000 in
set_option maxHeartbeats 1000000 in
theorem down_v {w : World} {L k : Nat} {r : Rat} {va : Value} (ht : Tab w) (h1 : VR w L r va) (hL : L ≤ 16383) (hk : k ≤ 256) : Calls Tryz.prog 46 #[va, .int .i64 (k : Int)] w (RM (downQ r k) w) := by
  have o_h1 := h1
  obtain ⟨ga, pa, na, ca, Xa, qa, ma, da, Ya, rfl, -, -, -, -, -⟩ := o_h1
  go_enter Tryz.func46, Tryz.ntmps46
  go_upto_region 1 with fail
  have hw : Fr [] w ((w.alloc (Obj.cells #[.bool ga, .slice pa na ca, .slice qa ma da] 26)).alloc (Obj.cells #[.bool false, .slice none 0 0, .slice none 0 0] 26)) := ((Fr.refl _ _).alloc _).alloc _
  have b2 : Bx ((w.alloc (Obj.cells #[.bool ga, .slice pa na ca, .slice qa ma da] 26)).alloc (Obj.cells #[.bool false, .slice none 0 0, .slice none 0 0] 26)) w.heap.size 26 #[.bool ga, .slice pa na ca, .slice qa ma da] := (Bx.made' (by simp) _ _).kept ((Fr.refl _ _).alloc _)
  have b4 : Bx ((w.alloc (Obj.cells #[.bool ga, .slice pa na ca, .slice qa ma da] 26)).alloc (Obj.cells #[.bool false, .slice none 0 0, .slice none 0 0] 26)) (w.heap.size + 1) 26 #[.bool false, .slice none 0 0, .slice none 0 0] := (Bx.made' (by simp) _ _).kept (Fr.refl _ _)
  generalize ((w.alloc (Obj.cells #[.bool ga, .slice pa na ca, .slice qa ma da] 26)).alloc (Obj.cells #[.bool false, .slice none 0 0, .slice none 0 0] 26)) = W at *
  have hbs := b4.lt
  replace ht := ht.kept hw
  replace h1 := h1.kept hw
  refine wp_region_inv (w0 := W) (by kernel_rfl) [true, false, false, true, false, true, true, true, true, true, true] [(w.heap.size + 1)]
    [⟨[6], F1 (fun xx _ => xx = .agg #[.bool ga, .slice pa na ca, .slice qa ma da]), .pure⟩,
    ⟨[7], F1 (fun xx _ => xx = .int .i64 (k : Int)), .pure⟩,
    ⟨[8], F1 (fun xx ww => ∃ y0, xx = .tuple #[y0, .int .i64 0] ∧ VQ ww (downQ r k) y0), .pure⟩,
    ⟨[9], F1 (fun xx ww => VQ ww (downQ r k) xx), .pure⟩,
    ⟨[10], F1 (fun xx _ => xx = .int .i64 0), .pure⟩,
    ⟨[9], F0, .out 0 26 cellsOf⟩,
    ⟨[5], F1 (fun xx _ => xx = .int .i64 0), .pure⟩]
    [[], [], [0, 1], [0, 1, 2], [0, 1, 2], [0, 1, 2, 3, 4], [0, 1, 2, 3, 4, 5]] ?mk1 ?hmk1 (by kernel_rfl)
    ⟨F1.st (st_eq _), F1.st (st_eq _), F1.st (fun _ _ _ k h => by obtain ⟨y0, e, h0⟩ := h; exact ⟨y0, e, h0.kp k⟩), F1.st (fun _ _ _ k h => h.kp k), F1.st (st_eq _), F0.st, F1.st (st_eq _), trivial⟩ (by simp) (by simp <;> omega) (n := 7) rfl ⟨⟨⟨⟨⟨⟨⟨trivial, ?s1_0⟩, ?s1_1⟩, ?s1_2⟩, ?s1_3⟩, ?s1_4⟩, ?s1_5⟩, ?s1_6⟩ ?done1
  case hmk1 => intro v; simp only [mkv, mix, Nat.reduceAdd]; rfl
  case s1_0 =>
    refine stepOk_of _ _ rfl rfl ?_
    intro v W1 f kp ho hd K' hK
    have k0 := (b2.keep f (by simp <;> omega)).cell (j := 0) rfl
    have k1 := (b2.keep f (by simp <;> omega)).cell (j := 1) rfl
    have k2 := (b2.keep f (by simp <;> omega)).cell (j := 2) rfl
    go_simp
    exact hK _ _ (Fr.refl [] _) rfl
  case s1_1 =>
    refine stepOk_of _ _ rfl rfl ?_
    intro v W1 f kp ho hd K' hK
    go_simp
    exact hK _ _ (Fr.refl [] _) rfl
  case s1_2 =>
    refine stepOk_of _ _ rfl rfl ?_
    intro v W1 f kp ho hd K' hK
    have e6 : v 6 = .agg #[.bool ga, .slice pa na ca, .slice qa ma da] := (hd 0 (by decide) _ _ rfl rfl).1
    have e7 : v 7 = .int .i64 (k : Int) := (hd 1 (by decide) _ _ rfl rfl).1
    simp only [e6, e7] at hK ⊢
    go_simp
    refine (rounded_down (ht.kp kp) (h1.kp kp) hL hk).mono ?_
    rintro e W' ⟨x0, rfl, y0, ff⟩
    exact hK _ W' ff ⟨_, rfl, y0⟩
  case s1_3 =>
    refine stepOk_of _ _ rfl rfl ?_
    intro v W1 f kp ho hd K' hK
    have f8 : ∃ y0, v 8 = .tuple #[y0, .int .i64 0] ∧ VQ W1 (downQ r k) y0 := (hd 2 (by decide) _ _ rfl rfl).1
    obtain ⟨a8_0, e8, h8_0⟩ := f8
    simp only [e8] at hK ⊢
    go_simp
    exact hK _ _ (Fr.refl [] _) h8_0
  case s1_4 =>
    refine stepOk_of _ _ rfl rfl ?_
    intro v W1 f kp ho hd K' hK
    have f8 : ∃ y0, v 8 = .tuple #[y0, .int .i64 0] ∧ VQ W1 (downQ r k) y0 := (hd 2 (by decide) _ _ rfl rfl).1
    obtain ⟨a8_0, e8, h8_0⟩ := f8
    simp only [e8] at hK ⊢
    go_simp
    exact hK _ _ (Fr.refl [] _) rfl
  case s1_5 =>
    refine stepOk_of _ _ rfl rfl ?_
    intro v W1 f kp ho hd K' hK
    have f9 : VQ W1 (downQ r k) (v 9) := (hd 3 (by decide) _ _ rfl rfl).1
    have o9 := f9
    obtain ⟨p9, c9, q9, d9, e9, s9, t9⟩ := o9
    have bz : Bx W1 (w.heap.size + 1) 26 #[.bool false, .slice none 0 0, .slice none 0 0] := (ho 0 _ rfl (by kernel_rfl)).trans b4
    have k0 := bz.cell (j := 0) rfl
    have fr0 := bz.free 0
    have k1 := bz.cell (j := 1) rfl
    have fr1 := bz.free 1
    have k2 := bz.cell (j := 2) rfl
    have fr2 := bz.free 2
    simp only [e9] at hK ⊢
    go_simp
    exact hK undef _ (move_out (cs := #[.bool (decide (((downQ r k)).num < 0)), .slice p9 (dg ((downQ r k)).num.natAbs).length c9, .slice q9 (dg ((downQ r k)).den).length d9]) rfl rfl (by simp only [List.map, e9]; rfl) (bz.soft rfl) rfl rfl ((((Fr.refl _ _).put1 0 _).put1 1 _).put1 2 _) ((((bz.put1 0 _).put1 1 _).put1 2 _))) trivial
  case s1_6 =>
    refine stepOk_of _ _ rfl rfl ?_
    intro v W1 f kp ho hd K' hK
    have e10 : v 10 = .int .i64 0 := (hd 4 (by decide) _ _ rfl rfl).1
    simp only [e10] at hK ⊢
    go_simp
    exact hK _ _ (Fr.refl [] _) rfl
  case done1 =>
    intro v W1 f kp hF hD
    have e6 : v 6 = .agg #[.bool ga, .slice pa na ca, .slice qa ma da] := (hF 0 _ _ rfl rfl).1
    have e7 : v 7 = .int .i64 (k : Int) := (hF 1 _ _ rfl rfl).1
    have f9 : VQ W1 (downQ r k) (v 9) := (hF 3 _ _ rfl rfl).1
    have o9 := f9
    obtain ⟨p9, c9, q9, d9, e9, s9, t9⟩ := o9
    rw [e9] at f9
    have e10 : v 10 = .int .i64 0 := (hF 4 _ _ rfl rfl).1
    have e5 : v 5 = .int .i64 0 := (hF 6 _ _ rfl rfl).1
    obtain ⟨-, A', eA, nb4⟩ := hF 5 _ _ rfl rfl
    injection eA with eA; subst eA
    replace nb4 : Bx W1 (w.heap.size + 1) 26 #[.bool (decide (((downQ r k)).num < 0)), .slice p9 (dg ((downQ r k)).num.natAbs).length c9, .slice q9 (dg ((downQ r k)).den).length d9] := by simp only [List.map, e9] at nb4; exact nb4
    clear hF hD
    simp only [e6, e7, e9, e10, e5]
    replace b2 := b2.keep f (by simp <;> omega)
    clear b4; have b4 := nb4; clear nb4
    replace ht := ht.kp kp
    replace h1 := h1.kp kp
    replace hw := hw.trans (a := w) (b := W) (c := W1) f (fun x hx hl => by simp at hx; omega)
    have hsz1 := f.size
    clear f kp
    go_wp2_with fail
    have c_b4_0 := b4.cell (j := 0) rfl
    have c_b4_1 := b4.cell (j := 1) rfl
    have c_b4_2 := b4.cell (j := 2) rfl
    exact bodyPost_ret (v := .tuple #[rw' (decide (((downQ r k)).num < 0)) p9 (dg ((downQ r k)).num.natAbs).length c9 q9 (dg ((downQ r k)).den).length d9, .int .i64 0]) (by simp [results, Tryz.results46, go_sem, c_b4_0, c_b4_1, c_b4_2]) rfl ⟨_, rfl, f9, hw⟩

set_option maxRecDepth 100000 in
set_option maxHeartbeats 1000000 in
theorem rounded_up {w : World} {L k : Nat} {r : Rat} {va : Value} (ht : Tab w) (h1 : VR w L r va) (_hL : L ≤ 16383) (hk : k ≤ 256) : Calls Tryz.prog 125 #[va, .int .i64 (k : Int), .func (.func 129) #[] #[]] w (RM (upQ r k) w) := by
  have t0 : decide ((k : Int) < 0) = false := decide_eq_false (by omega)
  have t1 : decide (256 < (k : Int)) = false := decide_eq_false (by omega)
  have o_h1 := h1
  obtain ⟨ga, pa, na, ca, Xa, qa, ma, da, Ya, rfl, -, -, -, -, -⟩ := o_h1
  go_enter Tryz.func125, Tryz.ntmps125
  go_upto_region 3 with fail
  have hw : Fr [] w ((w.alloc (Obj.cells #[.bool ga, .slice pa na ca, .slice qa ma da] 26)).alloc (Obj.cells #[.bool false, .slice none 0 0, .slice none 0 0] 26)) := ((Fr.refl _ _).alloc _).alloc _
  have b3 : Bx ((w.alloc (Obj.cells #[.bool ga, .slice pa na ca, .slice qa ma da] 26)).alloc (Obj.cells #[.bool false, .slice none 0 0, .slice none 0 0] 26)) w.heap.size 26 #[.bool ga, .slice pa na ca, .slice qa ma da] := (Bx.made' (by simp) _ _).kept ((Fr.refl _ _).alloc _)
  have b6 : Bx ((w.alloc (Obj.cells #[.bool ga, .slice pa na ca, .slice qa ma da] 26)).alloc (Obj.cells #[.bool false, .slice none 0 0, .slice none 0 0] 26)) (w.heap.size + 1) 26 #[.bool false, .slice none 0 0, .slice none 0 0] := (Bx.made' (by simp) _ _).kept (Fr.refl _ _)
  generalize ((w.alloc (Obj.cells #[.bool ga, .slice pa na ca, .slice qa ma da] 26)).alloc (Obj.cells #[.bool false, .slice none 0 0, .slice none 0 0] 26)) = W at *
  have hbs := b6.lt
  replace ht := ht.kept hw
  replace h1 := h1.kept hw
  refine wp_region_inv (w0 := W) (by kernel_rfl) [true, false, false, false, true, true, false, true, true, true, true, true, true, true, true, true, true, true, true, true, true] [(w.heap.size + 1)]
    [⟨[15], F1 (fun xx _ => xx = .func (.func 129) #[] #[]), .pure⟩,
    ⟨[16], F1 (fun xx _ => xx = .agg #[.bool ga, .slice pa na ca, .slice qa ma da]), .pure⟩,
    ⟨[17], F1 (fun xx ww => VF ww (L + 1) r xx), .pure⟩,
    ⟨[18], F1 (fun xx _ => xx = .int .i64 (k : Int)), .pure⟩,
    ⟨[19], F1 (fun xx ww => VF ww (L + 1 + 9) (upQ r k) xx), .pure⟩,
    ⟨[20], F1 (fun xx ww => VQ ww (upQ r k) xx), .pure⟩,
    ⟨[20], F0, .out 0 26 cellsOf⟩,
    ⟨[7], F1 (fun xx _ => xx = .int .i64 0), .pure⟩]
    [[], [], [1], [], [0, 1, 2, 3], [0, 1, 2, 3, 4], [0, 1, 2, 3, 4, 5], [0, 1, 2, 3, 4, 5, 6]] ?mk1 ?hmk1 (by kernel_rfl)
    ⟨F1.st (st_eq _), F1.st (st_eq _), F1.st (fun _ _ _ k h => h.kp k), F1.st (st_eq _), F1.st (fun _ _ _ k h => h.kp k), F1.st (fun _ _ _ k h => h.kp k), F0.st, F1.st (st_eq _), trivial⟩ (by simp) (by simp <;> omega) (n := 8) rfl ⟨⟨⟨⟨⟨⟨⟨⟨trivial, ?s1_0⟩, ?s1_1⟩, ?s1_2⟩, ?s1_3⟩, ?s1_4⟩, ?s1_5⟩, ?s1_6⟩, ?s1_7⟩ ?done1
  case hmk1 => intro v; simp only [mkv, mix, Nat.reduceAdd]; rfl
  case s1_0 =>
    refine stepOk_of _ _ rfl rfl ?_
    intro v W1 f kp ho hd K' hK
    go_simp
    exact hK _ _ (Fr.refl [] _) rfl
  case s1_1 =>
    refine stepOk_of _ _ rfl rfl ?_
    intro v W1 f kp ho hd K' hK
    have k0 := (b3.keep f (by simp <;> omega)).cell (j := 0) rfl
    have k1 := (b3.keep f (by simp <;> omega)).cell (j := 1) rfl
    have k2 := (b3.keep f (by simp <;> omega)).cell (j := 2) rfl
    go_simp
    exact hK _ _ (Fr.refl [] _) rfl
  case s1_2 =>
    refine stepOk_of _ _ rfl rfl ?_
    intro v W1 f kp ho hd K' hK
    have e16 : v 16 = .agg #[.bool ga, .slice pa na ca, .slice qa ma da] := (hd 1 (by decide) _ _ rfl rfl).1
    simp only [e16] at hK ⊢
    go_simp
    refine (read_v (h1.kp kp) (by omega)).mono ?_
    rintro e W' ⟨x, rfl, hx, ff⟩
    exact hK x W' ff hx
  case s1_3 =>
    refine stepOk_of _ _ rfl rfl ?_
    intro v W1 f kp ho hd K' hK
    go_simp
    exact hK _ _ (Fr.refl [] _) rfl
  case s1_4 =>
    refine stepOk_of _ _ rfl rfl ?_
    intro v W1 f kp ho hd K' hK
    have e15 : v 15 = .func (.func 129) #[] #[] := (hd 0 (by decide) _ _ rfl rfl).1
    have f17 : VF W1 (L + 1) r (v 17) := (hd 2 (by decide) _ _ rfl rfl).1
    have e18 : v 18 = .int .i64 (k : Int) := (hd 3 (by decide) _ _ rfl rfl).1
    simp only [e15, e18] at hK ⊢
    go_simp
    refine (fup_v f17 (by omega) hk).mono ?_
    rintro e W' ⟨x, rfl, hx, ff⟩
    exact hK x W' ff hx
  case s1_5 =>
    refine stepOk_of _ _ rfl rfl ?_
    intro v W1 f kp ho hd K' hK
    have f19 : VF W1 (L + 1 + 9) (upQ r k) (v 19) := (hd 4 (by decide) _ _ rfl rfl).1
    go_simp
    refine (result_v (ht.kp kp) f19 (by omega)).mono ?_
    rintro e W' ⟨x, rfl, hx, ff⟩
    exact hK x W' ff hx
  case s1_6 =>
    refine stepOk_of _ _ rfl rfl ?_
    intro v W1 f kp ho hd K' hK
    have f20 : VQ W1 (upQ r k) (v 20) := (hd 5 (by decide) _ _ rfl rfl).1
    have o20 := f20
    obtain ⟨p20, c20, q20, d20, e20, s20, t20⟩ := o20
    have bz : Bx W1 (w.heap.size + 1) 26 #[.bool false, .slice none 0 0, .slice none 0 0] := (ho 0 _ rfl (by kernel_rfl)).trans b6
    have k0 := bz.cell (j := 0) rfl
    have fr0 := bz.free 0
    have k1 := bz.cell (j := 1) rfl
    have fr1 := bz.free 1
    have k2 := bz.cell (j := 2) rfl
    have fr2 := bz.free 2
    simp only [e20] at hK ⊢
    go_simp
    exact hK undef _ (move_out (cs := #[.bool (decide (((upQ r k)).num < 0)), .slice p20 (dg ((upQ r k)).num.natAbs).length c20, .slice q20 (dg ((upQ r k)).den).length d20]) rfl rfl (by simp only [List.map, e20]; rfl) (bz.soft rfl) rfl rfl ((((Fr.refl _ _).put1 0 _).put1 1 _).put1 2 _) ((((bz.put1 0 _).put1 1 _).put1 2 _))) trivial
  case s1_7 =>
    refine stepOk_of _ _ rfl rfl ?_
    intro v W1 f kp ho hd K' hK
    go_simp
    exact hK _ _ (Fr.refl [] _) rfl
  case done1 =>
    intro v W1 f kp hF hD
    have e15 : v 15 = .func (.func 129) #[] #[] := (hF 0 _ _ rfl rfl).1
    have e16 : v 16 = .agg #[.bool ga, .slice pa na ca, .slice qa ma da] := (hF 1 _ _ rfl rfl).1
    have f17 : VF W1 (L + 1) r (v 17) := (hF 2 _ _ rfl rfl).1
    have e18 : v 18 = .int .i64 (k : Int) := (hF 3 _ _ rfl rfl).1
    have f19 : VF W1 (L + 1 + 9) (upQ r k) (v 19) := (hF 4 _ _ rfl rfl).1
    have f20 : VQ W1 (upQ r k) (v 20) := (hF 5 _ _ rfl rfl).1
    have o20 := f20
    obtain ⟨p20, c20, q20, d20, e20, s20, t20⟩ := o20
    rw [e20] at f20
    have e7 : v 7 = .int .i64 0 := (hF 7 _ _ rfl rfl).1
    obtain ⟨-, A', eA, nb6⟩ := hF 6 _ _ rfl rfl
    injection eA with eA; subst eA
    replace nb6 : Bx W1 (w.heap.size + 1) 26 #[.bool (decide (((upQ r k)).num < 0)), .slice p20 (dg ((upQ r k)).num.natAbs).length c20, .slice q20 (dg ((upQ r k)).den).length d20] := by simp only [List.map, e20] at nb6; exact nb6
    clear hF hD
    simp only [e15, e16, e18, e20, e7]
    replace b3 := b3.keep f (by simp <;> omega)
    clear b6; have b6 := nb6; clear nb6
    replace ht := ht.kp kp
    replace h1 := h1.kp kp
    replace hw := hw.trans (a := w) (b := W) (c := W1) f (fun x hx hl => by simp at hx; omega)
    have hsz1 := f.size
    clear f kp
    go_wp2_with fail
    have c_b6_0 := b6.cell (j := 0) rfl
    have c_b6_1 := b6.cell (j := 1) rfl
    have c_b6_2 := b6.cell (j := 2) rfl
    exact bodyPost_ret (v := .tuple #[rw' (decide (((upQ r k)).num < 0)) p20 (dg ((upQ r k)).num.natAbs).length c20 q20 (dg ((upQ r k)).den).length d20, .int .i64 0]) (by simp [results, Tryz.results125, go_sem, c_b6_0, c_b6_1, c_b6_2]) rfl ⟨_, rfl, f20, hw⟩

set_option maxRecDepth 100000 in
set_option maxHeartbeats 1000000 in
theorem up_v {w : World} {L k : Nat} {r : Rat} {va : Value} (ht : Tab w) (h1 : VR w L r va) (hL : L ≤ 16383) (hk : k ≤ 256) : Calls Tryz.prog 48 #[va, .int .i64 (k : Int)] w (RM (upQ r k) w) := by
  have o_h1 := h1
  obtain ⟨ga, pa, na, ca, Xa, qa, ma, da, Ya, rfl, -, -, -, -, -⟩ := o_h1
  go_enter Tryz.func48, Tryz.ntmps48
  go_upto_region 1 with fail
  have hw : Fr [] w ((w.alloc (Obj.cells #[.bool ga, .slice pa na ca, .slice qa ma da] 26)).alloc (Obj.cells #[.bool false, .slice none 0 0, .slice none 0 0] 26)) := ((Fr.refl _ _).alloc _).alloc _
  have b2 : Bx ((w.alloc (Obj.cells #[.bool ga, .slice pa na ca, .slice qa ma da] 26)).alloc (Obj.cells #[.bool false, .slice none 0 0, .slice none 0 0] 26)) w.heap.size 26 #[.bool ga, .slice pa na ca, .slice qa ma da] := (Bx.made' (by simp) _ _).kept ((Fr.refl _ _).alloc _)
  have b4 : Bx ((w.alloc (Obj.cells #[.bool ga, .slice pa na ca, .slice qa ma da] 26)).alloc (Obj.cells #[.bool false, .slice none 0 0, .slice none 0 0] 26)) (w.heap.size + 1) 26 #[.bool false, .slice none 0 0, .slice none 0 0] := (Bx.made' (by simp) _ _).kept (Fr.refl _ _)
  generalize ((w.alloc (Obj.cells #[.bool ga, .slice pa na ca, .slice qa ma da] 26)).alloc (Obj.cells #[.bool false, .slice none 0 0, .slice none 0 0] 26)) = W at *
  have hbs := b4.lt
  replace ht := ht.kept hw
  replace h1 := h1.kept hw
  refine wp_region_inv (w0 := W) (by kernel_rfl) [true, false, false, true, false, true, true, true, true, true, true] [(w.heap.size + 1)]
    [⟨[6], F1 (fun xx _ => xx = .agg #[.bool ga, .slice pa na ca, .slice qa ma da]), .pure⟩,
    ⟨[7], F1 (fun xx _ => xx = .int .i64 (k : Int)), .pure⟩,
    ⟨[8], F1 (fun xx ww => ∃ y0, xx = .tuple #[y0, .int .i64 0] ∧ VQ ww (upQ r k) y0), .pure⟩,
    ⟨[9], F1 (fun xx ww => VQ ww (upQ r k) xx), .pure⟩,
    ⟨[10], F1 (fun xx _ => xx = .int .i64 0), .pure⟩,
    ⟨[9], F0, .out 0 26 cellsOf⟩,
    ⟨[5], F1 (fun xx _ => xx = .int .i64 0), .pure⟩]
    [[], [], [0, 1], [0, 1, 2], [0, 1, 2], [0, 1, 2, 3, 4], [0, 1, 2, 3, 4, 5]] ?mk1 ?hmk1 (by kernel_rfl)
    ⟨F1.st (st_eq _), F1.st (st_eq _), F1.st (fun _ _ _ k h => by obtain ⟨y0, e, h0⟩ := h; exact ⟨y0, e, h0.kp k⟩), F1.st (fun _ _ _ k h => h.kp k), F1.st (st_eq _), F0.st, F1.st (st_eq _), trivial⟩ (by simp) (by simp <;> omega) (n := 7) rfl ⟨⟨⟨⟨⟨⟨⟨trivial, ?s1_0⟩, ?s1_1⟩, ?s1_2⟩, ?s1_3⟩, ?s1_4⟩, ?s1_5⟩, ?s1_6⟩ ?done1
  case hmk1 => intro v; simp only [mkv, mix, Nat.reduceAdd]; rfl
  case s1_0 =>
    refine stepOk_of _ _ rfl rfl ?_
    intro v W1 f kp ho hd K' hK
    have k0 := (b2.keep f (by simp <;> omega)).cell (j := 0) rfl
    have k1 := (b2.keep f (by simp <;> omega)).cell (j := 1) rfl
    have k2 := (b2.keep f (by simp <;> omega)).cell (j := 2) rfl
    go_simp
    exact hK _ _ (Fr.refl [] _) rfl
  case s1_1 =>
    refine stepOk_of _ _ rfl rfl ?_
    intro v W1 f kp ho hd K' hK
    go_simp
    exact hK _ _ (Fr.refl [] _) rfl
  case s1_2 =>
    refine stepOk_of _ _ rfl rfl ?_
    intro v W1 f kp ho hd K' hK
    have e6 : v 6 = .agg #[.bool ga, .slice pa na ca, .slice qa ma da] := (hd 0 (by decide) _ _ rfl rfl).1
    have e7 : v 7 = .int .i64 (k : Int) := (hd 1 (by decide) _ _ rfl rfl).1
    simp only [e6, e7] at hK ⊢
    go_simp
    refine (rounded_up (ht.kp kp) (h1.kp kp) hL hk).mono ?_
    rintro e W' ⟨x0, rfl, y0, ff⟩
    exact hK _ W' ff ⟨_, rfl, y0⟩
  case s1_3 =>
    refine stepOk_of _ _ rfl rfl ?_
    intro v W1 f kp ho hd K' hK
    have f8 : ∃ y0, v 8 = .tuple #[y0, .int .i64 0] ∧ VQ W1 (upQ r k) y0 := (hd 2 (by decide) _ _ rfl rfl).1
    obtain ⟨a8_0, e8, h8_0⟩ := f8
    simp only [e8] at hK ⊢
    go_simp
    exact hK _ _ (Fr.refl [] _) h8_0
  case s1_4 =>
    refine stepOk_of _ _ rfl rfl ?_
    intro v W1 f kp ho hd K' hK
    have f8 : ∃ y0, v 8 = .tuple #[y0, .int .i64 0] ∧ VQ W1 (upQ r k) y0 := (hd 2 (by decide) _ _ rfl rfl).1
    obtain ⟨a8_0, e8, h8_0⟩ := f8
    simp only [e8] at hK ⊢
    go_simp
    exact hK _ _ (Fr.refl [] _) rfl
  case s1_5 =>
    refine stepOk_of _ _ rfl rfl ?_
    intro v W1 f kp ho hd K' hK
    have f9 : VQ W1 (upQ r k) (v 9) := (hd 3 (by decide) _ _ rfl rfl).1
    have o9 := f9
    obtain ⟨p9, c9, q9, d9, e9, s9, t9⟩ := o9
    have bz : Bx W1 (w.heap.size + 1) 26 #[.bool false, .slice none 0 0, .slice none 0 0] := (ho 0 _ rfl (by kernel_rfl)).trans b4
    have k0 := bz.cell (j := 0) rfl
    have fr0 := bz.free 0
    have k1 := bz.cell (j := 1) rfl
    have fr1 := bz.free 1
    have k2 := bz.cell (j := 2) rfl
    have fr2 := bz.free 2
    simp only [e9] at hK ⊢
    go_simp
    exact hK undef _ (move_out (cs := #[.bool (decide (((upQ r k)).num < 0)), .slice p9 (dg ((upQ r k)).num.natAbs).length c9, .slice q9 (dg ((upQ r k)).den).length d9]) rfl rfl (by simp only [List.map, e9]; rfl) (bz.soft rfl) rfl rfl ((((Fr.refl _ _).put1 0 _).put1 1 _).put1 2 _) ((((bz.put1 0 _).put1 1 _).put1 2 _))) trivial
  case s1_6 =>
    refine stepOk_of _ _ rfl rfl ?_
    intro v W1 f kp ho hd K' hK
    have e10 : v 10 = .int .i64 0 := (hd 4 (by decide) _ _ rfl rfl).1
    simp only [e10] at hK ⊢
    go_simp
    exact hK _ _ (Fr.refl [] _) rfl
  case done1 =>
    intro v W1 f kp hF hD
    have e6 : v 6 = .agg #[.bool ga, .slice pa na ca, .slice qa ma da] := (hF 0 _ _ rfl rfl).1
    have e7 : v 7 = .int .i64 (k : Int) := (hF 1 _ _ rfl rfl).1
    have f9 : VQ W1 (upQ r k) (v 9) := (hF 3 _ _ rfl rfl).1
    have o9 := f9
    obtain ⟨p9, c9, q9, d9, e9, s9, t9⟩ := o9
    rw [e9] at f9
    have e10 : v 10 = .int .i64 0 := (hF 4 _ _ rfl rfl).1
    have e5 : v 5 = .int .i64 0 := (hF 6 _ _ rfl rfl).1
    obtain ⟨-, A', eA, nb4⟩ := hF 5 _ _ rfl rfl
    injection eA with eA; subst eA
    replace nb4 : Bx W1 (w.heap.size + 1) 26 #[.bool (decide (((upQ r k)).num < 0)), .slice p9 (dg ((upQ r k)).num.natAbs).length c9, .slice q9 (dg ((upQ r k)).den).length d9] := by simp only [List.map, e9] at nb4; exact nb4
    clear hF hD
    simp only [e6, e7, e9, e10, e5]
    replace b2 := b2.keep f (by simp <;> omega)
    clear b4; have b4 := nb4; clear nb4
    replace ht := ht.kp kp
    replace h1 := h1.kp kp
    replace hw := hw.trans (a := w) (b := W) (c := W1) f (fun x hx hl => by simp at hx; omega)
    have hsz1 := f.size
    clear f kp
    go_wp2_with fail
    have c_b4_0 := b4.cell (j := 0) rfl
    have c_b4_1 := b4.cell (j := 1) rfl
    have c_b4_2 := b4.cell (j := 2) rfl
    exact bodyPost_ret (v := .tuple #[rw' (decide (((upQ r k)).num < 0)) p9 (dg ((upQ r k)).num.natAbs).length c9 q9 (dg ((upQ r k)).den).length d9, .int .i64 0]) (by simp [results, Tryz.results48, go_sem, c_b4_0, c_b4_1, c_b4_2]) rfl ⟨_, rfl, f9, hw⟩

end Go.Proofs.YtjjdbhohjphcoaaGreatDoor
