/- What the statements of this claim stand on: of Rr3, Rr4, Q3, what they name -/
import Derived.Test.YtnokcaigpnejeaaGreatDoorM34
import Derived.Test.YtnokcaigpnejeaaGreatDoorM35
import Derived.Test.YtnokcaigpnejeaaGreatDoorM36

namespace Go.Proofs.YtnokcaigpnejeaaGreatDoor
open Go.RowKit

theorem nq_le {r : Rat} {z : Int} {d : Nat} {L : Nat} (hd : d ≠ 0) (hr : mkRat z d = r) (_h1 : nz z ≤ L) (h2 : nz (d : Int) ≤ L + 1) : nq r ≤ 2 * L + 1 := by
  have := nq_mk z hd
  rw [hr] at this
  rw [nz_nat] at h2
  omega

theorem abs_num (r : Rat) : r.abs.num = ((r.num.natAbs : Nat) : Int) := by
  rw [Rat.abs]
  split
  · next h => have := Rat.num_nonneg.2 h; omega
  · next h =>
    have h1 : ¬ 0 ≤ r.num := fun e => h (Rat.num_nonneg.1 e)
    rw [Rat.neg_num]; omega

theorem abs_den (r : Rat) : r.abs.den = r.den := by
  rw [Rat.abs]
  split
  · rfl
  · exact Rat.neg_den r

set_option maxRecDepth 100000 in
set_option maxHeartbeats 1000000 in
theorem rtrim03_v {w : World} {L : Nat} {r : Rat} {va : Value} (h1 : VR w L r va) (_hL : L ≤ 65535) : Calls Tryz.prog 26 #[va] w (RV (fun w' => VQ w' r) w) := by
  obtain ⟨z1, d1, hd1, hm1, hz1, hy1, p1⟩ := h1.parts
  have hR : Rat.divInt z1 (d1 : Int) = r := hm1
  have HhR := Lib.hid hR; clear hR
  clear hm1 h1 hd1
  have o_p1 := p1
  obtain ⟨ga, pa, na, ca, Xa, qa, ma, da, Ya, rfl, -, -, -, -, -⟩ := o_p1
  go_enter Tryz.func26, Tryz.ntmps26
  go_upto_region 1 with fail
  have hw : Fr [] w ((w.alloc (Obj.cells #[.bool ga, .slice pa na ca, .slice qa ma da] 26)).alloc (Obj.cells #[.bool false, .slice none 0 0, .slice none 0 0] 26)) := ((Fr.refl _ _).alloc _).alloc _
  have b1 : Bx ((w.alloc (Obj.cells #[.bool ga, .slice pa na ca, .slice qa ma da] 26)).alloc (Obj.cells #[.bool false, .slice none 0 0, .slice none 0 0] 26)) w.heap.size 26 #[.bool ga, .slice pa na ca, .slice qa ma da] := (Bx.made' (by simp) _ _).kept ((Fr.refl _ _).alloc _)
  have b2 : Bx ((w.alloc (Obj.cells #[.bool ga, .slice pa na ca, .slice qa ma da] 26)).alloc (Obj.cells #[.bool false, .slice none 0 0, .slice none 0 0] 26)) (w.heap.size + 1) 26 #[.bool false, .slice none 0 0, .slice none 0 0] := (Bx.made' (by simp) _ _).kept (Fr.refl _ _)
  generalize ((w.alloc (Obj.cells #[.bool ga, .slice pa na ca, .slice qa ma da] 26)).alloc (Obj.cells #[.bool false, .slice none 0 0, .slice none 0 0] 26)) = W at *
  have hbs := b2.lt
  replace p1 := p1.kept hw
  refine wp_region_inv (w0 := W) (by kernel_rfl) [true, false, false, true, true, true, true, true, true, true, false, false, false] []
    [⟨[6], F1 (fun x _ => x = .agg #[.bool ga, .slice pa na ca, .slice qa ma da]), .pure⟩,
    ⟨[7], F1 (fun x w => ∃ y0 y1, x = .tuple #[y0, y1] ∧ VI w L z1 y0 ∧ VZ w (d1 : Int) y1), .pure⟩,
    ⟨[5], F1 (fun x w => ∃ y0 y1, x = .tuple #[y0, y1] ∧ VI w L z1 y0 ∧ VZ w (d1 : Int) y1), .pure⟩,
    ⟨[8], F1 (fun x w => VI w L z1 x), .pure⟩,
    ⟨[9], F1 (fun x w => VZ w (d1 : Int) x), .pure⟩,
    ⟨[], F0, .new 24 2⟩,
    ⟨[], F0, .new 24 2⟩,
    ⟨[8], F0, .store 3 24 cellsOf⟩,
    ⟨[9], F0, .store 4 24 cellsOf⟩]
    [[], [0], [0, 1], [0, 1, 2], [0, 1, 2], [], [], [0, 1, 2, 3, 5, 6], [0, 1, 2, 3, 4, 5, 6, 7]] ?mk1 ?hmk1 (by kernel_rfl)
    ⟨F1.st (st_eq _), F1.st (fun _ _ _ k h => by obtain ⟨y0, y1, e, h0, h1⟩ := h; exact ⟨y0, y1, e, h0.kp k, h1.kp k⟩), F1.st (fun _ _ _ k h => by obtain ⟨y0, y1, e, h0, h1⟩ := h; exact ⟨y0, y1, e, h0.kp k, h1.kp k⟩), F1.st (fun _ _ _ k h => h.kp k), F1.st (fun _ _ _ k h => h.kp k), F0.st, F0.st, F0.st, F0.st, trivial⟩ (by simp) (by simp) (n := 9) rfl ⟨⟨⟨⟨⟨⟨⟨⟨⟨trivial, ?s1_0⟩, ?s1_1⟩, ?s1_2⟩, ?s1_3⟩, ?s1_4⟩, ?s1_5⟩, ?s1_6⟩, ?s1_7⟩, ?s1_8⟩ ?done1
  case hmk1 => intro v; simp only [mkv, mix, Nat.reduceAdd]; rfl
  case s1_0 =>
    refine stepOk_of _ _ rfl rfl ?_
    intro v W1 f kp ho hd K' hK
    have k0 := (b1.keep f (by simp)).cell (j := 0) rfl
    have k1 := (b1.keep f (by simp)).cell (j := 1) rfl
    have k2 := (b1.keep f (by simp)).cell (j := 2) rfl
    go_simp
    exact hK _ _ (Fr.refl [] _) rfl
  case s1_1 =>
    refine stepOk_of _ _ rfl rfl ?_
    intro v W1 f kp ho hd K' hK
    have e6 : v 6 = .agg #[.bool ga, .slice pa na ca, .slice qa ma da] := (hd 0 (by decide) _ _ rfl rfl).1
    simp only [e6] at hK ⊢
    go_simp
    refine (parts_v (p1.kp kp) (by omega)).mono ?_
    rintro e W' ⟨x0, x1, rfl, y0, y1, ff⟩
    exact hK _ W' ff ⟨_, _, rfl, y0, y1⟩
  case s1_2 =>
    refine stepOk_of _ _ rfl rfl ?_
    intro v W1 f kp ho hd K' hK
    have f7 : ∃ y0 y1, v 7 = .tuple #[y0, y1] ∧ VI W1 L z1 y0 ∧ VZ W1 (d1 : Int) y1 := (hd 1 (by decide) _ _ rfl rfl).1
    obtain ⟨a7_0, a7_1, e7, h7_0, h7_1⟩ := f7
    simp only [e7] at hK ⊢
    go_simp
    exact hK _ _ (Fr.refl [] _) ⟨_, _, rfl, h7_0, h7_1⟩
  case s1_3 =>
    refine stepOk_of _ _ rfl rfl ?_
    intro v W1 f kp ho hd K' hK
    have f5 : ∃ y0 y1, v 5 = .tuple #[y0, y1] ∧ VI W1 L z1 y0 ∧ VZ W1 (d1 : Int) y1 := (hd 2 (by decide) _ _ rfl rfl).1
    obtain ⟨a5_0, a5_1, e5, h5_0, h5_1⟩ := f5
    simp only [e5] at hK ⊢
    go_simp
    exact hK _ _ (Fr.refl [] _) h5_0
  case s1_4 =>
    refine stepOk_of _ _ rfl rfl ?_
    intro v W1 f kp ho hd K' hK
    have f5 : ∃ y0 y1, v 5 = .tuple #[y0, y1] ∧ VI W1 L z1 y0 ∧ VZ W1 (d1 : Int) y1 := (hd 2 (by decide) _ _ rfl rfl).1
    obtain ⟨a5_0, a5_1, e5, h5_0, h5_1⟩ := f5
    simp only [e5] at hK ⊢
    go_simp
    exact hK _ _ (Fr.refl [] _) h5_1
  case s1_5 =>
    refine stepOk_of _ _ rfl rfl ?_
    intro v W1 f kp ho hd K' hK
    go_simp
    exact hK _ _ (move_new rfl rfl rfl rfl rfl) trivial
  case s1_6 =>
    refine stepOk_of _ _ rfl rfl ?_
    intro v W1 f kp ho hd K' hK
    go_simp
    exact hK _ _ (move_new rfl rfl rfl rfl rfl) trivial
  case s1_7 =>
    refine stepOk_of _ _ rfl rfl ?_
    intro v W1 f kp ho hd K' hK
    obtain ⟨-, A3, e3, -, sb3⟩ := hd 5 (by decide) _ _ rfl rfl
    have f8 : VI W1 L z1 (v 8) := (hd 3 (by decide) _ _ rfl rfl).1
    have o8 := f8
    obtain ⟨g8, p8, n8, c8, X8, e8, s8, z8, l8⟩ := o8
    obtain ⟨zz0, zz1, bz⟩ := sb3.open2
    have k0 := bz.cell (j := 0) rfl
    have fr0 := bz.free 0
    have k1 := bz.cell (j := 1) rfl
    have fr1 := bz.free 1
    simp only [e3, e8] at hK ⊢
    go_simp
    exact hK undef _ (move_store (cs := #[.bool g8, .slice p8 n8 c8]) rfl e3 (by simp only [List.map, e8]; rfl) sb3 rfl rfl (((Fr.refl _ _).put1 0 _).put1 1 _) (((bz.put1 0 _).put1 1 _))) trivial
  case s1_8 =>
    refine stepOk_of _ _ rfl rfl ?_
    intro v W1 f kp ho hd K' hK
    obtain ⟨-, A4, e4, -, sb4⟩ := hd 6 (by decide) _ _ rfl rfl
    have f9 : VZ W1 (d1 : Int) (v 9) := (hd 4 (by decide) _ _ rfl rfl).1
    have o9 := f9
    obtain ⟨p9, c9, e9, s9⟩ := o9
    obtain ⟨zz0, zz1, bz⟩ := sb4.open2
    have k0 := bz.cell (j := 0) rfl
    have fr0 := bz.free 0
    have k1 := bz.cell (j := 1) rfl
    have fr1 := bz.free 1
    simp only [e4, e9] at hK ⊢
    go_simp
    exact hK undef _ (move_store (cs := #[.bool (decide ((d1 : Int) < 0)), .slice p9 (dg ((d1 : Int)).natAbs).length c9]) rfl e4 (by simp only [List.map, e9]; rfl) sb4 rfl rfl (((Fr.refl _ _).put1 0 _).put1 1 _) (((bz.put1 0 _).put1 1 _))) trivial
  case done1 =>
    intro v W1 f kp hF hD
    have e6 : v 6 = .agg #[.bool ga, .slice pa na ca, .slice qa ma da] := (hF 0 _ _ rfl rfl).1
    have f8 : VI W1 L z1 (v 8) := (hF 3 _ _ rfl rfl).1
    have o8 := f8
    obtain ⟨g8, p8, n8, c8, X8, e8, s8, z8, l8⟩ := o8
    rw [e8] at f8
    have f9 : VZ W1 (d1 : Int) (v 9) := (hF 4 _ _ rfl rfl).1
    have o9 := f9
    obtain ⟨p9, c9, e9, s9⟩ := o9
    rw [e9] at f9
    obtain ⟨-, A3, e3, g3, -⟩ := hF 5 _ _ rfl rfl
    obtain ⟨-, A4, e4, g4, -⟩ := hF 6 _ _ rfl rfl
    obtain ⟨-, A', eA, b3⟩ := hF 7 _ _ rfl rfl
    rw [e3] at eA; injection eA with eA; injection eA with eA; injection eA with eA; subst eA
    replace b3 : Bx W1 A3 24 #[.bool g8, .slice p8 n8 c8] := by simp only [List.map, e8] at b3; exact b3
    obtain ⟨-, A', eA, b4⟩ := hF 8 _ _ rfl rfl
    rw [e4] at eA; injection eA with eA; injection eA with eA; injection eA with eA; subst eA
    replace b4 : Bx W1 A4 24 #[.bool (decide ((d1 : Int) < 0)), .slice p9 (dg ((d1 : Int)).natAbs).length c9] := by simp only [List.map, e9] at b4; exact b4
    have dd3_4 : A3 ≠ A4 := fun e => hD 5 6 _ _ _ _ _ _ _ _ (by decide) rfl rfl rfl rfl rfl rfl 3 4 rfl rfl (by rw [e3, e4, e])
    clear hF hD
    simp only [e6, e8, e9, e3, e4]
    replace b1 := b1.keep f (by simp)
    replace b2 := b2.keep f (by simp)
    replace p1 := p1.kp kp
    replace hw := hw.trans (a := w) (b := W) (c := W1) f (by simp)
    have hsz1 := f.size
    clear f kp
    have hlt_b3 := b3.lt
    have hlt_b4 := b4.lt
    have c_b1_0 := b1.cell (j := 0) rfl
    have c_b1_1 := b1.cell (j := 1) rfl
    have c_b1_2 := b1.cell (j := 2) rfl
    have c_b2_0 := b2.cell (j := 0) rfl
    have c_b2_1 := b2.cell (j := 1) rfl
    have c_b2_2 := b2.cell (j := 2) rfl
    have c_b3_0 := b3.cell (j := 0) rfl
    have c_b3_1 := b3.cell (j := 1) rfl
    have c_b4_0 := b4.cell (j := 0) rfl
    have c_b4_1 := b4.cell (j := 1) rfl
    go_upto_region 2 with fail
    clear c_b1_0 c_b1_1 c_b1_2 c_b2_0 c_b2_1 c_b2_2 c_b3_0 c_b3_1 c_b4_0 c_b4_1
    refine wp_region_inv (w0 := W1) (by kernel_rfl) [true, true, false, false, false, true, true, true, true, true, true, true, true] [(w.heap.size + 1)]
      [⟨[10], F1 (fun x _ => x = .agg #[.bool g8, .slice p8 n8 c8]), .pure⟩,
    ⟨[11], F1 (fun x _ => x = .agg #[.bool (decide ((d1 : Int) < 0)), .slice p9 (dg ((d1 : Int)).natAbs).length c9]), .pure⟩,
    ⟨[12], F1 (fun x w => VQ w r x), .pure⟩,
    ⟨[12], F0, .out 0 26 cellsOf⟩]
      [[], [], [0, 1], [0, 1, 2]] ?mk2 ?hmk2 (by kernel_rfl)
      ⟨F1.st (st_eq _), F1.st (st_eq _), F1.st (fun _ _ _ k h => h.kp k), F0.st, trivial⟩ (by simp) (by simp <;> omega) (n := 4) rfl ⟨⟨⟨⟨trivial, ?s2_0⟩, ?s2_1⟩, ?s2_2⟩, ?s2_3⟩ ?done2
    case hmk2 => intro v; simp only [mkv, mix, Nat.reduceAdd]; rfl
    case s2_0 =>
      refine stepOk_of _ _ rfl rfl ?_
      intro v W2 f kp ho hd K' hK
      have k0 := (b3.keep f (by simp <;> omega)).cell (j := 0) rfl
      have k1 := (b3.keep f (by simp <;> omega)).cell (j := 1) rfl
      go_simp
      exact hK _ _ (Fr.refl [] _) rfl
    case s2_1 =>
      refine stepOk_of _ _ rfl rfl ?_
      intro v W2 f kp ho hd K' hK
      have k0 := (b4.keep f (by simp <;> omega)).cell (j := 0) rfl
      have k1 := (b4.keep f (by simp <;> omega)).cell (j := 1) rfl
      go_simp
      exact hK _ _ (Fr.refl [] _) rfl
    case s2_2 =>
      refine stepOk_of _ _ rfl rfl ?_
      intro v W2 f kp ho hd K' hK
      have e10 : v 10 = .agg #[.bool g8, .slice p8 n8 c8] := (hd 0 (by decide) _ _ rfl rfl).1
      have e11 : v 11 = .agg #[.bool (decide ((d1 : Int) < 0)), .slice p9 (dg ((d1 : Int)).natAbs).length c9] := (hd 1 (by decide) _ _ rfl rfl).1
      simp only [e10, e11] at hK ⊢
      go_simp
      refine (rreduce_v HhR.out (f8.kp kp) ((f9.kp kp).raw hy1) (by omega) (by omega)).mono ?_
      rintro e W' ⟨x, rfl, hx, ff⟩
      exact hK x W' ff hx
    case s2_3 =>
      refine stepOk_of _ _ rfl rfl ?_
      intro v W2 f kp ho hd K' hK
      have f12 : VQ W2 r (v 12) := (hd 2 (by decide) _ _ rfl rfl).1
      have o12 := f12
      obtain ⟨p12, c12, q12, d12, e12, s12, t12⟩ := o12
      have bz : Bx W2 (w.heap.size + 1) 26 #[.bool false, .slice none 0 0, .slice none 0 0] := (ho 0 _ rfl (by kernel_rfl)).trans b2
      have k0 := bz.cell (j := 0) rfl
      have fr0 := bz.free 0
      have k1 := bz.cell (j := 1) rfl
      have fr1 := bz.free 1
      have k2 := bz.cell (j := 2) rfl
      have fr2 := bz.free 2
      simp only [e12] at hK ⊢
      go_simp
      exact hK undef _ (move_out (cs := #[.bool (decide ((r).num < 0)), .slice p12 (dg (r).num.natAbs).length c12, .slice q12 (dg (r).den).length d12]) rfl rfl (by simp only [List.map, e12]; rfl) (bz.soft rfl) rfl rfl ((((Fr.refl _ _).put1 0 _).put1 1 _).put1 2 _) ((((bz.put1 0 _).put1 1 _).put1 2 _))) trivial
    case done2 =>
      intro v W2 f kp hF hD
      have e10 : v 10 = .agg #[.bool g8, .slice p8 n8 c8] := (hF 0 _ _ rfl rfl).1
      have e11 : v 11 = .agg #[.bool (decide ((d1 : Int) < 0)), .slice p9 (dg ((d1 : Int)).natAbs).length c9] := (hF 1 _ _ rfl rfl).1
      have f12 : VQ W2 r (v 12) := (hF 2 _ _ rfl rfl).1
      have o12 := f12
      obtain ⟨p12, c12, q12, d12, e12, s12, t12⟩ := o12
      rw [e12] at f12
      obtain ⟨-, A', eA, nb2⟩ := hF 3 _ _ rfl rfl
      injection eA with eA; subst eA
      replace nb2 : Bx W2 (w.heap.size + 1) 26 #[.bool (decide ((r).num < 0)), .slice p12 (dg (r).num.natAbs).length c12, .slice q12 (dg (r).den).length d12] := by simp only [List.map, e12] at nb2; exact nb2
      clear hF hD
      simp only [e10, e11, e12]
      replace b1 := b1.keep f (by simp <;> omega)
      replace b3 := b3.keep f (by simp <;> omega)
      replace b4 := b4.keep f (by simp <;> omega)
      clear b2; have b2 := nb2; clear nb2
      replace p1 := p1.kp kp
      replace s8 := s8.kp kp
      replace f8 := f8.kp kp
      replace s9 := s9.kp kp
      replace f9 := f9.kp kp
      replace hw := hw.trans (a := w) (b := W1) (c := W2) f (fun x hx hl => by simp at hx; omega)
      have hsz2 := f.size
      clear f kp
      go_wp2_with fail
      have c_b2_0 := b2.cell (j := 0) rfl
      have c_b2_1 := b2.cell (j := 1) rfl
      have c_b2_2 := b2.cell (j := 2) rfl
      exact bodyPost_ret (v := rw' (decide ((r).num < 0)) p12 (dg (r).num.natAbs).length c12 q12 (dg (r).den).length d12) (by simp [results, Tryz.results26, go_sem, c_b2_0, c_b2_1, c_b2_2]) rfl ⟨_, rfl, f12, hw⟩

end Go.Proofs.YtnokcaigpnejeaaGreatDoor

namespace Go.Proofs.YtnokcaigpnejeaaGreatDoor
open Go.RowKit

theorem nz_word {x : Int} (_h : -9223372036854775808 ≤ x) (_h2 : x ≤ 9223372036854775807) : nz x ≤ 2 := by
  unfold nz
  exact dg_len_le (by
    have : pB 2 = 18446744073709551616 := by decide
    rw [this]; omega)

theorem shift1_v {w : World} {k P : Nat} {u : Value} (hP : 2 ^ k = P) (h : VD w 1 u) (_hk : k ≤ 65536) : Calls Tryz.prog 177 #[u, .int .i64 (k : Int)] w (RV (fun w' => VD w' P) w) := by
  obtain ⟨p, c, rfl, s⟩ := h
  have e : shiftN (val (dg 1)) (k : Int) = P := by rw [val_dg, ← hP]; unfold shiftN; rw [if_neg (by omega), if_neg (by omega)]; simp
  refine (rshift_any p _ c k (dg 1) w s (by rw [dg_one]; decide) (by omega) (by omega)).mono ?_
  rintro e' w' ⟨q, d, rfl, o, f⟩
  rw [e] at o ⊢
  exact ⟨_, rfl, ⟨q, d, rfl, o.sl⟩, f⟩

theorem nq_unit {k : Nat} (h : k ≤ 257) : nq (mkRat ((2 ^ k : Nat) : Int) 1) ≤ 10 := by
  have h1 := nq_mk ((2 ^ k : Nat) : Int) (d := 1) (by decide)
  have h2 := nz_pow2 h
  rw [dg_one] at h1
  have : [1].length = 1 := rfl
  omega

theorem nz_qfloor (r : Rat) : nz r.floor ≤ nz r.num := by
  have e : r.floor = r.num / (r.den : Int) := by
    unfold Rat.floor
    split
    · next h => rw [h]; simp
    · rfl
  rw [e]
  exact nz_floor _ _

end Go.Proofs.YtnokcaigpnejeaaGreatDoor

namespace Go.Proofs.YtnokcaigpnejeaaGreatDoor
open Go.RowKit En

theorem qneg (L : Nat) (q : Rat) (_hL : L ≤ 262143) (_hn : nq q ≤ 262143) : Cp 28 [.r L q] (sv (.rat (-q))) := by
  have h1 : nz q.num ≤ nq q := Nat.le_add_right _ _
  exact cp_of (cn_res (wk tQ2_ok (ds := []) (fuel := 40) (obs := [L ≤ 262143, nz (Rat.num q) ≤ 524287]) (r := AV.val true [Seg.sem (Kn.int (-Rat.num q)), Seg.sem (Kn.nat (Rat.den q))]) Tryz.func28 rfl (by kernel_rfl) (by simp only [AllP, and_true]; omega)) (rat_join (z := -q.num) (x := q.den) (Rat.neg_num q) (Rat.neg_den q)))

theorem qabs (L : Nat) (q : Rat) (_hL : L ≤ 262143) (_hn : nq q ≤ 262143) : Cp 30 [.r L q] (sv (.rat q.abs)) := by
  have h1 : nz q.num ≤ nq q := Nat.le_add_right _ _
  exact cp_of (cn_res (wk tQ2_ok (ds := []) (fuel := 40) (obs := [L ≤ 262143, nz (Rat.num q) ≤ 524287]) (r := AV.val true [Seg.sem (Kn.int (↑(Int.natAbs (Rat.num q)) : Int)), Seg.sem (Kn.nat (Rat.den q))]) Tryz.func30 rfl (by kernel_rfl) (by simp only [AllP, and_true]; omega)) (rat_join (z := ((q.num.natAbs : Nat) : Int)) (x := q.den) (abs_num q) (abs_den q)))

theorem qless (L M : Nat) (q s : Rat) (_hL : L ≤ 65535) (_hM : M ≤ 65535) : Cp 52 [.r L q, .r M s] (avB (decide (cmpQ q s < 0))) :=
  cp_of (wk tQ2_ok (ds := []) (fuel := 40) (obs := [L ≤ 65535, M ≤ 65535]) (r := AV.val false [Seg.lit (Value.bool (decide (cmpQ q s < (0 : Int))))]) Tryz.func52 rfl (by kernel_rfl) (by simp only [AllP, and_true]; omega))

theorem qof (x : Int) (_h1 : -9223372036854775808 ≤ x) (_h2 : x ≤ 9223372036854775807) : Cp 44 [.l (.int .i64 x)] (sv (.rat (x : Rat))) :=
  cp_of (cn_res (wk tQ2_ok (ds := []) (fuel := 40) (obs := [(-9223372036854775808 : Int) ≤ x, x ≤ (9223372036854775807 : Int)]) (r := AV.val true [Seg.sem (Kn.int x), Seg.sem (Kn.nat 1)]) Tryz.func44 rfl (by kernel_rfl) (by simp only [AllP, and_true]; omega)) (rat_join (z := x) (x := 1) rfl rfl))

theorem qfrac (x y : Int) (h1 : -9223372036854775808 ≤ x) (h2 : x ≤ 9223372036854775807) (h3 : -9223372036854775808 ≤ y) (h4 : y ≤ 9223372036854775807) : Cp 39 [.l (.int .i64 x), .l (.int .i64 y)] (sv (.rat (Rat.divInt x y))) := by
  have h5 := nz_word h1 h2
  have h6 := nz_word h3 h4
  exact cp_of (wk tQ2_ok (ds := []) (fuel := 40) (obs := [(-9223372036854775808 : Int) ≤ x, x ≤ (9223372036854775807 : Int), (-9223372036854775808 : Int) ≤ y, y ≤ (9223372036854775807 : Int), nz x ≤ 524286, nz y ≤ 524287]) (r := AV.val true [Seg.sem (Kn.rat (Rat.divInt x y))]) Tryz.func39 rfl (by kernel_rfl) (by simp only [AllP, and_true]; omega))

abbrev k_qneg : List Pa → Option (List Prop × Av)
  | [.r L q] => some ([L ≤ 262143, nq q ≤ 262143], sv (.rat (-q)))
  | _ => none

theorem e_qneg (args : List Av) (obs : List Prop) (r : Av) : ent [.r] k_qneg args = some (obs, r) → (∀ p ∈ obs, p) → Cn 28 args r :=
  ent_ok (fun ps obs r h ho => by
    unfold k_qneg at h
    split at h
    · cases h; exact qneg _ _ (ho _ (by simp)) (ho _ (by simp))
    · cases h) args obs r

abbrev k_qabs : List Pa → Option (List Prop × Av)
  | [.r L q] => some ([L ≤ 262143, nq q ≤ 262143], sv (.rat q.abs))
  | _ => none

theorem e_qabs (args : List Av) (obs : List Prop) (r : Av) : ent [.r] k_qabs args = some (obs, r) → (∀ p ∈ obs, p) → Cn 30 args r :=
  ent_ok (fun ps obs r h ho => by
    unfold k_qabs at h
    split at h
    · cases h; exact qabs _ _ (ho _ (by simp)) (ho _ (by simp))
    · cases h) args obs r

abbrev k_qless : List Pa → Option (List Prop × Av)
  | [.r L q, .r M s] => some ([L ≤ 65535, M ≤ 65535], avB (decide (cmpQ q s < 0)))
  | _ => none

theorem e_qless (args : List Av) (obs : List Prop) (r : Av) : ent [.r, .r] k_qless args = some (obs, r) → (∀ p ∈ obs, p) → Cn 52 args r :=
  ent_ok (fun ps obs r h ho => by
    unfold k_qless at h
    split at h
    · cases h; exact qless _ _ _ _ (ho _ (by simp)) (ho _ (by simp))
    · cases h) args obs r

abbrev k_qof : List Pa → Option (List Prop × Av)
  | [.l (.int .i64 x)] => some ([-9223372036854775808 ≤ x, x ≤ 9223372036854775807], sv (.rat (x : Rat)))
  | _ => none

theorem e_qof (args : List Av) (obs : List Prop) (r : Av) : ent [.l] k_qof args = some (obs, r) → (∀ p ∈ obs, p) → Cn 44 args r :=
  ent_ok (fun ps obs r h ho => by
    unfold k_qof at h
    split at h
    · cases h; exact qof _ (ho _ (by simp)) (ho _ (by simp))
    · cases h) args obs r

abbrev k_qfrac : List Pa → Option (List Prop × Av)
  | [.l (.int .i64 x), .l (.int .i64 y)] => some ([-9223372036854775808 ≤ x, x ≤ 9223372036854775807, -9223372036854775808 ≤ y, y ≤ 9223372036854775807], sv (.rat (Rat.divInt x y)))
  | _ => none

theorem e_qfrac (args : List Av) (obs : List Prop) (r : Av) : ent [.l, .l] k_qfrac args = some (obs, r) → (∀ p ∈ obs, p) → Cn 39 args r :=
  ent_ok (fun ps obs r h ho => by
    unfold k_qfrac at h
    split at h
    · cases h; exact qfrac _ _ (ho _ (by simp)) (ho _ (by simp)) (ho _ (by simp)) (ho _ (by simp))
    · cases h) args obs r

abbrev k_qdiv : List Pa → Option (List Prop × Av)
  | [.r L q, .r M s] => some ([L ≤ 65535, M ≤ 65535, s ≠ 0], .tup [(true, [.sem (.rat (q / s))]), (false, [.lit (.int .i64 0)])])
  | _ => none

theorem e_qdiv (args : List Av) (obs : List Prop) (r : Av) : ent [.r, .r] k_qdiv args = some (obs, r) → (∀ p ∈ obs, p) → Cn 17 args r :=
  ent_ok (fun ps obs r h ho => by
    unfold k_qdiv at h
    split at h
    · cases h; exact qdiv _ _ _ _ (ho _ (by simp)) (ho _ (by simp)) (ho _ (by simp))
    · cases h) args obs r

abbrev k_qdiv0' : List Pa → Option (List Prop × Av)
  | [.r L _q, .r M s] => some ([L ≤ 65535, M ≤ 65535, s = 0], .tup [(true, [.lit (.bool false), .lit (.slice none 0 0), .lit (.slice none 0 0)]), (false, [.lit (.int .i64 3)])])
  | _ => none

theorem e_qdiv0' (args : List Av) (obs : List Prop) (r : Av) : ent [.r, .r] k_qdiv0' args = some (obs, r) → (∀ p ∈ obs, p) → Cn 17 args r :=
  ent_ok (fun ps obs r h ho => by
    unfold k_qdiv0' at h
    split at h
    · cases h; exact qdiv0 _ _ _ _ (ho _ (by simp)) (ho _ (by simp)) (ho _ (by simp))
    · cases h) args obs r

def tQ3 : List Ent := (28, ent [.r] k_qneg) :: (30, ent [.r] k_qabs) :: (52, ent [.r, .r] k_qless) :: (44, ent [.l] k_qof) :: (39, ent [.l, .l] k_qfrac) :: (17, ent [.r, .r] k_qdiv) :: tQ2

theorem tQ3_ok : EntsOk tQ3 := ⟨e_qneg, e_qabs, e_qless, e_qof, e_qfrac, e_qdiv, tQ2_ok⟩

def tQ3z : List Ent := (17, ent [.r, .r] k_qdiv0') :: tQ3

theorem tQ3z_ok : EntsOk tQ3z := ⟨e_qdiv0', tQ3_ok⟩

theorem qsub (L M : Nat) (q s : Rat) (_hL : L ≤ 65535) (_hM : M ≤ 65535) (_hn : nq s ≤ 65535) : Cp 34 [.r L q, .r M s] (sv (.rat (q - s))) := by
  have h1 := nq_neg s
  rw [mk_sub]
  exact cp_of (wk tQ3_ok (ds := []) (fuel := 40) (obs := [M ≤ 262143, nq s ≤ 262143, L ≤ 65535, nq (-s) ≤ 65535]) (r := AV.val true [Seg.sem (Kn.rat (q + -s))]) Tryz.func34 rfl (by kernel_rfl) (by simp only [AllP, and_true]; omega))

theorem qover (L M : Nat) (q s : Rat) (hL : L ≤ 65535) (hM : M ≤ 65535) : Cp 97 [.r L q, .r M s] (sv (.rat (q / s))) := by
  by_cases h0 : s = 0
  · subst h0
    rw [show q / 0 = ((0 : Int) : Rat) by rw [Rat.div_def, Rat.inv_zero, Rat.mul_zero]; rfl]
    exact cp_of (wk tQ3z_ok (ds := [none, some true]) (fuel := 40) (obs := [L ≤ 65535, M ≤ 65535, (0 : Rat) = (0 : Rat), (-9223372036854775808 : Int) ≤ (0 : Int), (0 : Int) ≤ (9223372036854775807 : Int)]) (r := AV.val true [Seg.sem (Kn.rat (↑(0 : Int) : Rat))]) Tryz.func97 rfl (by kernel_rfl) ⟨hL, hM, rfl, by decide, by decide, trivial⟩)
  · exact cp_of (wk tQ3_ok (ds := [some false]) (fuel := 40) (obs := [L ≤ 65535, M ≤ 65535, s ≠ (0 : Rat), false = false]) (r := AV.val true [Seg.sem (Kn.rat (q / s))]) Tryz.func97 rfl (by kernel_rfl) ⟨hL, hM, h0, rfl, trivial⟩)

theorem qmin (L M : Nat) (q s : Rat) (hL : L ≤ 65535) (hM : M ≤ 65535) : Cp 145 [.r L q, .r M s] (sv (.rat (if cmpQ s q < 0 then s else q))) := by
  split
  · rename_i h
    exact cp_of (wk tQ3_ok (ds := [some true]) (fuel := 40) (obs := [M ≤ 65535, L ≤ 65535, decide (cmpQ s q < (0 : Int)) = true, M ≤ 262143]) (r := AV.val true [Seg.sem (Kn.rat s)]) Tryz.func145 rfl (by kernel_rfl) ⟨hM, hL, by simpa using h, by omega, trivial⟩)
  · rename_i h
    exact cp_of (wk tQ3_ok (ds := [some false]) (fuel := 40) (obs := [M ≤ 65535, L ≤ 65535, decide (cmpQ s q < (0 : Int)) = false, L ≤ 262143]) (r := AV.val true [Seg.sem (Kn.rat q)]) Tryz.func145 rfl (by kernel_rfl) ⟨hM, hL, by simpa using h, by omega, trivial⟩)

theorem qmax (L M : Nat) (q s : Rat) (hL : L ≤ 65535) (hM : M ≤ 65535) : Cp 144 [.r L q, .r M s] (sv (.rat (if cmpQ q s < 0 then s else q))) := by
  split
  · rename_i h
    exact cp_of (wk tQ3_ok (ds := [some true]) (fuel := 40) (obs := [L ≤ 65535, M ≤ 65535, decide (cmpQ q s < (0 : Int)) = true, M ≤ 262143]) (r := AV.val true [Seg.sem (Kn.rat s)]) Tryz.func144 rfl (by kernel_rfl) ⟨hL, hM, by simpa using h, by omega, trivial⟩)
  · rename_i h
    exact cp_of (wk tQ3_ok (ds := [some false]) (fuel := 40) (obs := [L ≤ 65535, M ≤ 65535, decide (cmpQ q s < (0 : Int)) = false, L ≤ 262143]) (r := AV.val true [Seg.sem (Kn.rat q)]) Tryz.func144 rfl (by kernel_rfl) ⟨hL, hM, by simpa using h, by omega, trivial⟩)

abbrev k_qsub : List Pa → Option (List Prop × Av)
  | [.r L q, .r M s] => some ([L ≤ 65535, M ≤ 65535, nq s ≤ 65535], sv (.rat (q - s)))
  | _ => none

theorem e_qsub (args : List Av) (obs : List Prop) (r : Av) : ent [.r, .r] k_qsub args = some (obs, r) → (∀ p ∈ obs, p) → Cn 34 args r :=
  ent_ok (fun ps obs r h ho => by
    unfold k_qsub at h
    split at h
    · cases h; exact qsub _ _ _ _ (ho _ (by simp)) (ho _ (by simp)) (ho _ (by simp))
    · cases h) args obs r

abbrev k_qover : List Pa → Option (List Prop × Av)
  | [.r L q, .r M s] => some ([L ≤ 65535, M ≤ 65535], sv (.rat (q / s)))
  | _ => none

theorem e_qover (args : List Av) (obs : List Prop) (r : Av) : ent [.r, .r] k_qover args = some (obs, r) → (∀ p ∈ obs, p) → Cn 97 args r :=
  ent_ok (fun ps obs r h ho => by
    unfold k_qover at h
    split at h
    · cases h; exact qover _ _ _ _ (ho _ (by simp)) (ho _ (by simp))
    · cases h) args obs r

abbrev k_qmin : List Pa → Option (List Prop × Av)
  | [.r L q, .r M s] => some ([L ≤ 65535, M ≤ 65535], sv (.rat (if cmpQ s q < 0 then s else q)))
  | _ => none

theorem e_qmin (args : List Av) (obs : List Prop) (r : Av) : ent [.r, .r] k_qmin args = some (obs, r) → (∀ p ∈ obs, p) → Cn 145 args r :=
  ent_ok (fun ps obs r h ho => by
    unfold k_qmin at h
    split at h
    · cases h; exact qmin _ _ _ _ (ho _ (by simp)) (ho _ (by simp))
    · cases h) args obs r

abbrev k_qmax : List Pa → Option (List Prop × Av)
  | [.r L q, .r M s] => some ([L ≤ 65535, M ≤ 65535], sv (.rat (if cmpQ q s < 0 then s else q)))
  | _ => none

theorem e_qmax (args : List Av) (obs : List Prop) (r : Av) : ent [.r, .r] k_qmax args = some (obs, r) → (∀ p ∈ obs, p) → Cn 144 args r :=
  ent_ok (fun ps obs r h ho => by
    unfold k_qmax at h
    split at h
    · cases h; exact qmax _ _ _ _ (ho _ (by simp)) (ho _ (by simp))
    · cases h) args obs r

def tQ4 : List Ent := (34, ent [.r, .r] k_qsub) :: (97, ent [.r, .r] k_qover) :: (145, ent [.r, .r] k_qmin) :: (144, ent [.r, .r] k_qmax) :: tQ3

theorem tQ4_ok : EntsOk tQ4 := ⟨e_qsub, e_qover, e_qmin, e_qmax, tQ3_ok⟩

end Go.Proofs.YtnokcaigpnejeaaGreatDoor
