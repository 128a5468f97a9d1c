/- What the statements of this claim stand on: of Rr1, what they name -/
import Derived.Test.YtnokcaigpnejeaaGreatDoorK25
import Derived.Test.YtnokcaigpnejeaaGreatDoorM29

namespace Go.Proofs.YtnokcaigpnejeaaGreatDoor
open Go.RowKit

theorem rmul_v {w : World} {L M : Nat} {a b c0 : Int} {u u' : Value} (hc : a * b = c0) (h : VI w L a u) (h' : VI w M b u') (_hL : L ≤ 524287) (_hM : M ≤ 524287) : Calls Tryz.prog 103 #[u, u'] w (RV (fun w' => VZ w' c0) w) := by
  subst hc
  obtain ⟨g, p, n, c, X, rfl, s, rfl, l⟩ := h
  obtain ⟨g', p', n', c', X', rfl, s', rfl, l'⟩ := h'
  exact (rmul_i g g' p p' n c n' c' X X' w s s' (by omega) (by omega)).mono fun _ _ h => rv_i h

theorem radd_v {w : World} {L M : Nat} {a b c0 : Int} {u u' : Value} (hc : a + b = c0) (h : VI w L a u) (h' : VI w M b u') (_hL : L ≤ 524287) (_hM : M ≤ 524287) : Calls Tryz.prog 118 #[u, u'] w (RV (fun w' => VZ w' c0) w) := by
  subst hc
  obtain ⟨g, p, n, c, X, rfl, s, rfl, l⟩ := h
  obtain ⟨g', p', n', c', X', rfl, s', rfl, l'⟩ := h'
  exact (radd_i g g' p p' n c n' c' X X' w s s' (by omega) (by omega)).mono fun _ _ h => rv_i h

theorem rcmp_v {w : World} {L M : Nat} {a b c0 : Int} {u u' : Value} (hc : cmpZ a b = c0) (h : VI w L a u) (h' : VI w M b u') (_hL : L ≤ 524287) (_hM : M ≤ 524287) : Calls Tryz.prog 111 #[u, u'] w (RN c0 w) := by
  subst hc
  obtain ⟨g, p, n, c, X, rfl, s, rfl, l⟩ := h
  obtain ⟨g', p', n', c', X', rfl, s', rfl, l'⟩ := h'
  exact rcmp_i g g' p p' n c n' c' X X' w s s' (by omega) (by omega)

theorem rgcd_v {w : World} {L M : Nat} {a b : Int} {u u' : Value} (h : VI w L a u) (h' : VI w M b u') (_hL : L ≤ 524287) (_hM : M ≤ 524287) : Calls Tryz.prog 151 #[u, u'] w (RV (fun w' => VZ w' ((Nat.gcd a.natAbs b.natAbs : Nat) : Int)) w) := by
  obtain ⟨g, p, n, c, X, rfl, s, rfl, l⟩ := h
  obtain ⟨g', p', n', c', X', rfl, s', rfl, l'⟩ := h'
  rw [iv_abs, iv_abs]
  exact (rigcd_any g g' p p' n c n' c' X X' w s s' (by omega) (by omega)).mono fun _ _ h => rv_i h

theorem rneg_v {w : World} {L : Nat} {a c0 : Int} {u : Value} (hc : -a = c0) (h : VI w L a u) (_hL : L ≤ 524287) : Calls Tryz.prog 114 #[u] w (RV (fun w' => VZ w' c0) w) := by
  subst hc
  obtain ⟨g, p, n, c, X, rfl, s, rfl, l⟩ := h
  exact (rneg_any g p n c X w s (by omega)).mono fun _ _ h => rv_i h

theorem rabs_v {w : World} {L : Nat} {a : Int} {u : Value} (h : VI w L a u) (_hL : L ≤ 524287) : Calls Tryz.prog 116 #[u] w (RV (fun w' => VZ w' ((a.natAbs : Nat) : Int)) w) := by
  obtain ⟨g, p, n, c, X, rfl, s, rfl, l⟩ := h
  rw [iv_abs]
  exact (rabs_any g p n c X w s (by omega)).mono fun _ _ h => rv_i h

theorem rsign_v {w : World} {L : Nat} {a : Int} {u : Value} (h : VI w L a u) (_hL : L ≤ 524287) : Calls Tryz.prog 101 #[u] w (RN a.sign w) := by
  obtain ⟨g, p, n, c, X, rfl, s, rfl, l⟩ := h
  exact rsign_any g p n c X w s (by omega)

theorem riof_v (x : Int) (w : World) (h : -9223372036854775808 ≤ x) (h2 : x ≤ 9223372036854775807) : Calls Tryz.prog 60 #[.int .i64 x] w (RV (fun w' => VZ w' x) w) := (rof_any x w h h2).mono fun _ _ h => rv_i h

theorem ridiv_v {w : World} {L M : Nat} {a b q : Int} {u u' : Value} (hq : a / b = q) (h : VI w L a u) (h' : VI w M b u') (_hL : L ≤ 524287) (_hM : M ≤ 524287) (hb : b ≠ 0) : Calls Tryz.prog 133 #[u, u'] w fun e w' => ∃ x y, e = .returned (.tuple #[x, y, .int .i64 0]) ∧ VZ w' q x ∧ VZ w' (a % b) y ∧ Fr [] w w' := by
  subst hq
  obtain ⟨g, p, n, c, X, rfl, s, rfl, l⟩ := h
  obtain ⟨g', p', n', c', X', rfl, s', rfl, l'⟩ := h'
  have h0 : val X' ≠ 0 := by
    intro e
    rw [e] at hb
    cases g' <;> exact hb rfl
  refine (calls_rd (rdiv_any g g' p p' n c n' c' X X' w s s' (by omega) (by omega) h0) rfl rfl rfl rfl).mono ?_
  rintro e w' ⟨p1, c1, p2, c2, rfl, o1, o2, f⟩
  exact ⟨_, _, rfl, ⟨p1, c1, rfl, o1.sl⟩, ⟨p2, c2, rfl, o2.sl⟩, f⟩

theorem rtrim_v {w : World} {p : Option Addr} {n c : Nat} {xs : List Nat} (s : Sl w p n c xs) (_hn : n ≤ 1048576) : Calls Tryz.prog 150 #[.slice p n c] w (RV (fun w' => VD w' (val xs)) w) := by
  refine (rcut_any p n c xs w s (by omega)).mono ?_
  rintro e w' ⟨q, d, rfl, o, f⟩
  exact ⟨_, rfl, ⟨q, d, rfl, o.sl⟩, f⟩

theorem vd_nat {w : World} {k : Nat} {p : Option Addr} {c : Nat} (s : Sl w p (dg k).length c (dg k)) : VZ w (k : Int) (.agg #[.bool false, .slice p (dg k).length c]) := by
  refine ⟨p, c, ?_, ?_⟩
  · rw [Int.natAbs_natCast, decide_eq_false (by omega)]
  · rw [Int.natAbs_natCast]; exact s

def VP (w : World) (L : Nat) (z : Int) (d : Nat) (v : Value) : Prop := ∃ (g : Bool) (p : Option Addr) (n c : Nat) (X : List Nat) (q : Option Addr) (m k : Nat) (Y : List Nat), v = rw' g p n c q m k ∧ Sl w p n c X ∧ Sl w q m k Y ∧ rz g (val X) (val Y) = z ∧ rd (val Y) = d ∧ n ≤ L ∧ m ≤ L

theorem VP.kp {w w' : World} {L : Nat} {z : Int} {d : Nat} {v : Value} (h : VP w L z d v) (k : Kp w w') : VP w' L z d v := by
  obtain ⟨g, p, n, c, X, q, m, j, Y, e, s, t, r⟩ := h; exact ⟨g, p, n, c, X, q, m, j, Y, e, s.kp k, t.kp k, r⟩

theorem VP.kept {w w' : World} {L : Nat} {z : Int} {d : Nat} {v : Value} (h : VP w L z d v) (f : Fr [] w w') : VP w' L z d v := h.kp f.kp

theorem VR.parts {w : World} {L : Nat} {r : Rat} {v : Value} (h : VR w L r v) : ∃ z d, d ≠ 0 ∧ mkRat z d = r ∧ nz z ≤ L ∧ nz (d : Int) ≤ L + 1 ∧ VP w L z d v := by
  obtain ⟨g, p, n, c, X, q, m, j, Y, e, s, t, rfl, l, l'⟩ := h
  have h1 := dg_len_val s.dig
  have h2 := dg_len_val t.dig
  rw [s.len] at h1
  rw [t.len] at h2
  refine ⟨rz g (val X) (val Y), rd (val Y), rd_ne _, mk_read _ _ _, ?_, ?_, g, p, n, c, X, q, m, j, Y, e, s, t, rfl, rfl, l, l'⟩
  · unfold rz nz
    split
    · rw [Int.natAbs_zero, dg_zero]; exact Nat.zero_le _
    · rw [iv_abs]; omega
  · rw [nz_nat]
    unfold rd
    split
    · rw [dg_one]; exact Nat.succ_le_succ (Nat.zero_le _)
    · omega

theorem dgl_pos {k : Nat} (h : k ≠ 0) : 0 < (dg k).length := by
  rcases Nat.eq_zero_or_pos (dg k).length with h' | h'
  · exact absurd (by rw [← val_dg k, List.eq_nil_of_length_eq_zero h']; rfl) h
  · exact h'

theorem vd_one (w : World) : VD (w.alloc (Obj.cells #[.int .u32 1] 52)) 1 (.slice (some ⟨w.heap.size, 0, none⟩) 1 1) := by
  have h := (Ow.made w (base := 0) [1] (Nat.zero_le _) (by decide) (Dg.one (by decide))).sl
  refine ⟨some ⟨w.heap.size, 0, none⟩, 1, ?_, ?_⟩
  · rw [dg_one]; rfl
  · rw [dg_one]; exact h

set_option maxRecDepth 100000 in
set_option maxHeartbeats 1000000 in
theorem parts1_v {w : World} {L : Nat} {g : Bool} {p : Option Addr} {n c : Nat} {X : List Nat} {q : Option Addr} {m d : Nat} {Y : List Nat} (sa : Sl w p n c X) (ta : Sl w q m d Y) (la : n ≤ L) (_lma : m ≤ L) (_hL : L ≤ 524287) (hy : val Y ≠ 0) :
    Calls Tryz.prog 100 #[rw' g p n c q m d] w fun e w' => ∃ x y, e = .returned (.tuple #[x, y]) ∧ VI w' L (iv g (val X)) x ∧ VZ w' ((val Y : Nat) : Int) y ∧ Fr [] w w' := by
  obtain ⟨dv', hdv⟩ : ∃ k, val Y = k := ⟨_, rfl⟩
  rw [hdv] at hy
  have hlen : ((dg dv').length : Int) ≠ 0 := by have := dgl_pos hy; omega
  rw [hdv]
  have Hdv := Lib.hid hdv; have Hy := Lib.hid hy; clear hdv hy
  go_enter Tryz.func100, Tryz.ntmps100
  go_upto_region 1 with fail
  have hw : Fr [] w (((w.alloc (Obj.cells #[.bool g, .slice p n c, .slice q m d] 26)).alloc (Obj.cells #[.bool false, .slice none 0 0] 24)).alloc (Obj.cells #[.bool false, .slice none 0 0] 24)) := (((Fr.refl _ _).alloc _).alloc _).alloc _
  have b1 : Bx (((w.alloc (Obj.cells #[.bool g, .slice p n c, .slice q m d] 26)).alloc (Obj.cells #[.bool false, .slice none 0 0] 24)).alloc (Obj.cells #[.bool false, .slice none 0 0] 24)) w.heap.size 26 #[.bool g, .slice p n c, .slice q m d] := (Bx.made' (by simp) _ _).kept (((Fr.refl _ _).alloc _).alloc _)
  have b2 : Bx (((w.alloc (Obj.cells #[.bool g, .slice p n c, .slice q m d] 26)).alloc (Obj.cells #[.bool false, .slice none 0 0] 24)).alloc (Obj.cells #[.bool false, .slice none 0 0] 24)) (w.heap.size + 1) 24 #[.bool false, .slice none 0 0] := (Bx.made' (by simp) _ _).kept ((Fr.refl _ _).alloc _)
  have b3 : Bx (((w.alloc (Obj.cells #[.bool g, .slice p n c, .slice q m d] 26)).alloc (Obj.cells #[.bool false, .slice none 0 0] 24)).alloc (Obj.cells #[.bool false, .slice none 0 0] 24)) (w.heap.size + 2) 24 #[.bool false, .slice none 0 0] := (Bx.made' (by simp) _ _).kept (Fr.refl _ _)
  generalize (((w.alloc (Obj.cells #[.bool g, .slice p n c, .slice q m d] 26)).alloc (Obj.cells #[.bool false, .slice none 0 0] 24)).alloc (Obj.cells #[.bool false, .slice none 0 0] 24)) = W at *
  have hbs := b3.lt
  replace sa := sa.kept hw
  replace ta := ta.kept hw
  refine wp_region_inv (w0 := W) (by kernel_rfl) [true, false, false, false, true, true, true, true, true, false, false, false, false, false, false, false, false, false, false] []
    [⟨[5], F1 (fun x _ => x = .pointer (some ⟨w.heap.size, 2, none⟩)), .pure⟩,
    ⟨[6], F1 (fun x _ => x = .slice q m d), .pure⟩,
    ⟨[7], F1 (fun x w => VD w dv' x), .pure⟩,
    ⟨[8], F1 (fun x w => VZ w (dv' : Int) x), .pure⟩,
    ⟨[], F0, .new 24 2⟩,
    ⟨[8], F0, .store 4 24 cellsOf⟩]
    [[], [0], [0, 1], [0, 1, 2], [], [0, 1, 2, 3, 4]] ?mk1 ?hmk1 (by kernel_rfl)
    ⟨F1.st (st_eq _), F1.st (st_eq _), F1.st (fun _ _ _ k h => h.kp k), F1.st (fun _ _ _ k h => h.kp k), F0.st, F0.st, trivial⟩ (by simp) (by simp) (n := 6) rfl ⟨⟨⟨⟨⟨⟨trivial, ?s1_0⟩, ?s1_1⟩, ?s1_2⟩, ?s1_3⟩, ?s1_4⟩, ?s1_5⟩ ?done1
  case hmk1 => intro v; simp only [mkv, mix, Nat.reduceAdd]; rfl
  case s1_0 =>
    refine stepOk_of _ _ rfl rfl ?_
    intro v W1 f kp ho hd K' hK
    go_simp
    exact hK _ _ (Fr.refl [] _) rfl
  case s1_1 =>
    refine stepOk_of _ _ rfl rfl ?_
    intro v W1 f kp ho hd K' hK
    have e5 : v 5 = .pointer (some ⟨w.heap.size, 2, none⟩) := (hd 0 (by decide) _ _ rfl rfl).1
    have k0 := (b1.keep f (by simp)).cell (j := 2) rfl
    simp only [e5] at hK ⊢
    go_simp
    exact hK _ _ (Fr.refl [] _) rfl
  case s1_2 =>
    refine stepOk_of _ _ rfl rfl ?_
    intro v W1 f kp ho hd K' hK
    have e6 : v 6 = .slice q m d := (hd 1 (by decide) _ _ rfl rfl).1
    simp only [e6] at hK ⊢
    go_simp
    refine (rtrim_v (ta.kp kp) (by omega)).mono ?_
    rw [Hdv.out]
    rintro e W' ⟨x, rfl, hx, ff⟩
    exact hK x W' ff hx
  case s1_3 =>
    refine stepOk_of _ _ rfl rfl ?_
    intro v W1 f kp ho hd K' hK
    have f7 : VD W1 dv' (v 7) := (hd 2 (by decide) _ _ rfl rfl).1
    have o7 := f7
    obtain ⟨p7, c7, e7, s7⟩ := o7
    simp only [e7] at hK ⊢
    go_simp
    exact hK _ _ (Fr.refl [] _) (vd_nat s7)
  case s1_4 =>
    refine stepOk_of _ _ rfl rfl ?_
    intro v W1 f kp ho hd K' hK
    go_simp
    exact hK _ _ (move_new rfl rfl rfl rfl rfl) trivial
  case s1_5 =>
    refine stepOk_of _ _ rfl rfl ?_
    intro v W1 f kp ho hd K' hK
    obtain ⟨-, A4, e4, -, sb4⟩ := hd 4 (by decide) _ _ rfl rfl
    have f8 : VZ W1 (dv' : Int) (v 8) := (hd 3 (by decide) _ _ rfl rfl).1
    have o8 := f8
    obtain ⟨p8, c8, e8, s8⟩ := o8
    obtain ⟨zz0, zz1, bz⟩ := sb4.open2
    have k0 := bz.cell (j := 0) rfl
    have fr0 := bz.free 0
    have k1 := bz.cell (j := 1) rfl
    have fr1 := bz.free 1
    simp only [e4, e8] at hK ⊢
    go_simp
    exact hK undef _ (move_store (cs := #[.bool (decide ((dv' : Int) < 0)), .slice p8 (dg ((dv' : Int)).natAbs).length c8]) rfl e4 (by simp only [List.map, e8]; rfl) sb4 rfl rfl (((Fr.refl _ _).put1 0 _).put1 1 _) (((bz.put1 0 _).put1 1 _))) trivial
  case done1 =>
    intro v W1 f kp hF hD
    have e5 : v 5 = .pointer (some ⟨w.heap.size, 2, none⟩) := (hF 0 _ _ rfl rfl).1
    have e6 : v 6 = .slice q m d := (hF 1 _ _ rfl rfl).1
    have f7 : VD W1 dv' (v 7) := (hF 2 _ _ rfl rfl).1
    have f8 : VZ W1 (dv' : Int) (v 8) := (hF 3 _ _ rfl rfl).1
    have o8 := f8
    obtain ⟨p8, c8, e8, s8⟩ := o8
    rw [e8] at f8
    obtain ⟨-, A4, e4, g4, -⟩ := hF 4 _ _ rfl rfl
    obtain ⟨-, A', eA, b4⟩ := hF 5 _ _ rfl rfl
    rw [e4] at eA; injection eA with eA; injection eA with eA; injection eA with eA; subst eA
    replace b4 : Bx W1 A4 24 #[.bool (decide ((dv' : Int) < 0)), .slice p8 (dg ((dv' : Int)).natAbs).length c8] := by simp only [List.map, e8] at b4; exact b4
    clear hF hD
    simp only [e5, e6, e8, e4]
    replace b1 := b1.keep f (by simp)
    replace b2 := b2.keep f (by simp)
    replace b3 := b3.keep f (by simp)
    replace sa := sa.kp kp
    replace ta := ta.kp kp
    replace hw := hw.trans (a := w) (b := W) (c := W1) f (by simp)
    have hsz1 := f.size
    clear f kp
    have hlt_b4 := b4.lt
    have c_b1_0 := b1.cell (j := 0) rfl
    have c_b1_1 := b1.cell (j := 1) rfl
    have c_b1_2 := b1.cell (j := 2) rfl
    have c_b2_0 := b2.cell (j := 0) rfl
    have c_b2_1 := b2.cell (j := 1) rfl
    have c_b3_0 := b3.cell (j := 0) rfl
    have c_b3_1 := b3.cell (j := 1) rfl
    have c_b4_0 := b4.cell (j := 0) rfl
    have c_b4_1 := b4.cell (j := 1) rfl
    go_upto_region 4 with fail
    clear c_b1_0 c_b1_1 c_b1_2 c_b2_0 c_b2_1 c_b3_0 c_b3_1 c_b4_0 c_b4_1
    refine wp_region_inv (w0 := W1) (by kernel_rfl) [true, false, false, false, false, true, true, true, true, true, true, true, true, true, true, true, true, true, true] [(w.heap.size + 1), (w.heap.size + 2)]
      [⟨[16], F1 (fun x _ => x = .pointer (some ⟨w.heap.size, 0, none⟩)), .pure⟩,
    ⟨[17], F1 (fun x _ => x = .agg #[.bool g, .slice p n c]), .pure⟩,
    ⟨[18], F1 (fun x _ => x = .agg #[.bool (decide ((dv' : Int) < 0)), .slice p8 (dg ((dv' : Int)).natAbs).length c8]), .pure⟩,
    ⟨[17], F0, .out 0 24 cellsOf⟩,
    ⟨[18], F0, .out 1 24 cellsOf⟩]
      [[], [0], [], [0, 1], [0, 1, 2, 3]] ?mk2 ?hmk2 (by kernel_rfl)
      ⟨F1.st (st_eq _), F1.st (st_eq _), F1.st (st_eq _), F0.st, F0.st, trivial⟩ (by simp) (by simp <;> omega) (n := 5) rfl ⟨⟨⟨⟨⟨trivial, ?s2_0⟩, ?s2_1⟩, ?s2_2⟩, ?s2_3⟩, ?s2_4⟩ ?done2
    case hmk2 => intro v; simp only [mkv, mix, Nat.reduceAdd]; rfl
    case s2_0 =>
      refine stepOk_of _ _ rfl rfl ?_
      intro v W2 f kp ho hd K' hK
      go_simp
      exact hK _ _ (Fr.refl [] _) rfl
    case s2_1 =>
      refine stepOk_of _ _ rfl rfl ?_
      intro v W2 f kp ho hd K' hK
      have e16 : v 16 = .pointer (some ⟨w.heap.size, 0, none⟩) := (hd 0 (by decide) _ _ rfl rfl).1
      have k0 := (b1.keep f (by simp <;> omega)).cell (j := 0) rfl
      have k1 := (b1.keep f (by simp <;> omega)).cell (j := 1) rfl
      simp only [e16] at hK ⊢
      go_simp
      exact hK _ _ (Fr.refl [] _) rfl
    case s2_2 =>
      refine stepOk_of _ _ rfl rfl ?_
      intro v W2 f kp ho hd K' hK
      have k0 := (b4.keep f (by simp <;> omega)).cell (j := 0) rfl
      have k1 := (b4.keep f (by simp <;> omega)).cell (j := 1) rfl
      go_simp
      exact hK _ _ (Fr.refl [] _) rfl
    case s2_3 =>
      refine stepOk_of _ _ rfl rfl ?_
      intro v W2 f kp ho hd K' hK
      have e17 : v 17 = .agg #[.bool g, .slice p n c] := (hd 1 (by decide) _ _ rfl rfl).1
      have bz : Bx W2 (w.heap.size + 1) 24 #[.bool false, .slice none 0 0] := (ho 0 _ rfl (by kernel_rfl)).trans b2
      have k0 := bz.cell (j := 0) rfl
      have fr0 := bz.free 0
      have k1 := bz.cell (j := 1) rfl
      have fr1 := bz.free 1
      simp only [e17] at hK ⊢
      go_simp
      exact hK undef _ (move_out (cs := #[.bool g, .slice p n c]) rfl rfl (by simp only [List.map, e17]; rfl) (bz.soft rfl) rfl rfl (((Fr.refl _ _).put1 0 _).put1 1 _) (((bz.put1 0 _).put1 1 _))) trivial
    case s2_4 =>
      refine stepOk_of _ _ rfl rfl ?_
      intro v W2 f kp ho hd K' hK
      have e18 : v 18 = .agg #[.bool (decide ((dv' : Int) < 0)), .slice p8 (dg ((dv' : Int)).natAbs).length c8] := (hd 2 (by decide) _ _ rfl rfl).1
      have bz : Bx W2 (w.heap.size + 2) 24 #[.bool false, .slice none 0 0] := (ho 1 _ rfl (by kernel_rfl)).trans b3
      have k0 := bz.cell (j := 0) rfl
      have fr0 := bz.free 0
      have k1 := bz.cell (j := 1) rfl
      have fr1 := bz.free 1
      simp only [e18] at hK ⊢
      go_simp
      exact hK undef _ (move_out (cs := #[.bool (decide ((dv' : Int) < 0)), .slice p8 (dg ((dv' : Int)).natAbs).length c8]) rfl rfl (by simp only [List.map, e18]; rfl) (bz.soft rfl) rfl rfl (((Fr.refl _ _).put1 0 _).put1 1 _) (((bz.put1 0 _).put1 1 _))) trivial
    case done2 =>
      intro v W2 f kp hF hD
      have e16 : v 16 = .pointer (some ⟨w.heap.size, 0, none⟩) := (hF 0 _ _ rfl rfl).1
      have e17 : v 17 = .agg #[.bool g, .slice p n c] := (hF 1 _ _ rfl rfl).1
      have e18 : v 18 = .agg #[.bool (decide ((dv' : Int) < 0)), .slice p8 (dg ((dv' : Int)).natAbs).length c8] := (hF 2 _ _ rfl rfl).1
      obtain ⟨-, A', eA, nb2⟩ := hF 3 _ _ rfl rfl
      injection eA with eA; subst eA
      replace nb2 : Bx W2 (w.heap.size + 1) 24 #[.bool g, .slice p n c] := by simp only [List.map, e17] at nb2; exact nb2
      obtain ⟨-, A', eA, nb3⟩ := hF 4 _ _ rfl rfl
      injection eA with eA; subst eA
      replace nb3 : Bx W2 (w.heap.size + 2) 24 #[.bool (decide ((dv' : Int) < 0)), .slice p8 (dg ((dv' : Int)).natAbs).length c8] := by simp only [List.map, e18] at nb3; exact nb3
      clear hF hD
      simp only [e16, e17, e18]
      replace b1 := b1.keep f (by simp <;> omega)
      replace b4 := b4.keep f (by simp <;> omega)
      clear b2; have b2 := nb2; clear nb2
      clear b3; have b3 := nb3; clear nb3
      replace sa := sa.kp kp
      replace ta := ta.kp kp
      replace f7 := f7.kp kp
      replace s8 := s8.kp kp
      replace f8 := f8.kp kp
      replace hw := hw.trans (a := w) (b := W1) (c := W2) f (fun x hx hl => by simp at hx; omega)
      have hsz2 := f.size
      clear f kp
      go_wp2_with fail
      have c_b2_0 := b2.cell (j := 0) rfl
      have c_b2_1 := b2.cell (j := 1) rfl
      have c_b3_0 := b3.cell (j := 0) rfl
      have c_b3_1 := b3.cell (j := 1) rfl
      exact bodyPost_ret (v := .tuple #[iw g p n c, .agg #[.bool (decide ((dv' : Int) < 0)), .slice p8 (dg ((dv' : Int)).natAbs).length c8]]) (by simp [results, Tryz.results100, go_sem, c_b2_0, c_b2_1, c_b3_0, c_b3_1]) rfl ⟨_, _, rfl, ⟨g, p, n, c, X, rfl, sa, rfl, la⟩, f8, hw⟩

set_option maxRecDepth 100000 in
set_option maxHeartbeats 1000000 in
theorem parts0_v {w : World} {L : Nat} {g : Bool} {p : Option Addr} {n c : Nat} {X : List Nat} {q : Option Addr} {m d : Nat} {Y : List Nat} (sa : Sl w p n c X) (ta : Sl w q m d Y) (_la : n ≤ L) (_lma : m ≤ L) (_hL : L ≤ 524287) (hy : val Y = 0) :
    Calls Tryz.prog 100 #[rw' g p n c q m d] w fun e w' => ∃ x y, e = .returned (.tuple #[x, y]) ∧ VI w' L 0 x ∧ VZ w' 1 y ∧ Fr [] w w' := by
  obtain ⟨dv', hdv⟩ : ∃ k, val Y = k := ⟨_, rfl⟩
  rw [hdv] at hy
  have hlen : ((dg dv').length : Int) = 0 := by rw [hy, dg_zero]; rfl
  have Hdv := Lib.hid hdv; have Hy := Lib.hid hy; clear hdv hy
  go_enter Tryz.func100, Tryz.ntmps100
  go_upto_region 1 with fail
  have hw : Fr [] w (((w.alloc (Obj.cells #[.bool g, .slice p n c, .slice q m d] 26)).alloc (Obj.cells #[.bool false, .slice none 0 0] 24)).alloc (Obj.cells #[.bool false, .slice none 0 0] 24)) := (((Fr.refl _ _).alloc _).alloc _).alloc _
  have b1 : Bx (((w.alloc (Obj.cells #[.bool g, .slice p n c, .slice q m d] 26)).alloc (Obj.cells #[.bool false, .slice none 0 0] 24)).alloc (Obj.cells #[.bool false, .slice none 0 0] 24)) w.heap.size 26 #[.bool g, .slice p n c, .slice q m d] := (Bx.made' (by simp) _ _).kept (((Fr.refl _ _).alloc _).alloc _)
  have b2 : Bx (((w.alloc (Obj.cells #[.bool g, .slice p n c, .slice q m d] 26)).alloc (Obj.cells #[.bool false, .slice none 0 0] 24)).alloc (Obj.cells #[.bool false, .slice none 0 0] 24)) (w.heap.size + 1) 24 #[.bool false, .slice none 0 0] := (Bx.made' (by simp) _ _).kept ((Fr.refl _ _).alloc _)
  have b3 : Bx (((w.alloc (Obj.cells #[.bool g, .slice p n c, .slice q m d] 26)).alloc (Obj.cells #[.bool false, .slice none 0 0] 24)).alloc (Obj.cells #[.bool false, .slice none 0 0] 24)) (w.heap.size + 2) 24 #[.bool false, .slice none 0 0] := (Bx.made' (by simp) _ _).kept (Fr.refl _ _)
  generalize (((w.alloc (Obj.cells #[.bool g, .slice p n c, .slice q m d] 26)).alloc (Obj.cells #[.bool false, .slice none 0 0] 24)).alloc (Obj.cells #[.bool false, .slice none 0 0] 24)) = W at *
  have hbs := b3.lt
  replace sa := sa.kept hw
  replace ta := ta.kept hw
  refine wp_region_inv (w0 := W) (by kernel_rfl) [true, false, false, false, true, true, true, true, true, false, false, false, false, false, false, false, false, false, false] []
    [⟨[5], F1 (fun x _ => x = .pointer (some ⟨w.heap.size, 2, none⟩)), .pure⟩,
    ⟨[6], F1 (fun x _ => x = .slice q m d), .pure⟩,
    ⟨[7], F1 (fun x w => VD w dv' x), .pure⟩,
    ⟨[8], F1 (fun x w => VZ w (dv' : Int) x), .pure⟩,
    ⟨[], F0, .new 24 2⟩,
    ⟨[8], F0, .store 4 24 cellsOf⟩]
    [[], [0], [0, 1], [0, 1, 2], [], [0, 1, 2, 3, 4]] ?mk1 ?hmk1 (by kernel_rfl)
    ⟨F1.st (st_eq _), F1.st (st_eq _), F1.st (fun _ _ _ k h => h.kp k), F1.st (fun _ _ _ k h => h.kp k), F0.st, F0.st, trivial⟩ (by simp) (by simp) (n := 6) rfl ⟨⟨⟨⟨⟨⟨trivial, ?s1_0⟩, ?s1_1⟩, ?s1_2⟩, ?s1_3⟩, ?s1_4⟩, ?s1_5⟩ ?done1
  case hmk1 => intro v; simp only [mkv, mix, Nat.reduceAdd]; rfl
  case s1_0 =>
    refine stepOk_of _ _ rfl rfl ?_
    intro v W1 f kp ho hd K' hK
    go_simp
    exact hK _ _ (Fr.refl [] _) rfl
  case s1_1 =>
    refine stepOk_of _ _ rfl rfl ?_
    intro v W1 f kp ho hd K' hK
    have e5 : v 5 = .pointer (some ⟨w.heap.size, 2, none⟩) := (hd 0 (by decide) _ _ rfl rfl).1
    have k0 := (b1.keep f (by simp)).cell (j := 2) rfl
    simp only [e5] at hK ⊢
    go_simp
    exact hK _ _ (Fr.refl [] _) rfl
  case s1_2 =>
    refine stepOk_of _ _ rfl rfl ?_
    intro v W1 f kp ho hd K' hK
    have e6 : v 6 = .slice q m d := (hd 1 (by decide) _ _ rfl rfl).1
    simp only [e6] at hK ⊢
    go_simp
    refine (rtrim_v (ta.kp kp) (by omega)).mono ?_
    rw [Hdv.out]
    rintro e W' ⟨x, rfl, hx, ff⟩
    exact hK x W' ff hx
  case s1_3 =>
    refine stepOk_of _ _ rfl rfl ?_
    intro v W1 f kp ho hd K' hK
    have f7 : VD W1 dv' (v 7) := (hd 2 (by decide) _ _ rfl rfl).1
    have o7 := f7
    obtain ⟨p7, c7, e7, s7⟩ := o7
    simp only [e7] at hK ⊢
    go_simp
    exact hK _ _ (Fr.refl [] _) (vd_nat s7)
  case s1_4 =>
    refine stepOk_of _ _ rfl rfl ?_
    intro v W1 f kp ho hd K' hK
    go_simp
    exact hK _ _ (move_new rfl rfl rfl rfl rfl) trivial
  case s1_5 =>
    refine stepOk_of _ _ rfl rfl ?_
    intro v W1 f kp ho hd K' hK
    obtain ⟨-, A4, e4, -, sb4⟩ := hd 4 (by decide) _ _ rfl rfl
    have f8 : VZ W1 (dv' : Int) (v 8) := (hd 3 (by decide) _ _ rfl rfl).1
    have o8 := f8
    obtain ⟨p8, c8, e8, s8⟩ := o8
    obtain ⟨zz0, zz1, bz⟩ := sb4.open2
    have k0 := bz.cell (j := 0) rfl
    have fr0 := bz.free 0
    have k1 := bz.cell (j := 1) rfl
    have fr1 := bz.free 1
    simp only [e4, e8] at hK ⊢
    go_simp
    exact hK undef _ (move_store (cs := #[.bool (decide ((dv' : Int) < 0)), .slice p8 (dg ((dv' : Int)).natAbs).length c8]) rfl e4 (by simp only [List.map, e8]; rfl) sb4 rfl rfl (((Fr.refl _ _).put1 0 _).put1 1 _) (((bz.put1 0 _).put1 1 _))) trivial
  case done1 =>
    intro v W1 f kp hF hD
    have e5 : v 5 = .pointer (some ⟨w.heap.size, 2, none⟩) := (hF 0 _ _ rfl rfl).1
    have e6 : v 6 = .slice q m d := (hF 1 _ _ rfl rfl).1
    have f7 : VD W1 dv' (v 7) := (hF 2 _ _ rfl rfl).1
    have f8 : VZ W1 (dv' : Int) (v 8) := (hF 3 _ _ rfl rfl).1
    have o8 := f8
    obtain ⟨p8, c8, e8, s8⟩ := o8
    rw [e8] at f8
    obtain ⟨-, A4, e4, g4, -⟩ := hF 4 _ _ rfl rfl
    obtain ⟨-, A', eA, b4⟩ := hF 5 _ _ rfl rfl
    rw [e4] at eA; injection eA with eA; injection eA with eA; injection eA with eA; subst eA
    replace b4 : Bx W1 A4 24 #[.bool (decide ((dv' : Int) < 0)), .slice p8 (dg ((dv' : Int)).natAbs).length c8] := by simp only [List.map, e8] at b4; exact b4
    clear hF hD
    simp only [e5, e6, e8, e4]
    replace b1 := b1.keep f (by simp)
    replace b2 := b2.keep f (by simp)
    replace b3 := b3.keep f (by simp)
    replace sa := sa.kp kp
    replace ta := ta.kp kp
    replace hw := hw.trans (a := w) (b := W) (c := W1) f (by simp)
    have hsz1 := f.size
    clear f kp
    have hlt_b4 := b4.lt
    rw [Int.natAbs_natCast] at b4
    have c_b1_0 := b1.cell (j := 0) rfl
    have c_b1_1 := b1.cell (j := 1) rfl
    have c_b1_2 := b1.cell (j := 2) rfl
    have c_b2_0 := b2.cell (j := 0) rfl
    have c_b2_1 := b2.cell (j := 1) rfl
    have c_b3_0 := b3.cell (j := 0) rfl
    have c_b3_1 := b3.cell (j := 1) rfl
    have c_b4_0 := b4.cell (j := 0) rfl
    have c_b4_1 := b4.cell (j := 1) rfl
    go_upto_region 3 with fail
    clear c_b1_0 c_b1_1 c_b1_2 c_b2_0 c_b2_1 c_b3_0 c_b3_1 c_b4_0 c_b4_1
    refine wp_region_inv (w0 := W1) (by kernel_rfl) [true, false, false, false, false, true, true, true, true, true, true, true, true, true, true, true, false, false, false] [(w.heap.size + 1), (w.heap.size + 2)]
      [⟨[13], F1 (fun x _ => x = .agg #[.bool false, .slice none 0 0]), .pure⟩,
    ⟨[14], F1 (fun x w => VD w 1 x), .pure⟩,
    ⟨[15], F1 (fun x w => VZ w (1 : Int) x), .pure⟩,
    ⟨[13], F0, .out 0 24 cellsOf⟩,
    ⟨[15], F0, .out 1 24 cellsOf⟩]
      [[], [], [1], [0], [0, 1, 2, 3]] ?mk2 ?hmk2 (by kernel_rfl)
      ⟨F1.st (st_eq _), F1.st (fun _ _ _ k h => h.kp k), F1.st (fun _ _ _ k h => h.kp k), F0.st, F0.st, trivial⟩ (by simp) (by simp <;> omega) (n := 5) rfl ⟨⟨⟨⟨⟨trivial, ?s2_0⟩, ?s2_1⟩, ?s2_2⟩, ?s2_3⟩, ?s2_4⟩ ?done2
    case hmk2 => intro v; simp only [mkv, mix, Nat.reduceAdd]; rfl
    case s2_0 =>
      refine stepOk_of _ _ rfl rfl ?_
      intro v W2 f kp ho hd K' hK
      go_simp
      exact hK _ _ (Fr.refl [] _) rfl
    case s2_1 =>
      refine stepOk_of _ _ rfl rfl ?_
      intro v W2 f kp ho hd K' hK
      go_simp
      exact hK _ _ (Fr.new _) (vd_one _)
    case s2_2 =>
      refine stepOk_of _ _ rfl rfl ?_
      intro v W2 f kp ho hd K' hK
      have f14 : VD W2 1 (v 14) := (hd 1 (by decide) _ _ rfl rfl).1
      have o14 := f14
      obtain ⟨p14, c14, e14, s14⟩ := o14
      simp only [e14] at hK ⊢
      go_simp
      exact hK _ _ (Fr.refl [] _) (vd_nat (k := 1) s14)
    case s2_3 =>
      refine stepOk_of _ _ rfl rfl ?_
      intro v W2 f kp ho hd K' hK
      have e13 : v 13 = .agg #[.bool false, .slice none 0 0] := (hd 0 (by decide) _ _ rfl rfl).1
      have bz : Bx W2 (w.heap.size + 1) 24 #[.bool false, .slice none 0 0] := (ho 0 _ rfl (by kernel_rfl)).trans b2
      have k0 := bz.cell (j := 0) rfl
      have fr0 := bz.free 0
      have k1 := bz.cell (j := 1) rfl
      have fr1 := bz.free 1
      simp only [e13] at hK ⊢
      go_simp
      exact hK undef _ (move_out (cs := #[.bool false, .slice none 0 0]) rfl rfl (by simp only [List.map, e13]; rfl) (bz.soft rfl) rfl rfl (((Fr.refl _ _).put1 0 _).put1 1 _) (((bz.put1 0 _).put1 1 _))) trivial
    case s2_4 =>
      refine stepOk_of _ _ rfl rfl ?_
      intro v W2 f kp ho hd K' hK
      have f15 : VZ W2 (1 : Int) (v 15) := (hd 2 (by decide) _ _ rfl rfl).1
      have o15 := f15
      obtain ⟨p15, c15, e15, s15⟩ := o15
      have bz : Bx W2 (w.heap.size + 2) 24 #[.bool false, .slice none 0 0] := (ho 1 _ rfl (by kernel_rfl)).trans b3
      have k0 := bz.cell (j := 0) rfl
      have fr0 := bz.free 0
      have k1 := bz.cell (j := 1) rfl
      have fr1 := bz.free 1
      simp only [e15] at hK ⊢
      go_simp
      exact hK undef _ (move_out (cs := #[.bool (decide ((1 : Int) < 0)), .slice p15 (dg ((1 : Int)).natAbs).length c15]) rfl rfl (by simp only [List.map, e15]; rfl) (bz.soft rfl) rfl rfl (((Fr.refl _ _).put1 0 _).put1 1 _) (((bz.put1 0 _).put1 1 _))) trivial
    case done2 =>
      intro v W2 f kp hF hD
      have e13 : v 13 = .agg #[.bool false, .slice none 0 0] := (hF 0 _ _ rfl rfl).1
      have f14 : VD W2 1 (v 14) := (hF 1 _ _ rfl rfl).1
      have f15 : VZ W2 (1 : Int) (v 15) := (hF 2 _ _ rfl rfl).1
      have o15 := f15
      obtain ⟨p15, c15, e15, s15⟩ := o15
      rw [e15] at f15
      obtain ⟨-, A', eA, nb2⟩ := hF 3 _ _ rfl rfl
      injection eA with eA; subst eA
      replace nb2 : Bx W2 (w.heap.size + 1) 24 #[.bool false, .slice none 0 0] := by simp only [List.map, e13] at nb2; exact nb2
      obtain ⟨-, A', eA, nb3⟩ := hF 4 _ _ rfl rfl
      injection eA with eA; subst eA
      replace nb3 : Bx W2 (w.heap.size + 2) 24 #[.bool (decide ((1 : Int) < 0)), .slice p15 (dg ((1 : Int)).natAbs).length c15] := by simp only [List.map, e15] at nb3; exact nb3
      clear hF hD
      simp only [e13, e15]
      replace b1 := b1.keep f (by simp <;> omega)
      replace b4 := b4.keep f (by simp <;> omega)
      clear b2; have b2 := nb2; clear nb2
      clear b3; have b3 := nb3; clear nb3
      replace sa := sa.kp kp
      replace ta := ta.kp kp
      replace f7 := f7.kp kp
      replace s8 := s8.kp kp
      replace f8 := f8.kp kp
      replace hw := hw.trans (a := w) (b := W1) (c := W2) f (fun x hx hl => by simp at hx; omega)
      have hsz2 := f.size
      clear f kp
      go_wp2_with fail
      have c_b2_0 := b2.cell (j := 0) rfl
      have c_b2_1 := b2.cell (j := 1) rfl
      have c_b3_0 := b3.cell (j := 0) rfl
      have c_b3_1 := b3.cell (j := 1) rfl
      exact bodyPost_ret (v := .tuple #[.agg #[.bool false, .slice none 0 0], iw (decide ((1 : Int) < 0)) p15 (dg ((1 : Int)).natAbs).length c15]) (by simp [results, Tryz.results100, go_sem, c_b2_0, c_b2_1, c_b3_0, c_b3_1]) rfl ⟨_, _, rfl, ⟨false, none, 0, 0, [], rfl, Sl.zero _, rfl, Nat.zero_le _⟩, f15, hw⟩

theorem parts_v {w : World} {L : Nat} {z : Int} {d : Nat} {u : Value} (h : VP w L z d u) (hL : L ≤ 524287) : Calls Tryz.prog 100 #[u] w fun e w' => ∃ x y, e = .returned (.tuple #[x, y]) ∧ VI w' L z x ∧ VZ w' (d : Int) y ∧ Fr [] w w' := by
  obtain ⟨g, p, n, c, X, q, m, k, Y, rfl, s, t, hz, hd, l, l'⟩ := h
  by_cases hy : val Y = 0
  · rw [hy] at hz hd
    subst hz hd
    exact parts0_v s t l l' hL hy
  · have e1 : iv g (val X) = z := by rw [← hz]; unfold rz; rw [if_neg hy]
    have e2 : val Y = d := by rw [← hd]; unfold rd; rw [if_neg hy]
    subst e1 e2
    exact parts1_v s t l l' hL hy

end Go.Proofs.YtnokcaigpnejeaaGreatDoor
