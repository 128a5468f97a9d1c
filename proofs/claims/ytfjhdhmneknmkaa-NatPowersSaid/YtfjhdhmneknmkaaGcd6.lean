/- The document's own Gcd; the Gcds of integers. -/
import Derived.Test.YtfjhdhmneknmkaaGcd5
import Derived.Test.YtfjhdhmneknmkaaRef11
import Derived.Test.YtfjhdhmneknmkaaInt3
namespace Go.Proofs.Ytfjhdhmneknmkaa
open Go.RowKit

theorem gcd_len (X Y : Nat) : (dg (Nat.gcd X Y)).length ≤ (dg X).length + (dg Y).length := by
  by_cases h : X = 0
  · rw [h, Nat.gcd_zero_left]; omega
  · have := dg_len_mono (Nat.gcd_le_left Y (Nat.pos_of_ne_zero h)); omega

set_option maxRecDepth 100000 in
set_option maxHeartbeats 2000000 in
theorem rgcd_any (p q : Option Addr) (n m c d : Nat) (xs ys : List Nat) (w : World) (hA : Sl w p n c xs) (hB : Sl w q m d ys) (hn : n ≤ 1048575) (hm : m ≤ 1048575) :
    Calls Try.prog 22 #[.slice p n c, .slice q m d] w (RetOwn w (dg (Nat.gcd (val xs) (val ys)))) := by
  have lA := dg_len_val hA.dig
  have lB := dg_len_val hB.dig
  rw [hA.len] at lA
  rw [hB.len] at lB
  go_enter Try.func22, Try.ntmps22
  go_wp2_with fail
  refine (rcut_any _ _ _ _ _ hA (by omega)).mono ?_
  rintro e w1 ⟨p1, c1, rfl, o1, f1⟩
  have hB1 := hB.kept f1
  go_wp2_with fail
  refine (rcut_any _ _ _ _ _ hB1 (by omega)).mono ?_
  rintro e w2 ⟨p2, c2, rfl, o2, f2⟩
  have hf2 : Fr [] w w2 := f1.trans f2 (by simp)
  have o1' := o1.kept f2
  have o2' := o2.mono (b' := w.heap.size) f1.size
  clear o1 o2 hA hB hB1 f1 f2
  go_wp2_with fail
  go_loopg [0, 1] (val ys) (fun k s0 s1 wr => ∃ (X : Nat) (px : Option Addr) (cx : Nat) (py : Option Addr) (cy : Nat), s0 = .slice px (dg X).length cx ∧ s1 = .slice py (dg k).length cy ∧ Ow wr w.heap.size px (dg X).length cx (dg X) ∧ Ow wr w.heap.size py (dg k).length cy (dg k) ∧ (dg X).length ≤ 1048575 ∧ (dg k).length ≤ 1048575 ∧ Nat.gcd X k = Nat.gcd (val xs) (val ys) ∧ Fr [] w wr)
  case atStart => exact ⟨val xs, p1, c1, p2, c2, rfl, rfl, o1', o2', by omega, by omega, rfl, hf2⟩
  case round =>
    clear o1' o2' hf2
    obtain ⟨X, px, cx, py, cy, rfl, rfl, ox, oy, lx, ly, hg, hf⟩ := hrel
    have HG := Lib.hid hg
    clear hg
    by_cases hk : gk = 0
    · subst hk
      have hz : (dg 0).length = 0 := by rw [dg_zero]; rfl
      have HE : Hid (Nat.gcd (val xs) (val ys) = X) := by show _ = _; rw [← HG.out, Nat.gcd_zero_right]
      rw [hz]
      clear hz
      go_wp2_with fail
      go_ret
      rw [HE.out]
      exact ⟨px, cx, rfl, ox, hf⟩
    · have hl0 : 0 < (dg gk).length := Nat.pos_of_ne_zero (fun e => hk (dg_nil.1 (List.eq_nil_of_length_eq_zero e)))
      go_wp2_with fail
      refine (rdivmod_yes px py _ cx _ cy (dg X) (dg gk) _ ox.sl oy.sl lx ly (by rw [val_dg]; exact hk)).mono ?_
      rw [val_dg, val_dg]
      rintro e w3 ⟨pq, cq, pr, cr, rfl, oq, or', f3⟩
      have hs := hf.size
      have hm := Nat.mod_lt X (Nat.pos_of_ne_zero hk)
      have lr := dg_len_mono (Nat.le_of_lt hm)
      have HGM : Hid (Nat.gcd gk (X % gk) = Nat.gcd (val xs) (val ys)) := by show _ = _; rw [gcd_mod]; exact HG.out
      have oy3 := oy.kept f3
      have or3 := or'.mono (b' := w.heap.size) hs
      clear oq or' ox oy
      generalize X % gk = R at *
      go_wp2_with fail
      go_roundg R
      case rel => exact ⟨gk, py, cy, pr, cr, rfl, rfl, oy3, or3, ly, by omega, HGM.out, hf.trans f3 (by simp)⟩
      case measure => exact hm

/-! integers -/
set_option maxRecDepth 100000 in
set_option maxHeartbeats 2000000 in
theorem igcd_any (g h : Bool) (p q : Option Addr) (n c m d : Nat) (xs ys : List Nat) (w : World) (h1 : Sl w p n c xs) (h2 : Sl w q m d ys) (hn : n ≤ 549755813887) (hm : m ≤ 549755813887) :
    Calls Try.prog 49 #[iw g p n c, iw h q m d] w (RetI w (Nat.gcd (val xs) (val ys) : Nat)) := by
  go_enter Try.func49, Try.ntmps49
  go_wp2_with fail
  have g_h1 := h1
  have g_h2 := h2
  have hw : Fr [] w (((w.alloc (Obj.cells #[.bool g, .slice p n c] 40)).alloc (Obj.cells #[.bool h, .slice q m d] 40)).alloc (Obj.cells #[.bool false, .slice none 0 0] 40)) := (((Fr.refl _ _).alloc _).alloc _).alloc _
  have b0 : Bx (((w.alloc (Obj.cells #[.bool g, .slice p n c] 40)).alloc (Obj.cells #[.bool h, .slice q m d] 40)).alloc (Obj.cells #[.bool false, .slice none 0 0] 40)) w.heap.size 40 #[.bool g, .slice p n c] := (Bx.made' (by simp) _ _).kept (((Fr.refl _ _).alloc _).alloc _)
  have b1 : Bx (((w.alloc (Obj.cells #[.bool g, .slice p n c] 40)).alloc (Obj.cells #[.bool h, .slice q m d] 40)).alloc (Obj.cells #[.bool false, .slice none 0 0] 40)) (w.heap.size + 1) 40 #[.bool h, .slice q m d] := (Bx.made' (by simp) _ _).kept ((Fr.refl _ _).alloc _)
  have r0 : Bx (((w.alloc (Obj.cells #[.bool g, .slice p n c] 40)).alloc (Obj.cells #[.bool h, .slice q m d] 40)).alloc (Obj.cells #[.bool false, .slice none 0 0] 40)) (w.heap.size + 2) 40 #[.bool false, .slice none 0 0] := (Bx.made' (by simp) _ _).kept (Fr.refl _ _)
  generalize (((w.alloc (Obj.cells #[.bool g, .slice p n c] 40)).alloc (Obj.cells #[.bool h, .slice q m d] 40)).alloc (Obj.cells #[.bool false, .slice none 0 0] 40)) = W at *
  have hbs := r0.lt
  replace h1 := h1.kept hw
  replace h2 := h2.kept hw
  have c_b0_0 := b0.cell (j := 0) rfl
  have f_b0_0 := b0.free 0
  have c_b0_1 := b0.cell (j := 1) rfl
  have f_b0_1 := b0.free 1
  have c_b1_0 := b1.cell (j := 0) rfl
  have f_b1_0 := b1.free 0
  have c_b1_1 := b1.cell (j := 1) rfl
  have f_b1_1 := b1.free 1
  have c_r0_0 := r0.cell (j := 0) rfl
  have f_r0_0 := r0.free 0
  have c_r0_1 := r0.cell (j := 1) rfl
  have f_r0_1 := r0.free 1
  go_wp2_with fail
  clear c_b0_0 f_b0_0 c_b0_1 f_b0_1 c_b1_0 f_b1_0 c_b1_1 f_b1_1 c_r0_0 f_r0_0 c_r0_1 f_r0_1
  refine (gcd_any _ _ _ _ _ _ _ _ _ h1 h2 (by omega) (by omega)).mono ?_
  rintro e V1 ⟨p1, c1, rfl, o1, ff⟩
  have hsz1 := ff.size
  replace hw := hw.trans ff (by simp)
  replace h1 := h1.kept ff
  replace h2 := h2.kept ff
  replace b0 := b0.kept ff
  replace b1 := b1.kept ff
  replace r0 := r0.kept ff
  clear ff
  have c_b0_0 := b0.cell (j := 0) rfl
  have f_b0_0 := b0.free 0
  have c_b0_1 := b0.cell (j := 1) rfl
  have f_b0_1 := b0.free 1
  have c_b1_0 := b1.cell (j := 0) rfl
  have f_b1_0 := b1.free 0
  have c_b1_1 := b1.cell (j := 1) rfl
  have f_b1_1 := b1.free 1
  have c_r0_0 := r0.cell (j := 0) rfl
  have f_r0_0 := r0.free 0
  have c_r0_1 := r0.cell (j := 1) rfl
  have f_r0_1 := r0.free 1
  go_wp2_with fail
  clear c_b0_0 f_b0_0 c_b0_1 f_b0_1 c_b1_0 f_b1_0 c_b1_1 f_b1_1 c_r0_0 f_r0_0 c_r0_1 f_r0_1
  refine (signed_any _ _ _ _ _).mono ?_
  rw [Bool.false_and]
  rintro e V2 ⟨rfl, ff⟩
  have hsz2 := ff.size
  replace hw := hw.trans ff (by simp)
  replace h1 := h1.kept ff
  replace h2 := h2.kept ff
  replace o1 := o1.kept ff
  replace b0 := b0.kept ff
  replace b1 := b1.kept ff
  replace r0 := r0.kept ff
  clear ff
  have c_b0_0 := b0.cell (j := 0) rfl
  have f_b0_0 := b0.free 0
  have c_b0_1 := b0.cell (j := 1) rfl
  have f_b0_1 := b0.free 1
  have c_b1_0 := b1.cell (j := 0) rfl
  have f_b1_0 := b1.free 0
  have c_b1_1 := b1.cell (j := 1) rfl
  have f_b1_1 := b1.free 1
  have c_r0_0 := r0.cell (j := 0) rfl
  have f_r0_0 := r0.free 0
  have c_r0_1 := r0.cell (j := 1) rfl
  have f_r0_1 := r0.free 1
  go_wp2
  exact fin_ret r0 hw o1 (by omega) (by omega) rfl (by rw [Int.natAbs_natCast]) (by exact (decide_eq_false (by omega)).symm) (fun W' c0 c1 => by simp [results, Try.results49, go_sem, c0, c1])

set_option maxRecDepth 100000 in
set_option maxHeartbeats 2000000 in
theorem rigcd_any (g h : Bool) (p q : Option Addr) (n c m d : Nat) (xs ys : List Nat) (w : World) (h1 : Sl w p n c xs) (h2 : Sl w q m d ys) (hn : n ≤ 1048575) (hm : m ≤ 1048575) :
    Calls Try.prog 50 #[iw g p n c, iw h q m d] w (RetI w (Nat.gcd (val xs) (val ys) : Nat)) := by
  go_enter Try.func50, Try.ntmps50
  go_wp2_with fail
  have g_h1 := h1
  have g_h2 := h2
  have hw : Fr [] w (((w.alloc (Obj.cells #[.bool g, .slice p n c] 40)).alloc (Obj.cells #[.bool h, .slice q m d] 40)).alloc (Obj.cells #[.bool false, .slice none 0 0] 40)) := (((Fr.refl _ _).alloc _).alloc _).alloc _
  have b0 : Bx (((w.alloc (Obj.cells #[.bool g, .slice p n c] 40)).alloc (Obj.cells #[.bool h, .slice q m d] 40)).alloc (Obj.cells #[.bool false, .slice none 0 0] 40)) w.heap.size 40 #[.bool g, .slice p n c] := (Bx.made' (by simp) _ _).kept (((Fr.refl _ _).alloc _).alloc _)
  have b1 : Bx (((w.alloc (Obj.cells #[.bool g, .slice p n c] 40)).alloc (Obj.cells #[.bool h, .slice q m d] 40)).alloc (Obj.cells #[.bool false, .slice none 0 0] 40)) (w.heap.size + 1) 40 #[.bool h, .slice q m d] := (Bx.made' (by simp) _ _).kept ((Fr.refl _ _).alloc _)
  have r0 : Bx (((w.alloc (Obj.cells #[.bool g, .slice p n c] 40)).alloc (Obj.cells #[.bool h, .slice q m d] 40)).alloc (Obj.cells #[.bool false, .slice none 0 0] 40)) (w.heap.size + 2) 40 #[.bool false, .slice none 0 0] := (Bx.made' (by simp) _ _).kept (Fr.refl _ _)
  generalize (((w.alloc (Obj.cells #[.bool g, .slice p n c] 40)).alloc (Obj.cells #[.bool h, .slice q m d] 40)).alloc (Obj.cells #[.bool false, .slice none 0 0] 40)) = W at *
  have hbs := r0.lt
  replace h1 := h1.kept hw
  replace h2 := h2.kept hw
  have c_b0_0 := b0.cell (j := 0) rfl
  have f_b0_0 := b0.free 0
  have c_b0_1 := b0.cell (j := 1) rfl
  have f_b0_1 := b0.free 1
  have c_b1_0 := b1.cell (j := 0) rfl
  have f_b1_0 := b1.free 0
  have c_b1_1 := b1.cell (j := 1) rfl
  have f_b1_1 := b1.free 1
  have c_r0_0 := r0.cell (j := 0) rfl
  have f_r0_0 := r0.free 0
  have c_r0_1 := r0.cell (j := 1) rfl
  have f_r0_1 := r0.free 1
  go_wp2_with fail
  clear c_b0_0 f_b0_0 c_b0_1 f_b0_1 c_b1_0 f_b1_0 c_b1_1 f_b1_1 c_r0_0 f_r0_0 c_r0_1 f_r0_1
  refine (rgcd_any _ _ _ _ _ _ _ _ _ h1 h2 (by omega) (by omega)).mono ?_
  rintro e V1 ⟨p1, c1, rfl, o1, ff⟩
  have hsz1 := ff.size
  replace hw := hw.trans ff (by simp)
  replace h1 := h1.kept ff
  replace h2 := h2.kept ff
  replace b0 := b0.kept ff
  replace b1 := b1.kept ff
  replace r0 := r0.kept ff
  clear ff
  have c_b0_0 := b0.cell (j := 0) rfl
  have f_b0_0 := b0.free 0
  have c_b0_1 := b0.cell (j := 1) rfl
  have f_b0_1 := b0.free 1
  have c_b1_0 := b1.cell (j := 0) rfl
  have f_b1_0 := b1.free 0
  have c_b1_1 := b1.cell (j := 1) rfl
  have f_b1_1 := b1.free 1
  have c_r0_0 := r0.cell (j := 0) rfl
  have f_r0_0 := r0.free 0
  have c_r0_1 := r0.cell (j := 1) rfl
  have f_r0_1 := r0.free 1
  go_wp2
  exact fin_ret r0 hw o1 (by omega) (by omega) rfl (by rw [Int.natAbs_natCast]) (by exact (decide_eq_false (by omega)).symm) (fun W' c0 c1 => by simp [results, Try.results50, go_sem, c0, c1])

end Go.Proofs.Ytfjhdhmneknmkaa
