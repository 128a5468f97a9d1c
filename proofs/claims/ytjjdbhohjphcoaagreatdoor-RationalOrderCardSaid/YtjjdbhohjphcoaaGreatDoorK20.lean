/- What the statements of this claim stand on: of Rat3, what they name -/
import Derived.Deep.RegionWith
import Derived.Test.YtjjdbhohjphcoaaGreatDoorK19

namespace Go.Proofs.YtjjdbhohjphcoaaGreatDoor
open Go.RowKit

theorem reduce_any (g : Bool) (p q : Option Addr) (n c m d : Nat) (xs ys : List Nat) (w : World) (ht : Tab w) (h1 : Sl w p n c xs) (h2 : Sl w q m d ys) (hn : n ≤ 524287) (hm : m ≤ 524287) (hy : val ys ≠ 0) :
    Calls Tryz.prog 120 #[fw g p n c false q m d] w (RetL w (mkRat (iv g (val xs)) (val ys))) := by
  by_cases hx : val xs = 0
  · exact reduce_zero g p q n c m d xs ys w ht h1 h2 hn hm hy hx
  · by_cases hb : val ys = 2 ^ tz (val ys)
    · exact reduce_bin g p q n c m d xs ys w ht h1 h2 hn hm hy hx hb
    · exact reduce_gcd g p q n c m d xs ys w ht h1 h2 hn hm hy hx hb

def RetQ (w : World) (r : Rat) (e : Ending) (w' : World) : Prop :=
  ∃ p c q d, e = .returned (rw' (decide (r.num < 0)) p (dg r.num.natAbs).length c q (dg r.den).length d) ∧ Ow w' w.heap.size p (dg r.num.natAbs).length c (dg r.num.natAbs) ∧ Ow w' w.heap.size q (dg r.den).length d (dg r.den) ∧ Fr [] w w'

set_option maxRecDepth 100000 in
set_option maxHeartbeats 1000000 in
theorem result_any (g : Bool) (p q : Option Addr) (n c m d : Nat) (xs ys : List Nat) (w : World) (ht : Tab w) (h1 : Sl w p n c xs) (h2 : Sl w q m d ys) (hn : n ≤ 524287) (hm : m ≤ 524287) (hy : val ys ≠ 0) :
    Calls Tryz.prog 112 #[fw g p n c false q m d] w (RetQ w (mkRat (iv g (val xs)) (val ys))) := by
  obtain ⟨r, hr⟩ : ∃ r, mkRat (iv g (val xs)) (val ys) = r := ⟨_, rfl⟩
  rw [hr]
  have HR := Lib.hid hr
  have HY := Lib.hid hy
  clear hr hy
  go_enter Tryz.func112, Tryz.ntmps112
  go_wp2_with fail
  have g_h1 := h1
  have g_h2 := h2
  have hw : Fr [] w ((w.alloc (Obj.cells #[.bool g, .slice p n c, .bool false, .slice q m d] 75)).alloc (Obj.cells #[.bool false, .slice none 0 0, .slice none 0 0] 26)) := ((Fr.refl _ _).alloc _).alloc _
  have b0 : Bx ((w.alloc (Obj.cells #[.bool g, .slice p n c, .bool false, .slice q m d] 75)).alloc (Obj.cells #[.bool false, .slice none 0 0, .slice none 0 0] 26)) w.heap.size 75 #[.bool g, .slice p n c, .bool false, .slice q m d] := (Bx.made' (by simp) _ _).kept ((Fr.refl _ _).alloc _)
  have r0 : Bx ((w.alloc (Obj.cells #[.bool g, .slice p n c, .bool false, .slice q m d] 75)).alloc (Obj.cells #[.bool false, .slice none 0 0, .slice none 0 0] 26)) (w.heap.size + 1) 26 #[.bool false, .slice none 0 0, .slice none 0 0] := (Bx.made' (by simp) _ _).kept (Fr.refl _ _)
  generalize ((w.alloc (Obj.cells #[.bool g, .slice p n c, .bool false, .slice q m d] 75)).alloc (Obj.cells #[.bool false, .slice none 0 0, .slice none 0 0] 26)) = W at *
  have hbs := r0.lt
  replace h1 := h1.kept hw
  replace h2 := h2.kept hw
  replace ht := ht.kept hw
  have c_b0_0 := b0.cell (j := 0) rfl
  have f_b0_0 := b0.free 0
  have c_b0_1 := b0.cell (j := 1) rfl
  have f_b0_1 := b0.free 1
  have c_b0_2 := b0.cell (j := 2) rfl
  have f_b0_2 := b0.free 2
  have c_b0_3 := b0.cell (j := 3) rfl
  have f_b0_3 := b0.free 3
  have c_r0_0 := r0.cell (j := 0) rfl
  have f_r0_0 := r0.free 0
  have c_r0_1 := r0.cell (j := 1) rfl
  have f_r0_1 := r0.free 1
  have c_r0_2 := r0.cell (j := 2) rfl
  have f_r0_2 := r0.free 2
  go_wp2_with fail
  clear c_b0_0 f_b0_0 c_b0_1 f_b0_1 c_b0_2 f_b0_2 c_b0_3 f_b0_3 c_r0_0 f_r0_0 c_r0_1 f_r0_1 c_r0_2 f_r0_2
  refine (reduce_any g _ _ _ _ _ _ xs ys _ ht h1 h2 hn hm HY.out).mono ?_
  rw [HR.out]
  rintro e V1 ⟨p1, c1, q1, d1, rfl, o1, o2, ff⟩
  have hsz1 := ff.size
  replace hw := hw.trans ff (by simp)
  replace h1 := h1.kept ff
  replace h2 := h2.kept ff
  replace b0 := b0.kept ff
  replace r0 := r0.kept ff
  replace ht := ht.kept ff
  clear ff
  have c_b0_0 := b0.cell (j := 0) rfl
  have f_b0_0 := b0.free 0
  have c_b0_1 := b0.cell (j := 1) rfl
  have f_b0_1 := b0.free 1
  have c_b0_2 := b0.cell (j := 2) rfl
  have f_b0_2 := b0.free 2
  have c_b0_3 := b0.cell (j := 3) rfl
  have f_b0_3 := b0.free 3
  have c_r0_0 := r0.cell (j := 0) rfl
  have f_r0_0 := r0.free 0
  have c_r0_1 := r0.cell (j := 1) rfl
  have f_r0_1 := r0.free 1
  have c_r0_2 := r0.cell (j := 2) rfl
  have f_r0_2 := r0.free 2
  go_wp2_with fail
  clear c_b0_0 f_b0_0 c_b0_1 f_b0_1 c_b0_2 f_b0_2 c_b0_3 f_b0_3 c_r0_0 f_r0_0 c_r0_1 f_r0_1 c_r0_2 f_r0_2
  refine (rat_any _ _ _ _ _ _ _ _ _).mono ?_
  rintro e V2 ⟨rfl, ff⟩
  have hsz2 := ff.size
  replace hw := hw.trans ff (by simp)
  replace h1 := h1.kept ff
  replace h2 := h2.kept ff
  replace o1 := o1.kept ff
  replace o2 := o2.kept ff
  replace b0 := b0.kept ff
  replace r0 := r0.kept ff
  replace ht := ht.kept ff
  clear ff
  have c_b0_0 := b0.cell (j := 0) rfl
  have f_b0_0 := b0.free 0
  have c_b0_1 := b0.cell (j := 1) rfl
  have f_b0_1 := b0.free 1
  have c_b0_2 := b0.cell (j := 2) rfl
  have f_b0_2 := b0.free 2
  have c_b0_3 := b0.cell (j := 3) rfl
  have f_b0_3 := b0.free 3
  have c_r0_0 := r0.cell (j := 0) rfl
  have f_r0_0 := r0.free 0
  have c_r0_1 := r0.cell (j := 1) rfl
  have f_r0_1 := r0.free 1
  have c_r0_2 := r0.cell (j := 2) rfl
  have f_r0_2 := r0.free 2
  go_wp2_with fail
  exact fin3 r0 hw (by omega) rfl (fun W' c0 c1 c2 => by simp [results, Tryz.results112, go_sem, c0, c1, c2]) (fun W' fb fw => ⟨p1, c1, q1, d1, rfl, (o1.far fb (by omega)).mono (by omega), (o2.far fb (by omega)).mono (by omega), fw⟩)

def rz (g : Bool) (a b : Nat) : Int := if b = 0 then 0 else iv g a

def rd (b : Nat) : Nat := if b = 0 then 1 else b

theorem rd_ne (b : Nat) : rd b ≠ 0 := by unfold rd; split <;> omega

theorem mk_read (g : Bool) (a b : Nat) : mkRat (rz g a b) (rd b) = mkRat (iv g a) b := by
  unfold rz rd
  split
  · next h => rw [h, Rat.mkRat_zero]; exact Rat.zero_mkRat 1
  · rfl

def RetF (w : World) (z : Int) (d L K : Nat) (e : Ending) (w' : World) : Prop :=
  ∃ (g : Bool) (p : Option Addr) (n c : Nat) (X : List Nat) (q : Option Addr) (m k : Nat) (Y : List Nat), e = .returned (fw g p n c false q m k) ∧ Sl w' p n c X ∧ Sl w' q m k Y ∧ iv g (val X) = z ∧ val Y = d ∧ n ≤ L ∧ m ≤ K ∧ Fr [] w w'

set_option maxRecDepth 100000 in
set_option maxHeartbeats 1000000 in
theorem read_zero (g : Bool) (p q : Option Addr) (n c m d : Nat) (xs ys : List Nat) (w : World) (h1 : Sl w p n c xs) (h2 : Sl w q m d ys) (_hm : m ≤ 524287) (hy : val ys = 0) :
    Calls Tryz.prog 98 #[rw' g p n c q m d] w (RetF w 0 1 n (m + 1)) := by
  have hs : (iv false (val ys)).sign = 0 := by rw [hy]; rfl
  have HS := Lib.hid hs
  clear hs hy
  go_enter Tryz.func98, Tryz.ntmps98
  go_wp2_with fail
  have g_h1 := h1
  have g_h2 := h2
  have hw : Fr [] w (((w.alloc (Obj.cells #[.bool g, .slice p n c, .slice q m d] 26)).alloc (Obj.cells #[.bool false, .slice none 0 0, .bool false, .slice none 0 0] 75)).alloc (Obj.cells #[.bool false, .slice q m d] 24)) := (((Fr.refl _ _).alloc _).alloc _).alloc _
  have b0 : Bx (((w.alloc (Obj.cells #[.bool g, .slice p n c, .slice q m d] 26)).alloc (Obj.cells #[.bool false, .slice none 0 0, .bool false, .slice none 0 0] 75)).alloc (Obj.cells #[.bool false, .slice q m d] 24)) w.heap.size 26 #[.bool g, .slice p n c, .slice q m d] := (Bx.made' (by simp) _ _).kept (((Fr.refl _ _).alloc _).alloc _)
  have r0 : Bx (((w.alloc (Obj.cells #[.bool g, .slice p n c, .slice q m d] 26)).alloc (Obj.cells #[.bool false, .slice none 0 0, .bool false, .slice none 0 0] 75)).alloc (Obj.cells #[.bool false, .slice q m d] 24)) (w.heap.size + 1) 75 #[.bool false, .slice none 0 0, .bool false, .slice none 0 0] := (Bx.made' (by simp) _ _).kept ((Fr.refl _ _).alloc _)
  have b3 : Bx (((w.alloc (Obj.cells #[.bool g, .slice p n c, .slice q m d] 26)).alloc (Obj.cells #[.bool false, .slice none 0 0, .bool false, .slice none 0 0] 75)).alloc (Obj.cells #[.bool false, .slice q m d] 24)) (w.heap.size + 2) 24 #[.bool false, .slice q m d] := (Bx.made' (by simp) _ _).kept (Fr.refl _ _)
  generalize (((w.alloc (Obj.cells #[.bool g, .slice p n c, .slice q m d] 26)).alloc (Obj.cells #[.bool false, .slice none 0 0, .bool false, .slice none 0 0] 75)).alloc (Obj.cells #[.bool false, .slice q m d] 24)) = W at *
  have hbs := b3.lt
  replace h1 := h1.kept hw
  replace h2 := h2.kept hw
  have c_b0_0 := b0.cell (j := 0) rfl
  have f_b0_0 := b0.free 0
  have c_b0_1 := b0.cell (j := 1) rfl
  have f_b0_1 := b0.free 1
  have c_b0_2 := b0.cell (j := 2) rfl
  have f_b0_2 := b0.free 2
  have c_r0_0 := r0.cell (j := 0) rfl
  have f_r0_0 := r0.free 0
  have c_r0_1 := r0.cell (j := 1) rfl
  have f_r0_1 := r0.free 1
  have c_r0_2 := r0.cell (j := 2) rfl
  have f_r0_2 := r0.free 2
  have c_r0_3 := r0.cell (j := 3) rfl
  have f_r0_3 := r0.free 3
  have c_b3_0 := b3.cell (j := 0) rfl
  have f_b3_0 := b3.free 0
  have c_b3_1 := b3.cell (j := 1) rfl
  have f_b3_1 := b3.free 1
  go_wp2_with fail
  clear c_b0_0 f_b0_0 c_b0_1 f_b0_1 c_b0_2 f_b0_2 c_r0_0 f_r0_0 c_r0_1 f_r0_1 c_r0_2 f_r0_2 c_r0_3 f_r0_3 c_b3_0 f_b3_0 c_b3_1 f_b3_1
  refine (isign_any false _ _ _ ys _ h2 (by omega)).mono ?_
  rw [HS.out]
  rintro e V1 ⟨rfl, ff⟩
  have hsz1 := ff.size
  replace hw := hw.trans ff (by simp)
  replace h1 := h1.kept ff
  replace h2 := h2.kept ff
  replace b0 := b0.kept ff
  replace r0 := r0.kept ff
  replace b3 := b3.kept ff
  clear ff
  have c_b0_0 := b0.cell (j := 0) rfl
  have f_b0_0 := b0.free 0
  have c_b0_1 := b0.cell (j := 1) rfl
  have f_b0_1 := b0.free 1
  have c_b0_2 := b0.cell (j := 2) rfl
  have f_b0_2 := b0.free 2
  have c_r0_0 := r0.cell (j := 0) rfl
  have f_r0_0 := r0.free 0
  have c_r0_1 := r0.cell (j := 1) rfl
  have f_r0_1 := r0.free 1
  have c_r0_2 := r0.cell (j := 2) rfl
  have f_r0_2 := r0.free 2
  have c_r0_3 := r0.cell (j := 3) rfl
  have f_r0_3 := r0.free 3
  have c_b3_0 := b3.cell (j := 0) rfl
  have f_b3_0 := b3.free 0
  have c_b3_1 := b3.cell (j := 1) rfl
  have f_b3_1 := b3.free 1
  go_wp2_with fail
  clear c_b0_0 f_b0_0 c_b0_1 f_b0_1 c_b0_2 f_b0_2 c_r0_0 f_r0_0 c_r0_1 f_r0_1 c_r0_2 f_r0_2 c_r0_3 f_r0_3 c_b3_0 f_b3_0 c_b3_1 f_b3_1
  refine (of_zero _).mono ?_
  rintro e V2 ⟨pa, ca, rfl, oa, ff⟩
  have hsz2 := ff.size
  replace hw := hw.trans ff (by simp)
  replace h1 := h1.kept ff
  replace h2 := h2.kept ff
  replace b0 := b0.kept ff
  replace r0 := r0.kept ff
  replace b3 := b3.kept ff
  clear ff
  have c_b0_0 := b0.cell (j := 0) rfl
  have f_b0_0 := b0.free 0
  have c_b0_1 := b0.cell (j := 1) rfl
  have f_b0_1 := b0.free 1
  have c_b0_2 := b0.cell (j := 2) rfl
  have f_b0_2 := b0.free 2
  have c_r0_0 := r0.cell (j := 0) rfl
  have f_r0_0 := r0.free 0
  have c_r0_1 := r0.cell (j := 1) rfl
  have f_r0_1 := r0.free 1
  have c_r0_2 := r0.cell (j := 2) rfl
  have f_r0_2 := r0.free 2
  have c_r0_3 := r0.cell (j := 3) rfl
  have f_r0_3 := r0.free 3
  have c_b3_0 := b3.cell (j := 0) rfl
  have f_b3_0 := b3.free 0
  have c_b3_1 := b3.cell (j := 1) rfl
  have f_b3_1 := b3.free 1
  go_wp2_with fail
  clear c_b0_0 f_b0_0 c_b0_1 f_b0_1 c_b0_2 f_b0_2 c_r0_0 f_r0_0 c_r0_1 f_r0_1 c_r0_2 f_r0_2 c_r0_3 f_r0_3 c_b3_0 f_b3_0 c_b3_1 f_b3_1
  refine (whole_any _ _ _ _ _).mono ?_
  rintro e V3 ⟨pb, cb, rfl, ob, ff⟩
  have hsz3 := ff.size
  replace hw := hw.trans ff (by simp)
  replace h1 := h1.kept ff
  replace h2 := h2.kept ff
  replace oa := oa.kept ff
  replace b0 := b0.kept ff
  replace r0 := r0.kept ff
  replace b3 := b3.kept ff
  clear ff
  have c_b0_0 := b0.cell (j := 0) rfl
  have f_b0_0 := b0.free 0
  have c_b0_1 := b0.cell (j := 1) rfl
  have f_b0_1 := b0.free 1
  have c_b0_2 := b0.cell (j := 2) rfl
  have f_b0_2 := b0.free 2
  have c_r0_0 := r0.cell (j := 0) rfl
  have f_r0_0 := r0.free 0
  have c_r0_1 := r0.cell (j := 1) rfl
  have f_r0_1 := r0.free 1
  have c_r0_2 := r0.cell (j := 2) rfl
  have f_r0_2 := r0.free 2
  have c_r0_3 := r0.cell (j := 3) rfl
  have f_r0_3 := r0.free 3
  have c_b3_0 := b3.cell (j := 0) rfl
  have f_b3_0 := b3.free 0
  have c_b3_1 := b3.cell (j := 1) rfl
  have f_b3_1 := b3.free 1
  go_wp2_with fail
  exact fin4 r0 hw (by omega) rfl (fun W' c0 c1 c2 c3 => by simp [results, Tryz.results98, go_sem, c0, c1, c2, c3]) (fun W' fb fw => ⟨false, pa, 0, ca, [], pb, 1, cb, [1], rfl, (oa.far fb (by omega)).sl, (ob.far fb (by omega)).sl, rfl, rfl, by omega, by omega, fw⟩)

set_option maxRecDepth 100000 in
set_option maxHeartbeats 1000000 in
theorem read_pos (g : Bool) (p q : Option Addr) (n c m d : Nat) (xs ys : List Nat) (w : World) (h1 : Sl w p n c xs) (h2 : Sl w q m d ys) (_hm : m ≤ 524287) (hy : val ys ≠ 0) :
    Calls Tryz.prog 98 #[rw' g p n c q m d] w (RetF w (iv g (val xs)) (val ys) n (m + 1)) := by
  have hs := sign_ne false hy
  obtain ⟨sg, hsgn⟩ : ∃ z, (iv false (val ys)).sign = z := ⟨_, rfl⟩
  rw [hsgn] at hs
  have HSN := Lib.hid hsgn
  clear hsgn hy
  go_enter Tryz.func98, Tryz.ntmps98
  go_wp2_with fail
  have g_h1 := h1
  have g_h2 := h2
  have hw : Fr [] w (((w.alloc (Obj.cells #[.bool g, .slice p n c, .slice q m d] 26)).alloc (Obj.cells #[.bool false, .slice none 0 0, .bool false, .slice none 0 0] 75)).alloc (Obj.cells #[.bool false, .slice q m d] 24)) := (((Fr.refl _ _).alloc _).alloc _).alloc _
  have b0 : Bx (((w.alloc (Obj.cells #[.bool g, .slice p n c, .slice q m d] 26)).alloc (Obj.cells #[.bool false, .slice none 0 0, .bool false, .slice none 0 0] 75)).alloc (Obj.cells #[.bool false, .slice q m d] 24)) w.heap.size 26 #[.bool g, .slice p n c, .slice q m d] := (Bx.made' (by simp) _ _).kept (((Fr.refl _ _).alloc _).alloc _)
  have r0 : Bx (((w.alloc (Obj.cells #[.bool g, .slice p n c, .slice q m d] 26)).alloc (Obj.cells #[.bool false, .slice none 0 0, .bool false, .slice none 0 0] 75)).alloc (Obj.cells #[.bool false, .slice q m d] 24)) (w.heap.size + 1) 75 #[.bool false, .slice none 0 0, .bool false, .slice none 0 0] := (Bx.made' (by simp) _ _).kept ((Fr.refl _ _).alloc _)
  have b3 : Bx (((w.alloc (Obj.cells #[.bool g, .slice p n c, .slice q m d] 26)).alloc (Obj.cells #[.bool false, .slice none 0 0, .bool false, .slice none 0 0] 75)).alloc (Obj.cells #[.bool false, .slice q m d] 24)) (w.heap.size + 2) 24 #[.bool false, .slice q m d] := (Bx.made' (by simp) _ _).kept (Fr.refl _ _)
  generalize (((w.alloc (Obj.cells #[.bool g, .slice p n c, .slice q m d] 26)).alloc (Obj.cells #[.bool false, .slice none 0 0, .bool false, .slice none 0 0] 75)).alloc (Obj.cells #[.bool false, .slice q m d] 24)) = W at *
  have hbs := b3.lt
  replace h1 := h1.kept hw
  replace h2 := h2.kept hw
  have c_b0_0 := b0.cell (j := 0) rfl
  have f_b0_0 := b0.free 0
  have c_b0_1 := b0.cell (j := 1) rfl
  have f_b0_1 := b0.free 1
  have c_b0_2 := b0.cell (j := 2) rfl
  have f_b0_2 := b0.free 2
  have c_r0_0 := r0.cell (j := 0) rfl
  have f_r0_0 := r0.free 0
  have c_r0_1 := r0.cell (j := 1) rfl
  have f_r0_1 := r0.free 1
  have c_r0_2 := r0.cell (j := 2) rfl
  have f_r0_2 := r0.free 2
  have c_r0_3 := r0.cell (j := 3) rfl
  have f_r0_3 := r0.free 3
  have c_b3_0 := b3.cell (j := 0) rfl
  have f_b3_0 := b3.free 0
  have c_b3_1 := b3.cell (j := 1) rfl
  have f_b3_1 := b3.free 1
  go_wp2_with fail
  clear c_b0_0 f_b0_0 c_b0_1 f_b0_1 c_b0_2 f_b0_2 c_r0_0 f_r0_0 c_r0_1 f_r0_1 c_r0_2 f_r0_2 c_r0_3 f_r0_3 c_b3_0 f_b3_0 c_b3_1 f_b3_1
  refine (isign_any false _ _ _ ys _ h2 (by omega)).mono ?_
  rw [HSN.out]
  rintro e V1 ⟨rfl, ff⟩
  have hsz1 := ff.size
  replace hw := hw.trans ff (by simp)
  replace h1 := h1.kept ff
  replace h2 := h2.kept ff
  replace b0 := b0.kept ff
  replace r0 := r0.kept ff
  replace b3 := b3.kept ff
  clear ff
  have c_b0_0 := b0.cell (j := 0) rfl
  have f_b0_0 := b0.free 0
  have c_b0_1 := b0.cell (j := 1) rfl
  have f_b0_1 := b0.free 1
  have c_b0_2 := b0.cell (j := 2) rfl
  have f_b0_2 := b0.free 2
  have c_r0_0 := r0.cell (j := 0) rfl
  have f_r0_0 := r0.free 0
  have c_r0_1 := r0.cell (j := 1) rfl
  have f_r0_1 := r0.free 1
  have c_r0_2 := r0.cell (j := 2) rfl
  have f_r0_2 := r0.free 2
  have c_r0_3 := r0.cell (j := 3) rfl
  have f_r0_3 := r0.free 3
  have c_b3_0 := b3.cell (j := 0) rfl
  have f_b3_0 := b3.free 0
  have c_b3_1 := b3.cell (j := 1) rfl
  have f_b3_1 := b3.free 1
  go_wp2_with fail
  exact fin4 r0 hw (by omega) rfl (fun W' c0 c1 c2 c3 => by simp [results, Tryz.results98, go_sem, c0, c1, c2, c3]) (fun W' fb fw => ⟨g, p, n, c, xs, q, m, d, ys, rfl, g_h1.kept fw, g_h2.kept fw, rfl, rfl, by omega, by omega, fw⟩)

theorem read_any (g : Bool) (p q : Option Addr) (n c m d : Nat) (xs ys : List Nat) (w : World) (h1 : Sl w p n c xs) (h2 : Sl w q m d ys) (hm : m ≤ 524287) :
    Calls Tryz.prog 98 #[rw' g p n c q m d] w (RetF w (rz g (val xs) (val ys)) (rd (val ys)) n (m + 1)) := by
  by_cases hy : val ys = 0
  · have e1 : rz g (val xs) (val ys) = 0 := if_pos hy
    have e2 : rd (val ys) = 1 := if_pos hy
    rw [e1, e2]
    exact read_zero g p q n c m d xs ys w h1 h2 hm hy
  · have e1 : rz g (val xs) (val ys) = iv g (val xs) := if_neg hy
    have e2 : rd (val ys) = val ys := if_neg hy
    rw [e1, e2]
    exact read_pos g p q n c m d xs ys w h1 h2 hm hy

set_option maxRecDepth 100000 in
set_option maxHeartbeats 1000000 in
theorem negation_any (L K : Nat) (g : Bool) (p q : Option Addr) (n c m d : Nat) (xs ys : List Nat) (w : World) (h1 : Sl w p n c xs) (h2 : Sl w q m d ys) (_hn : n ≤ 524287) (_hL : n ≤ L) (hK : m ≤ K) :
    Calls Tryz.prog 113 #[fw g p n c false q m d] w (RetF w (-(iv g (val xs))) (val ys) L K) := by
  obtain ⟨s, hs⟩ : ∃ s, decide (-(iv g (val xs)) < 0) = s := ⟨_, rfl⟩
  have hv : iv s (val (dg (val xs))) = -(iv g (val xs)) := by rw [val_dg]; exact iv_eq hs (by rw [Int.natAbs_neg, iv_abs])
  have l1 := dg_len_val h1.dig
  rw [h1.len] at l1
  have HS := Lib.hid hs
  have HV := Lib.hid hv
  clear hs hv
  go_enter Tryz.func113, Tryz.ntmps113
  go_wp2_with fail
  have g_h1 := h1
  have g_h2 := h2
  have hw : Fr [] w ((w.alloc (Obj.cells #[.bool g, .slice p n c, .bool false, .slice q m d] 75)).alloc (Obj.cells #[.bool false, .slice none 0 0, .bool false, .slice none 0 0] 75)) := ((Fr.refl _ _).alloc _).alloc _
  have b0 : Bx ((w.alloc (Obj.cells #[.bool g, .slice p n c, .bool false, .slice q m d] 75)).alloc (Obj.cells #[.bool false, .slice none 0 0, .bool false, .slice none 0 0] 75)) w.heap.size 75 #[.bool g, .slice p n c, .bool false, .slice q m d] := (Bx.made' (by simp) _ _).kept ((Fr.refl _ _).alloc _)
  have r0 : Bx ((w.alloc (Obj.cells #[.bool g, .slice p n c, .bool false, .slice q m d] 75)).alloc (Obj.cells #[.bool false, .slice none 0 0, .bool false, .slice none 0 0] 75)) (w.heap.size + 1) 75 #[.bool false, .slice none 0 0, .bool false, .slice none 0 0] := (Bx.made' (by simp) _ _).kept (Fr.refl _ _)
  generalize ((w.alloc (Obj.cells #[.bool g, .slice p n c, .bool false, .slice q m d] 75)).alloc (Obj.cells #[.bool false, .slice none 0 0, .bool false, .slice none 0 0] 75)) = W at *
  have hbs := r0.lt
  replace h1 := h1.kept hw
  replace h2 := h2.kept hw
  have Hw := hw.drew
  have hu0 := ((Fr.refl [] W).drew).size
  have Nh1 := h1.kept (Fr.refl [] W).drew
  have Nh2 := h2.kept (Fr.refl [] W).drew
  have Nb0 := b0.kept (Fr.refl [] W).drew
  have Nr0 := r0.kept (Fr.refl [] W).drew
  go_region_held3 (fun w' => w'.cell? ⟨w.heap.size, 0, none⟩ = some (.bool g) ∧ w'.cell? ⟨w.heap.size, 1, none⟩ = some (.slice p n c) ∧ w'.cell? ⟨w.heap.size, 2, none⟩ = some (.bool false) ∧ w'.cell? ⟨w.heap.size, 3, none⟩ = some (.slice q m d)) (first | exact ⟨Nb0.cell (j := 0) rfl, Nb0.cell (j := 1) rfl, Nb0.cell (j := 2) rfl, Nb0.cell (j := 3) rfl⟩ | exact ⟨(Nb0.keep (S := [(w.heap.size + 1)]) (bset4_fr _ (w.heap.size + 1) _ _ _ _) (by simp; try omega)).cell (j := 0) rfl, (Nb0.keep (S := [(w.heap.size + 1)]) (bset4_fr _ (w.heap.size + 1) _ _ _ _) (by simp; try omega)).cell (j := 1) rfl, (Nb0.keep (S := [(w.heap.size + 1)]) (bset4_fr _ (w.heap.size + 1) _ _ _ _) (by simp; try omega)).cell (j := 2) rfl, (Nb0.keep (S := [(w.heap.size + 1)]) (bset4_fr _ (w.heap.size + 1) _ _ _ _) (by simp; try omega)).cell (j := 3) rfl⟩)
    (first
    | (go_at_call 119; (with_reducible refine (calls_ri (b := s) (m := val xs) (ineg_any g _ _ _ xs _ Nh1 (by omega)) HS.out (by rw [Int.natAbs_neg, iv_abs])).mono ?_); rintro e U1 ⟨p1, c1, rfl, o1, ff⟩; have hu1 := ff.size; replace Hw := Hw.trans ff (by simp); replace Nh1 := Nh1.kept ff; replace Nh2 := Nh2.kept ff; replace Nb0 := Nb0.kept ff; replace Nr0 := Nr0.kept ff; clear ff; have m_b0_0 := Nb0.cell (j := 0) rfl; have q_b0_0 := Nb0.free 0; have m_b0_1 := Nb0.cell (j := 1) rfl; have q_b0_1 := Nb0.free 1; have m_b0_2 := Nb0.cell (j := 2) rfl; have q_b0_2 := Nb0.free 2; have m_b0_3 := Nb0.cell (j := 3) rfl; have q_b0_3 := Nb0.free 3; have m_r0_0 := Nr0.cell (j := 0) rfl; have q_r0_0 := Nr0.free 0; have m_r0_1 := Nr0.cell (j := 1) rfl; have q_r0_1 := Nr0.free 1; have m_r0_2 := Nr0.cell (j := 2) rfl; have q_r0_2 := Nr0.free 2; have m_r0_3 := Nr0.cell (j := 3) rfl; have q_r0_3 := Nr0.free 3))
  go_wp2_with fail
  exact fin4 Nr0 Hw (by omega) rfl (fun W' c0 c1 c2 c3 => by simp [results, Tryz.results113, go_sem, c0, c1, c2, c3]) (fun W' fb fw => ⟨s, p1, _, c1, _, q, m, d, ys, rfl, (o1.far fb (by omega)).sl, g_h2.kept fw, HV.out, rfl, by omega, hK, fw⟩)

set_option maxRecDepth 100000 in
set_option maxHeartbeats 1000000 in
theorem plus_same (L K : Nat) (g h : Bool) (p q p' q' : Option Addr) (n c m d n' c' m' d' : Nat) (xs ys xs' ys' : List Nat) (w : World) (h1 : Sl w p n c xs) (h2 : Sl w q m d ys) (h3 : Sl w p' n' c' xs') (h4 : Sl w q' m' d' ys') (_hn : n ≤ 524287) (_hm : m ≤ 524287) (_hn' : n' ≤ 524287) (_hm' : m' ≤ 524287) (_hL : n + n' + 1 ≤ L) (hK : m ≤ K) (hd : val ys = val ys') :
    Calls Tryz.prog 117 #[fw g p n c false q m d, fw h p' n' c' false q' m' d'] w (RetF w (iv g (val xs) + iv h (val xs')) (val ys) L K) := by
  have l1 := dg_len_val h1.dig
  rw [h1.len] at l1
  have l2 := dg_len_val h2.dig
  rw [h2.len] at l2
  have l3 := dg_len_val h3.dig
  rw [h3.len] at l3
  have l4 := dg_len_val h4.dig
  rw [h4.len] at l4
  obtain ⟨z, hz⟩ : ∃ z, iv g (val xs) + iv h (val xs') = z := ⟨_, rfl⟩
  obtain ⟨s, hs⟩ : ∃ s, decide (z < 0) = s := ⟨_, rfl⟩
  obtain ⟨M, hM⟩ : ∃ M, z.natAbs = M := ⟨_, rfl⟩
  have lz : (dg M).length ≤ n + n' + 1 := by
    have e := len_add (iv g (val xs)) (iv h (val xs'))
    rw [hz, hM, iv_abs, iv_abs] at e
    omega
  have hv : iv s (val (dg M)) = z := by rw [val_dg]; exact iv_eq hs hM
  have hc : cmpZ (iv false (val ys)) (iv false (val ys')) = 0 := by rw [hd]; exact cmpZ_refl _
  rw [hz]
  have HZ := Lib.hid hz
  have HS := Lib.hid hs
  have HM := Lib.hid hM
  have HV := Lib.hid hv
  have HC := Lib.hid hc
  clear hz hs hM hv hc hd
  go_enter Tryz.func117, Tryz.ntmps117
  go_wp2_with fail
  have g_h1 := h1
  have g_h2 := h2
  have g_h3 := h3
  have g_h4 := h4
  have hw : Fr [] w (((w.alloc (Obj.cells #[.bool g, .slice p n c, .bool false, .slice q m d] 75)).alloc (Obj.cells #[.bool h, .slice p' n' c', .bool false, .slice q' m' d'] 75)).alloc (Obj.cells #[.bool false, .slice none 0 0, .bool false, .slice none 0 0] 75)) := (((Fr.refl _ _).alloc _).alloc _).alloc _
  have b0 : Bx (((w.alloc (Obj.cells #[.bool g, .slice p n c, .bool false, .slice q m d] 75)).alloc (Obj.cells #[.bool h, .slice p' n' c', .bool false, .slice q' m' d'] 75)).alloc (Obj.cells #[.bool false, .slice none 0 0, .bool false, .slice none 0 0] 75)) w.heap.size 75 #[.bool g, .slice p n c, .bool false, .slice q m d] := (Bx.made' (by simp) _ _).kept (((Fr.refl _ _).alloc _).alloc _)
  have b1 : Bx (((w.alloc (Obj.cells #[.bool g, .slice p n c, .bool false, .slice q m d] 75)).alloc (Obj.cells #[.bool h, .slice p' n' c', .bool false, .slice q' m' d'] 75)).alloc (Obj.cells #[.bool false, .slice none 0 0, .bool false, .slice none 0 0] 75)) (w.heap.size + 1) 75 #[.bool h, .slice p' n' c', .bool false, .slice q' m' d'] := (Bx.made' (by simp) _ _).kept ((Fr.refl _ _).alloc _)
  have r0 : Bx (((w.alloc (Obj.cells #[.bool g, .slice p n c, .bool false, .slice q m d] 75)).alloc (Obj.cells #[.bool h, .slice p' n' c', .bool false, .slice q' m' d'] 75)).alloc (Obj.cells #[.bool false, .slice none 0 0, .bool false, .slice none 0 0] 75)) (w.heap.size + 2) 75 #[.bool false, .slice none 0 0, .bool false, .slice none 0 0] := (Bx.made' (by simp) _ _).kept (Fr.refl _ _)
  generalize (((w.alloc (Obj.cells #[.bool g, .slice p n c, .bool false, .slice q m d] 75)).alloc (Obj.cells #[.bool h, .slice p' n' c', .bool false, .slice q' m' d'] 75)).alloc (Obj.cells #[.bool false, .slice none 0 0, .bool false, .slice none 0 0] 75)) = W at *
  have hbs := r0.lt
  replace h1 := h1.kept hw
  replace h2 := h2.kept hw
  replace h3 := h3.kept hw
  replace h4 := h4.kept hw
  have c_b0_0 := b0.cell (j := 0) rfl
  have f_b0_0 := b0.free 0
  have c_b0_1 := b0.cell (j := 1) rfl
  have f_b0_1 := b0.free 1
  have c_b0_2 := b0.cell (j := 2) rfl
  have f_b0_2 := b0.free 2
  have c_b0_3 := b0.cell (j := 3) rfl
  have f_b0_3 := b0.free 3
  have c_b1_0 := b1.cell (j := 0) rfl
  have f_b1_0 := b1.free 0
  have c_b1_1 := b1.cell (j := 1) rfl
  have f_b1_1 := b1.free 1
  have c_b1_2 := b1.cell (j := 2) rfl
  have f_b1_2 := b1.free 2
  have c_b1_3 := b1.cell (j := 3) rfl
  have f_b1_3 := b1.free 3
  have c_r0_0 := r0.cell (j := 0) rfl
  have f_r0_0 := r0.free 0
  have c_r0_1 := r0.cell (j := 1) rfl
  have f_r0_1 := r0.free 1
  have c_r0_2 := r0.cell (j := 2) rfl
  have f_r0_2 := r0.free 2
  have c_r0_3 := r0.cell (j := 3) rfl
  have f_r0_3 := r0.free 3
  go_wp2_with fail
  clear c_b0_0 f_b0_0 c_b0_1 f_b0_1 c_b0_2 f_b0_2 c_b0_3 f_b0_3 c_b1_0 f_b1_0 c_b1_1 f_b1_1 c_b1_2 f_b1_2 c_b1_3 f_b1_3 c_r0_0 f_r0_0 c_r0_1 f_r0_1 c_r0_2 f_r0_2 c_r0_3 f_r0_3
  refine (icmp_any false false _ _ _ _ _ _ ys ys' _ h2 h4 (by omega) (by omega)).mono ?_
  rw [HC.out]
  rintro e V1 ⟨rfl, ff⟩
  have hsz1 := ff.size
  replace hw := hw.trans ff (by simp)
  replace h1 := h1.kept ff
  replace h2 := h2.kept ff
  replace h3 := h3.kept ff
  replace h4 := h4.kept ff
  replace b0 := b0.kept ff
  replace b1 := b1.kept ff
  replace r0 := r0.kept ff
  clear ff
  have c_b0_0 := b0.cell (j := 0) rfl
  have f_b0_0 := b0.free 0
  have c_b0_1 := b0.cell (j := 1) rfl
  have f_b0_1 := b0.free 1
  have c_b0_2 := b0.cell (j := 2) rfl
  have f_b0_2 := b0.free 2
  have c_b0_3 := b0.cell (j := 3) rfl
  have f_b0_3 := b0.free 3
  have c_b1_0 := b1.cell (j := 0) rfl
  have f_b1_0 := b1.free 0
  have c_b1_1 := b1.cell (j := 1) rfl
  have f_b1_1 := b1.free 1
  have c_b1_2 := b1.cell (j := 2) rfl
  have f_b1_2 := b1.free 2
  have c_b1_3 := b1.cell (j := 3) rfl
  have f_b1_3 := b1.free 3
  have c_r0_0 := r0.cell (j := 0) rfl
  have f_r0_0 := r0.free 0
  have c_r0_1 := r0.cell (j := 1) rfl
  have f_r0_1 := r0.free 1
  have c_r0_2 := r0.cell (j := 2) rfl
  have f_r0_2 := r0.free 2
  have c_r0_3 := r0.cell (j := 3) rfl
  have f_r0_3 := r0.free 3
  go_wp2_with fail
  clear c_b0_0 f_b0_0 c_b0_1 f_b0_1 c_b0_2 f_b0_2 c_b0_3 f_b0_3 c_b1_0 f_b1_0 c_b1_1 f_b1_1 c_b1_2 f_b1_2 c_b1_3 f_b1_3 c_r0_0 f_r0_0 c_r0_1 f_r0_1 c_r0_2 f_r0_2 c_r0_3 f_r0_3
  have Hw := hw.drew
  have hu0 := ((Fr.refl [] V1).drew).size
  have Nh1 := h1.kept (Fr.refl [] V1).drew
  have Nh2 := h2.kept (Fr.refl [] V1).drew
  have Nh3 := h3.kept (Fr.refl [] V1).drew
  have Nh4 := h4.kept (Fr.refl [] V1).drew
  have Nb0 := b0.kept (Fr.refl [] V1).drew
  have Nb1 := b1.kept (Fr.refl [] V1).drew
  have Nr0 := r0.kept (Fr.refl [] V1).drew
  go_region_held3 (fun w' => w'.cell? ⟨w.heap.size, 0, none⟩ = some (.bool g) ∧ w'.cell? ⟨w.heap.size, 1, none⟩ = some (.slice p n c) ∧ w'.cell? ⟨w.heap.size, 2, none⟩ = some (.bool false) ∧ w'.cell? ⟨w.heap.size, 3, none⟩ = some (.slice q m d) ∧ w'.cell? ⟨w.heap.size + 1, 0, none⟩ = some (.bool h) ∧ w'.cell? ⟨w.heap.size + 1, 1, none⟩ = some (.slice p' n' c')) (first | exact ⟨Nb0.cell (j := 0) rfl, Nb0.cell (j := 1) rfl, Nb0.cell (j := 2) rfl, Nb0.cell (j := 3) rfl, Nb1.cell (j := 0) rfl, Nb1.cell (j := 1) rfl⟩ | exact ⟨(Nb0.keep (S := [(w.heap.size + 2)]) (bset4_fr _ (w.heap.size + 2) _ _ _ _) (by simp; try omega)).cell (j := 0) rfl, (Nb0.keep (S := [(w.heap.size + 2)]) (bset4_fr _ (w.heap.size + 2) _ _ _ _) (by simp; try omega)).cell (j := 1) rfl, (Nb0.keep (S := [(w.heap.size + 2)]) (bset4_fr _ (w.heap.size + 2) _ _ _ _) (by simp; try omega)).cell (j := 2) rfl, (Nb0.keep (S := [(w.heap.size + 2)]) (bset4_fr _ (w.heap.size + 2) _ _ _ _) (by simp; try omega)).cell (j := 3) rfl, (Nb1.keep (S := [(w.heap.size + 2)]) (bset4_fr _ (w.heap.size + 2) _ _ _ _) (by simp; try omega)).cell (j := 0) rfl, (Nb1.keep (S := [(w.heap.size + 2)]) (bset4_fr _ (w.heap.size + 2) _ _ _ _) (by simp; try omega)).cell (j := 1) rfl⟩)
    (first
    | (go_at_call 166; (with_reducible refine (calls_ri (b := s) (m := M) (iadd_any g h _ _ _ _ _ _ xs xs' _ Nh1 Nh3 (by omega) (by omega)) (by rw [HZ.out]; exact HS.out) (by rw [HZ.out]; exact HM.out)).mono ?_); rintro e U1 ⟨p1, c1, rfl, o1, ff⟩; have hu1 := ff.size; replace Hw := Hw.trans ff (by simp); replace Nh1 := Nh1.kept ff; replace Nh2 := Nh2.kept ff; replace Nh3 := Nh3.kept ff; replace Nh4 := Nh4.kept ff; replace Nb0 := Nb0.kept ff; replace Nb1 := Nb1.kept ff; replace Nr0 := Nr0.kept ff; clear ff; have m_b0_0 := Nb0.cell (j := 0) rfl; have q_b0_0 := Nb0.free 0; have m_b0_1 := Nb0.cell (j := 1) rfl; have q_b0_1 := Nb0.free 1; have m_b0_2 := Nb0.cell (j := 2) rfl; have q_b0_2 := Nb0.free 2; have m_b0_3 := Nb0.cell (j := 3) rfl; have q_b0_3 := Nb0.free 3; have m_b1_0 := Nb1.cell (j := 0) rfl; have q_b1_0 := Nb1.free 0; have m_b1_1 := Nb1.cell (j := 1) rfl; have q_b1_1 := Nb1.free 1; have m_b1_2 := Nb1.cell (j := 2) rfl; have q_b1_2 := Nb1.free 2; have m_b1_3 := Nb1.cell (j := 3) rfl; have q_b1_3 := Nb1.free 3; have m_r0_0 := Nr0.cell (j := 0) rfl; have q_r0_0 := Nr0.free 0; have m_r0_1 := Nr0.cell (j := 1) rfl; have q_r0_1 := Nr0.free 1; have m_r0_2 := Nr0.cell (j := 2) rfl; have q_r0_2 := Nr0.free 2; have m_r0_3 := Nr0.cell (j := 3) rfl; have q_r0_3 := Nr0.free 3))
  go_wp2_with fail
  exact fin4 Nr0 Hw (by omega) rfl (fun W' c0 c1 c2 c3 => by simp [results, Tryz.results117, go_sem, c0, c1, c2, c3]) (fun W' fb fw => ⟨s, p1, _, c1, _, q, m, d, ys, rfl, (o1.far fb (by omega)).sl, g_h2.kept fw, HV.out, rfl, by omega, hK, fw⟩)

end Go.Proofs.YtjjdbhohjphcoaaGreatDoor
