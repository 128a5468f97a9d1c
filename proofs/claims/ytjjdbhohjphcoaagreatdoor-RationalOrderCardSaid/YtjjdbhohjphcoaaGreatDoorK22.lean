/- What the statements of this claim stand on: of Rat5, Rat6, Rat7, Rat8, what they name -/
import Derived.Test.YtjjdbhohjphcoaaGreatDoorK21

namespace Go.Proofs.YtjjdbhohjphcoaaGreatDoor
open Go.RowKit

def RetG (w : World) (r : Rat) (L K : Nat) (e : Ending) (w' : World) : Prop :=
  ∃ (g : Bool) (p : Option Addr) (n c : Nat) (X : List Nat) (q : Option Addr) (m k : Nat) (Y : List Nat), e = .returned (fw g p n c false q m k) ∧ Sl w' p n c X ∧ Sl w' q m k Y ∧ mkRat (iv g (val X)) (val Y) = r ∧ val Y ≠ 0 ∧ n ≤ L ∧ m ≤ K ∧ Fr [] w w'

theorem retg_of {w : World} {z : Int} {d L K : Nat} {r : Rat} (hr : mkRat z d = r) (hd : d ≠ 0) {e : Ending} {w' : World} (h : RetF w z d L K e w') : RetG w r L K e w' := by
  obtain ⟨g, p, n, c, X, q, m, k, Y, rfl, s1, s2, rfl, rfl, l1, l2, f⟩ := h
  exact ⟨g, p, n, c, X, q, m, k, Y, rfl, s1, s2, hr, hd, l1, l2, f⟩

theorem read_g (g : Bool) (p q : Option Addr) (n c m d : Nat) (xs ys : List Nat) (w : World) (h1 : Sl w p n c xs) (h2 : Sl w q m d ys) (hm : m ≤ 524287) :
    Calls Tryz.prog 98 #[rw' g p n c q m d] w (RetG w (mkRat (iv g (val xs)) (val ys)) n (m + 1)) :=
  (read_any g p q n c m d xs ys w h1 h2 hm).mono fun _ _ h => retg_of (mk_read _ _ _) (rd_ne _) h

theorem negation_g (L K : Nat) {r : Rat} (g : Bool) (p q : Option Addr) (n c m d : Nat) (xs ys : List Nat) (w : World) (h1 : Sl w p n c xs) (h2 : Sl w q m d ys) (hr : mkRat (iv g (val xs)) (val ys) = r) (hy : val ys ≠ 0) (hn : n ≤ 524287) (hL : n ≤ L) (hK : m ≤ K) :
    Calls Tryz.prog 113 #[fw g p n c false q m d] w (RetG w (-r) L K) :=
  (negation_any L K g p q n c m d xs ys w h1 h2 hn hL hK).mono fun _ _ h => retg_of (by rw [← hr, Rat.neg_mkRat]) hy h

theorem plus_g (L K : Nat) {r s : Rat} (g h : Bool) (p q p' q' : Option Addr) (n c m d n' c' m' d' : Nat) (xs ys xs' ys' : List Nat) (w : World) (h1 : Sl w p n c xs) (h2 : Sl w q m d ys) (h3 : Sl w p' n' c' xs') (h4 : Sl w q' m' d' ys') (hr : mkRat (iv g (val xs)) (val ys) = r) (hy : val ys ≠ 0) (hs : mkRat (iv h (val xs')) (val ys') = s) (hy' : val ys' ≠ 0) (hn : n ≤ 524287) (hm : m ≤ 524287) (hn' : n' ≤ 524287) (hm' : m' ≤ 524287) (hL : n + m' + (n' + m) + 1 ≤ L) (hK : m + m' ≤ K) :
    Calls Tryz.prog 117 #[fw g p n c false q m d, fw h p' n' c' false q' m' d'] w (RetG w (r + s) L K) :=
  (plus_any L K g h p q p' q' n c m d n' c' m' d' xs ys xs' ys' w h1 h2 h3 h4 hn hm hn' hm' hL hK hy hy').mono fun _ _ ⟨z, D, r1, hD, e⟩ => retg_of (by rw [e, hr, hs]) hD r1

theorem result_g {r : Rat} (g : Bool) (p q : Option Addr) (n c m d : Nat) (xs ys : List Nat) (w : World) (ht : Tab w) (h1 : Sl w p n c xs) (h2 : Sl w q m d ys) (hr : mkRat (iv g (val xs)) (val ys) = r) (hy : val ys ≠ 0) (hn : n ≤ 524287) (hm : m ≤ 524287) :
    Calls Tryz.prog 112 #[fw g p n c false q m d] w (RetQ w r) := by
  rw [← hr]; exact result_any g p q n c m d xs ys w ht h1 h2 hn hm hy

set_option maxRecDepth 100000 in
set_option maxHeartbeats 1000000 in
theorem add_q (g h : Bool) (p q p' q' : Option Addr) (n c m d n' c' m' d' : Nat) (xs ys xs' ys' : List Nat) (w : World) (ht : Tab w) (h1 : Sl w p n c xs) (h2 : Sl w q m d ys) (h3 : Sl w p' n' c' xs') (h4 : Sl w q' m' d' ys') (_hn : n ≤ 65535) (_hm : m ≤ 65535) (_hn' : n' ≤ 65535) (_hm' : m' ≤ 65535) :
    Calls Tryz.prog 31 #[rw' g p n c q m d, rw' h p' n' c' q' m' d'] w (RetQ w (mkRat (iv g (val xs)) (val ys) + mkRat (iv h (val xs')) (val ys'))) := by
  obtain ⟨r, hr⟩ : ∃ r, mkRat (iv g (val xs)) (val ys) = r := ⟨_, rfl⟩
  obtain ⟨s, hs⟩ : ∃ s, mkRat (iv h (val xs')) (val ys') = s := ⟨_, rfl⟩
  rw [hr, hs]
  have HR := Lib.hid hr
  have HS := Lib.hid hs
  clear hr hs
  go_enter Tryz.func31, Tryz.ntmps31
  go_wp2_with fail
  have g_h1 := h1
  have g_h2 := h2
  have g_h3 := h3
  have g_h4 := h4
  have hw : Fr [] w (((w.alloc (Obj.cells #[.bool g, .slice p n c, .slice q m d] 26)).alloc (Obj.cells #[.bool h, .slice p' n' c', .slice q' m' d'] 26)).alloc (Obj.cells #[.bool false, .slice none 0 0, .slice none 0 0] 26)) := (((Fr.refl _ _).alloc _).alloc _).alloc _
  have b0 : Bx (((w.alloc (Obj.cells #[.bool g, .slice p n c, .slice q m d] 26)).alloc (Obj.cells #[.bool h, .slice p' n' c', .slice q' m' d'] 26)).alloc (Obj.cells #[.bool false, .slice none 0 0, .slice none 0 0] 26)) w.heap.size 26 #[.bool g, .slice p n c, .slice q m d] := (Bx.made' (by simp) _ _).kept (((Fr.refl _ _).alloc _).alloc _)
  have b1 : Bx (((w.alloc (Obj.cells #[.bool g, .slice p n c, .slice q m d] 26)).alloc (Obj.cells #[.bool h, .slice p' n' c', .slice q' m' d'] 26)).alloc (Obj.cells #[.bool false, .slice none 0 0, .slice none 0 0] 26)) (w.heap.size + 1) 26 #[.bool h, .slice p' n' c', .slice q' m' d'] := (Bx.made' (by simp) _ _).kept ((Fr.refl _ _).alloc _)
  have r0 : Bx (((w.alloc (Obj.cells #[.bool g, .slice p n c, .slice q m d] 26)).alloc (Obj.cells #[.bool h, .slice p' n' c', .slice q' m' d'] 26)).alloc (Obj.cells #[.bool false, .slice none 0 0, .slice none 0 0] 26)) (w.heap.size + 2) 26 #[.bool false, .slice none 0 0, .slice none 0 0] := (Bx.made' (by simp) _ _).kept (Fr.refl _ _)
  generalize (((w.alloc (Obj.cells #[.bool g, .slice p n c, .slice q m d] 26)).alloc (Obj.cells #[.bool h, .slice p' n' c', .slice q' m' d'] 26)).alloc (Obj.cells #[.bool false, .slice none 0 0, .slice none 0 0] 26)) = W at *
  have hbs := r0.lt
  replace h1 := h1.kept hw
  replace h2 := h2.kept hw
  replace h3 := h3.kept hw
  replace h4 := h4.kept hw
  replace ht := ht.kept hw
  have Hw := hw.drew
  have hu0 := ((Fr.refl [] W).drew).size
  have Nh1 := h1.kept (Fr.refl [] W).drew
  have Nh2 := h2.kept (Fr.refl [] W).drew
  have Nh3 := h3.kept (Fr.refl [] W).drew
  have Nh4 := h4.kept (Fr.refl [] W).drew
  have Nb0 := b0.kept (Fr.refl [] W).drew
  have Nb1 := b1.kept (Fr.refl [] W).drew
  have Nr0 := r0.kept (Fr.refl [] W).drew
  have Nht := ht.kept (Fr.refl [] W).drew
  go_region_held3 (fun w' => w'.cell? ⟨w.heap.size, 0, none⟩ = some (.bool g) ∧ w'.cell? ⟨w.heap.size, 1, none⟩ = some (.slice p n c) ∧ w'.cell? ⟨w.heap.size, 2, none⟩ = some (.slice q m d) ∧ w'.cell? ⟨w.heap.size + 1, 0, none⟩ = some (.bool h) ∧ w'.cell? ⟨w.heap.size + 1, 1, none⟩ = some (.slice p' n' c') ∧ w'.cell? ⟨w.heap.size + 1, 2, none⟩ = some (.slice q' m' d')) (first | exact ⟨Nb0.cell (j := 0) rfl, Nb0.cell (j := 1) rfl, Nb0.cell (j := 2) rfl, Nb1.cell (j := 0) rfl, Nb1.cell (j := 1) rfl, Nb1.cell (j := 2) rfl⟩ | exact ⟨(Nb0.keep (S := [(w.heap.size + 2)]) (bset3_fr _ (w.heap.size + 2) _ _ _) (by simp; try omega)).cell (j := 0) rfl, (Nb0.keep (S := [(w.heap.size + 2)]) (bset3_fr _ (w.heap.size + 2) _ _ _) (by simp; try omega)).cell (j := 1) rfl, (Nb0.keep (S := [(w.heap.size + 2)]) (bset3_fr _ (w.heap.size + 2) _ _ _) (by simp; try omega)).cell (j := 2) rfl, (Nb1.keep (S := [(w.heap.size + 2)]) (bset3_fr _ (w.heap.size + 2) _ _ _) (by simp; try omega)).cell (j := 0) rfl, (Nb1.keep (S := [(w.heap.size + 2)]) (bset3_fr _ (w.heap.size + 2) _ _ _) (by simp; try omega)).cell (j := 1) rfl, (Nb1.keep (S := [(w.heap.size + 2)]) (bset3_fr _ (w.heap.size + 2) _ _ _) (by simp; try omega)).cell (j := 2) rfl⟩)
    (first
    | (go_at_call 98; (with_reducible refine (read_g g _ _ _ _ _ _ xs ys _ Nh1 Nh2 (by omega)).mono ?_); rintro e U1 ⟨g3, p3, n3, c3, X3, q3, m3, k3, Y3, rfl, s3, t3, er3, ey3, ln3, lm3, ff⟩; have hu1 := ff.size; replace Hw := Hw.trans ff (by simp); replace Nh1 := Nh1.kept ff; replace Nh2 := Nh2.kept ff; replace Nh3 := Nh3.kept ff; replace Nh4 := Nh4.kept ff; replace Nb0 := Nb0.kept ff; replace Nb1 := Nb1.kept ff; replace Nr0 := Nr0.kept ff; replace Nht := Nht.kept ff; clear ff; have ER3 := Lib.hid er3; have EY3 := Lib.hid ey3; clear er3 ey3)
    | (go_at_call 98; (with_reducible refine (read_g h _ _ _ _ _ _ xs' ys' _ Nh3 Nh4 (by omega)).mono ?_); rintro e U2 ⟨g4, p4, n4, c4, X4, q4, m4, k4, Y4, rfl, s4, t4, er4, ey4, ln4, lm4, ff⟩; have hu2 := ff.size; replace Hw := Hw.trans ff (by simp); replace Nh1 := Nh1.kept ff; replace Nh2 := Nh2.kept ff; replace Nh3 := Nh3.kept ff; replace Nh4 := Nh4.kept ff; replace Nb0 := Nb0.kept ff; replace Nb1 := Nb1.kept ff; replace Nr0 := Nr0.kept ff; replace Nht := Nht.kept ff; replace s3 := s3.kept ff; replace t3 := t3.kept ff; clear ff; have ER4 := Lib.hid er4; have EY4 := Lib.hid ey4; clear er4 ey4)
    | (go_at_call 117; (with_reducible refine (plus_g (r := r) (s := s) 524287 524287 g3 g4 _ _ _ _ _ _ _ _ _ _ _ _ X3 Y3 X4 Y4 _ s3 t3 s4 t4 (by rw [ER3.out]; exact HR.out) EY3.out (by rw [ER4.out]; exact HS.out) EY4.out (by omega) (by omega) (by omega) (by omega) (by omega) (by omega)).mono ?_); rintro e U3 ⟨g6, p6, n6, c6, X6, q6, m6, k6, Y6, rfl, s6, t6, er6, ey6, ln6, lm6, ff⟩; have hu3 := ff.size; replace Hw := Hw.trans ff (by simp); replace Nh1 := Nh1.kept ff; replace Nh2 := Nh2.kept ff; replace Nh3 := Nh3.kept ff; replace Nh4 := Nh4.kept ff; replace Nb0 := Nb0.kept ff; replace Nb1 := Nb1.kept ff; replace Nr0 := Nr0.kept ff; replace Nht := Nht.kept ff; replace s3 := s3.kept ff; replace t3 := t3.kept ff; replace s4 := s4.kept ff; replace t4 := t4.kept ff; clear ff; have ER6 := Lib.hid er6; have EY6 := Lib.hid ey6; clear er6 ey6)
    | (go_at_call 112; (with_reducible refine (result_g g6 _ _ _ _ _ _ X6 Y6 _ Nht s6 t6 ER6.out EY6.out (by omega) (by omega)).mono ?_); rintro e U4 ⟨p1, c1, q1, d1, rfl, o1, o2, ff⟩; have hu4 := ff.size; replace Hw := Hw.trans ff (by simp); replace Nh1 := Nh1.kept ff; replace Nh2 := Nh2.kept ff; replace Nh3 := Nh3.kept ff; replace Nh4 := Nh4.kept ff; replace Nb0 := Nb0.kept ff; replace Nb1 := Nb1.kept ff; replace Nr0 := Nr0.kept ff; replace Nht := Nht.kept ff; replace s3 := s3.kept ff; replace t3 := t3.kept ff; replace s4 := s4.kept ff; replace t4 := t4.kept ff; replace s6 := s6.kept ff; replace t6 := t6.kept ff; clear ff; have m_b0_0 := Nb0.cell (j := 0) rfl; have q_b0_0 := Nb0.free 0; have m_b0_1 := Nb0.cell (j := 1) rfl; have q_b0_1 := Nb0.free 1; have m_b0_2 := Nb0.cell (j := 2) rfl; have q_b0_2 := Nb0.free 2; have m_b1_0 := Nb1.cell (j := 0) rfl; have q_b1_0 := Nb1.free 0; have m_b1_1 := Nb1.cell (j := 1) rfl; have q_b1_1 := Nb1.free 1; have m_b1_2 := Nb1.cell (j := 2) rfl; have q_b1_2 := Nb1.free 2; have m_r0_0 := Nr0.cell (j := 0) rfl; have q_r0_0 := Nr0.free 0; have m_r0_1 := Nr0.cell (j := 1) rfl; have q_r0_1 := Nr0.free 1; have m_r0_2 := Nr0.cell (j := 2) rfl; have q_r0_2 := Nr0.free 2))
  go_wp2_with fail
  exact fin3 Nr0 Hw (by omega) rfl (fun W' c0 c1 c2 => by simp [results, Tryz.results31, go_sem, c0, c1, c2]) (fun W' fb fw => ⟨p1, c1, q1, d1, rfl, (o1.far fb (by omega)).mono (by omega), (o2.far fb (by omega)).mono (by omega), fw⟩)

set_option maxRecDepth 100000 in
set_option maxHeartbeats 1000000 in
theorem sub_q (g h : Bool) (p q p' q' : Option Addr) (n c m d n' c' m' d' : Nat) (xs ys xs' ys' : List Nat) (w : World) (ht : Tab w) (h1 : Sl w p n c xs) (h2 : Sl w q m d ys) (h3 : Sl w p' n' c' xs') (h4 : Sl w q' m' d' ys') (_hn : n ≤ 65535) (_hm : m ≤ 65535) (_hn' : n' ≤ 65535) (_hm' : m' ≤ 65535) :
    Calls Tryz.prog 33 #[rw' g p n c q m d, rw' h p' n' c' q' m' d'] w (RetQ w (mkRat (iv g (val xs)) (val ys) - mkRat (iv h (val xs')) (val ys'))) := by
  obtain ⟨r, hr⟩ : ∃ r, mkRat (iv g (val xs)) (val ys) = r := ⟨_, rfl⟩
  obtain ⟨s, hs⟩ : ∃ s, mkRat (iv h (val xs')) (val ys') = s := ⟨_, rfl⟩
  rw [hr, hs, mk_sub]
  have HR := Lib.hid hr
  have HS := Lib.hid hs
  clear hr hs
  go_enter Tryz.func33, Tryz.ntmps33
  go_wp2_with fail
  have g_h1 := h1
  have g_h2 := h2
  have g_h3 := h3
  have g_h4 := h4
  have hw : Fr [] w (((w.alloc (Obj.cells #[.bool g, .slice p n c, .slice q m d] 26)).alloc (Obj.cells #[.bool h, .slice p' n' c', .slice q' m' d'] 26)).alloc (Obj.cells #[.bool false, .slice none 0 0, .slice none 0 0] 26)) := (((Fr.refl _ _).alloc _).alloc _).alloc _
  have b0 : Bx (((w.alloc (Obj.cells #[.bool g, .slice p n c, .slice q m d] 26)).alloc (Obj.cells #[.bool h, .slice p' n' c', .slice q' m' d'] 26)).alloc (Obj.cells #[.bool false, .slice none 0 0, .slice none 0 0] 26)) w.heap.size 26 #[.bool g, .slice p n c, .slice q m d] := (Bx.made' (by simp) _ _).kept (((Fr.refl _ _).alloc _).alloc _)
  have b1 : Bx (((w.alloc (Obj.cells #[.bool g, .slice p n c, .slice q m d] 26)).alloc (Obj.cells #[.bool h, .slice p' n' c', .slice q' m' d'] 26)).alloc (Obj.cells #[.bool false, .slice none 0 0, .slice none 0 0] 26)) (w.heap.size + 1) 26 #[.bool h, .slice p' n' c', .slice q' m' d'] := (Bx.made' (by simp) _ _).kept ((Fr.refl _ _).alloc _)
  have r0 : Bx (((w.alloc (Obj.cells #[.bool g, .slice p n c, .slice q m d] 26)).alloc (Obj.cells #[.bool h, .slice p' n' c', .slice q' m' d'] 26)).alloc (Obj.cells #[.bool false, .slice none 0 0, .slice none 0 0] 26)) (w.heap.size + 2) 26 #[.bool false, .slice none 0 0, .slice none 0 0] := (Bx.made' (by simp) _ _).kept (Fr.refl _ _)
  generalize (((w.alloc (Obj.cells #[.bool g, .slice p n c, .slice q m d] 26)).alloc (Obj.cells #[.bool h, .slice p' n' c', .slice q' m' d'] 26)).alloc (Obj.cells #[.bool false, .slice none 0 0, .slice none 0 0] 26)) = W at *
  have hbs := r0.lt
  replace h1 := h1.kept hw
  replace h2 := h2.kept hw
  replace h3 := h3.kept hw
  replace h4 := h4.kept hw
  replace ht := ht.kept hw
  have Hw := hw.drew
  have hu0 := ((Fr.refl [] W).drew).size
  have Nh1 := h1.kept (Fr.refl [] W).drew
  have Nh2 := h2.kept (Fr.refl [] W).drew
  have Nh3 := h3.kept (Fr.refl [] W).drew
  have Nh4 := h4.kept (Fr.refl [] W).drew
  have Nb0 := b0.kept (Fr.refl [] W).drew
  have Nb1 := b1.kept (Fr.refl [] W).drew
  have Nr0 := r0.kept (Fr.refl [] W).drew
  have Nht := ht.kept (Fr.refl [] W).drew
  go_region_held3 (fun w' => w'.cell? ⟨w.heap.size, 0, none⟩ = some (.bool g) ∧ w'.cell? ⟨w.heap.size, 1, none⟩ = some (.slice p n c) ∧ w'.cell? ⟨w.heap.size, 2, none⟩ = some (.slice q m d) ∧ w'.cell? ⟨w.heap.size + 1, 0, none⟩ = some (.bool h) ∧ w'.cell? ⟨w.heap.size + 1, 1, none⟩ = some (.slice p' n' c') ∧ w'.cell? ⟨w.heap.size + 1, 2, none⟩ = some (.slice q' m' d')) (first | exact ⟨Nb0.cell (j := 0) rfl, Nb0.cell (j := 1) rfl, Nb0.cell (j := 2) rfl, Nb1.cell (j := 0) rfl, Nb1.cell (j := 1) rfl, Nb1.cell (j := 2) rfl⟩ | exact ⟨(Nb0.keep (S := [(w.heap.size + 2)]) (bset3_fr _ (w.heap.size + 2) _ _ _) (by simp; try omega)).cell (j := 0) rfl, (Nb0.keep (S := [(w.heap.size + 2)]) (bset3_fr _ (w.heap.size + 2) _ _ _) (by simp; try omega)).cell (j := 1) rfl, (Nb0.keep (S := [(w.heap.size + 2)]) (bset3_fr _ (w.heap.size + 2) _ _ _) (by simp; try omega)).cell (j := 2) rfl, (Nb1.keep (S := [(w.heap.size + 2)]) (bset3_fr _ (w.heap.size + 2) _ _ _) (by simp; try omega)).cell (j := 0) rfl, (Nb1.keep (S := [(w.heap.size + 2)]) (bset3_fr _ (w.heap.size + 2) _ _ _) (by simp; try omega)).cell (j := 1) rfl, (Nb1.keep (S := [(w.heap.size + 2)]) (bset3_fr _ (w.heap.size + 2) _ _ _) (by simp; try omega)).cell (j := 2) rfl⟩)
    (first
    | (go_at_call 98; (with_reducible refine (read_g g _ _ _ _ _ _ xs ys _ Nh1 Nh2 (by omega)).mono ?_); rintro e U1 ⟨g3, p3, n3, c3, X3, q3, m3, k3, Y3, rfl, s3, t3, er3, ey3, ln3, lm3, ff⟩; have hu1 := ff.size; replace Hw := Hw.trans ff (by simp); replace Nh1 := Nh1.kept ff; replace Nh2 := Nh2.kept ff; replace Nh3 := Nh3.kept ff; replace Nh4 := Nh4.kept ff; replace Nb0 := Nb0.kept ff; replace Nb1 := Nb1.kept ff; replace Nr0 := Nr0.kept ff; replace Nht := Nht.kept ff; clear ff; have ER3 := Lib.hid er3; have EY3 := Lib.hid ey3; clear er3 ey3)
    | (go_at_call 98; (with_reducible refine (read_g h _ _ _ _ _ _ xs' ys' _ Nh3 Nh4 (by omega)).mono ?_); rintro e U2 ⟨g4, p4, n4, c4, X4, q4, m4, k4, Y4, rfl, s4, t4, er4, ey4, ln4, lm4, ff⟩; have hu2 := ff.size; replace Hw := Hw.trans ff (by simp); replace Nh1 := Nh1.kept ff; replace Nh2 := Nh2.kept ff; replace Nh3 := Nh3.kept ff; replace Nh4 := Nh4.kept ff; replace Nb0 := Nb0.kept ff; replace Nb1 := Nb1.kept ff; replace Nr0 := Nr0.kept ff; replace Nht := Nht.kept ff; replace s3 := s3.kept ff; replace t3 := t3.kept ff; clear ff; have ER4 := Lib.hid er4; have EY4 := Lib.hid ey4; clear er4 ey4)
    | (go_at_call 113; (with_reducible refine (negation_g (r := s) n' (m' + 1) g4 _ _ _ _ _ _ X4 Y4 _ s4 t4 (by rw [ER4.out]; exact HS.out) EY4.out (by omega) ln4 lm4).mono ?_); rintro e U3 ⟨g5, p5, n5, c5, X5, q5, m5, k5, Y5, rfl, s5, t5, er5, ey5, ln5, lm5, ff⟩; have hu3 := ff.size; replace Hw := Hw.trans ff (by simp); replace Nh1 := Nh1.kept ff; replace Nh2 := Nh2.kept ff; replace Nh3 := Nh3.kept ff; replace Nh4 := Nh4.kept ff; replace Nb0 := Nb0.kept ff; replace Nb1 := Nb1.kept ff; replace Nr0 := Nr0.kept ff; replace Nht := Nht.kept ff; replace s3 := s3.kept ff; replace t3 := t3.kept ff; replace s4 := s4.kept ff; replace t4 := t4.kept ff; clear ff; have ER5 := Lib.hid er5; have EY5 := Lib.hid ey5; clear er5 ey5)
    | (go_at_call 117; (with_reducible refine (plus_g (r := r) (s := -s) 524287 524287 g3 g5 _ _ _ _ _ _ _ _ _ _ _ _ X3 Y3 X5 Y5 _ s3 t3 s5 t5 (by rw [ER3.out]; exact HR.out) EY3.out ER5.out EY5.out (by omega) (by omega) (by omega) (by omega) (by omega) (by omega)).mono ?_); rintro e U4 ⟨g6, p6, n6, c6, X6, q6, m6, k6, Y6, rfl, s6, t6, er6, ey6, ln6, lm6, ff⟩; have hu4 := ff.size; replace Hw := Hw.trans ff (by simp); replace Nh1 := Nh1.kept ff; replace Nh2 := Nh2.kept ff; replace Nh3 := Nh3.kept ff; replace Nh4 := Nh4.kept ff; replace Nb0 := Nb0.kept ff; replace Nb1 := Nb1.kept ff; replace Nr0 := Nr0.kept ff; replace Nht := Nht.kept ff; replace s3 := s3.kept ff; replace t3 := t3.kept ff; replace s4 := s4.kept ff; replace t4 := t4.kept ff; replace s5 := s5.kept ff; replace t5 := t5.kept ff; clear ff; have ER6 := Lib.hid er6; have EY6 := Lib.hid ey6; clear er6 ey6)
    | (go_at_call 112; (with_reducible refine (result_g g6 _ _ _ _ _ _ X6 Y6 _ Nht s6 t6 ER6.out EY6.out (by omega) (by omega)).mono ?_); rintro e U5 ⟨p1, c1, q1, d1, rfl, o1, o2, ff⟩; have hu5 := ff.size; replace Hw := Hw.trans ff (by simp); replace Nh1 := Nh1.kept ff; replace Nh2 := Nh2.kept ff; replace Nh3 := Nh3.kept ff; replace Nh4 := Nh4.kept ff; replace Nb0 := Nb0.kept ff; replace Nb1 := Nb1.kept ff; replace Nr0 := Nr0.kept ff; replace Nht := Nht.kept ff; replace s3 := s3.kept ff; replace t3 := t3.kept ff; replace s4 := s4.kept ff; replace t4 := t4.kept ff; replace s5 := s5.kept ff; replace t5 := t5.kept ff; replace s6 := s6.kept ff; replace t6 := t6.kept ff; clear ff; have m_b0_0 := Nb0.cell (j := 0) rfl; have q_b0_0 := Nb0.free 0; have m_b0_1 := Nb0.cell (j := 1) rfl; have q_b0_1 := Nb0.free 1; have m_b0_2 := Nb0.cell (j := 2) rfl; have q_b0_2 := Nb0.free 2; have m_b1_0 := Nb1.cell (j := 0) rfl; have q_b1_0 := Nb1.free 0; have m_b1_1 := Nb1.cell (j := 1) rfl; have q_b1_1 := Nb1.free 1; have m_b1_2 := Nb1.cell (j := 2) rfl; have q_b1_2 := Nb1.free 2; have m_r0_0 := Nr0.cell (j := 0) rfl; have q_r0_0 := Nr0.free 0; have m_r0_1 := Nr0.cell (j := 1) rfl; have q_r0_1 := Nr0.free 1; have m_r0_2 := Nr0.cell (j := 2) rfl; have q_r0_2 := Nr0.free 2))
  go_wp2_with fail
  exact fin3 Nr0 Hw (by omega) rfl (fun W' c0 c1 c2 => by simp [results, Tryz.results33, go_sem, c0, c1, c2]) (fun W' fb fw => ⟨p1, c1, q1, d1, rfl, (o1.far fb (by omega)).mono (by omega), (o2.far fb (by omega)).mono (by omega), fw⟩)

end Go.Proofs.YtjjdbhohjphcoaaGreatDoor

namespace Go.Proofs.YtjjdbhohjphcoaaGreatDoor
open Go.RowKit

theorem sign_of_mk {z : Int} {d : Nat} {r : Rat} (h : mkRat z d = r) (hd : d ≠ 0) : z.sign = r.num.sign := by
  have h1 := mk_neg_iff z hd
  have h2 := mk_zero_iff z hd
  rw [h] at h1 h2
  rw [decide_eq_decide] at h1
  rw [← Rat.num_eq_zero] at h2
  generalize r.num = k at *
  rcases Int.lt_trichotomy z 0 with c | c | c
  · rw [Int.sign_eq_neg_one_of_neg c, Int.sign_eq_neg_one_of_neg (h1.2 c)]
  · rw [c, h2.2 c]
  · have : 0 < k := by omega
    rw [Int.sign_eq_one_of_pos c, Int.sign_eq_one_of_pos this]

theorem field_num (g h : Bool) (p q : Option Addr) (n c m d : Nat) (w : World) : (Instr.field 75 (fw g p n c h q m d) 0).run Tryz.prog w = .ok (iw g p n c) w := by
  kernel_rfl

set_option maxRecDepth 100000 in
set_option maxHeartbeats 1000000 in
theorem sign_q (g : Bool) (p q : Option Addr) (n c m d : Nat) (xs ys : List Nat) (w : World) (h1 : Sl w p n c xs) (h2 : Sl w q m d ys) (_hn : n ≤ 131071) (_hm : m ≤ 131071) :
    Calls Tryz.prog 21 #[rw' g p n c q m d] w fun e w' => e = .returned (.int .i64 (mkRat (iv g (val xs)) (val ys)).num.sign) ∧ Fr [] w w' := by
  obtain ⟨r, hr⟩ : ∃ r, mkRat (iv g (val xs)) (val ys) = r := ⟨_, rfl⟩
  rw [hr]
  have HR := Lib.hid hr
  clear hr
  go_enter Tryz.func21, Tryz.ntmps21
  go_wp2_with fail
  have g_h1 := h1
  have g_h2 := h2
  have hw : Fr [] w (w.alloc (Obj.cells #[.bool g, .slice p n c, .slice q m d] 26)) := (Fr.refl _ _).alloc _
  have b0 : Bx (w.alloc (Obj.cells #[.bool g, .slice p n c, .slice q m d] 26)) w.heap.size 26 #[.bool g, .slice p n c, .slice q m d] := (Bx.made' (by simp) _ _).kept (Fr.refl _ _)
  generalize (w.alloc (Obj.cells #[.bool g, .slice p n c, .slice q m d] 26)) = W at *
  have hbs := b0.lt
  replace h1 := h1.kept hw
  replace h2 := h2.kept hw
  have c_b0_0 := b0.cell (j := 0) rfl
  have f_b0_0 := b0.free 0
  have c_b0_1 := b0.cell (j := 1) rfl
  have f_b0_1 := b0.free 1
  have c_b0_2 := b0.cell (j := 2) rfl
  have f_b0_2 := b0.free 2
  go_wp2_with fail
  clear c_b0_0 f_b0_0 c_b0_1 f_b0_1 c_b0_2 f_b0_2
  refine (read_g g _ _ _ _ _ _ xs ys _ h1 h2 (by omega)).mono ?_
  rw [HR.out]
  rintro e V1 ⟨g3, p3, n3, c3, X3, q3, m3, k3, Y3, rfl, s3, t3, er3, ey3, ln3, lm3, ff⟩
  have hsz1 := ff.size
  replace hw := hw.trans ff (by simp)
  replace h1 := h1.kept ff
  replace h2 := h2.kept ff
  replace b0 := b0.kept ff
  clear ff
  have ER3 := Lib.hid er3
  have EY3 := Lib.hid ey3
  clear er3 ey3
  have c_b0_0 := b0.cell (j := 0) rfl
  have f_b0_0 := b0.free 0
  have c_b0_1 := b0.cell (j := 1) rfl
  have f_b0_1 := b0.free 1
  have c_b0_2 := b0.cell (j := 2) rfl
  have f_b0_2 := b0.free 2
  go_wp2_with fail
  clear c_b0_0 f_b0_0 c_b0_1 f_b0_1 c_b0_2 f_b0_2
  rw [field_num]
  go_wp2_with fail
  refine (isign_any g3 _ _ _ X3 _ s3 (by omega)).mono ?_
  rw [sign_of_mk ER3.out EY3.out]
  rintro e V2 ⟨rfl, ff⟩
  have hsz2 := ff.size
  replace hw := hw.trans ff (by simp)
  replace h1 := h1.kept ff
  replace h2 := h2.kept ff
  replace s3 := s3.kept ff
  replace t3 := t3.kept ff
  replace b0 := b0.kept ff
  clear ff
  go_wp2_with fail
  go_ret
  exact ⟨rfl, hw⟩

end Go.Proofs.YtjjdbhohjphcoaaGreatDoor

namespace Go.Proofs.YtjjdbhohjphcoaaGreatDoor
open Go.RowKit

set_option maxRecDepth 100000 in
set_option maxHeartbeats 1000000 in
theorem of_q (x : Int) (w : World) (ht : Tab w) (_hx : -9223372036854775808 ≤ x) (_hx2 : x ≤ 9223372036854775807) :
    Calls Tryz.prog 43 #[.int .i64 x] w (RetQ w (x : Rat)) := by
  obtain ⟨s, hs⟩ : ∃ s, decide (x < 0) = s := ⟨_, rfl⟩
  obtain ⟨M, hM⟩ : ∃ M, x.natAbs = M := ⟨_, rfl⟩
  obtain ⟨r, hr⟩ : ∃ r : Rat, mkRat (iv s (val (dg M))) (val [1]) = r := ⟨_, rfl⟩
  have hv : iv s (val (dg M)) = x := by rw [val_dg]; exact iv_eq hs hM
  have e1 : (x : Rat) = r := by rw [← hr, hv]; exact (mk_int x).symm
  have hl : (dg M).length ≤ 2 := dg_len_le (by have : pB 2 = 18446744073709551616 := rfl; omega)
  rw [e1]
  have HS := Lib.hid hs
  have HM := Lib.hid hM
  have HR := Lib.hid hr
  clear hs hM hr hv e1
  go_enter Tryz.func43, Tryz.ntmps43
  go_wp2_with fail
  have hw : Fr [] w (w.alloc (Obj.cells #[.bool false, .slice none 0 0, .slice none 0 0] 26)) := (Fr.refl _ _).alloc _
  have r0 : Bx (w.alloc (Obj.cells #[.bool false, .slice none 0 0, .slice none 0 0] 26)) w.heap.size 26 #[.bool false, .slice none 0 0, .slice none 0 0] := (Bx.made' (by simp) _ _).kept (Fr.refl _ _)
  generalize (w.alloc (Obj.cells #[.bool false, .slice none 0 0, .slice none 0 0] 26)) = W at *
  have hbs := r0.lt
  replace ht := ht.kept hw
  have c_r0_0 := r0.cell (j := 0) rfl
  have f_r0_0 := r0.free 0
  have c_r0_1 := r0.cell (j := 1) rfl
  have f_r0_1 := r0.free 1
  have c_r0_2 := r0.cell (j := 2) rfl
  have f_r0_2 := r0.free 2
  go_wp2_with fail
  clear c_r0_0 f_r0_0 c_r0_1 f_r0_1 c_r0_2 f_r0_2
  refine (calls_ri (b := s) (m := M) (of_any x _ (by omega) (by omega)) HS.out HM.out).mono ?_
  rintro e V1 ⟨p1, c1, rfl, o1, ff⟩
  have hsz1 := ff.size
  replace hw := hw.trans ff (by simp)
  replace r0 := r0.kept ff
  replace ht := ht.kept ff
  clear ff
  have c_r0_0 := r0.cell (j := 0) rfl
  have f_r0_0 := r0.free 0
  have c_r0_1 := r0.cell (j := 1) rfl
  have f_r0_1 := r0.free 1
  have c_r0_2 := r0.cell (j := 2) rfl
  have f_r0_2 := r0.free 2
  go_wp2_with fail
  clear c_r0_0 f_r0_0 c_r0_1 f_r0_1 c_r0_2 f_r0_2
  refine (whole_any _ _ _ _ _).mono ?_
  rintro e V2 ⟨p2, c2, rfl, o2, ff⟩
  have hsz2 := ff.size
  replace hw := hw.trans ff (by simp)
  replace o1 := o1.kept ff
  replace r0 := r0.kept ff
  replace ht := ht.kept ff
  clear ff
  have c_r0_0 := r0.cell (j := 0) rfl
  have f_r0_0 := r0.free 0
  have c_r0_1 := r0.cell (j := 1) rfl
  have f_r0_1 := r0.free 1
  have c_r0_2 := r0.cell (j := 2) rfl
  have f_r0_2 := r0.free 2
  go_wp2_with fail
  clear c_r0_0 f_r0_0 c_r0_1 f_r0_1 c_r0_2 f_r0_2
  refine (result_g (r := r) s _ _ _ _ _ _ (dg M) [1] _ ht o1.sl o2.sl HR.out (by decide) (by omega) (by omega)).mono ?_
  rintro e V3 ⟨p3, c3, q3, d3, rfl, o3, o4, ff⟩
  have hsz3 := ff.size
  replace hw := hw.trans ff (by simp)
  replace o1 := o1.kept ff
  replace o2 := o2.kept ff
  replace r0 := r0.kept ff
  replace ht := ht.kept ff
  clear ff
  have c_r0_0 := r0.cell (j := 0) rfl
  have f_r0_0 := r0.free 0
  have c_r0_1 := r0.cell (j := 1) rfl
  have f_r0_1 := r0.free 1
  have c_r0_2 := r0.cell (j := 2) rfl
  have f_r0_2 := r0.free 2
  go_wp2_with fail
  exact fin3 r0 hw (by omega) rfl (fun W' c0 c1 c2 => by simp [results, Tryz.results43, go_sem, c0, c1, c2]) (fun W' fb fw => ⟨p3, c3, q3, d3, rfl, (o3.far fb (by omega)).mono (by omega), (o4.far fb (by omega)).mono (by omega), fw⟩)

set_option maxRecDepth 100000 in
set_option maxHeartbeats 1000000 in
theorem make_zero (g h : Bool) (p q : Option Addr) (n c m d : Nat) (xs ys : List Nat) (w : World) (ht : Tab w) (h1 : Sl w p n c xs) (h2 : Sl w q m d ys) (_hn : n ≤ 524287) (_hm : m ≤ 524287) (hy : val ys = 0) :
    Calls Tryz.prog 37 #[iw g p n c, iw h q m d] w fun e w' => e = .returned (.tuple #[rw' false none 0 0 none 0 0, .int .i64 3]) ∧ Fr [] w w' := by
  have hs : (iv h (val ys)).sign = 0 := by rw [hy]; cases h <;> rfl
  have HS := Lib.hid hs
  clear hs hy
  go_enter Tryz.func37, Tryz.ntmps37
  go_wp2_with fail
  have g_h1 := h1
  have g_h2 := h2
  have hw : Fr [] w (((w.alloc (Obj.cells #[.bool g, .slice p n c] 24)).alloc (Obj.cells #[.bool h, .slice q m d] 24)).alloc (Obj.cells #[.bool false, .slice none 0 0, .slice none 0 0] 26)) := (((Fr.refl _ _).alloc _).alloc _).alloc _
  have b0 : Bx (((w.alloc (Obj.cells #[.bool g, .slice p n c] 24)).alloc (Obj.cells #[.bool h, .slice q m d] 24)).alloc (Obj.cells #[.bool false, .slice none 0 0, .slice none 0 0] 26)) w.heap.size 24 #[.bool g, .slice p n c] := (Bx.made' (by simp) _ _).kept (((Fr.refl _ _).alloc _).alloc _)
  have b1 : Bx (((w.alloc (Obj.cells #[.bool g, .slice p n c] 24)).alloc (Obj.cells #[.bool h, .slice q m d] 24)).alloc (Obj.cells #[.bool false, .slice none 0 0, .slice none 0 0] 26)) (w.heap.size + 1) 24 #[.bool h, .slice q m d] := (Bx.made' (by simp) _ _).kept ((Fr.refl _ _).alloc _)
  have r0 : Bx (((w.alloc (Obj.cells #[.bool g, .slice p n c] 24)).alloc (Obj.cells #[.bool h, .slice q m d] 24)).alloc (Obj.cells #[.bool false, .slice none 0 0, .slice none 0 0] 26)) (w.heap.size + 2) 26 #[.bool false, .slice none 0 0, .slice none 0 0] := (Bx.made' (by simp) _ _).kept (Fr.refl _ _)
  generalize (((w.alloc (Obj.cells #[.bool g, .slice p n c] 24)).alloc (Obj.cells #[.bool h, .slice q m d] 24)).alloc (Obj.cells #[.bool false, .slice none 0 0, .slice none 0 0] 26)) = W at *
  have hbs := r0.lt
  replace h1 := h1.kept hw
  replace h2 := h2.kept hw
  replace ht := ht.kept hw
  have c_b0_0 := b0.cell (j := 0) rfl
  have f_b0_0 := b0.free 0
  have c_b0_1 := b0.cell (j := 1) rfl
  have f_b0_1 := b0.free 1
  have c_b1_0 := b1.cell (j := 0) rfl
  have f_b1_0 := b1.free 0
  have c_b1_1 := b1.cell (j := 1) rfl
  have f_b1_1 := b1.free 1
  have c_r0_0 := r0.cell (j := 0) rfl
  have f_r0_0 := r0.free 0
  have c_r0_1 := r0.cell (j := 1) rfl
  have f_r0_1 := r0.free 1
  have c_r0_2 := r0.cell (j := 2) rfl
  have f_r0_2 := r0.free 2
  go_wp2_with fail
  clear c_b0_0 f_b0_0 c_b0_1 f_b0_1 c_b1_0 f_b1_0 c_b1_1 f_b1_1 c_r0_0 f_r0_0 c_r0_1 f_r0_1 c_r0_2 f_r0_2
  refine (isign_any h _ _ _ ys _ h2 (by omega)).mono ?_
  rw [HS.out]
  rintro e V1 ⟨rfl, ff⟩
  have hsz1 := ff.size
  replace hw := hw.trans ff (by simp)
  replace h1 := h1.kept ff
  replace h2 := h2.kept ff
  replace b0 := b0.kept ff
  replace b1 := b1.kept ff
  replace r0 := r0.kept ff
  replace ht := ht.kept ff
  clear ff
  have c_b0_0 := b0.cell (j := 0) rfl
  have f_b0_0 := b0.free 0
  have c_b0_1 := b0.cell (j := 1) rfl
  have f_b0_1 := b0.free 1
  have c_b1_0 := b1.cell (j := 0) rfl
  have f_b1_0 := b1.free 0
  have c_b1_1 := b1.cell (j := 1) rfl
  have f_b1_1 := b1.free 1
  have c_r0_0 := r0.cell (j := 0) rfl
  have f_r0_0 := r0.free 0
  have c_r0_1 := r0.cell (j := 1) rfl
  have f_r0_1 := r0.free 1
  have c_r0_2 := r0.cell (j := 2) rfl
  have f_r0_2 := r0.free 2
  go_wp2_with fail
  exact fin3 r0 hw (by omega) rfl (fun W' c0 c1 c2 => by simp [results, Tryz.results37, go_sem, c0, c1, c2]) (fun W' fb fw => ⟨rfl, fw⟩)

def RetM (w : World) (r : Rat) (e : Ending) (w' : World) : Prop :=
  ∃ p c q d, e = .returned (.tuple #[rw' (decide (r.num < 0)) p (dg r.num.natAbs).length c q (dg r.den).length d, .int .i64 0]) ∧ Ow w' w.heap.size p (dg r.num.natAbs).length c (dg r.num.natAbs) ∧ Ow w' w.heap.size q (dg r.den).length d (dg r.den) ∧ Fr [] w w'

set_option maxRecDepth 100000 in
set_option maxHeartbeats 1000000 in
theorem make_pos (g : Bool) (p q : Option Addr) (n c m d : Nat) (xs ys : List Nat) (w : World) (ht : Tab w) (h1 : Sl w p n c xs) (h2 : Sl w q m d ys) (_hn : n ≤ 524287) (_hm : m ≤ 524287) (hy : val ys ≠ 0) :
    Calls Tryz.prog 37 #[iw g p n c, iw false q m d] w (RetM w (mkRat (iv g (val xs)) (val ys))) := by
  have hs : (iv false (val ys)).sign = 1 := Int.sign_eq_one_of_pos (by show (0 : Int) < ((val ys : Nat) : Int); omega)
  obtain ⟨r, hr⟩ : ∃ r, mkRat (iv g (val xs)) (val ys) = r := ⟨_, rfl⟩
  rw [hr]
  have HS := Lib.hid hs
  have HR := Lib.hid hr
  have HY := Lib.hid hy
  clear hs hr hy
  go_enter Tryz.func37, Tryz.ntmps37
  go_wp2_with fail
  have g_h1 := h1
  have g_h2 := h2
  have hw : Fr [] w (((w.alloc (Obj.cells #[.bool g, .slice p n c] 24)).alloc (Obj.cells #[.bool false, .slice q m d] 24)).alloc (Obj.cells #[.bool false, .slice none 0 0, .slice none 0 0] 26)) := (((Fr.refl _ _).alloc _).alloc _).alloc _
  have b0 : Bx (((w.alloc (Obj.cells #[.bool g, .slice p n c] 24)).alloc (Obj.cells #[.bool false, .slice q m d] 24)).alloc (Obj.cells #[.bool false, .slice none 0 0, .slice none 0 0] 26)) w.heap.size 24 #[.bool g, .slice p n c] := (Bx.made' (by simp) _ _).kept (((Fr.refl _ _).alloc _).alloc _)
  have b1 : Bx (((w.alloc (Obj.cells #[.bool g, .slice p n c] 24)).alloc (Obj.cells #[.bool false, .slice q m d] 24)).alloc (Obj.cells #[.bool false, .slice none 0 0, .slice none 0 0] 26)) (w.heap.size + 1) 24 #[.bool false, .slice q m d] := (Bx.made' (by simp) _ _).kept ((Fr.refl _ _).alloc _)
  have r0 : Bx (((w.alloc (Obj.cells #[.bool g, .slice p n c] 24)).alloc (Obj.cells #[.bool false, .slice q m d] 24)).alloc (Obj.cells #[.bool false, .slice none 0 0, .slice none 0 0] 26)) (w.heap.size + 2) 26 #[.bool false, .slice none 0 0, .slice none 0 0] := (Bx.made' (by simp) _ _).kept (Fr.refl _ _)
  generalize (((w.alloc (Obj.cells #[.bool g, .slice p n c] 24)).alloc (Obj.cells #[.bool false, .slice q m d] 24)).alloc (Obj.cells #[.bool false, .slice none 0 0, .slice none 0 0] 26)) = W at *
  have hbs := r0.lt
  replace h1 := h1.kept hw
  replace h2 := h2.kept hw
  replace ht := ht.kept hw
  have c_b0_0 := b0.cell (j := 0) rfl
  have f_b0_0 := b0.free 0
  have c_b0_1 := b0.cell (j := 1) rfl
  have f_b0_1 := b0.free 1
  have c_b1_0 := b1.cell (j := 0) rfl
  have f_b1_0 := b1.free 0
  have c_b1_1 := b1.cell (j := 1) rfl
  have f_b1_1 := b1.free 1
  have c_r0_0 := r0.cell (j := 0) rfl
  have f_r0_0 := r0.free 0
  have c_r0_1 := r0.cell (j := 1) rfl
  have f_r0_1 := r0.free 1
  have c_r0_2 := r0.cell (j := 2) rfl
  have f_r0_2 := r0.free 2
  go_wp2_with fail
  clear c_b0_0 f_b0_0 c_b0_1 f_b0_1 c_b1_0 f_b1_0 c_b1_1 f_b1_1 c_r0_0 f_r0_0 c_r0_1 f_r0_1 c_r0_2 f_r0_2
  refine (isign_any false _ _ _ ys _ h2 (by omega)).mono ?_
  rw [HS.out]
  rintro e V1 ⟨rfl, ff⟩
  have hsz1 := ff.size
  replace hw := hw.trans ff (by simp)
  replace h1 := h1.kept ff
  replace h2 := h2.kept ff
  replace b0 := b0.kept ff
  replace b1 := b1.kept ff
  replace r0 := r0.kept ff
  replace ht := ht.kept ff
  clear ff
  have c_b0_0 := b0.cell (j := 0) rfl
  have f_b0_0 := b0.free 0
  have c_b0_1 := b0.cell (j := 1) rfl
  have f_b0_1 := b0.free 1
  have c_b1_0 := b1.cell (j := 0) rfl
  have f_b1_0 := b1.free 0
  have c_b1_1 := b1.cell (j := 1) rfl
  have f_b1_1 := b1.free 1
  have c_r0_0 := r0.cell (j := 0) rfl
  have f_r0_0 := r0.free 0
  have c_r0_1 := r0.cell (j := 1) rfl
  have f_r0_1 := r0.free 1
  have c_r0_2 := r0.cell (j := 2) rfl
  have f_r0_2 := r0.free 2
  go_wp2_with fail
  clear c_b0_0 f_b0_0 c_b0_1 f_b0_1 c_b1_0 f_b1_0 c_b1_1 f_b1_1 c_r0_0 f_r0_0 c_r0_1 f_r0_1 c_r0_2 f_r0_2
  refine (result_g (r := r) g _ _ _ _ _ _ xs ys _ ht h1 h2 HR.out HY.out (by omega) (by omega)).mono ?_
  rintro e V2 ⟨p1, c1, q1, d1, rfl, o1, o2, ff⟩
  have hsz2 := ff.size
  replace hw := hw.trans ff (by simp)
  replace h1 := h1.kept ff
  replace h2 := h2.kept ff
  replace b0 := b0.kept ff
  replace b1 := b1.kept ff
  replace r0 := r0.kept ff
  replace ht := ht.kept ff
  clear ff
  have c_b0_0 := b0.cell (j := 0) rfl
  have f_b0_0 := b0.free 0
  have c_b0_1 := b0.cell (j := 1) rfl
  have f_b0_1 := b0.free 1
  have c_b1_0 := b1.cell (j := 0) rfl
  have f_b1_0 := b1.free 0
  have c_b1_1 := b1.cell (j := 1) rfl
  have f_b1_1 := b1.free 1
  have c_r0_0 := r0.cell (j := 0) rfl
  have f_r0_0 := r0.free 0
  have c_r0_1 := r0.cell (j := 1) rfl
  have f_r0_1 := r0.free 1
  have c_r0_2 := r0.cell (j := 2) rfl
  have f_r0_2 := r0.free 2
  go_wp2_with fail
  exact fin3 r0 hw (by omega) rfl (fun W' c0 c1 c2 => by simp [results, Tryz.results37, go_sem, c0, c1, c2]) (fun W' fb fw => ⟨p1, c1, q1, d1, rfl, (o1.far fb (by omega)).mono (by omega), (o2.far fb (by omega)).mono (by omega), fw⟩)

end Go.Proofs.YtjjdbhohjphcoaaGreatDoor

namespace Go.Proofs.YtjjdbhohjphcoaaGreatDoor
open Go.RowKit

set_option maxRecDepth 100000 in
set_option maxHeartbeats 1000000 in
theorem make_neg (g : Bool) (p q : Option Addr) (n c m d : Nat) (xs ys : List Nat) (w : World) (ht : Tab w) (h1 : Sl w p n c xs) (h2 : Sl w q m d ys) (_hn : n ≤ 524287) (_hm : m ≤ 524287) (hy : val ys ≠ 0) :
    Calls Tryz.prog 37 #[iw g p n c, iw true q m d] w (RetM w (mkRat (-(iv g (val xs))) (val ys))) := by
  have hs : (iv true (val ys)).sign = -1 := Int.sign_eq_neg_one_of_neg (by show -((val ys : Nat) : Int) < 0; omega)
  obtain ⟨r, hr⟩ : ∃ r, mkRat (-(iv g (val xs))) (val ys) = r := ⟨_, rfl⟩
  obtain ⟨s, hsg⟩ : ∃ s, decide (-(iv g (val xs)) < 0) = s := ⟨_, rfl⟩
  have hv : iv s (val (dg (val xs))) = -(iv g (val xs)) := by rw [val_dg]; exact iv_eq hsg (by rw [Int.natAbs_neg, iv_abs])
  have hr' : mkRat (iv s (val (dg (val xs)))) (val (dg (val ys))) = r := by rw [hv, val_dg]; exact hr
  have hy' : val (dg (val ys)) ≠ 0 := by rw [val_dg]; exact hy
  have hsd : decide (-(iv true (val ys)) < 0) = false := decide_eq_false (by show ¬ - -((val ys : Nat) : Int) < 0; omega)
  have l1 := dg_len_val h1.dig
  have l2 := dg_len_val h2.dig
  rw [h1.len] at l1
  rw [h2.len] at l2
  rw [hr]
  have HS := Lib.hid hs
  have HR := Lib.hid hr'
  have HG := Lib.hid hsg
  have HD := Lib.hid hsd
  have HY := Lib.hid hy'
  clear hs hr hr' hy hy' hsg hsd hv
  have ht0 := ht
  go_enter Tryz.func37, Tryz.ntmps37
  go_wp2_with fail
  have g_h1 := h1
  have g_h2 := h2
  have hw : Fr [] w (((w.alloc (Obj.cells #[.bool g, .slice p n c] 24)).alloc (Obj.cells #[.bool true, .slice q m d] 24)).alloc (Obj.cells #[.bool false, .slice none 0 0, .slice none 0 0] 26)) := (((Fr.refl _ _).alloc _).alloc _).alloc _
  have b0 : Bx (((w.alloc (Obj.cells #[.bool g, .slice p n c] 24)).alloc (Obj.cells #[.bool true, .slice q m d] 24)).alloc (Obj.cells #[.bool false, .slice none 0 0, .slice none 0 0] 26)) w.heap.size 24 #[.bool g, .slice p n c] := (Bx.made' (by simp) _ _).kept (((Fr.refl _ _).alloc _).alloc _)
  have b1 : Bx (((w.alloc (Obj.cells #[.bool g, .slice p n c] 24)).alloc (Obj.cells #[.bool true, .slice q m d] 24)).alloc (Obj.cells #[.bool false, .slice none 0 0, .slice none 0 0] 26)) (w.heap.size + 1) 24 #[.bool true, .slice q m d] := (Bx.made' (by simp) _ _).kept ((Fr.refl _ _).alloc _)
  have r0 : Bx (((w.alloc (Obj.cells #[.bool g, .slice p n c] 24)).alloc (Obj.cells #[.bool true, .slice q m d] 24)).alloc (Obj.cells #[.bool false, .slice none 0 0, .slice none 0 0] 26)) (w.heap.size + 2) 26 #[.bool false, .slice none 0 0, .slice none 0 0] := (Bx.made' (by simp) _ _).kept (Fr.refl _ _)
  generalize (((w.alloc (Obj.cells #[.bool g, .slice p n c] 24)).alloc (Obj.cells #[.bool true, .slice q m d] 24)).alloc (Obj.cells #[.bool false, .slice none 0 0, .slice none 0 0] 26)) = W at *
  have hbs := r0.lt
  replace h1 := h1.kept hw
  replace h2 := h2.kept hw
  replace ht := ht.kept hw
  have g_ht := ht0
  have c_b0_0 := b0.cell (j := 0) rfl
  have f_b0_0 := b0.free 0
  have c_b0_1 := b0.cell (j := 1) rfl
  have f_b0_1 := b0.free 1
  have c_b1_0 := b1.cell (j := 0) rfl
  have f_b1_0 := b1.free 0
  have c_b1_1 := b1.cell (j := 1) rfl
  have f_b1_1 := b1.free 1
  have c_r0_0 := r0.cell (j := 0) rfl
  have f_r0_0 := r0.free 0
  have c_r0_1 := r0.cell (j := 1) rfl
  have f_r0_1 := r0.free 1
  have c_r0_2 := r0.cell (j := 2) rfl
  have f_r0_2 := r0.free 2
  go_wp2_with fail
  clear c_b0_0 f_b0_0 c_b0_1 f_b0_1 c_b1_0 f_b1_0 c_b1_1 f_b1_1 c_r0_0 f_r0_0 c_r0_1 f_r0_1 c_r0_2 f_r0_2
  refine (isign_any true _ _ _ ys _ h2 (by omega)).mono ?_
  rw [HS.out]
  rintro e V1 ⟨rfl, ff⟩
  have hsz1 := ff.size
  replace hw := hw.trans ff (by simp)
  replace h1 := h1.kept ff
  replace h2 := h2.kept ff
  replace b0 := b0.kept ff
  replace b1 := b1.kept ff
  replace r0 := r0.kept ff
  replace ht := ht.kept ff
  clear ff
  have c_b0_0 := b0.cell (j := 0) rfl
  have f_b0_0 := b0.free 0
  have c_b0_1 := b0.cell (j := 1) rfl
  have f_b0_1 := b0.free 1
  have c_b1_0 := b1.cell (j := 0) rfl
  have f_b1_0 := b1.free 0
  have c_b1_1 := b1.cell (j := 1) rfl
  have f_b1_1 := b1.free 1
  have c_r0_0 := r0.cell (j := 0) rfl
  have f_r0_0 := r0.free 0
  have c_r0_1 := r0.cell (j := 1) rfl
  have f_r0_1 := r0.free 1
  have c_r0_2 := r0.cell (j := 2) rfl
  have f_r0_2 := r0.free 2
  go_wp2_with fail
  clear c_b0_0 f_b0_0 c_b0_1 f_b0_1 c_b1_0 f_b1_0 c_b1_1 f_b1_1 c_r0_0 f_r0_0 c_r0_1 f_r0_1 c_r0_2 f_r0_2
  have HW := (Fr.refl [] V1).drew
  have hsw := HW.size
  have c_b0_0 := b0.cell (j := 0) rfl
  have z_b0_0 := b0.free 0
  have c_b0_1 := b0.cell (j := 1) rfl
  have z_b0_1 := b0.free 1
  have c_b1_0 := b1.cell (j := 0) rfl
  have z_b1_0 := b1.free 0
  have c_b1_1 := b1.cell (j := 1) rfl
  have z_b1_1 := b1.free 1
  go_region_with (first
    | (go_at_call 119; (with_reducible refine (calls_ri (b := s) (m := val xs) (ineg_any g p n c xs _ (h1.kept HW) (by omega)) HG.out (by rw [Int.natAbs_neg, iv_abs])).mono ?_); rintro e U1 ⟨p1, k1, rfl, o1, ff⟩; replace HW := HW.trans ff (by simp); have c_b0_0 := (b0.kept HW).cell (j := 0) rfl; have z_b0_0 := (b0.kept HW).free 0; have c_b0_1 := (b0.kept HW).cell (j := 1) rfl; have z_b0_1 := (b0.kept HW).free 1; have c_b1_0 := (b1.kept HW).cell (j := 0) rfl; have z_b1_0 := (b1.kept HW).free 0; have c_b1_1 := (b1.kept HW).cell (j := 1) rfl; have z_b1_1 := (b1.kept HW).free 1; have hs1 := HW.size; clear ff)
    | (go_at_call 119; (with_reducible refine (calls_ri (b := false) (m := val ys) (ineg_any true q m d ys _ (h2.kept HW) (by omega)) HD.out (by rw [Int.natAbs_neg, iv_abs])).mono ?_); rintro e U2 ⟨p2, k2, rfl, o2, ff⟩; replace HW := HW.trans ff (by simp); have c_b0_0 := (b0.kept HW).cell (j := 0) rfl; have z_b0_0 := (b0.kept HW).free 0; have c_b0_1 := (b0.kept HW).cell (j := 1) rfl; have z_b0_1 := (b0.kept HW).free 1; have c_b1_0 := (b1.kept HW).cell (j := 0) rfl; have z_b1_0 := (b1.kept HW).free 0; have c_b1_1 := (b1.kept HW).cell (j := 1) rfl; have z_b1_1 := (b1.kept HW).free 1; replace o1 := o1.kept ff; have hs2 := HW.size; clear ff))
  all_goals (go_wp2_with fail)
  all_goals
    have fx := bset2_fr U2 w.heap.size (.bool s) (.slice p1 (dg (val xs)).length k1)
    have fy := bset2_fr ((U2.setCell ⟨w.heap.size, 0, none⟩ (.bool s)).setCell ⟨w.heap.size, 1, none⟩ (.slice p1 (dg (val xs)).length k1)) (w.heap.size + 1) (.bool false) (.slice p2 (dg (val ys)).length k2)
    have hU := hw.trans HW (by simp)
    have hx := hU.trans fx (fun x hx hl => by have := List.mem_singleton.1 hx; omega)
    replace hw := hx.trans fy (fun x hx hl => by have := List.mem_singleton.1 hx; omega)
    clear hU hx
    replace r0 := ((r0.kept HW).keep fx (by simp)).keep fy (by simp)
    replace o1 := ((o1.mono (show W.heap.size ≤ _ by omega)).far fx (by omega)).far fy (by omega)
    replace o2 := ((o2.mono (show W.heap.size ≤ _ by omega)).far fx (by omega)).far fy (by omega)
    replace ht := g_ht.kept hw
    clear fx fy b0 b1 h1 h2 HW
    generalize ((((U2.setCell ⟨w.heap.size, 0, none⟩ (.bool s)).setCell ⟨w.heap.size, 1, none⟩ (.slice p1 (dg (val xs)).length k1)).setCell ⟨w.heap.size + 1, 0, none⟩ (.bool false)).setCell ⟨w.heap.size + 1, 1, none⟩ (.slice p2 (dg (val ys)).length k2)) = wc at *
    have hbw := r0.lt
    refine (result_g (r := r) s _ _ _ _ _ _ (dg (val xs)) (dg (val ys)) _ ht o1.sl o2.sl HR.out HY.out (by omega) (by omega)).mono ?_
    rintro e V2 ⟨p3, c3, q3, d3, rfl, o3, o4, ff⟩
    have hsz2 := ff.size
    replace hw := hw.trans ff (by simp)
    replace o1 := o1.kept ff
    replace o2 := o2.kept ff
    replace r0 := r0.kept ff
    replace ht := ht.kept ff
    clear ff
    have c_r0_0 := r0.cell (j := 0) rfl
    have f_r0_0 := r0.free 0
    have c_r0_1 := r0.cell (j := 1) rfl
    have f_r0_1 := r0.free 1
    have c_r0_2 := r0.cell (j := 2) rfl
    have f_r0_2 := r0.free 2
    go_wp2_with fail
    exact fin3 r0 hw (by omega) rfl (fun W' c0 c1 c2 => by simp [results, Tryz.results37, go_sem, c0, c1, c2]) (fun W' fb fw => ⟨p3, c3, q3, d3, rfl, (o3.far fb (by omega)).mono (by omega), (o4.far fb (by omega)).mono (by omega), fw⟩)

theorem make_any (g h : Bool) (p q : Option Addr) (n c m d : Nat) (xs ys : List Nat) (w : World) (ht : Tab w) (h1 : Sl w p n c xs) (h2 : Sl w q m d ys) (hn : n ≤ 524287) (hm : m ≤ 524287) (hy : val ys ≠ 0) :
    Calls Tryz.prog 37 #[iw g p n c, iw h q m d] w (RetM w (Rat.divInt (iv g (val xs)) (iv h (val ys)))) := by
  cases h
  · have e : Rat.divInt (iv g (val xs)) (iv false (val ys)) = mkRat (iv g (val xs)) (val ys) := Rat.divInt_ofNat _ _
    rw [e]
    exact make_pos g p q n c m d xs ys w ht h1 h2 hn hm hy
  · have e : Rat.divInt (iv g (val xs)) (iv true (val ys)) = mkRat (-(iv g (val xs))) (val ys) := by
      have := divInt_neg (iv g (val xs)) (-((val ys : Nat) : Int))
      rw [Int.neg_neg, Rat.divInt_ofNat] at this
      exact this.symm
    rw [e]
    exact make_neg g p q n c m d xs ys w ht h1 h2 hn hm hy

end Go.Proofs.YtjjdbhohjphcoaaGreatDoor
