/- What the statements of this claim stand on: of Kp, Val, what they name -/
import Derived.Test.YtagciepnhjbopaaGreatDoorT12
import Derived.Test.YtagciepnhjbopaaGreatDoorT25
import Derived.Test.YtagciepnhjbopaaGreatDoorT26
import Derived.Test.YtagciepnhjbopaaGreatDoorT27

namespace Go.Proofs.YtagciepnhjbopaaGreatDoor
open Go.RowKit

def isU : Value → Bool
  | .int .u32 _ => true
  | .int .u8 _ => true
  | _ => false

def NoU (cs : Array Value) : Prop := ∀ (k : Nat) (v : Value), cs[k]? = some v → isU v = false

def SBx (w : World) (A : Nat) (T : TypeId) (n : Nat) : Prop := ∃ cs, Bx w A T cs ∧ cs.size = n ∧ NoU cs

theorem SBx.lt {w : World} {A : Nat} {T : TypeId} {n : Nat} (h : SBx w A T n) : A < w.heap.size := by
  obtain ⟨cs, h1, _⟩ := h; exact h1.lt

theorem SBx.same {w : World} {A : Nat} {T T' : TypeId} {n n' : Nat} (h : SBx w A T n) (h' : SBx w A T' n') : T = T' ∧ n = n' := by
  obtain ⟨cs, h1, h2, _⟩ := h
  obtain ⟨cs', h1', h2', _⟩ := h'
  unfold Bx at h1 h1'
  rw [h1] at h1'
  injection h1' with h1'
  injection h1' with e1 e2
  subst e1
  exact ⟨e2, by omega⟩

theorem SBx.eq {w w' : World} {A : Nat} {T : TypeId} {n : Nat} (h : SBx w A T n) (e : w'.heap[A]? = w.heap[A]?) : SBx w' A T n := by
  obtain ⟨cs, h1, h2⟩ := h
  exact ⟨cs, e.trans h1, h2⟩

structure Kp (w w' : World) : Prop where
  size : w.heap.size ≤ w'.heap.size
  block : ∀ b, b < w.heap.size → (∃ T n, SBx w b T n ∧ SBx w' b T n) ∨ w'.heap[b]? = w.heap[b]?

theorem Kp.refl (w : World) : Kp w w := ⟨Nat.le_refl _, fun _ _ => Or.inr rfl⟩

theorem Kp.trans {a b c : World} (h : Kp a b) (k : Kp b c) : Kp a c := by
  refine ⟨Nat.le_trans h.size k.size, fun x hx => ?_⟩
  have hx' := Nat.lt_of_lt_of_le hx h.size
  rcases h.block x hx with ⟨T, n, h1, h2⟩ | h1
  · rcases k.block x hx' with ⟨T', n', k1, k2⟩ | k1
    · obtain ⟨rfl, rfl⟩ := h2.same k1
      exact Or.inl ⟨T, n, h1, k2⟩
    · exact Or.inl ⟨T, n, h1, h2.eq k1⟩
  · rcases k.block x hx' with ⟨T', n', k1, k2⟩ | k1
    · exact Or.inl ⟨T', n', k1.eq h1.symm, k2⟩
    · exact Or.inr (k1.trans h1)

theorem Fr.kp {w w' : World} (h : Fr [] w w') : Kp w w' := ⟨h.size, fun b hb => Or.inr (h.block b hb (by simp))⟩

theorem Fr.kp1 {w w' : World} {A : Nat} {T : TypeId} {n : Nat} (h : Fr [A] w w') (h1 : SBx w A T n) (h2 : SBx w' A T n) : Kp w w' := by
  refine ⟨h.size, fun b hb => ?_⟩
  by_cases e : b = A
  · subst e; exact Or.inl ⟨T, n, h1, h2⟩
  · exact Or.inr (h.block b hb (by simpa using e))

def Stb (φ : World → Prop) : Prop := ∀ w w', Kp w w' → φ w → φ w'

theorem Rd.kp {w w' : World} {p : Option Addr} {xs : List Nat} (h : Rd w p xs) (k : Kp w w') : Rd w' p xs := by
  rcases h with rfl | ⟨b, off, rfl, h2, h3⟩
  · exact Or.inl rfl
  · cases xs with
    | nil => exact Or.inl rfl
    | cons x xs =>
      refine Or.inr ⟨b, off, rfl, Nat.lt_of_lt_of_le h2 k.size, fun j hj => ?_⟩
      rcases k.block b h2 with ⟨T, n, ⟨cs, s1, _, s3⟩, _⟩ | e
      · have h0 := h3 0 (by simp)
        rw [cell_of_row w b _ _ _ _ s1] at h0
        exact absurd (s3 (off + 0) _ (by simpa using h0)) (by simp [isU])
      · rw [← h3 j hj]
        exact World.cell?_of_block (w := w) e

theorem Sl.kp {w w' : World} {p : Option Addr} {n c : Nat} {xs : List Nat} (h : Sl w p n c xs) (k : Kp w w') : Sl w' p n c xs :=
  ⟨h.len, h.le, h.cap, h.nil, h.rd.kp k, h.dig⟩

theorem Blk.kp {w w' : World} {g : Nat} {L : List Value} (h : Blk w g L) (k : Kp w w') {j : Nat} {x : Int} (hx : L[j]? = some (.int .u32 x)) : Blk w' g L := by
  rcases k.block g h.lt with ⟨T, n, ⟨cs, s1, _, s3⟩, _⟩ | e
  · exfalso
    unfold Bx at s1
    unfold Blk at h
    rw [h] at s1
    injection s1 with s1
    injection s1 with e1 _
    subst e1
    exact absurd (s3 j _ (by simpa using hx)) (by simp [isU])
  · exact e.trans h

theorem Ow.kp {w w' : World} {base : Nat} {p : Option Addr} {n c : Nat} {xs : List Nat} (h : Ow w base p n c xs) (k : Kp w w') : Ow w' base p n c xs := by
  refine ⟨h.sl.kp k, ?_⟩
  cases xs with
  | nil => exact Or.inl rfl
  | cons x xs =>
    rcases h.own with h0 | ⟨g, L, rfl, h1, hb, hl, ht⟩
    · cases h0
    · exact Or.inr ⟨g, L, rfl, h1, hb.kp k (j := 0) (by have := ht.2 0 (by simp); simpa using this), hl, ht⟩

end Go.Proofs.YtagciepnhjbopaaGreatDoor

namespace Go.Proofs.YtagciepnhjbopaaGreatDoor
open Go.RowKit

theorem Tab.kp {w w' : World} (h : Tab w) (k : Kp w w') : Tab w' := by
  have hb : 0 < w.heap.size := World.block_lt_of_cell? w _ (h 0 (by decide))
  intro j hj
  have h1 := h j hj
  rcases k.block 0 hb with ⟨T, n, ⟨cs, s1, _, s3⟩, _⟩ | e
  · rw [cell_of_row w 0 _ _ _ _ s1] at h1
    exact absurd (s3 _ _ (by simpa using h1)) (by simp [isU])
  · rw [← h1]
    exact World.cell?_of_block (w := w) (a := ⟨0, 2 ^ j * 125613361 % 4294967296 / 134217728, none⟩) e

def VI (w : World) (L : Nat) (z : Int) (v : Value) : Prop := ∃ (g : Bool) (p : Option Addr) (n c : Nat) (X : List Nat), v = iw g p n c ∧ Sl w p n c X ∧ iv g (val X) = z ∧ n ≤ L

def VR (w : World) (L : Nat) (r : Rat) (v : Value) : Prop := ∃ (g : Bool) (p : Option Addr) (n c : Nat) (X : List Nat) (q : Option Addr) (m d : Nat) (Y : List Nat), v = rw' g p n c q m d ∧ Sl w p n c X ∧ Sl w q m d Y ∧ mkRat (iv g (val X)) (val Y) = r ∧ n ≤ L ∧ m ≤ L

def VF (w : World) (L : Nat) (r : Rat) (v : Value) : Prop := ∃ (g : Bool) (p : Option Addr) (n c : Nat) (X : List Nat) (q : Option Addr) (m d : Nat) (Y : List Nat), v = fw g p n c false q m d ∧ Sl w p n c X ∧ Sl w q m d Y ∧ mkRat (iv g (val X)) (val Y) = r ∧ val Y ≠ 0 ∧ n ≤ L ∧ m ≤ L

theorem VI.kp {w w' : World} {L : Nat} {z : Int} {v : Value} (h : VI w L z v) (k : Kp w w') : VI w' L z v := by
  obtain ⟨g, p, n, c, X, e, s, r⟩ := h; exact ⟨g, p, n, c, X, e, s.kp k, r⟩

theorem VR.kp {w w' : World} {L : Nat} {r : Rat} {v : Value} (h : VR w L r v) (k : Kp w w') : VR w' L r v := by
  obtain ⟨g, p, n, c, X, q, m, d, Y, e, s, t, r⟩ := h; exact ⟨g, p, n, c, X, q, m, d, Y, e, s.kp k, t.kp k, r⟩

theorem VF.kp {w w' : World} {L : Nat} {r : Rat} {v : Value} (h : VF w L r v) (k : Kp w w') : VF w' L r v := by
  obtain ⟨g, p, n, c, X, q, m, d, Y, e, s, t, r⟩ := h; exact ⟨g, p, n, c, X, q, m, d, Y, e, s.kp k, t.kp k, r⟩

theorem VI.kept {w w' : World} {L : Nat} {z : Int} {v : Value} (h : VI w L z v) (f : Fr [] w w') : VI w' L z v := h.kp f.kp

theorem VR.kept {w w' : World} {L : Nat} {r : Rat} {v : Value} (h : VR w L r v) (f : Fr [] w w') : VR w' L r v := h.kp f.kp

theorem VF.kept {w w' : World} {L : Nat} {r : Rat} {v : Value} (h : VF w L r v) (f : Fr [] w w') : VF w' L r v := h.kp f.kp

def VZ (w : World) (z : Int) (v : Value) : Prop := ∃ (p : Option Addr) (c : Nat), v = iw (decide (z < 0)) p (dg z.natAbs).length c ∧ Sl w p (dg z.natAbs).length c (dg z.natAbs)

def VQ (w : World) (r : Rat) (v : Value) : Prop := ∃ (p : Option Addr) (c : Nat) (q : Option Addr) (d : Nat), v = rw' (decide (r.num < 0)) p (dg r.num.natAbs).length c q (dg r.den).length d ∧ Sl w p (dg r.num.natAbs).length c (dg r.num.natAbs) ∧ Sl w q (dg r.den).length d (dg r.den)

def VL (w : World) (r : Rat) (v : Value) : Prop := ∃ (p : Option Addr) (c : Nat) (q : Option Addr) (d : Nat), v = fw (decide (r.num < 0)) p (dg r.num.natAbs).length c false q (dg r.den).length d ∧ Sl w p (dg r.num.natAbs).length c (dg r.num.natAbs) ∧ Sl w q (dg r.den).length d (dg r.den)

def VD (w : World) (x : Nat) (v : Value) : Prop := ∃ (p : Option Addr) (c : Nat), v = .slice p (dg x).length c ∧ Sl w p (dg x).length c (dg x)

theorem VZ.kp {w w' : World} {z : Int} {v : Value} (h : VZ w z v) (k : Kp w w') : VZ w' z v := by
  obtain ⟨p, c, e, s⟩ := h; exact ⟨p, c, e, s.kp k⟩

theorem VD.kp {w w' : World} {x : Nat} {v : Value} (h : VD w x v) (k : Kp w w') : VD w' x v := by
  obtain ⟨p, c, e, s⟩ := h; exact ⟨p, c, e, s.kp k⟩

theorem VQ.kp {w w' : World} {r : Rat} {v : Value} (h : VQ w r v) (k : Kp w w') : VQ w' r v := by
  obtain ⟨p, c, q, d, e, s, t⟩ := h; exact ⟨p, c, q, d, e, s.kp k, t.kp k⟩

theorem VL.kp {w w' : World} {r : Rat} {v : Value} (h : VL w r v) (k : Kp w w') : VL w' r v := by
  obtain ⟨p, c, q, d, e, s, t⟩ := h; exact ⟨p, c, q, d, e, s.kp k, t.kp k⟩

theorem VZ.kept {w w' : World} {z : Int} {v : Value} (h : VZ w z v) (f : Fr [] w w') : VZ w' z v := h.kp f.kp

theorem VD.kept {w w' : World} {x : Nat} {v : Value} (h : VD w x v) (f : Fr [] w w') : VD w' x v := h.kp f.kp

theorem VQ.kept {w w' : World} {r : Rat} {v : Value} (h : VQ w r v) (f : Fr [] w w') : VQ w' r v := h.kp f.kp

theorem VL.kept {w w' : World} {r : Rat} {v : Value} (h : VL w r v) (f : Fr [] w w') : VL w' r v := h.kp f.kp

def nz (z : Int) : Nat := (dg z.natAbs).length

def nq (r : Rat) : Nat := nz r.num + (dg r.den).length

theorem VZ.raw {w : World} {z : Int} {v : Value} (h : VZ w z v) {L : Nat} (hL : nz z ≤ L) : VI w L z v := by
  obtain ⟨p, c, e, s⟩ := h
  exact ⟨_, p, _, c, _, e, s, by rw [val_dg]; exact iv_eq rfl rfl, hL⟩

theorem mk_self (r : Rat) : mkRat (iv (decide (r.num < 0)) (val (dg r.num.natAbs))) (val (dg r.den)) = r := by
  rw [val_dg, val_dg, iv_eq rfl rfl]
  exact Rat.mkRat_self r

theorem VQ.raw {w : World} {r : Rat} {v : Value} (h : VQ w r v) {L : Nat} (hL : nq r ≤ L) : VR w L r v := by
  obtain ⟨p, c, q, d, e, s, t⟩ := h
  unfold nq nz at hL
  exact ⟨_, p, _, c, _, q, _, d, _, e, s, t, mk_self r, by omega, by omega⟩

theorem VL.raw {w : World} {r : Rat} {v : Value} (h : VL w r v) {L : Nat} (hL : nq r ≤ L) : VF w L r v := by
  obtain ⟨p, c, q, d, e, s, t⟩ := h
  unfold nq nz at hL
  exact ⟨_, p, _, c, _, q, _, d, _, e, s, t, mk_self r, by rw [val_dg]; exact r.den_nz, by omega, by omega⟩

theorem VI.mono {w : World} {L M : Nat} {z : Int} {v : Value} (h : VI w L z v) (_hL : L ≤ M) : VI w M z v := by
  obtain ⟨g, p, n, c, X, e, s, r, l⟩ := h; exact ⟨g, p, n, c, X, e, s, r, by omega⟩

theorem VR.mono {w : World} {L M : Nat} {r : Rat} {v : Value} (h : VR w L r v) (_hL : L ≤ M) : VR w M r v := by
  obtain ⟨g, p, n, c, X, q, m, d, Y, e, s, t, r, l, l'⟩ := h; exact ⟨g, p, n, c, X, q, m, d, Y, e, s, t, r, by omega, by omega⟩

theorem VF.mono {w : World} {L M : Nat} {r : Rat} {v : Value} (h : VF w L r v) (_hL : L ≤ M) : VF w M r v := by
  obtain ⟨g, p, n, c, X, q, m, d, Y, e, s, t, r, y, l, l'⟩ := h; exact ⟨g, p, n, c, X, q, m, d, Y, e, s, t, r, y, by omega, by omega⟩

theorem nz_len {w : World} {L : Nat} {z : Int} {v : Value} (h : VI w L z v) : nz z ≤ L := by
  obtain ⟨g, p, n, c, X, _, s, rfl, l⟩ := h
  unfold nz
  rw [iv_abs]
  have := dg_len_val s.dig
  rw [s.len] at this
  omega

theorem nz_mul (a b : Int) : nz (a * b) ≤ nz a + nz b := len_mul a b

theorem nz_add (a b : Int) : nz (a + b) ≤ nz a + nz b + 1 := len_add a b

theorem nz_neg (a : Int) : nz (-a) = nz a := len_neg a

theorem nz_nat (a : Nat) : nz (a : Int) = (dg a).length := by unfold nz; rw [Int.natAbs_natCast]

theorem nq_mk (z : Int) {d : Nat} (hd : d ≠ 0) : nq (mkRat z d) ≤ nz z + (dg d).length := by
  unfold nq nz
  have h1 := dg_len_mono (mk_num_le z d)
  have h2 := dg_len_mono (mk_den_le z hd)
  omega

theorem nq_neg (r : Rat) : nq (-r) = nq r := by
  unfold nq
  rw [Rat.neg_num, Rat.neg_den, nz_neg]

def RV (φ : World → Value → Prop) (w : World) (e : Ending) (w' : World) : Prop := ∃ u, e = .returned u ∧ φ w' u ∧ Fr [] w w'

theorem rv_i {w : World} {z : Int} {e : Ending} {w' : World} (h : RetI w z e w') : RV (fun w' => VZ w' z) w e w' := by
  obtain ⟨p, c, rfl, o, f⟩ := h
  exact ⟨_, rfl, ⟨p, c, rfl, o.sl⟩, f⟩

theorem rv_l {w : World} {r : Rat} {e : Ending} {w' : World} (h : RetL w r e w') : RV (fun w' => VL w' r) w e w' := by
  obtain ⟨p, c, q, d, rfl, o, o', f⟩ := h
  exact ⟨_, rfl, ⟨p, c, q, d, rfl, o.sl, o'.sl⟩, f⟩

def RN (z : Int) (w : World) (e : Ending) (w' : World) : Prop := e = .returned (.int .i64 z) ∧ Fr [] w w'

def RB (b : Bool) (w : World) (e : Ending) (w' : World) : Prop := e = .returned (.bool b) ∧ Fr [] w w'

theorem imul_v {w : World} {L M : Nat} {a b : Int} {u u' : Value} (h : VI w L a u) (h' : VI w M b u') (_hL : L ≤ 1048575) (_hM : M ≤ 1048575) : Calls Tryz.prog 99 #[u, u'] w (RV (fun w' => VZ w' (a * b)) w) := by
  obtain ⟨g, p, n, c, X, rfl, s, rfl, l⟩ := h
  obtain ⟨g', p', n', c', X', rfl, s', rfl, l'⟩ := h'
  exact (imul_any g g' p p' n c n' c' X X' w s s' (by omega) (by omega)).mono fun _ _ h => rv_i h

theorem iadd_v {w : World} {L M : Nat} {a b : Int} {u u' : Value} (h : VI w L a u) (h' : VI w M b u') (_hL : L ≤ 1048575) (_hM : M ≤ 1048575) : Calls Tryz.prog 166 #[u, u'] w (RV (fun w' => VZ w' (a + b)) w) := by
  obtain ⟨g, p, n, c, X, rfl, s, rfl, l⟩ := h
  obtain ⟨g', p', n', c', X', rfl, s', rfl, l'⟩ := h'
  exact (iadd_any g g' p p' n c n' c' X X' w s s' (by omega) (by omega)).mono fun _ _ h => rv_i h

theorem ineg_v {w : World} {L : Nat} {a : Int} {u : Value} (h : VI w L a u) (_hL : L ≤ 1048575) : Calls Tryz.prog 119 #[u] w (RV (fun w' => VZ w' (-a)) w) := by
  obtain ⟨g, p, n, c, X, rfl, s, rfl, l⟩ := h
  exact (ineg_any g p n c X w s (by omega)).mono fun _ _ h => rv_i h

theorem icmp_v {w : World} {L M : Nat} {a b : Int} {u u' : Value} (h : VI w L a u) (h' : VI w M b u') (_hL : L ≤ 1048575) (_hM : M ≤ 1048575) : Calls Tryz.prog 110 #[u, u'] w (RN (cmpZ a b) w) := by
  obtain ⟨g, p, n, c, X, rfl, s, rfl, l⟩ := h
  obtain ⟨g', p', n', c', X', rfl, s', rfl, l'⟩ := h'
  exact icmp_any g g' p p' n c n' c' X X' w s s' (by omega) (by omega)

theorem isign_v {w : World} {L : Nat} {a : Int} {u : Value} (h : VI w L a u) (_hL : L ≤ 1048575) : Calls Tryz.prog 109 #[u] w (RN a.sign w) := by
  obtain ⟨g, p, n, c, X, rfl, s, rfl, l⟩ := h
  exact isign_any g p n c X w s (by omega)

theorem iof_v (x : Int) (w : World) (h : -9223372036854775808 ≤ x) (h2 : x ≤ 9223372036854775807) : Calls Tryz.prog 124 #[.int .i64 x] w (RV (fun w' => VZ w' x) w) := (of_any x w h h2).mono fun _ _ h => rv_i h

theorem idiv_v {w : World} {L M : Nat} {a b : Int} {u u' : Value} (h : VI w L a u) (h' : VI w M b u') (_hL : L ≤ 1048575) (_hM : M ≤ 1048575) (hb : b ≠ 0) : Calls Tryz.prog 174 #[u, u'] w fun e w' => ∃ x y, e = .returned (.tuple #[x, y, .int .i64 0]) ∧ VZ w' (a / b) x ∧ VZ w' (a % b) y ∧ Fr [] w w' := by
  obtain ⟨g, p, n, c, X, rfl, s, rfl, l⟩ := h
  obtain ⟨g', p', n', c', X', rfl, s', rfl, l'⟩ := h'
  have h0 : val X' ≠ 0 := by
    intro e
    rw [e] at hb
    cases g' <;> exact hb rfl
  refine (calls_rd (idiv_any g g' p p' n c n' c' X X' w s s' (by omega) (by omega) h0) rfl rfl rfl rfl).mono ?_
  rintro e w' ⟨p1, c1, p2, c2, rfl, o1, o2, f⟩
  exact ⟨_, _, rfl, ⟨p1, c1, rfl, o1.sl⟩, ⟨p2, c2, rfl, o2.sl⟩, f⟩

theorem reduce_v {w : World} {L : Nat} {r : Rat} {u : Value} (ht : Tab w) (h : VF w L r u) (_hL : L ≤ 524287) : Calls Tryz.prog 120 #[u] w (RV (fun w' => VL w' r) w) := by
  obtain ⟨g, p, n, c, X, q, m, d, Y, rfl, s, t, rfl, hy, l, l'⟩ := h
  exact (reduce_any g p q n c m d X Y w ht s t (by omega) (by omega) hy).mono fun _ _ h => rv_l h

end Go.Proofs.YtagciepnhjbopaaGreatDoor
