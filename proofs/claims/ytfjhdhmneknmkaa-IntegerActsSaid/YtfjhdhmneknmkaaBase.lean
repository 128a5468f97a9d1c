/- The memory of digit lists: what a slice of digits reads, blocks that the call made, and the frame of a call. -/
import Derived.Test.YtfjhdhmneknmkaaRows
import Derived.Test.YtfjhdhmneknmkaaNum
import Derived.WalkKit
import Derived.WalkSpells
import Derived.WalkLawsBesides
import Derived.Lib.Hide
import Derived.Laws.AppendOwnNone
namespace Go.Proofs.Ytfjhdhmneknmkaa
open Go.RowKit

/-- A digit as a value. -/
abbrev dv (x : Nat) : Value := .int .u32 (x : Int)

/-- The cells from p on read as the digits xs. -/
def Rd (w : World) (p : Option Addr) (xs : List Nat) : Prop :=
  xs = [] ∨ ∃ b off, p = some ⟨b, off, none⟩ ∧ b < w.heap.size ∧ ∀ j, j < xs.length → w.cell? ⟨b, off + j, none⟩ = some (dv (gd xs j))

theorem Rd.open {w : World} {p : Option Addr} {xs : List Nat} (h : Rd w p xs) (h0 : 0 < xs.length) :
    ∃ b off, p = some ⟨b, off, none⟩ ∧ b < w.heap.size ∧ ∀ j, j < xs.length → w.cell? ⟨b, off + j, none⟩ = some (dv (gd xs j)) := by
  rcases h with rfl | h
  · simp at h0
  · exact h
theorem Rd.take {w : World} {p : Option Addr} {xs : List Nat} (h : Rd w p xs) (k : Nat) : Rd w p (xs.take k) := by
  rcases h with rfl | ⟨b, off, h1, h2, h3⟩
  · exact Or.inl (by simp)
  · refine Or.inr ⟨b, off, h1, h2, fun j hj => ?_⟩
    simp only [List.length_take] at hj
    rw [h3 j (by omega), gd_take (by omega)]
theorem Rd.dg {w : World} {p : Option Addr} {xs : List Nat} (h : Rd w p xs) (hd : Dg xs) : Rd w p (dg (val xs)) := by
  rw [← take_dg hd]; exact h.take _

/-- A slice that reads as the digits xs. -/
structure Sl (w : World) (p : Option Addr) (n c : Nat) (xs : List Nat) : Prop where
  len : xs.length = n
  le : n ≤ c
  cap : c ≤ 9223372036854775807
  nil : p = none → c = 0
  rd : Rd w p xs
  dig : Dg xs
theorem Sl.cut {w : World} {p : Option Addr} {n c : Nat} {xs : List Nat} (h : Sl w p n c xs) : Sl w p (dg (val xs)).length c (dg (val xs)) :=
  ⟨rfl, Nat.le_trans (dg_len_val h.dig) (by rw [h.len]; exact h.le), h.cap, h.nil, h.rd.dg h.dig, Dg_dg _⟩

/-! Bits of words of 64 and 32 bits. -/
theorem wrap_u64_lt {n : Int} (h0 : 0 ≤ n) (h : n < 18446744073709551616) : IntKind.u64.wrap n = n := by rw [IntKind.wrap_u64]; omega
theorem wrap_u32_lt {n : Int} (h0 : 0 ≤ n) (h : n < 4294967296) : IntKind.u32.wrap n = n := by rw [IntKind.wrap_u32]; omega
theorem wrap_u64_nat (n : Nat) : IntKind.u64.wrap (n : Int) = ((n % 18446744073709551616 : Nat) : Int) := by rw [IntKind.wrap_u64]; omega
theorem wrap_u32_nat (n : Nat) : IntKind.u32.wrap (n : Int) = ((n % 4294967296 : Nat) : Int) := by rw [IntKind.wrap_u32]; omega
theorem or_add (q k b : Nat) (h : b < 2 ^ k) : q * 2 ^ k ||| b = q * 2 ^ k + b := by
  rw [← Nat.shiftLeft_eq, Nat.shiftLeft_add_eq_or_of_lt h]
theorem or64 (a b q k : Nat) (ha : a = q * 2 ^ k) (hb : b < 2 ^ k) (h : a + b < 18446744073709551616) : bits .or .u64 (a : Int) (b : Int) = ((a + b : Nat) : Int) := by
  rw [bits_or_u64_nat a b (by omega) (by omega)]
  subst ha
  rw [or_add q k b hb]
theorem or64i (x y : Int) (q k : Nat) (hx : x = ((q * 2 ^ k : Nat) : Int)) (hy : 0 ≤ y) (hb : y < ((2 ^ k : Nat) : Int)) (h : x + y < 18446744073709551616) : bits .or .u64 x y = x + y := by
  obtain ⟨b, rfl⟩ := Int.eq_ofNat_of_zero_le hy
  subst hx
  rw [or64 _ _ q k rfl (by omega) (by omega)]
  omega
theorem bits_or_u32_nat (a b : Nat) (ha : a < 4294967296) (hb : b < 4294967296) : bits .or .u32 (a : Int) (b : Int) = ((a ||| b : Nat) : Int) := by
  have hx : a ||| b < 2 ^ 32 := Nat.or_lt_two_pow (by omega) (by omega)
  have h1 : (BitVec.ofInt 32 (a : Int)).toNat = a := by
    rw [BitVec.ofInt_natCast, BitVec.toNat_ofNat]; exact Nat.mod_eq_of_lt (by omega)
  have h2 : (BitVec.ofInt 32 (b : Int)).toNat = b := by
    rw [BitVec.ofInt_natCast, BitVec.toNat_ofNat]; exact Nat.mod_eq_of_lt (by omega)
  show IntKind.u32.wrap ((BitVec.ofInt 32 (a : Int) ||| BitVec.ofInt 32 (b : Int)).toNat : Int) = _
  rw [BitVec.toNat_or, h1, h2, IntKind.wrap_u32]
  omega
theorem or32i (x y : Int) (q k : Nat) (hx : x = ((q * 2 ^ k : Nat) : Int)) (hy : 0 ≤ y) (hb : y < ((2 ^ k : Nat) : Int)) (h : x + y < 4294967296) : bits .or .u32 x y = x + y := by
  obtain ⟨b, rfl⟩ := Int.eq_ofNat_of_zero_le hy
  subst hx
  rw [bits_or_u32_nat _ _ (by omega) (by omega), or_add q k b (by omega)]
  omega

theorem or32j (b a q k : Nat) (ha : a = q * 2 ^ k) (hb : b < 2 ^ k) (h : b + a < 4294967296) : bits .or .u32 (b : Int) (a : Int) = ((b + a : Nat) : Int) := by
  subst ha
  rw [bits_or_u32_nat _ _ (by omega) (by omega), Nat.or_comm, or_add q k b hb, Nat.add_comm]

/-- Only blocks of S (and new ones) have turned. -/
structure Fr (S : List Nat) (w w' : World) : Prop where
  os : w'.os = w.os
  tape : w'.tape = w.tape
  output : w'.output = w.output
  size : w.heap.size ≤ w'.heap.size
  block : ∀ k, k < w.heap.size → k ∉ S → w'.heap[k]? = w.heap[k]?

theorem Fr.refl (S : List Nat) (w : World) : Fr S w w := ⟨rfl, rfl, rfl, Nat.le_refl _, fun _ _ _ => rfl⟩
theorem Fr.trans {S T : List Nat} {a b c : World} (h : Fr S a b) (k : Fr T b c) (ht : ∀ x, x ∈ T → x < a.heap.size → x ∈ S) : Fr S a c :=
  ⟨k.os.trans h.os, k.tape.trans h.tape, k.output.trans h.output, Nat.le_trans h.size k.size,
    fun i hi hs => (k.block i (Nat.lt_of_lt_of_le hi h.size) (fun hm => hs (ht i hm hi))).trans (h.block i hi hs)⟩
theorem Fr.mono {S T : List Nat} {a b : World} (h : Fr S a b) (ht : ∀ x, x ∈ S → x < a.heap.size → x ∈ T) : Fr T a b :=
  ⟨h.os, h.tape, h.output, h.size, fun i hi hs => h.block i hi (fun hm => hs (ht i hm hi))⟩
theorem Fr.drew {S : List Nat} {a w : World} (h : Fr S a w) : Fr S a w.drew := ⟨h.os, h.tape, h.output, h.size, h.block⟩
theorem Fr.drewN {S : List Nat} {a w : World} (h : Fr S a w) (n : Nat) : Fr S a (w.drewN n) := ⟨h.os, h.tape, h.output, h.size, h.block⟩
theorem Fr.alloc {S : List Nat} {a w : World} (h : Fr S a w) (o : Obj) : Fr S a (w.alloc o) :=
  h.trans (T := []) ⟨rfl, rfl, rfl, by simp, fun k hk _ => Below.heap_alloc _ _ _ hk⟩ (by simp)
theorem Fr.setCell {S : List Nat} {a w : World} (h : Fr S a w) (p : Addr) (u : Value) (hp : p.block < a.heap.size → p.block ∈ S) : Fr S a (w.setCell p u) :=
  h.trans (T := [p.block]) ⟨rfl, rfl, rfl, by simp [World.setCell], fun k _ hk => Below.heap_setCell _ _ _ _ (by simpa using hk)⟩ (by simpa using hp)
theorem Fr.grown {S : List Nat} {a w w' : World} {row : Option Nat} (h : Fr S a w) (hg : w.grownBy w' row) (hr : ∀ k, row = some k → k < a.heap.size → k ∈ S) : Fr S a w' :=
  h.trans (T := row.toList) ⟨hg.os, hg.tape, hg.output, hg.size, fun k hk hn => hg.block k hk (fun e => hn (by simp [← e]))⟩ (by
    intro x hx h2; exact hr x (by simpa using hx) h2)
theorem Fr.cell {S : List Nat} {w w' : World} (h : Fr S w w') {p : Addr} (hp : p.block < w.heap.size) (hs : p.block ∉ S) : w'.cell? p = w.cell? p :=
  World.cell?_of_block (w := w) (h.block p.block hp hs)
theorem Fr.below {w w' : World} (h : Fr [] w w') : Below w.heap.size w w' := ⟨h.os, h.tape, h.output, h.size, fun k hk => h.block k hk (by simp)⟩
theorem Rd.keep {S : List Nat} {w w' : World} {p : Option Addr} {xs : List Nat} (h : Rd w p xs) (f : Fr S w w') (hs : ∀ a, p = some a → a.block < w.heap.size → a.block ∉ S) : Rd w' p xs := by
  rcases h with rfl | ⟨b, off, rfl, h2, h3⟩
  · exact Or.inl rfl
  · exact Or.inr ⟨b, off, rfl, Nat.lt_of_lt_of_le h2 f.size, fun j hj => (f.cell (p := ⟨b, off + j, none⟩) h2 (hs ⟨b, off, none⟩ rfl h2)).trans (h3 j hj)⟩
theorem Rd.kept {w w' : World} {p : Option Addr} {xs : List Nat} (h : Rd w p xs) (f : Fr [] w w') : Rd w' p xs := h.keep f (by simp)

/-- Block g is a row of just the cells L. -/
def Blk (w : World) (g : Nat) (L : List Value) : Prop := w.heap[g]? = some (.cells L.toArray 57 (0, 0))

theorem Blk.lt {w : World} {g : Nat} {L : List Value} (h : Blk w g L) : g < w.heap.size := (Array.getElem?_eq_some_iff.1 h).1
theorem Blk.cell {w : World} {g : Nat} {L : List Value} (h : Blk w g L) {j : Nat} {v : Value} (hj : L[j]? = some v) : w.cell? ⟨g, j, none⟩ = some v := by
  rw [cell_of_row w g j _ _ _ h]
  simpa using hj
theorem Blk.free {w : World} {g : Nat} {L : List Value} (h : Blk w g L) (j : Nat) : w.frozen? ⟨g, j, none⟩ = false := by
  have h' : w.heap[g]? = some (.cells L.toArray 57 (0, 0)) := h
  simp [World.frozen?, h']
theorem Blk.set {w : World} {g : Nat} {L : List Value} (h : Blk w g L) (j : Nat) (v : Value) : Blk (w.setCell ⟨g, j, none⟩ v) g (L.set j v) := by
  have h' : w.heap[g]? = some (.cells L.toArray 57 (0, 0)) := h
  unfold Blk
  simp [World.setCell, Array.getElem?_modify, h']
theorem Blk.keep {S : List Nat} {w w' : World} {g : Nat} {L : List Value} (h : Blk w g L) (f : Fr S w w') (hs : g ∉ S) : Blk w' g L :=
  (f.block g h.lt hs).trans h
theorem Blk.kept {w w' : World} {g : Nat} {L : List Value} (h : Blk w g L) (f : Fr [] w w') : Blk w' g L := h.keep f (by simp)
theorem Blk.made (w : World) (L : List Value) : Blk (w.alloc (.cells L.toArray 57)) w.heap.size L := by
  unfold Blk
  exact heap_alloc_new w _

/-- L holds the digits zs from place o on. -/
def Sg (L : List Value) (o : Nat) (zs : List Nat) : Prop := o + zs.length ≤ L.length ∧ ∀ j, j < zs.length → L[o + j]? = some (dv (gd zs j))

theorem Sg.rd {w : World} {g o : Nat} {L : List Value} {zs : List Nat} (h : Sg L o zs) (b : Blk w g L) : Rd w (some ⟨g, o, none⟩) zs :=
  Or.inr ⟨g, o, rfl, b.lt, fun j hj => b.cell (h.2 j hj)⟩
theorem Sg.map (ds : List Nat) : Sg (ds.map dv) 0 ds := by
  refine ⟨by simp, fun j hj => ?_⟩
  simp [hj, gd_lt hj]
theorem Sg.sub {L : List Value} {o : Nat} {zs : List Nat} (h : Sg L o zs) (k m : Nat) (hk : k + m ≤ zs.length) : Sg L (o + k) ((zs.drop k).take m) := by
  have hl : ((zs.drop k).take m).length = m := by simp; omega
  refine ⟨by rw [hl]; have := h.1; omega, fun j hj => ?_⟩
  rw [hl] at hj
  rw [gd_take hj, gd_drop, Nat.add_assoc]
  exact h.2 (k + j) (by omega)
theorem Sg.take {L : List Value} {o : Nat} {zs : List Nat} (h : Sg L o zs) (m : Nat) (hk : m ≤ zs.length) : Sg L o (zs.take m) := by
  have := h.sub 0 m (by omega)
  simpa using this

/-- L with the digits Z laid from place o on. -/
def spl (L : List Value) (o : Nat) (Z : List Nat) : List Value := L.take o ++ Z.map dv ++ L.drop (o + Z.length)

theorem spl_nil (L : List Value) (o : Nat) : spl L o [] = L := by simp [spl]
theorem spl_len {L : List Value} {o : Nat} {Z : List Nat} (h : o + Z.length ≤ L.length) : (spl L o Z).length = L.length := by
  simp [spl]; omega
theorem spl_at {L : List Value} {o : Nat} {Z : List Nat} (h : o + Z.length ≤ L.length) (j : Nat) :
    (spl L o Z)[j]? = if j < o then L[j]? else if j < o + Z.length then some (dv (gd Z (j - o))) else L[j]? := by
  unfold spl
  by_cases h1 : j < o
  · rw [if_pos h1, List.getElem?_append_left (by simp; omega), List.getElem?_append_left (by simp; omega), List.getElem?_take, if_pos h1]
  · rw [if_neg h1]
    by_cases h2 : j < o + Z.length
    · rw [if_pos h2, List.getElem?_append_left (by simp; omega), List.getElem?_append_right (by simp; omega)]
      have e : j - (L.take o).length = j - o := by simp; omega
      rw [e, List.getElem?_map, List.getElem?_eq_getElem (by omega), gd_lt (by omega)]
      rfl
    · rw [if_neg h2, List.getElem?_append_right (by simp; omega), List.getElem?_drop]
      congr 1
      simp
      omega
theorem spl_ext {L : List Value} {o : Nat} {Z : List Nat} {M : List Value} (h : o + Z.length ≤ L.length)
    (k : ∀ j, M[j]? = if j < o then L[j]? else if j < o + Z.length then some (dv (gd Z (j - o))) else L[j]?) : M = spl L o Z := by
  apply List.ext_getElem?
  intro j
  rw [k j, spl_at h]
theorem spl_set {L : List Value} {o : Nat} {Z : List Nat} (h : o + Z.length < L.length) (v : Nat) : (spl L o Z).set (o + Z.length) (dv v) = spl L o (Z ++ [v]) := by
  have hl := spl_len (L := L) (o := o) (Z := Z) (by omega)
  apply spl_ext (by simp; omega)
  intro j
  rw [List.getElem?_set, hl, spl_at (by omega)]
  simp only [List.length_append, List.length_cons, List.length_nil]
  by_cases h1 : j < o
  · rw [if_neg (by omega), if_pos h1, if_pos h1]
  · rw [if_neg h1, if_neg h1]
    by_cases h2 : j < o + Z.length
    · rw [if_neg (by omega), if_pos h2, if_pos (by omega), gd_append_left (by omega)]
    · by_cases h3 : o + Z.length = j
      · rw [if_pos h3, if_pos h, if_pos (by omega), gd_append_right (by omega)]
        have e : j - o - Z.length = 0 := by omega
        rw [e]; rfl
      · rw [if_neg h3, if_neg h2, if_neg (by omega)]
theorem spl_down {L : List Value} {o : Nat} {Z : List Nat} (h : o + 1 + Z.length ≤ L.length) (v : Nat) : (spl L (o + 1) Z).set o (dv v) = spl L o (v :: Z) := by
  have hl := spl_len (L := L) (o := o + 1) (Z := Z) (by omega)
  apply spl_ext (by simp; omega)
  intro j
  rw [List.getElem?_set, hl, spl_at (by omega)]
  simp only [List.length_cons]
  by_cases h1 : j < o
  · rw [if_neg (by omega), if_pos (by omega), if_pos h1]
  · rw [if_neg h1]
    by_cases h3 : o = j
    · subst h3
      rw [if_pos rfl, if_pos (by omega), if_pos (by omega), Nat.sub_self]
      rfl
    · rw [if_neg h3, if_neg (by omega)]
      by_cases h2 : j < o + 1 + Z.length
      · rw [if_pos h2, if_pos (by omega)]
        have e : j - o = (j - (o + 1)) + 1 := by omega
        rw [e, gd_cons_succ]
      · rw [if_neg h2, if_neg (by omega)]
theorem spl_sg {L : List Value} {o : Nat} {Z : List Nat} (h : o + Z.length ≤ L.length) : Sg (spl L o Z) o Z := by
  refine ⟨by rw [spl_len h]; exact h, fun j hj => ?_⟩
  rw [spl_at h, if_neg (by omega), if_pos (by omega), Nat.add_sub_cancel_left]
theorem spl_map {ds Z : List Nat} {o : Nat} : spl (ds.map dv) o Z = (ds.take o ++ Z ++ ds.drop (o + Z.length)).map dv := by
  simp [spl, List.map_take, List.map_drop]

/-- A slice of the call's own, in a block from base on. -/
structure Ow (w : World) (base : Nat) (p : Option Addr) (n c : Nat) (xs : List Nat) : Prop where
  sl : Sl w p n c xs
  own : xs = [] ∨ ∃ g L, p = some ⟨g, 0, none⟩ ∧ base ≤ g ∧ Blk w g L ∧ L.length = c ∧ Sg L 0 xs

theorem Ow.keep {S : List Nat} {w w' : World} {base : Nat} {p : Option Addr} {n c : Nat} {xs : List Nat} (h : Ow w base p n c xs) (f : Fr S w w') (hs : ∀ k, base ≤ k → k < w.heap.size → k ∉ S) : Ow w' base p n c xs := by
  have h0 := h.sl
  rcases h.own with rfl | ⟨g, L, rfl, h1, hb, hl, ht⟩
  · exact ⟨⟨h0.len, h0.le, h0.cap, h0.nil, Or.inl rfl, h0.dig⟩, Or.inl rfl⟩
  · have hb' := hb.keep f (hs g h1 hb.lt)
    exact ⟨⟨h0.len, h0.le, h0.cap, h0.nil, ht.rd hb', h0.dig⟩, Or.inr ⟨g, L, rfl, h1, hb', hl, ht⟩⟩
theorem Ow.kept {w w' : World} {base : Nat} {p : Option Addr} {n c : Nat} {xs : List Nat} (h : Ow w base p n c xs) (f : Fr [] w w') : Ow w' base p n c xs := h.keep f (by simp)
theorem Ow.mono {w : World} {b b' : Nat} {p : Option Addr} {n c : Nat} {xs : List Nat} (h : Ow w b p n c xs) (hb : b' ≤ b) : Ow w b' p n c xs := by
  refine ⟨h.sl, ?_⟩
  rcases h.own with rfl | ⟨g, L, rfl, h1, r⟩
  · exact Or.inl rfl
  · exact Or.inr ⟨g, L, rfl, by omega, r⟩
theorem Sl.keep {S : List Nat} {w w' : World} {p : Option Addr} {n c : Nat} {xs : List Nat} (h : Sl w p n c xs) (f : Fr S w w') (hs : ∀ a, p = some a → a.block < w.heap.size → a.block ∉ S) : Sl w' p n c xs :=
  ⟨h.len, h.le, h.cap, h.nil, h.rd.keep f hs, h.dig⟩
theorem Sl.kept {w w' : World} {p : Option Addr} {n c : Nat} {xs : List Nat} (h : Sl w p n c xs) (f : Fr [] w w') : Sl w' p n c xs := h.keep f (by simp)
theorem Sl.zero (w : World) : Sl w none 0 0 [] := ⟨rfl, Nat.le_refl _, by omega, fun _ => rfl, Or.inl rfl, Dg.nil⟩
theorem Ow.zero (w : World) (base : Nat) : Ow w base none 0 0 [] := ⟨Sl.zero w, Or.inl rfl⟩
theorem Ow.cut {w : World} {base : Nat} {p : Option Addr} {n c : Nat} {xs : List Nat} (h : Ow w base p n c xs) : Ow w base p (dg (val xs)).length c (dg (val xs)) := by
  refine ⟨h.sl.cut, ?_⟩
  rcases h.own with rfl | ⟨g, L, rfl, h1, hb, hl, ht⟩
  · exact Or.inl (by rw [val, dg_zero])
  · refine Or.inr ⟨g, L, rfl, h1, hb, hl, ?_⟩
    have := ht.take _ (dg_len_val h.sl.dig)
    rwa [take_dg h.sl.dig] at this
theorem Ow.of_blk {w : World} {base g : Nat} {ds : List Nat} (h : Blk w g (ds.map dv)) (hb : base ≤ g) (hc : ds.length ≤ 9223372036854775807) (hd : Dg ds) : Ow w base (some ⟨g, 0, none⟩) ds.length ds.length ds :=
  ⟨⟨rfl, Nat.le_refl _, hc, (by intro h; cases h), (Sg.map ds).rd h, hd⟩, Or.inr ⟨g, ds.map dv, rfl, hb, h, by simp, Sg.map ds⟩⟩
theorem Ow.made (w : World) {base : Nat} (ds : List Nat) (hb : base ≤ w.heap.size) (hc : ds.length ≤ 9223372036854775807) (hd : Dg ds) :
    Ow (w.alloc (.cells (ds.map dv).toArray 57)) base (some ⟨w.heap.size, 0, none⟩) ds.length ds.length ds :=
  Ow.of_blk (Blk.made w _) hb hc hd
/-- What the laws on append and make leave. -/
theorem ow_of_row {w : World} {base n : Nat} {v : Value} {ds : List Nat} (h : w.ownsRow base 57 1 v n (ds.map dv)) (hd : Dg ds) : ∃ p c, v = .slice p ds.length c ∧ Ow w base p ds.length c ds := by
  have hl : ds.length = n := by simpa using h.1
  rcases h.2 with ⟨rfl, h0⟩ | ⟨g, cap, cur, rfl, hg, hh, hn, hm, hs, ht⟩
  · have : ds = [] := List.eq_nil_of_length_eq_zero (by omega)
    subst this
    exact ⟨none, 0, rfl, Ow.zero _ _⟩
  · have hb : Blk w g cur.toList := by simpa [Blk] using hh
    have hsg : Sg cur.toList 0 ds := by
      refine ⟨by simp; omega, fun j hj => ?_⟩
      have e : (cur.toList.take (n * 1))[j]? = (ds.map dv)[j]? := by rw [ht]
      rw [List.getElem?_take, if_pos (by omega), List.getElem?_map, List.getElem?_eq_getElem hj] at e
      rw [Nat.zero_add, e, gd_lt hj]
      rfl
    exact ⟨_, _, by rw [hl], ⟨⟨rfl, by omega, by simpa [maxLen] using hm, (by intro h; cases h), hsg.rd hb, hd⟩, Or.inr ⟨g, cur.toList, rfl, hg, hb, by simpa using hs, hsg⟩⟩⟩
theorem row_nil (w : World) (base : Nat) : w.ownsRow base 57 1 (.slice none 0 0) 0 (([] : List Nat).map dv) := World.ownsRow_nil ..
theorem Rd.news {w : World} {a : Addr} {xs : List Nat} (h : Rd w (some a) xs) : ∀ j u, (xs.map dv)[j]? = some u → w.cell? (a.add j) = some u := by
  intro j u hu
  rcases h with rfl | ⟨b, off, h1, _, h3⟩
  · simp at hu
  · cases h1
    rw [List.getElem?_map] at hu
    by_cases hj : j < xs.length
    · rw [List.getElem?_eq_getElem hj] at hu
      rw [← gd_lt hj] at hu
      have e : (⟨b, off, none⟩ : Addr).add j = ⟨b, off + j, none⟩ := by unfold Addr.add; split <;> simp_all
      rw [e, h3 j hj]
      exact hu
    · rw [List.getElem?_eq_none (by omega)] at hu
      simp at hu
theorem dv_oneCell (xs : List Nat) : ∀ u ∈ xs.map dv, u.oneCell' = true := by
  intro u hu
  obtain ⟨x, _, rfl⟩ := List.mem_map.1 hu
  rfl
theorem Try.infoU : (Try.prog.info? 57).map (fun i => (i.zero, i.size, i.bytes)) = some (some (.int .u32 0), 1, 4) := by kernel_rfl

/-- The call returned a slice of its own that reads as xs, and has left all else. -/
def RetOwn (w : World) (xs : List Nat) (e : Ending) (w' : World) : Prop :=
  ∃ p c, e = .returned (.slice p xs.length c) ∧ Ow w' w.heap.size p xs.length c xs ∧ Fr [] w w'

/-- 'append' to nothing: a copy. -/
theorem Sl.src {w : World} {p : Option Addr} {n c : Nat} {xs : List Nat} (h : Sl w p n c xs) : p = none ∧ n = 0 ∧ c = 0 ∧ xs = [] ∨ ∃ a, p = some a := by
  cases p with
  | none =>
    have h1 := h.nil rfl
    have h2 := h.le
    have h3 := h.len
    exact Or.inl ⟨rfl, by omega, h1, List.eq_nil_of_length_eq_zero (by omega)⟩
  | some a => exact Or.inr ⟨a, rfl⟩

end Go.Proofs.Ytfjhdhmneknmkaa
