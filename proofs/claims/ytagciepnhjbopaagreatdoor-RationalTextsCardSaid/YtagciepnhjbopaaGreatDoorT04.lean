/- What the statements of this claim stand on: of Num, Base, Cut, Small, Cmp, what they name -/
import Derived.BigQuiet
import Derived.Deep.QuietTactic
import Derived.Laws.AppendOwnNone
import Derived.Lib.Hide
import Derived.WalkKit
import Derived.WalkLawsBesides
import Derived.WalkSpells
import Derived.Test.YtagciepnhjbopaaGreatDoorRows

namespace Go.Proofs.YtagciepnhjbopaaGreatDoor
def Dg (xs : List Nat) : Prop := ∀ x, x ∈ xs → x < 4294967296

def gd (xs : List Nat) (j : Nat) : Nat := xs.getD j 0

theorem gd_lt {xs : List Nat} {j : Nat} (h : j < xs.length) : gd xs j = xs[j] := by
  rw [gd, List.getD_eq_getElem?_getD, List.getElem?_eq_getElem h]; rfl

theorem gd_ge {xs : List Nat} {j : Nat} (h : xs.length ≤ j) : gd xs j = 0 := by
  rw [gd, List.getD_eq_getElem?_getD, List.getElem?_eq_none h]; rfl

theorem gd_cons_zero (x : Nat) (xs : List Nat) : gd (x :: xs) 0 = x := rfl

theorem gd_cons_succ (x : Nat) (xs : List Nat) (j : Nat) : gd (x :: xs) (j + 1) = gd xs j := rfl

theorem gd_take {xs : List Nat} {j k : Nat} (h : j < k) : gd (xs.take k) j = gd xs j := by
  simp [gd, h]

theorem gd_drop (xs : List Nat) (j k : Nat) : gd (xs.drop k) j = gd xs (k + j) := by
  simp [gd]

theorem gd_append_left {xs ys : List Nat} {j : Nat} (h : j < xs.length) : gd (xs ++ ys) j = gd xs j := by
  simp [gd, List.getElem?_append_left h]

theorem gd_append_right {xs ys : List Nat} {j : Nat} (h : xs.length ≤ j) : gd (xs ++ ys) j = gd ys (j - xs.length) := by
  simp [gd, List.getElem?_append_right h]

theorem gd_set_eq {xs : List Nat} {j x : Nat} (h : j < xs.length) : gd (xs.set j x) j = x := by
  simp [gd, h]

theorem gd_set_ne {xs : List Nat} {j k x : Nat} (h : j ≠ k) : gd (xs.set j x) k = gd xs k := by
  simp [gd, List.getElem?_set_ne h]

theorem gd_ext {xs ys : List Nat} (h : xs.length = ys.length) (k : ∀ j, j < xs.length → gd xs j = gd ys j) : xs = ys := by
  apply List.ext_getElem h
  intro i h1 h2
  have := k i h1
  rwa [gd_lt h1, gd_lt h2] at this

theorem Dg.at {xs : List Nat} (h : Dg xs) (j : Nat) : gd xs j < 4294967296 := by
  by_cases hj : j < xs.length
  · rw [gd_lt hj]
    exact h _ (List.getElem_mem hj)
  · rw [gd_ge (by omega)]
    decide

theorem Dg.nil : Dg [] := by intro x h; cases h

theorem Dg.cons {x : Nat} {xs : List Nat} (h : x < 4294967296) (t : Dg xs) : Dg (x :: xs) := by
  intro y hy
  rcases List.mem_cons.1 hy with rfl | hy
  · exact h
  · exact t _ hy

theorem Dg.tail {x : Nat} {xs : List Nat} (h : Dg (x :: xs)) : Dg xs := fun y hy => h y (List.mem_cons_of_mem _ hy)

theorem Dg.head {x : Nat} {xs : List Nat} (h : Dg (x :: xs)) : x < 4294967296 := h x (List.mem_cons_self ..)

theorem Dg.append {xs ys : List Nat} (h : Dg xs) (k : Dg ys) : Dg (xs ++ ys) := by
  intro y hy
  rcases List.mem_append.1 hy with hy | hy
  · exact h _ hy
  · exact k _ hy

theorem Dg.take {xs : List Nat} (h : Dg xs) (k : Nat) : Dg (xs.take k) := fun y hy => h y (List.mem_of_mem_take hy)

theorem Dg.drop {xs : List Nat} (h : Dg xs) (k : Nat) : Dg (xs.drop k) := fun y hy => h y (List.mem_of_mem_drop hy)

theorem Dg.zeros (n : Nat) : Dg (List.replicate n 0) := by
  intro y hy
  rw [List.eq_of_mem_replicate hy]; decide

theorem Dg.one {x : Nat} (h : x < 4294967296) : Dg [x] := Dg.cons h Dg.nil

theorem Dg.set {xs : List Nat} (h : Dg xs) {x : Nat} (hx : x < 4294967296) (k : Nat) : Dg (xs.set k x) := by
  intro y hy
  rcases List.mem_or_eq_of_mem_set hy with hy | rfl
  · exact h _ hy
  · exact hx

def val : List Nat → Nat
  | [] => 0
  | x :: xs => x + 4294967296 * val xs

def pB (k : Nat) : Nat := 4294967296 ^ k

theorem pB_zero : pB 0 = 1 := rfl

theorem pB_succ (k : Nat) : pB (k + 1) = 4294967296 * pB k := by unfold pB; rw [Nat.pow_succ, Nat.mul_comm]

theorem pB_pos (k : Nat) : 0 < pB k := Nat.pow_pos (by decide)

theorem pB_add (j k : Nat) : pB (j + k) = pB j * pB k := Nat.pow_add _ _ _

theorem pB_mono {j k : Nat} (h : j ≤ k) : pB j ≤ pB k := Nat.pow_le_pow_right (by decide) h

theorem pB_one : pB 1 = 4294967296 := rfl

theorem val_append (xs ys : List Nat) : val (xs ++ ys) = val xs + pB xs.length * val ys := by
  induction xs with
  | nil => simp [val, pB_zero]
  | cons x xs ih =>
    simp only [List.cons_append, val, List.length_cons, pB_succ, ih, Nat.mul_add, Nat.mul_assoc]
    omega

theorem val_one (x : Nat) : val [x] = x := by simp [val]

theorem val_zeros (n : Nat) : val (List.replicate n 0) = 0 := by
  induction n with
  | zero => rfl
  | succ n ih => simp [List.replicate_succ, val, ih]

theorem val_lt {xs : List Nat} (h : Dg xs) : val xs < pB xs.length := by
  induction xs with
  | nil => simp [val, pB_zero]
  | cons x xs ih =>
    have h1 := ih h.tail
    have h2 := h.head
    simp only [val, List.length_cons, pB_succ]
    omega

theorem val_take_succ (xs : List Nat) (k : Nat) : val (xs.take (k + 1)) = val (xs.take k) + pB k * gd xs k := by
  by_cases hk : k < xs.length
  · rw [List.take_succ_eq_append_getElem hk, val_append, val_one, List.length_take, Nat.min_eq_left (by omega), gd_lt hk]
  · rw [List.take_of_length_le (by omega), List.take_of_length_le (by omega), gd_ge (by omega)]
    simp

theorem val_split (xs : List Nat) (k : Nat) (h : k ≤ xs.length) : val xs = val (xs.take k) + pB k * val (xs.drop k) := by
  have h2 : val xs = val (xs.take k ++ xs.drop k) := by rw [List.take_append_drop]
  rw [h2, val_append, List.length_take, Nat.min_eq_left h]

def dg (n : Nat) : List Nat := if n = 0 then [] else n % 4294967296 :: dg (n / 4294967296)
termination_by n
decreasing_by omega

theorem dg_zero : dg 0 = [] := by unfold dg; rfl

theorem dg_pos {n : Nat} (h : n ≠ 0) : dg n = n % 4294967296 :: dg (n / 4294967296) := by rw [dg]; simp [h]

theorem val_dg (n : Nat) : val (dg n) = n := by
  induction n using Nat.strongRecOn with
  | ind n ih =>
    by_cases h : n = 0
    · subst h; rw [dg_zero]; rfl
    · rw [dg_pos h, val, ih _ (by omega)]; omega

theorem Dg_dg (n : Nat) : Dg (dg n) := by
  induction n using Nat.strongRecOn with
  | ind n ih =>
    by_cases h : n = 0
    · subst h; rw [dg_zero]; exact Dg.nil
    · rw [dg_pos h]; exact Dg.cons (by omega) (ih _ (by omega))

theorem dg_nil {n : Nat} : dg n = [] ↔ n = 0 := by
  constructor
  · intro h
    by_cases h0 : n = 0
    · exact h0
    · rw [dg_pos h0] at h; cases h
  · rintro rfl; exact dg_zero

theorem dg_inj {m n : Nat} (h : dg m = dg n) : m = n := by rw [← val_dg m, ← val_dg n, h]

theorem dg_step {x n : Nat} (_hx : x < 4294967296) (h : x + 4294967296 * n ≠ 0) : dg (x + 4294967296 * n) = x :: dg n := by
  rw [dg_pos h]
  have e1 : (x + 4294967296 * n) % 4294967296 = x := by omega
  have e2 : (x + 4294967296 * n) / 4294967296 = n := by omega
  rw [e1, e2]

theorem dg_len_le {n k : Nat} (h : n < pB k) : (dg n).length ≤ k := by
  induction k generalizing n with
  | zero =>
    have : n = 0 := by simp [pB_zero] at h; omega
    subst this; simp [dg_zero]
  | succ k ih =>
    by_cases h0 : n = 0
    · subst h0; simp [dg_zero]
    · rw [dg_pos h0, List.length_cons]
      have := ih (n := n / 4294967296) (by rw [pB_succ] at h; omega)
      omega

theorem dg_lt (n : Nat) : n < pB (dg n).length := by
  have := val_lt (Dg_dg n)
  rwa [val_dg] at this

theorem dg_len_lt {n k : Nat} (_h : pB k ≤ n) : k < (dg n).length := by
  have h1 := dg_lt n
  by_cases hk : (dg n).length ≤ k
  · have := pB_mono hk; omega
  · omega

theorem dg_ge {n : Nat} (h : n ≠ 0) : pB ((dg n).length - 1) ≤ n := by
  by_cases hh : pB ((dg n).length - 1) ≤ n
  · exact hh
  · have h1 := dg_len_le (n := n) (k := (dg n).length - 1) (by omega)
    have h2 : (dg n).length ≠ 0 := by
      intro e; exact h (dg_nil.1 (List.eq_nil_of_length_eq_zero e))
    omega

theorem dg_len_mono {m n : Nat} (h : m ≤ n) : (dg m).length ≤ (dg n).length := dg_len_le (Nat.lt_of_le_of_lt h (dg_lt n))

theorem dg_len_val {xs : List Nat} (h : Dg xs) : (dg (val xs)).length ≤ xs.length := dg_len_le (val_lt h)

theorem dg_last {n k : Nat} (_h : (dg n).length = k + 1) : gd (dg n) k ≠ 0 := by
  intro e
  have h1 := val_take_succ (dg n) k
  rw [List.take_of_length_le (by omega), e, val_dg] at h1
  have h2 := val_lt ((Dg_dg n).take k)
  rw [List.length_take, Nat.min_eq_left (by omega)] at h2
  have h3 := dg_len_le (n := n) (k := k) (by omega)
  omega

def cutN (xs : List Nat) : Nat → Nat
  | 0 => 0
  | k + 1 => if gd xs k = 0 then cutN xs k else k + 1

theorem cutN_le (xs : List Nat) (k : Nat) : cutN xs k ≤ k := by
  induction k with
  | zero => simp [cutN]
  | succ k ih => unfold cutN; split <;> omega

theorem cutN_z {xs : List Nat} {k : Nat} (h : gd xs k = 0) : cutN xs (k + 1) = cutN xs k := by rw [cutN, if_pos h]

theorem cutN_nz {xs : List Nat} {k : Nat} (h : ¬ gd xs k = 0) : cutN xs (k + 1) = k + 1 := by rw [cutN, if_neg h]

theorem dg_of_last {xs : List Nat} (h : Dg xs) (k : Nat) (hk : k < xs.length) (hn : gd xs k ≠ 0) : dg (val (xs.take (k + 1))) = xs.take (k + 1) := by
  induction xs generalizing k with
  | nil => simp at hk
  | cons x xs ih =>
    have hx := h.head
    cases k with
    | zero =>
      have : x ≠ 0 := hn
      simp only [Nat.zero_add, List.take_succ_cons, List.take_zero, val, Nat.mul_zero, Nat.add_zero]
      have e := dg_step (x := x) (n := 0) hx (by omega)
      simpa [dg_zero] using e
    | succ k =>
      simp only [List.length_cons] at hk
      have hn' : gd xs k ≠ 0 := hn
      have e := ih h.tail k (by omega) hn'
      rw [List.take_succ_cons, val]
      rw [dg_step hx, e]
      intro h0
      have : val (xs.take (k + 1)) = 0 := by omega
      rw [this, dg_zero] at e
      have h7 : (xs.take (k + 1)).length = 0 := by rw [← e]; rfl
      rw [List.length_take] at h7
      omega

theorem cutN_take {xs : List Nat} (h : Dg xs) (k : Nat) (_hk : k ≤ xs.length) : xs.take (cutN xs k) = dg (val (xs.take k)) := by
  induction k with
  | zero => simp [cutN, val, dg_zero]
  | succ k ih =>
    by_cases hz : gd xs k = 0
    · rw [cutN_z hz, ih (by omega), val_take_succ, hz]; simp
    · rw [cutN_nz hz, dg_of_last h k (by omega) hz]

theorem cutN_len {xs : List Nat} (h : Dg xs) : cutN xs xs.length = (dg (val xs)).length := by
  have h1 := cutN_take h xs.length (Nat.le_refl _)
  rw [List.take_length] at h1
  rw [← h1, List.length_take, Nat.min_eq_left (cutN_le _ _)]

theorem take_dg {xs : List Nat} (h : Dg xs) : xs.take (dg (val xs)).length = dg (val xs) := by
  rw [← cutN_len h, cutN_take h _ (Nat.le_refl _), List.take_length]

end Go.Proofs.YtagciepnhjbopaaGreatDoor

namespace Go.Proofs.YtagciepnhjbopaaGreatDoor
open Go.RowKit

abbrev dv (x : Nat) : Value := .int .u32 (x : Int)

def Rd (w : World) (p : Option Addr) (xs : List Nat) : Prop :=
  xs = [] ∨ ∃ b off, p = some ⟨b, off, none⟩ ∧ b < w.heap.size ∧ ∀ j, j < xs.length → w.cell? ⟨b, off + j, none⟩ = some (dv (gd xs j))

theorem Rd.open {w : World} {p : Option Addr} {xs : List Nat} (h : Rd w p xs) (h0 : 0 < xs.length) :
    ∃ b off, p = some ⟨b, off, none⟩ ∧ b < w.heap.size ∧ ∀ j, j < xs.length → w.cell? ⟨b, off + j, none⟩ = some (dv (gd xs j)) := by
  rcases h with rfl | h
  · simp at h0
  · exact h

theorem Rd.take {w : World} {p : Option Addr} {xs : List Nat} (h : Rd w p xs) (k : Nat) : Rd w p (xs.take k) := by
  rcases h with rfl | ⟨b, off, h1, h2, h3⟩
  · exact Or.inl (by simp)
  · refine Or.inr ⟨b, off, h1, h2, fun j hj => ?_⟩
    simp only [List.length_take] at hj
    rw [h3 j (by omega), gd_take (by omega)]

theorem Rd.dg {w : World} {p : Option Addr} {xs : List Nat} (h : Rd w p xs) (hd : Dg xs) : Rd w p (dg (val xs)) := by
  rw [← take_dg hd]; exact h.take _

structure Sl (w : World) (p : Option Addr) (n c : Nat) (xs : List Nat) : Prop where
  len : xs.length = n
  le : n ≤ c
  cap : c ≤ 9223372036854775807
  nil : p = none → c = 0
  rd : Rd w p xs
  dig : Dg xs

theorem Sl.cut {w : World} {p : Option Addr} {n c : Nat} {xs : List Nat} (h : Sl w p n c xs) : Sl w p (dg (val xs)).length c (dg (val xs)) :=
  ⟨rfl, Nat.le_trans (dg_len_val h.dig) (by rw [h.len]; exact h.le), h.cap, h.nil, h.rd.dg h.dig, Dg_dg _⟩

theorem wrap_u64_lt {n : Int} (_h0 : 0 ≤ n) (_h : n < 18446744073709551616) : IntKind.u64.wrap n = n := by rw [IntKind.wrap_u64]; omega

theorem wrap_u32_lt {n : Int} (_h0 : 0 ≤ n) (_h : n < 4294967296) : IntKind.u32.wrap n = n := by rw [IntKind.wrap_u32]; omega

theorem wrap_u64_nat (n : Nat) : IntKind.u64.wrap (n : Int) = ((n % 18446744073709551616 : Nat) : Int) := by rw [IntKind.wrap_u64]; omega

theorem wrap_u32_nat (n : Nat) : IntKind.u32.wrap (n : Int) = ((n % 4294967296 : Nat) : Int) := by rw [IntKind.wrap_u32]; omega

theorem or_add (q k b : Nat) (h : b < 2 ^ k) : q * 2 ^ k ||| b = q * 2 ^ k + b := by
  rw [← Nat.shiftLeft_eq, Nat.shiftLeft_add_eq_or_of_lt h]

theorem or64 (a b q k : Nat) (ha : a = q * 2 ^ k) (hb : b < 2 ^ k) (_h : a + b < 18446744073709551616) : bits .or .u64 (a : Int) (b : Int) = ((a + b : Nat) : Int) := by
  rw [bits_or_u64_nat a b (by omega) (by omega)]
  subst ha
  rw [or_add q k b hb]

theorem or64i (x y : Int) (q k : Nat) (hx : x = ((q * 2 ^ k : Nat) : Int)) (hy : 0 ≤ y) (_hb : y < ((2 ^ k : Nat) : Int)) (_h : x + y < 18446744073709551616) : bits .or .u64 x y = x + y := by
  obtain ⟨b, rfl⟩ := Int.eq_ofNat_of_zero_le hy
  subst hx
  rw [or64 _ _ q k rfl (by omega) (by omega)]
  omega

theorem bits_or_u32_nat (a b : Nat) (_ha : a < 4294967296) (_hb : b < 4294967296) : bits .or .u32 (a : Int) (b : Int) = ((a ||| b : Nat) : Int) := by
  have hx : a ||| b < 2 ^ 32 := Nat.or_lt_two_pow (by omega) (by omega)
  have h1 : (BitVec.ofInt 32 (a : Int)).toNat = a := by
    rw [BitVec.ofInt_natCast, BitVec.toNat_ofNat]; exact Nat.mod_eq_of_lt (by omega)
  have h2 : (BitVec.ofInt 32 (b : Int)).toNat = b := by
    rw [BitVec.ofInt_natCast, BitVec.toNat_ofNat]; exact Nat.mod_eq_of_lt (by omega)
  show IntKind.u32.wrap ((BitVec.ofInt 32 (a : Int) ||| BitVec.ofInt 32 (b : Int)).toNat : Int) = _
  rw [BitVec.toNat_or, h1, h2, IntKind.wrap_u32]
  omega

theorem or32i (x y : Int) (q k : Nat) (hx : x = ((q * 2 ^ k : Nat) : Int)) (hy : 0 ≤ y) (_hb : y < ((2 ^ k : Nat) : Int)) (_h : x + y < 4294967296) : bits .or .u32 x y = x + y := by
  obtain ⟨b, rfl⟩ := Int.eq_ofNat_of_zero_le hy
  subst hx
  rw [bits_or_u32_nat _ _ (by omega) (by omega), or_add q k b (by omega)]
  omega

theorem or32j (b a q k : Nat) (ha : a = q * 2 ^ k) (hb : b < 2 ^ k) (_h : b + a < 4294967296) : bits .or .u32 (b : Int) (a : Int) = ((b + a : Nat) : Int) := by
  subst ha
  rw [bits_or_u32_nat _ _ (by omega) (by omega), Nat.or_comm, or_add q k b hb, Nat.add_comm]

structure Fr (S : List Nat) (w w' : World) : Prop where
  os : w'.os = w.os
  tape : w'.tape = w.tape
  output : w'.output = w.output
  size : w.heap.size ≤ w'.heap.size
  block : ∀ k, k < w.heap.size → k ∉ S → w'.heap[k]? = w.heap[k]?

theorem Fr.refl (S : List Nat) (w : World) : Fr S w w := ⟨rfl, rfl, rfl, Nat.le_refl _, fun _ _ _ => rfl⟩

theorem Fr.trans {S T : List Nat} {a b c : World} (h : Fr S a b) (k : Fr T b c) (ht : ∀ x, x ∈ T → x < a.heap.size → x ∈ S) : Fr S a c :=
  ⟨k.os.trans h.os, k.tape.trans h.tape, k.output.trans h.output, Nat.le_trans h.size k.size,
    fun i hi hs => (k.block i (Nat.lt_of_lt_of_le hi h.size) (fun hm => hs (ht i hm hi))).trans (h.block i hi hs)⟩

theorem Fr.mono {S T : List Nat} {a b : World} (h : Fr S a b) (ht : ∀ x, x ∈ S → x < a.heap.size → x ∈ T) : Fr T a b :=
  ⟨h.os, h.tape, h.output, h.size, fun i hi hs => h.block i hi (fun hm => hs (ht i hm hi))⟩

theorem Fr.drew {S : List Nat} {a w : World} (h : Fr S a w) : Fr S a w.drew := ⟨h.os, h.tape, h.output, h.size, h.block⟩

theorem Fr.drewN {S : List Nat} {a w : World} (h : Fr S a w) (n : Nat) : Fr S a (w.drewN n) := ⟨h.os, h.tape, h.output, h.size, h.block⟩

theorem Fr.alloc {S : List Nat} {a w : World} (h : Fr S a w) (o : Obj) : Fr S a (w.alloc o) :=
  h.trans (T := []) ⟨rfl, rfl, rfl, by simp, fun k hk _ => Below.heap_alloc _ _ _ hk⟩ (by simp)

theorem Fr.setCell {S : List Nat} {a w : World} (h : Fr S a w) (p : Addr) (u : Value) (hp : p.block < a.heap.size → p.block ∈ S) : Fr S a (w.setCell p u) :=
  h.trans (T := [p.block]) ⟨rfl, rfl, rfl, by simp [World.setCell], fun k _ hk => Below.heap_setCell _ _ _ _ (by simpa using hk)⟩ (by simpa using hp)

theorem Fr.grown {S : List Nat} {a w w' : World} {row : Option Nat} (h : Fr S a w) (hg : w.grownBy w' row) (hr : ∀ k, row = some k → k < a.heap.size → k ∈ S) : Fr S a w' :=
  h.trans (T := row.toList) ⟨hg.os, hg.tape, hg.output, hg.size, fun k hk hn => hg.block k hk (fun e => hn (by simp [← e]))⟩ (by
    intro x hx h2; exact hr x (by simpa using hx) h2)

theorem Fr.cell {S : List Nat} {w w' : World} (h : Fr S w w') {p : Addr} (hp : p.block < w.heap.size) (hs : p.block ∉ S) : w'.cell? p = w.cell? p :=
  World.cell?_of_block (w := w) (h.block p.block hp hs)

theorem Fr.below {w w' : World} (h : Fr [] w w') : Below w.heap.size w w' := ⟨h.os, h.tape, h.output, h.size, fun k hk => h.block k hk (by simp)⟩

theorem Rd.keep {S : List Nat} {w w' : World} {p : Option Addr} {xs : List Nat} (h : Rd w p xs) (f : Fr S w w') (hs : ∀ a, p = some a → a.block < w.heap.size → a.block ∉ S) : Rd w' p xs := by
  rcases h with rfl | ⟨b, off, rfl, h2, h3⟩
  · exact Or.inl rfl
  · exact Or.inr ⟨b, off, rfl, Nat.lt_of_lt_of_le h2 f.size, fun j hj => (f.cell (p := ⟨b, off + j, none⟩) h2 (hs ⟨b, off, none⟩ rfl h2)).trans (h3 j hj)⟩

theorem Rd.kept {w w' : World} {p : Option Addr} {xs : List Nat} (h : Rd w p xs) (f : Fr [] w w') : Rd w' p xs := h.keep f (by simp)

def Blk (w : World) (g : Nat) (L : List Value) : Prop := w.heap[g]? = some (.cells L.toArray 52 (0, 0))

theorem Blk.lt {w : World} {g : Nat} {L : List Value} (h : Blk w g L) : g < w.heap.size := (Array.getElem?_eq_some_iff.1 h).1

theorem Blk.cell {w : World} {g : Nat} {L : List Value} (h : Blk w g L) {j : Nat} {v : Value} (hj : L[j]? = some v) : w.cell? ⟨g, j, none⟩ = some v := by
  rw [cell_of_row w g j _ _ _ h]
  simpa using hj

theorem Blk.free {w : World} {g : Nat} {L : List Value} (h : Blk w g L) (j : Nat) : w.frozen? ⟨g, j, none⟩ = false := by
  have h' : w.heap[g]? = some (.cells L.toArray 52 (0, 0)) := h
  simp [World.frozen?, h']

theorem Blk.set {w : World} {g : Nat} {L : List Value} (h : Blk w g L) (j : Nat) (v : Value) : Blk (w.setCell ⟨g, j, none⟩ v) g (L.set j v) := by
  have h' : w.heap[g]? = some (.cells L.toArray 52 (0, 0)) := h
  unfold Blk
  simp [World.setCell, Array.getElem?_modify, h']

theorem Blk.keep {S : List Nat} {w w' : World} {g : Nat} {L : List Value} (h : Blk w g L) (f : Fr S w w') (hs : g ∉ S) : Blk w' g L :=
  (f.block g h.lt hs).trans h

theorem Blk.kept {w w' : World} {g : Nat} {L : List Value} (h : Blk w g L) (f : Fr [] w w') : Blk w' g L := h.keep f (by simp)

theorem Blk.made (w : World) (L : List Value) : Blk (w.alloc (.cells L.toArray 52)) w.heap.size L := by
  unfold Blk
  exact heap_alloc_new w _

def Sg (L : List Value) (o : Nat) (zs : List Nat) : Prop := o + zs.length ≤ L.length ∧ ∀ j, j < zs.length → L[o + j]? = some (dv (gd zs j))

theorem Sg.rd {w : World} {g o : Nat} {L : List Value} {zs : List Nat} (h : Sg L o zs) (b : Blk w g L) : Rd w (some ⟨g, o, none⟩) zs :=
  Or.inr ⟨g, o, rfl, b.lt, fun j hj => b.cell (h.2 j hj)⟩

theorem Sg.map (ds : List Nat) : Sg (ds.map dv) 0 ds := by
  refine ⟨by simp, fun j hj => ?_⟩
  simp [hj, gd_lt hj]

theorem Sg.sub {L : List Value} {o : Nat} {zs : List Nat} (h : Sg L o zs) (k m : Nat) (_hk : k + m ≤ zs.length) : Sg L (o + k) ((zs.drop k).take m) := by
  have hl : ((zs.drop k).take m).length = m := by simp; omega
  refine ⟨by rw [hl]; have := h.1; omega, fun j hj => ?_⟩
  rw [hl] at hj
  rw [gd_take hj, gd_drop, Nat.add_assoc]
  exact h.2 (k + j) (by omega)

theorem Sg.take {L : List Value} {o : Nat} {zs : List Nat} (h : Sg L o zs) (m : Nat) (_hk : m ≤ zs.length) : Sg L o (zs.take m) := by
  have := h.sub 0 m (by omega)
  simpa using this

def spl (L : List Value) (o : Nat) (Z : List Nat) : List Value := L.take o ++ Z.map dv ++ L.drop (o + Z.length)

theorem spl_nil (L : List Value) (o : Nat) : spl L o [] = L := by simp [spl]

theorem spl_len {L : List Value} {o : Nat} {Z : List Nat} (_h : o + Z.length ≤ L.length) : (spl L o Z).length = L.length := by
  simp [spl]; omega

theorem spl_at {L : List Value} {o : Nat} {Z : List Nat} (_h : o + Z.length ≤ L.length) (j : Nat) :
    (spl L o Z)[j]? = if j < o then L[j]? else if j < o + Z.length then some (dv (gd Z (j - o))) else L[j]? := by
  unfold spl
  by_cases h1 : j < o
  · rw [if_pos h1, List.getElem?_append_left (by simp; omega), List.getElem?_append_left (by simp; omega), List.getElem?_take, if_pos h1]
  · rw [if_neg h1]
    by_cases h2 : j < o + Z.length
    · rw [if_pos h2, List.getElem?_append_left (by simp; omega), List.getElem?_append_right (by simp; omega)]
      have e : j - (L.take o).length = j - o := by simp; omega
      rw [e, List.getElem?_map, List.getElem?_eq_getElem (by omega), gd_lt (by omega)]
      rfl
    · rw [if_neg h2, List.getElem?_append_right (by simp; omega), List.getElem?_drop]
      congr 1
      simp
      omega

theorem spl_ext {L : List Value} {o : Nat} {Z : List Nat} {M : List Value} (h : o + Z.length ≤ L.length)
    (k : ∀ j, M[j]? = if j < o then L[j]? else if j < o + Z.length then some (dv (gd Z (j - o))) else L[j]?) : M = spl L o Z := by
  apply List.ext_getElem?
  intro j
  rw [k j, spl_at h]

theorem spl_set {L : List Value} {o : Nat} {Z : List Nat} (h : o + Z.length < L.length) (v : Nat) : (spl L o Z).set (o + Z.length) (dv v) = spl L o (Z ++ [v]) := by
  have hl := spl_len (L := L) (o := o) (Z := Z) (by omega)
  apply spl_ext (by simp; omega)
  intro j
  rw [List.getElem?_set, hl, spl_at (by omega)]
  simp only [List.length_append, List.length_cons, List.length_nil]
  by_cases h1 : j < o
  · rw [if_neg (by omega), if_pos h1, if_pos h1]
  · rw [if_neg h1, if_neg h1]
    by_cases h2 : j < o + Z.length
    · rw [if_neg (by omega), if_pos h2, if_pos (by omega), gd_append_left (by omega)]
    · by_cases h3 : o + Z.length = j
      · rw [if_pos h3, if_pos h, if_pos (by omega), gd_append_right (by omega)]
        have e : j - o - Z.length = 0 := by omega
        rw [e]; rfl
      · rw [if_neg h3, if_neg h2, if_neg (by omega)]

theorem spl_down {L : List Value} {o : Nat} {Z : List Nat} (_h : o + 1 + Z.length ≤ L.length) (v : Nat) : (spl L (o + 1) Z).set o (dv v) = spl L o (v :: Z) := by
  have hl := spl_len (L := L) (o := o + 1) (Z := Z) (by omega)
  apply spl_ext (by simp; omega)
  intro j
  rw [List.getElem?_set, hl, spl_at (by omega)]
  simp only [List.length_cons]
  by_cases h1 : j < o
  · rw [if_neg (by omega), if_pos (by omega), if_pos h1]
  · rw [if_neg h1]
    by_cases h3 : o = j
    · subst h3
      rw [if_pos rfl, if_pos (by omega), if_pos (by omega), Nat.sub_self]
      rfl
    · rw [if_neg h3, if_neg (by omega)]
      by_cases h2 : j < o + 1 + Z.length
      · rw [if_pos h2, if_pos (by omega)]
        have e : j - o = (j - (o + 1)) + 1 := by omega
        rw [e, gd_cons_succ]
      · rw [if_neg h2, if_neg (by omega)]

theorem spl_sg {L : List Value} {o : Nat} {Z : List Nat} (h : o + Z.length ≤ L.length) : Sg (spl L o Z) o Z := by
  refine ⟨by rw [spl_len h]; exact h, fun j hj => ?_⟩
  rw [spl_at h, if_neg (by omega), if_pos (by omega), Nat.add_sub_cancel_left]

theorem spl_map {ds Z : List Nat} {o : Nat} : spl (ds.map dv) o Z = (ds.take o ++ Z ++ ds.drop (o + Z.length)).map dv := by
  simp [spl, List.map_take, List.map_drop]

structure Ow (w : World) (base : Nat) (p : Option Addr) (n c : Nat) (xs : List Nat) : Prop where
  sl : Sl w p n c xs
  own : xs = [] ∨ ∃ g L, p = some ⟨g, 0, none⟩ ∧ base ≤ g ∧ Blk w g L ∧ L.length = c ∧ Sg L 0 xs

theorem Ow.keep {S : List Nat} {w w' : World} {base : Nat} {p : Option Addr} {n c : Nat} {xs : List Nat} (h : Ow w base p n c xs) (f : Fr S w w') (hs : ∀ k, base ≤ k → k < w.heap.size → k ∉ S) : Ow w' base p n c xs := by
  have h0 := h.sl
  rcases h.own with rfl | ⟨g, L, rfl, h1, hb, hl, ht⟩
  · exact ⟨⟨h0.len, h0.le, h0.cap, h0.nil, Or.inl rfl, h0.dig⟩, Or.inl rfl⟩
  · have hb' := hb.keep f (hs g h1 hb.lt)
    exact ⟨⟨h0.len, h0.le, h0.cap, h0.nil, ht.rd hb', h0.dig⟩, Or.inr ⟨g, L, rfl, h1, hb', hl, ht⟩⟩

theorem Ow.kept {w w' : World} {base : Nat} {p : Option Addr} {n c : Nat} {xs : List Nat} (h : Ow w base p n c xs) (f : Fr [] w w') : Ow w' base p n c xs := h.keep f (by simp)

theorem Ow.mono {w : World} {b b' : Nat} {p : Option Addr} {n c : Nat} {xs : List Nat} (h : Ow w b p n c xs) (_hb : b' ≤ b) : Ow w b' p n c xs := by
  refine ⟨h.sl, ?_⟩
  rcases h.own with rfl | ⟨g, L, rfl, h1, r⟩
  · exact Or.inl rfl
  · exact Or.inr ⟨g, L, rfl, by omega, r⟩

theorem Sl.keep {S : List Nat} {w w' : World} {p : Option Addr} {n c : Nat} {xs : List Nat} (h : Sl w p n c xs) (f : Fr S w w') (hs : ∀ a, p = some a → a.block < w.heap.size → a.block ∉ S) : Sl w' p n c xs :=
  ⟨h.len, h.le, h.cap, h.nil, h.rd.keep f hs, h.dig⟩

theorem Sl.kept {w w' : World} {p : Option Addr} {n c : Nat} {xs : List Nat} (h : Sl w p n c xs) (f : Fr [] w w') : Sl w' p n c xs := h.keep f (by simp)

theorem Sl.zero (w : World) : Sl w none 0 0 [] := ⟨rfl, Nat.le_refl _, by omega, fun _ => rfl, Or.inl rfl, Dg.nil⟩

theorem Ow.zero (w : World) (base : Nat) : Ow w base none 0 0 [] := ⟨Sl.zero w, Or.inl rfl⟩

theorem Ow.cut {w : World} {base : Nat} {p : Option Addr} {n c : Nat} {xs : List Nat} (h : Ow w base p n c xs) : Ow w base p (dg (val xs)).length c (dg (val xs)) := by
  refine ⟨h.sl.cut, ?_⟩
  rcases h.own with rfl | ⟨g, L, rfl, h1, hb, hl, ht⟩
  · exact Or.inl (by rw [val, dg_zero])
  · refine Or.inr ⟨g, L, rfl, h1, hb, hl, ?_⟩
    have := ht.take _ (dg_len_val h.sl.dig)
    rwa [take_dg h.sl.dig] at this

theorem Ow.of_blk {w : World} {base g : Nat} {ds : List Nat} (h : Blk w g (ds.map dv)) (hb : base ≤ g) (hc : ds.length ≤ 9223372036854775807) (hd : Dg ds) : Ow w base (some ⟨g, 0, none⟩) ds.length ds.length ds :=
  ⟨⟨rfl, Nat.le_refl _, hc, (by intro h; cases h), (Sg.map ds).rd h, hd⟩, Or.inr ⟨g, ds.map dv, rfl, hb, h, by simp, Sg.map ds⟩⟩

theorem Ow.made (w : World) {base : Nat} (ds : List Nat) (hb : base ≤ w.heap.size) (hc : ds.length ≤ 9223372036854775807) (hd : Dg ds) :
    Ow (w.alloc (.cells (ds.map dv).toArray 52)) base (some ⟨w.heap.size, 0, none⟩) ds.length ds.length ds :=
  Ow.of_blk (Blk.made w _) hb hc hd

theorem ow_of_row {w : World} {base n : Nat} {v : Value} {ds : List Nat} (h : w.ownsRow base 52 1 v n (ds.map dv)) (hd : Dg ds) : ∃ p c, v = .slice p ds.length c ∧ Ow w base p ds.length c ds := by
  have hl : ds.length = n := by simpa using h.1
  rcases h.2 with ⟨rfl, h0⟩ | ⟨g, cap, cur, rfl, hg, hh, hn, hm, hs, ht⟩
  · have : ds = [] := List.eq_nil_of_length_eq_zero (by omega)
    subst this
    exact ⟨none, 0, rfl, Ow.zero _ _⟩
  · have hb : Blk w g cur.toList := by simpa [Blk] using hh
    have hsg : Sg cur.toList 0 ds := by
      refine ⟨by simp; omega, fun j hj => ?_⟩
      have e : (cur.toList.take (n * 1))[j]? = (ds.map dv)[j]? := by rw [ht]
      rw [List.getElem?_take, if_pos (by omega), List.getElem?_map, List.getElem?_eq_getElem hj] at e
      rw [Nat.zero_add, e, gd_lt hj]
      rfl
    exact ⟨_, _, by rw [hl], ⟨⟨rfl, by omega, by simpa [maxLen] using hm, (by intro h; cases h), hsg.rd hb, hd⟩, Or.inr ⟨g, cur.toList, rfl, hg, hb, by simpa using hs, hsg⟩⟩⟩

theorem row_nil (w : World) (base : Nat) : w.ownsRow base 52 1 (.slice none 0 0) 0 (([] : List Nat).map dv) := World.ownsRow_nil ..

theorem Rd.news {w : World} {a : Addr} {xs : List Nat} (h : Rd w (some a) xs) : ∀ j u, (xs.map dv)[j]? = some u → w.cell? (a.add j) = some u := by
  intro j u hu
  rcases h with rfl | ⟨b, off, h1, _, h3⟩
  · simp at hu
  · cases h1
    rw [List.getElem?_map] at hu
    by_cases hj : j < xs.length
    · rw [List.getElem?_eq_getElem hj] at hu
      rw [← gd_lt hj] at hu
      have e : (⟨b, off, none⟩ : Addr).add j = ⟨b, off + j, none⟩ := by unfold Addr.add; split <;> simp_all
      rw [e, h3 j hj]
      exact hu
    · rw [List.getElem?_eq_none (by omega)] at hu
      simp at hu

theorem dv_oneCell (xs : List Nat) : ∀ u ∈ xs.map dv, u.oneCell' = true := by
  intro u hu
  obtain ⟨x, _, rfl⟩ := List.mem_map.1 hu
  rfl

theorem Tryz.infoU : (Tryz.prog.info? 52).map (fun i => (i.zero, i.size, i.bytes)) = some (some (.int .u32 0), 1, 4) := by kernel_rfl

def RetOwn (w : World) (xs : List Nat) (e : Ending) (w' : World) : Prop :=
  ∃ p c, e = .returned (.slice p xs.length c) ∧ Ow w' w.heap.size p xs.length c xs ∧ Fr [] w w'

theorem Sl.src {w : World} {p : Option Addr} {n c : Nat} {xs : List Nat} (h : Sl w p n c xs) : p = none ∧ n = 0 ∧ c = 0 ∧ xs = [] ∨ ∃ a, p = some a := by
  cases p with
  | none =>
    have h1 := h.nil rfl
    have h2 := h.le
    have h3 := h.len
    exact Or.inl ⟨rfl, by omega, h1, List.eq_nil_of_length_eq_zero (by omega)⟩
  | some a => exact Or.inr ⟨a, rfl⟩

end Go.Proofs.YtagciepnhjbopaaGreatDoor

namespace Go.Proofs.YtagciepnhjbopaaGreatDoor
open Go.RowKit

theorem ret_slice {p : Option Addr} {n n' c : Nat} (h : n = n') : Ending.returned (.slice p n c) = .returned (.slice p n' c) := by rw [h]

set_option maxRecDepth 100000 in
set_option maxHeartbeats 400000 in
theorem cut_raw (p : Option Addr) (n c : Nat) (xs : List Nat) (w : World) (h : Sl w p n c xs) :
    Calls Tryz.prog 153 #[.slice p n c] w fun e w' => e = .returned (.slice p (cutN xs n) c) ∧ w = w' := by
  have hx := h.len
  have hc := h.le
  have hm := h.cap
  have hp := fun h' => Rd.open h.rd h'
  clear h
  go_enter Tryz.func153, Tryz.ntmps153
  go_wp2
  go_loop [3] (fun s => ∃ k : Nat, k ≤ n ∧ s = .int .i64 k ∧ cutN xs k = cutN xs n) (fun s => (intOf s).toNat)
  case atStart => exact ⟨n, Nat.le_refl _, rfl, rfl⟩
  case round =>
    obtain ⟨k, hk, rfl, hn0⟩ := hrel
    have hn := Lib.hid hn0
    clear hn0
    cases k with
    | zero =>
      go_wp2
      go_ret
      exact ⟨ret_slice hn.out, rfl⟩
    | succ k =>
      obtain ⟨b, off, rfl, _, hcell⟩ := hp (by omega)
      have hck := hcell k (by omega)
      by_cases hz : gd xs k = 0
      · have hz' := Lib.hid hz
        rw [hz] at hck
        clear hcell hz
        go_wp2
        go_round
        case rel => exact ⟨k, by omega, rfl, by rw [← hn.out, cutN_z hz'.out]⟩
        case measure => simp [intOf]
      · have hz' : Hid (cutN xs (k + 1) = k + 1) := cutN_nz hz
        generalize gd xs k = x at *
        go_wp2
        go_ret
        exact ⟨ret_slice (hz'.out.symm.trans hn.out), rfl⟩

theorem cut_any (p : Option Addr) (n c : Nat) (xs : List Nat) (w : World) (h : Sl w p n c xs) :
    Calls Tryz.prog 153 #[.slice p n c] w fun e w' => e = .returned (.slice p (dg (val xs)).length c) ∧ w = w' :=
  (cut_raw p n c xs w h).mono fun e w' ⟨h1, h2⟩ => ⟨h1.trans (ret_slice (by rw [← h.len, cutN_len h.dig])), h2⟩

end Go.Proofs.YtagciepnhjbopaaGreatDoor

namespace Go.Proofs.YtagciepnhjbopaaGreatDoor
open Go.RowKit

set_option maxRecDepth 100000 in
set_option maxHeartbeats 400000 in
theorem normal_any (p : Option Addr) (n c base : Nat) (xs : List Nat) (w : World) (ho : Ow w base p n c xs) :
    Calls Tryz.prog 182 #[.slice p n c] w fun e w' => (∃ p' c', e = .returned (.slice p' (dg (val xs)).length c') ∧ Ow w base p' (dg (val xs)).length c' (dg (val xs))) ∧ w = w' := by
  have hs := ho.sl
  have hc := hs.le
  have hm := hs.cap
  have ho' := ho.cut
  have H0 : (dg (val xs)).length = 0 → dg (val xs) = [] := List.eq_nil_of_length_eq_zero
  have hlen := dg_len_val hs.dig
  rw [hs.len] at hlen
  generalize hv : dg (val xs) = ys at *
  have Hv := Lib.hid hv
  clear hv
  go_enter Tryz.func182, Tryz.ntmps182
  go_wp2_with fail
  refine (cut_any p n c xs w hs).mono ?_
  rintro e w' ⟨rfl, rfl⟩
  rw [Hv.out]
  by_cases hz : ys.length = 0
  · have := H0 hz
    subst this
    simp only [List.length_nil]
    go_wp2
    go_ret
    exact ⟨⟨none, 0, rfl, Ow.zero _ _⟩, rfl⟩
  · have hz' : ((ys.length : Int) == 0) = false := beq_eq_false_iff_ne.2 (by omega)
    go_wp2
    go_ret
    exact ⟨⟨p, c, rfl, ho'⟩, rfl⟩

theorem ret_int {k : IntKind} {a b : Int} (h : a = b) : Ending.returned (.int k a) = .returned (.int k b) := by rw [h]

set_option maxRecDepth 100000 in
set_option maxHeartbeats 400000 in
theorem digit_any (p : Option Addr) (n c : Nat) (i : Int) (xs : List Nat) (w : World) (hs : Sl w p n c xs) (_hc : n ≤ 1099511627776) (h0 : 0 ≤ i) (_hi : i ≤ 2199023255552) :
    Calls Tryz.prog 195 #[.slice p n c, .int .i64 i] w fun e w' => e = .returned (.int .u64 (gd xs i.toNat : Nat)) ∧ w = w' := by
  obtain ⟨k, rfl⟩ := Int.eq_ofNat_of_zero_le h0
  rw [Int.toNat_natCast]
  have hx := hs.len
  by_cases hk : k < n
  · obtain ⟨b, off, rfl, _, hcell⟩ := hs.rd.open (by omega)
    have hck := hcell k (by omega)
    have hd := hs.dig.at k
    generalize gd xs k = x at *
    clear hcell
    go_enter Tryz.func195, Tryz.ntmps195
    go_wp2
    go_ret
    exact ⟨rfl, rfl⟩
  · rw [gd_ge (by omega)]
    go_enter Tryz.func195, Tryz.ntmps195
    go_wp2
    go_ret
    exact ⟨rfl, rfl⟩

theorem val_two {xs : List Nat} (h : xs.length ≤ 2) : val xs = gd xs 0 + 4294967296 * gd xs 1 := by
  match xs, h with
  | [], _ => rfl
  | [x], _ => simp [val, gd]
  | [x, y], _ => simp [val, gd]

set_option maxRecDepth 100000 in
set_option maxHeartbeats 400000 in
theorem word_any (p : Option Addr) (n c : Nat) (xs : List Nat) (w : World) (hs : Sl w p n c xs) (_hc : n ≤ 2) :
    Calls Tryz.prog 161 #[.slice p n c] w fun e w' => e = .returned (.int .u64 (val xs : Nat)) ∧ w = w' := by
  have d0 := hs.dig.at 0
  have d1 := hs.dig.at 1
  have hl : n ≤ 1099511627776 := by omega
  have hx := hs.len
  go_enter Tryz.func161, Tryz.ntmps161
  go_wp2_with fail
  refine (digit_any p n c _ xs w hs hl (by omega) (by omega)).mono ?_
  rintro e w' ⟨rfl, rfl⟩
  go_wp2_with fail
  refine (digit_any p n c _ xs w hs hl (by omega) (by omega)).mono ?_
  rintro e w' ⟨rfl, rfl⟩
  go_wp2_with fail
  go_ret
  refine ⟨ret_int ?_, rfl⟩
  show bits _ _ _ _ = _
  rw [or64i _ _ (gd xs 1) 32 (by omega) (by omega) (by omega) (by omega), val_two (by omega)]
  omega

theorem val_word {x : Nat} : val [x % 4294967296, x / 4294967296] = x := by simp [val]; omega

set_option maxRecDepth 100000 in
set_option maxHeartbeats 400000 in
theorem fromWord_any (x : Nat) (w : World) (_hx : x < 18446744073709551616) :
    Calls Tryz.prog 159 #[.int .u64 x] w (RetOwn w (dg x)) := by
  have ho := Ow.made w (base := w.heap.size) [x % 4294967296, x / 4294967296] (Nat.le_refl _) (by simp) (Dg.cons (by omega) (Dg.one (by omega)))
  simp only [List.map_cons, List.map_nil, List.length_cons, List.length_nil] at ho
  go_enter Tryz.func159, Tryz.ntmps159
  go_wp2_with fail
  refine (normal_any _ _ _ _ _ _ ho).mono ?_
  rw [val_word]
  rintro e w' ⟨⟨p', c', rfl, ho'⟩, rfl⟩
  go_wp2_with fail
  go_ret
  exact ⟨p', c', rfl, ho', (Fr.refl _ _).alloc _⟩

set_option maxRecDepth 100000 in
set_option maxHeartbeats 400000 in
theorem clone_any (p : Option Addr) (n c : Nat) (xs : List Nat) (w : World) (hs : Sl w p n c xs) (_hb : n ≤ 1099511627776) :
    Calls Tryz.prog 155 #[.slice p n c] w (RetOwn w xs) := by
  obtain ⟨i0, hi, hz0, hz1, hz2⟩ := info_parts Tryz.infoU
  rcases hs.src with ⟨rfl, rfl, rfl, rfl⟩ | ⟨a, rfl⟩
  · have heq : ∀ w : World, (binOp .eql 22 (.slice none 0 0) (.slice none 0 0)).run Tryz.prog w = .ok (.bool true) w := fun w => Lib.run_eql_slice_nil w 22 52 none 0 0 0 0 Tryz.underlying22
    go_enter Tryz.func155, Tryz.ntmps155
    go_wp2
    go_ret
    exact ⟨none, 0, rfl, Ow.zero _ _, Fr.refl _ _⟩
  · have heq : ∀ w : World, (binOp .eql 22 (.slice (some a) n c) (.slice none 0 0)).run Tryz.prog w = .ok (.bool false) w := fun w => Lib.run_eql_slice_nil w 22 52 (some a) n c 0 0 Tryz.underlying22
    have hown := World.ownsRow_made (size := 1) (e := 52) w #[] 0 (Nat.le_refl _) (by unfold maxLen; omega) rfl
    have hl := hs.len
    have hrd : Rd (w.alloc (.cells #[] 52)) (some a) xs := hs.rd.kept ((Fr.refl _ _).alloc _)
    go_enter Tryz.func155, Tryz.ntmps155
    go_wp2_with (at_builtin; refine wpList_append_own _ rfl _ _ 22 rfl w.heap.size 52 i0 (.int .u32 0) 1 4 Tryz.underlying22 hi hz0 hz1 hz2 rfl (by decide) _ _ _ rfl hown a n c (xs.map dv) rfl (by simp [hl]) (by exact hrd.news) (by exact dv_oneCell xs) (by unfold maxLen; omega) (by omega) (by simp) ?_)
    intro v' w' hown' hgrow _
    obtain ⟨p, c', rfl, ho⟩ := ow_of_row (by simpa using hown') hs.dig
    go_wp2
    go_ret
    exact ⟨p, c', rfl, ho, ((Fr.refl _ _).alloc _).grown hgrow (by intro k hk; simp [Value.ownBlock] at hk; omega)⟩

set_option maxRecDepth 100000 in
set_option maxHeartbeats 400000 in
theorem trim_any (p : Option Addr) (n c : Nat) (xs : List Nat) (w : World) (hs : Sl w p n c xs) (hb : n ≤ 1099511627776) :
    Calls Tryz.prog 165 #[.slice p n c] w (RetOwn w (dg (val xs))) := by
  go_enter Tryz.func165, Tryz.ntmps165
  go_wp2_with fail
  refine (clone_any _ _ _ _ _ hs hb).mono ?_
  rintro e w1 ⟨p1, c1, rfl, h1, f1⟩
  go_wp2_with fail
  refine (normal_any _ _ _ _ _ _ h1).mono ?_
  rintro e w' ⟨⟨p', c', rfl, ho'⟩, rfl⟩
  go_wp2_with fail
  go_ret
  exact ⟨p', c', rfl, ho', f1⟩

set_option maxRecDepth 100000 in
set_option maxHeartbeats 400000 in
theorem rcut_any (p : Option Addr) (n c : Nat) (xs : List Nat) (w : World) (hs : Sl w p n c xs) (_hb : n ≤ 1099511627776) :
    Calls Tryz.prog 150 #[.slice p n c] w (RetOwn w (dg (val xs))) := by
  obtain ⟨i0, hi, hz0, hz1, hz2⟩ := info_parts Tryz.infoU
  have hx := hs.len
  have hc := hs.le
  have hm := hs.cap
  have hcut := hs.cut
  have hcl : Hid (cutN xs n = (dg (val xs)).length) := by rw [← hx, cutN_len hs.dig]; exact rfl
  have hml : (dg (val xs)).length ≤ n := by have := dg_len_val hs.dig; omega
  generalize dg (val xs) = ys at *
  go_enter Tryz.func150, Tryz.ntmps150
  go_wp2
  go_loop [3] (fun s => ∃ k : Nat, k ≤ n ∧ s = .int .i64 k ∧ cutN xs k = cutN xs n) (fun s => (intOf s).toNat)
  case atStart => exact ⟨n, Nat.le_refl _, rfl, rfl⟩
  case round =>
    obtain ⟨k, hk, rfl, hn0⟩ := hrel
    have hn := Lib.hid hn0
    clear hn0
    have hp := fun h' => Rd.open hs.rd h'
    have fin : k = cutN xs n → Calls Tryz.prog 0 #[] w (fun _ _ => True) → True := fun _ _ => trivial
    clear fin
    cases k with
    | zero =>
      have hk0 : ys = [] := List.eq_nil_of_length_eq_zero (by rw [← hcl.out, ← hn.out]; rfl)
      subst hk0
      rcases hs.src with ⟨rfl, rfl, rfl, rfl⟩ | ⟨a, rfl⟩
      · go_wp2_with (at_builtin; refine wpList_append_own_none rfl _ _ 22 rfl w.heap.size 52 i0 1 Tryz.underlying22 hi _ _ _ rfl (row_nil w _) rfl ?_)
        go_wp2
        go_ret
        exact ⟨none, 0, rfl, Ow.zero _ _, Fr.refl _ _⟩
      · go_wp2_with (at_builtin; refine wpList_append_own _ rfl _ _ 22 rfl w.heap.size 52 i0 (.int .u32 0) 1 4 Tryz.underlying22 hi hz0 hz1 hz2 rfl (by decide) _ _ _ rfl (row_nil w _) a 0 c [] rfl rfl (by simp) (by simp) (by unfold maxLen; omega) (by omega) (by simp) ?_)
        intro v' w' hown' hgrow _hnil
        clear _hnil
        obtain ⟨p, c', rfl, ho⟩ := ow_of_row (by simpa using hown') hcut.dig
        go_wp2
        go_ret
        exact ⟨p, c', rfl, ho, (Fr.refl _ _).grown hgrow (by intro k hk; simp [Value.ownBlock] at hk)⟩
    | succ k =>
      obtain ⟨b, off, rfl, _, hcell⟩ := hp (by omega)
      have hck := hcell k (by omega)
      by_cases hz : gd xs k = 0
      · have hz' := Lib.hid hz
        rw [hz] at hck
        clear hcell hz
        go_wp2
        go_round
        case rel => exact ⟨k, by omega, rfl, by rw [← hn.out, cutN_z hz'.out]⟩
        case measure => simp [intOf]
      · have hk0 : ys.length = k + 1 := by rw [← hcl.out, ← hn.out, cutN_nz hz]
        have hk0' := Lib.hid hk0
        have hnews := hcut.rd.news
        have hcell' : w.cell? { block := b, off := off + k } = some (dv (gd xs k)) := hck
        generalize gd xs k = x at *
        clear hcell hk0
        go_wp2_with (at_builtin; refine wpList_append_own _ rfl _ _ 22 rfl w.heap.size 52 i0 (.int .u32 0) 1 4 Tryz.underlying22 hi hz0 hz1 hz2 rfl (by decide) _ _ _ rfl (row_nil w _) ⟨b, off, none⟩ (k + 1) c (ys.map dv) rfl (by simp [hk0'.out]) (by exact hnews) (by exact dv_oneCell _) (by unfold maxLen; omega) (by omega) (by simp) ?_)
        intro v' w' hown' hgrow _hnil
        clear _hnil
        obtain ⟨p, c', rfl, ho⟩ := ow_of_row (by simpa using hown') hcut.dig
        go_wp2
        go_ret
        exact ⟨p, c', rfl, ho, (Fr.refl _ _).grown hgrow (by intro k hk; simp [Value.ownBlock] at hk)⟩

end Go.Proofs.YtagciepnhjbopaaGreatDoor

namespace Go.Proofs.YtagciepnhjbopaaGreatDoor
open Go.RowKit

theorem drop_eq_succ {A B : List Nat} {k : Nat} (_hl : A.length = B.length) (hk : k < A.length) (h : A.drop (k + 1) = B.drop (k + 1)) (hd : gd A k = gd B k) : A.drop k = B.drop k := by
  rw [List.drop_eq_getElem_cons hk, List.drop_eq_getElem_cons (l := B) (i := k) (by omega), h]
  rw [gd_lt hk, gd_lt (xs := B) (j := k) (by omega)] at hd
  rw [hd]

theorem top_lt {A B : List Nat} {k : Nat} (hA : Dg A) (_hl : A.length = B.length) (_hk : k < A.length) (h : A.drop (k + 1) = B.drop (k + 1)) (hd : gd A k < gd B k) : val A < val B := by
  rw [val_split A (k + 1) (by omega), val_split B (k + 1) (by omega), h, val_take_succ, val_take_succ]
  have h1 := val_lt (hA.take k)
  rw [List.length_take, Nat.min_eq_left (by omega)] at h1
  have h2 : pB k * (gd A k + 1) ≤ pB k * gd B k := Nat.mul_le_mul_left _ hd
  rw [Nat.mul_add] at h2
  omega

def cmpI (x y : Int) : Int := if x < y then -1 else if x > y then 1 else 0

theorem cmpI_lt {x y : Int} (h : x < y) : cmpI x y = -1 := by simp [cmpI, h]

theorem cmpI_gt {x y : Int} (h : y < x) : cmpI x y = 1 := by unfold cmpI; rw [if_neg (by omega), if_pos h]

theorem cmpI_eq (x : Int) : cmpI x x = 0 := by unfold cmpI; rw [if_neg (by omega), if_neg (by omega)]

set_option maxRecDepth 100000 in
set_option maxHeartbeats 400000 in
theorem cmpInt_any (x y : Int) (w : World) : Calls Tryz.prog 188 #[.int .i64 x, .int .i64 y] w fun e w' => e = .returned (.int .i64 (cmpI x y)) ∧ w = w' := by
  by_cases h1 : x < y
  · rw [cmpI_lt h1]
    go_enter Tryz.func188, Tryz.ntmps188
    go_wp2
    go_ret
    exact ⟨rfl, rfl⟩
  · by_cases h2 : y < x
    · rw [cmpI_gt h2]
      go_enter Tryz.func188, Tryz.ntmps188
      go_wp2
      go_ret
      exact ⟨rfl, rfl⟩
    · obtain rfl : x = y := by omega
      rw [cmpI_eq]
      go_enter Tryz.func188, Tryz.ntmps188
      go_wp2
      go_ret
      exact ⟨rfl, rfl⟩

set_option maxRecDepth 100000 in
set_option maxHeartbeats 400000 in
theorem cmpU_any (x y : Int) (w : World) : Calls Tryz.prog 189 #[.int .u32 x, .int .u32 y] w fun e w' => e = .returned (.int .i64 (cmpI x y)) ∧ w = w' := by
  by_cases h1 : x < y
  · rw [cmpI_lt h1]
    go_enter Tryz.func189, Tryz.ntmps189
    go_wp2
    go_ret
    exact ⟨rfl, rfl⟩
  · by_cases h2 : y < x
    · rw [cmpI_gt h2]
      go_enter Tryz.func189, Tryz.ntmps189
      go_wp2
      go_ret
      exact ⟨rfl, rfl⟩
    · obtain rfl : x = y := by omega
      rw [cmpI_eq]
      go_enter Tryz.func189, Tryz.ntmps189
      go_wp2
      go_ret
      exact ⟨rfl, rfl⟩

def cmpN (a b : Nat) : Int := if a < b then -1 else if b < a then 1 else 0

theorem cmpN_len_lt {a b : Nat} (_h : (dg a).length < (dg b).length) : cmpN a b = cmpI (dg a).length (dg b).length := by
  have : a < b := by
    by_cases hh : a < b
    · exact hh
    · have := dg_len_mono (m := b) (n := a) (by omega); omega
  rw [cmpI_lt (by omega), cmpN, if_pos this]

theorem cmpN_len_gt {a b : Nat} (_h : (dg b).length < (dg a).length) : cmpN a b = cmpI (dg a).length (dg b).length := by
  have : b < a := by
    by_cases hh : b < a
    · exact hh
    · have := dg_len_mono (m := a) (n := b) (by omega); omega
  rw [cmpI_gt (by omega), cmpN, if_neg (by omega), if_pos this]

theorem cmpN_dig_lt {a b k : Nat} (hl : (dg a).length = (dg b).length) (hk : k < (dg a).length) (h : (dg a).drop (k + 1) = (dg b).drop (k + 1)) (hd : gd (dg a) k < gd (dg b) k) : cmpN a b = -1 := by
  have := top_lt (Dg_dg a) hl hk h hd
  rw [val_dg, val_dg] at this
  rw [cmpN, if_pos this]

theorem cmpN_dig_gt {a b k : Nat} (hl : (dg a).length = (dg b).length) (_hk : k < (dg a).length) (h : (dg a).drop (k + 1) = (dg b).drop (k + 1)) (hd : gd (dg b) k < gd (dg a) k) : cmpN a b = 1 := by
  have := top_lt (Dg_dg b) hl.symm (by omega) h.symm hd
  rw [val_dg, val_dg] at this
  rw [cmpN, if_neg (by omega), if_pos this]

theorem cmpN_refl (a : Nat) : cmpN a a = 0 := by unfold cmpN; rw [if_neg (by omega), if_neg (by omega)]

theorem cmpN_dig {a b k : Nat} (hl : (dg a).length = (dg b).length) (hk : k < (dg a).length) (h : (dg a).drop (k + 1) = (dg b).drop (k + 1)) (_hd : gd (dg a) k ≠ gd (dg b) k) : cmpI (gd (dg a) k) (gd (dg b) k) = cmpN a b := by
  by_cases h1 : gd (dg a) k < gd (dg b) k
  · rw [cmpN_dig_lt hl hk h h1, cmpI_lt (by omega)]
  · rw [cmpN_dig_gt hl hk h (by omega), cmpI_gt (by omega)]

set_option maxRecDepth 100000 in
set_option maxHeartbeats 1000000 in
theorem compare_any (p q : Option Addr) (n c m d : Nat) (xs ys : List Nat) (w : World) (h1 : Sl w p n c xs) (h2 : Sl w q m d ys) :
    Calls Tryz.prog 154 #[.slice p n c, .slice q m d] w fun e w' => e = .returned (.int .i64 (cmpN (val xs) (val ys))) ∧ Fr [] w w' := by
  have k1 := h1.cut
  have k2 := h2.cut
  go_enter Tryz.func154, Tryz.ntmps154
  go_wp2_with fail
  refine (cut_any _ _ _ _ _ h1).mono ?_
  rintro e w' ⟨rfl, rfl⟩
  go_wp2_with fail
  refine (cut_any _ _ _ _ _ h2).mono ?_
  rintro e w' ⟨rfl, rfl⟩
  have hc := k1.le
  have hm := k1.cap
  have L1 : ∀ h : (dg (val xs)).length < (dg (val ys)).length, _ := fun h => cmpN_len_lt h
  have L2 : ∀ h : (dg (val ys)).length < (dg (val xs)).length, _ := fun h => cmpN_len_gt h
  have L3 : ∀ h : (dg (val xs)).length = (dg (val ys)).length, ∀ k, k < (dg (val xs)).length → (dg (val xs)).drop (k + 1) = (dg (val ys)).drop (k + 1) → gd (dg (val xs)) k ≠ gd (dg (val ys)) k → cmpI (gd (dg (val xs)) k) (gd (dg (val ys)) k) = cmpN (val xs) (val ys) := fun h k => cmpN_dig h
  have L4 : dg (val xs) = dg (val ys) → cmpN (val xs) (val ys) = 0 := fun h => by rw [dg_inj h]; exact cmpN_refl _
  clear h1 h2
  generalize dg (val xs) = A at *
  generalize dg (val ys) = B at *
  by_cases hlen : A.length = B.length
  · have H3 := Lib.hid (L3 hlen)
    have H4 := Lib.hid L4
    clear L1 L2 L3 L4
    have hL := Lib.hid hlen
    rw [← hlen] at k2
    rw [← hlen]
    have hne : ((A.length : Int) != A.length) = false := by simp
    clear hlen
    generalize hn : A.length = n' at *
    have hN := Lib.hid hn
    clear hn
    go_wp2
    go_loopw [5] (fun s wr => ∃ k : Nat, k ≤ n' ∧ s = .int .i64 ((k : Int) - 1) ∧ A.drop k = B.drop k ∧ Fr [] w wr) (fun s _ => (intOf s + 1).toNat)
    case atStart => exact ⟨n', Nat.le_refl _, rfl, by rw [List.drop_of_length_le (by rw [hN.out]; exact Nat.le_refl _), List.drop_of_length_le (by rw [← hL.out]; exact Nat.le_refl _)], Fr.refl _ _⟩
    case round =>
      obtain ⟨k, hk, rfl, hdr, hf⟩ := hrel
      have hdr' := Lib.hid hdr
      clear hdr
      have g1 := (k1.kept hf).rd
      have g2 := (k2.kept hf).rd
      cases k with
      | zero =>
        rw [show (((0 : Nat) : Int) - 1) = -1 from rfl]
        go_wp2
        go_ret
        exact ⟨ret_int (H4.out hdr'.out).symm, hf⟩
      | succ k =>
        rw [show (((k + 1 : Nat) : Int) - 1) = k from by omega]
        have e1 := hN.out
        obtain ⟨b1, o1, rfl, _, m1⟩ := g1.open (by omega)
        obtain ⟨b2, o2, rfl, _, m2⟩ := g2.open (by rw [← hL.out]; omega)
        have c1 := m1 k (by omega)
        have c2 := m2 k (by rw [← hL.out]; omega)
        have d1 := k1.dig.at k
        have d2 := k2.dig.at k
        clear m1 m2
        by_cases hd : gd A k = gd B k
        · have hdd := Lib.hid (drop_eq_succ (hN.out.trans hL.out) (by omega) hdr'.out hd)
          rw [hd] at c1
          clear d1 hd e1
          generalize gd B k = x at *
          have hxx : ((x : Int) != x) = false := by simp
          go_wp2
          go_quiet (fail)
          go_wp2
          go_roundw
          case rel => exact ⟨k, by omega, by go_num, hdd.out, hf.drewN _⟩
          case measure => simp [intOf]
        · have hr := Lib.hid (H3.out k (by omega) hdr'.out hd)
          generalize gd A k = x at *
          generalize gd B k = y at *
          have hxy : ((x : Int) != y) = true := by rw [bne_iff_ne]; omega
          clear e1 hd
          go_wp2
          go_quiet (fail)
          have hf2 := hf.drewN nq
          generalize hwq : wr.drewN nq = wq at *
          have c1' : wq.cell? ⟨b1, o1 + k, none⟩ = some (dv x) := by rw [← hwq]; exact c1
          have c2' : wq.cell? ⟨b2, o2 + k, none⟩ = some (dv y) := by rw [← hwq]; exact c2
          clear hwq c1 c2 hf k1 k2 g1 g2
          go_wp2
          go_quiet ((go_at_call 189; exact Calls.quiet_of_same ((cmpU_any _ _ _).mono fun _ _ h => ⟨h.1, h.2.symm⟩)))
          go_wp2
          go_ret
          exact ⟨ret_int hr.out, hf2.drewN _⟩
  · have hL1 := Lib.hid L1
    have hL2 := Lib.hid L2
    have hne : ((A.length : Int) != B.length) = true := by rw [bne_iff_ne]; omega
    have hfin : Hid (cmpI A.length B.length = cmpN (val xs) (val ys)) := by
      by_cases h : A.length < B.length
      · exact (L1 h).symm
      · exact (L2 (by omega)).symm
    clear L1 L2 L3 L4 hL1 hL2
    go_wp2_with fail
    refine (cmpInt_any _ _ _).mono ?_
    rintro e w' ⟨rfl, rfl⟩
    go_wp2_with fail
    go_ret
    exact ⟨ret_int hfin.out, Fr.refl _ _⟩

end Go.Proofs.YtagciepnhjbopaaGreatDoor
