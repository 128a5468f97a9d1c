/- What the statements of this claim stand on: of Ki, what they name -/
import Derived.Test.YtagciepnhjbopaaGreatDoorA03
import Derived.Test.YtagciepnhjbopaaGreatDoorA28
import Derived.Test.YtagciepnhjbopaaGreatDoorA30

namespace Go.Proofs.YtagciepnhjbopaaGreatDoor
open Go.RowKit En

theorem Rd.up {w w' : World} {p : Option Addr} {xs : List Nat} (g : Grows w w') (h : Rd w p xs) : Rd w' p xs := by
  rcases h with rfl | ⟨b, off, rfl, h2, h3⟩
  · exact Or.inl rfl
  · exact Or.inr ⟨b, off, rfl, Nat.lt_of_lt_of_le h2 g.size, fun j hj => g.cell (h3 j hj)⟩

theorem Sl.up {w w' : World} {p : Option Addr} {n c : Nat} {xs : List Nat} (g : Grows w w') (h : Sl w p n c xs) : Sl w' p n c xs := ⟨h.len, h.le, h.cap, h.nil, h.rd.up g, h.dig⟩

theorem Tab.up (w w' : World) (g : Grows w w') (h : Tab w) : Tab w' := fun k hk => g.cell (h k hk)

theorem hide_cell {S : Nat → Prop} {w : World} {a : Addr} {v : Value} (hs : ¬ S a.block) (h : w.cell? a = some v) : (hide S w).cell? a = some v := by
  unfold World.cell? at h ⊢
  split at h
  · rename_i c T f hb
    rw [(hide_get S w a.block c T f).2 ⟨hs, hb⟩]
    exact h
  · cases h

theorem Rd.hide {S : Nat → Prop} {w : World} {p : Option Addr} {xs : List Nat} (hS : ∀ b, S b → Plain w b) (h : Rd w p xs) : Rd (hide S w) p xs := by
  rcases h with rfl | ⟨b, off, rfl, h2, h3⟩
  · exact Or.inl rfl
  · cases xs with
    | nil => exact Or.inl rfl
    | cons x xs =>
      refine Or.inr ⟨b, off, rfl, by rw [hide_size]; exact h2, fun j hj => hide_cell (fun hs => ?_) (h3 j hj)⟩
      obtain ⟨cs, T, e, hp⟩ := hS b hs
      have h0 := h3 0 (by simp)
      rw [cell_at e] at h0
      have := hp _ (List.mem_of_getElem? h0)
      simp [cellOk] at this

theorem Sl.hide {S : Nat → Prop} {w : World} {p : Option Addr} {n c : Nat} {xs : List Nat} (hS : ∀ b, S b → Plain w b) (h : Sl w p n c xs) : Sl (hide S w) p n c xs := ⟨h.len, h.le, h.cap, h.nil, h.rd.hide hS, h.dig⟩

def VN (w : World) (L x : Nat) (v : Value) : Prop := ∃ (p : Option Addr) (n c : Nat) (X : List Nat), v = .slice p n c ∧ Sl w p n c X ∧ val X = x ∧ n ≤ L

theorem VN.ho {w w' : World} (k : ∀ {p n c xs}, Sl w p n c xs → Sl w' p n c xs) {L x : Nat} {v : Value} : VN w L x v → VN w' L x v
  | ⟨p, n, c, X, e, s, r⟩ => ⟨p, n, c, X, e, k s, r⟩

theorem VI.ho {w w' : World} (k : ∀ {p n c xs}, Sl w p n c xs → Sl w' p n c xs) {L : Nat} {z : Int} {v : Value} : VI w L z v → VI w' L z v
  | ⟨g, p, n, c, X, e, s, r⟩ => ⟨g, p, n, c, X, e, k s, r⟩

theorem VR.ho {w w' : World} (k : ∀ {p n c xs}, Sl w p n c xs → Sl w' p n c xs) {L : Nat} {r : Rat} {v : Value} : VR w L r v → VR w' L r v
  | ⟨g, p, n, c, X, q, m, d, Y, e, s, t, h⟩ => ⟨g, p, n, c, X, q, m, d, Y, e, k s, k t, h⟩

theorem VF.ho {w w' : World} (k : ∀ {p n c xs}, Sl w p n c xs → Sl w' p n c xs) {L : Nat} {r : Rat} {v : Value} : VF w L r v → VF w' L r v
  | ⟨g, p, n, c, X, q, m, d, Y, e, s, t, h⟩ => ⟨g, p, n, c, X, q, m, d, Y, e, k s, k t, h⟩

theorem VD.ho {w w' : World} (k : ∀ {p n c xs}, Sl w p n c xs → Sl w' p n c xs) {x : Nat} {v : Value} : VD w x v → VD w' x v
  | ⟨p, c, e, s⟩ => ⟨p, c, e, k s⟩

theorem VZ.ho {w w' : World} (k : ∀ {p n c xs}, Sl w p n c xs → Sl w' p n c xs) {z : Int} {v : Value} : VZ w z v → VZ w' z v
  | ⟨p, c, e, s⟩ => ⟨p, c, e, k s⟩

theorem VQ.ho {w w' : World} (k : ∀ {p n c xs}, Sl w p n c xs → Sl w' p n c xs) {r : Rat} {v : Value} : VQ w r v → VQ w' r v
  | ⟨p, c, q, d, e, s, t⟩ => ⟨p, c, q, d, e, k s, k t⟩

theorem VL.ho {w w' : World} (k : ∀ {p n c xs}, Sl w p n c xs → Sl w' p n c xs) {r : Rat} {v : Value} : VL w r v → VL w' r v
  | ⟨p, c, q, d, e, s, t⟩ => ⟨p, c, q, d, e, k s, k t⟩

def VX (w : World) (n x : Nat) (v : Value) : Prop := ∃ (p : Option Addr) (c : Nat) (X : List Nat), v = .slice p n c ∧ Sl w p n c X ∧ val X = x

theorem VX.ho {w w' : World} (k : ∀ {p n c xs}, Sl w p n c xs → Sl w' p n c xs) {n x : Nat} {v : Value} : VX w n x v → VX w' n x v
  | ⟨p, c, X, e, s, h⟩ => ⟨p, c, X, e, k s, h⟩

def VB (w : World) (L : Nat) (r : Rat) (b : Bool) (v : Value) : Prop := ∃ (g : Bool) (p : Option Addr) (n c : Nat) (X : List Nat) (q : Option Addr) (m d : Nat) (Y : List Nat), v = rw' g p n c q m d ∧ Sl w p n c X ∧ Sl w q m d Y ∧ mkRat (iv g (val X)) (val Y) = r ∧ (n ≤ L ∧ m ≤ L) ∧ vq g n X m Y = b

theorem VB.ho {w w' : World} (k : ∀ {p n c xs}, Sl w p n c xs → Sl w' p n c xs) {L : Nat} {r : Rat} {b : Bool} {v : Value} : VB w L r b v → VB w' L r b v
  | ⟨g, p, n, c, X, q, m, d, Y, e, s, t, h⟩ => ⟨g, p, n, c, X, q, m, d, Y, e, k s, k t, h⟩

theorem VB.vr {w : World} {L : Nat} {r : Rat} {b : Bool} {v : Value} : VB w L r b v → VR w L r v
  | ⟨g, p, n, c, X, q, m, d, Y, e, s, t, h, l, _⟩ => ⟨g, p, n, c, X, q, m, d, Y, e, s, t, h, l⟩

inductive Kn where
  | nat (x : Nat)
  | rnat (L x : Nat)
  | int (z : Int)
  | rint (L : Nat) (z : Int)
  | rat (r : Rat)
  | rrat (L : Nat) (r : Rat)
  | frac (L : Nat) (r : Rat)
  | low (r : Rat)
  | vrat (L : Nat) (r : Rat) (b : Bool)
  | dig (n x : Nat)
  | rx (c : Bool) (L : Nat) (r : Rat)

def Kn.n : Kn → Nat
  | .nat _ | .rnat _ _ | .dig _ _ => 1
  | .int _ | .rint _ _ => 2
  | .rat _ | .rrat _ _ | .vrat _ _ _ | .rx _ _ _ => 3
  | .frac _ _ | .low _ => 4

def Kn.g : Kn → Bool
  | .nat _ | .rnat _ _ | .dig _ _ => false
  | _ => true

def Kn.is (w : World) : Kn → Value → Prop
  | .nat x => VD w x
  | .rnat L x => VN w L x
  | .int z => VZ w z
  | .rint L z => VI w L z
  | .rat r => VQ w r
  | .rrat L r => VR w L r
  | .frac L r => VF w L r
  | .low r => VL w r
  | .vrat L r b => VB w L r b
  | .dig n x => VX w n x
  | .rx c L r => fun v => VR w L r v ∧ (c = true → VQ w r v)

theorem Kn.ho {w w' : World} (k : ∀ {p n c xs}, Sl w p n c xs → Sl w' p n c xs) {x : Kn} {v : Value} (h : x.is w v) : x.is w' v := by
  cases x
  · exact VD.ho k h
  · exact VN.ho k h
  · exact VZ.ho k h
  · exact VI.ho k h
  · exact VQ.ho k h
  · exact VR.ho k h
  · exact VF.ho k h
  · exact VL.ho k h
  · exact VB.ho k h
  · exact VX.ho k h
  · exact ⟨VR.ho k h.1, fun e => VQ.ho k (h.2 e)⟩

def Dn (x : Kn) : KdE where
  n := x.n
  φ w vs := (vs.length = x.n ∧ ∀ v ∈ vs, cellOk v = true) ∧ x.is w (mkV x.g vs)
  up _ _ _ g h := ⟨h.1, Kn.ho (fun s => s.up g) h.2⟩
  ok _ _ h := h.1

abbrev Av := AV Kn

abbrev sv (k : Kn) : Av := .val k.g [.sem k]

abbrev avB (b : Bool) : Av := .val false [.lit (.bool b)]

abbrev avI (z : Int) : Av := .val false [.lit (.int .i64 z)]

theorem is_agg {w : World} {x : Kn} {v : Value} (h : x.is w v) : ∃ vs, v = mkV x.g vs ∧ vs.length = x.n ∧ ∀ u ∈ vs, cellOk u = true := by
  cases x
  · obtain ⟨p, c, rfl, _⟩ := h; exact ⟨[_], rfl, rfl, by simp [cellOk]⟩
  · obtain ⟨p, n, c, X, rfl, _⟩ := h; exact ⟨[_], rfl, rfl, by simp [cellOk]⟩
  · obtain ⟨p, c, rfl, _⟩ := h; exact ⟨[_, _], rfl, rfl, by simp [cellOk]⟩
  · obtain ⟨g, p, n, c, X, rfl, _⟩ := h; exact ⟨[_, _], rfl, rfl, by simp [cellOk]⟩
  · obtain ⟨p, c, q, d, rfl, _⟩ := h; exact ⟨[_, _, _], rfl, rfl, by simp [cellOk]⟩
  · obtain ⟨g, p, n, c, X, q, m, d, Y, rfl, _⟩ := h; exact ⟨[_, _, _], rfl, rfl, by simp [cellOk]⟩
  · obtain ⟨g, p, n, c, X, q, m, d, Y, rfl, _⟩ := h; exact ⟨[_, _, _, _], rfl, rfl, by simp [cellOk]⟩
  · obtain ⟨p, c, q, d, rfl, _⟩ := h; exact ⟨[_, _, _, _], rfl, rfl, by simp [cellOk]⟩
  · obtain ⟨g, p, n, c, X, q, m, d, Y, rfl, _⟩ := h; exact ⟨[_, _, _], rfl, rfl, by simp [cellOk]⟩
  · obtain ⟨p, c, X, rfl, _⟩ := h; exact ⟨[_], rfl, rfl, by simp [cellOk]⟩
  · obtain ⟨⟨g, p, n, c, X, q, m, d, Y, rfl, _⟩, _⟩ := h; exact ⟨[_, _, _], rfl, rfl, by simp [cellOk]⟩

theorem sv_of {w : World} {x : Kn} {v : Value} (h : x.is w v) (β : Nat → Option Nat) : (sv x).holds Dn β w v := by
  obtain ⟨vs, rfl, h1, h2⟩ := is_agg h
  refine ⟨vs, ⟨vs, [], (List.append_nil _).symm, ⟨⟨h1, h2⟩, h⟩, rfl⟩, rfl, fun hg => ?_⟩
  cases x <;> first | exact h1 | cases hg

theorem sv_to {w : World} {x : Kn} {v : Value} {β : Nat → Option Nat} (h : (sv x).holds Dn β w v) : x.is w v := by
  obtain ⟨cs, ⟨a, b, e, h1, h2⟩, h3, _⟩ := h
  have h2 : b = [] := h2
  subst h2
  rw [List.append_nil] at e
  subst e
  rw [h3]
  exact h1.2

theorem seg_hide {S : Nat → Prop} {w : World} (hS : ∀ b, S b → Plain w b) {s : Seg Kn} {vs : List Value} (h : s.holds Dn w vs) : s.holds Dn (hide S w) vs := by
  cases s with
  | lit v => exact h
  | sem k => exact ⟨h.1, Kn.ho (fun s => s.hide hS) h.2⟩

theorem segs_hide {S : Nat → Prop} {w : World} (hS : ∀ b, S b → Plain w b) : ∀ {ss : List (Seg Kn)} {vs : List Value}, segs Dn w ss vs → segs Dn (hide S w) ss vs
  | [], _, h => h
  | _ :: _, _, ⟨a, b, e, h1, h2⟩ => ⟨a, b, e, seg_hide hS h1, segs_hide hS h2⟩

theorem vl_hide {S : Nat → Prop} {w : World} (hS : ∀ b, S b → Plain w b) {p : Bool × List (Seg Kn)} {v : Value} : vl Dn w p v → vl Dn (hide S w) p v
  | ⟨cs, h1, h2⟩ => ⟨cs, segs_hide hS h1, h2⟩

theorem vls_hide {S : Nat → Prop} {w : World} (hS : ∀ b, S b → Plain w b) : ∀ {ps : List (Bool × List (Seg Kn))} {vs : List Value}, vls Dn w ps vs → vls Dn (hide S w) ps vs
  | [], _, h => h
  | _ :: _, _, ⟨v, us, e, h1, h2⟩ => ⟨v, us, e, vl_hide hS h1, vls_hide hS h2⟩

theorem av_hide {S : Nat → Prop} {w : World} (hS : ∀ b, S b → Plain w b) {β : Nat → Option Nat} {a : Av} {v : Value} (h : a.holds Dn β w v) : a.holds Dn β (hide S w) v := by
  cases a with
  | any => exact h
  | val g ss => exact vl_hide hS h
  | ptr i o => exact h
  | sl i o n c => exact h
  | tup ts => obtain ⟨us, h1, h2⟩ := h; exact ⟨us, h1, vls_hide hS h2⟩

theorem fr_fr0 {w w' : World} (f : Fr [] w w') : Fr0 w w' := ⟨f.os, f.tape, f.output, f.size, fun k hk => f.block k hk (by simp)⟩

abbrev none' : Nat → Option Nat := fun _ => none

abbrev Cn (f : FuncId) (args : List Av) (r : Av) : Prop := Con Dn Tryz.prog Tab f args r

def Enters (f : FuncId) : Prop := ∃ fn, Tryz.prog.funcs[f]? = some fn ∧ (fn.name == "runtime.NumGoroutine") = false ∧ fn.body.isNone = false

theorem leaf {f : FuncId} {args : List Av} {r : Av} (he : Enters f) (h : ∀ w vs, Tab w → avs Dn none' w args vs → Calls Tryz.prog f vs.toArray w fun e w' => ∃ u, e = .returned u ∧ r.holds Dn none' w' u ∧ Fr [] w w') : Cn f args r := by
  refine ⟨he, fun S w vs hE hS hv => ?_⟩
  have up : ∀ {xs : List Av} {us : List Value}, avs Dn none' (hide S w) xs us → avs Dn none' w xs us := by
    intro xs
    induction xs with
    | nil => intro us h; exact h
    | cons x xs ih => rintro us ⟨v, us', e, h1, h2⟩; exact ⟨v, us', e, AV.up (fun _ _ h => h) (grows_hide S w) h1, ih h2⟩
  refine (h w vs (Tab.up _ _ (grows_hide S w) hE) (up hv)).mono ?_
  rintro e w' ⟨u, rfl, hu, f⟩
  exact ⟨u, rfl, av_hide (fun b hb => by obtain ⟨cs, T, e, p⟩ := hS b hb; exact ⟨cs, T, (f.block b (Array.getElem?_eq_some_iff.1 e).1 (by simp)).trans e, p⟩) hu, fr_fr0 f⟩

def pNat : List (Seg Kn) → Option (Nat × Nat)
  | [.sem (.nat x)] => some ((dg x).length, x)
  | [.sem (.rnat L x)] => some (L, x)
  | [.sem (.dig n x)] => some (n, x)
  | [.lit (.slice none 0 0)] => some (0, 0)
  | _ => none

def pInt : List (Seg Kn) → Option (Nat × Int)
  | [.sem (.int z)] => some (nz z, z)
  | [.sem (.rint L z)] => some (L, z)
  | [.lit (.bool g), s] => (pNat [s]).map fun p => (p.1, iv g p.2)
  | _ => none

def pRat : List (Seg Kn) → Option (Nat × Rat)
  | [.sem (.rat r)] => some (nq r, r)
  | [.sem (.rrat L r)] => some (L, r)
  | [.sem (.vrat L r _)] => some (L, r)
  | [.sem (.rx _ L r)] => some (L, r)
  | [s, t] => match pInt [s], pNat [t] with
    | some p, some q => some (p.1 + q.1, mkRat p.2 q.2)
    | _, _ => none
  | [s, t, u] => match pInt [s, t], pNat [u] with
    | some p, some q => some (p.1 + q.1, mkRat p.2 q.2)
    | _, _ => none
  | _ => none

theorem seg1 {w : World} {s : Seg Kn} {v : Value} {g : Bool} {β : Nat → Option Nat} (h : (AV.val g [s]).holds Dn β w v) : ∃ cs, s.holds Dn w cs ∧ v = mkV g cs ∧ (g = false → cs.length = 1) := by
  obtain ⟨cs, ⟨a, b, e, h1, h2⟩, h3, h4⟩ := h
  have h2 : b = [] := h2
  subst h2
  rw [List.append_nil] at e
  subst e
  exact ⟨_, h1, h3, h4⟩

theorem pNat_seg {w : World} {s : Seg Kn} {L x : Nat} {cs : List Value} (h : pNat [s] = some (L, x)) (hs : s.holds Dn w cs) : ∃ v, cs = [v] ∧ VN w L x v := by
  unfold pNat at h
  split at h
  · rename_i y e
    injection e with e
    subst e
    injection h with h
    injection h with h1 h2
    subst h1; subst h2
    obtain ⟨⟨hl, _⟩, p, c, e, s⟩ := hs
    match cs, hl with
    | [v], _ => exact ⟨v, rfl, p, _, c, _, e, s, val_dg _, Nat.le_refl _⟩
  · rename_i M y e
    injection e with e
    subst e
    injection h with h
    injection h with h1 h2
    subst h1; subst h2
    obtain ⟨⟨hl, _⟩, hv⟩ := hs
    match cs, hl with
    | [v], _ => exact ⟨v, rfl, hv⟩
  · rename_i M y e
    injection e with e
    subst e
    injection h with h
    injection h with h1 h2
    subst h1; subst h2
    obtain ⟨⟨hl, _⟩, p, c, X, e, s, hx⟩ := hs
    match cs, hl with
    | [v], _ => exact ⟨v, rfl, p, _, c, X, e, s, hx, Nat.le_refl _⟩
  · rename_i e
    injection e with e
    subst e
    injection h with h
    injection h with h1 h2
    subst h1; subst h2
    exact ⟨_, hs, none, 0, 0, [], rfl, Sl.zero w, rfl, Nat.le_refl _⟩
  · cases h

theorem pNat_ok {w : World} {β : Nat → Option Nat} {ss : List (Seg Kn)} {L x : Nat} {v : Value} (h : pNat ss = some (L, x)) (hs : (AV.val false ss).holds Dn β w v) : VN w L x v := by
  have : ∃ s, ss = [s] := by
    unfold pNat at h
    split at h
    · exact ⟨_, rfl⟩
    · exact ⟨_, rfl⟩
    · exact ⟨_, rfl⟩
    · exact ⟨_, rfl⟩
    · cases h
  obtain ⟨s, rfl⟩ := this
  obtain ⟨cs, h1, h2, -⟩ := seg1 hs
  obtain ⟨u, rfl, hu⟩ := pNat_seg h h1
  rw [h2]
  exact hu

theorem pInt_segs {w : World} {ss : List (Seg Kn)} {L : Nat} {z : Int} {cs : List Value} (h : pInt ss = some (L, z)) (hs : segs Dn w ss cs) : VI w L z (.agg cs.toArray) := by
  unfold pInt at h
  split at h
  · rename_i y
    injection h with h
    injection h with h1 h2
    subst h1; subst h2
    obtain ⟨a, b, rfl, ⟨_, h1⟩, rfl⟩ := hs
    rw [List.append_nil]
    exact VZ.raw h1 (Nat.le_refl _)
  · rename_i M y
    injection h with h
    injection h with h1 h2
    subst h1; subst h2
    obtain ⟨a, b, rfl, ⟨_, h1⟩, rfl⟩ := hs
    rw [List.append_nil]
    exact h1
  · rename_i g s
    simp only [Option.map_eq_some_iff] at h
    obtain ⟨p, hp, he⟩ := h
    injection he with h1 h2
    subst h1; subst h2
    obtain ⟨a, b, rfl, h1, a', b', rfl, h2, rfl⟩ := hs
    have h1 : a = [.bool g] := h1
    subst h1
    obtain ⟨v, rfl, q, n, c, X, rfl, hx, hv, hn⟩ := pNat_seg hp h2
    exact ⟨g, q, n, c, X, rfl, hx, by rw [hv], hn⟩
  · cases h

theorem pInt_ok {w : World} {β : Nat → Option Nat} {ss : List (Seg Kn)} {L : Nat} {z : Int} {v : Value} (h : pInt ss = some (L, z)) (hs : (AV.val true ss).holds Dn β w v) : VI w L z v := by
  obtain ⟨cs, h1, h2, _⟩ := hs
  rw [h2]
  exact pInt_segs h h1

theorem VI.pair {w : World} {L M x : Nat} {z : Int} {cs : List Value} {v : Value} (h : VI w L z (.agg cs.toArray)) (h' : VN w M x v) : VR w (L + M) (mkRat z x) (.agg (cs ++ [v]).toArray) := by
  obtain ⟨g, p, n, c, X, e, s, rfl, l⟩ := h
  obtain ⟨q, m, d, Y, rfl, t, rfl, l'⟩ := h'
  have e : cs = [.bool g, .slice p n c] := by injection e with e; simpa using congrArg Array.toList e
  subst e
  exact ⟨g, p, n, c, X, q, m, d, Y, rfl, s, t, rfl, by omega, by omega⟩

theorem pRat_ok {w : World} {β : Nat → Option Nat} {ss : List (Seg Kn)} {L : Nat} {r : Rat} {v : Value} (h : pRat ss = some (L, r)) (hs : (AV.val true ss).holds Dn β w v) : VR w L r v := by
  obtain ⟨cs, h1, h2, -⟩ := hs
  rw [h2]
  show VR w L r (.agg cs.toArray)
  unfold pRat at h
  split at h
  · rename_i y
    injection h with h
    injection h with e1 e2
    subst e1; subst e2
    obtain ⟨a, b, rfl, ⟨_, h1⟩, rfl⟩ := h1
    rw [List.append_nil]
    exact VQ.raw h1 (Nat.le_refl _)
  · rename_i M y
    injection h with h
    injection h with e1 e2
    subst e1; subst e2
    obtain ⟨a, b, rfl, ⟨_, h1⟩, rfl⟩ := h1
    rw [List.append_nil]
    exact h1
  · rename_i M y c
    injection h with h
    injection h with e1 e2
    subst e1; subst e2
    obtain ⟨a, b, rfl, ⟨_, h1⟩, rfl⟩ := h1
    rw [List.append_nil]
    exact VB.vr h1
  · rename_i c M y
    injection h with h
    injection h with e1 e2
    subst e1; subst e2
    obtain ⟨a, b, rfl, ⟨_, h1⟩, rfl⟩ := h1
    rw [List.append_nil]
    exact h1.1
  · rename_i s t
    split at h
    case h_2 => cases h
    rename_i p q hp hq
    injection h with h
    injection h with e1 e2
    subst e1; subst e2
    obtain ⟨x, y, rfl, k1, k2⟩ := segs_split (a := [s]) (b := [t]) h1
    obtain ⟨u, hu, hv⟩ : ∃ u, y = [u] ∧ VN w q.1 q.2 u := by
      obtain ⟨a, b, rfl, k3, rfl⟩ := k2
      rw [List.append_nil]
      exact pNat_seg hq k3
    subst hu
    exact VI.pair (pInt_segs hp k1) hv
  · rename_i s t s3
    split at h
    case h_2 => cases h
    rename_i p q hp hq
    injection h with h
    injection h with e1 e2
    subst e1; subst e2
    obtain ⟨x, y, rfl, k1, k2⟩ := segs_split (a := [s, t]) (b := [s3]) h1
    obtain ⟨u, hu, hv⟩ : ∃ u, y = [u] ∧ VN w q.1 q.2 u := by
      obtain ⟨a, b, rfl, k3, rfl⟩ := k2
      rw [List.append_nil]
      exact pNat_seg hq k3
    subst hu
    exact VI.pair (pInt_segs hp k1) hv
  · cases h

abbrev Ent := FuncId × (List Av → Option (List Prop × Av))

def EntsOk : List Ent → Prop
  | [] => True
  | (f, g) :: es => (∀ args obs r, g args = some (obs, r) → (∀ p ∈ obs, p) → Cn f args r) ∧ EntsOk es

theorem ents_get : ∀ {es : List Ent}, EntsOk es → ∀ {f g args obs r}, es.lookup f = some g → g args = some (obs, r) → (∀ p ∈ obs, p) → Cn f args r
  | [], _, _, _, _, _, _, h, _, _ => by cases h
  | (f', g') :: es, ⟨h1, h2⟩, f, g, args, obs, r, h, hg, ho => by
    unfold List.lookup at h
    split at h
    · rename_i e
      have := beq_iff_eq.1 e
      subst this
      injection h with h
      subst h
      exact h1 _ _ _ hg ho
    · exact ents_get h2 h hg ho

def nSplit : Kn → Option (List (Seg Kn))
  | .rat r => some [.sem (.int r.num), .sem (.nat r.den)]
  | .int z => some [.lit (.bool (decide (z < 0))), .sem (.nat z.natAbs)]
  | .low r => some [.sem (.int r.num), .lit (.bool false), .sem (.nat r.den)]
  | _ => none

def nLen : Kn → Option Nat
  | .nat x => some (dg x).length
  | .dig n _ => some n
  | _ => none

def nRow : TypeId → List Value → Option Kn
  | 52, [.int .u32 1] => some (.nat 1)
  | _, _ => none

theorem nSplit_ok : SplitOk Dn nSplit := by
  intro k ss h w vs hφ
  cases k with
  | rat r =>
    injection h with h
    subst h
    obtain ⟨⟨hl, hp⟩, p, c, q, d, e, s, t⟩ := hφ
    have e : Value.agg vs.toArray = rw' (decide (r.num < 0)) p (dg r.num.natAbs).length c q (dg r.den).length d := e
    injection e with e
    have e : vs = [.bool (decide (r.num < 0)), .slice p (dg r.num.natAbs).length c, .slice q (dg r.den).length d] := by simpa using congrArg Array.toList e
    subst e
    exact ⟨[_, _], [_], rfl, ⟨⟨rfl, by simp [cellOk]⟩, p, c, rfl, s⟩, [_], [], rfl, ⟨⟨rfl, by simp [cellOk]⟩, q, d, rfl, t⟩, rfl⟩
  | int z =>
    injection h with h
    subst h
    obtain ⟨⟨hl, hp⟩, p, c, e, s⟩ := hφ
    have e : Value.agg vs.toArray = iw (decide (z < 0)) p (dg z.natAbs).length c := e
    injection e with e
    have e : vs = [.bool (decide (z < 0)), .slice p (dg z.natAbs).length c] := by simpa using congrArg Array.toList e
    subst e
    exact ⟨[_], [_], rfl, rfl, [_], [], rfl, ⟨⟨rfl, by simp [cellOk]⟩, p, c, rfl, s⟩, rfl⟩
  | low r =>
    injection h with h
    subst h
    obtain ⟨⟨hl, hp⟩, p, c, q, d, e, s, t⟩ := hφ
    have e : Value.agg vs.toArray = fw (decide (r.num < 0)) p (dg r.num.natAbs).length c false q (dg r.den).length d := e
    injection e with e
    have e : vs = [.bool (decide (r.num < 0)), .slice p (dg r.num.natAbs).length c, .bool false, .slice q (dg r.den).length d] := by simpa using congrArg Array.toList e
    subst e
    exact ⟨[_, _], [_, _], rfl, ⟨⟨rfl, by simp [cellOk]⟩, p, c, rfl, s⟩, [_], [_], rfl, rfl, [_], [], rfl, ⟨⟨rfl, by simp [cellOk]⟩, q, d, rfl, t⟩, rfl⟩
  | _ => cases h

theorem nLen_ok : LenOk Dn nLen := by
  intro k n h w v hφ
  cases k with
  | nat x =>
    injection h with h
    subst h
    obtain ⟨_, p, c, e, _⟩ := hφ
    exact ⟨p, c, e⟩
  | dig m x =>
    injection h with h
    subst h
    obtain ⟨_, p, c, X, e, _⟩ := hφ
    exact ⟨p, c, e⟩
  | _ => cases h

theorem nRow_ok : RowOk Dn nRow := by
  intro T cs k h w A hA
  unfold nRow at h
  split at h
  · injection h with h
    subst h
    have h1 : dg 1 = [1] := dg_one
    refine ⟨⟨rfl, by simp [cellOk]⟩, some ⟨A, 0, none⟩, 1, ?_⟩
    rw [h1]
    refine ⟨rfl, rfl, Nat.le_refl _, by decide, (fun h => by cases h), Or.inr ⟨A, 0, rfl, (Array.getElem?_eq_some_iff.1 hA).1, ?_⟩, by rw [← h1]; exact Dg_dg _⟩
    intro j hj
    have hj : j < 1 := hj
    obtain rfl : j = 0 := by omega
    rw [cell_at hA]
    rfl
  · cases h

abbrev CnL (f : FuncId) (args : List Av) (T : TypeId) (ss : List (Seg Kn)) (r : Av) (ss' : List (Seg Kn)) : Prop := ConL Dn Tryz.prog Tab f args T ss r ss'

abbrev EntL := FuncId × (List Av → TypeId → List (Seg Kn) → Option (List Prop × Av × List (Seg Kn)))

def EntsLOk : List EntL → Prop
  | [] => True
  | (f, g) :: es => (∀ args T ss obs r ss', g args T ss = some (obs, r, ss') → (∀ p ∈ obs, p) → CnL f args T ss r ss') ∧ EntsLOk es

theorem entsL_get : ∀ {es : List EntL}, EntsLOk es → ∀ {f g args T ss obs r ss'}, es.lookup f = some g → g args T ss = some (obs, r, ss') → (∀ p ∈ obs, p) → CnL f args T ss r ss'
  | [], _, _, _, _, _, _, _, _, _, h, _, _ => by cases h
  | (f', g') :: es, ⟨h1, h2⟩, f, g, args, T, ss, obs, r, ss', h, hg, ho => by
    unfold List.lookup at h
    split at h
    · rename_i e
      have := beq_iff_eq.1 e
      subst this
      injection h with h
      subst h
      exact h1 _ _ _ _ _ _ hg ho
    · exact entsL_get h2 h hg ho

def mkTb4 (es alts : List Ent) (ls : List EntL) (hint : Nat → Option (Hint Kn)) : Tb Kn := ⟨fun f args ds => match es.lookup f with
  | some g => match alts.lookup f with
    | some g' => match ds with
      | some false :: ds => (g' args).map fun p => (p.1, p.2, ds)
      | _ :: ds => (g args).map fun p => (p.1, p.2, ds)
      | [] => (g args).map fun p => (p.1, p.2, [])
    | none => (g args).map fun p => (p.1, p.2, ds)
  | none => none, nSplit, nLen, nRow, hint, fun f args T ss ds => match ls.lookup f with
  | some g => (g args T ss).map fun p => (p.1, p.2.1, p.2.2, ds)
  | none => none⟩

def mkTb3 (es alts : List Ent) (hint : Nat → Option (Hint Kn)) : Tb Kn := mkTb4 es alts [] hint

def mkTb2 (es alts : List Ent) : Tb Kn := mkTb3 es alts fun _ => none

def mkTb (es : List Ent) : Tb Kn := mkTb2 es []

theorem mkTb4_ok {es alts : List Ent} {ls : List EntL} {hint : Nat → Option (Hint Kn)} (h : EntsOk es) (h' : EntsOk alts) (hl : EntsLOk ls) : TbOk Dn Tryz.prog Tab (mkTb4 es alts ls hint) := by
  refine ⟨nSplit_ok, nLen_ok, nRow_ok, fun f args ds obs r ds' hc ho => ?_, fun f args T ss ds obs r ss' ds' hc ho => ?_⟩
  rotate_left
  · unfold mkTb4 at hc
    dsimp only at hc
    split at hc
    · rename_i g hg
      simp only [Option.map_eq_some_iff, Prod.mk.injEq] at hc
      obtain ⟨p, hp, h1, h2, h3, -⟩ := hc
      subst h1; subst h2; subst h3
      exact entsL_get hl hg hp ho
    · cases hc
  have one : ∀ {l : List Ent} {g ds1}, EntsOk l → l.lookup f = some g → ((g args).map fun p => (p.1, p.2, ds1)) = some (obs, r, ds') → Cn f args r := by
    intro l g ds1 hl hg he
    simp only [Option.map_eq_some_iff, Prod.mk.injEq] at he
    obtain ⟨p, hp, h1, h2, -⟩ := he
    subst h1; subst h2
    exact ents_get hl hg hp ho
  unfold mkTb4 at hc
  dsimp only at hc
  split at hc
  · rename_i g hg
    split at hc
    · rename_i g' hg'
      split at hc
      · exact one h' hg' hc
      · exact one h hg hc
      · exact one h hg hc
    · exact one h hg hc
  · cases hc

theorem mkTb3_ok {es alts : List Ent} {hint : Nat → Option (Hint Kn)} (h : EntsOk es) (h' : EntsOk alts) : TbOk Dn Tryz.prog Tab (mkTb3 es alts hint) := mkTb4_ok h h' trivial

theorem mixed : Tryz.prog.follows .mixedOrders = true := by kernel_rfl

theorem mkTb2_ok {es alts : List Ent} (h : EntsOk es) (h' : EntsOk alts) : TbOk Dn Tryz.prog Tab (mkTb2 es alts) := mkTb3_ok h h'

theorem walk3 {es alts : List Ent} {hint : Nat → Option (Hint Kn)} (hes : EntsOk es) (ha : EntsOk alts) {f : FuncId} {fn : Func} {args : List Av} {ds : List (Option Bool)} {fuel : Nat} {obs : List Prop} {r : Av} (hf : Tryz.prog.funcs[f]? = some fn) (hname : (fn.name == "runtime.NumGoroutine") = false)
    (h : aFun Dn (mkTb3 es alts hint) Tryz.prog fuel fn args ds = some (obs, r)) (hobs : (∃ w vs, avs Dn none' w args vs) → ∀ p ∈ obs, p) : Cn f args r :=
  aFun_ok Tab.up (mkTb3_ok hes ha) mixed hf hname h hobs

theorem walk4 {es alts : List Ent} {ls : List EntL} {hint : Nat → Option (Hint Kn)} (hes : EntsOk es) (ha : EntsOk alts) (hl : EntsLOk ls) {f : FuncId} {fn : Func} {args : List Av} {ds : List (Option Bool)} {fuel : Nat} {obs : List Prop} {r : Av} (hf : Tryz.prog.funcs[f]? = some fn) (hname : (fn.name == "runtime.NumGoroutine") = false)
    (h : aFun Dn (mkTb4 es alts ls hint) Tryz.prog fuel fn args ds = some (obs, r)) (hobs : (∃ w vs, avs Dn none' w args vs) → ∀ p ∈ obs, p) : Cn f args r :=
  aFun_ok Tab.up (mkTb4_ok hes ha hl) mixed hf hname h hobs

theorem walkL {es alts : List Ent} {ls : List EntL} {hint : Nat → Option (Hint Kn)} (hes : EntsOk es) (ha : EntsOk alts) (hl : EntsLOk ls) {f : FuncId} {fn : Func} {args : List Av} {T : TypeId} {ss ss' : List (Seg Kn)} {ds : List (Option Bool)} {fuel : Nat} {obs : List Prop} {r : Av} (hf : Tryz.prog.funcs[f]? = some fn) (hname : (fn.name == "runtime.NumGoroutine") = false)
    (h : aFunL Dn (mkTb4 es alts ls hint) Tryz.prog fuel fn args T ss ds = some (obs, r, T, ss')) (hobs : ∀ p ∈ obs, p) : CnL f args T ss r ss' :=
  aFunL_ok Tab.up (mkTb4_ok hes ha hl) mixed hf hname h hobs

theorem cnL_weak {f : FuncId} {args : List Av} {T : TypeId} {s1 s2 t1 t2 : List (Seg Kn)} {r : Av} (h : CnL f args T s2 r t2) (h1 : ∀ w cs, segs Dn w s1 cs → segs Dn w s2 cs) (h2 : ∀ w cs, segs Dn w t2 cs → segs Dn w t1 cs) : CnL f args T s1 r t1 :=
  ⟨h.1, fun S w vs A cs hE hS hA hc hp hs hv => (h.2 S w vs A cs hE hS hA hc hp (h1 _ _ hs) hv).mono (by rintro e w' ⟨u, cs', k1, k2, k3, k4, k5, k6⟩; exact ⟨u, cs', k1, k2, k3, k4, h2 _ _ k5, k6⟩)⟩

theorem seg_rx {c : Bool} {L : Nat} {r : Rat} {w : World} {cs : List Value} (h : Seg.holds Dn w (.sem (.rat r)) cs) (hL : nq r ≤ L) : Seg.holds Dn w (.sem (.rx c L r)) cs :=
  ⟨h.1, VQ.raw h.2 hL, fun _ => h.2⟩

theorem seg_rxr {L : Nat} {r : Rat} {w : World} {cs : List Value} (h : Seg.holds Dn w (.sem (.rrat L r)) cs) : Seg.holds Dn w (.sem (.rx false L r)) cs :=
  ⟨h.1, h.2, fun e => by cases e⟩

theorem rx_seg {L : Nat} {r : Rat} {w : World} {cs : List Value} (h : Seg.holds Dn w (.sem (.rx true L r)) cs) : Seg.holds Dn w (.sem (.rat r)) cs := ⟨h.1, h.2.2 rfl⟩

theorem rxr_seg {c : Bool} {L : Nat} {r : Rat} {w : World} {cs : List Value} (h : Seg.holds Dn w (.sem (.rx c L r)) cs) : Seg.holds Dn w (.sem (.rrat L r)) cs := ⟨h.1, h.2.1⟩

theorem walk2 {es alts : List Ent} (hes : EntsOk es) (ha : EntsOk alts) {f : FuncId} {fn : Func} {args : List Av} {ds : List (Option Bool)} {fuel : Nat} {obs : List Prop} {r : Av} (hf : Tryz.prog.funcs[f]? = some fn) (hname : (fn.name == "runtime.NumGoroutine") = false)
    (h : aFun Dn (mkTb2 es alts) Tryz.prog fuel fn args ds = some (obs, r)) (hobs : (∃ w vs, avs Dn none' w args vs) → ∀ p ∈ obs, p) : Cn f args r :=
  aFun_ok Tab.up (mkTb2_ok hes ha) mixed hf hname h hobs

end Go.Proofs.YtagciepnhjbopaaGreatDoor
