/- What the statements of this claim stand on: of Ki, Kp1, what they name -/
import Derived.Test.YtagciepnhjbopaaGreatDoorP03
import Derived.Test.YtagciepnhjbopaaGreatDoorP29
import Derived.Test.YtagciepnhjbopaaGreatDoorP30

namespace Go.Proofs.YtagciepnhjbopaaGreatDoor
open Go.RowKit En

theorem Rd.up {w w' : World} {p : Option Addr} {xs : List Nat} (g : Grows w w') (h : Rd w p xs) : Rd w' p xs := by
  rcases h with rfl | ⟨b, off, rfl, h2, h3⟩
  · exact Or.inl rfl
  · exact Or.inr ⟨b, off, rfl, Nat.lt_of_lt_of_le h2 g.size, fun j hj => g.cell (h3 j hj)⟩

theorem Sl.up {w w' : World} {p : Option Addr} {n c : Nat} {xs : List Nat} (g : Grows w w') (h : Sl w p n c xs) : Sl w' p n c xs := ⟨h.len, h.le, h.cap, h.nil, h.rd.up g, h.dig⟩

theorem Tab.up (w w' : World) (g : Grows w w') (h : Tab w) : Tab w' := fun k hk => g.cell (h k hk)

theorem hide_cell {S : Nat → Prop} {w : World} {a : Addr} {v : Value} (hs : ¬ S a.block) (h : w.cell? a = some v) : (hide S w).cell? a = some v := by
  unfold World.cell? at h ⊢
  split at h
  · rename_i c T f hb
    rw [(hide_get S w a.block c T f).2 ⟨hs, hb⟩]
    exact h
  · cases h

theorem Rd.hide {S : Nat → Prop} {w : World} {p : Option Addr} {xs : List Nat} (hS : ∀ b, S b → Plain w b) (h : Rd w p xs) : Rd (hide S w) p xs := by
  rcases h with rfl | ⟨b, off, rfl, h2, h3⟩
  · exact Or.inl rfl
  · cases xs with
    | nil => exact Or.inl rfl
    | cons x xs =>
      refine Or.inr ⟨b, off, rfl, by rw [hide_size]; exact h2, fun j hj => hide_cell (fun hs => ?_) (h3 j hj)⟩
      obtain ⟨cs, T, e, hp⟩ := hS b hs
      have h0 := h3 0 (by simp)
      rw [cell_at e] at h0
      have := hp _ (List.mem_of_getElem? h0)
      simp [cellOk] at this

theorem Sl.hide {S : Nat → Prop} {w : World} {p : Option Addr} {n c : Nat} {xs : List Nat} (hS : ∀ b, S b → Plain w b) (h : Sl w p n c xs) : Sl (hide S w) p n c xs := ⟨h.len, h.le, h.cap, h.nil, h.rd.hide hS, h.dig⟩

def VN (w : World) (L x : Nat) (v : Value) : Prop := ∃ (p : Option Addr) (n c : Nat) (X : List Nat), v = .slice p n c ∧ Sl w p n c X ∧ val X = x ∧ n ≤ L

theorem VN.ho {w w' : World} (k : ∀ {p n c xs}, Sl w p n c xs → Sl w' p n c xs) {L x : Nat} {v : Value} : VN w L x v → VN w' L x v
  | ⟨p, n, c, X, e, s, r⟩ => ⟨p, n, c, X, e, k s, r⟩

theorem VI.ho {w w' : World} (k : ∀ {p n c xs}, Sl w p n c xs → Sl w' p n c xs) {L : Nat} {z : Int} {v : Value} : VI w L z v → VI w' L z v
  | ⟨g, p, n, c, X, e, s, r⟩ => ⟨g, p, n, c, X, e, k s, r⟩

theorem VR.ho {w w' : World} (k : ∀ {p n c xs}, Sl w p n c xs → Sl w' p n c xs) {L : Nat} {r : Rat} {v : Value} : VR w L r v → VR w' L r v
  | ⟨g, p, n, c, X, q, m, d, Y, e, s, t, h⟩ => ⟨g, p, n, c, X, q, m, d, Y, e, k s, k t, h⟩

theorem VF.ho {w w' : World} (k : ∀ {p n c xs}, Sl w p n c xs → Sl w' p n c xs) {L : Nat} {r : Rat} {v : Value} : VF w L r v → VF w' L r v
  | ⟨g, p, n, c, X, q, m, d, Y, e, s, t, h⟩ => ⟨g, p, n, c, X, q, m, d, Y, e, k s, k t, h⟩

theorem VD.ho {w w' : World} (k : ∀ {p n c xs}, Sl w p n c xs → Sl w' p n c xs) {x : Nat} {v : Value} : VD w x v → VD w' x v
  | ⟨p, c, e, s⟩ => ⟨p, c, e, k s⟩

theorem VZ.ho {w w' : World} (k : ∀ {p n c xs}, Sl w p n c xs → Sl w' p n c xs) {z : Int} {v : Value} : VZ w z v → VZ w' z v
  | ⟨p, c, e, s⟩ => ⟨p, c, e, k s⟩

theorem VQ.ho {w w' : World} (k : ∀ {p n c xs}, Sl w p n c xs → Sl w' p n c xs) {r : Rat} {v : Value} : VQ w r v → VQ w' r v
  | ⟨p, c, q, d, e, s, t⟩ => ⟨p, c, q, d, e, k s, k t⟩

theorem VL.ho {w w' : World} (k : ∀ {p n c xs}, Sl w p n c xs → Sl w' p n c xs) {r : Rat} {v : Value} : VL w r v → VL w' r v
  | ⟨p, c, q, d, e, s, t⟩ => ⟨p, c, q, d, e, k s, k t⟩

def VX (w : World) (n x : Nat) (v : Value) : Prop := ∃ (p : Option Addr) (c : Nat) (X : List Nat), v = .slice p n c ∧ Sl w p n c X ∧ val X = x

theorem VX.ho {w w' : World} (k : ∀ {p n c xs}, Sl w p n c xs → Sl w' p n c xs) {n x : Nat} {v : Value} : VX w n x v → VX w' n x v
  | ⟨p, c, X, e, s, h⟩ => ⟨p, c, X, e, k s, h⟩

def VB (w : World) (L : Nat) (r : Rat) (b : Bool) (v : Value) : Prop := ∃ (g : Bool) (p : Option Addr) (n c : Nat) (X : List Nat) (q : Option Addr) (m d : Nat) (Y : List Nat), v = rw' g p n c q m d ∧ Sl w p n c X ∧ Sl w q m d Y ∧ mkRat (iv g (val X)) (val Y) = r ∧ (n ≤ L ∧ m ≤ L) ∧ vq g n X m Y = b

theorem VB.ho {w w' : World} (k : ∀ {p n c xs}, Sl w p n c xs → Sl w' p n c xs) {L : Nat} {r : Rat} {b : Bool} {v : Value} : VB w L r b v → VB w' L r b v
  | ⟨g, p, n, c, X, q, m, d, Y, e, s, t, h⟩ => ⟨g, p, n, c, X, q, m, d, Y, e, k s, k t, h⟩

theorem VB.vr {w : World} {L : Nat} {r : Rat} {b : Bool} {v : Value} : VB w L r b v → VR w L r v
  | ⟨g, p, n, c, X, q, m, d, Y, e, s, t, h, l, _⟩ => ⟨g, p, n, c, X, q, m, d, Y, e, s, t, h, l⟩

inductive Kn where
  | nat (x : Nat)
  | rnat (L x : Nat)
  | int (z : Int)
  | rint (L : Nat) (z : Int)
  | rat (r : Rat)
  | rrat (L : Nat) (r : Rat)
  | frac (L : Nat) (r : Rat)
  | low (r : Rat)
  | vrat (L : Nat) (r : Rat) (b : Bool)
  | dig (n x : Nat)
  | rx (c : Bool) (L : Nat) (r : Rat)

def Kn.n : Kn → Nat
  | .nat _ | .rnat _ _ | .dig _ _ => 1
  | .int _ | .rint _ _ => 2
  | .rat _ | .rrat _ _ | .vrat _ _ _ | .rx _ _ _ => 3
  | .frac _ _ | .low _ => 4

def Kn.g : Kn → Bool
  | .nat _ | .rnat _ _ | .dig _ _ => false
  | _ => true

def Kn.is (w : World) : Kn → Value → Prop
  | .nat x => VD w x
  | .rnat L x => VN w L x
  | .int z => VZ w z
  | .rint L z => VI w L z
  | .rat r => VQ w r
  | .rrat L r => VR w L r
  | .frac L r => VF w L r
  | .low r => VL w r
  | .vrat L r b => VB w L r b
  | .dig n x => VX w n x
  | .rx c L r => fun v => VR w L r v ∧ (c = true → VQ w r v)

theorem Kn.ho {w w' : World} (k : ∀ {p n c xs}, Sl w p n c xs → Sl w' p n c xs) {x : Kn} {v : Value} (h : x.is w v) : x.is w' v := by
  cases x
  · exact VD.ho k h
  · exact VN.ho k h
  · exact VZ.ho k h
  · exact VI.ho k h
  · exact VQ.ho k h
  · exact VR.ho k h
  · exact VF.ho k h
  · exact VL.ho k h
  · exact VB.ho k h
  · exact VX.ho k h
  · exact ⟨VR.ho k h.1, fun e => VQ.ho k (h.2 e)⟩

def Dn (x : Kn) : KdE where
  n := x.n
  φ w vs := (vs.length = x.n ∧ ∀ v ∈ vs, cellOk v = true) ∧ x.is w (mkV x.g vs)
  up _ _ _ g h := ⟨h.1, Kn.ho (fun s => s.up g) h.2⟩
  ok _ _ h := h.1

abbrev Av := AV Kn

abbrev sv (k : Kn) : Av := .val k.g [.sem k]

abbrev avB (b : Bool) : Av := .val false [.lit (.bool b)]

abbrev avI (z : Int) : Av := .val false [.lit (.int .i64 z)]

theorem is_agg {w : World} {x : Kn} {v : Value} (h : x.is w v) : ∃ vs, v = mkV x.g vs ∧ vs.length = x.n ∧ ∀ u ∈ vs, cellOk u = true := by
  cases x
  · obtain ⟨p, c, rfl, _⟩ := h; exact ⟨[_], rfl, rfl, by simp [cellOk]⟩
  · obtain ⟨p, n, c, X, rfl, _⟩ := h; exact ⟨[_], rfl, rfl, by simp [cellOk]⟩
  · obtain ⟨p, c, rfl, _⟩ := h; exact ⟨[_, _], rfl, rfl, by simp [cellOk]⟩
  · obtain ⟨g, p, n, c, X, rfl, _⟩ := h; exact ⟨[_, _], rfl, rfl, by simp [cellOk]⟩
  · obtain ⟨p, c, q, d, rfl, _⟩ := h; exact ⟨[_, _, _], rfl, rfl, by simp [cellOk]⟩
  · obtain ⟨g, p, n, c, X, q, m, d, Y, rfl, _⟩ := h; exact ⟨[_, _, _], rfl, rfl, by simp [cellOk]⟩
  · obtain ⟨g, p, n, c, X, q, m, d, Y, rfl, _⟩ := h; exact ⟨[_, _, _, _], rfl, rfl, by simp [cellOk]⟩
  · obtain ⟨p, c, q, d, rfl, _⟩ := h; exact ⟨[_, _, _, _], rfl, rfl, by simp [cellOk]⟩
  · obtain ⟨g, p, n, c, X, q, m, d, Y, rfl, _⟩ := h; exact ⟨[_, _, _], rfl, rfl, by simp [cellOk]⟩
  · obtain ⟨p, c, X, rfl, _⟩ := h; exact ⟨[_], rfl, rfl, by simp [cellOk]⟩
  · obtain ⟨⟨g, p, n, c, X, q, m, d, Y, rfl, _⟩, _⟩ := h; exact ⟨[_, _, _], rfl, rfl, by simp [cellOk]⟩

theorem sv_of {w : World} {x : Kn} {v : Value} (h : x.is w v) (β : Nat → Option Nat) : (sv x).holds Dn β w v := by
  obtain ⟨vs, rfl, h1, h2⟩ := is_agg h
  refine ⟨vs, ⟨vs, [], (List.append_nil _).symm, ⟨⟨h1, h2⟩, h⟩, rfl⟩, rfl, fun hg => ?_⟩
  cases x <;> first | exact h1 | cases hg

theorem sv_to {w : World} {x : Kn} {v : Value} {β : Nat → Option Nat} (h : (sv x).holds Dn β w v) : x.is w v := by
  obtain ⟨cs, ⟨a, b, e, h1, h2⟩, h3, _⟩ := h
  have h2 : b = [] := h2
  subst h2
  rw [List.append_nil] at e
  subst e
  rw [h3]
  exact h1.2

theorem seg_hide {S : Nat → Prop} {w : World} (hS : ∀ b, S b → Plain w b) {s : Seg Kn} {vs : List Value} (h : s.holds Dn w vs) : s.holds Dn (hide S w) vs := by
  cases s with
  | lit v => exact h
  | sem k => exact ⟨h.1, Kn.ho (fun s => s.hide hS) h.2⟩

theorem segs_hide {S : Nat → Prop} {w : World} (hS : ∀ b, S b → Plain w b) : ∀ {ss : List (Seg Kn)} {vs : List Value}, segs Dn w ss vs → segs Dn (hide S w) ss vs
  | [], _, h => h
  | _ :: _, _, ⟨a, b, e, h1, h2⟩ => ⟨a, b, e, seg_hide hS h1, segs_hide hS h2⟩

theorem vl_hide {S : Nat → Prop} {w : World} (hS : ∀ b, S b → Plain w b) {p : Bool × List (Seg Kn)} {v : Value} : vl Dn w p v → vl Dn (hide S w) p v
  | ⟨cs, h1, h2⟩ => ⟨cs, segs_hide hS h1, h2⟩

theorem vls_hide {S : Nat → Prop} {w : World} (hS : ∀ b, S b → Plain w b) : ∀ {ps : List (Bool × List (Seg Kn))} {vs : List Value}, vls Dn w ps vs → vls Dn (hide S w) ps vs
  | [], _, h => h
  | _ :: _, _, ⟨v, us, e, h1, h2⟩ => ⟨v, us, e, vl_hide hS h1, vls_hide hS h2⟩

theorem av_hide {S : Nat → Prop} {w : World} (hS : ∀ b, S b → Plain w b) {β : Nat → Option Nat} {a : Av} {v : Value} (h : a.holds Dn β w v) : a.holds Dn β (hide S w) v := by
  cases a with
  | any => exact h
  | val g ss => exact vl_hide hS h
  | ptr i o => exact h
  | sl i o n c => exact h
  | tup ts => obtain ⟨us, h1, h2⟩ := h; exact ⟨us, h1, vls_hide hS h2⟩

theorem fr_fr0 {w w' : World} (f : Fr [] w w') : Fr0 w w' := ⟨f.os, f.tape, f.output, f.size, fun k hk => f.block k hk (by simp)⟩

abbrev none' : Nat → Option Nat := fun _ => none

abbrev Cn (f : FuncId) (args : List Av) (r : Av) : Prop := Con Dn Tryz.prog Tab f args r

def Enters (f : FuncId) : Prop := ∃ fn, Tryz.prog.funcs[f]? = some fn ∧ (fn.name == "runtime.NumGoroutine") = false ∧ fn.body.isNone = false

theorem leaf {f : FuncId} {args : List Av} {r : Av} (he : Enters f) (h : ∀ w vs, Tab w → avs Dn none' w args vs → Calls Tryz.prog f vs.toArray w fun e w' => ∃ u, e = .returned u ∧ r.holds Dn none' w' u ∧ Fr [] w w') : Cn f args r := by
  refine ⟨he, fun S w vs hE hS hv => ?_⟩
  have up : ∀ {xs : List Av} {us : List Value}, avs Dn none' (hide S w) xs us → avs Dn none' w xs us := by
    intro xs
    induction xs with
    | nil => intro us h; exact h
    | cons x xs ih => rintro us ⟨v, us', e, h1, h2⟩; exact ⟨v, us', e, AV.up (fun _ _ h => h) (grows_hide S w) h1, ih h2⟩
  refine (h w vs (Tab.up _ _ (grows_hide S w) hE) (up hv)).mono ?_
  rintro e w' ⟨u, rfl, hu, f⟩
  exact ⟨u, rfl, av_hide (fun b hb => by obtain ⟨cs, T, e, p⟩ := hS b hb; exact ⟨cs, T, (f.block b (Array.getElem?_eq_some_iff.1 e).1 (by simp)).trans e, p⟩) hu, fr_fr0 f⟩

def pNat : List (Seg Kn) → Option (Nat × Nat)
  | [.sem (.nat x)] => some ((dg x).length, x)
  | [.sem (.rnat L x)] => some (L, x)
  | [.sem (.dig n x)] => some (n, x)
  | [.lit (.slice none 0 0)] => some (0, 0)
  | _ => none

def pInt : List (Seg Kn) → Option (Nat × Int)
  | [.sem (.int z)] => some (nz z, z)
  | [.sem (.rint L z)] => some (L, z)
  | [.lit (.bool g), s] => (pNat [s]).map fun p => (p.1, iv g p.2)
  | _ => none

def pRat : List (Seg Kn) → Option (Nat × Rat)
  | [.sem (.rat r)] => some (nq r, r)
  | [.sem (.rrat L r)] => some (L, r)
  | [.sem (.vrat L r _)] => some (L, r)
  | [.sem (.rx _ L r)] => some (L, r)
  | [s, t] => match pInt [s], pNat [t] with
    | some p, some q => some (p.1 + q.1, mkRat p.2 q.2)
    | _, _ => none
  | [s, t, u] => match pInt [s, t], pNat [u] with
    | some p, some q => some (p.1 + q.1, mkRat p.2 q.2)
    | _, _ => none
  | _ => none

theorem seg1 {w : World} {s : Seg Kn} {v : Value} {g : Bool} {β : Nat → Option Nat} (h : (AV.val g [s]).holds Dn β w v) : ∃ cs, s.holds Dn w cs ∧ v = mkV g cs ∧ (g = false → cs.length = 1) := by
  obtain ⟨cs, ⟨a, b, e, h1, h2⟩, h3, h4⟩ := h
  have h2 : b = [] := h2
  subst h2
  rw [List.append_nil] at e
  subst e
  exact ⟨_, h1, h3, h4⟩

theorem pNat_seg {w : World} {s : Seg Kn} {L x : Nat} {cs : List Value} (h : pNat [s] = some (L, x)) (hs : s.holds Dn w cs) : ∃ v, cs = [v] ∧ VN w L x v := by
  unfold pNat at h
  split at h
  · rename_i y e
    injection e with e
    subst e
    injection h with h
    injection h with h1 h2
    subst h1; subst h2
    obtain ⟨⟨hl, _⟩, p, c, e, s⟩ := hs
    match cs, hl with
    | [v], _ => exact ⟨v, rfl, p, _, c, _, e, s, val_dg _, Nat.le_refl _⟩
  · rename_i M y e
    injection e with e
    subst e
    injection h with h
    injection h with h1 h2
    subst h1; subst h2
    obtain ⟨⟨hl, _⟩, hv⟩ := hs
    match cs, hl with
    | [v], _ => exact ⟨v, rfl, hv⟩
  · rename_i M y e
    injection e with e
    subst e
    injection h with h
    injection h with h1 h2
    subst h1; subst h2
    obtain ⟨⟨hl, _⟩, p, c, X, e, s, hx⟩ := hs
    match cs, hl with
    | [v], _ => exact ⟨v, rfl, p, _, c, X, e, s, hx, Nat.le_refl _⟩
  · rename_i e
    injection e with e
    subst e
    injection h with h
    injection h with h1 h2
    subst h1; subst h2
    exact ⟨_, hs, none, 0, 0, [], rfl, Sl.zero w, rfl, Nat.le_refl _⟩
  · cases h

theorem pNat_ok {w : World} {β : Nat → Option Nat} {ss : List (Seg Kn)} {L x : Nat} {v : Value} (h : pNat ss = some (L, x)) (hs : (AV.val false ss).holds Dn β w v) : VN w L x v := by
  have : ∃ s, ss = [s] := by
    unfold pNat at h
    split at h
    · exact ⟨_, rfl⟩
    · exact ⟨_, rfl⟩
    · exact ⟨_, rfl⟩
    · exact ⟨_, rfl⟩
    · cases h
  obtain ⟨s, rfl⟩ := this
  obtain ⟨cs, h1, h2, -⟩ := seg1 hs
  obtain ⟨u, rfl, hu⟩ := pNat_seg h h1
  rw [h2]
  exact hu

theorem pInt_segs {w : World} {ss : List (Seg Kn)} {L : Nat} {z : Int} {cs : List Value} (h : pInt ss = some (L, z)) (hs : segs Dn w ss cs) : VI w L z (.agg cs.toArray) := by
  unfold pInt at h
  split at h
  · rename_i y
    injection h with h
    injection h with h1 h2
    subst h1; subst h2
    obtain ⟨a, b, rfl, ⟨_, h1⟩, rfl⟩ := hs
    rw [List.append_nil]
    exact VZ.raw h1 (Nat.le_refl _)
  · rename_i M y
    injection h with h
    injection h with h1 h2
    subst h1; subst h2
    obtain ⟨a, b, rfl, ⟨_, h1⟩, rfl⟩ := hs
    rw [List.append_nil]
    exact h1
  · rename_i g s
    simp only [Option.map_eq_some_iff] at h
    obtain ⟨p, hp, he⟩ := h
    injection he with h1 h2
    subst h1; subst h2
    obtain ⟨a, b, rfl, h1, a', b', rfl, h2, rfl⟩ := hs
    have h1 : a = [.bool g] := h1
    subst h1
    obtain ⟨v, rfl, q, n, c, X, rfl, hx, hv, hn⟩ := pNat_seg hp h2
    exact ⟨g, q, n, c, X, rfl, hx, by rw [hv], hn⟩
  · cases h

theorem pInt_ok {w : World} {β : Nat → Option Nat} {ss : List (Seg Kn)} {L : Nat} {z : Int} {v : Value} (h : pInt ss = some (L, z)) (hs : (AV.val true ss).holds Dn β w v) : VI w L z v := by
  obtain ⟨cs, h1, h2, _⟩ := hs
  rw [h2]
  exact pInt_segs h h1

theorem VI.pair {w : World} {L M x : Nat} {z : Int} {cs : List Value} {v : Value} (h : VI w L z (.agg cs.toArray)) (h' : VN w M x v) : VR w (L + M) (mkRat z x) (.agg (cs ++ [v]).toArray) := by
  obtain ⟨g, p, n, c, X, e, s, rfl, l⟩ := h
  obtain ⟨q, m, d, Y, rfl, t, rfl, l'⟩ := h'
  have e : cs = [.bool g, .slice p n c] := by injection e with e; simpa using congrArg Array.toList e
  subst e
  exact ⟨g, p, n, c, X, q, m, d, Y, rfl, s, t, rfl, by omega, by omega⟩

theorem pRat_ok {w : World} {β : Nat → Option Nat} {ss : List (Seg Kn)} {L : Nat} {r : Rat} {v : Value} (h : pRat ss = some (L, r)) (hs : (AV.val true ss).holds Dn β w v) : VR w L r v := by
  obtain ⟨cs, h1, h2, -⟩ := hs
  rw [h2]
  show VR w L r (.agg cs.toArray)
  unfold pRat at h
  split at h
  · rename_i y
    injection h with h
    injection h with e1 e2
    subst e1; subst e2
    obtain ⟨a, b, rfl, ⟨_, h1⟩, rfl⟩ := h1
    rw [List.append_nil]
    exact VQ.raw h1 (Nat.le_refl _)
  · rename_i M y
    injection h with h
    injection h with e1 e2
    subst e1; subst e2
    obtain ⟨a, b, rfl, ⟨_, h1⟩, rfl⟩ := h1
    rw [List.append_nil]
    exact h1
  · rename_i M y c
    injection h with h
    injection h with e1 e2
    subst e1; subst e2
    obtain ⟨a, b, rfl, ⟨_, h1⟩, rfl⟩ := h1
    rw [List.append_nil]
    exact VB.vr h1
  · rename_i c M y
    injection h with h
    injection h with e1 e2
    subst e1; subst e2
    obtain ⟨a, b, rfl, ⟨_, h1⟩, rfl⟩ := h1
    rw [List.append_nil]
    exact h1.1
  · rename_i s t
    split at h
    case h_2 => cases h
    rename_i p q hp hq
    injection h with h
    injection h with e1 e2
    subst e1; subst e2
    obtain ⟨x, y, rfl, k1, k2⟩ := segs_split (a := [s]) (b := [t]) h1
    obtain ⟨u, hu, hv⟩ : ∃ u, y = [u] ∧ VN w q.1 q.2 u := by
      obtain ⟨a, b, rfl, k3, rfl⟩ := k2
      rw [List.append_nil]
      exact pNat_seg hq k3
    subst hu
    exact VI.pair (pInt_segs hp k1) hv
  · rename_i s t s3
    split at h
    case h_2 => cases h
    rename_i p q hp hq
    injection h with h
    injection h with e1 e2
    subst e1; subst e2
    obtain ⟨x, y, rfl, k1, k2⟩ := segs_split (a := [s, t]) (b := [s3]) h1
    obtain ⟨u, hu, hv⟩ : ∃ u, y = [u] ∧ VN w q.1 q.2 u := by
      obtain ⟨a, b, rfl, k3, rfl⟩ := k2
      rw [List.append_nil]
      exact pNat_seg hq k3
    subst hu
    exact VI.pair (pInt_segs hp k1) hv
  · cases h

abbrev Ent := FuncId × (List Av → Option (List Prop × Av))

def EntsOk : List Ent → Prop
  | [] => True
  | (f, g) :: es => (∀ args obs r, g args = some (obs, r) → (∀ p ∈ obs, p) → Cn f args r) ∧ EntsOk es

theorem ents_get : ∀ {es : List Ent}, EntsOk es → ∀ {f g args obs r}, es.lookup f = some g → g args = some (obs, r) → (∀ p ∈ obs, p) → Cn f args r
  | [], _, _, _, _, _, _, h, _, _ => by cases h
  | (f', g') :: es, ⟨h1, h2⟩, f, g, args, obs, r, h, hg, ho => by
    unfold List.lookup at h
    split at h
    · rename_i e
      have := beq_iff_eq.1 e
      subst this
      injection h with h
      subst h
      exact h1 _ _ _ hg ho
    · exact ents_get h2 h hg ho

def nSplit : Kn → Option (List (Seg Kn))
  | .rat r => some [.sem (.int r.num), .sem (.nat r.den)]
  | .int z => some [.lit (.bool (decide (z < 0))), .sem (.nat z.natAbs)]
  | .low r => some [.sem (.int r.num), .lit (.bool false), .sem (.nat r.den)]
  | _ => none

def nLen : Kn → Option Nat
  | .nat x => some (dg x).length
  | .dig n _ => some n
  | _ => none

def nRow : TypeId → List Value → Option Kn
  | 52, [.int .u32 1] => some (.nat 1)
  | _, _ => none

theorem nSplit_ok : SplitOk Dn nSplit := by
  intro k ss h w vs hφ
  cases k with
  | rat r =>
    injection h with h
    subst h
    obtain ⟨⟨hl, hp⟩, p, c, q, d, e, s, t⟩ := hφ
    have e : Value.agg vs.toArray = rw' (decide (r.num < 0)) p (dg r.num.natAbs).length c q (dg r.den).length d := e
    injection e with e
    have e : vs = [.bool (decide (r.num < 0)), .slice p (dg r.num.natAbs).length c, .slice q (dg r.den).length d] := by simpa using congrArg Array.toList e
    subst e
    exact ⟨[_, _], [_], rfl, ⟨⟨rfl, by simp [cellOk]⟩, p, c, rfl, s⟩, [_], [], rfl, ⟨⟨rfl, by simp [cellOk]⟩, q, d, rfl, t⟩, rfl⟩
  | int z =>
    injection h with h
    subst h
    obtain ⟨⟨hl, hp⟩, p, c, e, s⟩ := hφ
    have e : Value.agg vs.toArray = iw (decide (z < 0)) p (dg z.natAbs).length c := e
    injection e with e
    have e : vs = [.bool (decide (z < 0)), .slice p (dg z.natAbs).length c] := by simpa using congrArg Array.toList e
    subst e
    exact ⟨[_], [_], rfl, rfl, [_], [], rfl, ⟨⟨rfl, by simp [cellOk]⟩, p, c, rfl, s⟩, rfl⟩
  | low r =>
    injection h with h
    subst h
    obtain ⟨⟨hl, hp⟩, p, c, q, d, e, s, t⟩ := hφ
    have e : Value.agg vs.toArray = fw (decide (r.num < 0)) p (dg r.num.natAbs).length c false q (dg r.den).length d := e
    injection e with e
    have e : vs = [.bool (decide (r.num < 0)), .slice p (dg r.num.natAbs).length c, .bool false, .slice q (dg r.den).length d] := by simpa using congrArg Array.toList e
    subst e
    exact ⟨[_, _], [_, _], rfl, ⟨⟨rfl, by simp [cellOk]⟩, p, c, rfl, s⟩, [_], [_], rfl, rfl, [_], [], rfl, ⟨⟨rfl, by simp [cellOk]⟩, q, d, rfl, t⟩, rfl⟩
  | _ => cases h

theorem nLen_ok : LenOk Dn nLen := by
  intro k n h w v hφ
  cases k with
  | nat x =>
    injection h with h
    subst h
    obtain ⟨_, p, c, e, _⟩ := hφ
    exact ⟨p, c, e⟩
  | dig m x =>
    injection h with h
    subst h
    obtain ⟨_, p, c, X, e, _⟩ := hφ
    exact ⟨p, c, e⟩
  | _ => cases h

theorem nRow_ok : RowOk Dn nRow := by
  intro T cs k h w A hA
  unfold nRow at h
  split at h
  · injection h with h
    subst h
    have h1 : dg 1 = [1] := dg_one
    refine ⟨⟨rfl, by simp [cellOk]⟩, some ⟨A, 0, none⟩, 1, ?_⟩
    rw [h1]
    refine ⟨rfl, rfl, Nat.le_refl _, by decide, (fun h => by cases h), Or.inr ⟨A, 0, rfl, (Array.getElem?_eq_some_iff.1 hA).1, ?_⟩, by rw [← h1]; exact Dg_dg _⟩
    intro j hj
    have hj : j < 1 := hj
    obtain rfl : j = 0 := by omega
    rw [cell_at hA]
    rfl
  · cases h

abbrev CnL (f : FuncId) (args : List Av) (T : TypeId) (ss : List (Seg Kn)) (r : Av) (ss' : List (Seg Kn)) : Prop := ConL Dn Tryz.prog Tab f args T ss r ss'

abbrev EntL := FuncId × (List Av → TypeId → List (Seg Kn) → Option (List Prop × Av × List (Seg Kn)))

def EntsLOk : List EntL → Prop
  | [] => True
  | (f, g) :: es => (∀ args T ss obs r ss', g args T ss = some (obs, r, ss') → (∀ p ∈ obs, p) → CnL f args T ss r ss') ∧ EntsLOk es

theorem entsL_get : ∀ {es : List EntL}, EntsLOk es → ∀ {f g args T ss obs r ss'}, es.lookup f = some g → g args T ss = some (obs, r, ss') → (∀ p ∈ obs, p) → CnL f args T ss r ss'
  | [], _, _, _, _, _, _, _, _, _, h, _, _ => by cases h
  | (f', g') :: es, ⟨h1, h2⟩, f, g, args, T, ss, obs, r, ss', h, hg, ho => by
    unfold List.lookup at h
    split at h
    · rename_i e
      have := beq_iff_eq.1 e
      subst this
      injection h with h
      subst h
      exact h1 _ _ _ _ _ _ hg ho
    · exact entsL_get h2 h hg ho

def mkTb4 (es alts : List Ent) (ls : List EntL) (hint : Nat → Option (Hint Kn)) : Tb Kn := ⟨fun f args ds => match es.lookup f with
  | some g => match alts.lookup f with
    | some g' => match ds with
      | some false :: ds => (g' args).map fun p => (p.1, p.2, ds)
      | _ :: ds => (g args).map fun p => (p.1, p.2, ds)
      | [] => (g args).map fun p => (p.1, p.2, [])
    | none => (g args).map fun p => (p.1, p.2, ds)
  | none => none, nSplit, nLen, nRow, hint, fun f args T ss ds => match ls.lookup f with
  | some g => (g args T ss).map fun p => (p.1, p.2.1, p.2.2, ds)
  | none => none⟩

def mkTb3 (es alts : List Ent) (hint : Nat → Option (Hint Kn)) : Tb Kn := mkTb4 es alts [] hint

def mkTb2 (es alts : List Ent) : Tb Kn := mkTb3 es alts fun _ => none

def mkTb (es : List Ent) : Tb Kn := mkTb2 es []

theorem mkTb4_ok {es alts : List Ent} {ls : List EntL} {hint : Nat → Option (Hint Kn)} (h : EntsOk es) (h' : EntsOk alts) (hl : EntsLOk ls) : TbOk Dn Tryz.prog Tab (mkTb4 es alts ls hint) := by
  refine ⟨nSplit_ok, nLen_ok, nRow_ok, fun f args ds obs r ds' hc ho => ?_, fun f args T ss ds obs r ss' ds' hc ho => ?_⟩
  rotate_left
  · unfold mkTb4 at hc
    dsimp only at hc
    split at hc
    · rename_i g hg
      simp only [Option.map_eq_some_iff, Prod.mk.injEq] at hc
      obtain ⟨p, hp, h1, h2, h3, -⟩ := hc
      subst h1; subst h2; subst h3
      exact entsL_get hl hg hp ho
    · cases hc
  have one : ∀ {l : List Ent} {g ds1}, EntsOk l → l.lookup f = some g → ((g args).map fun p => (p.1, p.2, ds1)) = some (obs, r, ds') → Cn f args r := by
    intro l g ds1 hl hg he
    simp only [Option.map_eq_some_iff, Prod.mk.injEq] at he
    obtain ⟨p, hp, h1, h2, -⟩ := he
    subst h1; subst h2
    exact ents_get hl hg hp ho
  unfold mkTb4 at hc
  dsimp only at hc
  split at hc
  · rename_i g hg
    split at hc
    · rename_i g' hg'
      split at hc
      · exact one h' hg' hc
      · exact one h hg hc
      · exact one h hg hc
    · exact one h hg hc
  · cases hc

theorem mkTb3_ok {es alts : List Ent} {hint : Nat → Option (Hint Kn)} (h : EntsOk es) (h' : EntsOk alts) : TbOk Dn Tryz.prog Tab (mkTb3 es alts hint) := mkTb4_ok h h' trivial

theorem mixed : Tryz.prog.follows .mixedOrders = true := by kernel_rfl

theorem mkTb2_ok {es alts : List Ent} (h : EntsOk es) (h' : EntsOk alts) : TbOk Dn Tryz.prog Tab (mkTb2 es alts) := mkTb3_ok h h'

theorem walk3 {es alts : List Ent} {hint : Nat → Option (Hint Kn)} (hes : EntsOk es) (ha : EntsOk alts) {f : FuncId} {fn : Func} {args : List Av} {ds : List (Option Bool)} {fuel : Nat} {obs : List Prop} {r : Av} (hf : Tryz.prog.funcs[f]? = some fn) (hname : (fn.name == "runtime.NumGoroutine") = false)
    (h : aFun Dn (mkTb3 es alts hint) Tryz.prog fuel fn args ds = some (obs, r)) (hobs : (∃ w vs, avs Dn none' w args vs) → ∀ p ∈ obs, p) : Cn f args r :=
  aFun_ok Tab.up (mkTb3_ok hes ha) mixed hf hname h hobs

theorem walk2 {es alts : List Ent} (hes : EntsOk es) (ha : EntsOk alts) {f : FuncId} {fn : Func} {args : List Av} {ds : List (Option Bool)} {fuel : Nat} {obs : List Prop} {r : Av} (hf : Tryz.prog.funcs[f]? = some fn) (hname : (fn.name == "runtime.NumGoroutine") = false)
    (h : aFun Dn (mkTb2 es alts) Tryz.prog fuel fn args ds = some (obs, r)) (hobs : (∃ w vs, avs Dn none' w args vs) → ∀ p ∈ obs, p) : Cn f args r :=
  aFun_ok Tab.up (mkTb2_ok hes ha) mixed hf hname h hobs

end Go.Proofs.YtagciepnhjbopaaGreatDoor

namespace Go.Proofs.YtagciepnhjbopaaGreatDoor
open Go.RowKit En

inductive Pa where
  | n (L x : Nat)
  | i (L : Nat) (z : Int)
  | r (L : Nat) (q : Rat)
  | f (L : Nat) (q : Rat)
  | l (v : Value)
  | cd (x : Nat)
  | cz (n : Int)
  | cq (q : Rat)
  | vv (L : Nat) (r s : Rat)

abbrev ivSegs (L : Nat) (r s : Rat) : List (Seg Kn) := [.sem (.rrat L r), .sem (.rrat L s)]

def Pa.is (w : World) : Pa → Value → Prop
  | .n L x => VN w L x
  | .i L z => VI w L z
  | .r L q => VR w L q
  | .f L q => VF w L q
  | .l v => fun u => u = v
  | .cd y => VD w y
  | .cz y => VZ w y
  | .cq y => VQ w y
  | .vv L a b => vl Dn w (true, ivSegs L a b)

def pas (w : World) : List Pa → List Value → Prop
  | [], vs => vs = []
  | p :: ps, vs => ∃ v us, vs = v :: us ∧ p.is w v ∧ pas w ps us

inductive Ar where
  | n
  | i
  | r
  | f
  | l
  | cd
  | cz
  | cq
  | vv

def pFrac : List (Seg Kn) → Option (List Prop × Nat × Rat)
  | [.sem (.frac L r)] => some ([], L, r)
  | [.sem (.low r)] => some ([], nq r, r)
  | [s, t] => match pInt [s], pInt [t] with
    | some p, some q => some ([0 < q.2], p.1 + q.1, Rat.divInt p.2 q.2)
    | _, _ => none
  | [s, t, u] => match pInt [s], pInt [t, u] with
    | some p, some q => some ([0 < q.2], p.1 + q.1, Rat.divInt p.2 q.2)
    | _, _ => match pInt [s, t], pInt [u] with
      | some p, some q => some ([0 < q.2], p.1 + q.1, Rat.divInt p.2 q.2)
      | _, _ => none
  | [s, t, u, v] => match pInt [s, t], pInt [u, v] with
    | some p, some q => some ([0 < q.2], p.1 + q.1, Rat.divInt p.2 q.2)
    | _, _ => none
  | _ => none

def pD1 : List (Seg Kn) → Option Nat
  | [.sem (.nat x)] => some x
  | [.lit (.slice none 0 0)] => some 0
  | _ => none

def pZ1 : List (Seg Kn) → Option Int
  | [.sem (.int z)] => some z
  | [.lit (.bool false), s] => (pD1 [s]).map fun (x : Nat) => (x : Int)
  | _ => none

def pQ1 : List (Seg Kn) → Option Rat
  | [.sem (.rat r)] => some r
  | _ => none

theorem pD1_seg {w : World} {s : Seg Kn} {x : Nat} {cs : List Value} (h : pD1 [s] = some x) (hs : s.holds Dn w cs) : ∃ p c, cs = [.slice p (dg x).length c] ∧ Sl w p (dg x).length c (dg x) := by
  unfold pD1 at h
  split at h
  · rename_i y e
    injection e with e
    subst e
    injection h with h
    subst h
    obtain ⟨⟨hl, _⟩, p, c, e, s⟩ := hs
    match cs, hl with
    | [v], _ => exact ⟨p, c, by have e : v = _ := e; rw [e], s⟩
  · rename_i e
    injection e with e
    subst e
    injection h with h
    subst h
    have hs : cs = [.slice none 0 0] := hs
    refine ⟨none, 0, ?_, ?_⟩
    · rw [hs, dg_zero]; rfl
    · rw [dg_zero]; exact Sl.zero w
  · cases h

theorem pD1_ok {w : World} {β : Nat → Option Nat} {ss : List (Seg Kn)} {x : Nat} {v : Value} (h : pD1 ss = some x) (hs : (AV.val false ss).holds Dn β w v) : VD w x v := by
  have : ∃ s, ss = [s] := by
    unfold pD1 at h
    split at h
    · exact ⟨_, rfl⟩
    · exact ⟨_, rfl⟩
    · cases h
  obtain ⟨s, rfl⟩ := this
  obtain ⟨cs, h1, h2, -⟩ := seg1 hs
  obtain ⟨p, c, rfl, hx⟩ := pD1_seg h h1
  exact ⟨p, c, h2, hx⟩

theorem pZ1_ok {w : World} {β : Nat → Option Nat} {ss : List (Seg Kn)} {z : Int} {v : Value} (h : pZ1 ss = some z) (hs : (AV.val true ss).holds Dn β w v) : VZ w z v := by
  unfold pZ1 at h
  split at h
  · injection h with h; subst h; exact sv_to hs
  · rename_i s
    simp only [Option.map_eq_some_iff] at h
    obtain ⟨x, hx, rfl⟩ := h
    obtain ⟨cs, ⟨a, b, rfl, h1, a', b', rfl, h2, rfl⟩, h3, -⟩ := hs
    have h1 : a = [.bool false] := h1
    subst h1
    obtain ⟨p, c, rfl, hs⟩ := pD1_seg hx h2
    rw [h3]
    refine ⟨p, c, ?_, by rw [Int.natAbs_natCast]; exact hs⟩
    rw [decide_eq_false (by omega), Int.natAbs_natCast]
    rfl
  · cases h

def pItv : List (Seg Kn) → Option (Nat × Rat × Rat)
  | [s, t] => match pRat [s], pRat [t] with
    | some p, some q => some (p.1 + q.1, p.2, q.2)
    | _, _ => none
  | [s1, s2, s3, t1, t2, t3] => match pRat [s1, s2, s3], pRat [t1, t2, t3] with
    | some p, some q => some (p.1 + q.1, p.2, q.2)
    | _, _ => none
  | _ => none

theorem pItv_ok {w : World} {β : Nat → Option Nat} {ss : List (Seg Kn)} {L : Nat} {r s : Rat} {v : Value} (h : pItv ss = some (L, r, s)) (hs : (AV.val true ss).holds Dn β w v) : vl Dn w (true, ivSegs L r s) v := by
  have two : ∀ {a b : List (Seg Kn)} {p q : Nat × Rat}, pRat a = some p → pRat b = some q → ss = a ++ b → (p.1 + q.1, p.2, q.2) = (L, r, s) → vl Dn w (true, ivSegs L r s) v := by
    intro a b p q ha hb e he
    injection he with e1 e2
    injection e2 with e2 e3
    subst e1; subst e2; subst e3; subst e
    obtain ⟨cs, h1, h2, -⟩ := hs
    obtain ⟨x, y, rfl, k1, k2⟩ := segs_split h1
    have one : ∀ {c : List (Seg Kn)} {p : Nat × Rat} {z : List Value}, pRat c = some p → segs Dn w c z → ∀ M, p.1 ≤ M → Seg.holds Dn w (.sem (.rrat M p.2)) z := by
      intro c p z hc hz M hM
      have h5 : (AV.val true c).holds Dn (fun _ => none) w (.agg z.toArray) := ⟨z, hz, rfl, fun h => by cases h⟩
      have h6 := (pRat_ok hc h5).mono hM
      obtain ⟨cs, ⟨a, b, e, h7, h8⟩, h9, -⟩ := sv_of (x := .rrat M p.2) h6 (fun _ => none)
      have h8 : b = [] := h8
      subst h8
      rw [List.append_nil] at e
      subst e
      injection h9 with h9
      have h9 : z = cs := by simpa using congrArg Array.toList h9
      rw [h9]
      exact h7
    exact ⟨_, ⟨x, y, rfl, one ha k1 _ (by omega), y, [], (List.append_nil _).symm, one hb k2 _ (by omega), rfl⟩, h2, fun h => by cases h⟩
  unfold pItv at h
  split at h
  · split at h
    case h_2 => cases h
    rename_i hp hq
    injection h with h
    exact two hp hq rfl h
  · split at h
    case h_2 => cases h
    rename_i hp hq
    injection h with h
    exact two hp hq rfl h
  · cases h

def parse : Ar → Av → Option (List Prop × Pa)
  | .n, .val false s => (pNat s).map fun p => ([], .n p.1 p.2)
  | .i, .val true s => (pInt s).map fun p => ([], .i p.1 p.2)
  | .r, .val true s => (pRat s).map fun p => ([], .r p.1 p.2)
  | .f, .val true s => (pFrac s).map fun p => (p.1, .f p.2.1 p.2.2)
  | .l, x => (lit? x).map fun v => ([], .l v)
  | .cd, .val false s => (pD1 s).map fun x => ([], .cd x)
  | .cz, .val true s => (pZ1 s).map fun x => ([], .cz x)
  | .cq, .val true s => (pQ1 s).map fun x => ([], .cq x)
  | .vv, .val true s => (pItv s).map fun p => ([], .vv p.1 p.2.1 p.2.2)
  | _, _ => none

def parses : List Ar → List Av → Option (List Prop × List Pa)
  | [], [] => some ([], [])
  | a :: ar, x :: xs => match parse a x, parses ar xs with
    | some p, some ps => some (p.1 ++ ps.1, p.2 :: ps.2)
    | _, _ => none
  | _, _ => none

theorem VI.frac {w : World} {L M : Nat} {a b : Int} {cs ds : List Value} (h : VI w L a (.agg cs.toArray)) (h' : VI w M b (.agg ds.toArray)) (hb : 0 < b) : VF w (L + M) (Rat.divInt a b) (.agg (cs ++ ds).toArray) := by
  obtain ⟨g, p, n, c, X, e, s, rfl, l⟩ := h
  obtain ⟨g', q, m, d, Y, e', t, rfl, l'⟩ := h'
  have e : cs = [.bool g, .slice p n c] := by injection e with e; simpa using congrArg Array.toList e
  have e' : ds = [.bool g', .slice q m d] := by injection e' with e'; simpa using congrArg Array.toList e'
  subst e; subst e'
  have hg : g' = false := by
    cases g' with
    | false => rfl
    | true => unfold iv at hb; simp at hb; omega
  subst hg
  have hv : iv false (val Y) = (val Y : Int) := rfl
  rw [hv] at hb ⊢
  exact ⟨g, p, n, c, X, q, m, d, Y, rfl, s, t, (divInt_pos _).symm, by omega, by omega, by omega⟩

theorem pFrac_two {w : World} {a b : List (Seg Kn)} {L M : Nat} {x y : Int} {cs : List Value} (ha : pInt a = some (L, x)) (hb : pInt b = some (M, y)) (h0 : 0 < y) (hs : segs Dn w (a ++ b) cs) : VF w (L + M) (Rat.divInt x y) (.agg cs.toArray) := by
  obtain ⟨u, v, rfl, h1, h2⟩ := segs_split hs
  exact VI.frac (pInt_segs ha h1) (pInt_segs hb h2) h0

theorem pFrac_ok {w : World} {β : Nat → Option Nat} {ss : List (Seg Kn)} {obs : List Prop} {L : Nat} {r : Rat} {v : Value} (h : pFrac ss = some (obs, L, r)) (ho : ∀ p ∈ obs, p) (hs : (AV.val true ss).holds Dn β w v) : VF w L r v := by
  obtain ⟨cs, h1, h2, -⟩ := hs
  rw [h2]
  show VF w L r (.agg cs.toArray)
  have two : ∀ {a b : List (Seg Kn)} {p q : Nat × Int}, pInt a = some p → pInt b = some q → ss = a ++ b → ([0 < q.2], p.1 + q.1, Rat.divInt p.2 q.2) = (obs, L, r) → VF w L r (.agg cs.toArray) := by
    intro a b p q ha hb e he
    injection he with e1 e2
    injection e2 with e2 e3
    subst e1; subst e2; subst e3
    subst e
    exact pFrac_two ha hb (ho _ (by simp)) h1
  unfold pFrac at h
  split at h
  · injection h with h
    injection h with e1 e2
    injection e2 with e2 e3
    subst e1; subst e2; subst e3
    obtain ⟨a, b, rfl, ⟨_, h1⟩, rfl⟩ := h1
    rw [List.append_nil]
    exact h1
  · injection h with h
    injection h with e1 e2
    injection e2 with e2 e3
    subst e1; subst e2; subst e3
    obtain ⟨a, b, rfl, ⟨_, h1⟩, rfl⟩ := h1
    rw [List.append_nil]
    exact VL.raw h1 (Nat.le_refl _)
  · split at h
    case h_2 => cases h
    rename_i hp hq
    injection h with h
    exact two hp hq rfl h
  · split at h
    · rename_i hp hq
      injection h with h
      exact two hp hq rfl h
    · split at h
      case h_2 => cases h
      rename_i hp hq
      injection h with h
      exact two hp hq rfl h
  · split at h
    case h_2 => cases h
    rename_i hp hq
    injection h with h
    exact two hp hq rfl h
  · cases h

theorem parse_ok {w : World} {β : Nat → Option Nat} {a : Ar} {x : Av} {obs : List Prop} {p : Pa} {v : Value} (h : parse a x = some (obs, p)) (ho : ∀ p ∈ obs, p) (hx : x.holds Dn β w v) : p.is w v := by
  unfold parse at h
  split at h
  · simp only [Option.map_eq_some_iff, Prod.mk.injEq] at h
    obtain ⟨q, hq, rfl, rfl⟩ := h
    exact pNat_ok hq hx
  · simp only [Option.map_eq_some_iff, Prod.mk.injEq] at h
    obtain ⟨q, hq, rfl, rfl⟩ := h
    exact pInt_ok hq hx
  · simp only [Option.map_eq_some_iff, Prod.mk.injEq] at h
    obtain ⟨q, hq, rfl, rfl⟩ := h
    exact pRat_ok hq hx
  · simp only [Option.map_eq_some_iff, Prod.mk.injEq] at h
    obtain ⟨q, hq, rfl, rfl⟩ := h
    exact pFrac_ok hq ho hx
  · simp only [Option.map_eq_some_iff, Prod.mk.injEq] at h
    obtain ⟨q, hq, rfl, rfl⟩ := h
    exact lit?_ok hq hx
  · simp only [Option.map_eq_some_iff, Prod.mk.injEq] at h
    obtain ⟨q, hq, rfl, rfl⟩ := h
    exact pD1_ok hq hx
  · simp only [Option.map_eq_some_iff, Prod.mk.injEq] at h
    obtain ⟨q, hq, rfl, rfl⟩ := h
    exact pZ1_ok hq hx
  · simp only [Option.map_eq_some_iff, Prod.mk.injEq] at h
    obtain ⟨q, hq, rfl, rfl⟩ := h
    unfold pQ1 at hq
    split at hq
    · injection hq with hq; subst hq; exact sv_to hx
    · cases hq
  · simp only [Option.map_eq_some_iff, Prod.mk.injEq] at h
    obtain ⟨q, hq, rfl, rfl⟩ := h
    exact pItv_ok hq hx
  · cases h

theorem parses_ok {w : World} {β : Nat → Option Nat} : ∀ {ar : List Ar} {xs : List Av} {obs : List Prop} {ps : List Pa} {vs : List Value}, parses ar xs = some (obs, ps) → (∀ p ∈ obs, p) → avs Dn β w xs vs → pas w ps vs
  | [], [], _, _, _, h, _, hv => by injection h with h; injection h with h1 h2; subst h2; exact hv
  | a :: ar, x :: xs, _, _, _, h, ho, ⟨v, us, e, h1, h2⟩ => by
    simp only [parses] at h
    split at h
    case h_2 => cases h
    rename_i p ps hp hps
    injection h with h
    injection h with e1 e2
    subst e1; subst e2
    exact ⟨v, us, e, parse_ok hp (fun q hq => ho q (memL hq)) h1, parses_ok hps (fun q hq => ho q (memR hq)) h2⟩
  | [], _ :: _, _, _, _, h, _, _ => by cases h
  | _ :: _, [], _, _, _, h, _, _ => by cases h

def Cp (f : FuncId) (ps : List Pa) (r : Av) : Prop :=
  Enters f ∧ ∀ (S : Nat → Prop) (w : World) (vs : List Value), Tab (hide S w) → (∀ b, S b → Plain w b) → pas (hide S w) ps vs → Calls Tryz.prog f vs.toArray w (Ret Dn S r w)

def ent (ar : List Ar) (k : List Pa → Option (List Prop × Av)) : List Av → Option (List Prop × Av) := fun xs => match parses ar xs with
  | some (obs, ps) => match k ps with
    | some (obs', r) => some (obs ++ obs', r)
    | none => none
  | none => none

theorem ent_ok {f : FuncId} {ar : List Ar} {k : List Pa → Option (List Prop × Av)} (h : ∀ ps obs r, k ps = some (obs, r) → (∀ p ∈ obs, p) → Cp f ps r) (args : List Av) (obs : List Prop) (r : Av) (he : ent ar k args = some (obs, r)) (ho : ∀ p ∈ obs, p) : Cn f args r := by
  unfold ent at he
  split at he
  case h_2 => cases he
  rename_i obs1 ps hp
  split at he
  case h_2 => cases he
  rename_i obs2 r2 hk
  injection he with he
  injection he with e1 e2
  subst e1; subst e2
  obtain ⟨h1, h2⟩ := h ps obs2 r2 hk fun q hq => ho q (memR hq)
  exact ⟨h1, fun S w vs hE hS hv => h2 S w vs hE hS (parses_ok hp (fun q hq => ho q (memL hq)) hv)⟩

def pav : Pa → Av
  | .n L x => sv (.rnat L x)
  | .i L z => sv (.rint L z)
  | .r L q => sv (.rrat L q)
  | .f L q => sv (.frac L q)
  | .l v => .val false [.lit v]
  | .cd x => sv (.nat x)
  | .cz y => sv (.int y)
  | .cq y => sv (.rat y)
  | .vv L r s => .val true (ivSegs L r s)

theorem pav_of {w : World} {p : Pa} {v : Value} (h : p.is w v) : (pav p).holds Dn none' w v := by
  cases p with
  | n L x => exact sv_of (x := .rnat L x) h _
  | i L z => exact sv_of (x := .rint L z) h _
  | r L q => exact sv_of (x := .rrat L q) h _
  | f L q => exact sv_of (x := .frac L q) h _
  | l u =>
    have h : v = u := h
    subst h
    exact vl_lit _ _
  | cd x => exact sv_of (x := .nat x) h _
  | cz n => exact sv_of (x := .int n) h _
  | cq q => exact sv_of (x := .rat q) h _
  | vv L r s => exact h

theorem pav_to {w : World} {p : Pa} {v : Value} (h : (pav p).holds Dn none' w v) : p.is w v := by
  cases p with
  | n L x => exact sv_to (x := .rnat L x) h
  | i L z => exact sv_to (x := .rint L z) h
  | r L q => exact sv_to (x := .rrat L q) h
  | f L q => exact sv_to (x := .frac L q) h
  | l u => exact vl_lit_inv h
  | cd x => exact sv_to (x := .nat x) h
  | cz n => exact sv_to (x := .int n) h
  | cq q => exact sv_to (x := .rat q) h
  | vv L r s => exact h

theorem pas_avs {w : World} : ∀ {ps : List Pa} {vs : List Value}, pas w ps vs → avs Dn none' w (ps.map pav) vs
  | [], _, h => h
  | _ :: _, _, ⟨v, us, e, h1, h2⟩ => ⟨v, us, e, pav_of h1, pas_avs h2⟩

theorem avs_pas {w : World} : ∀ {ps : List Pa} {vs : List Value}, avs Dn none' w (ps.map pav) vs → pas w ps vs
  | [], _, h => h
  | _ :: _, _, ⟨v, us, e, h1, h2⟩ => ⟨v, us, e, pav_to h1, avs_pas h2⟩

theorem cp_of {f : FuncId} {ps : List Pa} {r : Av} (h : Cn f (ps.map pav) r) : Cp f ps r := ⟨h.1, fun S w vs hE hS hv => h.2 S w vs hE hS (pas_avs hv)⟩

theorem cp_leaf {f : FuncId} {ps : List Pa} {r : Av} (he : Enters f) (h : ∀ w vs, Tab w → pas w ps vs → Calls Tryz.prog f vs.toArray w fun e w' => ∃ u, e = .returned u ∧ r.holds Dn none' w' u ∧ Fr [] w w') : Cp f ps r :=
  cp_of (leaf he fun w vs ht hv => h w vs ht (avs_pas hv))

theorem rv_sv {k : Kn} {w : World} {e : Ending} {w' : World} (h : RV (fun w' => k.is w') w e w') : ∃ u, e = .returned u ∧ (sv k).holds Dn none' w' u ∧ Fr [] w w' := by
  obtain ⟨u, h1, h2, h3⟩ := h
  exact ⟨u, h1, sv_of h2 _, h3⟩

theorem rn_sv {z : Int} {w : World} {e : Ending} {w' : World} (h : RN z w e w') : ∃ u, e = .returned u ∧ (avI z).holds Dn none' w' u ∧ Fr [] w w' := ⟨_, h.1, vl_lit _ _, h.2⟩

theorem rb_sv {b : Bool} {w : World} {e : Ending} {w' : World} (h : RB b w e w') : ∃ u, e = .returned u ∧ (avB b).holds Dn none' w' u ∧ Fr [] w w' := ⟨_, h.1, vl_lit _ _, h.2⟩

theorem vl_sv {k : Kn} {w : World} {v : Value} (h : k.is w v) : vl Dn w (k.g, [.sem k]) v := sv_of h none'

def opn : Pa → Av → Prop
  | .n L x, a => (dg x).length ≤ L ∧ a = sv (.rnat L x)
  | .i L z, a => nz z ≤ L ∧ a = sv (.rint L z)
  | .r L q, a => ∃ (z : Int) (d : Nat), mkRat z d = q ∧ nz z ≤ L ∧ (dg d).length ≤ L ∧ a = .val true [.sem (.rint L z), .sem (.rnat L d)]
  | .f L q, a => ∃ (z : Int) (d : Nat), mkRat z d = q ∧ d ≠ 0 ∧ nz z ≤ L ∧ (dg d).length ≤ L ∧ a = .val true [.sem (.rint L z), .lit (.bool false), .sem (.rnat L d)]
  | .l v, a => a = .val false [.lit v]
  | .cd x, a => a = sv (.nat x)
  | .cz y, a => a = sv (.int y)
  | .cq y, a => a = sv (.rat y)
  | .vv L r s, a => a = .val true (ivSegs L r s)

def opns : List Pa → List Av → Prop
  | [], xs => xs = []
  | p :: ps, xs => ∃ x ys, xs = x :: ys ∧ opn p x ∧ opns ps ys

theorem vn_len {w : World} {L x : Nat} {v : Value} (h : VN w L x v) : (dg x).length ≤ L := by
  obtain ⟨p, n, c, X, _, s, rfl, l⟩ := h
  have := dg_len_val s.dig
  rw [s.len] at this
  omega

theorem opn_of {w : World} {p : Pa} {v : Value} (h : p.is w v) : ∃ x, opn p x ∧ x.holds Dn none' w v := by
  cases p with
  | n L x => exact ⟨_, ⟨vn_len h, rfl⟩, sv_of (x := .rnat L x) h _⟩
  | i L z => exact ⟨_, ⟨nz_len h, rfl⟩, sv_of (x := .rint L z) h _⟩
  | l u => exact ⟨_, rfl, pav_of (p := .l u) h⟩
  | cd x => exact ⟨_, rfl, pav_of (p := .cd x) h⟩
  | cz x => exact ⟨_, rfl, pav_of (p := .cz x) h⟩
  | cq x => exact ⟨_, rfl, pav_of (p := .cq x) h⟩
  | vv L r s => exact ⟨_, rfl, pav_of (p := .vv L r s) h⟩
  | r L q =>
    obtain ⟨g, p, n, c, X, q', m, d, Y, rfl, s, t, hr, l, l'⟩ := h
    have h1 : VI w L (iv g (val X)) (.agg [.bool g, .slice p n c].toArray) := ⟨g, p, n, c, X, rfl, s, rfl, l⟩
    have h2 : VN w L (val Y) (.slice q' m d) := ⟨q', m, d, Y, rfl, t, rfl, l'⟩
    exact ⟨_, ⟨_, _, hr, nz_len h1, vn_len h2, rfl⟩, [.bool g, .slice p n c, .slice q' m d], ⟨[_, _], [_], rfl, ⟨⟨rfl, by simp [cellOk]⟩, h1⟩, [_], [], rfl, ⟨⟨rfl, by simp [cellOk]⟩, h2⟩, rfl⟩, rfl, fun h => by cases h⟩
  | f L q =>
    obtain ⟨g, p, n, c, X, q', m, d, Y, rfl, s, t, hr, hy, l, l'⟩ := h
    have h1 : VI w L (iv g (val X)) (.agg [.bool g, .slice p n c].toArray) := ⟨g, p, n, c, X, rfl, s, rfl, l⟩
    have h2 : VN w L (val Y) (.slice q' m d) := ⟨q', m, d, Y, rfl, t, rfl, l'⟩
    exact ⟨_, ⟨_, _, hr, hy, nz_len h1, vn_len h2, rfl⟩, [.bool g, .slice p n c, .bool false, .slice q' m d], ⟨[_, _], [_, _], rfl, ⟨⟨rfl, by simp [cellOk]⟩, h1⟩, [_], [_], rfl, rfl, [_], [], rfl, ⟨⟨rfl, by simp [cellOk]⟩, h2⟩, rfl⟩, rfl, fun h => by cases h⟩

theorem opns_of {w : World} : ∀ {ps : List Pa} {vs : List Value}, pas w ps vs → ∃ xs, opns ps xs ∧ avs Dn none' w xs vs
  | [], _, h => ⟨[], rfl, h⟩
  | _ :: _, _, ⟨v, us, e, h1, h2⟩ => by
    obtain ⟨x, h3, h4⟩ := opn_of h1
    obtain ⟨xs, h5, h6⟩ := opns_of h2
    exact ⟨x :: xs, ⟨x, xs, rfl, h3, h5⟩, v, us, e, h4, h6⟩

theorem cp_opn {f : FuncId} {ps : List Pa} {r : Av} (he : Enters f) (h : ∀ xs, opns ps xs → Cn f xs r) : Cp f ps r :=
  ⟨he, fun S w vs hE hS hv => by obtain ⟨xs, h1, h2⟩ := opns_of hv; exact (h xs h1).2 S w vs hE hS h2⟩

theorem cn_res {f : FuncId} {args : List Av} {r r' : Av} (h : Cn f args r) (hr : ∀ w u, r.holds Dn none' w u → r'.holds Dn none' w u) : Cn f args r' :=
  ⟨h.1, fun S w vs hE hS hv => (h.2 S w vs hE hS hv).mono (by rintro e w' ⟨u, h1, h2, h3⟩; exact ⟨u, h1, hr _ _ h2, h3⟩)⟩

theorem segs2 {w : World} {s t : Seg Kn} {cs : List Value} (h : segs Dn w [s, t] cs) : ∃ a b, cs = a ++ b ∧ s.holds Dn w a ∧ t.holds Dn w b := by
  obtain ⟨a, b, rfl, h1, c, d, rfl, h2, rfl⟩ := h
  exact ⟨a, c, by rw [List.append_nil], h1, h2⟩

theorem rat_join {z : Int} {x : Nat} {r : Rat} (hz : r.num = z) (hx : r.den = x) (w : World) (u : Value) (h : (AV.val true [.sem (.int z), .sem (.nat x)] : Av).holds Dn none' w u) : (sv (.rat r)).holds Dn none' w u := by
  obtain ⟨cs, h1, h2, -⟩ := h
  obtain ⟨a, b, rfl, ⟨_, p, c, e, s⟩, ⟨⟨hl, _⟩, q, d, e', t⟩⟩ := segs2 h1
  subst hz; subst hx
  rw [h2]
  have e : a = [.bool (decide (r.num < 0)), .slice p (dg r.num.natAbs).length c] := by injection e with e; simpa using congrArg Array.toList e
  have e' : b = [.slice q (dg r.den).length d] := by
    match b, hl with
    | [y], _ => have e' : y = _ := e'; rw [e']
  subst e; subst e'
  exact sv_of (x := .rat r) ⟨p, c, q, d, rfl, s, t⟩ _

theorem rat_zero (w : World) (u : Value) (h : (AV.val true [.lit (.bool false), .lit (.slice none 0 0), .sem (.nat 1)] : Av).holds Dn none' w u) : (sv (.rat 0)).holds Dn none' w u := by
  obtain ⟨cs, ⟨a, b, rfl, h1, a', b', rfl, h2, a3, b3, rfl, ⟨⟨hl, _⟩, q, d, e', t⟩, rfl⟩, h4, -⟩ := h
  have h1 : a = [.bool false] := h1
  have h2 : a' = [.slice none 0 0] := h2
  have e' : a3 = [.slice q (dg 1).length d] := by
    match a3, hl with
    | [y], _ => have e' : y = _ := e'; rw [e']
  subst h1; subst h2; subst e'
  rw [h4]
  refine sv_of (x := .rat 0) ⟨none, 0, q, d, ?_, ?_, t⟩ _
  · show _ = rw' (decide ((0 : Int) < 0)) none (dg (0 : Int).natAbs).length 0 q (dg 1).length d
    rw [Int.natAbs_zero, dg_zero]
    rfl
  · show Sl w none (dg (0 : Int).natAbs).length 0 (dg (0 : Int).natAbs)
    rw [Int.natAbs_zero, dg_zero]
    exact Sl.zero w

def AllP : List Prop → Prop
  | [] => True
  | p :: ps => p ∧ AllP ps

theorem allp : ∀ {ps : List Prop}, AllP ps → ∀ p ∈ ps, p
  | [], _, p, h => by cases h
  | q :: ps, ⟨h1, h2⟩, p, h => by
    rcases List.mem_cons.1 h with rfl | h
    · exact h1
    · exact allp h2 p h

theorem wk {es : List Ent} (hes : EntsOk es) {f : FuncId} {fn : Func} {args : List Av} {ds : List (Option Bool)} {fuel : Nat} {obs : List Prop} {r : Av} (hf : Tryz.prog.funcs[f]? = some fn) (hname : (fn.name == "runtime.NumGoroutine") = false)
    (h : aFun Dn (mkTb es) Tryz.prog fuel fn args ds = some (obs, r)) (ho : AllP obs) : Cn f args r := walk2 (alts := []) hes trivial hf hname h fun _ => allp ho

theorem wk2 {es alts : List Ent} (hes : EntsOk es) (ha : EntsOk alts) {f : FuncId} {fn : Func} {args : List Av} {ds : List (Option Bool)} {fuel : Nat} {obs : List Prop} {r : Av} (hf : Tryz.prog.funcs[f]? = some fn) (hname : (fn.name == "runtime.NumGoroutine") = false)
    (h : aFun Dn (mkTb2 es alts) Tryz.prog fuel fn args ds = some (obs, r)) (ho : AllP obs) : Cn f args r := walk2 hes ha hf hname h fun _ => allp ho

theorem wk3 {es alts : List Ent} {hint : Nat → Option (Hint Kn)} (hes : EntsOk es) (ha : EntsOk alts) {f : FuncId} {fn : Func} {args : List Av} {ds : List (Option Bool)} {fuel : Nat} {obs : List Prop} {r : Av} (hf : Tryz.prog.funcs[f]? = some fn) (hname : (fn.name == "runtime.NumGoroutine") = false)
    (h : aFun Dn (mkTb3 es alts hint) Tryz.prog fuel fn args ds = some (obs, r)) (ho : AllP obs) : Cn f args r := walk3 hes ha hf hname h fun _ => allp ho

end Go.Proofs.YtagciepnhjbopaaGreatDoor
