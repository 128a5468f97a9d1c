/- What the statements of this claim stand on: of Ki, what they name -/
import Derived.Test.YtagciepnhjbopaaGreatDoorT03
import Derived.Test.YtagciepnhjbopaaGreatDoorT29
import Derived.Test.YtagciepnhjbopaaGreatDoorT31

namespace Go.Proofs.YtagciepnhjbopaaGreatDoor
open Go.RowKit En

theorem Rd.up {w w' : World} {p : Option Addr} {xs : List Nat} (g : Grows w w') (h : Rd w p xs) : Rd w' p xs := by
  rcases h with rfl | ⟨b, off, rfl, h2, h3⟩
  · exact Or.inl rfl
  · exact Or.inr ⟨b, off, rfl, Nat.lt_of_lt_of_le h2 g.size, fun j hj => g.cell (h3 j hj)⟩

theorem Sl.up {w w' : World} {p : Option Addr} {n c : Nat} {xs : List Nat} (g : Grows w w') (h : Sl w p n c xs) : Sl w' p n c xs := ⟨h.len, h.le, h.cap, h.nil, h.rd.up g, h.dig⟩

theorem Tab.up (w w' : World) (g : Grows w w') (h : Tab w) : Tab w' := fun k hk => g.cell (h k hk)

theorem hide_cell {S : Nat → Prop} {w : World} {a : Addr} {v : Value} (hs : ¬ S a.block) (h : w.cell? a = some v) : (hide S w).cell? a = some v := by
  unfold World.cell? at h ⊢
  split at h
  · rename_i c T f hb
    rw [(hide_get S w a.block c T f).2 ⟨hs, hb⟩]
    exact h
  · cases h

theorem Rd.hide {S : Nat → Prop} {w : World} {p : Option Addr} {xs : List Nat} (hS : ∀ b, S b → Plain w b) (h : Rd w p xs) : Rd (hide S w) p xs := by
  rcases h with rfl | ⟨b, off, rfl, h2, h3⟩
  · exact Or.inl rfl
  · cases xs with
    | nil => exact Or.inl rfl
    | cons x xs =>
      refine Or.inr ⟨b, off, rfl, by rw [hide_size]; exact h2, fun j hj => hide_cell (fun hs => ?_) (h3 j hj)⟩
      obtain ⟨cs, T, e, hp⟩ := hS b hs
      have h0 := h3 0 (by simp)
      rw [cell_at e] at h0
      have := hp _ (List.mem_of_getElem? h0)
      simp [cellOk] at this

theorem Sl.hide {S : Nat → Prop} {w : World} {p : Option Addr} {n c : Nat} {xs : List Nat} (hS : ∀ b, S b → Plain w b) (h : Sl w p n c xs) : Sl (hide S w) p n c xs := ⟨h.len, h.le, h.cap, h.nil, h.rd.hide hS, h.dig⟩

def VN (w : World) (L x : Nat) (v : Value) : Prop := ∃ (p : Option Addr) (n c : Nat) (X : List Nat), v = .slice p n c ∧ Sl w p n c X ∧ val X = x ∧ n ≤ L

theorem VN.ho {w w' : World} (k : ∀ {p n c xs}, Sl w p n c xs → Sl w' p n c xs) {L x : Nat} {v : Value} : VN w L x v → VN w' L x v
  | ⟨p, n, c, X, e, s, r⟩ => ⟨p, n, c, X, e, k s, r⟩

theorem VI.ho {w w' : World} (k : ∀ {p n c xs}, Sl w p n c xs → Sl w' p n c xs) {L : Nat} {z : Int} {v : Value} : VI w L z v → VI w' L z v
  | ⟨g, p, n, c, X, e, s, r⟩ => ⟨g, p, n, c, X, e, k s, r⟩

theorem VR.ho {w w' : World} (k : ∀ {p n c xs}, Sl w p n c xs → Sl w' p n c xs) {L : Nat} {r : Rat} {v : Value} : VR w L r v → VR w' L r v
  | ⟨g, p, n, c, X, q, m, d, Y, e, s, t, h⟩ => ⟨g, p, n, c, X, q, m, d, Y, e, k s, k t, h⟩

theorem VF.ho {w w' : World} (k : ∀ {p n c xs}, Sl w p n c xs → Sl w' p n c xs) {L : Nat} {r : Rat} {v : Value} : VF w L r v → VF w' L r v
  | ⟨g, p, n, c, X, q, m, d, Y, e, s, t, h⟩ => ⟨g, p, n, c, X, q, m, d, Y, e, k s, k t, h⟩

theorem VD.ho {w w' : World} (k : ∀ {p n c xs}, Sl w p n c xs → Sl w' p n c xs) {x : Nat} {v : Value} : VD w x v → VD w' x v
  | ⟨p, c, e, s⟩ => ⟨p, c, e, k s⟩

theorem VZ.ho {w w' : World} (k : ∀ {p n c xs}, Sl w p n c xs → Sl w' p n c xs) {z : Int} {v : Value} : VZ w z v → VZ w' z v
  | ⟨p, c, e, s⟩ => ⟨p, c, e, k s⟩

theorem VQ.ho {w w' : World} (k : ∀ {p n c xs}, Sl w p n c xs → Sl w' p n c xs) {r : Rat} {v : Value} : VQ w r v → VQ w' r v
  | ⟨p, c, q, d, e, s, t⟩ => ⟨p, c, q, d, e, k s, k t⟩

theorem VL.ho {w w' : World} (k : ∀ {p n c xs}, Sl w p n c xs → Sl w' p n c xs) {r : Rat} {v : Value} : VL w r v → VL w' r v
  | ⟨p, c, q, d, e, s, t⟩ => ⟨p, c, q, d, e, k s, k t⟩

def VX (w : World) (n x : Nat) (v : Value) : Prop := ∃ (p : Option Addr) (c : Nat) (X : List Nat), v = .slice p n c ∧ Sl w p n c X ∧ val X = x

theorem VX.ho {w w' : World} (k : ∀ {p n c xs}, Sl w p n c xs → Sl w' p n c xs) {n x : Nat} {v : Value} : VX w n x v → VX w' n x v
  | ⟨p, c, X, e, s, h⟩ => ⟨p, c, X, e, k s, h⟩

def VB (w : World) (L : Nat) (r : Rat) (b : Bool) (v : Value) : Prop := ∃ (g : Bool) (p : Option Addr) (n c : Nat) (X : List Nat) (q : Option Addr) (m d : Nat) (Y : List Nat), v = rw' g p n c q m d ∧ Sl w p n c X ∧ Sl w q m d Y ∧ mkRat (iv g (val X)) (val Y) = r ∧ (n ≤ L ∧ m ≤ L) ∧ vq g n X m Y = b

theorem VB.ho {w w' : World} (k : ∀ {p n c xs}, Sl w p n c xs → Sl w' p n c xs) {L : Nat} {r : Rat} {b : Bool} {v : Value} : VB w L r b v → VB w' L r b v
  | ⟨g, p, n, c, X, q, m, d, Y, e, s, t, h⟩ => ⟨g, p, n, c, X, q, m, d, Y, e, k s, k t, h⟩

theorem VB.vr {w : World} {L : Nat} {r : Rat} {b : Bool} {v : Value} : VB w L r b v → VR w L r v
  | ⟨g, p, n, c, X, q, m, d, Y, e, s, t, h, l, _⟩ => ⟨g, p, n, c, X, q, m, d, Y, e, s, t, h, l⟩

def VS (w : World) (x : Nat) (v : Value) : Prop := ∃ (p : Option Addr) (c : Nat), v = .slice p (dg x).length c ∧ Sl w p (dg x).length c (dg x) ∧ (c = (dg x).length ∨ ∃ (g : Nat) (L : List Value), p = some ⟨g, 0, none⟩ ∧ w.heap[g]? = some (Obj.cells (List.toArray L) 52 (0, 0)) ∧ L.length = c ∧ ∀ j, (dg x).length ≤ j → j < c → L[j]? = some (.int .u32 0))

theorem VS.ho {w w' : World} (k : ∀ {p n c xs}, Sl w p n c xs → Sl w' p n c xs) (kb : ∀ {g : Nat} {L : List Value} {T : TypeId}, w.heap[g]? = some (Obj.cells (List.toArray L) T (0, 0)) → (∃ v ∈ L, cellOk v = false) → w'.heap[g]? = some (Obj.cells (List.toArray L) T (0, 0))) {x : Nat} {v : Value} : VS w x v → VS w' x v := by
  rintro ⟨p, c, e, s, h⟩
  refine ⟨p, c, e, k s, ?_⟩
  rcases h with h | ⟨g, L, h1, h2, h3, h4⟩
  · exact Or.inl h
  · by_cases hc : c = (dg x).length
    · exact Or.inl hc
    · have := s.le
      exact Or.inr ⟨g, L, h1, kb h2 ⟨_, List.mem_of_getElem? (h4 (dg x).length (Nat.le_refl _) (by omega)), rfl⟩, h3, h4⟩

inductive Kn where
  | nat (x : Nat)
  | rnat (L x : Nat)
  | int (z : Int)
  | rint (L : Nat) (z : Int)
  | rat (r : Rat)
  | rrat (L : Nat) (r : Rat)
  | frac (L : Nat) (r : Rat)
  | low (r : Rat)
  | vrat (L : Nat) (r : Rat) (b : Bool)
  | dig (n x : Nat)
  | rx (c : Bool) (L : Nat) (r : Rat)
  | sp (x : Nat)

def Kn.n : Kn → Nat
  | .nat _ | .rnat _ _ | .dig _ _ | .sp _ => 1
  | .int _ | .rint _ _ => 2
  | .rat _ | .rrat _ _ | .vrat _ _ _ | .rx _ _ _ => 3
  | .frac _ _ | .low _ => 4

def Kn.g : Kn → Bool
  | .nat _ | .rnat _ _ | .dig _ _ | .sp _ => false
  | _ => true

def Kn.is (w : World) : Kn → Value → Prop
  | .nat x => VD w x
  | .rnat L x => VN w L x
  | .int z => VZ w z
  | .rint L z => VI w L z
  | .rat r => VQ w r
  | .rrat L r => VR w L r
  | .frac L r => VF w L r
  | .low r => VL w r
  | .vrat L r b => VB w L r b
  | .dig n x => VX w n x
  | .rx c L r => fun v => VR w L r v ∧ (c = true → VQ w r v)
  | .sp x => VS w x

theorem Kn.ho {w w' : World} (k : ∀ {p n c xs}, Sl w p n c xs → Sl w' p n c xs) (kb : ∀ {g : Nat} {L : List Value} {T : TypeId}, w.heap[g]? = some (Obj.cells (List.toArray L) T (0, 0)) → (∃ v ∈ L, cellOk v = false) → w'.heap[g]? = some (Obj.cells (List.toArray L) T (0, 0))) {x : Kn} {v : Value} (h : x.is w v) : x.is w' v := by
  cases x
  · exact VD.ho k h
  · exact VN.ho k h
  · exact VZ.ho k h
  · exact VI.ho k h
  · exact VQ.ho k h
  · exact VR.ho k h
  · exact VF.ho k h
  · exact VL.ho k h
  · exact VB.ho k h
  · exact VX.ho k h
  · exact ⟨VR.ho k h.1, fun e => VQ.ho k (h.2 e)⟩
  · exact VS.ho k kb h

def Dn (x : Kn) : KdE where
  n := x.n
  φ w vs := (vs.length = x.n ∧ ∀ v ∈ vs, cellOk v = true) ∧ x.is w (mkV x.g vs)
  up _ _ _ g h := ⟨h.1, Kn.ho (fun s => s.up g) (fun e _ => g.cells _ _ _ _ e) h.2⟩
  ok _ _ h := h.1

abbrev Av := AV Kn

abbrev sv (k : Kn) : Av := .val k.g [.sem k]

abbrev avB (b : Bool) : Av := .val false [.lit (.bool b)]

abbrev avI (z : Int) : Av := .val false [.lit (.int .i64 z)]

theorem is_agg {w : World} {x : Kn} {v : Value} (h : x.is w v) : ∃ vs, v = mkV x.g vs ∧ vs.length = x.n ∧ ∀ u ∈ vs, cellOk u = true := by
  cases x
  · obtain ⟨p, c, rfl, _⟩ := h; exact ⟨[_], rfl, rfl, by simp [cellOk]⟩
  · obtain ⟨p, n, c, X, rfl, _⟩ := h; exact ⟨[_], rfl, rfl, by simp [cellOk]⟩
  · obtain ⟨p, c, rfl, _⟩ := h; exact ⟨[_, _], rfl, rfl, by simp [cellOk]⟩
  · obtain ⟨g, p, n, c, X, rfl, _⟩ := h; exact ⟨[_, _], rfl, rfl, by simp [cellOk]⟩
  · obtain ⟨p, c, q, d, rfl, _⟩ := h; exact ⟨[_, _, _], rfl, rfl, by simp [cellOk]⟩
  · obtain ⟨g, p, n, c, X, q, m, d, Y, rfl, _⟩ := h; exact ⟨[_, _, _], rfl, rfl, by simp [cellOk]⟩
  · obtain ⟨g, p, n, c, X, q, m, d, Y, rfl, _⟩ := h; exact ⟨[_, _, _, _], rfl, rfl, by simp [cellOk]⟩
  · obtain ⟨p, c, q, d, rfl, _⟩ := h; exact ⟨[_, _, _, _], rfl, rfl, by simp [cellOk]⟩
  · obtain ⟨g, p, n, c, X, q, m, d, Y, rfl, _⟩ := h; exact ⟨[_, _, _], rfl, rfl, by simp [cellOk]⟩
  · obtain ⟨p, c, X, rfl, _⟩ := h; exact ⟨[_], rfl, rfl, by simp [cellOk]⟩
  · obtain ⟨⟨g, p, n, c, X, q, m, d, Y, rfl, _⟩, _⟩ := h; exact ⟨[_, _, _], rfl, rfl, by simp [cellOk]⟩
  · obtain ⟨p, c, rfl, _⟩ := h; exact ⟨[_], rfl, rfl, by simp [cellOk]⟩

theorem sv_of {w : World} {x : Kn} {v : Value} (h : x.is w v) (β : Nat → Option Nat) : (sv x).holds Dn β w v := by
  obtain ⟨vs, rfl, h1, h2⟩ := is_agg h
  refine ⟨vs, ⟨vs, [], (List.append_nil _).symm, ⟨⟨h1, h2⟩, h⟩, rfl⟩, rfl, fun hg => ?_⟩
  cases x <;> first | exact h1 | cases hg

theorem sv_to {w : World} {x : Kn} {v : Value} {β : Nat → Option Nat} (h : (sv x).holds Dn β w v) : x.is w v := by
  obtain ⟨cs, ⟨a, b, e, h1, h2⟩, h3, _⟩ := h
  have h2 : b = [] := h2
  subst h2
  rw [List.append_nil] at e
  subst e
  rw [h3]
  exact h1.2

theorem kb_hide {S : Nat → Prop} {w : World} (hS : ∀ b, S b → Plain w b) {g : Nat} {L : List Value} {T : TypeId} (e : w.heap[g]? = some (Obj.cells (List.toArray L) T (0, 0))) (hv : ∃ v ∈ L, cellOk v = false) : (hide S w).heap[g]? = some (Obj.cells (List.toArray L) T (0, 0)) := by
  refine (hide_get S w g _ T (0, 0)).2 ⟨fun hs => ?_, e⟩
  obtain ⟨cs, T', e', hp⟩ := hS g hs
  rw [e] at e'
  injection e' with e'
  injection e' with e' _ _
  have e' : L = cs := by simpa using e'
  obtain ⟨v, h1, h2⟩ := hv
  rw [hp v (e' ▸ h1)] at h2
  cases h2

theorem seg_hide {S : Nat → Prop} {w : World} (hS : ∀ b, S b → Plain w b) {s : Seg Kn} {vs : List Value} (h : s.holds Dn w vs) : s.holds Dn (hide S w) vs := by
  cases s with
  | lit v => exact h
  | sem k => exact ⟨h.1, Kn.ho (fun s => s.hide hS) (kb_hide hS) h.2⟩

theorem segs_hide {S : Nat → Prop} {w : World} (hS : ∀ b, S b → Plain w b) : ∀ {ss : List (Seg Kn)} {vs : List Value}, segs Dn w ss vs → segs Dn (hide S w) ss vs
  | [], _, h => h
  | _ :: _, _, ⟨a, b, e, h1, h2⟩ => ⟨a, b, e, seg_hide hS h1, segs_hide hS h2⟩

theorem vl_hide {S : Nat → Prop} {w : World} (hS : ∀ b, S b → Plain w b) {p : Bool × List (Seg Kn)} {v : Value} : vl Dn w p v → vl Dn (hide S w) p v
  | ⟨cs, h1, h2⟩ => ⟨cs, segs_hide hS h1, h2⟩

theorem vls_hide {S : Nat → Prop} {w : World} (hS : ∀ b, S b → Plain w b) : ∀ {ps : List (Bool × List (Seg Kn))} {vs : List Value}, vls Dn w ps vs → vls Dn (hide S w) ps vs
  | [], _, h => h
  | _ :: _, _, ⟨v, us, e, h1, h2⟩ => ⟨v, us, e, vl_hide hS h1, vls_hide hS h2⟩

theorem av_hide {S : Nat → Prop} {w : World} (hS : ∀ b, S b → Plain w b) {β : Nat → Option Nat} {a : Av} {v : Value} (h : a.holds Dn β w v) : a.holds Dn β (hide S w) v := by
  cases a with
  | any => exact h
  | val g ss => exact vl_hide hS h
  | ptr i o => exact h
  | sl i o n c => exact h
  | dp k s j => obtain ⟨a, n, c, h1, h2⟩ := h; exact ⟨a, n, c, seg_hide hS (s := .sem k) h1, h2⟩
  | tup ts => obtain ⟨us, h1, h2⟩ := h; exact ⟨us, h1, vls_hide hS h2⟩

theorem fr_fr0 {w w' : World} (f : Fr [] w w') : Fr0 w w' := ⟨f.os, f.tape, f.output, f.size, fun k hk => f.block k hk (by simp)⟩

abbrev none' : Nat → Option Nat := fun _ => none

abbrev Cn (f : FuncId) (args : List Av) (r : Av) : Prop := Con Dn Tryz.prog Tab f args r

def Enters (f : FuncId) : Prop := ∃ fn, Tryz.prog.funcs[f]? = some fn ∧ (fn.name == "runtime.NumGoroutine") = false ∧ fn.body.isNone = false

theorem leaf {f : FuncId} {args : List Av} {r : Av} (he : Enters f) (h : ∀ w vs, Tab w → avs Dn none' w args vs → Calls Tryz.prog f vs.toArray w fun e w' => ∃ u, e = .returned u ∧ r.holds Dn none' w' u ∧ Fr [] w w') : Cn f args r := by
  refine ⟨he, fun S w vs hE hS hv => ?_⟩
  have up : ∀ {xs : List Av} {us : List Value}, avs Dn none' (hide S w) xs us → avs Dn none' w xs us := by
    intro xs
    induction xs with
    | nil => intro us h; exact h
    | cons x xs ih => rintro us ⟨v, us', e, h1, h2⟩; exact ⟨v, us', e, AV.up (fun _ _ h => h) (grows_hide S w) h1, ih h2⟩
  refine (h w vs (Tab.up _ _ (grows_hide S w) hE) (up hv)).mono ?_
  rintro e w' ⟨u, rfl, hu, f⟩
  exact ⟨u, rfl, av_hide (fun b hb => by obtain ⟨cs, T, e, p⟩ := hS b hb; exact ⟨cs, T, (f.block b (Array.getElem?_eq_some_iff.1 e).1 (by simp)).trans e, p⟩) hu, fr_fr0 f⟩

def pNat : List (Seg Kn) → Option (Nat × Nat)
  | [.sem (.nat x)] => some ((dg x).length, x)
  | [.sem (.rnat L x)] => some (L, x)
  | [.sem (.dig n x)] => some (n, x)
  | [.sem (.sp x)] => some ((dg x).length, x)
  | [.lit (.slice none 0 0)] => some (0, 0)
  | _ => none

def pInt : List (Seg Kn) → Option (Nat × Int)
  | [.sem (.int z)] => some (nz z, z)
  | [.sem (.rint L z)] => some (L, z)
  | [.lit (.bool g), s] => (pNat [s]).map fun p => (p.1, iv g p.2)
  | _ => none

def pRat : List (Seg Kn) → Option (Nat × Rat)
  | [.sem (.rat r)] => some (nq r, r)
  | [.sem (.rrat L r)] => some (L, r)
  | [.sem (.vrat L r _)] => some (L, r)
  | [.sem (.rx _ L r)] => some (L, r)
  | [s, t] => match pInt [s], pNat [t] with
    | some p, some q => some (p.1 + q.1, mkRat p.2 q.2)
    | _, _ => none
  | [s, t, u] => match pInt [s, t], pNat [u] with
    | some p, some q => some (p.1 + q.1, mkRat p.2 q.2)
    | _, _ => none
  | _ => none

theorem seg1 {w : World} {s : Seg Kn} {v : Value} {g : Bool} {β : Nat → Option Nat} (h : (AV.val g [s]).holds Dn β w v) : ∃ cs, s.holds Dn w cs ∧ v = mkV g cs ∧ (g = false → cs.length = 1) := by
  obtain ⟨cs, ⟨a, b, e, h1, h2⟩, h3, h4⟩ := h
  have h2 : b = [] := h2
  subst h2
  rw [List.append_nil] at e
  subst e
  exact ⟨_, h1, h3, h4⟩

theorem pNat_seg {w : World} {s : Seg Kn} {L x : Nat} {cs : List Value} (h : pNat [s] = some (L, x)) (hs : s.holds Dn w cs) : ∃ v, cs = [v] ∧ VN w L x v := by
  unfold pNat at h
  split at h
  · rename_i y e
    injection e with e
    subst e
    injection h with h
    injection h with h1 h2
    subst h1; subst h2
    obtain ⟨⟨hl, _⟩, p, c, e, s⟩ := hs
    match cs, hl with
    | [v], _ => exact ⟨v, rfl, p, _, c, _, e, s, val_dg _, Nat.le_refl _⟩
  · rename_i M y e
    injection e with e
    subst e
    injection h with h
    injection h with h1 h2
    subst h1; subst h2
    obtain ⟨⟨hl, _⟩, hv⟩ := hs
    match cs, hl with
    | [v], _ => exact ⟨v, rfl, hv⟩
  · rename_i M y e
    injection e with e
    subst e
    injection h with h
    injection h with h1 h2
    subst h1; subst h2
    obtain ⟨⟨hl, _⟩, p, c, X, e, s, hx⟩ := hs
    match cs, hl with
    | [v], _ => exact ⟨v, rfl, p, _, c, X, e, s, hx, Nat.le_refl _⟩
  · rename_i y e
    injection e with e
    subst e
    injection h with h
    injection h with h1 h2
    subst h1; subst h2
    obtain ⟨⟨hl, _⟩, p, c, e, s, _⟩ := hs
    match cs, hl with
    | [v], _ => exact ⟨v, rfl, p, _, c, _, e, s, val_dg _, Nat.le_refl _⟩
  · rename_i e
    injection e with e
    subst e
    injection h with h
    injection h with h1 h2
    subst h1; subst h2
    exact ⟨_, hs, none, 0, 0, [], rfl, Sl.zero w, rfl, Nat.le_refl _⟩
  · cases h

theorem pNat_ok {w : World} {β : Nat → Option Nat} {ss : List (Seg Kn)} {L x : Nat} {v : Value} (h : pNat ss = some (L, x)) (hs : (AV.val false ss).holds Dn β w v) : VN w L x v := by
  have : ∃ s, ss = [s] := by
    unfold pNat at h
    split at h
    · exact ⟨_, rfl⟩
    · exact ⟨_, rfl⟩
    · exact ⟨_, rfl⟩
    · exact ⟨_, rfl⟩
    · exact ⟨_, rfl⟩
    · cases h
  obtain ⟨s, rfl⟩ := this
  obtain ⟨cs, h1, h2, -⟩ := seg1 hs
  obtain ⟨u, rfl, hu⟩ := pNat_seg h h1
  rw [h2]
  exact hu

theorem pInt_segs {w : World} {ss : List (Seg Kn)} {L : Nat} {z : Int} {cs : List Value} (h : pInt ss = some (L, z)) (hs : segs Dn w ss cs) : VI w L z (.agg cs.toArray) := by
  unfold pInt at h
  split at h
  · rename_i y
    injection h with h
    injection h with h1 h2
    subst h1; subst h2
    obtain ⟨a, b, rfl, ⟨_, h1⟩, rfl⟩ := hs
    rw [List.append_nil]
    exact VZ.raw h1 (Nat.le_refl _)
  · rename_i M y
    injection h with h
    injection h with h1 h2
    subst h1; subst h2
    obtain ⟨a, b, rfl, ⟨_, h1⟩, rfl⟩ := hs
    rw [List.append_nil]
    exact h1
  · rename_i g s
    simp only [Option.map_eq_some_iff] at h
    obtain ⟨p, hp, he⟩ := h
    injection he with h1 h2
    subst h1; subst h2
    obtain ⟨a, b, rfl, h1, a', b', rfl, h2, rfl⟩ := hs
    have h1 : a = [.bool g] := h1
    subst h1
    obtain ⟨v, rfl, q, n, c, X, rfl, hx, hv, hn⟩ := pNat_seg hp h2
    exact ⟨g, q, n, c, X, rfl, hx, by rw [hv], hn⟩
  · cases h

theorem pInt_ok {w : World} {β : Nat → Option Nat} {ss : List (Seg Kn)} {L : Nat} {z : Int} {v : Value} (h : pInt ss = some (L, z)) (hs : (AV.val true ss).holds Dn β w v) : VI w L z v := by
  obtain ⟨cs, h1, h2, _⟩ := hs
  rw [h2]
  exact pInt_segs h h1

theorem VI.pair {w : World} {L M x : Nat} {z : Int} {cs : List Value} {v : Value} (h : VI w L z (.agg cs.toArray)) (h' : VN w M x v) : VR w (L + M) (mkRat z x) (.agg (cs ++ [v]).toArray) := by
  obtain ⟨g, p, n, c, X, e, s, rfl, l⟩ := h
  obtain ⟨q, m, d, Y, rfl, t, rfl, l'⟩ := h'
  have e : cs = [.bool g, .slice p n c] := by injection e with e; simpa using congrArg Array.toList e
  subst e
  exact ⟨g, p, n, c, X, q, m, d, Y, rfl, s, t, rfl, by omega, by omega⟩

theorem pRat_ok {w : World} {β : Nat → Option Nat} {ss : List (Seg Kn)} {L : Nat} {r : Rat} {v : Value} (h : pRat ss = some (L, r)) (hs : (AV.val true ss).holds Dn β w v) : VR w L r v := by
  obtain ⟨cs, h1, h2, -⟩ := hs
  rw [h2]
  show VR w L r (.agg cs.toArray)
  unfold pRat at h
  split at h
  · rename_i y
    injection h with h
    injection h with e1 e2
    subst e1; subst e2
    obtain ⟨a, b, rfl, ⟨_, h1⟩, rfl⟩ := h1
    rw [List.append_nil]
    exact VQ.raw h1 (Nat.le_refl _)
  · rename_i M y
    injection h with h
    injection h with e1 e2
    subst e1; subst e2
    obtain ⟨a, b, rfl, ⟨_, h1⟩, rfl⟩ := h1
    rw [List.append_nil]
    exact h1
  · rename_i M y c
    injection h with h
    injection h with e1 e2
    subst e1; subst e2
    obtain ⟨a, b, rfl, ⟨_, h1⟩, rfl⟩ := h1
    rw [List.append_nil]
    exact VB.vr h1
  · rename_i c M y
    injection h with h
    injection h with e1 e2
    subst e1; subst e2
    obtain ⟨a, b, rfl, ⟨_, h1⟩, rfl⟩ := h1
    rw [List.append_nil]
    exact h1.1
  · rename_i s t
    split at h
    case h_2 => cases h
    rename_i p q hp hq
    injection h with h
    injection h with e1 e2
    subst e1; subst e2
    obtain ⟨x, y, rfl, k1, k2⟩ := segs_split (a := [s]) (b := [t]) h1
    obtain ⟨u, hu, hv⟩ : ∃ u, y = [u] ∧ VN w q.1 q.2 u := by
      obtain ⟨a, b, rfl, k3, rfl⟩ := k2
      rw [List.append_nil]
      exact pNat_seg hq k3
    subst hu
    exact VI.pair (pInt_segs hp k1) hv
  · rename_i s t s3
    split at h
    case h_2 => cases h
    rename_i p q hp hq
    injection h with h
    injection h with e1 e2
    subst e1; subst e2
    obtain ⟨x, y, rfl, k1, k2⟩ := segs_split (a := [s, t]) (b := [s3]) h1
    obtain ⟨u, hu, hv⟩ : ∃ u, y = [u] ∧ VN w q.1 q.2 u := by
      obtain ⟨a, b, rfl, k3, rfl⟩ := k2
      rw [List.append_nil]
      exact pNat_seg hq k3
    subst hu
    exact VI.pair (pInt_segs hp k1) hv
  · cases h

abbrev Ent := FuncId × (List Av → Option (List Prop × Av))

def EntsOk : List Ent → Prop
  | [] => True
  | (f, g) :: es => (∀ args obs r, g args = some (obs, r) → (∀ p ∈ obs, p) → Cn f args r) ∧ EntsOk es

theorem ents_get : ∀ {es : List Ent}, EntsOk es → ∀ {f g args obs r}, es.lookup f = some g → g args = some (obs, r) → (∀ p ∈ obs, p) → Cn f args r
  | [], _, _, _, _, _, _, h, _, _ => by cases h
  | (f', g') :: es, ⟨h1, h2⟩, f, g, args, obs, r, h, hg, ho => by
    unfold List.lookup at h
    split at h
    · rename_i e
      have := beq_iff_eq.1 e
      subst this
      injection h with h
      subst h
      exact h1 _ _ _ hg ho
    · exact ents_get h2 h hg ho

def nSplit : Kn → Option (List (Seg Kn))
  | .rat r => some [.sem (.int r.num), .sem (.nat r.den)]
  | .int z => some [.lit (.bool (decide (z < 0))), .sem (.nat z.natAbs)]
  | .low r => some [.sem (.int r.num), .lit (.bool false), .sem (.nat r.den)]
  | _ => none

def nLen : Kn → Option Nat
  | .nat x => some (dg x).length
  | .sp x => some (dg x).length
  | .dig n _ => some n
  | _ => none

def u32s : List Value → Option (List Int)
  | [] => some []
  | .int .u32 z :: vs => (u32s vs).map (z :: ·)
  | _ => none

def nDig (l : List Int) : List Prop × Kn := ((l.length ≤ 1000) :: l.map fun z => 0 ≤ z ∧ z < 4294967296, .dig l.length (val (l.map Int.toNat)))

def nRow (T : TypeId) (vs : List Value) : Option (List Prop × Kn) := if T == 52 then match u32s vs with
  | some [z] => if z = 1 then some ([], .nat 1) else some (nDig [z])
  | some l => some (nDig l)
  | none => none
  else none

def nApp : TypeId → Kn → Kn → Option (List Prop × Kn)
  | 22, .sp x, .dig 1 y => some ([y = 0, (dg x).length ≤ 1000000], .dig ((dg x).length + 1) x)
  | _, _, _ => none

theorem nSplit_ok : SplitOk Dn nSplit := by
  intro k ss h w vs hφ
  cases k with
  | rat r =>
    injection h with h
    subst h
    obtain ⟨⟨hl, hp⟩, p, c, q, d, e, s, t⟩ := hφ
    have e : Value.agg vs.toArray = rw' (decide (r.num < 0)) p (dg r.num.natAbs).length c q (dg r.den).length d := e
    injection e with e
    have e : vs = [.bool (decide (r.num < 0)), .slice p (dg r.num.natAbs).length c, .slice q (dg r.den).length d] := by simpa using congrArg Array.toList e
    subst e
    exact ⟨[_, _], [_], rfl, ⟨⟨rfl, by simp [cellOk]⟩, p, c, rfl, s⟩, [_], [], rfl, ⟨⟨rfl, by simp [cellOk]⟩, q, d, rfl, t⟩, rfl⟩
  | int z =>
    injection h with h
    subst h
    obtain ⟨⟨hl, hp⟩, p, c, e, s⟩ := hφ
    have e : Value.agg vs.toArray = iw (decide (z < 0)) p (dg z.natAbs).length c := e
    injection e with e
    have e : vs = [.bool (decide (z < 0)), .slice p (dg z.natAbs).length c] := by simpa using congrArg Array.toList e
    subst e
    exact ⟨[_], [_], rfl, rfl, [_], [], rfl, ⟨⟨rfl, by simp [cellOk]⟩, p, c, rfl, s⟩, rfl⟩
  | low r =>
    injection h with h
    subst h
    obtain ⟨⟨hl, hp⟩, p, c, q, d, e, s, t⟩ := hφ
    have e : Value.agg vs.toArray = fw (decide (r.num < 0)) p (dg r.num.natAbs).length c false q (dg r.den).length d := e
    injection e with e
    have e : vs = [.bool (decide (r.num < 0)), .slice p (dg r.num.natAbs).length c, .bool false, .slice q (dg r.den).length d] := by simpa using congrArg Array.toList e
    subst e
    exact ⟨[_, _], [_, _], rfl, ⟨⟨rfl, by simp [cellOk]⟩, p, c, rfl, s⟩, [_], [_], rfl, rfl, [_], [], rfl, ⟨⟨rfl, by simp [cellOk]⟩, q, d, rfl, t⟩, rfl⟩
  | _ => cases h

theorem nLen_ok : LenOk Dn nLen := by
  have z : ∀ {w : World} {p : Option Addr} {n c : Nat} {xs : List Nat}, Sl w p n c xs → p = none → n = 0 := fun s h => by have := s.nil h; have := s.le; omega
  intro k n h w v hφ
  cases k with
  | nat x =>
    injection h with h
    subst h
    obtain ⟨_, p, c, e, s⟩ := hφ
    exact ⟨p, c, e, z s⟩
  | dig m x =>
    injection h with h
    subst h
    obtain ⟨_, p, c, X, e, s, _⟩ := hφ
    exact ⟨p, c, e, z s⟩
  | sp x =>
    injection h with h
    subst h
    obtain ⟨_, p, c, e, s, _⟩ := hφ
    exact ⟨p, c, e, z s⟩
  | _ => cases h

def nElt : Kn → Nat → Nat → TypeId → Option (List Prop × List (Seg Kn))
  | .nat x, 1, j, 52 => some ([], [.lit (.int .u32 (gd (dg x) j : Nat))])
  | .sp x, 1, j, 52 => some ([], [.lit (.int .u32 (gd (dg x) j : Nat))])
  | _, _, _, _ => none

theorem sl_elt {w : World} {a : Addr} {n c j : Nat} {xs : List Nat} (s : Sl w (some a) n c xs) (_hj : j < n) : ∃ b off cs, a = ⟨b, off, none⟩ ∧ segs Dn w [.lit (.int .u32 (gd xs j : Nat))] cs ∧ cs.length = 1 ∧ w.rangeAt b (off + j * 1) cs := by
  have hl := s.len
  obtain ⟨b, off, e, _, h⟩ := s.rd.open (by omega)
  injection e with e
  refine ⟨b, off, [.int .u32 (gd xs j : Nat)], e, ⟨[_], [], rfl, rfl, rfl⟩, rfl, ?_⟩
  intro q u hq
  match q, hq with
  | 0, hq =>
    simp only [List.getElem?_cons_zero, Option.some.injEq] at hq
    subst hq
    rw [Nat.mul_one, Nat.add_zero]
    exact h j (by omega)

theorem nElt_ok : EltOk Dn Tryz.prog nElt := by
  intro k s j T obs ss h ho w a n c hφ hj
  unfold nElt at h
  split at h
  · injection h with h
    injection h with h1 h2
    subst h2
    obtain ⟨_, p, c', e, sl⟩ := hφ
    have e : Value.slice (some a) n c = .slice p _ c' := e
    injection e with e1 e2 e3
    subst e1; subst e2
    exact sl_elt sl hj
  · injection h with h
    injection h with h1 h2
    subst h2
    obtain ⟨_, p, c', e, sl, _⟩ := hφ
    have e : Value.slice (some a) n c = .slice p _ c' := e
    injection e with e1 e2 e3
    subst e1; subst e2
    exact sl_elt sl hj
  · cases h

theorem u32s_eq : ∀ {vs : List Value} {l : List Int}, u32s vs = some l → vs = l.map fun z => Value.int .u32 z
  | [], l, h => by injection h with h; subst h; rfl
  | v :: vs, l, h => by
    unfold u32s at h
    split at h
    · rename_i e; cases e
    · rename_i z vs' e
      injection e with e1 e2
      subst e1; subst e2
      simp only [Option.map_eq_some_iff] at h
      obtain ⟨l', h1, rfl⟩ := h
      rw [u32s_eq h1]
      rfl
    · cases h

theorem nRow_ok : RowOk Dn nRow := by
  intro T cs obs k h ho w A hA
  have dig : ∀ {l : List Int}, u32s cs = some l → (nDig l) = (obs, k) → (Dn k).φ w [.slice (some ⟨A, 0, none⟩) cs.length cs.length] := by
    intro l hl h
    injection h with h1 h2
    subst h1; subst h2
    have hcs := u32s_eq hl
    have hn : l.length ≤ 1000 := ho _ List.mem_cons_self
    have hd : ∀ z ∈ l, 0 ≤ z ∧ z < 4294967296 := fun z hz => ho _ (List.mem_cons_of_mem _ (List.mem_map_of_mem (f := fun z => 0 ≤ z ∧ z < 4294967296) hz))
    subst hcs
    rw [List.length_map]
    refine ⟨⟨rfl, by simp [cellOk]⟩, some ⟨A, 0, none⟩, l.length, l.map Int.toNat, rfl, ⟨by simp, Nat.le_refl _, by omega, (fun h => by cases h), Or.inr ⟨A, 0, rfl, (Array.getElem?_eq_some_iff.1 hA).1, ?_⟩, ?_⟩, rfl⟩
    · intro j hj
      rw [List.length_map] at hj
      rw [cell_at hA, Nat.zero_add, List.getElem?_map, List.getElem?_eq_getElem hj, gd_lt (by simpa using hj)]
      have h0 := hd _ (List.getElem_mem hj)
      simp [dv, Int.toNat_of_nonneg h0.1]
    · intro x hx
      obtain ⟨z, hz, rfl⟩ := List.mem_map.1 hx
      have := hd z hz
      omega
  unfold nRow at h
  split at h
  case isFalse => cases h
  split at h
  · rename_i z hz
    split at h
    · rename_i h1
      subst h1
      have hcs := u32s_eq hz
      injection h with h
      injection h with h' h
      subst h
      rw [hcs] at hA ⊢
      have h1 : dg 1 = [1] := dg_one
      refine ⟨⟨rfl, by simp [cellOk]⟩, some ⟨A, 0, none⟩, 1, ?_⟩
      rw [h1]
      refine ⟨rfl, rfl, Nat.le_refl _, by decide, (fun h => by cases h), Or.inr ⟨A, 0, rfl, (Array.getElem?_eq_some_iff.1 hA).1, ?_⟩, by rw [← h1]; exact Dg_dg _⟩
      intro j hj
      have hj : j < 1 := hj
      obtain rfl : j = 0 := by omega
      rw [cell_at hA]
      rfl
    · injection h with h
      exact dig hz h
  · rename_i l _ hl
    injection h with h
    exact dig hl h
  · cases h

theorem set_same {w : World} {b o : Nat} {v : Value} {cs : List Value} {T : TypeId} (h : w.heap[b]? = some (Obj.cells (List.toArray cs) T (0, 0))) (hv : cs[o]? = some v) : w.setCell ⟨b, o, none⟩ v = w := by
  have e : ∀ f : Obj → Obj, f (Obj.cells (List.toArray cs) T (0, 0)) = Obj.cells (List.toArray cs) T (0, 0) → w.heap.modify b f = w.heap := by
    intro f hf
    apply Array.ext_getElem?
    intro i
    rw [Array.getElem?_modify]
    split
    · rename_i hi
      subst hi
      rw [h, Option.map_some, hf]
    · rfl
  unfold World.setCell
  rw [e _ ?_]
  obtain ⟨hol, hv'⟩ := List.getElem?_eq_some_iff.1 hv
  simp only [Option.isSome_none, Bool.false_eq_true, if_false]
  congr 1
  apply Array.ext_getElem?
  intro i
  rw [Array.getElem?_setIfInBounds]
  split
  · rename_i hi
    subst hi
    simp [hol, hv']
  · rfl

theorem sl_see {S : Nat → Prop} {w : World} {g n c : Nat} {xs : List Nat} (hs : ¬ S g) (h : Sl w (some ⟨g, 0, none⟩) n c xs) : Sl (hide S w) (some ⟨g, 0, none⟩) n c xs := by
  refine ⟨h.len, h.le, h.cap, h.nil, ?_, h.dig⟩
  rcases h.rd with rfl | ⟨b, off, e, h2, h3⟩
  · exact Or.inl rfl
  · injection e with e
    injection e with e1 e2
    subst e1; subst e2
    exact Or.inr ⟨_, _, rfl, by rw [hide_size]; exact h2, fun j hj => hide_cell hs (h3 j hj)⟩

theorem one_zero {X : List Nat} (hl : X.length = 1) (hv : val X = 0) : X = [0] := by
  match X, hl with
  | [x], _ =>
    have : val [x] = x := by simp [val]
    rw [this] at hv
    rw [hv]

set_option maxRecDepth 4000 in
theorem nApp_ok : AppOk Dn Tryz.prog nApp := by
  intro t k1 k2 obs k h ho S ty w v1 v2 hS h1 h2
  unfold nApp at h
  split at h
  case h_2 => cases h
  rename_i x y
  injection h with h
  injection h with h' h
  subst h; subst h'
  have hy : y = 0 := ho _ (by simp)
  have hn : (dg x).length ≤ 1000000 := ho _ (by simp)
  subst hy
  obtain ⟨_, p, c, e1, s, hz⟩ := h1
  obtain ⟨_, q, c2, X, e2, s2, hX⟩ := h2
  have e1 : v1 = .slice p (dg x).length c := e1
  have e2 : v2 = .slice q 1 c2 := e2
  subst e1; subst e2
  obtain rfl := one_zero s2.len hX
  obtain ⟨i0, hi, hz0, hz1, hz2⟩ := info_parts Tryz.infoU
  have s' := Sl.up (grows_hide S w) s
  have s2' := Sl.up (grows_hide S w) s2
  obtain ⟨b2, o2, rfl, hb2, hc2⟩ := s2'.rd.open (by simp)
  have hval : val (dg x ++ [0]) = x := by rw [val_append, val_dg]; simp [val]
  have hdg : Dg (dg x ++ [0]) := by
    intro u hu
    rcases List.mem_append.1 hu with hu | hu
    · exact Dg_dg x u hu
    · simp only [List.mem_singleton] at hu; omega
  have hnews : ∀ j u, ([0].map dv)[j]? = some u → w.cell? ((⟨b2, o2, none⟩ : Addr).add j) = some u := by
    intro j u hj
    match j, hj with
    | 0, hj =>
      simp only [List.map_cons, List.getElem?_cons_zero, Option.some.injEq] at hj
      subst hj
      exact hc2 0 (by simp)
  by_cases hroom : (dg x).length + 1 ≤ c
  · rcases hz with hz | ⟨g, L, rfl, hL, hlen, hzero⟩
    · omega
    obtain ⟨hsg, hLw⟩ := (hide_get S w g _ _ (0, 0)).1 hL
    have hcell := hzero (dg x).length (Nat.le_refl _) (by omega)
    have hc : w.cell? ⟨g, (dg x).length, none⟩ = some (.int .u32 0) := by rw [cell_at hLw]; exact hcell
    have hf : w.frozen? ⟨g, (dg x).length, none⟩ = false := Blk.free (L := L) hLw _
    have hrun := run_append_room_cells (P := Tryz.prog) w 22 ty 52 i0 Tryz.underlying22 hi g 0 (dg x).length c ⟨b2, o2, none⟩ 1 c2 ([0].map dv) (by rw [hz1]; rfl) hnews (by intro u hu; exact dv_oneCell [0] u hu) hroom
      (by intro j hj; obtain rfl : j = 0 := by simp at hj; omega
          rw [hz1]; simp only [Nat.zero_add, Nat.mul_one, Nat.add_zero]; rw [hc]; rfl)
      (by intro j hj; obtain rfl : j = 0 := by simp at hj; omega
          rw [hz1]; simp only [Nat.zero_add, Nat.mul_one, Nat.add_zero]; exact hf)
    have hsame : w.setCells g (0 + (dg x).length * i0.size) ([0].map dv) = w := by
      rw [hz1, Nat.zero_add, Nat.mul_one]
      exact set_same hLw hcell
    rw [hsame] at hrun
    refine ⟨_, w, hrun, ⟨⟨rfl, by simp [cellOk]⟩, some ⟨g, 0, none⟩, c, dg x ++ [0], rfl, ⟨by simp, hroom, s.cap, s.nil, Or.inr ⟨g, 0, rfl, by rw [hide_size]; exact (Array.getElem?_eq_some_iff.1 hLw).1, ?_⟩, hdg⟩, hval⟩, ⟨rfl, rfl, rfl, Nat.le_refl _, fun _ _ => rfl⟩⟩
    intro j hj
    rw [List.length_append, List.length_singleton] at hj
    by_cases hj' : j < (dg x).length
    · obtain ⟨b, off, e, _, h3⟩ := s.rd.open (by omega)
      injection e with e
      injection e with e1 e2
      subst e1; subst e2
      rw [h3 j hj', gd_lt hj', gd_lt (by simp; omega), List.getElem_append_left hj']
    · obtain rfl : j = (dg x).length := by omega
      rw [Nat.zero_add]
      refine (hide_cell hsg hc).trans ?_
      rw [gd_lt (by simp), List.getElem_append_right (Nat.le_refl _)]
      simp
  · have hcn : c = (dg x).length := by have := s.le; omega
    have hrun : ∃ v' w', (Builtin.append_ #[22, 22] ty #[.slice p (dg x).length c, .slice (some ⟨b2, o2, none⟩) 1 c2]).run Tryz.prog w = .ok v' w' ∧ w'.ownsRow w.heap.size 52 1 v' ((dg x).length + 1) ((dg x).map dv ++ [0].map dv) ∧ w.grownBy w' none := by
      rcases s'.src with ⟨rfl, hl0, hc0, hx0⟩ | ⟨a, rfl⟩
      · rw [hc0, hx0]
        obtain ⟨v', w', r1, r2, r3, _⟩ := run_append_own (P := Tryz.prog) w w.heap.size 22 ty 52 i0 (.int .u32 0) 1 4 Tryz.underlying22 hi hz0 hz1 hz2 rfl (by decide) (.slice none 0 0) 0 [] (World.ownsRow_nil w _ _ _) ⟨b2, o2, none⟩ 1 c2 ([0].map dv) rfl hnews (dv_oneCell [0]) (by unfold maxLen; omega) (by omega) (Nat.le_refl _)
        exact ⟨v', w', r1, r2, r3⟩
      · exact run_append_arg_grows (P := Tryz.prog) w 22 ty 52 i0 (.int .u32 0) 1 4 Tryz.underlying22 hi hz0 hz1 hz2 rfl (by decide) a (dg x).length c ((dg x).map dv) (by simp) (by
          have := s'.rd.news; exact this) ⟨b2, o2, none⟩ 1 c2 ([0].map dv) rfl hnews (by omega) (by unfold maxLen; omega) (by omega)
    obtain ⟨v', w', hr, hown, hg⟩ := hrun
    obtain ⟨p', c', rfl, ow⟩ := ow_of_row (by rw [← List.map_append] at hown; exact hown) hdg
    have hfr : Fr0 w w' := ⟨hg.os, hg.tape, hg.output, hg.size, fun k hk => hg.block k hk (by simp)⟩
    refine ⟨_, w', hr, ⟨⟨rfl, by simp [cellOk]⟩, p', c', dg x ++ [0], ?_, ?_, hval⟩, hfr⟩
    · show Value.slice p' (dg x ++ [0]).length c' = _
      rw [List.length_append]
      rfl
    · rcases ow.own with h | ⟨g, L, rfl, hge, _⟩
      · exact absurd h (by simp)
      · have := sl_see (S := S) (fun hs => absurd (hS g hs) (by omega)) ow.sl
        simpa using this

abbrev CnL (f : FuncId) (args : List Av) (T : TypeId) (ss : List (Seg Kn)) (r : Av) (ss' : List (Seg Kn)) : Prop := ConL Dn Tryz.prog Tab f args T ss r ss'

abbrev EntL := FuncId × (List Av → TypeId → List (Seg Kn) → Option (List Prop × Av × List (Seg Kn)))

def EntsLOk : List EntL → Prop
  | [] => True
  | (f, g) :: es => (∀ args T ss obs r ss', g args T ss = some (obs, r, ss') → (∀ p ∈ obs, p) → CnL f args T ss r ss') ∧ EntsLOk es

theorem entsL_get : ∀ {es : List EntL}, EntsLOk es → ∀ {f g args T ss obs r ss'}, es.lookup f = some g → g args T ss = some (obs, r, ss') → (∀ p ∈ obs, p) → CnL f args T ss r ss'
  | [], _, _, _, _, _, _, _, _, _, h, _, _ => by cases h
  | (f', g') :: es, ⟨h1, h2⟩, f, g, args, T, ss, obs, r, ss', h, hg, ho => by
    unfold List.lookup at h
    split at h
    · rename_i e
      have := beq_iff_eq.1 e
      subst this
      injection h with h
      subst h
      exact h1 _ _ _ _ _ _ hg ho
    · exact entsL_get h2 h hg ho

def mkTb4 (es alts : List Ent) (ls : List EntL) (hint : Nat → Option (Hint Kn)) : Tb Kn := ⟨fun f args ds => match es.lookup f with
  | some g => match alts.lookup f with
    | some g' => match ds with
      | some false :: ds => (g' args).map fun p => (p.1, p.2, ds)
      | _ :: ds => (g args).map fun p => (p.1, p.2, ds)
      | [] => (g args).map fun p => (p.1, p.2, [])
    | none => (g args).map fun p => (p.1, p.2, ds)
  | none => none, nSplit, nLen, nRow, nApp, nElt, hint, fun f args T ss ds => match ls.lookup f with
  | some g => (g args T ss).map fun p => (p.1, p.2.1, p.2.2, ds)
  | none => none⟩

def mkTb3 (es alts : List Ent) (hint : Nat → Option (Hint Kn)) : Tb Kn := mkTb4 es alts [] hint

def mkTb2 (es alts : List Ent) : Tb Kn := mkTb3 es alts fun _ => none

def mkTb (es : List Ent) : Tb Kn := mkTb2 es []

theorem mkTb4_ok {es alts : List Ent} {ls : List EntL} {hint : Nat → Option (Hint Kn)} (h : EntsOk es) (h' : EntsOk alts) (hl : EntsLOk ls) : TbOk Dn Tryz.prog Tab (mkTb4 es alts ls hint) := by
  refine ⟨nSplit_ok, nLen_ok, nRow_ok, nApp_ok, nElt_ok, fun f args ds obs r ds' hc ho => ?_, fun f args T ss ds obs r ss' ds' hc ho => ?_⟩
  rotate_left
  · unfold mkTb4 at hc
    dsimp only at hc
    split at hc
    · rename_i g hg
      simp only [Option.map_eq_some_iff, Prod.mk.injEq] at hc
      obtain ⟨p, hp, h1, h2, h3, -⟩ := hc
      subst h1; subst h2; subst h3
      exact entsL_get hl hg hp ho
    · cases hc
  have one : ∀ {l : List Ent} {g ds1}, EntsOk l → l.lookup f = some g → ((g args).map fun p => (p.1, p.2, ds1)) = some (obs, r, ds') → Cn f args r := by
    intro l g ds1 hl hg he
    simp only [Option.map_eq_some_iff, Prod.mk.injEq] at he
    obtain ⟨p, hp, h1, h2, -⟩ := he
    subst h1; subst h2
    exact ents_get hl hg hp ho
  unfold mkTb4 at hc
  dsimp only at hc
  split at hc
  · rename_i g hg
    split at hc
    · rename_i g' hg'
      split at hc
      · exact one h' hg' hc
      · exact one h hg hc
      · exact one h hg hc
    · exact one h hg hc
  · cases hc

theorem mkTb3_ok {es alts : List Ent} {hint : Nat → Option (Hint Kn)} (h : EntsOk es) (h' : EntsOk alts) : TbOk Dn Tryz.prog Tab (mkTb3 es alts hint) := mkTb4_ok h h' trivial

theorem mixed : Tryz.prog.follows .mixedOrders = true := by kernel_rfl

theorem mkTb2_ok {es alts : List Ent} (h : EntsOk es) (h' : EntsOk alts) : TbOk Dn Tryz.prog Tab (mkTb2 es alts) := mkTb3_ok h h'

theorem walk3 {es alts : List Ent} {hint : Nat → Option (Hint Kn)} (hes : EntsOk es) (ha : EntsOk alts) {f : FuncId} {fn : Func} {args : List Av} {ds : List (Option Bool)} {fuel : Nat} {obs : List Prop} {r : Av} (hf : Tryz.prog.funcs[f]? = some fn) (hname : (fn.name == "runtime.NumGoroutine") = false)
    (h : aFun Dn (mkTb3 es alts hint) Tryz.prog fuel fn args ds = some (obs, r)) (hobs : (∃ w vs, avs Dn none' w args vs) → ∀ p ∈ obs, p) : Cn f args r :=
  aFun_ok Tab.up (mkTb3_ok hes ha) mixed hf hname h hobs

theorem walk2 {es alts : List Ent} (hes : EntsOk es) (ha : EntsOk alts) {f : FuncId} {fn : Func} {args : List Av} {ds : List (Option Bool)} {fuel : Nat} {obs : List Prop} {r : Av} (hf : Tryz.prog.funcs[f]? = some fn) (hname : (fn.name == "runtime.NumGoroutine") = false)
    (h : aFun Dn (mkTb2 es alts) Tryz.prog fuel fn args ds = some (obs, r)) (hobs : (∃ w vs, avs Dn none' w args vs) → ∀ p ∈ obs, p) : Cn f args r :=
  aFun_ok Tab.up (mkTb2_ok hes ha) mixed hf hname h hobs

end Go.Proofs.YtagciepnhjbopaaGreatDoor
