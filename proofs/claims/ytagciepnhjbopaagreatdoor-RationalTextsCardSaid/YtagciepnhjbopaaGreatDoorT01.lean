/- What the statements of this claim stand on: of En1, what they name -/
import Derived.RegionTactic
import Derived.WalkKit
import Derived.WalkLawsBesides
import Derived.WalkSpells

namespace Go.Proofs.YtagciepnhjbopaaGreatDoor.En
open Go Go.RowKit

structure Grows (w w' : World) : Prop where
  size : w.heap.size ≤ w'.heap.size
  cells : ∀ (b : Nat) (c : Array Value) (T : TypeId) (f : Nat × Nat), w.heap[b]? = some (Obj.cells c T f) → w'.heap[b]? = some (Obj.cells c T f)

theorem Grows.refl (w : World) : Grows w w := ⟨Nat.le_refl _, fun _ _ _ _ h => h⟩

theorem Grows.trans {a b c : World} (h : Grows a b) (k : Grows b c) : Grows a c := ⟨Nat.le_trans h.size k.size, fun x y z t e => k.cells x y z t (h.cells x y z t e)⟩

theorem Grows.cell {w w' : World} (h : Grows w w') {a : Addr} {v : Value} (e : w.cell? a = some v) : w'.cell? a = some v := by
  unfold World.cell? at e ⊢
  split at e
  · rename_i c T f hb
    rw [h.cells _ _ _ _ hb]
    exact e
  · cases e

open Classical in

noncomputable def hide (S : Nat → Prop) (w : World) : World := { w with heap := w.heap.mapIdx fun b o => if S b then .deferred none else o }

theorem hide_size (S : Nat → Prop) (w : World) : (hide S w).heap.size = w.heap.size := by simp [hide]

theorem hide_get (S : Nat → Prop) (w : World) (b : Nat) (c : Array Value) (T : TypeId) (f : Nat × Nat) : (hide S w).heap[b]? = some (Obj.cells c T f) ↔ ¬ S b ∧ w.heap[b]? = some (Obj.cells c T f) := by
  unfold hide
  simp only [Array.getElem?_mapIdx, Option.map_eq_some_iff]
  constructor
  · rintro ⟨o, ho, h⟩
    split at h
    · cases h
    · subst h; exact ⟨by assumption, ho⟩
  · rintro ⟨hs, ho⟩
    exact ⟨_, ho, by rw [if_neg hs]⟩

theorem grows_hide (S : Nat → Prop) (w : World) : Grows (hide S w) w := ⟨by rw [hide_size]; exact Nat.le_refl _, fun b c T f h => ((hide_get S w b c T f).1 h).2⟩

theorem hide_mono {S S' : Nat → Prop} {w w' : World} (hs : w.heap.size ≤ w'.heap.size) (h : ∀ b, b < w.heap.size → ¬ S b → w'.heap[b]? = w.heap[b]? ∧ ¬ S' b) : Grows (hide S w) (hide S' w') := by
  refine ⟨by rw [hide_size, hide_size]; exact hs, fun b c T f e => ?_⟩
  obtain ⟨h1, h2⟩ := (hide_get S w b c T f).1 e
  obtain ⟨h3, h4⟩ := h b (Array.getElem?_eq_some_iff.1 h2).1 h1
  exact (hide_get S' w' b c T f).2 ⟨h4, h3.trans h2⟩

def cellOk : Value → Bool
  | .int .u32 _ | .int .u8 _ | .agg _ | .tuple _ => false
  | _ => true

structure KdE where
  n : Nat
  φ : World → List Value → Prop
  up : ∀ w w' vs, Grows w w' → φ w vs → φ w' vs
  ok : ∀ w vs, φ w vs → vs.length = n ∧ ∀ v ∈ vs, cellOk v = true

inductive Seg (K : Type) where
  | lit (v : Value)
  | sem (k : K)

inductive AV (K : Type) where
  | any
  | val (g : Bool) (ss : List (Seg K))
  | ptr (i o : Nat)
  | sl (i o n c : Nat)
  | dp (k : K) (s j : Nat)
  | tup (ts : List (Bool × List (Seg K)))

structure OB (K : Type) where
  T : TypeId
  ss : List (Seg K)

inductive Ct (K : Type) where
  | no
  | av (a : AV K)
  | ob (o : OB K)

inductive Key where
  | slot (d : Nat)
  | obj (i : Nat)
  deriving DecidableEq

abbrev St (K : Type) := Key → Ct K

section

variable {K : Type} (D : K → KdE)

def Seg.n : Seg K → Nat
  | .lit _ => 1
  | .sem k => (D k).n

def Seg.holds (w : World) : Seg K → List Value → Prop
  | .lit v, vs => vs = [v]
  | .sem k, vs => (D k).φ w vs

def segs (w : World) : List (Seg K) → List Value → Prop
  | [], vs => vs = []
  | s :: ss, vs => ∃ a b, vs = a ++ b ∧ Seg.holds D w s a ∧ segs w ss b

def mkV : Bool → List Value → Value
  | true, cs => .agg cs.toArray
  | false, cs => cs.headD undef

def vl (w : World) (p : Bool × List (Seg K)) (v : Value) : Prop := ∃ cs, segs D w p.2 cs ∧ v = mkV p.1 cs ∧ (p.1 = false → cs.length = 1)

def vls (w : World) : List (Bool × List (Seg K)) → List Value → Prop
  | [], vs => vs = []
  | p :: ps, vs => ∃ v us, vs = v :: us ∧ vl D w p v ∧ vls w ps us

def AV.holds (β : Nat → Option Nat) (w : World) : AV K → Value → Prop
  | .any, _ => True
  | .val g ss, v => vl D w (g, ss) v
  | .ptr i o, v => ∃ A, β i = some A ∧ v = .pointer (some ⟨A, o, none⟩)
  | .sl i o n c, v => ∃ A, β i = some A ∧ v = .slice (some ⟨A, o, none⟩) n c
  | .dp k s j, v => ∃ (a : Addr) (n c : Nat), (D k).φ w [.slice (some a) n c] ∧ j < n ∧ v = .pointer (some (a.add (j * s)))
  | .tup ts, v => ∃ us : List Value, v = .tuple us.toArray ∧ vls D w ts us

variable {D}

theorem Seg.up {w w' : World} (h : Grows w w') {s : Seg K} {vs : List Value} (hs : s.holds D w vs) : s.holds D w' vs := by
  cases s with
  | lit v => exact hs
  | sem k => exact (D k).up _ _ _ h hs

theorem segs_up {w w' : World} (h : Grows w w') : ∀ {ss : List (Seg K)} {vs : List Value}, segs D w ss vs → segs D w' ss vs
  | [], _, hs => hs
  | _ :: _, _, ⟨a, b, e, h1, h2⟩ => ⟨a, b, e, Seg.up h h1, segs_up h h2⟩

theorem vl_up {w w' : World} (h : Grows w w') {p : Bool × List (Seg K)} {v : Value} : vl D w p v → vl D w' p v
  | ⟨cs, h1, h2⟩ => ⟨cs, segs_up h h1, h2⟩

theorem vls_up {w w' : World} (h : Grows w w') : ∀ {ps : List (Bool × List (Seg K))} {vs : List Value}, vls D w ps vs → vls D w' ps vs
  | [], _, hs => hs
  | _ :: _, _, ⟨v, us, e, h1, h2⟩ => ⟨v, us, e, vl_up h h1, vls_up h h2⟩

theorem AV.up {β β' : Nat → Option Nat} {w w' : World} (hb : ∀ i A, β i = some A → β' i = some A) (h : Grows w w') {a : AV K} {v : Value} (ha : a.holds D β w v) : a.holds D β' w' v := by
  cases a with
  | any => trivial
  | val g ss => exact vl_up h ha
  | ptr i o => obtain ⟨A, h1, h2⟩ := ha; exact ⟨A, hb _ _ h1, h2⟩
  | sl i o n c => obtain ⟨A, h1, h2⟩ := ha; exact ⟨A, hb _ _ h1, h2⟩
  | dp k s j => obtain ⟨a, n, c, h1, h2⟩ := ha; exact ⟨a, n, c, (D k).up _ _ _ h h1, h2⟩
  | tup ts => obtain ⟨us, h1, h2⟩ := ha; exact ⟨us, h1, vls_up h h2⟩

structure Env where
  S : Nat → Prop
  L : Nat → Prop
  E : World → Prop
  eup : ∀ w w', Grows w w' → E w → E w'
  w0 : World
  N : Nat

def Env.hid (V : Env) (β : Nat → Option Nat) (b : Nat) : Prop := V.S b ∨ ∃ i, β i = some b

noncomputable def Env.see (V : Env) (β : Nat → Option Nat) (w : World) : World := hide (V.hid β) w

structure Fr0 (w w' : World) : Prop where
  os : w'.os = w.os
  tape : w'.tape = w.tape
  output : w'.output = w.output
  size : w.heap.size ≤ w'.heap.size
  block : ∀ k, k < w.heap.size → w'.heap[k]? = w.heap[k]?

structure FrL (L : Nat → Prop) (w w' : World) : Prop where
  os : w'.os = w.os
  tape : w'.tape = w.tape
  output : w'.output = w.output
  size : w.heap.size ≤ w'.heap.size
  block : ∀ k, k < w.heap.size → ¬ L k → w'.heap[k]? = w.heap[k]?

def Plain (w : World) (A : Nat) : Prop := ∃ (cs : List Value) (T : TypeId), w.heap[A]? = some (Obj.cells cs.toArray T (0, 0)) ∧ ∀ v ∈ cs, cellOk v = true

structure Inv (V : Env) (β : Nat → Option Nat) (a : Act) (w : World) : Prop where
  fr : FrL V.L V.w0 w
  nt : a.tmps.size = V.N
  df : a.defers = []
  inj : ∀ i j A, β i = some A → β j = some A → i = j
  own : ∀ i A, β i = some A → (V.w0.heap.size ≤ A ∨ V.L A) ∧ Plain w A
  old : ∀ b, V.S b → (b < V.w0.heap.size ∧ ¬ V.L b) ∧ Plain w b
  e : V.E (V.see β w)
  anc : ∀ A, V.L A → β 0 = some A

def At (D : K → KdE) (V : Env) (β : Nat → Option Nat) (a : Act) (w : World) : Key → Ct K → Prop
  | _, .no => True
  | .slot d, .av x => x.holds D β (V.see β w) (a.tmps.getD d undef)
  | .obj i, .ob o => ∃ A cs, β i = some A ∧ w.heap[A]? = some (Obj.cells (List.toArray cs) o.T (0, 0)) ∧ segs D (V.see β w) o.ss cs
  | _, _ => True

def Holds (D : K → KdE) (V : Env) (σ : St K) (β : Nat → Option Nat) (a : Act) (w : World) : Prop := ∀ k, At D V β a w k (σ k)

end

structure Eff (K : Type) where
  rd : List Key
  wr : List (Key × Ct K)

def Eff.writes {K : Type} (e : Eff K) (k : Key) : Bool := (e.wr.lookup k).isSome

def Eff.app {K : Type} (e : Eff K) (σ : St K) : St K := fun k => (e.wr.lookup k).getD (σ k)

def upto {K : Type} (es : List (Eff K)) (l : Nat → Bool) (σ : St K) : Nat → St K
  | 0 => σ
  | n + 1 => if l n then match es[n]? with | some e => e.app (upto es l σ n) | none => upto es l σ n else upto es l σ n

def has (cl : List Nat) (i j : Nat) : Bool := (cl[i]?.getD 0).testBit j

def apart {K : Type} (es : List (Eff K)) (cl : List Nat) : Bool :=
  (List.range es.length).all fun i => (List.range es.length).all fun j => i == j ||
    (has cl j i && decide (i < j)) || (has cl i j && decide (j < i)) ||
    match es[i]?, es[j]? with
    | some e, some f => f.wr.all fun kc => !(e.rd.contains kc.1) && !(e.writes kc.1)
    | _, _ => true

theorem lookup_none {K : Type} {k : Key} {c : Ct K} : ∀ {l : List (Key × Ct K)}, l.lookup k = some c → (k, c) ∈ l
  | [], h => by cases h
  | (k', c') :: l, h => by
    unfold List.lookup at h
    split at h
    · rename_i e; injection h with h; subst h; have := beq_iff_eq.1 e; subst this; exact List.mem_cons_self
    · exact List.mem_cons_of_mem _ (lookup_none h)

theorem app_writes {K : Type} {e : Eff K} {k : Key} (h : e.writes k = true) (σ τ : St K) : e.app σ k = e.app τ k := by
  unfold Eff.writes at h
  unfold Eff.app
  cases e' : e.wr.lookup k with
  | some c => rfl
  | none => rw [e'] at h; cases h

theorem app_else {K : Type} {e : Eff K} {k : Key} (h : e.writes k = false) (σ : St K) : e.app σ k = σ k := by
  unfold Eff.writes at h
  unfold Eff.app
  cases e' : e.wr.lookup k with
  | some c => rw [e'] at h; cases h
  | none => rfl

theorem upto_eq {K : Type} {es : List (Eff K)} {σ : St K} {k : Key} {l m : Nat → Bool} : ∀ (n : Nat), (∀ j e, j < n → es[j]? = some e → e.writes k = true → l j = m j) → upto es l σ n k = upto es m σ n k
  | 0, _ => rfl
  | n + 1, h => by
    have ih := upto_eq (es := es) (σ := σ) (k := k) (l := l) (m := m) n (fun j e hj => h j e (Nat.lt_succ_of_lt hj))
    unfold upto
    cases he : es[n]? with
    | none => simp only [ite_self]; exact ih
    | some e =>
      by_cases hw : e.writes k = true
      · rw [h n e (Nat.lt_succ_self n) he hw]
        split
        · exact app_writes hw _ _
        · exact ih
      · have hw' : e.writes k = false := by simpa using hw
        have : ∀ (b : Bool) (τ : St K), (if b = true then e.app τ else τ) k = τ k := by
          intro b τ; cases b
          · rfl
          · exact app_else hw' τ
        simp only [this]
        exact ih

theorem upto_last {K : Type} {es : List (Eff K)} {σ : St K} {k : Key} {l : Nat → Bool} {i : Nat} {e : Eff K} (he : es[i]? = some e) (hw : e.writes k = true) : ∀ (n : Nat), i < n → (∀ j f, i < j → j < n → es[j]? = some f → f.writes k = true → l j = false) → ∀ τ, upto es (fun j => l j || j == i) σ n k = e.app τ k
  | 0, hi, _, _ => absurd hi (Nat.not_lt_zero _)
  | n + 1, hi, h, τ => by
    unfold upto
    by_cases hn : n = i
    · subst hn
      simp only [beq_self_eq_true, Bool.or_true, if_true, he]
      exact app_writes hw _ _
    · have ih := upto_last (σ := σ) he hw n (by omega) (fun j f h1 h2 => h j f h1 (Nat.lt_succ_of_lt h2)) τ
      have hne : (n == i) = false := by simpa using hn
      cases hf : es[n]? with
      | none => simp only [ite_self]; exact ih
      | some f =>
        by_cases hfw : f.writes k = true
        · have := h n f (by omega) (Nat.lt_succ_self _) hf hfw
          simp only [hne, this, Bool.or_false, Bool.false_eq_true, if_false]
          exact ih
        · have hw' : f.writes k = false := by simpa using hfw
          have : ∀ (b : Bool) (τ : St K), (if b = true then f.app τ else τ) k = τ k := by
            intro b τ; cases b
            · rfl
            · exact app_else hw' τ
          simp only [this]
          exact ih

section

variable {P : Program} {ops : Array Oper} {Q : Exit → Act → World → Prop} {md : Region.Mode}

theorem inv_all_listed {L : Array Bool} (_hs : L.size = ops.size) (hord : ∀ i o, ops[i]? = some o → ∀ e ∈ o.after, Region.binds md e = true → e.on < i)
    (h : Region.ready md ops L = []) : ∀ i, i < ops.size → L.getD i false = true := by
  intro i
  induction i using Nat.strongRecOn with
  | ind i ih =>
    intro hi
    cases hb : L.getD i false with
    | true => rfl
    | false =>
      exfalso
      have hm : i ∈ Region.ready md ops L := by
        rw [mem_ready]
        refine ⟨?_, ops[i], Array.getElem?_eq_getElem hi, fun e he hbd => ?_⟩
        · have : i < L.size := by omega
          simp [this] at hb ⊢
          exact hb
        · exact ih e.on (hord i _ (Array.getElem?_eq_getElem hi) e he hbd) (Nat.lt_trans (hord i _ (Array.getElem?_eq_getElem hi) e he hbd) hi)
      rw [h] at hm
      cases hm

theorem wpAny_inv (I : (Nat → Prop) → Act → World → Prop) (hord : ∀ i o, ops[i]? = some o → ∀ e ∈ o.after, Region.binds md e = true → e.on < i)
    (hdone : ∀ l a w, (∀ i, i < ops.size → l i) → I l a w → Q .normal a w)
    (hstep : ∀ i o, ops[i]? = some o → ∀ l a w, ¬ l i → (∀ e ∈ o.after, Region.binds md e = true → l e.on) → I l a w → wpOp P ops Q i (I (fun j => l j ∨ j = i)) a w) :
    ∀ (fuel : Nat) (L : Array Bool) (a : Act) (w : World), L.size = ops.size → L.count false ≤ fuel → I (fun j => L.getD j false = true) a w → wpAny P md ops Q fuel L a w := by
  intro fuel
  induction fuel with
  | zero =>
    intro L a w hs hc hI
    have hr : Region.ready md ops L = [] := by
      apply List.eq_nil_iff_forall_not_mem.2
      intro i hi
      have h0 := (mem_ready.1 hi).1
      have hlt : i < L.size := by
        rcases Nat.lt_or_ge i L.size with h' | h'
        · exact h'
        · simp [Array.getElem?_eq_none h'] at h0
      have h1 : L[i] = false := by simpa [hlt] using h0
      have : 0 < L.count false := Array.count_pos_iff.2 (h1 ▸ Array.getElem_mem hlt)
      omega
    exact ⟨hr, hdone _ a w (inv_all_listed hs hord hr) hI⟩
  | succ fuel ih =>
    intro L a w hs hc hI
    refine ⟨fun hr => hdone _ a w (inv_all_listed hs hord hr) hI, fun i hi => ?_⟩
    obtain ⟨h0, o, ho, hall⟩ := mem_ready.1 hi
    have hlt : i < L.size := by
      rcases Nat.lt_or_ge i L.size with h' | h'
      · exact h'
      · simp [Array.getElem?_eq_none h'] at h0
    have h1 : L[i] = false := by simpa [hlt] using h0
    refine wpOp_mono (fun a' w' h => ih _ a' w' (by simpa using hs) ?_ ?_) (hstep i o ho _ a w (by simp [hlt, h1]) hall hI)
    · have : 0 < L.count false := Array.count_pos_iff.2 (h1 ▸ Array.getElem_mem hlt)
      have e : L.setIfInBounds i true = L.set i true hlt := by simp [Array.setIfInBounds, hlt]
      rw [e, Array.count_set, h1]
      simp
      omega
    · have e : (fun j => (L.setIfInBounds i true).getD j false = true) = (fun j => L.getD j false = true ∨ j = i) := by
        funext j
        apply propext
        by_cases hj : i = j
        · subst hj; simp [hlt]
        · rw [getD_set_ne false hj]
          constructor
          · exact Or.inl
          · rintro (h | h)
            · exact h
            · exact absurd h.symm hj
      rw [e]
      exact h

theorem wpOps_inv (I : (Nat → Prop) → Act → World → Prop) (hord : ∀ i o, ops[i]? = some o → ∀ e ∈ o.after, Region.binds md e = true → e.on < i)
    (hdone : ∀ l a w, (∀ i, i < ops.size → l i) → I l a w → Q .normal a w)
    (hstep : ∀ i o, ops[i]? = some o → ∀ l a w, ¬ l i → (∀ e ∈ o.after, Region.binds md e = true → l e.on) → I l a w → wpOp P ops Q i (I (fun j => l j ∨ j = i)) a w) :
    ∀ (m k : Nat) (a : Act) (w : World), k + m = ops.size → I (fun j => j < k) a w → wpOps P ops Q (List.range' k m) a w := by
  intro m
  induction m with
  | zero => intro k a w hk hI; exact hdone _ a w (fun i hi => by omega) hI
  | succ m ih =>
    intro k a w hk hI
    rw [List.range'_succ, wpOps_cons]
    have hlt : k < ops.size := by omega
    refine wpOp_mono (fun a' w' h => ih (k + 1) a' w' (by omega) ?_) (hstep k ops[k] (Array.getElem?_eq_getElem hlt) _ a w (by omega) (fun e he hb => hord k _ (Array.getElem?_eq_getElem hlt) e he hb) hI)
    have e : (fun j => j < k + 1) = (fun j => j < k ∨ j = k) := by
      funext j
      apply propext
      omega
    rw [e]
    exact h

theorem region_inv {id : Nat} {b : Bool} {a : Act} {w0 : World} (hm : P.follows .mixedOrders = true) (I : (Nat → Prop) → Act → World → Prop) (hord : ∀ i o, ops[i]? = some o → ∀ e ∈ o.after, Region.binds .any e = true → e.on < i)
    (hdone : ∀ l a w, (∀ i, i < ops.size → l i) → I l a w → Q .normal a w)
    (hstep : ∀ i o, ops[i]? = some o → ∀ l a w, ¬ l i → (∀ e ∈ o.after, Region.binds .any e = true → l e.on) → I l a w → wpOp P ops Q i (I (fun j => l j ∨ j = i)) a w)
    (h0 : I (fun _ => False) a w0) (h1 : I (fun _ => False) a w0.drew) : (Code.region id ops b).wp P Q a w0 := by
  cases b
  · refine wp_region ?_
    rw [List.range_eq_range']
    refine wpOps_inv I hord hdone hstep ops.size 0 a w0 (by omega) ?_
    have e : (fun j : Nat => j < 0) = (fun _ => False) := by
      funext j
      exact propext ⟨fun h => absurd h (Nat.not_lt_zero j), False.elim⟩
    rw [e]
    exact h0
  · refine wp_region_any hm (wpAny_inv I hord hdone hstep _ _ _ _ (by simp) (by simp) ?_)
    have e : (fun j => (Array.replicate ops.size false).getD j false = true) = (fun _ => False) := by
      funext j
      apply propext
      rw [Array.getD_eq_getD_getElem?, Array.getElem?_replicate]
      constructor
      · intro h; split at h <;> cases h
      · exact False.elim
    rw [e]
    exact h1

end

def preds (cl : List Nat) (es : List Edge) : Nat := es.foldl (fun s e => if Region.binds .any e then s ||| 2 ^ e.on ||| cl[e.on]?.getD 0 else s) 0

def ordOk (ops : Array Oper) (cl : List Nat) : Bool :=
  (List.range ops.size).all fun i => match ops[i]? with
    | some o => (o.after.all fun e => !Region.binds .any e || decide (e.on < i)) && cl[i]?.getD 0 == preds cl o.after.toList
    | none => true

def closure (ops : Array Oper) : List Nat := ops.toList.foldl (fun cl o => cl ++ [preds cl o.after.toList]) []

theorem preds_spec {cl : List Nat} {j : Nat} : ∀ {es : List Edge} {s : Nat}, (es.foldl (fun s e => if Region.binds .any e then s ||| 2 ^ e.on ||| cl[e.on]?.getD 0 else s) s).testBit j = true → s.testBit j = true ∨ ∃ e ∈ es, Region.binds .any e = true ∧ (e.on = j ∨ has cl e.on j = true)
  | [], s, h => Or.inl h
  | e :: es, s, h => by
    rw [List.foldl_cons] at h
    rcases preds_spec h with h1 | ⟨x, hx, h1⟩
    · by_cases hb : Region.binds .any e = true
      · rw [if_pos hb, Nat.testBit_or, Nat.testBit_or, Bool.or_eq_true, Bool.or_eq_true] at h1
        rcases h1 with (h1 | h1) | h1
        · exact Or.inl h1
        · rw [Nat.testBit_two_pow] at h1
          exact Or.inr ⟨e, List.mem_cons_self, hb, Or.inl (by simpa using h1)⟩
        · exact Or.inr ⟨e, List.mem_cons_self, hb, Or.inr h1⟩
      · rw [if_neg hb] at h1
        exact Or.inl h1
    · exact Or.inr ⟨x, List.mem_cons_of_mem _ hx, h1⟩

theorem ordOk_ord {ops : Array Oper} {cl : List Nat} (h : ordOk ops cl = true) (i : Nat) (o : Oper) (ho : ops[i]? = some o) (e : Edge) (he : e ∈ o.after) (hb : Region.binds .any e = true) : e.on < i := by
  have h1 := List.all_eq_true.1 h i (List.mem_range.2 (Array.getElem?_eq_some_iff.1 ho).1)
  simp only [ho, Bool.and_eq_true] at h1
  have h2 := Array.all_eq_true_iff_forall_mem.1 h1.1 e he
  simpa [hb] using h2

theorem ordOk_clo {ops : Array Oper} {cl : List Nat} (h : ordOk ops cl = true) (i : Nat) (o : Oper) (ho : ops[i]? = some o) (j : Nat) (hj : has cl i j = true) : ∃ e ∈ o.after, Region.binds .any e = true ∧ (e.on = j ∨ has cl e.on j = true) := by
  have h1 := List.all_eq_true.1 h i (List.mem_range.2 (Array.getElem?_eq_some_iff.1 ho).1)
  simp only [ho, Bool.and_eq_true, beq_iff_eq] at h1
  unfold has at hj
  rw [h1.2] at hj
  rcases preds_spec hj with h2 | ⟨e, he, h2⟩
  · rw [Nat.zero_testBit] at h2; cases h2
  · exact ⟨e, by simpa using he, h2⟩

theorem apart_spec {K : Type} {es : List (Eff K)} {cl : List Nat} (h : apart es cl = true) {i j : Nat} {e f : Eff K} (he : es[i]? = some e) (hf : es[j]? = some f) (hne : i ≠ j) (k : Key) (hr : k ∈ e.rd ∨ e.writes k = true) (hw : f.writes k = true) : (has cl j i = true ∧ i < j) ∨ (has cl i j = true ∧ j < i) := by
  have h1 := List.all_eq_true.1 (List.all_eq_true.1 h i (List.mem_range.2 (List.getElem?_eq_some_iff.1 he).1)) j (List.mem_range.2 (List.getElem?_eq_some_iff.1 hf).1)
  simp only [he, hf, Bool.or_eq_true, Bool.and_eq_true, beq_iff_eq, hne, false_or, decide_eq_true_eq] at h1
  rcases h1 with (h1 | h1) | h1
  · exact Or.inl h1
  · exact Or.inr h1
  · exfalso
    obtain ⟨c, hc⟩ := Option.isSome_iff_exists.1 hw
    have h2 := List.all_eq_true.1 h1 (k, c) (lookup_none hc)
    simp only [Bool.and_eq_true, Bool.not_eq_true'] at h2
    rcases hr with hr | hr
    · rw [← List.contains_iff_mem, h2.1] at hr; cases hr
    · rw [h2.2] at hr; cases hr

section

variable {K : Type} (D : K → KdE) (V : Env) (P : Program) (ops : Array Oper)

def OpOk (o : Oper) (id : Nat) (σ : St K) (e : Eff K) : Prop :=
  ∀ (β : Nat → Option Nat) (a : Act) (w : World), Inv V β a w → (∀ k ∈ e.rd, At D V β a w k (σ k)) → β id = none → ∀ (Q : Exit → Act → World → Prop) (K' : Act → World → Prop),
    (∀ β' a' w', Inv V β' a' w' → (∀ i, i ≠ id → β' i = β i) → (∀ k c, At D V β a w k c → e.writes k = false → At D V β' a' w' k c) → (∀ k c, (k, c) ∈ e.wr → At D V β' a' w' k c) → K' a' w') →
    if Region.wanted o (yielded ops a.tmps) = true then Oper.wp P o a w K' Q else K' (a.put o.dst undef) w

variable {D V P ops}

theorem Grows.drew (V : Env) (β : Nat → Option Nat) (w : World) : Grows (V.see β w) (V.see β w.drew) := ⟨Nat.le_refl _, fun _ _ _ _ h => h⟩

theorem Inv.drew {β : Nat → Option Nat} {a : Act} {w : World} (h : Inv V β a w) : Inv V β a w.drew :=
  ⟨⟨h.fr.os, h.fr.tape, h.fr.output, h.fr.size, h.fr.block⟩, h.nt, h.df, h.inj, h.own, h.old, V.eup _ _ (Grows.drew V β w) h.e, h.anc⟩

theorem At.drew {β : Nat → Option Nat} {a : Act} {w : World} {k : Key} {c : Ct K} (h : At D V β a w k c) : At D V β a w.drew k c := by
  cases c with
  | no => cases k <;> trivial
  | av x => cases k with
    | slot d => exact AV.up (fun _ _ h => h) (Grows.drew V β w) h
    | obj i => trivial
  | ob o => cases k with
    | slot d => trivial
    | obj i => obtain ⟨A, cs, h1, h2, h3⟩ := h; exact ⟨A, cs, h1, h2, segs_up (Grows.drew V β w) h3⟩

noncomputable def blP (l : Nat → Prop) (j : Nat) : Bool := @decide (l j) (Classical.propDecidable _)

theorem blP_true {l : Nat → Prop} {j : Nat} (h : l j) : blP l j = true := by unfold blP; simp [h]

theorem blP_false {l : Nat → Prop} {j : Nat} (h : ¬ l j) : blP l j = false := by unfold blP; simp [h]

theorem region_sound {id : Nat} {b : Bool} {Q : Exit → Act → World → Prop} {es : List (Eff K)} {cl : List Nat} {σ : St K} {nx : Nat} {β : Nat → Option Nat} {a : Act} {w : World}
    (hm : P.follows .mixedOrders = true) (hlen : es.length = ops.size) (hord : ordOk ops cl = true) (hap : apart es cl = true)
    (hop : ∀ (i : Nat) (o : Oper) (e : Eff K), ops[i]? = some o → es[i]? = some e → OpOk D V P ops o (nx + i) (upto es (fun j => decide (j < i)) σ es.length) e)
    (hI : Inv V β a w) (hH : Holds D V σ β a w) (hfr : ∀ j, nx ≤ j → β j = none)
    (hQ : ∀ β' a' w', Inv V β' a' w' → Holds D V (upto es (fun _ => true) σ es.length) β' a' w' → (∀ j, nx + es.length ≤ j → β' j = none) → Q .normal a' w') :
    (Code.region id ops b).wp P Q a w := by
  let I : (Nat → Prop) → Act → World → Prop := fun l a w => ∃ β, Inv V β a w ∧ Holds D V (upto es (blP l) σ es.length) β a w ∧ (∀ i, l i → i < es.length ∧ ∀ j, has cl i j = true → l j) ∧ ∀ j, nx ≤ j → (∀ i, l i → j ≠ nx + i) → β j = none
  have h0 : ∀ w', Inv V β a w' → (∀ k, At D V β a w' k (σ k)) → I (fun _ => False) a w' := by
    intro w' h1 h2
    refine ⟨β, h1, ?_, fun _ h => h.elim, fun j hj _ => hfr j hj⟩
    have e : ∀ n, upto es (blP fun _ => False) σ n = σ := by
      intro n
      induction n with
      | zero => rfl
      | succ n ih => unfold upto; rw [blP_false fun h => h]; exact ih
    intro k
    show At D V β a w' k (upto es (blP fun _ => False) σ es.length k)
    rw [e]
    exact h2 k
  refine region_inv hm I (ordOk_ord hord) ?_ ?_ (h0 w hI hH) (h0 w.drew hI.drew fun k => (hH k).drew)
  · rintro l a w hall ⟨β, h1, h2, h3, h4⟩
    refine hQ β a w h1 ?_ ?_
    · intro k
      rw [← upto_eq (l := blP l) (m := fun _ => true) es.length (fun j e hj _ _ => blP_true (hall j (hlen ▸ hj)))]
      exact h2 k
    · intro j hj
      refine h4 j (by omega) fun i hi e => ?_
      have := (h3 i hi).1
      omega
  · intro i o ho l a w hl haft ⟨β, h1, h2, h3, h4⟩
    have hi : i < es.length := by rw [hlen]; exact (Array.getElem?_eq_some_iff.1 ho).1
    have he : es[i]? = some es[i] := List.getElem?_eq_getElem hi
    generalize es[i] = e at he
    have hcl : ∀ j, has cl i j = true → l j := by
      intro j hj
      obtain ⟨x, hx, hb, h⟩ := ordOk_clo hord i o ho j hj
      rcases h with rfl | h
      · exact haft x hx hb
      · exact (h3 _ (haft x hx hb)).2 j h
    refine wpOp_step ho ?_
    intro K' hK'
    refine hop i o e ho he β a w h1 (fun k hk => ?_) (h4 (nx + i) (by omega) fun j hj e => hl (by have : j = i := by omega
                                                                                                  exact this ▸ hj)) Q K' ?_
    · rw [← upto_eq (l := blP l) es.length fun j f hj hf hw => ?_]
      · exact h2 k
      · by_cases hji : j = i
        · subst hji; rw [blP_false hl]; simp
        · rcases apart_spec hap he hf (Ne.symm hji) k (Or.inl hk) hw with ⟨h5, h6⟩ | ⟨h5, h6⟩
          · rw [blP_false fun h => hl ((h3 j h).2 i h5)]; simp; omega
          · rw [blP_true (hcl j h5)]; simp [h6]
    · intro β' a' w' j1 j2 j3 j4
      refine hK' _ _ ⟨β', j1, ?_, ?_, ?_⟩
      · intro k
        have eb : ∀ j, blP (fun j => l j ∨ j = i) j = (blP l j || j == i) := by
          intro j
          by_cases h : l j
          · rw [blP_true (Or.inl h), blP_true h]; rfl
          · by_cases h' : j = i
            · rw [blP_true (Or.inr h')]; simp [h']
            · rw [blP_false (by rintro (h1 | h1); exact h h1; exact h' h1), blP_false h]; simp [h']
        by_cases hw : e.writes k = true
        · have e1 : upto es (blP fun j => l j ∨ j = i) σ es.length k = e.app σ k := by
            rw [show (blP fun j => l j ∨ j = i) = fun j => blP l j || j == i from funext eb]
            refine upto_last he hw es.length hi (fun j f hij hj hf hfw => ?_) σ
            rcases apart_spec hap he hf (by omega) k (Or.inr hw) hfw with ⟨h5, h6⟩ | ⟨h5, h6⟩
            · exact blP_false fun h => hl ((h3 j h).2 i h5)
            · omega
          show At D V β' a' w' k (upto es (blP fun j => l j ∨ j = i) σ es.length k)
          rw [e1]
          obtain ⟨c, hc⟩ := Option.isSome_iff_exists.1 hw
          unfold Eff.app
          rw [hc]
          exact j4 k c (lookup_none hc)
        · have hw' : e.writes k = false := by simpa using hw
          have e1 : upto es (blP fun j => l j ∨ j = i) σ es.length k = upto es (blP l) σ es.length k := by
            refine upto_eq es.length fun j f hj hf hfw => ?_
            rw [eb]
            by_cases hji : j = i
            · subst hji; rw [he] at hf; injection hf with hf; subst hf; exact absurd hfw hw
            · simp [hji]
          show At D V β' a' w' k (upto es (blP fun j => l j ∨ j = i) σ es.length k)
          rw [e1]
          exact j3 k _ (h2 k) hw'
      · rintro j (h | rfl)
        · exact ⟨(h3 j h).1, fun x hx => Or.inl ((h3 j h).2 x hx)⟩
        · exact ⟨hi, fun x hx => Or.inl (hcl x hx)⟩
      · intro j hj h5
        rw [j2 j (fun e => h5 i (Or.inr rfl) e)]
        exact h4 j hj fun x hx => h5 x (Or.inl hx)

end

section

variable {K : Type} {D : K → KdE} {V : Env} {P : Program} {ops : Array Oper}

theorem At.step {β β' : Nat → Option Nat} {a : Act} {w w' : World} (hb : ∀ i A, β i = some A → β' i = some A) (hg : Grows (V.see β w) (V.see β' w')) {k : Key} {c : Ct K} (ho : ∀ i A, k = .obj i → β i = some A → w'.heap[A]? = w.heap[A]?) (h : At D V β a w k c) : At D V β' a w' k c := by
  cases c with
  | no => cases k <;> trivial
  | av x => cases k with
    | slot d => exact AV.up hb hg h
    | obj i => trivial
  | ob o => cases k with
    | slot d => trivial
    | obj i => obtain ⟨A, cs, h1, h2, h3⟩ := h; exact ⟨A, cs, hb _ _ h1, (ho i A rfl h1).trans h2, segs_up hg h3⟩

theorem getD_put (a : Act) (d k : Nat) (x : Value) (h : d ≠ k) : (a.put (some d) x).tmps.getD k undef = a.tmps.getD k undef := by
  simp [Act.put, Array.getD_eq_getD_getElem?, h]

theorem getD_put_self (a : Act) (d : Nat) (x : Value) (h : d < a.tmps.size) : (a.put (some d) x).tmps.getD d undef = x := by
  simp [Act.put, Array.getD_eq_getD_getElem?, h]

theorem At.put {β : Nat → Option Nat} {a : Act} {w : World} {dst : Option Nat} {x : Value} {k : Key} {c : Ct K} (hk : ∀ d, dst = some d → k ≠ .slot d) (h : At D V β a w k c) : At D V β (a.put dst x) w k c := by
  cases dst with
  | none => exact h
  | some d => cases c with
    | no => cases k <;> trivial
    | av y => cases k with
      | slot j =>
        show AV.holds D β _ y ((a.put (some d) x).tmps.getD j undef)
        rw [getD_put a d j x fun e => hk d rfl (by rw [e])]
        exact h
      | obj i => trivial
    | ob o => cases k <;> exact h

theorem Inv.put {β : Nat → Option Nat} {a : Act} {w : World} (h : Inv V β a w) (dst : Option Nat) (x : Value) : Inv V β (a.put dst x) w := by
  cases dst with
  | none => exact h
  | some d => exact ⟨h.fr, by simp [Act.put, h.nt], h.df, h.inj, h.own, h.old, h.e, h.anc⟩

def wrd (dst : Option Nat) (x : AV K) : List (Key × Ct K) := match dst with
  | some d => [(.slot d, .av x)]
  | none => []

def dstOk (N : Nat) (dst : Option Nat) : Bool := match dst with
  | some d => decide (d < N)
  | none => true

theorem wrd_else {dst : Option Nat} {x : AV K} {l : List (Key × Ct K)} {k : Key} (h : ((wrd dst x ++ l).lookup k).isSome = false) : (∀ d, dst = some d → k ≠ .slot d) ∧ (l.lookup k).isSome = false := by
  cases dst with
  | none => exact ⟨fun d e => by (cases e), h⟩
  | some d =>
    simp only [wrd, List.cons_append, List.nil_append, List.lookup] at h
    split at h
    · cases h
    · rename_i hne
      refine ⟨fun d' e he => ?_, h⟩
      injection e with e
      subst e; subst he
      simp at hne

theorem wrd_at {β : Nat → Option Nat} {a : Act} {w : World} {dst : Option Nat} {x : AV K} {v : Value} (hI : Inv V β a w) (hd : dstOk V.N dst = true) (hx : x.holds D β (V.see β w) v) {k : Key} {c : Ct K} (h : (k, c) ∈ wrd dst x) : At D V β (a.put dst v) w k c := by
  cases dst with
  | none => cases h
  | some d =>
    simp only [wrd, List.mem_singleton, Prod.mk.injEq] at h
    obtain ⟨rfl, rfl⟩ := h
    show AV.holds D β _ x _
    rw [getD_put_self a d v (by rw [hI.nt]; simpa [dstOk] using hd)]
    exact hx

def Nxt (D : K → KdE) (V : Env) (β : Nat → Option Nat) (a : Act) (w : World) (id : Nat) (wr : List (Key × Ct K)) (K' : Act → World → Prop) : Prop :=
  ∀ β' a' w', Inv V β' a' w' → (∀ i, i ≠ id → β' i = β i) → (∀ k c, At D V β a w k c → (wr.lookup k).isSome = false → At D V β' a' w' k c) → (∀ k c, (k, c) ∈ wr → At D V β' a' w' k c) → K' a' w'

theorem nxt_fr {β : Nat → Option Nat} {a : Act} {w w' : World} {id : Nat} {K' : Act → World → Prop} {dst : Option Nat} {x : AV K} {v : Value} (hI : Inv V β a w) (hd : dstOk V.N dst = true) (hf : Fr0 w w') (hx : x.holds D β (V.see β w') v)
    (h : Nxt D V β a w id (wrd dst x) K') : K' (a.put dst v) w' := by
  have hg : Grows (V.see β w) (V.see β w') := hide_mono hf.size fun b hb hs => ⟨hf.block b hb, hs⟩
  have pl : ∀ A, Plain w A → Plain w' A := fun A ⟨cs, T, e, p⟩ => ⟨cs, T, (hf.block A (Array.getElem?_eq_some_iff.1 e).1).trans e, p⟩
  have hI' : Inv V β a w' := ⟨⟨hf.os.trans hI.fr.os, hf.tape.trans hI.fr.tape, hf.output.trans hI.fr.output, Nat.le_trans hI.fr.size hf.size, fun k hk hl => (hf.block k (Nat.lt_of_lt_of_le hk hI.fr.size)).trans (hI.fr.block k hk hl)⟩,
    hI.nt, hI.df, hI.inj, fun i A e => ⟨(hI.own i A e).1, pl A (hI.own i A e).2⟩, fun b hb => ⟨(hI.old b hb).1, pl b (hI.old b hb).2⟩, V.eup _ _ hg hI.e, hI.anc⟩
  refine h β _ w' (hI'.put dst v) (fun _ _ => rfl) (fun k c hk hn => ?_) (fun k c hk => wrd_at hI' hd hx hk)
  have hn' := wrd_else (l := []) (by rw [List.append_nil]; exact hn)
  refine At.put hn'.1 (hk.step (fun _ _ e => e) hg fun i A _ e => ?_)
  obtain ⟨_, cs, T, e', _⟩ := hI.own i A e
  exact hf.block A (Array.getElem?_eq_some_iff.1 e').1

theorem nxt_same {β : Nat → Option Nat} {a : Act} {w : World} {id : Nat} {K' : Act → World → Prop} {dst : Option Nat} {x : AV K} {v : Value} (hI : Inv V β a w) (hd : dstOk V.N dst = true) (hx : x.holds D β (V.see β w) v)
    (h : Nxt D V β a w id (wrd dst x) K') : K' (a.put dst v) w :=
  nxt_fr hI hd ⟨rfl, rfl, rfl, Nat.le_refl _, fun _ _ => rfl⟩ hx h

def plainSeg : Seg K → Bool
  | .lit v => cellOk v
  | .sem _ => true

theorem segs_plain {w : World} : ∀ {ss : List (Seg K)} {cs : List Value}, ss.all plainSeg = true → segs D w ss cs → ∀ v ∈ cs, cellOk v = true
  | [], _, _, h, v, hv => by rw [h] at hv; cases hv
  | s :: ss, _, hp, ⟨a, b, e, h1, h2⟩, v, hv => by
    subst e
    simp only [List.all_cons, Bool.and_eq_true] at hp
    rcases List.mem_append.1 hv with hv | hv
    · cases s with
      | lit u => have h1 : a = [u] := h1; subst h1; simp only [List.mem_singleton] at hv; subst hv; exact hp.1
      | sem k => exact ((D k).ok _ _ h1).2 v hv
    · exact segs_plain hp.2 h2 v hv

theorem getElem?_push_old {hs : Array Obj} {o : Obj} {b : Nat} (_h : b < hs.size) : (hs.push o)[b]? = hs[b]? := by
  rw [Array.getElem?_push, if_neg (by omega)]

theorem nxt_newx {x : AV K} {v : Value} {β : Nat → Option Nat} {a : Act} {w : World} {id : Nat} {K' : Act → World → Prop} {d : Nat} {T : TypeId} {ss : List (Seg K)} {cs : List Value} (hI : Inv V β a w) (hd : dstOk V.N (some d) = true) (hid : β id = none) (hp : ss.all plainSeg = true) (hs : segs D (V.see β w) ss cs) (hx : ∀ (β' : Nat → Option Nat) (w' : World), β' id = some w.heap.size → x.holds D β' w' v)
    (h : Nxt D V β a w id [(.slot d, .av x), (.obj id, .ob ⟨T, ss⟩)] K') : K' (a.put (some d) v) (w.alloc (.cells cs.toArray T)) := by
  have hsz : (w.alloc (.cells cs.toArray T)).heap.size = w.heap.size + 1 := by simp
  have hold : ∀ b, b < w.heap.size → (w.alloc (.cells cs.toArray T)).heap[b]? = w.heap[b]? := fun b hb => getElem?_push_old hb
  have hnew : (w.alloc (.cells cs.toArray T)).heap[w.heap.size]? = some (.cells cs.toArray T (0, 0)) := heap_alloc_new w _
  let β' : Nat → Option Nat := fun i => if i = id then some w.heap.size else β i
  have hb' : ∀ i, i ≠ id → β' i = β i := fun i hi => if_neg hi
  have hup : ∀ i A, β i = some A → β' i = some A := fun i A e => by rw [hb' i (fun h => by rw [h, hid] at e; cases e)]; exact e
  have hlt : ∀ i A, β i = some A → A < w.heap.size := fun i A e => by obtain ⟨_, cs, T, e', _⟩ := hI.own i A e; exact (Array.getElem?_eq_some_iff.1 e').1
  have hself : β' id = some w.heap.size := if_pos rfl
  have hg : Grows (V.see β w) (V.see β' (w.alloc (.cells cs.toArray T))) := by
    refine hide_mono (by rw [hsz]; omega) fun b hb hs => ⟨hold b hb, ?_⟩
    rintro (h1 | ⟨i, h1⟩)
    · exact hs (Or.inl h1)
    · by_cases hi : i = id
      · subst hi; rw [hself] at h1; injection h1 with h1; omega
      · rw [hb' i hi] at h1; exact hs (Or.inr ⟨i, h1⟩)
  have pl : ∀ A, Plain w A → Plain (w.alloc (.cells cs.toArray T)) A := fun A ⟨cs', T', e, p⟩ => ⟨cs', T', (hold A (Array.getElem?_eq_some_iff.1 e).1).trans e, p⟩
  have hI' : Inv V β' a (w.alloc (.cells cs.toArray T)) := by
    refine ⟨⟨hI.fr.os, hI.fr.tape, hI.fr.output, by rw [hsz]; exact Nat.le_succ_of_le hI.fr.size, fun k hk hl => (hold k (Nat.lt_of_lt_of_le hk hI.fr.size)).trans (hI.fr.block k hk hl)⟩, hI.nt, hI.df, ?_, ?_, fun b hb => ⟨(hI.old b hb).1, pl b (hI.old b hb).2⟩, V.eup _ _ hg hI.e, fun A h => hup 0 A (hI.anc A h)⟩
    · intro i j A hi hj
      by_cases ei : i = id <;> by_cases ej : j = id
      · rw [ei, ej]
      · subst ei; rw [hself] at hi; injection hi with hi; rw [hb' j ej] at hj; have := hlt j A hj; omega
      · subst ej; rw [hself] at hj; injection hj with hj; rw [hb' i ei] at hi; have := hlt i A hi; omega
      · rw [hb' i ei] at hi; rw [hb' j ej] at hj; exact hI.inj i j A hi hj
    · intro i A hi
      by_cases ei : i = id
      · subst ei; rw [hself] at hi; injection hi with hi; subst hi
        exact ⟨Or.inl hI.fr.size, cs, T, hnew, segs_plain hp hs⟩
      · rw [hb' i ei] at hi; exact ⟨(hI.own i A hi).1, pl A (hI.own i A hi).2⟩
  refine h β' _ _ (hI'.put (some d) _) hb' (fun k c hk hn => ?_) (fun k c hk => ?_)
  · have hn' := wrd_else (dst := some d) (x := x) (l := [(.obj id, .ob ⟨T, ss⟩)]) hn
    refine At.put hn'.1 (hk.step hup hg fun i A _ e => hold A (hlt i A e))
  · rcases List.mem_cons.1 hk with hk | hk
    · exact wrd_at (x := x) hI' hd (hx _ _ hself) (by rw [hk]; exact List.mem_singleton_self _)
    · simp only [List.mem_singleton, Prod.mk.injEq] at hk
      obtain ⟨rfl, rfl⟩ := hk
      exact ⟨_, cs, hself, hnew, segs_up hg hs⟩

theorem nxt_new {β : Nat → Option Nat} {a : Act} {w : World} {id : Nat} {K' : Act → World → Prop} {d : Nat} {T : TypeId} {ss : List (Seg K)} {cs : List Value} (hI : Inv V β a w) (hd : dstOk V.N (some d) = true) (hid : β id = none) (hp : ss.all plainSeg = true) (hs : segs D (V.see β w) ss cs)
    (h : Nxt D V β a w id [(.slot d, .av (.ptr id 0)), (.obj id, .ob ⟨T, ss⟩)] K') : K' (a.put (some d) (.pointer (some ⟨w.heap.size, 0, none⟩))) (w.alloc (.cells cs.toArray T)) :=
  nxt_newx (x := .ptr id 0) hI hd hid hp hs (fun _ _ e => ⟨_, e, rfl⟩) h

theorem nxt_lend {x : AV K} {β : Nat → Option Nat} {a : Act} {w w' : World} {id i A : Nat} {K' : Act → World → Prop} {dst : Option Nat} {v : Value} {T : TypeId} {ss : List (Seg K)} {cs : List Value} (hI : Inv V β a w) (hd : dstOk V.N dst = true) (hA : β i = some A)
    (hf : FrL (fun b => b = A) w w') (hnew : w'.heap[A]? = some (.cells cs.toArray T (0, 0))) (hp : ∀ v ∈ cs, cellOk v = true) (hs : segs D (V.see β w') ss cs) (hx : x.holds D β (V.see β w') v)
    (h : Nxt D V β a w id (wrd dst x ++ [(.obj i, .ob ⟨T, ss⟩)]) K') : K' (a.put dst v) w' := by
  have hold : ∀ b, b < w.heap.size → b ≠ A → w'.heap[b]? = w.heap[b]? := fun b h1 h2 => hf.block b h1 h2
  have hg : Grows (V.see β w) (V.see β w') := hide_mono hf.size fun b hb hs => ⟨hold b hb fun e => hs (Or.inr ⟨i, e ▸ hA⟩), hs⟩
  have hno : ∀ b, V.S b → b ≠ A := fun b hb e => by
    have h1 := (hI.old b hb).1
    have h2 := (hI.own i A hA).1
    subst e
    rcases h2 with h2 | h2
    · omega
    · exact h1.2 h2
  have pl : ∀ B, Plain w B → B ≠ A → Plain w' B := fun B ⟨cs', T', e, p⟩ hne => ⟨cs', T', (hold B (Array.getElem?_eq_some_iff.1 e).1 hne).trans e, p⟩
  have hI' : Inv V β a w' := by
    refine ⟨⟨hf.os.trans hI.fr.os, hf.tape.trans hI.fr.tape, hf.output.trans hI.fr.output, Nat.le_trans hI.fr.size hf.size, fun k hk hl => (hold k (Nat.lt_of_lt_of_le hk hI.fr.size) fun e => ?_).trans (hI.fr.block k hk hl)⟩, hI.nt, hI.df, hI.inj, ?_, fun b hb => ⟨(hI.old b hb).1, pl b (hI.old b hb).2 (hno b hb)⟩, V.eup _ _ hg hI.e, hI.anc⟩
    · rcases (hI.own i A hA).1 with h2 | h2
      · omega
      · exact hl (e ▸ h2)
    · intro j B hj
      by_cases e : B = A
      · subst e; exact ⟨(hI.own j B hj).1, cs, T, hnew, hp⟩
      · exact ⟨(hI.own j B hj).1, pl B (hI.own j B hj).2 e⟩
  refine h β _ _ (hI'.put dst _) (fun _ _ => rfl) (fun k c hk hn => ?_) (fun k c hk => ?_)
  · have hn' := wrd_else (l := [(.obj i, .ob ⟨T, ss⟩)]) hn
    refine At.put hn'.1 (hk.step (fun _ _ e => e) hg fun j B hkj e => hold B ?_ fun e' => ?_)
    · obtain ⟨_, cs', T', e', _⟩ := hI.own j B e
      exact (Array.getElem?_eq_some_iff.1 e').1
    subst e'
    have := hI.inj j i B e hA
    subst this
    subst hkj
    have := hn'.2
    simp [List.lookup] at this
  · rcases List.mem_append.1 hk with hk | hk
    · exact wrd_at (D := D) (x := x) hI' hd hx hk
    · simp only [List.mem_singleton, Prod.mk.injEq] at hk
      obtain ⟨rfl, rfl⟩ := hk
      cases dst with
      | none => exact ⟨_, cs, hA, hnew, hs⟩
      | some d => exact ⟨_, cs, hA, hnew, hs⟩

theorem nxt_set {β : Nat → Option Nat} {a : Act} {w w' : World} {id i A : Nat} {K' : Act → World → Prop} {dst : Option Nat} {v : Value} {T : TypeId} {ss : List (Seg K)} {cs : List Value} (hI : Inv V β a w) (hd : dstOk V.N dst = true) (hA : β i = some A)
    (hos : w'.os = w.os) (htp : w'.tape = w.tape) (hout : w'.output = w.output) (hsz : w'.heap.size = w.heap.size) (hold : ∀ b, b ≠ A → w'.heap[b]? = w.heap[b]?) (hnew : w'.heap[A]? = some (.cells cs.toArray T (0, 0))) (hp : ss.all plainSeg = true) (hs : segs D (V.see β w) ss cs)
    (h : Nxt D V β a w id (wrd dst .any ++ [(.obj i, .ob ⟨T, ss⟩)]) K') : K' (a.put dst v) w' :=
  nxt_lend (x := .any) hI hd hA ⟨hos, htp, hout, Nat.le_of_eq hsz.symm, fun b _ hb => hold b hb⟩ hnew (segs_plain hp hs) (segs_up (hide_mono (by omega) fun b _ hs => ⟨hold b fun e => hs (Or.inr ⟨i, e ▸ hA⟩), hs⟩) hs) (by unfold AV.holds; trivial) h

end

end Go.Proofs.YtagciepnhjbopaaGreatDoor.En
