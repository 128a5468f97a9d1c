/- What the statements of this claim stand on: of Inv, RatL, Rr1, what they name -/
import Derived.RegionTactic
import Derived.Test.YtagciepnhjbopaaGreatDoorT25
import Derived.Test.YtagciepnhjbopaaGreatDoorT28

namespace Go.Proofs.YtagciepnhjbopaaGreatDoor
open Go Go.RowKit

section

variable {P : Program} {ops : Array Oper} {Q : Exit → Act → World → Prop} {md : Region.Mode}

theorem inv_all_listed {L : Array Bool} (_hs : L.size = ops.size) (hord : ∀ i o, ops[i]? = some o → ∀ e ∈ o.after, Region.binds md e = true → e.on < i)
    (h : Region.ready md ops L = []) : ∀ i, i < ops.size → L.getD i false = true := by
  intro i
  induction i using Nat.strongRecOn with
  | ind i ih =>
    intro hi
    cases hb : L.getD i false with
    | true => rfl
    | false =>
      exfalso
      have hm : i ∈ Region.ready md ops L := by
        rw [mem_ready]
        refine ⟨?_, ops[i], Array.getElem?_eq_getElem hi, fun e he hbd => ?_⟩
        · have : i < L.size := by omega
          simp [this] at hb ⊢
          exact hb
        · exact ih e.on (hord i _ (Array.getElem?_eq_getElem hi) e he hbd) (Nat.lt_trans (hord i _ (Array.getElem?_eq_getElem hi) e he hbd) hi)
      rw [h] at hm
      cases hm

theorem wpAny_inv (I : (Nat → Prop) → Act → World → Prop) (hord : ∀ i o, ops[i]? = some o → ∀ e ∈ o.after, Region.binds md e = true → e.on < i)
    (hdone : ∀ l a w, (∀ i, i < ops.size → l i) → I l a w → Q .normal a w)
    (hstep : ∀ i o, ops[i]? = some o → ∀ l a w, ¬ l i → (∀ e ∈ o.after, Region.binds md e = true → l e.on) → I l a w → wpOp P ops Q i (I (fun j => l j ∨ j = i)) a w) :
    ∀ (fuel : Nat) (L : Array Bool) (a : Act) (w : World), L.size = ops.size → L.count false ≤ fuel → I (fun j => L.getD j false = true) a w → wpAny P md ops Q fuel L a w := by
  intro fuel
  induction fuel with
  | zero =>
    intro L a w hs hc hI
    have hr : Region.ready md ops L = [] := by
      apply List.eq_nil_iff_forall_not_mem.2
      intro i hi
      have h0 := (mem_ready.1 hi).1
      have hlt : i < L.size := by
        rcases Nat.lt_or_ge i L.size with h' | h'
        · exact h'
        · simp [Array.getElem?_eq_none h'] at h0
      have h1 : L[i] = false := by simpa [hlt] using h0
      have : 0 < L.count false := Array.count_pos_iff.2 (h1 ▸ Array.getElem_mem hlt)
      omega
    exact ⟨hr, hdone _ a w (inv_all_listed hs hord hr) hI⟩
  | succ fuel ih =>
    intro L a w hs hc hI
    refine ⟨fun hr => hdone _ a w (inv_all_listed hs hord hr) hI, fun i hi => ?_⟩
    obtain ⟨h0, o, ho, hall⟩ := mem_ready.1 hi
    have hlt : i < L.size := by
      rcases Nat.lt_or_ge i L.size with h' | h'
      · exact h'
      · simp [Array.getElem?_eq_none h'] at h0
    have h1 : L[i] = false := by simpa [hlt] using h0
    refine wpOp_mono (fun a' w' h => ih _ a' w' (by simpa using hs) ?_ ?_) (hstep i o ho _ a w (by simp [hlt, h1]) hall hI)
    · have : 0 < L.count false := Array.count_pos_iff.2 (h1 ▸ Array.getElem_mem hlt)
      have e : L.setIfInBounds i true = L.set i true hlt := by simp [Array.setIfInBounds, hlt]
      rw [e, Array.count_set, h1]
      simp
      omega
    · have e : (fun j => (L.setIfInBounds i true).getD j false = true) = (fun j => L.getD j false = true ∨ j = i) := by
        funext j
        apply propext
        by_cases hj : i = j
        · subst hj; simp [hlt]
        · rw [getD_set_ne false hj]
          constructor
          · exact Or.inl
          · rintro (h | h)
            · exact h
            · exact absurd h.symm hj
      rw [e]
      exact h

theorem wpOps_inv (I : (Nat → Prop) → Act → World → Prop) (hord : ∀ i o, ops[i]? = some o → ∀ e ∈ o.after, Region.binds md e = true → e.on < i)
    (hdone : ∀ l a w, (∀ i, i < ops.size → l i) → I l a w → Q .normal a w)
    (hstep : ∀ i o, ops[i]? = some o → ∀ l a w, ¬ l i → (∀ e ∈ o.after, Region.binds md e = true → l e.on) → I l a w → wpOp P ops Q i (I (fun j => l j ∨ j = i)) a w) :
    ∀ (m k : Nat) (a : Act) (w : World), k + m = ops.size → I (fun j => j < k) a w → wpOps P ops Q (List.range' k m) a w := by
  intro m
  induction m with
  | zero => intro k a w hk hI; exact hdone _ a w (fun i hi => by omega) hI
  | succ m ih =>
    intro k a w hk hI
    rw [List.range'_succ, wpOps_cons]
    have hlt : k < ops.size := by omega
    refine wpOp_mono (fun a' w' h => ih (k + 1) a' w' (by omega) ?_) (hstep k ops[k] (Array.getElem?_eq_getElem hlt) _ a w (by omega) (fun e he hb => hord k _ (Array.getElem?_eq_getElem hlt) e he hb) hI)
    have e : (fun j => j < k + 1) = (fun j => j < k ∨ j = k) := by
      funext j
      apply propext
      omega
    rw [e]
    exact h

theorem region_inv {id : Nat} {b : Bool} {a : Act} {w0 : World} (hm : P.follows .mixedOrders = true) (I : (Nat → Prop) → Act → World → Prop) (hord : ∀ i o, ops[i]? = some o → ∀ e ∈ o.after, Region.binds .any e = true → e.on < i)
    (hdone : ∀ l a w, (∀ i, i < ops.size → l i) → I l a w → Q .normal a w)
    (hstep : ∀ i o, ops[i]? = some o → ∀ l a w, ¬ l i → (∀ e ∈ o.after, Region.binds .any e = true → l e.on) → I l a w → wpOp P ops Q i (I (fun j => l j ∨ j = i)) a w)
    (h0 : I (fun _ => False) a w0) (h1 : I (fun _ => False) a w0.drew) : (Code.region id ops b).wp P Q a w0 := by
  cases b
  · refine wp_region ?_
    rw [List.range_eq_range']
    refine wpOps_inv I hord hdone hstep ops.size 0 a w0 (by omega) ?_
    have e : (fun j : Nat => j < 0) = (fun _ => False) := by
      funext j
      exact propext ⟨fun h => absurd h (Nat.not_lt_zero j), False.elim⟩
    rw [e]
    exact h0
  · refine wp_region_any hm (wpAny_inv I hord hdone hstep _ _ _ _ (by simp) (by simp) ?_)
    have e : (fun j => (Array.replicate ops.size false).getD j false = true) = (fun _ => False) := by
      funext j
      apply propext
      rw [Array.getD_eq_getD_getElem?, Array.getElem?_replicate]
      constructor
      · intro h; split at h <;> cases h
      · exact False.elim
    rw [e]
    exact h1

end

inductive Kd where
  | pure
  | new (T : TypeId) (n : Nat)
  | store (b : Nat) (T : TypeId) (cs : List Value → Array Value)
  | out (i : Nat) (T : TypeId) (cs : List Value → Array Value)

structure Sp where
  slots : List Nat
  fact : List Value → World → Prop
  kind : Kd

def upd (v : Nat → Value) (d : Option Nat) (x : Value) : Nat → Value := fun k => if d = some k then x else v k

def mix (v : Nat → Value) : List Bool → Nat → List Value → List Value
  | [], _, xs => xs
  | _ :: _, _, [] => []
  | true :: ms, k, _ :: xs => v k :: mix v ms (k + 1) xs
  | false :: ms, k, x :: xs => x :: mix v ms (k + 1) xs

def mkv (a : Act) (ms : List Bool) (v : Nat → Value) : Act := { a with tmps := (mix v ms 0 a.tmps.toList).toArray }

def marks (ms : List Bool) (k : Nat) : Bool := ms[k]?.getD false

theorem mix_at (v : Nat → Value) : ∀ (ms : List Bool) (xs : List Value) (k j : Nat), (mix v ms k xs)[j]? = (xs[j]?).map fun x => if marks ms j = true then v (k + j) else x := by
  intro ms
  induction ms with
  | nil => intro xs k j; cases h : xs[j]? <;> simp [mix, marks, h]
  | cons b ms ih =>
    intro xs k j
    cases xs with
    | nil => cases b <;> simp [mix]
    | cons x xs =>
      cases j with
      | zero => cases b <;> simp [mix, marks]
      | succ j =>
        have e : marks (b :: ms) (j + 1) = marks ms j := rfl
        rw [e]
        cases b <;> simp only [mix, List.getElem?_cons_succ, ih] <;> rw [show k + 1 + j = k + (j + 1) by omega]

theorem mkv_put (a : Act) (ms : List Bool) (v : Nat → Value) (d : Option Nat) (x : Value) (hd : ∀ k, d = some k → marks ms k = true) : (mkv a ms v).put d x = mkv a ms (upd v d x) := by
  cases d with
  | none => show mkv a ms v = mkv a ms (upd v none x); congr
  | some d =>
    have hd' := hd d rfl
    have e : (mix v ms 0 a.tmps.toList).toArray.setIfInBounds d x = (mix (upd v (some d) x) ms 0 a.tmps.toList).toArray := by
     apply Array.ext_getElem?
     intro j
     simp only [List.setIfInBounds_toArray, List.getElem?_toArray, List.getElem?_set, mix_at, Nat.zero_add]
     by_cases h : d = j
     · subst h
       rw [if_pos rfl]
       by_cases hl : d < (mix v ms 0 a.tmps.toList).length
       · rw [if_pos hl]
         have hl' : d < a.tmps.toList.length := by
           rcases Nat.lt_or_ge d a.tmps.toList.length with h | h
           · exact h
           · have := mix_at v ms a.tmps.toList 0 d
             rw [List.getElem?_eq_none h, List.getElem?_eq_getElem hl] at this
             cases this
         rw [List.getElem?_eq_getElem hl', Option.map_some, if_pos hd']
         simp [upd]
       · rw [if_neg hl]
         have := mix_at v ms a.tmps.toList 0 d
         rw [List.getElem?_eq_none (by omega)] at this
         cases hx : a.tmps.toList[d]? with
         | none => rfl
         | some y => rw [hx] at this; cases this
     · rw [if_neg h]
       have e : upd v (some d) x j = v j := by unfold upd; rw [if_neg (by simpa using h)]
       rw [e]
    show ({ mkv a ms v with tmps := (mix v ms 0 a.tmps.toList).toArray.setIfInBounds d x } : Act) = _
    rw [e]
    rfl

theorem mkv_self (a : Act) (ds : List Bool) : mkv a ds (fun k => a.tmps.toList[k]?.getD undef) = a := by
  obtain ⟨⟨ts⟩, df⟩ := a
  unfold mkv
  congr 1
  apply Array.ext_getElem?
  intro j
  simp only [List.getElem?_toArray, mix_at, Nat.zero_add]
  cases hx : ts[j]? with
  | none => rfl
  | some y => simp

def Sp.used (s : Sp) (d : Option Nat) : List Nat := s.slots ++ match s.kind with | .pure => [] | .new _ _ => d.toList | .store b _ _ => [b] | .out _ _ _ => []

def Sp.full (s : Sp) (outs : List Nat) (w0 : World) (d : Option Nat) (v : Nat → Value) (w : World) : Prop :=
  s.fact (s.slots.map v) w ∧ match s.kind with
    | .pure => True
    | .new T n => match d with
      | some k => ∃ A, v k = .pointer (some ⟨A, 0, none⟩) ∧ w0.heap.size ≤ A ∧ SBx w A T n
      | none => False
    | .store b T cs => ∃ A, v b = .pointer (some ⟨A, 0, none⟩) ∧ Bx w A T (cs (s.slots.map v))
    | .out i T cs => ∃ A, outs[i]? = some A ∧ Bx w A T (cs (s.slots.map v))

def Sp.move (s : Sp) (outs : List Nat) (v : Nat → Value) (x : Value) (w w' : World) : Prop :=
  match s.kind with
  | .pure => Fr [] w w'
  | .new T n => x = .pointer (some ⟨w.heap.size, 0, none⟩) ∧ ∃ cs, w' = w.alloc (Obj.cells cs T) ∧ cs.size = n ∧ NoU cs
  | .store b T cs => ∃ A, v b = .pointer (some ⟨A, 0, none⟩) ∧ Fr [A] w w' ∧ Bx w' A T (cs (s.slots.map v)) ∧ NoU (cs (s.slots.map v)) ∧ SBx w A T (cs (s.slots.map v)).size
  | .out i T cs => ∃ A, outs[i]? = some A ∧ Fr [A] w w' ∧ Bx w' A T (cs (s.slots.map v)) ∧ NoU (cs (s.slots.map v)) ∧ SBx w A T (cs (s.slots.map v)).size

def outFree (sps : List Sp) (cl : List (List Nat)) (k i : Nat) : Bool :=
  (List.range sps.length).all fun j => match sps[j]? with
    | some s => (match s.kind with | .out k' _ _ => k' != k || j == i || (cl[j]?.getD []).contains i | _ => true)
    | none => true

theorem outFree_spec {sps : List Sp} {cl : List (List Nat)} {k i : Nat} (h : outFree sps cl k i = true) (j : Nat) (s : Sp) (hs : sps[j]? = some s) (T : TypeId) (cs : List Value → Array Value) (hk : s.kind = .out k T cs) : j = i ∨ i ∈ cl[j]?.getD [] := by
  have hj := (List.getElem?_eq_some_iff.1 hs).1
  have h1 := List.all_eq_true.1 h j (List.mem_range.2 hj)
  simp only [hs, hk] at h1
  simpa using h1

def StepOk (P : Program) (ops : Array Oper) (Q : Exit → Act → World → Prop) (mk : (Nat → Value) → Act) (sps : List Sp) (cl : List (List Nat)) (outs : List Nat) (w0 : World) (i : Nat) : Prop :=
  ∀ o s, ops[i]? = some o → sps[i]? = some s → ∀ (v : Nat → Value) (w : World), Fr outs w0 w → Kp w0 w → (∀ (k A : Nat), outs[k]? = some A → outFree sps cl k i = true → w.heap[A]? = w0.heap[A]?) →
    (∀ j ∈ cl[i]?.getD [], ∀ o' s', ops[j]? = some o' → sps[j]? = some s' → s'.full outs w0 o'.dst v w) →
    ∀ K' : Act → World → Prop, (∀ x w', s.move outs v x w w' → s.fact (s.slots.map (upd v o.dst x)) w' → K' ((mk v).put o.dst x) w') →
      if Region.wanted o (yielded ops (mk v).tmps) = true then Oper.wp P o (mk v) w K' Q else K' ((mk v).put o.dst undef) w

def regOk (ops : Array Oper) (ds : List Bool) (sps : List Sp) (cl : List (List Nat)) : Bool :=
  (sps.length == ops.size) && (List.range ops.size).all fun i =>
    match ops[i]?, sps[i]? with
    | some o, some s =>
      (o.after.all fun e => !Region.binds .any e || decide (e.on < i)) &&
      ((cl[i]?.getD []).all fun j => o.after.any fun e => Region.binds .any e && (e.on == j || (cl[e.on]?.getD []).contains j)) &&
      (match o.dst with | some d => marks ds d | none => true) &&
      ((List.range ops.size).all fun j => j == i || (cl[j]?.getD []).contains i || match ops[j]?, sps[j]? with
        | some o', some s' => (match o.dst with | some d => !(s'.used o'.dst).contains d | none => true)
        | _, _ => true) &&
      (match s.kind with
       | .out k _ _ => (List.range ops.size).all fun j => j == i || match sps[j]? with
            | some s' => (match s'.kind with | .out k' _ _ => k' != k | _ => true)
            | none => true
       | .store b T _ => ((cl[i]?.getD []).any fun j => match ops[j]?, sps[j]? with
          | some o', some s' => (o'.dst == some b) && (match s'.kind with | .new T' _ => T' == T | _ => false)
          | _, _ => false) &&
          ((List.range ops.size).all fun j => j == i || match sps[j]? with
            | some s' => (match s'.kind with | .store b' _ _ => b' != b | _ => true)
            | none => true)
       | _ => true) &&
      (match s.kind with
       | .new _ _ => o.dst.isSome
       | .store b _ _ => o.dst != some b && (match o.dst with | some d => !s.slots.contains d | none => true)
       | .out _ _ _ => (match o.dst with | some d => !s.slots.contains d | none => true)
       | .pure => true)
    | _, _ => false

structure RegOk (ops : Array Oper) (ds : List Bool) (sps : List Sp) (cl : List (List Nat)) : Prop where
  len : sps.length = ops.size
  ord : ∀ (i : Nat) (o : Oper), ops[i]? = some o → ∀ e ∈ o.after, Region.binds .any e = true → e.on < i
  clo : ∀ (i : Nat) (o : Oper), ops[i]? = some o → ∀ j ∈ cl[i]?.getD [], ∃ e ∈ o.after, Region.binds .any e = true ∧ (e.on = j ∨ j ∈ cl[e.on]?.getD [])
  dst : ∀ (i : Nat) (o : Oper), ops[i]? = some o → ∀ d, o.dst = some d → marks ds d = true
  apart : ∀ (i : Nat) (o : Oper), ops[i]? = some o → ∀ (j : Nat) (o' : Oper) (s' : Sp), ops[j]? = some o' → sps[j]? = some s' → j ≠ i → i ∉ cl[j]?.getD [] → ∀ d, o.dst = some d → d ∉ s'.used o'.dst
  box : ∀ (i : Nat) (s : Sp), sps[i]? = some s → ∀ (b : Nat) (T : TypeId) cs, s.kind = .store b T cs → ∃ (j : Nat) (o' : Oper) (s' : Sp) (n : Nat), j ∈ cl[i]?.getD [] ∧ ops[j]? = some o' ∧ sps[j]? = some s' ∧ o'.dst = some b ∧ s'.kind = .new T n
  once : ∀ (i : Nat) (s : Sp), sps[i]? = some s → ∀ (b : Nat) (T : TypeId) cs, s.kind = .store b T cs → ∀ (j : Nat) (s' : Sp), sps[j]? = some s' → j ≠ i → ∀ (b' : Nat) (T' : TypeId) cs', s'.kind = .store b' T' cs' → b' ≠ b
  onceOut : ∀ (i : Nat) (s : Sp), sps[i]? = some s → ∀ (b : Nat) (T : TypeId) cs, s.kind = .out b T cs → ∀ (j : Nat) (s' : Sp), sps[j]? = some s' → j ≠ i → ∀ (b' : Nat) (T' : TypeId) cs', s'.kind = .out b' T' cs' → b' ≠ b
  own : ∀ (i : Nat) (o : Oper) (s : Sp), ops[i]? = some o → sps[i]? = some s → (∀ (T : TypeId) (n : Nat), s.kind = .new T n → ∃ d, o.dst = some d) ∧ (∀ (b : Nat) (T : TypeId) cs, s.kind = .store b T cs → o.dst ≠ some b ∧ ∀ d, o.dst = some d → d ∉ s.slots) ∧ (∀ (b : Nat) (T : TypeId) cs, s.kind = .out b T cs → ∀ d, o.dst = some d → d ∉ s.slots)

theorem regOk_spec {ops : Array Oper} {ds : List Bool} {sps : List Sp} {cl : List (List Nat)} (h : regOk ops ds sps cl = true) : RegOk ops ds sps cl := by
  unfold regOk at h
  rw [Bool.and_eq_true, List.all_eq_true] at h
  obtain ⟨h0, h1⟩ := h
  have hlen : sps.length = ops.size := by simpa using h0
  have get : ∀ i o, ops[i]? = some o → ∃ s, sps[i]? = some s ∧ i ∈ List.range ops.size := by
    intro i o ho
    have hi := (Array.getElem?_eq_some_iff.1 ho).1
    exact ⟨sps[i]'(by omega), List.getElem?_eq_getElem (by omega), List.mem_range.2 hi⟩
  have main : ∀ i o s, ops[i]? = some o → sps[i]? = some s → _ := fun i o s ho hs => by
    have := h1 i (get i o ho).choose_spec.2
    rw [ho, hs] at this
    simp only [Bool.and_eq_true] at this
    exact this
  refine ⟨hlen, ?_, ?_, ?_, ?_, ?_, ?_, ?_, ?_⟩
  · intro i o ho e he hb
    obtain ⟨s, hs, _⟩ := get i o ho
    have h2 := (main i o s ho hs).1.1.1.1.1
    have h3 := Array.all_eq_true_iff_forall_mem.1 h2 e he
    simpa [hb] using h3
  · intro i o ho j hj
    obtain ⟨s, hs, _⟩ := get i o ho
    have h2 := (main i o s ho hs).1.1.1.1.2
    have h3 := List.all_eq_true.1 h2 j hj
    obtain ⟨e, he, h4⟩ := Array.any_eq_true'.1 h3
    simp only [Bool.and_eq_true, Bool.or_eq_true, beq_iff_eq, List.contains_iff_mem] at h4
    exact ⟨e, he, h4⟩
  · intro i o ho d hd
    obtain ⟨s, hs, _⟩ := get i o ho
    have h2 := (main i o s ho hs).1.1.1.2
    rw [hd] at h2
    exact h2
  · intro i o ho j o' s' ho' hs' hne hni d hd
    obtain ⟨s, hs, _⟩ := get i o ho
    have h2 := (main i o s ho hs).1.1.2
    have h3 := List.all_eq_true.1 h2 j (get j o' ho').choose_spec.2
    rw [ho', hs', hd] at h3
    simp only [Bool.or_eq_true, beq_iff_eq, List.contains_iff_mem, Bool.not_eq_true'] at h3
    rcases h3 with (h3 | h3) | h3
    · exact absurd h3 hne
    · exact absurd h3 hni
    · intro hm
      rw [← List.contains_iff_mem] at hm
      rw [hm] at h3
      cases h3
  · intro i s hs b T cs hk
    have hi : i < ops.size := by have := (List.getElem?_eq_some_iff.1 hs).1; omega
    have h2 := (main i _ s (Array.getElem?_eq_getElem hi) hs).1.2
    rw [hk] at h2
    simp only [Bool.and_eq_true] at h2
    obtain ⟨j, hj, h3⟩ := List.any_eq_true.1 h2.1
    cases ho' : ops[j]? with
    | none => rw [ho'] at h3; simp at h3
    | some o' =>
      obtain ⟨s', hs', _⟩ := get j o' ho'
      rw [ho', hs'] at h3
      simp only [Bool.and_eq_true, beq_iff_eq] at h3
      cases hk' : s'.kind with
      | pure => rw [hk'] at h3; simp at h3
      | store _ _ _ => rw [hk'] at h3; simp at h3
      | out _ _ _ => rw [hk'] at h3; simp at h3
      | new T' n =>
        rw [hk'] at h3
        simp only [beq_iff_eq] at h3
        exact ⟨j, o', s', n, hj, ho', hs', h3.1, by rw [hk', h3.2]⟩
  · intro i s hs b T cs hk j s' hs' hne b' T' cs' hk'
    have hi : i < ops.size := by have := (List.getElem?_eq_some_iff.1 hs).1; omega
    have hj : j < ops.size := by have := (List.getElem?_eq_some_iff.1 hs').1; omega
    have h2 := (main i _ s (Array.getElem?_eq_getElem hi) hs).1.2
    rw [hk] at h2
    simp only [Bool.and_eq_true] at h2
    have h3 := List.all_eq_true.1 h2.2 j (List.mem_range.2 hj)
    simp only [hs', hk'] at h3
    simpa [hne] using h3
  · intro i s hs b T cs hk j s' hs' hne b' T' cs' hk'
    have hi : i < ops.size := by have := (List.getElem?_eq_some_iff.1 hs).1; omega
    have hj : j < ops.size := by have := (List.getElem?_eq_some_iff.1 hs').1; omega
    have h2 := (main i _ s (Array.getElem?_eq_getElem hi) hs).1.2
    rw [hk] at h2
    have h3 := List.all_eq_true.1 h2 j (List.mem_range.2 hj)
    simp only [hs', hk'] at h3
    simpa [hne] using h3
  · intro i o s ho hs
    have h2 := (main i o s ho hs).2
    have slot : ∀ d, o.dst = some d → (match o.dst with | some d => !s.slots.contains d | none => true) = true → d ∉ s.slots := by
      intro d hd h
      rw [hd] at h
      simpa using h
    refine ⟨fun T n hk => ?_, fun b T cs hk => ?_, fun b T cs hk => ?_⟩
    · rw [hk] at h2
      exact Option.isSome_iff_exists.1 h2
    · rw [hk] at h2
      simp only [Bool.and_eq_true] at h2
      exact ⟨by simpa using h2.1, fun d hd => slot d hd h2.2⟩
    · rw [hk] at h2
      exact fun d hd => slot d hd h2

theorem map_upd {l : List Nat} {v : Nat → Value} {d : Option Nat} {x : Value} (h : ∀ k, d = some k → k ∉ l) : l.map (upd v d x) = l.map v := by
  apply List.map_congr_left
  intro k hk
  unfold upd
  rw [if_neg]
  intro e
  exact h k e hk

theorem upd_ne {v : Nat → Value} {d : Option Nat} {x : Value} {k : Nat} (h : d ≠ some k) : upd v d x k = v k := if_neg h

def AllBelow (φ : Nat → Prop) : Nat → Prop
  | 0 => True
  | n + 1 => AllBelow φ n ∧ φ n

theorem AllBelow.get {φ : Nat → Prop} : ∀ {n : Nat}, AllBelow φ n → ∀ i, i < n → φ i
  | 0, _, i, hi => absurd hi (Nat.not_lt_zero i)
  | n + 1, h, i, hi => by
    rcases Nat.lt_or_ge i n with h' | h'
    · exact AllBelow.get h.1 i h'
    · have : i = n := by omega
      subst this
      exact h.2

def AllSt : List Sp → Prop
  | [] => True
  | s :: ss => (∀ vs, Stb (s.fact vs)) ∧ AllSt ss

theorem AllSt.get : ∀ {l : List Sp}, AllSt l → ∀ s ∈ l, ∀ vs, Stb (s.fact vs)
  | [], _, _, h => by cases h
  | _ :: _, h, t, ht => by
    rcases List.mem_cons.1 ht with rfl | ht
    · exact h.1
    · exact AllSt.get h.2 t ht

def F1 (φ : Value → World → Prop) : List Value → World → Prop
  | [x], w => φ x w
  | _, _ => True

theorem F1.st {φ : Value → World → Prop} (h : ∀ x, Stb (φ x)) (vs : List Value) : Stb (F1 φ vs) := by
  intro w w' k hf
  match vs, hf with
  | [], _ => trivial
  | [x], hf => exact h x w w' k hf
  | _ :: _ :: _, _ => trivial

theorem st_eq (u : Value) (x : Value) : Stb (fun _ => x = u) := fun _ _ _ h => h

def F0 : List Value → World → Prop := fun _ _ => True

theorem F0.st (vs : List Value) : Stb (F0 vs) := fun _ _ _ _ => trivial

theorem stepOk_of {P : Program} {ops : Array Oper} {Q : Exit → Act → World → Prop} {mk : (Nat → Value) → Act} {sps : List Sp} {cl : List (List Nat)} {outs : List Nat} {w0 : World} {i : Nat} (o : Oper) (s : Sp) (ho : ops[i]? = some o) (hs : sps[i]? = some s)
    (h : ∀ (v : Nat → Value) (w : World), Fr outs w0 w → Kp w0 w → (∀ (k A : Nat), outs[k]? = some A → outFree sps cl k i = true → w.heap[A]? = w0.heap[A]?) → (∀ j ∈ cl[i]?.getD [], ∀ o' s', ops[j]? = some o' → sps[j]? = some s' → s'.full outs w0 o'.dst v w) →
      ∀ K' : Act → World → Prop, (∀ x w', s.move outs v x w w' → s.fact (s.slots.map (upd v o.dst x)) w' → K' ((mk v).put o.dst x) w') →
        if Region.wanted o (yielded ops (mk v).tmps) = true then Oper.wp P o (mk v) w K' Q else K' ((mk v).put o.dst undef) w) : StepOk P ops Q mk sps cl outs w0 i := by
  intro o1 s1 ho1 hs1
  rw [ho] at ho1; cases ho1
  rw [hs] at hs1; cases hs1
  exact h

theorem wp_region_inv {P : Program} {Q : Exit → Act → World → Prop} {id : Nat} {ops : Array Oper} {b : Bool} {a : Act} {w0 : World} (hm : P.follows .mixedOrders = true) (ds : List Bool) (outs : List Nat) (sps : List Sp) (cl : List (List Nat)) (mk : (Nat → Value) → Act)
    (hmk : ∀ v, mkv a ds v = mk v) (hok : regOk ops ds sps cl = true) (hst : AllSt sps) (hout : outs.Nodup) (hlt : ∀ A ∈ outs, A < w0.heap.size) {n : Nat} (hn : n = ops.size)
    (hsteps : AllBelow (StepOk P ops Q mk sps cl outs w0) n)
    (hdone : ∀ v w, Fr outs w0 w → Kp w0 w → (∀ (i : Nat) (o : Oper) (s : Sp), ops[i]? = some o → sps[i]? = some s → s.full outs w0 o.dst v w) →
      (∀ (i j : Nat) (o o' : Oper) (s s' : Sp) (T : TypeId) (n : Nat) (T' : TypeId) (n' : Nat), i ≠ j → ops[i]? = some o → ops[j]? = some o' → sps[i]? = some s → sps[j]? = some s' → s.kind = .new T n → s'.kind = .new T' n' → ∀ d d', o.dst = some d → o'.dst = some d' → v d ≠ v d') → Q .normal (mk v) w) :
    (Code.region id ops b).wp P Q a w0 := by
  have K := regOk_spec hok
  subst hn
  refine region_inv hm (fun l a' w => ((∀ i, l i → ∀ j ∈ cl[i]?.getD [], l j) ∧ ∀ k A, outs[k]? = some A → (∀ (j : Nat) (s' : Sp), sps[j]? = some s' → l j → ∀ T cs, s'.kind ≠ .out k T cs) → w.heap[A]? = w0.heap[A]?) ∧ ∃ v, a' = mk v ∧ Fr outs w0 w ∧ Kp w0 w ∧ (∀ (i : Nat) (o : Oper) (s : Sp), ops[i]? = some o → sps[i]? = some s → l i → s.full outs w0 o.dst v w) ∧
      (∀ (i j : Nat) (o o' : Oper) (s s' : Sp) (T : TypeId) (n : Nat) (T' : TypeId) (n' : Nat), i ≠ j → l i → l j → ops[i]? = some o → ops[j]? = some o' → sps[i]? = some s → sps[j]? = some s' → s.kind = .new T n → s'.kind = .new T' n' → ∀ d d', o.dst = some d → o'.dst = some d' → v d ≠ v d')) K.ord ?_ ?_ ?_ ?_
  · rintro l a' w hall ⟨_, v, rfl, hf, hkk, hF, hD⟩
    exact hdone v w hf hkk (fun i o s ho hs => hF i o s ho hs (hall i (Array.getElem?_eq_some_iff.1 ho).1)) (fun i j o o' s s' T n T' n' hij ho ho' hs hs' hk hk' d d' hd hd' => hD i j o o' s s' T n T' n' hij (hall i (Array.getElem?_eq_some_iff.1 ho).1) (hall j (Array.getElem?_eq_some_iff.1 ho').1) ho ho' hs hs' hk hk' d d' hd hd')
  · rintro i o ho l a' w hni hdep ⟨⟨hcl, hun⟩, v, rfl, hf, hkk, hF, hD⟩
    have hi := (Array.getElem?_eq_some_iff.1 ho).1
    have hsi : ∃ s, sps[i]? = some s := ⟨sps[i]'(by have := K.len; omega), List.getElem?_eq_getElem _⟩
    obtain ⟨s, hs⟩ := hsi
    have hcli : ∀ j ∈ cl[i]?.getD [], l j := by
      intro j hj
      obtain ⟨e, he, hb, hor⟩ := K.clo i o ho j hj
      rcases hor with rfl | hor
      · exact hdep e he hb
      · exact hcl _ (hdep e he hb) j hor
    refine wpOp_step ho fun K' hK => ?_
    refine hsteps.get i hi o s ho hs v w hf hkk (fun k A hA hfree => hun k A hA (fun j s' hs' hj T' cs' hk' => (outFree_spec hfree j s' hs' T' cs' hk').elim (fun e => hni (e ▸ hj)) (fun hm => hni (hcl j hj i hm)))) (fun j hj o' s' ho' hs' => hF j o' s' ho' hs' (hcli j hj)) K' ?_
    intro x w' hmove hfact
    apply hK
    have hput : (mk v).put o.dst x = mk (upd v o.dst x) := by
      rw [← hmk v, ← hmk, mkv_put a ds v o.dst x (fun k hk => K.dst i o ho k hk)]
    
    have hne : ∀ j o' s', ops[j]? = some o' → sps[j]? = some s' → l j → ∀ k, o.dst = some k → k ∉ s'.used o'.dst := by
      intro j o' s' ho' hs' hj k hk
      have hji : j ≠ i := fun e => hni (e ▸ hj)
      refine K.apart i o ho j o' s' ho' hs' hji ?_ k hk
      intro hm
      exact hni (hcl j hj i hm)
    
    have hbox : ∀ (j : Nat) (s' : Sp), sps[j]? = some s' → (∀ k ∈ cl[j]?.getD [], l k) → ∀ b T cs, s'.kind = .store b T cs → ∃ A, v b = .pointer (some ⟨A, 0, none⟩) ∧ w0.heap.size ≤ A := by
      intro j s' hs' hlj b T cs hk
      obtain ⟨j1, o1, s1, n1, hj1, ho1, hs1, hd1, hk1⟩ := K.box j s' hs' b T cs hk
      have h3 := (hF j1 o1 s1 ho1 hs1 (hlj j1 hj1)).2
      rw [hk1, hd1] at h3
      obtain ⟨A, e1, e2, _⟩ := h3
      exact ⟨A, e1, e2⟩
    have hfk : Fr outs w0 w' ∧ Kp w w' := by
      unfold Sp.move at hmove
      cases hk : s.kind with
      | pure =>
        rw [hk] at hmove
        exact ⟨hf.trans hmove (by simp), Fr.kp hmove⟩
      | new T n =>
        rw [hk] at hmove
        obtain ⟨_, cs, rfl, _, _⟩ := hmove
        exact ⟨hf.trans ((Fr.refl [] w).alloc _) (by simp), ((Fr.refl [] w).alloc _).kp⟩
      | store b T cs =>
        rw [hk] at hmove
        obtain ⟨A, hA, hfr, hbx, hnu, hsb⟩ := hmove
        refine ⟨hf.trans hfr ?_, hfr.kp1 hsb ⟨_, hbx, rfl, hnu⟩⟩
        intro z hz hlt'
        obtain ⟨A', e1, e2⟩ := hbox i s hs hcli b T cs hk
        rw [hA] at e1
        cases e1
        have := List.mem_singleton.1 hz
        omega
      | out k T cs =>
        rw [hk] at hmove
        obtain ⟨A, hA, hfr, hbx, hnu, hsb⟩ := hmove
        refine ⟨hf.trans hfr ?_, hfr.kp1 hsb ⟨_, hbx, rfl, hnu⟩⟩
        intro z hz _
        rw [List.mem_singleton.1 hz]
        exact List.mem_of_getElem? hA
    
    have hstand : ∀ A T cs, Bx w A T cs → (∀ A', (∃ b T' cs', s.kind = .store b T' cs' ∧ v b = .pointer (some ⟨A', 0, none⟩)) ∨ (∃ k T' cs', s.kind = .out k T' cs' ∧ outs[k]? = some A') → A ≠ A') → Bx w' A T cs := by
      intro A T cs hb hno
      unfold Sp.move at hmove
      cases hk : s.kind with
      | pure => rw [hk] at hmove; exact hb.kept hmove
      | new T' n' =>
        rw [hk] at hmove
        obtain ⟨_, cs', rfl, _, _⟩ := hmove
        exact hb.kept ((Fr.refl [] w).alloc _)
      | store b T' cs' =>
        rw [hk] at hmove
        obtain ⟨A', hA', hfr, _⟩ := hmove
        refine (hfr.block A hb.lt ?_).trans hb
        intro hm
        exact hno A' (Or.inl ⟨b, T', cs', hk, hA'⟩) (List.mem_singleton.1 hm)
      | out k T' cs' =>
        rw [hk] at hmove
        obtain ⟨A', hA', hfr, _⟩ := hmove
        refine (hfr.block A hb.lt ?_).trans hb
        intro hm
        exact hno A' (Or.inr ⟨k, T', cs', hk, hA'⟩) (List.mem_singleton.1 hm)
    have hold : ∀ j o' s', ops[j]? = some o' → sps[j]? = some s' → l j → s'.full outs w0 o'.dst (upd v o.dst x) w' := by
      intro j o' s' ho' hs' hj
      obtain ⟨f1, f2⟩ := hF j o' s' ho' hs' hj
      have hu := hne j o' s' ho' hs' hj
      have hji : j ≠ i := fun e => hni (e ▸ hj)
      have hmap : s'.slots.map (upd v o.dst x) = s'.slots.map v := map_upd (fun k hk hm => hu k hk (List.mem_append_left _ hm))
      refine ⟨?_, ?_⟩
      · rw [hmap]
        exact hst.get s' (List.mem_of_getElem? hs') _ w w' hfk.2 f1
      · rw [hmap]
        cases hk' : s'.kind with
        | pure => trivial
        | new T n =>
          rw [hk'] at f2
          cases hd' : o'.dst with
          | none => rw [hd'] at f2; exact f2
          | some k =>
            rw [hd'] at f2
            obtain ⟨A, e2, e3, e4⟩ := f2
            refine ⟨A, ?_, e3, ?_⟩
            · rw [upd_ne]
              · exact e2
              · intro e
                apply hu k e
                apply List.mem_append_right
                rw [hk', hd']
                simp
            · rcases hfk.2.block A e4.lt with ⟨T', n', g1, g2⟩ | g
              · obtain ⟨rfl, rfl⟩ := e4.same g1
                exact g2
              · exact e4.eq g
        | store b T cs =>
          rw [hk'] at f2
          obtain ⟨A, e1, e2⟩ := f2
          have ub : upd v o.dst x b = v b := upd_ne (fun e => hu b e (List.mem_append_right _ (by rw [hk']; simp)))
          refine ⟨A, by rw [ub]; exact e1, hstand A T _ e2 ?_⟩
          rintro A' (⟨b', T', cs', hk, hA'⟩ | ⟨k, T', cs', hk, hA'⟩) hAA
          · obtain ⟨j1, o1, s1, n1, hj1, ho1, hs1, hd1, hk1⟩ := K.box i s hs b' T' cs' hk
            obtain ⟨j2, o2, s2, n2, hj2, ho2, hs2, hd2, hk2⟩ := K.box j s' hs' b T cs hk'
            have hbb : b ≠ b' := K.once i s hs b' T' cs' hk j s' hs' hji b T cs hk'
            have hjj : j1 ≠ j2 := by
              intro e
              subst e
              rw [ho1] at ho2
              cases ho2
              rw [hd1] at hd2
              cases hd2
              exact hbb rfl
            refine hD j1 j2 o1 o2 s1 s2 T' n1 T n2 hjj (hcli j1 hj1) (hcl j hj j2 hj2) ho1 ho2 hs1 hs2 hk1 hk2 b' b hd1 hd2 ?_
            rw [hA', e1, hAA]
          · obtain ⟨A1, q1, q2⟩ := hbox j s' hs' (hcl j hj) b T cs hk'
            rw [e1] at q1
            cases q1
            have := hlt A' (List.mem_of_getElem? hA')
            omega
        | out k T cs =>
          rw [hk'] at f2
          obtain ⟨A, e1, e2⟩ := f2
          refine ⟨A, e1, hstand A T _ e2 ?_⟩
          rintro A' (⟨b', T', cs', hk, hA'⟩ | ⟨k', T', cs', hk, hA'⟩) hAA
          · obtain ⟨A1, q1, q2⟩ := hbox i s hs hcli b' T' cs' hk
            rw [hA'] at q1
            cases q1
            have := hlt A (List.mem_of_getElem? e1)
            omega
          · have hkk' : k ≠ k' := K.onceOut i s hs k' T' cs' hk j s' hs' hji k T cs hk'
            subst hAA
            exact hkk' ((List.getElem?_inj (by
              have := (List.getElem?_eq_some_iff.1 e1).1
              exact this) hout).1 (e1.trans hA'.symm))
    refine ⟨⟨?_, ?_⟩, upd v o.dst x, hput, hfk.1, hkk.trans hfk.2, ?_, ?_⟩
    · rintro k (hk | hk) j hj
      · exact Or.inl (hcl k hk j hj)
      · exact Or.inl (hcli j (hk ▸ hj))
    · intro k A hA hno
      have hA0 := hlt A (List.mem_of_getElem? hA)
      have hA1 := Nat.lt_of_lt_of_le hA0 hf.size
      rw [← hun k A hA (fun j s' hs' hj => hno j s' hs' (Or.inl hj))]
      have hk0 := hno i s hs (Or.inr rfl)
      unfold Sp.move at hmove
      cases hk : s.kind with
      | pure => rw [hk] at hmove; exact hmove.block A hA1 (by simp)
      | new T' n' =>
        rw [hk] at hmove
        obtain ⟨_, cs', rfl, _, _⟩ := hmove
        exact ((Fr.refl [] w).alloc _).block A hA1 (by simp)
      | store b T' cs' =>
        rw [hk] at hmove
        obtain ⟨A', hA', hfr, _⟩ := hmove
        obtain ⟨A2, e1, e2⟩ := hbox i s hs hcli b T' cs' hk
        rw [hA'] at e1
        cases e1
        exact hfr.block A hA1 (fun hm => by have := List.mem_singleton.1 hm; omega)
      | out k' T' cs' =>
        rw [hk] at hmove
        obtain ⟨A', hA', hfr, _⟩ := hmove
        refine hfr.block A hA1 (fun hm => ?_)
        have e := List.mem_singleton.1 hm
        subst e
        have : k = k' := (List.getElem?_inj ((List.getElem?_eq_some_iff.1 hA).1) hout).1 (hA.trans hA'.symm)
        subst this
        exact hk0 T' cs' hk
    · rintro j o' s' ho' hs' (hj | hj)
      · exact hold j o' s' ho' hs' hj
      · rw [hj, ho] at ho'
        cases ho'
        rw [hj, hs] at hs'
        cases hs'
        refine ⟨hfact, ?_⟩
        unfold Sp.move at hmove
        cases hk : s.kind with
        | pure => trivial
        | new T n =>
          rw [hk] at hmove
          obtain ⟨rfl, cs, rfl, hcs, hnu⟩ := hmove
          obtain ⟨d, hd⟩ := (K.own i o s ho hs).1 T n hk
          rw [hd]
          exact ⟨w.heap.size, by simp [upd], hf.size, cs, Bx.made _ _ _, hcs, hnu⟩
        | store b T cs =>
          rw [hk] at hmove
          obtain ⟨A, hA, hfr, hbx, hnu, hsb⟩ := hmove
          obtain ⟨n1, n2⟩ := (K.own i o s ho hs).2.1 b T cs hk
          refine ⟨A, by rw [upd_ne n1]; exact hA, ?_⟩
          rw [map_upd n2]
          exact hbx
        | out k T cs =>
          rw [hk] at hmove
          obtain ⟨A, hA, hfr, hbx, hnu, hsb⟩ := hmove
          have n2 := (K.own i o s ho hs).2.2 k T cs hk
          refine ⟨A, hA, ?_⟩
          rw [map_upd n2]
          exact hbx
    · have hnew : ∀ T n, s.kind = .new T n → ∀ d, o.dst = some d → ∀ j o' s' T' n', l j → ops[j]? = some o' → sps[j]? = some s' → s'.kind = .new T' n' → ∀ d', o'.dst = some d' → upd v o.dst x d ≠ upd v o.dst x d' := by
        intro T n hk d hd j o' s' T' n' hj ho' hs' hk' d' hd'
        unfold Sp.move at hmove
        rw [hk] at hmove
        obtain ⟨rfl, cs, rfl, _, _⟩ := hmove
        have h3 := (hF j o' s' ho' hs' hj).2
        rw [hk', hd'] at h3
        obtain ⟨A, e2, _, e4⟩ := h3
        have hu : upd v o.dst (.pointer (some ⟨w.heap.size, 0, none⟩)) d' = v d' := upd_ne (fun e => hne j o' s' ho' hs' hj d' e (List.mem_append_right _ (by rw [hk', hd']; simp)))
        rw [hu, e2, hd]
        have := e4.lt
        simp only [upd, if_pos]
        intro e
        injection e with e
        injection e with e
        injection e with e
        omega
      rintro i1 j1 o1 o1' s1 s1' T n T' n' hij (h1 | h1) (h2 | h2) ho1 ho1' hs1 hs1' hk1 hk1' d d' hd hd'
      · rw [upd_ne (fun e => hne i1 o1 s1 ho1 hs1 h1 d e (List.mem_append_right _ (by rw [hk1, hd]; simp))), upd_ne (fun e => hne j1 o1' s1' ho1' hs1' h2 d' e (List.mem_append_right _ (by rw [hk1', hd']; simp)))]
        exact hD i1 j1 o1 o1' s1 s1' T n T' n' hij h1 h2 ho1 ho1' hs1 hs1' hk1 hk1' d d' hd hd'
      · rw [h2, ho] at ho1'; cases ho1'
        rw [h2, hs] at hs1'; cases hs1'
        exact (hnew T' n' hk1' d' hd' i1 o1 s1 T n h1 ho1 hs1 hk1 d hd).symm
      · rw [h1, ho] at ho1; cases ho1
        rw [h1, hs] at hs1; cases hs1
        exact hnew T n hk1 d hd j1 o1' s1' T' n' h2 ho1' hs1' hk1' d' hd'
      · exact absurd (h1.trans h2.symm) hij
  · exact ⟨⟨fun i h => h.elim, fun k A _ _ => rfl⟩, _, (hmk _ ▸ (mkv_self a ds).symm), Fr.refl outs w0, Kp.refl w0, fun i o s ho hs h => h.elim, fun i j o o' s s' T n T' n' _ h => h.elim⟩
  · exact ⟨⟨fun i h => h.elim, fun k A _ _ => rfl⟩, _, (hmk _ ▸ (mkv_self a ds).symm), (Fr.refl outs w0).drew, (Fr.refl [] w0).drew.kp, fun i o s ho hs h => h.elim, fun i j o o' s s' T n T' n' _ h => h.elim⟩

end Go.Proofs.YtagciepnhjbopaaGreatDoor

namespace Go.Proofs.YtagciepnhjbopaaGreatDoor
open Go.RowKit

theorem SBx.kp {w w' : World} {A : Nat} {T : TypeId} {n : Nat} (h : SBx w A T n) (k : Kp w w') : SBx w' A T n := by
  rcases k.block A h.lt with ⟨T', n', g1, g2⟩ | g
  · obtain ⟨rfl, rfl⟩ := h.same g1
    exact g2
  · exact h.eq g

theorem cmp_mk {a b : Int} {c d : Nat} {r s : Rat} (hr : mkRat a c = r) (hs : mkRat b d = s) (hc : c ≠ 0) (hd : d ≠ 0) : cmpZ (a * (d : Int)) (b * (c : Int)) = cmpQ r s := by
  subst hr hs
  unfold cmpZ cmpQ
  simp only [mk_lt hc hd, mk_lt hd hc]

end Go.Proofs.YtagciepnhjbopaaGreatDoor

namespace Go.Proofs.YtagciepnhjbopaaGreatDoor
open Go.RowKit

theorem rmul_v {w : World} {L M : Nat} {a b c0 : Int} {u u' : Value} (hc : a * b = c0) (h : VI w L a u) (h' : VI w M b u') (_hL : L ≤ 524287) (_hM : M ≤ 524287) : Calls Tryz.prog 103 #[u, u'] w (RV (fun w' => VZ w' c0) w) := by
  subst hc
  obtain ⟨g, p, n, c, X, rfl, s, rfl, l⟩ := h
  obtain ⟨g', p', n', c', X', rfl, s', rfl, l'⟩ := h'
  exact (rmul_i g g' p p' n c n' c' X X' w s s' (by omega) (by omega)).mono fun _ _ h => rv_i h

theorem radd_v {w : World} {L M : Nat} {a b c0 : Int} {u u' : Value} (hc : a + b = c0) (h : VI w L a u) (h' : VI w M b u') (_hL : L ≤ 524287) (_hM : M ≤ 524287) : Calls Tryz.prog 118 #[u, u'] w (RV (fun w' => VZ w' c0) w) := by
  subst hc
  obtain ⟨g, p, n, c, X, rfl, s, rfl, l⟩ := h
  obtain ⟨g', p', n', c', X', rfl, s', rfl, l'⟩ := h'
  exact (radd_i g g' p p' n c n' c' X X' w s s' (by omega) (by omega)).mono fun _ _ h => rv_i h

theorem rcmp_v {w : World} {L M : Nat} {a b c0 : Int} {u u' : Value} (hc : cmpZ a b = c0) (h : VI w L a u) (h' : VI w M b u') (_hL : L ≤ 524287) (_hM : M ≤ 524287) : Calls Tryz.prog 111 #[u, u'] w (RN c0 w) := by
  subst hc
  obtain ⟨g, p, n, c, X, rfl, s, rfl, l⟩ := h
  obtain ⟨g', p', n', c', X', rfl, s', rfl, l'⟩ := h'
  exact rcmp_i g g' p p' n c n' c' X X' w s s' (by omega) (by omega)

theorem rgcd_v {w : World} {L M : Nat} {a b : Int} {u u' : Value} (h : VI w L a u) (h' : VI w M b u') (_hL : L ≤ 524287) (_hM : M ≤ 524287) : Calls Tryz.prog 151 #[u, u'] w (RV (fun w' => VZ w' ((Nat.gcd a.natAbs b.natAbs : Nat) : Int)) w) := by
  obtain ⟨g, p, n, c, X, rfl, s, rfl, l⟩ := h
  obtain ⟨g', p', n', c', X', rfl, s', rfl, l'⟩ := h'
  rw [iv_abs, iv_abs]
  exact (rigcd_any g g' p p' n c n' c' X X' w s s' (by omega) (by omega)).mono fun _ _ h => rv_i h

theorem rneg_v {w : World} {L : Nat} {a c0 : Int} {u : Value} (hc : -a = c0) (h : VI w L a u) (_hL : L ≤ 524287) : Calls Tryz.prog 114 #[u] w (RV (fun w' => VZ w' c0) w) := by
  subst hc
  obtain ⟨g, p, n, c, X, rfl, s, rfl, l⟩ := h
  exact (rneg_any g p n c X w s (by omega)).mono fun _ _ h => rv_i h

theorem rabs_v {w : World} {L : Nat} {a : Int} {u : Value} (h : VI w L a u) (_hL : L ≤ 524287) : Calls Tryz.prog 116 #[u] w (RV (fun w' => VZ w' ((a.natAbs : Nat) : Int)) w) := by
  obtain ⟨g, p, n, c, X, rfl, s, rfl, l⟩ := h
  rw [iv_abs]
  exact (rabs_any g p n c X w s (by omega)).mono fun _ _ h => rv_i h

theorem rsign_v {w : World} {L : Nat} {a : Int} {u : Value} (h : VI w L a u) (_hL : L ≤ 524287) : Calls Tryz.prog 101 #[u] w (RN a.sign w) := by
  obtain ⟨g, p, n, c, X, rfl, s, rfl, l⟩ := h
  exact rsign_any g p n c X w s (by omega)

theorem riof_v (x : Int) (w : World) (h : -9223372036854775808 ≤ x) (h2 : x ≤ 9223372036854775807) : Calls Tryz.prog 60 #[.int .i64 x] w (RV (fun w' => VZ w' x) w) := (rof_any x w h h2).mono fun _ _ h => rv_i h

theorem ridiv_v {w : World} {L M : Nat} {a b q : Int} {u u' : Value} (hq : a / b = q) (h : VI w L a u) (h' : VI w M b u') (_hL : L ≤ 524287) (_hM : M ≤ 524287) (hb : b ≠ 0) : Calls Tryz.prog 133 #[u, u'] w fun e w' => ∃ x y, e = .returned (.tuple #[x, y, .int .i64 0]) ∧ VZ w' q x ∧ VZ w' (a % b) y ∧ Fr [] w w' := by
  subst hq
  obtain ⟨g, p, n, c, X, rfl, s, rfl, l⟩ := h
  obtain ⟨g', p', n', c', X', rfl, s', rfl, l'⟩ := h'
  have h0 : val X' ≠ 0 := by
    intro e
    rw [e] at hb
    cases g' <;> exact hb rfl
  refine (calls_rd (rdiv_any g g' p p' n c n' c' X X' w s s' (by omega) (by omega) h0) rfl rfl rfl rfl).mono ?_
  rintro e w' ⟨p1, c1, p2, c2, rfl, o1, o2, f⟩
  exact ⟨_, _, rfl, ⟨p1, c1, rfl, o1.sl⟩, ⟨p2, c2, rfl, o2.sl⟩, f⟩

theorem rtrim_v {w : World} {p : Option Addr} {n c : Nat} {xs : List Nat} (s : Sl w p n c xs) (_hn : n ≤ 1048576) : Calls Tryz.prog 150 #[.slice p n c] w (RV (fun w' => VD w' (val xs)) w) := by
  refine (rcut_any p n c xs w s (by omega)).mono ?_
  rintro e w' ⟨q, d, rfl, o, f⟩
  exact ⟨_, rfl, ⟨q, d, rfl, o.sl⟩, f⟩

def VP (w : World) (L : Nat) (z : Int) (d : Nat) (v : Value) : Prop := ∃ (g : Bool) (p : Option Addr) (n c : Nat) (X : List Nat) (q : Option Addr) (m k : Nat) (Y : List Nat), v = rw' g p n c q m k ∧ Sl w p n c X ∧ Sl w q m k Y ∧ rz g (val X) (val Y) = z ∧ rd (val Y) = d ∧ n ≤ L ∧ m ≤ L

theorem VP.kp {w w' : World} {L : Nat} {z : Int} {d : Nat} {v : Value} (h : VP w L z d v) (k : Kp w w') : VP w' L z d v := by
  obtain ⟨g, p, n, c, X, q, m, j, Y, e, s, t, r⟩ := h; exact ⟨g, p, n, c, X, q, m, j, Y, e, s.kp k, t.kp k, r⟩

theorem VP.kept {w w' : World} {L : Nat} {z : Int} {d : Nat} {v : Value} (h : VP w L z d v) (f : Fr [] w w') : VP w' L z d v := h.kp f.kp

theorem VR.parts {w : World} {L : Nat} {r : Rat} {v : Value} (h : VR w L r v) : ∃ z d, d ≠ 0 ∧ mkRat z d = r ∧ nz z ≤ L ∧ nz (d : Int) ≤ L + 1 ∧ VP w L z d v := by
  obtain ⟨g, p, n, c, X, q, m, j, Y, e, s, t, rfl, l, l'⟩ := h
  have h1 := dg_len_val s.dig
  have h2 := dg_len_val t.dig
  rw [s.len] at h1
  rw [t.len] at h2
  refine ⟨rz g (val X) (val Y), rd (val Y), rd_ne _, mk_read _ _ _, ?_, ?_, g, p, n, c, X, q, m, j, Y, e, s, t, rfl, rfl, l, l'⟩
  · unfold rz nz
    split
    · rw [Int.natAbs_zero, dg_zero]; exact Nat.zero_le _
    · rw [iv_abs]; omega
  · rw [nz_nat]
    unfold rd
    split
    · rw [dg_one]; exact Nat.succ_le_succ (Nat.zero_le _)
    · omega

end Go.Proofs.YtagciepnhjbopaaGreatDoor
