/- What the statements of this claim stand on: of En2, what they name -/
import Derived.Deep.MidRow
import Derived.Test.YtagciepnhjbopaaGreatDoorT01

namespace Go.Proofs.YtagciepnhjbopaaGreatDoor.En
open Go Go.RowKit

structure Hint (K : Type) where
  n : Nat
  fam : Nat → List (Key × Ct K)

structure Tb (K : Type) where
  call : FuncId → List (AV K) → List (Option Bool) → Option (List Prop × AV K × List (Option Bool))
  split : K → Option (List (Seg K))
  len : K → Option Nat
  row : TypeId → List Value → Option (List Prop × K)
  app : TypeId → K → K → Option (List Prop × K)
  elt : K → Nat → Nat → TypeId → Option (List Prop × List (Seg K))
  hint : Nat → Option (Hint K)
  lend : FuncId → List (AV K) → TypeId → List (Seg K) → List (Option Bool) → Option (List Prop × AV K × List (Seg K) × List (Option Bool))

section

variable {K : Type} (D : K → KdE) (sp : K → Option (List (Seg K)))

def cut : Nat → Nat → List (Seg K) → Option (List (Seg K) × List (Seg K))
  | 0, _, _ => none
  | _ + 1, 0, ss => some ([], ss)
  | _ + 1, _ + 1, [] => none
  | f + 1, n + 1, s :: ss => if s.n D ≤ n + 1 then (cut f (n + 1 - s.n D) ss).map fun p => (s :: p.1, p.2) else match s with
    | .sem k => match sp k with
      | some ss' => cut f (n + 1) (ss' ++ ss)
      | none => none
    | .lit _ => none

def wid : List (Seg K) → Nat
  | [] => 0
  | s :: ss => s.n D + wid ss

variable {D sp}

theorem segs_append {w : World} : ∀ {a b : List (Seg K)} {x y : List Value}, segs D w a x → segs D w b y → segs D w (a ++ b) (x ++ y)
  | [], _, _, _, h, h' => by rw [show _ = [] from h]; exact h'
  | _ :: _, _, _, _, ⟨p, q, e, h1, h2⟩, h' => ⟨p, q ++ _, by rw [e, List.append_assoc], h1, segs_append h2 h'⟩

theorem segs_split {w : World} : ∀ {a b : List (Seg K)} {z : List Value}, segs D w (a ++ b) z → ∃ x y, z = x ++ y ∧ segs D w a x ∧ segs D w b y
  | [], _, z, h => ⟨[], z, rfl, rfl, h⟩
  | _ :: _, _, _, ⟨p, q, e, h1, h2⟩ => by
    obtain ⟨x, y, e', h3, h4⟩ := segs_split h2
    exact ⟨p ++ x, y, by rw [e, e', List.append_assoc], ⟨p, x, rfl, h1, h3⟩, h4⟩

theorem Seg.len {w : World} {s : Seg K} {vs : List Value} (h : s.holds D w vs) : vs.length = s.n D := by
  cases s with
  | lit v => rw [show vs = [v] from h]; rfl
  | sem k => exact ((D k).ok _ _ h).1

theorem segs_len {w : World} : ∀ {ss : List (Seg K)} {vs : List Value}, segs D w ss vs → vs.length = wid D ss
  | [], _, h => by rw [show _ = [] from h]; rfl
  | _ :: _, _, ⟨a, b, e, h1, h2⟩ => by rw [e, List.length_append, Seg.len h1, segs_len h2]; rfl

def SplitOk (D : K → KdE) (sp : K → Option (List (Seg K))) : Prop := ∀ k ss, sp k = some ss → ∀ w vs, (D k).φ w vs → segs D w ss vs

theorem cut_ok {w : World} (hs : SplitOk D sp) : ∀ {f n : Nat} {ss a b : List (Seg K)} {cs : List Value}, cut D sp f n ss = some (a, b) → segs D w ss cs → ∃ x y, cs = x ++ y ∧ x.length = n ∧ segs D w a x ∧ segs D w b y
  | 0, _, _, _, _, _, h, _ => by cases h
  | _ + 1, 0, ss, a, b, cs, h, h' => by
    simp only [cut, Option.some.injEq, Prod.mk.injEq] at h
    obtain ⟨rfl, rfl⟩ := h
    exact ⟨[], cs, rfl, rfl, rfl, h'⟩
  | _ + 1, _ + 1, [], _, _, _, h, _ => by cases h
  | f + 1, n + 1, s :: ss, a, b, cs, h, h' => by
    unfold cut at h
    split at h
    · rename_i hle
      simp only [Option.map_eq_some_iff, Prod.mk.injEq, Prod.exists] at h
      obtain ⟨a', b', h1, rfl, rfl⟩ := h
      obtain ⟨p, q, rfl, h2, h3⟩ := h'
      obtain ⟨x, y, rfl, h4, h5, h6⟩ := cut_ok hs h1 h3
      have := Seg.len h2
      exact ⟨p ++ x, y, by rw [List.append_assoc], by rw [List.length_append]; omega, ⟨p, x, rfl, h2, h5⟩, h6⟩
    · cases s with
      | lit v => cases h
      | sem k =>
        simp only at h
        split at h
        · rename_i ss' hk
          obtain ⟨p, q, rfl, h2, h3⟩ := h'
          exact cut_ok hs h (segs_append (hs _ _ hk _ _ h2) h3)
        · cases h

def St.sl (σ : St K) (d : Nat) : AV K := match σ (.slot d) with
  | .av x => x
  | _ => .any

def St.ob (σ : St K) (i : Nat) : Option (OB K) := match σ (.obj i) with
  | .ob o => some o
  | _ => none

def ofV : Value → AV K
  | .agg cs => .val true (cs.toList.map .lit)
  | .tuple _ => .any
  | v => .val false [.lit v]

def St.ev (σ : St K) : Operand → AV K
  | .tmp t => σ.sl t
  | .const v => ofV v
  | .global g => .val false [.lit (.pointer (some ⟨g, 0, none⟩))]
  | .func f => .val false [.lit (.func (.func f) #[] #[])]

def rdO : Operand → List Key
  | .tmp t => [.slot t]
  | _ => []

theorem segs_lits (w : World) : ∀ (cs : List Value), segs D w (cs.map .lit) cs
  | [] => rfl
  | c :: cs => ⟨[c], cs, rfl, rfl, segs_lits w cs⟩

theorem vl_lit (w : World) (v : Value) : vl D w (false, [.lit v]) v := ⟨[v], segs_lits w [v], rfl, fun _ => rfl⟩

theorem ofV_ok (β : Nat → Option Nat) (w : World) (v : Value) : (ofV v : AV K).holds D β w v := by
  cases v with
  | agg cs => exact ⟨cs.toList, segs_lits w _, by simp [mkV], fun h => by cases h⟩
  | tuple _ => unfold ofV AV.holds; trivial
  | _ => exact vl_lit w _

variable {V : Env} {P : Program} {ops : Array Oper}

theorem ev_ok {σ : St K} {β : Nat → Option Nat} {a : Act} {w : World} {x : Operand} (h : ∀ k ∈ rdO x, At D V β a w k (σ k)) : (σ.ev x).holds D β (V.see β w) (a.eval x) := by
  cases x with
  | tmp t =>
    have h1 := h (.slot t) (List.mem_singleton_self _)
    show AV.holds D β _ (σ.sl t) (a.tmps.getD t undef)
    unfold St.sl
    cases e : σ (.slot t) with
    | av y => rw [e] at h1; exact h1
    | no => unfold AV.holds; trivial
    | ob o => unfold AV.holds; trivial
  | const v => exact ofV_ok β _ v
  | global g => exact vl_lit _ _
  | func f => exact vl_lit _ _

theorem ob_ok {σ : St K} {β : Nat → Option Nat} {a : Act} {w : World} {i : Nat} {o : OB K} (h : At D V β a w (.obj i) (σ (.obj i))) (ho : σ.ob i = some o) : ∃ A cs, β i = some A ∧ w.heap[A]? = some (.cells (List.toArray cs) o.T (0, 0)) ∧ segs D (V.see β w) o.ss cs := by
  unfold St.ob at ho
  split at ho
  · rename_i o' e
    injection ho with ho
    subst ho
    rw [e] at h
    exact h
  · cases ho

def OpGo (D : K → KdE) (V : Env) (P : Program) (o : Oper) (id : Nat) (σ : St K) (e : Eff K) : Prop :=
  ∀ (β : Nat → Option Nat) (a : Act) (w : World), Inv V β a w → (∀ k ∈ e.rd, At D V β a w k (σ k)) → β id = none → ∀ (Q : Exit → Act → World → Prop) (K' : Act → World → Prop),
    Nxt D V β a w id e.wr K' → Oper.wp P o a w K' Q

theorem wp_val {o : Oper} {a : Act} {w w' : World} {v : Value} {K' : Act → World → Prop} {Q : Exit → Act → World → Prop} (h : (execOp a.eval o).run P w = .ok (.value v) w') (hk : K' (a.put o.dst v) w') : Oper.wp P o a w K' Q := by
  unfold Oper.wp
  rw [h]
  exact hk

theorem wp_skp {o : Oper} {a : Act} {w w' : World} {K' : Act → World → Prop} {Q : Exit → Act → World → Prop} (h : (execOp a.eval o).run P w = .ok .skip w') (hk : K' (a.put o.dst undef) w') : Oper.wp P o a w K' Q := by
  unfold Oper.wp
  rw [h]
  exact hk

def tySize (P : Program) (T : TypeId) : Option Nat := (P.info? T).map (·.size)

def tyRow (P : Program) (T : TypeId) : Option Bool := (P.underlying T).map (·.isRow)

def ldAt (D : K → KdE) (sp : K → Option (List (Seg K))) (P : Program) (σ : St K) (T : TypeId) (i off : Nat) : Option (Bool × List (Seg K)) :=
  match σ.ob i, tyRow P T, tySize P T with
  | some ob, some g, some n => match cut D sp 64 off ob.ss with
    | some (_, rest) => match cut D sp 64 (if g then n else 1) rest with
      | some (mid, _) => some (g, mid)
      | none => none
    | none => none
  | _, _, _ => none

theorem memL {α : Type} {x : α} {a b : List α} (h : x ∈ a) : x ∈ a ++ b := List.mem_append.2 (Or.inl h)

theorem memR {α : Type} {x : α} {a b : List α} (h : x ∈ b) : x ∈ a ++ b := List.mem_append.2 (Or.inr h)

theorem cell_at {w : World} {A : Nat} {cs : List Value} {T : TypeId} (h : w.heap[A]? = some (.cells cs.toArray T (0, 0))) (j : Nat) : w.cell? ⟨A, j, none⟩ = cs[j]? := by
  simp [World.cell?, h]

theorem ldAt_ok (hsp : SplitOk D sp) {σ : St K} {β : Nat → Option Nat} {a : Act} {w : World} {T : TypeId} {i off A : Nat} {p : Bool × List (Seg K)} (hA : β i = some A) (ho : At D V β a w (.obj i) (σ (.obj i))) (h : ldAt D sp P σ T i off = some p) : ∃ v, (loadVar T ⟨A, off, none⟩).run P w = .ok v w ∧ vl D (V.see β w) p v := by
  unfold ldAt at h
  split at h
  case h_2 => cases h
  rename_i ob g n hob hg hs
  split at h
  case h_2 => cases h
  rename_i pre rest hc1
  split at h
  case h_2 => cases h
  rename_i mid post hc2
  injection h with h
  subst h
  obtain ⟨A', cs, hA', hh, hsg⟩ := ob_ok ho hob
  rw [hA] at hA'
  injection hA' with hA'
  subst hA'
  obtain ⟨u, v, rfl, hu, h1, h2⟩ := cut_ok hsp hc1 hsg
  obtain ⟨y, z, rfl, hy, h3, h4⟩ := cut_ok hsp hc2 h2
  have hrange : w.rangeAt A off y := by
    intro j q hq
    rw [cell_at hh, ← hu, List.getElem?_append_right (by omega), Nat.add_sub_cancel_left, List.getElem?_append_left (List.getElem?_eq_some_iff.1 hq).1]
    exact hq
  unfold tyRow at hg
  cases hud : P.underlying T with
  | none => rw [hud] at hg; cases hg
  | some d =>
    rw [hud] at hg
    injection hg with hg
    refine ⟨mkV g y, ?_, y, h3, rfl, fun hgf => ?_⟩
    · cases g with
      | true => exact run_loadVar_mid (P := P) w A off T y d hrange hud hg (by rw [hy]; exact hs)
      | false =>
        have hy1 : y.length = 1 := by rw [hy]; rfl
        obtain ⟨q, rfl⟩ : ∃ q, y = [q] := by
          match y, hy1 with
          | [q], _ => exact ⟨q, rfl⟩
        have hagg : (isAgg T).run P w = .ok false w := by
          unfold isAgg
          rw [Sem.run_bind, run_underlying hud w]
          cases d <;> simp_all
        have hc := hrange 0 q rfl
        rw [Nat.add_zero] at hc
        simp only [Sem.run_bind, Result.andThen_ok, loadVar, hagg, load, Sem.run, Bool.false_eq_true, if_false, hc]
        rfl
    · have hg0 : g = false := hgf
      subst hg0
      rw [hy]
      rfl

def aLoad (D : K → KdE) (sp : K → Option (List (Seg K))) (P : Program) (σ : St K) (dst : Option Nat) (T : TypeId) (x : Operand) : Option (Eff K) :=
  match σ.ev x with
  | .ptr i off => match ldAt D sp P σ T i off with
    | some p => some ⟨rdO x ++ [.obj i], wrd dst (.val p.1 p.2)⟩
    | none => none
  | _ => none

theorem aLoad_ok (hsp : SplitOk D sp) {σ : St K} {o : Oper} {id : Nat} {T : TypeId} {x : Operand} {e : Eff K} (ho : o.op = .load T x) (hd : dstOk V.N o.dst = true) (h : aLoad D sp P σ o.dst T x = some e) : OpGo D V P o id σ e := by
  intro β a w hI hrd hid Q K' hn
  unfold aLoad at h
  split at h
  case h_2 => cases h
  rename_i i off hx
  split at h
  case h_2 => cases h
  rename_i p hp
  injection h with h
  subst h
  have hq := ev_ok (x := x) fun k hk => hrd k (memL hk)
  rw [hx] at hq
  obtain ⟨A, hA, hxv⟩ := hq
  obtain ⟨v, hv, hvl⟩ := ldAt_ok hsp hA (hrd (.obj i) (memR (List.mem_singleton_self _))) hp
  refine wp_val (v := v) (w' := w) ?_ (nxt_same (x := .val p.1 p.2) hI hd hvl hn)
  unfold execOp
  simp only [ho, hxv, Instr.loadAt, Instr.sureAddr, Sem.run_bind, Sem.run_pure, Result.andThen_ok, hv]

end

section

variable {K : Type} {D : K → KdE} {sp : K → Option (List (Seg K))} {V : Env} {P : Program} {ops : Array Oper}

theorem cellOk_one {v : Value} (h : cellOk v = true) : v.oneCell' = true := by
  cases v <;> first | rfl | (simp [cellOk] at h)

theorem cellOk_cells {v : Value} (h : cellOk v = true) : v.cells = #[v] := by
  cases v <;> first | rfl | (simp [cellOk] at h)

theorem mkV_cells {g : Bool} {cs : List Value} (h : g = false → cs.length = 1) (hp : ∀ v ∈ cs, cellOk v = true) : (mkV g cs).cells = cs.toArray := by
  cases g with
  | true => rfl
  | false =>
    match cs, h rfl with
    | [c], _ => exact cellOk_cells (hp c (List.mem_singleton_self _))

theorem setCells_heap (A : Nat) (T : TypeId) (post : List Value) : ∀ (vs mid pre : List Value) (w : World), mid.length = vs.length → w.heap[A]? = some (.cells (pre ++ mid ++ post).toArray T (0, 0)) → (w.setCells A pre.length vs).heap[A]? = some (.cells (pre ++ vs ++ post).toArray T (0, 0))
  | [], [], _, _, _, h => h
  | v :: vs, m :: mid, pre, w, hl, h => by
    rw [World.setCells]
    have h1 : (w.setCell ⟨A, pre.length, none⟩ v).heap[A]? = some (.cells ((pre ++ [v]) ++ mid ++ post).toArray T (0, 0)) := by
      simp [World.setCell, Array.getElem?_modify, h]
    have := setCells_heap A T post vs mid (pre ++ [v]) _ (by simpa using hl) h1
    simpa using this
  | [], _ :: _, _, _, hl, _ => by cases hl
  | _ :: _, [], _, _, hl, _ => by cases hl

theorem setCells_else (A : Nat) : ∀ (vs : List Value) (o : Nat) (w : World), (w.setCells A o vs).os = w.os ∧ (w.setCells A o vs).tape = w.tape ∧ (w.setCells A o vs).output = w.output ∧ (w.setCells A o vs).heap.size = w.heap.size ∧ ∀ b, b ≠ A → (w.setCells A o vs).heap[b]? = w.heap[b]?
  | [], _, _ => ⟨rfl, rfl, rfl, rfl, fun _ _ => rfl⟩
  | v :: vs, o, w => by
    rw [World.setCells]
    obtain ⟨h1, h2, h3, h4, h5⟩ := setCells_else A vs (o + 1) (w.setCell ⟨A, o, none⟩ v)
    refine ⟨h1, h2, h3, by rw [h4]; simp [World.setCell], fun b hb => ?_⟩
    rw [h5 b hb]
    simp [World.setCell, Array.getElem?_modify, Ne.symm hb]

def aStore (D : K → KdE) (sp : K → Option (List (Seg K))) (P : Program) (σ : St K) (dst : Option Nat) (T : TypeId) (x v : Operand) : Option (Eff K) :=
  match σ.ev x, σ.ev v with
  | .ptr i off, .val _ ss => match σ.ob i, tySize P T with
    | some ob, some n => match cut D sp 64 off ob.ss with
      | some (pre, rest) => match cut D sp 64 n rest with
        | some (_, post) => if (wid D ss == n && (pre ++ ss ++ post).all plainSeg && ss.all plainSeg) = true then some ⟨rdO x ++ rdO v ++ [.obj i], wrd dst .any ++ [(.obj i, .ob ⟨ob.T, pre ++ ss ++ post⟩)]⟩ else none
        | none => none
      | none => none
    | _, _ => none
  | _, _ => none

theorem aStore_ok (hsp : SplitOk D sp) {σ : St K} {o : Oper} {id : Nat} {T : TypeId} {x u : Operand} {e : Eff K} (ho : o.op = .store T x u) (hd : dstOk V.N o.dst = true) (h : aStore D sp P σ o.dst T x u = some e) : OpGo D V P o id σ e := by
  intro β a w hI hrd hid Q K' hn
  unfold aStore at h
  split at h
  case h_2 => cases h
  rename_i i off g ss hx hu
  split at h
  case h_2 => cases h
  rename_i ob n hob hs
  split at h
  case h_2 => cases h
  rename_i pre rest hc1
  split at h
  case h_2 => cases h
  rename_i mid post hc2
  split at h
  case isFalse => cases h
  rename_i hc
  injection h with h
  subst h
  simp only [Bool.and_eq_true, beq_iff_eq] at hc
  obtain ⟨⟨hw, hp1⟩, hp2⟩ := hc
  have hp := ev_ok (x := x) fun k hk => hrd k (memL (memL hk))
  rw [hx] at hp
  obtain ⟨A, hA, hxv⟩ := hp
  have hq := ev_ok (x := u) fun k hk => hrd k (memL (memR hk))
  rw [hu] at hq
  obtain ⟨us, hus, huv, hone⟩ := hq
  obtain ⟨A', cs, hA', hh, hsg⟩ := ob_ok (hrd (.obj i) (memR (List.mem_singleton_self _))) hob
  rw [hA] at hA'
  injection hA' with hA'
  subst hA'
  obtain ⟨p, v, rfl, hpl, h1, h2⟩ := cut_ok hsp hc1 hsg
  obtain ⟨y, z, rfl, hy, h3, h4⟩ := cut_ok hsp hc2 h2
  have hlen := segs_len hus
  have hplain := segs_plain hp2 hus
  have hcells := mkV_cells hone hplain
  have hl : us.length = n := by rw [hlen]; exact hw
  have hst : (Instr.storeAt T (.pointer (some ⟨A, off, none⟩)) (mkV g us)).run P w = .ok () (w.setCells A off us) := by
    have h0 := run_storeCells_cells (P := P) A off us 0 w (fun j hj => by
        rw [cell_at hh, List.getElem?_append_right (by omega), List.getElem?_append_left (by omega)]
        simp
        omega) (fun j hj => by simp [World.frozen?, hh]) (fun q hq => cellOk_one (hplain q hq))
    simp only [Nat.add_zero] at h0
    cases hi : P.info? T with
    | none => simp [tySize, hi] at hs
    | some ti =>
      have hsz : us.length = ti.size := by simp [tySize, hi] at hs; omega
      simp only [Instr.storeAt, Instr.sureAddr, Sem.run_bind, Sem.run_pure, Result.andThen_ok]
      simp [storeVar, sizeOf, typeInfo, hi, hcells, hsz, h0]
  have hh' : w.heap[A]? = some (.cells (p ++ y ++ z).toArray ob.T (0, 0)) := by rw [List.append_assoc]; exact hh
  have hnew := setCells_heap A ob.T z us y p w (by omega) hh'
  rw [hpl] at hnew
  obtain ⟨k1, k2, k3, k4, k5⟩ := setCells_else A us off w
  refine wp_skp (w' := w.setCells A off us) ?_ (nxt_set (v := undef) hI hd hA k1 k2 k3 k4 k5 hnew hp1 (segs_append (segs_append h1 hus) h4) hn)
  unfold execOp
  rw [← hxv, ← huv] at hst
  simp only [ho, Sem.run_bind, Sem.run_pure, Result.andThen_ok, hst]

def aBox (σ : St K) (dst : Option Nat) (id : Nat) (T : TypeId) (x : Operand) : Option (Eff K) :=
  match σ.ev x, dst with
  | .val _ ss, some d => if ss.all plainSeg = true then some ⟨rdO x, [(.slot d, .av (.ptr id 0)), (.obj id, .ob ⟨T, ss⟩)]⟩ else none
  | _, _ => none

theorem aBox_ok {σ : St K} {o : Oper} {id : Nat} {T : TypeId} {x : Operand} {e : Eff K} (ho : o.op = .box T x) (hd : dstOk V.N o.dst = true) (h : aBox σ o.dst id T x = some e) : OpGo D V P o id σ e := by
  intro β a w hI hrd hid Q K' hn
  unfold aBox at h
  split at h
  case h_2 => cases h
  rename_i g ss d hx hdst
  split at h
  case isFalse => cases h
  rename_i hp
  injection h with h
  subst h
  have hq := ev_ok (x := x) hrd
  rw [hx] at hq
  obtain ⟨us, hus, huv, hone⟩ := hq
  have hcells := mkV_cells hone (segs_plain hp hus)
  rw [hdst] at hd
  refine wp_val (v := .pointer (some ⟨w.heap.size, 0, none⟩)) (w' := w.alloc (.cells us.toArray T)) ?_ ?_
  · unfold execOp
    simp only [ho, huv]
    rw [show Instr.box T (mkV g us) = (do pure (.pointer (some (← newVar T (mkV g us)))) : Sem Value) from rfl]
    unfold newVar
    rw [hcells]
    rfl
  · rw [hdst]
    exact nxt_new hI hd hid hp hus hn

def aAlloc (P : Program) (dst : Option Nat) (id : Nat) (T : TypeId) : Option (Eff K) :=
  match (P.info? T).bind (·.zero), dst with
  | some z, some d => if (z.cells.toList.all cellOk) = true then some ⟨[], [(.slot d, .av (.ptr id 0)), (.obj id, .ob ⟨T, z.cells.toList.map .lit⟩)]⟩ else none
  | _, _ => none

theorem plain_lits {cs : List Value} (h : cs.all cellOk = true) : (cs.map .lit : List (Seg K)).all plainSeg = true := by
  rw [List.all_map]
  exact h

theorem aAlloc_ok {σ : St K} {o : Oper} {id : Nat} {T : TypeId} {e : Eff K} (ho : o.op = .alloc T) (hd : dstOk V.N o.dst = true) (h : aAlloc P o.dst id T = some e) : OpGo D V P o id σ e := by
  intro β a w hI hrd hid Q K' hn
  unfold aAlloc at h
  split at h
  case h_2 => cases h
  rename_i z d hz hdst
  split at h
  case isFalse => cases h
  rename_i hp
  injection h with h
  subst h
  rw [hdst] at hd
  refine wp_val (v := .pointer (some ⟨w.heap.size, 0, none⟩)) (w' := w.alloc (.cells z.cells.toList.toArray T)) ?_ ?_
  · unfold execOp
    cases hi : P.info? T with
    | none => rw [hi] at hz; cases hz
    | some ti =>
      rw [hi] at hz
      have hz' : ti.zero = some z := hz
      simp only [ho, Instr.alloc, zeroValue, typeInfo, Sem.run_bind, Sem.run_pure, Result.andThen_ok, program, Sem.run, hi, hz', newVar, newRow, newObj]
      rfl
  · rw [hdst]
    exact nxt_new hI hd hid (plain_lits hp) (segs_lits _ _) hn

def aFieldAddr (P : Program) (σ : St K) (dst : Option Nat) (T : TypeId) (x : Operand) (f : Nat) : Option (Eff K) :=
  match σ.ev x, P.underlying T with
  | .ptr i off, some (.struct fs) => match fs[f]? with
    | some fl => match tySize P fl.type with
      | some n => if (n == 0) = true then none else some ⟨rdO x, wrd dst (.ptr i (off + fl.offset))⟩
      | none => none
    | none => none
  | _, _ => none

theorem aFieldAddr_ok {σ : St K} {o : Oper} {id : Nat} {T : TypeId} {x : Operand} {f : Nat} {e : Eff K} (ho : o.op = .fieldAddr T x f) (hd : dstOk V.N o.dst = true) (h : aFieldAddr P σ o.dst T x f = some e) : OpGo D V P o id σ e := by
  intro β a w hI hrd hid Q K' hn
  unfold aFieldAddr at h
  split at h
  case h_2 => cases h
  rename_i i off fs hx hu
  split at h
  case h_2 => cases h
  rename_i fl hf
  split at h
  case h_2 => cases h
  rename_i n hs
  split at h
  case isTrue => cases h
  rename_i hn0
  injection h with h
  subst h
  have hp := ev_ok (x := x) hrd
  rw [hx] at hp
  obtain ⟨A, hA, hxv⟩ := hp
  refine wp_val (v := .pointer (some ⟨A, off + fl.offset, none⟩)) (w' := w) ?_ (nxt_same (x := .ptr i (off + fl.offset)) hI hd ⟨A, hA, rfl⟩ hn)
  unfold execOp
  cases hi : P.info? fl.type with
  | none => simp [tySize, hi] at hs
  | some ti =>
    have hsz : ti.size ≠ 0 := by simp [tySize, hi] at hs; simpa [hs] using hn0
    have had := Addr.add_mid A off fl.offset
    simp [ho, hxv, Instr.fieldAt, Instr.sureAddr, fieldPlace, sizeOf, typeInfo, run_underlying hu w, hf, hi, hsz, had, Sem.run_bind]

def aMove (σ : St K) (dst : Option Nat) (x : Operand) : Option (Eff K) := some ⟨rdO x, wrd dst (σ.ev x)⟩

theorem aMove_ok {σ : St K} {o : Oper} {id : Nat} {x : Operand} {e : Eff K} (ho : o.op = .move x ∨ o.op = .assign x) (hd : dstOk V.N o.dst = true) (h : aMove σ o.dst x = some e) : OpGo D V P o id σ e := by
  intro β a w hI hrd hid Q K' hn
  injection h with h
  subst h
  refine wp_val (v := a.eval x) (w' := w) ?_ (nxt_same (x := σ.ev x) hI hd (ev_ok hrd) hn)
  unfold execOp
  rcases ho with ho | ho <;> simp only [ho] <;> rfl

def aPick (σ : St K) (dst : Option Nat) (c x y : Operand) : Option (Eff K) :=
  match σ.ev c with
  | .val false [.lit (.bool b)] => if b = true then some ⟨rdO c ++ rdO x, wrd dst (σ.ev x)⟩ else some ⟨rdO c ++ rdO y, wrd dst (σ.ev y)⟩
  | _ => none

theorem vl_lit_inv {w : World} {v u : Value} (h : vl D w (false, [.lit u]) v) : v = u := by
  obtain ⟨cs, ⟨a, b, e, h1, h2⟩, h3, _⟩ := h
  have h1 : a = [u] := h1
  have h2 : b = [] := h2
  subst h1; subst h2; subst e
  exact h3

theorem aPick_ok {σ : St K} {o : Oper} {id : Nat} {c x y : Operand} {e : Eff K} (ho : o.op = .pick c x y) (hd : dstOk V.N o.dst = true) (h : aPick σ o.dst c x y = some e) : OpGo D V P o id σ e := by
  intro β a w hI hrd hid Q K' hn
  unfold aPick at h
  split at h
  case h_2 => cases h
  rename_i b hc
  have key : ∀ (z : Operand), e = ⟨rdO c ++ rdO z, wrd o.dst (σ.ev z)⟩ → (a.eval c = .bool b → (execOp a.eval o).run P w = .ok (.value (a.eval z)) w) → Oper.wp P o a w K' Q := by
    intro z he hr
    subst he
    have hq := ev_ok (x := c) fun k hk => hrd k (memL hk)
    rw [hc] at hq
    exact wp_val (hr (vl_lit_inv hq)) (nxt_same (x := σ.ev z) hI hd (ev_ok fun k hk => hrd k (memR hk)) hn)
  split at h
  · rename_i hb
    injection h with h
    refine key x h.symm fun hcv => ?_
    unfold execOp
    simp only [ho, hcv, hb, asBool]
    rfl
  · rename_i hb
    have hb' : b = false := by simpa using hb
    injection h with h
    refine key y h.symm fun hcv => ?_
    unfold execOp
    simp only [ho, hcv, hb', asBool]
    rfl

def aExtract (σ : St K) (dst : Option Nat) (x : Operand) (k : Nat) : Option (Eff K) :=
  match σ.ev x with
  | .tup ts => match ts[k]? with
    | some p => some ⟨rdO x, wrd dst (.val p.1 p.2)⟩
    | none => none
  | _ => none

theorem vls_get {w : World} : ∀ {ts : List (Bool × List (Seg K))} {us : List Value} {k : Nat} {p : Bool × List (Seg K)}, vls D w ts us → ts[k]? = some p → ∃ v, us[k]? = some v ∧ vl D w p v
  | [], _, _, _, _, h => by simp at h
  | q :: ts, _, 0, p, ⟨v, us, e, h1, h2⟩, h => by
    simp only [List.getElem?_cons_zero, Option.some.injEq] at h
    subst h; subst e
    exact ⟨v, rfl, h1⟩
  | q :: ts, _, k + 1, p, ⟨v, us, e, h1, h2⟩, h => by
    subst e
    obtain ⟨u, h3, h4⟩ := vls_get (k := k) h2 (by simpa using h)
    exact ⟨u, by simpa using h3, h4⟩

theorem aExtract_ok {σ : St K} {o : Oper} {id : Nat} {x : Operand} {k : Nat} {e : Eff K} (ho : o.op = .extract x k) (hd : dstOk V.N o.dst = true) (h : aExtract σ o.dst x k = some e) : OpGo D V P o id σ e := by
  intro β a w hI hrd hid Q K' hn
  unfold aExtract at h
  split at h
  case h_2 => cases h
  rename_i ts hx
  split at h
  case h_2 => cases h
  rename_i p hp
  injection h with h
  subst h
  have hq := ev_ok (x := x) hrd
  rw [hx] at hq
  obtain ⟨us, hxv, hus⟩ := hq
  obtain ⟨u, hu, hv⟩ := vls_get hus hp
  refine wp_val (v := u) (w' := w) ?_ (nxt_same (x := .val p.1 p.2) hI hd hv hn)
  unfold execOp
  have hu' : us.toArray[k]? = some u := by simpa using hu
  simp only [ho, hxv, Instr.extract, hu']
  rfl

def pureRun {α : Type} (P : Program) : Sem α → Option α
  | .pure a => some a
  | .program k => pureRun P (k P)
  | _ => none

theorem pureRun_ok {α : Type} {P : Program} : ∀ {s : Sem α} {a : α}, pureRun P s = some a → ∀ w, s.run P w = .ok a w
  | .pure b, a, h, w => by injection h with h; subst h; rfl
  | .program k, a, h, w => by unfold pureRun at h; unfold Sem.run; exact pureRun_ok h w
  | .load .., _, h, _ => by cases h
  | .store .., _, h, _ => by cases h
  | .new .., _, h, _ => by cases h
  | .shape .., _, h, _ => by cases h
  | .freeze .., _, h, _ => by cases h
  | .frozen .., _, h, _ => by cases h
  | .getObj .., _, h, _ => by cases h
  | .setObj .., _, h, _ => by cases h
  | .choose .., _, h, _ => by cases h
  | .sys .., _, h, _ => by cases h
  | .mark .., _, h, _ => by cases h
  | .halt .., _, h, _ => by cases h

def lit? : AV K → Option Value
  | .val false [.lit v] => some v
  | _ => none

theorem lit?_ok {x : AV K} {u v : Value} {β : Nat → Option Nat} {w : World} (h : lit? x = some u) (hx : x.holds D β w v) : v = u := by
  unfold lit? at h
  split at h
  · injection h with h; subst h; exact vl_lit_inv hx
  · cases h

def aWord (P : Program) (σ : St K) (dst : Option Nat) : Op → Option (Eff K)
  | .binOp op t x y _ => match lit? (σ.ev x), lit? (σ.ev y) with
    | some u, some v => (pureRun P (do eqGuard op t x y u v; binOp op t u v)).map fun r => ⟨rdO x ++ rdO y, wrd dst (ofV r)⟩
    | _, _ => none
  | .unOp op _ x => match lit? (σ.ev x) with
    | some u => (pureRun P (Op.unary op u)).map fun r => ⟨rdO x, wrd dst (ofV r)⟩
    | none => none
  | .convert s t x => match lit? (σ.ev x) with
    | some u => (pureRun P (convert s t u)).map fun r => ⟨rdO x, wrd dst (ofV r)⟩
    | none => none
  | .index t x y => match lit? (σ.ev x), lit? (σ.ev y) with
    | some u, some v => (pureRun P (Instr.index t u v)).map fun r => ⟨rdO x ++ rdO y, wrd dst (ofV r)⟩
    | _, _ => none
  | _ => none

theorem aWord_ok {σ : St K} {o : Oper} {id : Nat} {e : Eff K} (hd : dstOk V.N o.dst = true) (h : aWord P σ o.dst o.op = some e) : OpGo D V P o id σ e := by
  intro β a w hI hrd hid Q K' hn
  unfold aWord at h
  split at h
  · rename_i op t x y yt ho
    split at h
    case h_2 => cases h
    rename_i u v hu hv
    simp only [Option.map_eq_some_iff] at h
    obtain ⟨r, hr, rfl⟩ := h
    have e1 := lit?_ok hu (ev_ok (D := D) fun k hk => hrd k (memL hk))
    have e2 := lit?_ok hv (ev_ok (D := D) fun k hk => hrd k (memR hk))
    refine wp_val (v := r) (w' := w) ?_ (nxt_same (x := ofV r) hI hd (ofV_ok β _ r) hn)
    unfold execOp
    simp only [ho, e1, e2, Sem.run_bind]
    have := pureRun_ok hr w
    simp only [Sem.run_bind] at this
    rw [this]
    rfl
  · rename_i op t x ho
    split at h
    case h_2 => cases h
    rename_i u hu
    simp only [Option.map_eq_some_iff] at h
    obtain ⟨r, hr, rfl⟩ := h
    have e1 := lit?_ok hu (ev_ok (D := D) hrd)
    refine wp_val (v := r) (w' := w) ?_ (nxt_same (x := ofV r) hI hd (ofV_ok β _ r) hn)
    unfold execOp
    simp only [ho, e1, Sem.run_bind, pureRun_ok hr w]
    rfl
  · rename_i s t x ho
    split at h
    case h_2 => cases h
    rename_i u hu
    simp only [Option.map_eq_some_iff] at h
    obtain ⟨r, hr, rfl⟩ := h
    have e1 := lit?_ok hu (ev_ok (D := D) hrd)
    refine wp_val (v := r) (w' := w) ?_ (nxt_same (x := ofV r) hI hd (ofV_ok β _ r) hn)
    unfold execOp
    simp only [ho, e1, Sem.run_bind, pureRun_ok hr w]
    rfl
  · rename_i t x y ho
    split at h
    case h_2 => cases h
    rename_i u v hu hv
    simp only [Option.map_eq_some_iff] at h
    obtain ⟨r, hr, rfl⟩ := h
    have e1 := lit?_ok hu (ev_ok (D := D) fun k hk => hrd k (memL hk))
    have e2 := lit?_ok hv (ev_ok (D := D) fun k hk => hrd k (memR hk))
    refine wp_val (v := r) (w' := w) ?_ (nxt_same (x := ofV r) hI hd (ofV_ok β _ r) hn)
    unfold execOp
    simp only [ho, e1, e2, Sem.run_bind, pureRun_ok hr w]
    rfl
  · cases h

end

section

variable {K : Type} {D : K → KdE} {sp : K → Option (List (Seg K))} {V : Env} {P : Program} {ops : Array Oper}

theorem fold_set (post : List Value) : ∀ (vs mid pre : List Value) (off k : Nat), mid.length = vs.length → pre.length = off + k → (vs.zipIdx k).foldl (fun cs (cj : Value × Nat) => cs.setIfInBounds (off + cj.2) cj.1) (pre ++ mid ++ post).toArray = (pre ++ vs ++ post).toArray
  | [], [], _, _, _, _, _ => rfl
  | v :: vs, m :: mid, pre, off, k, hl, hp => by
    have := fold_set post vs mid (pre ++ [v]) off (k + 1) (by simpa using hl) (by simp; omega)
    simp only [List.zipIdx_cons, List.foldl_cons]
    have e : (pre ++ (m :: mid) ++ post).toArray.setIfInBounds (off + k) v = (pre ++ [v] ++ mid ++ post).toArray := by
      rw [← hp]
      simp
    rw [e, this]
    simp
  | [], _ :: _, _, _, _, hl, _ => by cases hl
  | _ :: _, [], _, _, _, hl, _ => by cases hl

def aFill (D : K → KdE) (sp : K → Option (List (Seg K))) (place : Nat → Option (Nat × Nat)) : List (Nat × AV K) → List (Seg K) → Option (List (Seg K))
  | [], ss => some ss
  | (i, .val _ vs) :: rest, ss => match place i with
    | some (off, size) => if (wid D vs == size && vs.all plainSeg) = true then match cut D sp 64 off ss with
        | some (pre, r) => match cut D sp 64 size r with
          | some (_, post) => aFill D sp place rest (pre ++ vs ++ post)
          | none => none
        | none => none
      else none
    | none => none
  | _ :: _, _ => none

theorem aFill_ok (hsp : SplitOk D sp) {β : Nat → Option Nat} {w : World} {place : Nat → Option (Nat × Nat)} : ∀ {ps : List (Nat × AV K)} {us : List (Nat × Value)} {ss ss' : List (Seg K)} {cs : List Value}, us.map (·.1) = ps.map (·.1) → (∀ (j : Nat) (p : Nat × AV K) (u : Nat × Value), ps[j]? = some p → us[j]? = some u → AV.holds D β w p.2 u.2) → aFill D sp place ps ss = some ss' → segs D w ss cs →
    ∃ cs' : List Value, Instr.fill place cs.toArray us = some cs'.toArray ∧ segs D w ss' cs'
  | [], [], ss, ss', cs, _, _, h, hs => by
    injection h with h
    subst h
    exact ⟨cs, rfl, hs⟩
  | [], _ :: _, _, _, _, he, _, _, _ => by simp at he
  | _ :: _, [], _, _, _, he, _, _, _ => by simp at he
  | (i, x) :: ps, (j, u) :: us, ss, ss', cs, he, hv, h, hs => by
    simp only [List.map_cons, List.cons.injEq] at he
    obtain ⟨rfl, he⟩ := he
    cases x with
    | any => cases h
    | ptr _ _ => cases h
    | sl _ _ _ _ => cases h
    | dp _ _ _ => cases h
    | tup _ => cases h
    | val g vs =>
      simp only [aFill] at h
      split at h
      case h_2 => cases h
      rename_i off size hp
      split at h
      case isFalse => cases h
      rename_i hc
      rw [Bool.and_eq_true, beq_iff_eq] at hc
      split at h
      case h_2 => cases h
      rename_i pre r hc1
      split at h
      case h_2 => cases h
      rename_i mid post hc2
      obtain ⟨p, q, rfl, hpl, h1, h2⟩ := cut_ok hsp hc1 hs
      obtain ⟨y, z, rfl, hy, h3, h4⟩ := cut_ok hsp hc2 h2
      obtain ⟨ws, hws, huv, hone⟩ := hv 0 _ _ rfl rfl
      have huv : u = mkV g ws := huv
      have hcells := mkV_cells hone (segs_plain hc.2 hws)
      have hlen := segs_len hws
      have hlen : ws.length = size := by rw [hlen]; exact hc.1
      obtain ⟨cs', h5, h6⟩ := aFill_ok hsp he (fun k p u hk hu => hv (k + 1) p u (by simpa using hk) (by simpa using hu)) h (segs_append (segs_append h1 hws) h4)
      refine ⟨cs', ?_, h6⟩
      unfold Instr.fill
      rw [huv]
      simp only [hp, hcells]
      rw [if_neg (by simp; omega)]
      have e : (ws.toArray.zipIdx).foldl (fun cs (cj : Value × Nat) => cs.setIfInBounds (off + cj.2) cj.1) (p ++ (y ++ z)).toArray = (p ++ ws ++ z).toArray := by
        have := fold_set z ws y p off 0 (by omega) (by omega)
        rw [← List.append_assoc, ← Array.foldl_toList, Array.toList_zipIdx]
        exact this
      rw [← h5, ← e]

def aBuild (D : K → KdE) (sp : K → Option (List (Seg K))) (P : Program) (σ : St K) (dst : Option Nat) (T : TypeId) (parts : List (Nat × Operand)) : Option (Eff K) :=
  match pureRun P (zeroValue T), P.underlying T with
  | some z, some (.struct fs) => match pureRun P (fs.mapM fun f => do pure (f.offset, ← sizeOf f.type)) with
    | some places => (aFill D sp (places[·]?) (parts.map fun p => (p.1, σ.ev p.2)) (z.cells.toList.map .lit)).map fun ss => ⟨parts.flatMap fun p => rdO p.2, wrd dst (.val true ss)⟩
    | none => none
  | some z, some (.array _ el) => match pureRun P (sizeOf el) with
    | some size => (aFill D sp (fun i => some (i * size, size)) (parts.map fun p => (p.1, σ.ev p.2)) (z.cells.toList.map .lit)).map fun ss => ⟨parts.flatMap fun p => rdO p.2, wrd dst (.val true ss)⟩
    | none => none
  | _, _ => none

theorem aBuild_ok (hsp : SplitOk D sp) {σ : St K} {o : Oper} {id : Nat} {T : TypeId} {parts : Array (Nat × Operand)} {e : Eff K} (ho : o.op = .build T parts) (hd : dstOk V.N o.dst = true) (h : aBuild D sp P σ o.dst T parts.toList = some e) : OpGo D V P o id σ e := by
  intro β a w hI hrd hid Q K' hn
  have main : ∀ (place : Nat → Option (Nat × Nat)) (z : Value) (ss : List (Seg K)), e = ⟨parts.toList.flatMap fun p => rdO p.2, wrd o.dst (.val true ss)⟩ → aFill D sp place (parts.toList.map fun p => (p.1, σ.ev p.2)) (z.cells.toList.map .lit) = some ss →
      ((∀ cs, Instr.fill place z.cells (parts.map fun (p : Nat × Operand) => (p.1, a.eval p.2)).toList = some cs → (Instr.build T (parts.map fun (p : Nat × Operand) => (p.1, a.eval p.2))).run P w = .ok (.agg cs) w)) → Oper.wp P o a w K' Q := by
    intro place z ss he hf hr
    subst he
    obtain ⟨cs', h1, h2⟩ := aFill_ok (D := D) hsp (β := β) (w := V.see β w) (us := parts.toList.map fun p => (p.1, a.eval p.2)) (by simp) (fun j p u hp hu => by
      simp only [List.getElem?_map, Option.map_eq_some_iff] at hp hu
      obtain ⟨q, hq, rfl⟩ := hp
      obtain ⟨q', hq', rfl⟩ := hu
      rw [hq] at hq'
      injection hq' with hq'
      subst hq'
      exact ev_ok fun k hk => hrd k (List.mem_flatMap.2 ⟨q, List.mem_of_getElem? hq, hk⟩)) hf (segs_lits (V.see β w) z.cells.toList)
    refine wp_val (v := .agg cs'.toArray) (w' := w) ?_ (nxt_same (x := .val true ss) hI hd ⟨cs', h2, rfl, fun h => by cases h⟩ hn)
    unfold execOp
    have hb := hr cs'.toArray (by rw [Array.toList_map]; simpa using h1)
    simp only [ho, Sem.run_bind, Sem.run_pure]
    rw [show (fun (x : Nat × Operand) => match x with | (i, x) => (i, a.eval x)) = fun (p : Nat × Operand) => (p.1, a.eval p.2) from rfl, hb]
    rfl
  unfold aBuild at h
  split at h
  · rename_i z fs hz hu
    split at h
    case h_2 => cases h
    rename_i places hp
    simp only [Option.map_eq_some_iff] at h
    obtain ⟨ss, hf, rfl⟩ := h
    refine main _ z ss rfl hf fun cs hcs => ?_
    unfold Instr.build
    simp only [Sem.run_bind, pureRun_ok hz w, Result.andThen_ok, run_underlying hu w, pureRun_ok hp w, hcs]
    rfl
  · rename_i z n el hz hu
    split at h
    case h_2 => cases h
    rename_i size hs
    simp only [Option.map_eq_some_iff] at h
    obtain ⟨ss, hf, rfl⟩ := h
    refine main _ z ss rfl hf fun cs hcs => ?_
    unfold Instr.build
    simp only [Sem.run_bind, pureRun_ok hz w, Result.andThen_ok, run_underlying hu w, pureRun_ok hs w, hcs]
    rfl
  · cases h

def aField (D : K → KdE) (sp : K → Option (List (Seg K))) (P : Program) (σ : St K) (dst : Option Nat) (T : TypeId) (x : Operand) (f : Nat) : Option (Eff K) :=
  match σ.ev x, P.underlying T with
  | .val true ss, some (.struct fs) => match fs[f]? with
    | some fl => match tyRow P fl.type, tySize P fl.type with
      | some g, some n => match cut D sp 64 fl.offset ss with
        | some (_, rest) => match cut D sp 64 (if g then n else 1) rest with
          | some (mid, _) => some ⟨rdO x, wrd dst (.val g mid)⟩
          | none => none
        | none => none
      | _, _ => none
    | none => none
  | _, _ => none

theorem aField_ok (hsp : SplitOk D sp) {σ : St K} {o : Oper} {id : Nat} {T : TypeId} {x : Operand} {f : Nat} {e : Eff K} (ho : o.op = .field T x f) (hd : dstOk V.N o.dst = true) (h : aField D sp P σ o.dst T x f = some e) : OpGo D V P o id σ e := by
  intro β a w hI hrd hid Q K' hn
  unfold aField at h
  split at h
  case h_2 => cases h
  rename_i ss fs hx hu
  split at h
  case h_2 => cases h
  rename_i fl hf
  split at h
  case h_2 => cases h
  rename_i g n hg hs
  split at h
  case h_2 => cases h
  rename_i pre rest hc1
  split at h
  case h_2 => cases h
  rename_i mid post hc2
  injection h with h
  subst h
  have hq := ev_ok (x := x) hrd
  rw [hx] at hq
  obtain ⟨cs, hsg, hxv, _⟩ := hq
  have hxv : a.eval x = .agg cs.toArray := hxv
  obtain ⟨p, q, rfl, hpl, h1, h2⟩ := cut_ok hsp hc1 hsg
  obtain ⟨y, z, rfl, hy, h3, h4⟩ := cut_ok hsp hc2 h2
  unfold tyRow at hg
  cases hud : P.underlying fl.type with
  | none => rw [hud] at hg; cases hg
  | some d =>
    rw [hud] at hg
    injection hg with hg
    refine wp_val (v := mkV g y) (w' := w) ?_ (nxt_same (x := .val g mid) hI hd ⟨y, h3, rfl, fun hgf => ?_⟩ hn)
    · cases hi : P.info? fl.type with
      | none => simp [tySize, hi] at hs
      | some ti =>
        have hsz : ti.size = n := by simpa [tySize, hi] using hs
        unfold execOp
        cases g with
        | true =>
          have hagg : (isAgg fl.type).run P w = .ok true w := by
            unfold isAgg
            rw [Sem.run_bind, run_underlying hud w]
            cases d <;> simp_all
          have hx1 : (p ++ (y ++ z)).toArray.extract fl.offset (fl.offset + n) = y.toArray := by
            rw [← hpl]
            have hy' : y.length = n := hy
            rw [← hy']
            simp [List.extract_toArray, List.extract_eq_take_drop]
          simp only [ho, hxv, Instr.field, part, asAgg, Sem.run_bind, Sem.run_pure, Result.andThen_ok, run_underlying hu w, hf, hagg, sizeOf, typeInfo, program, Sem.run, hi, hsz, if_true, hx1]
          rfl
        | false =>
          have hagg : (isAgg fl.type).run P w = .ok false w := by
            unfold isAgg
            rw [Sem.run_bind, run_underlying hud w]
            cases d <;> simp_all
          have hy1 : y.length = 1 := by rw [hy]; rfl
          obtain ⟨c, rfl⟩ : ∃ c, y = [c] := by
            match y, hy1 with
            | [c], _ => exact ⟨c, rfl⟩
          have hx1 : (p ++ ([c] ++ z)).toArray[fl.offset]? = some c := by
            rw [← hpl]
            simp
          simp only [ho, hxv, Instr.field, part, asAgg, Sem.run_bind, Sem.run_pure, Result.andThen_ok, run_underlying hu w, hf, hagg, Bool.false_eq_true, if_false, hx1]
          rfl
    · have hg0 : g = false := hgf
      subst hg0
      rw [hy]
      rfl

end

section

variable {K : Type} {D : K → KdE} {V : Env} {P : Program} {ops : Array Oper}

def LenOk (D : K → KdE) (len : K → Option Nat) : Prop := ∀ k n, len k = some n → ∀ w v, (D k).φ w [v] → ∃ p c, v = .slice p n c ∧ (p = none → n = 0)

def AppOk (D : K → KdE) (P : Program) (app : TypeId → K → K → Option (List Prop × K)) : Prop := ∀ t k1 k2 obs k, app t k1 k2 = some (obs, k) → (∀ p ∈ obs, p) → ∀ (S : Nat → Prop) (ty : TypeId) (w : World) (v1 v2 : Value), (∀ b, S b → b < w.heap.size) → (D k1).φ (hide S w) [v1] → (D k2).φ (hide S w) [v2] →
  ∃ v w', (Builtin.append_ #[t, t] ty #[v1, v2]).run P w = .ok v w' ∧ (D k).φ (hide S w') [v] ∧ Fr0 w w'

def RowOk (D : K → KdE) (row : TypeId → List Value → Option (List Prop × K)) : Prop := ∀ T cs obs k, row T cs = some (obs, k) → (∀ p ∈ obs, p) → ∀ w A, w.heap[A]? = some (.cells (List.toArray cs) T (0, 0)) → (D k).φ w [.slice (some ⟨A, 0, none⟩) cs.length cs.length]

def lits : List (AV K) → Option (List Value)
  | [] => some []
  | x :: xs => match lit? x, lits xs with
    | some v, some vs => some (v :: vs)
    | _, _ => none

theorem lits_ok {β : Nat → Option Nat} {w : World} {σ : St K} {a : Act} : ∀ {xs : List Operand} {vs : List Value}, lits (xs.map σ.ev) = some vs → (∀ x ∈ xs, (σ.ev x).holds D β w (a.eval x)) → xs.map a.eval = vs
  | [], vs, h, _ => by injection h
  | x :: xs, vs, h, hx => by
    simp only [List.map_cons, lits] at h
    split at h
    case h_2 => cases h
    rename_i v us h1 h2
    injection h with h
    subst h
    rw [List.map_cons, lit?_ok h1 (hx x List.mem_cons_self), lits_ok h2 fun y hy => hx y (List.mem_cons_of_mem _ hy)]

def aBuiltin (P : Program) (len : K → Option Nat) (σ : St K) (dst : Option Nat) (ty : TypeId) (c : Call) (b : Builtin) : Option (Eff K) :=
  match lits (c.args.toList.map σ.ev) with
  | some vs => match pureRun P (builtin b c.argTypes ty (c.args.map fun | .const _ => true | _ => false) vs.toArray) with
    | some (.value v) => some ⟨c.args.toList.flatMap rdO, wrd dst (ofV v)⟩
    | _ => none
  | none => match b, c.args.toList, c.argTypes.toList with
    | .len, [x], [t] => match σ.ev x, P.underlying t with
      | .val false [.sem k], some (.slice _) => (len k).map fun (n : Nat) => ⟨rdO x, wrd dst (.val false [.lit (.int .i64 (n : Int))])⟩
      | _, _ => none
    | _, _, _ => none

theorem aBuiltin_ok {len : K → Option Nat} (hl : LenOk D len) {σ : St K} {o : Oper} {id : Nat} {c : Call} {b : Builtin} {e : Eff K} (ho : o.op = .call c) (hc : c.callee = .builtin b) (hd : dstOk V.N o.dst = true) (h : aBuiltin P len σ o.dst o.type c b = some e) : OpGo D V P o id σ e := by
  intro β a w hI hrd hid Q K' hn
  unfold aBuiltin at h
  split at h
  · rename_i vs hvs
    split at h
    case h_2 => cases h
    rename_i v hv
    injection h with h
    subst h
    have hargs := lits_ok (D := D) (β := β) (w := V.see β w) (a := a) hvs fun x hx => ev_ok fun k hk => hrd k (List.mem_flatMap.2 ⟨x, hx, hk⟩)
    refine wp_val (v := v) (w' := w) ?_ (nxt_same (x := ofV v) hI hd (ofV_ok β _ v) hn)
    unfold execOp
    have e1 : c.args.map a.eval = vs.toArray := by rw [← hargs]; apply Array.ext'; simp
    simp only [ho, resolve, hc, Sem.run_bind, Sem.run_pure, Result.andThen_ok, invoke, e1]
    exact pureRun_ok hv w
  · split at h
    case h_2 => cases h
    rename_i x t hx ht
    split at h
    case h_2 => cases h
    rename_i k el hk hu
    simp only [Option.map_eq_some_iff] at h
    obtain ⟨n, hn', rfl⟩ := h
    have hq := ev_ok (x := x) hrd
    rw [hk] at hq
    obtain ⟨cs, ⟨p, q, e1, h1, h2⟩, h3, h4⟩ := hq
    have h2 : q = [] := h2
    subst h2
    rw [List.append_nil] at e1
    subst e1
    obtain ⟨y, rfl⟩ : ∃ y, cs = [y] := by
      match cs, h4 rfl with
      | [y], _ => exact ⟨y, rfl⟩
    obtain ⟨p, m, rfl, _⟩ := hl k n hn' _ _ h1
    have h3 : a.eval x = .slice p n m := h3
    refine wp_val (v := .int .i64 (n : Int)) (w' := w) ?_ (nxt_same (x := .val false [.lit (.int .i64 (n : Int))]) hI hd (vl_lit _ _) hn)
    unfold execOp
    have e1 : c.args = #[x] := by apply Array.ext'; simpa using hx
    have e2 : c.argTypes = #[t] := by apply Array.ext'; simpa using ht
    simp only [ho, resolve, hc, e1, e2, Sem.run_bind, Sem.run_pure, Result.andThen_ok, invoke, builtin, Builtin.len_]
    simp [h3, run_underlying hu w, Sem.run_bind, goInt]

def aApp (app : TypeId → K → K → Option (List Prop × K)) (σ : St K) (dst : Option Nat) (c : Call) (b : Builtin) : Option (List Prop × Eff K) :=
  match b, c.args.toList, c.argTypes.toList with
  | .append, [x, y], [t, t'] => if (t == t') = true then match σ.ev x, σ.ev y with
    | .val false [.sem k1], .val false [.sem k2] => (app t k1 k2).map fun k => (k.1, ⟨rdO x ++ rdO y, wrd dst (.val false [.sem k.2])⟩)
    | _, _ => none
    else none
  | _, _, _ => none

theorem one_sem {w : World} {β : Nat → Option Nat} {k : K} {v : Value} (h : (AV.val false [.sem k]).holds D β w v) : (D k).φ w [v] := by
  obtain ⟨cs, ⟨p, q, e1, h1, h2⟩, h3, h4⟩ := h
  have h2 : q = [] := h2
  subst h2
  rw [List.append_nil] at e1
  subst e1
  match cs, h4 rfl with
  | [y], _ =>
    have h3 : v = y := h3
    rw [h3]
    exact h1

theorem aApp_ok {app : TypeId → K → K → Option (List Prop × K)} (hl : AppOk D P app) {σ : St K} {o : Oper} {id : Nat} {c : Call} {b : Builtin} {obs : List Prop} {e : Eff K} (ho : o.op = .call c) (hc : c.callee = .builtin b) (hd : dstOk V.N o.dst = true) (h : aApp app σ o.dst c b = some (obs, e)) (hobs : ∀ p ∈ obs, p) : OpGo D V P o id σ e := by
  intro β a w hI hrd hid Q K' hn
  unfold aApp at h
  split at h
  case h_2 => cases h
  rename_i x y t t' hx ht
  split at h
  case isFalse => cases h
  rename_i htt
  have htt := beq_iff_eq.1 htt
  subst htt
  split at h
  case h_2 => cases h
  rename_i k1 k2 h1 h2
  simp only [Option.map_eq_some_iff, Prod.mk.injEq] at h
  obtain ⟨⟨obs', k⟩, hk, e0, rfl⟩ := h
  have e0 : obs' = obs := e0
  subst e0
  have q1 := ev_ok (x := x) fun k hk => hrd k (memL hk)
  have q2 := ev_ok (x := y) fun k hk => hrd k (memR hk)
  rw [h1] at q1
  rw [h2] at q2
  have hS : ∀ b, V.hid β b → b < w.heap.size := by
    rintro b (hb | ⟨i, hb⟩)
    · exact Nat.lt_of_lt_of_le (hI.old b hb).1.1 hI.fr.size
    · obtain ⟨_, cs, T, e', _⟩ := hI.own i b hb
      exact (Array.getElem?_eq_some_iff.1 e').1
  obtain ⟨v, w', hrun, hφ, hf⟩ := hl t k1 k2 obs' k hk hobs (V.hid β) o.type w _ _ hS (one_sem q1) (one_sem q2)
  refine wp_val (v := v) (w' := w') ?_ (nxt_fr (x := .val false [.sem k]) hI hd hf ⟨_, ⟨_, [], (List.append_nil _).symm, hφ, rfl⟩, rfl, fun _ => rfl⟩ hn)
  unfold execOp
  have e1 : c.args = #[x, y] := by apply Array.ext'; simpa using hx
  have e2 : c.argTypes = #[t, t] := by apply Array.ext'; simpa using ht
  simp only [ho, resolve, hc, e1, e2, Sem.run_bind, Sem.run_pure, Result.andThen_ok, invoke, builtin]
  simp [hrun]

def catOk (a b : ByteArray) : Prop := ((a.size + b.size : Nat) : Int) ≤ IntKind.i64.max

def aCat (σ : St K) (dst : Option Nat) (x y : Operand) : Option (List Prop × Eff K) :=
  match lit? (σ.ev x), lit? (σ.ev y) with
  | some (.string a), some (.string b) => some ([catOk a b], ⟨rdO x ++ rdO y, wrd dst (.val false [.lit (.string (a ++ b))])⟩)
  | _, _ => none

theorem aCat_ok {σ : St K} {o : Oper} {id : Nat} {t yt : TypeId} {x y : Operand} {obs : List Prop} {e : Eff K} (ho : o.op = .binOp .add t x y yt) (hd : dstOk V.N o.dst = true) (h : aCat σ o.dst x y = some (obs, e)) (hobs : ∀ p ∈ obs, p) : OpGo D V P o id σ e := by
  intro β a w hI hrd hid Q K' hn
  unfold aCat at h
  split at h
  case h_2 => cases h
  rename_i u v hu hv
  injection h with h
  injection h with h1 h2
  subst h1; subst h2
  have hs : ((u.size + v.size : Nat) : Int) ≤ IntKind.i64.max := hobs (catOk u v) (List.mem_singleton_self _)
  have e1 := lit?_ok hu (ev_ok (D := D) fun k hk => hrd k (memL hk))
  have e2 := lit?_ok hv (ev_ok (D := D) fun k hk => hrd k (memR hk))
  refine wp_val (v := .string (u ++ v)) (w' := w) ?_ (nxt_same (x := .val false [.lit (.string (u ++ v))]) hI hd (vl_lit _ _) hn)
  unfold execOp
  simp only [ho, e1, e2, binOp, Op.stringOp]
  rw [if_neg (by omega)]
  rfl

theorem pureRun_bind {α β : Type} {P : Program} : ∀ {x : Sem α} {f : α → Sem β} {b : β}, pureRun P (x >>= f) = some b → ∃ a, pureRun P x = some a ∧ pureRun P (f a) = some b
  | .pure a, _, _, h => ⟨a, rfl, h⟩
  | .program k, f, b, h => pureRun_bind (x := k P) (f := f) (b := b) h
  | .load .., _, _, h => by cases h
  | .store .., _, _, h => by cases h
  | .new .., _, _, h => by cases h
  | .shape .., _, _, h => by cases h
  | .freeze .., _, _, h => by cases h
  | .frozen .., _, _, h => by cases h
  | .getObj .., _, _, h => by cases h
  | .setObj .., _, _, h => by cases h
  | .choose .., _, _, h => by cases h
  | .sys .., _, _, h => by cases h
  | .mark .., _, _, h => by cases h
  | .halt .., _, _, h => by cases h

def bsPre (t : TypeId) (len : Nat) (parts : Array (Nat × Value)) : Sem (TypeId × Array Value) := do
  let .slice elem ← underlying t | stuck "buildSlice: slice type expected"
  let size ← sizeOf elem
  if len * size > 2 ^ 24 then unsupported (.resourceLimit "buildSlice: more than 2^24 cells")
  let zero ← if len * size = 0 then pure #[] else do pure (← zeroValue elem).cells
  let some cells := Instr.fill (fun i => some (i * size, size)) ((Array.range (len * size)).map (zero[· % zero.size]!)) parts.toList
    | stuck "buildSlice: a part of the wrong size"
  pure (elem, cells)

def litParts (σ : St K) : List (Nat × Operand) → Option (List (Nat × Value))
  | [] => some []
  | (i, x) :: ps => match lit? (σ.ev x), litParts σ ps with
    | some v, some vs => some ((i, v) :: vs)
    | _, _ => none

theorem litParts_ok {β : Nat → Option Nat} {w : World} {σ : St K} {a : Act} : ∀ {ps : List (Nat × Operand)} {vs : List (Nat × Value)}, litParts σ ps = some vs → (∀ p ∈ ps, (σ.ev p.2).holds D β w (a.eval p.2)) → ps.map (fun p => (p.1, a.eval p.2)) = vs
  | [], vs, h, _ => by injection h
  | (i, x) :: xs, vs, h, hx => by
    simp only [litParts] at h
    split at h
    case h_2 => cases h
    rename_i v us h1 h2
    injection h with h
    subst h
    rw [List.map_cons, lit?_ok h1 (hx _ List.mem_cons_self), litParts_ok h2 fun y hy => hx y (List.mem_cons_of_mem _ hy)]

def aRow (P : Program) (row : TypeId → List Value → Option (List Prop × K)) (σ : St K) (dst : Option Nat) (t : TypeId) (len : Nat) (parts : List (Nat × Operand)) : Option (List Prop × Eff K) :=
  match litParts σ parts with
  | some vs => match pureRun P (bsPre t len vs.toArray) with
    | some (el, cs) => if (cs.size == len) = true then (row el cs.toList).map fun k => (k.1, ⟨parts.flatMap fun p => rdO p.2, wrd dst (.val false [.sem k.2])⟩) else none
    | none => none
  | none => none

theorem aRow_ok {row : TypeId → List Value → Option (List Prop × K)} (hr : RowOk D row) {σ : St K} {o : Oper} {id : Nat} {t : TypeId} {len : Nat} {parts : Array (Nat × Operand)} {e : Eff K} (ho : o.op = .buildSlice t len parts) (hd : dstOk V.N o.dst = true) {obs : List Prop} (h : aRow P row σ o.dst t len parts.toList = some (obs, e)) (hobs : ∀ p ∈ obs, p) : OpGo D V P o id σ e := by
  intro β a w hI hrd hid Q K' hn
  unfold aRow at h
  split at h
  case h_2 => cases h
  rename_i vs hvs
  split at h
  case h_2 => cases h
  rename_i el cs hcs
  split at h
  case isFalse => cases h
  rename_i hsz
  simp only [Option.map_eq_some_iff, Prod.mk.injEq] at h
  obtain ⟨⟨obs', k⟩, hk, e0, rfl⟩ := h
  have e0 : obs' = obs := e0
  subst e0
  have hargs := litParts_ok (D := D) (β := β) (w := V.see β w) (a := a) hvs fun p hp => ev_ok fun k hk => hrd k (List.mem_flatMap.2 ⟨p, hp, hk⟩)
  have hnew : (w.alloc (.cells cs el)).heap[w.heap.size]? = some (.cells cs el (0, 0)) := heap_alloc_new w _
  have hns : ¬ V.hid β w.heap.size := by
    rintro (h | ⟨i, h⟩)
    · have h1 := (hI.old _ h).1.1
      have h2 := hI.fr.size
      omega
    · obtain ⟨_, cs', T', e', _⟩ := hI.own i _ h
      exact absurd (Array.getElem?_eq_some_iff.1 e').1 (Nat.lt_irrefl _)
  have hsee := (hide_get (V.hid β) (w.alloc (.cells cs el)) w.heap.size cs el (0, 0)).2 ⟨hns, hnew⟩
  have hφ := hr el cs.toList obs' k hk hobs (V.see β (w.alloc (.cells cs el))) w.heap.size (by rw [Array.toArray_toList]; exact hsee)
  rw [Array.length_toList, show cs.size = len by simpa using hsz] at hφ
  refine wp_val (v := .slice (some ⟨w.heap.size, 0, none⟩) len len) (w' := w.alloc (.cells cs el)) ?_ (nxt_fr (x := .val false [.sem k]) hI hd ⟨rfl, rfl, rfl, by simp, fun b hb => getElem?_push_old hb⟩ ⟨_, ⟨_, [], (List.append_nil _).symm, hφ, rfl⟩, rfl, fun _ => rfl⟩ hn)
  unfold execOp
  have e1 : (parts.map fun (p : Nat × Operand) => (p.1, a.eval p.2)) = vs.toArray := by rw [← hargs]; apply Array.ext'; simp
  have e2 : (Instr.buildSlice t len vs.toArray).run P w = .ok (.slice (some ⟨w.heap.size, 0, none⟩) len len) (w.alloc (.cells cs el)) := by
    unfold bsPre at hcs
    obtain ⟨d, hd1, h⟩ := pureRun_bind hcs
    cases d with
    | slice el' =>
      obtain ⟨size, hs, h⟩ := pureRun_bind h
      dsimp only at h
      by_cases hc1 : len * size > 2 ^ 24
      · rw [if_pos hc1] at h; cases h
      · rw [if_neg hc1] at h
        unfold Instr.buildSlice
        rw [Sem.run_bind, pureRun_ok hd1 w, Result.andThen_ok]
        dsimp only
        rw [Sem.run_bind, pureRun_ok hs w, Result.andThen_ok, if_neg hc1]
        have fin : ∀ (z : Array Value), pureRun P (match Instr.fill (fun i => some (i * size, size)) (Array.map (fun x => z[x % z.size]!) (Array.range (len * size))) vs with
            | some cells => pure (el', cells)
            | _ => stuck "buildSlice: a part of the wrong size" : Sem (TypeId × Array Value)) = some (el, cs) → el' = el ∧ Instr.fill (fun i => some (i * size, size)) (Array.map (fun x => z[x % z.size]!) (Array.range (len * size))) vs = some cs := by
          intro z hz
          split at hz
          · rename_i cells hc
            injection hz with hz
            injection hz with h1 h2
            exact ⟨h1, by rw [hc, h2]⟩
          · cases hz
        by_cases hc2 : len * size = 0
        · rw [if_pos hc2] at h ⊢
          obtain ⟨z, hz, h⟩ := pureRun_bind h
          obtain ⟨rfl, hf⟩ := fin z h
          rw [Sem.run_bind, pureRun_ok hz w, Result.andThen_ok, hf]
          rfl
        · rw [if_neg hc2] at h ⊢
          obtain ⟨z0, hz0, h⟩ := pureRun_bind h
          obtain ⟨z, hz, h⟩ := pureRun_bind h
          obtain ⟨rfl, hf⟩ := fin z h
          rw [Sem.run_bind, pureRun_ok hz0 w, Result.andThen_ok, Sem.run_bind, pureRun_ok hz w, Result.andThen_ok, hf]
          rfl
    | _ => cases h
  simp only [ho, Sem.run_bind]
  rw [show (fun (x : Nat × Operand) => match x with | (i, x) => (i, a.eval x)) = fun (p : Nat × Operand) => (p.1, a.eval p.2) from rfl, e1, e2]
  rfl

def byAt (s : ByteArray) (k : Nat) : Nat := (s.data.toList.getD k 0).toNat

def aIdx (P : Program) (σ : St K) (dst : Option Nat) (t : TypeId) (x ix : Operand) : Option (List Prop × Eff K) :=
  match P.underlying t, lit? (σ.ev x), lit? (σ.ev ix) with
  | some .string, some (.string s), some (.int .i64 k) => some ([0 ≤ k, k < (s.size : Int)], ⟨rdO x ++ rdO ix, wrd dst (.val false [.lit (.int .u8 (byAt s k.toNat))])⟩)
  | _, _, _ => none

theorem byAt_get {s : ByteArray} {k : Nat} (h : k < s.size) : s[k]? = some (s[k]'h) ∧ ((s[k]'h).toNat : Int) = (byAt s k : Int) := by
  refine ⟨getElem?_pos s k h, ?_⟩
  unfold byAt
  have hl : k < s.data.toList.length := by rw [Array.length_toList]; exact h
  rw [List.getD_eq_getElem?_getD, List.getElem?_eq_getElem hl]
  rfl

theorem aIdx_ok {σ : St K} {o : Oper} {id : Nat} {t : TypeId} {x ix : Operand} {obs : List Prop} {e : Eff K} (ho : o.op = .index t x ix) (hd : dstOk V.N o.dst = true) (h : aIdx P σ o.dst t x ix = some (obs, e)) (hobs : ∀ p ∈ obs, p) : OpGo D V P o id σ e := by
  intro β a w hI hrd hid Q K' hn
  unfold aIdx at h
  split at h
  case h_2 => cases h
  rename_i s k hu hx hk
  injection h with h
  injection h with h1 h2
  subst h1; subst h2
  have e1 := lit?_ok hx (ev_ok (D := D) fun k hk => hrd k (memL hk))
  have e2 := lit?_ok hk (ev_ok (D := D) fun k hk => hrd k (memR hk))
  have h0 : 0 ≤ k := hobs _ (by simp)
  have h1 : k < (s.size : Int) := hobs _ (by simp)
  obtain ⟨g1, g2⟩ := byAt_get (s := s) (k := k.toNat) (by omega)
  refine wp_val (v := .int .u8 (byAt s k.toNat)) (w' := w) ?_ (nxt_same (x := .val false [.lit (.int .u8 (byAt s k.toNat))]) hI hd (vl_lit _ _) hn)
  unfold execOp
  simp only [ho, e1, e2, Sem.run_bind]
  have hr : (Instr.index t (.string s) (.int .i64 k)).run P w = .ok (.int .u8 (byAt s k.toNat)) w := by
    simp [Instr.index, asIntOf, run_underlying hu w, Sem.run_bind, h0, g1, g2]
  rw [hr]
  rfl

def aSub (P : Program) (σ : St K) (dst : Option Nat) (t : TypeId) (x : Operand) (lo hi : Option Operand) : Option (List Prop × Eff K) :=
  match P.underlying t, lit? (σ.ev x), lo, hi with
  | some .string, some (.string s), none, some y => match lit? (σ.ev y) with
    | some (.int .i64 k) => some ([0 ≤ k, k ≤ (s.size : Int)], ⟨rdO x ++ rdO y, wrd dst (.val false [.lit (.string (s.extract 0 k.toNat))])⟩)
    | _ => none
  | some .string, some (.string s), some y, none => match lit? (σ.ev y) with
    | some (.int .i64 k) => some ([0 ≤ k, k ≤ (s.size : Int)], ⟨rdO x ++ rdO y, wrd dst (.val false [.lit (.string (s.extract k.toNat s.size))])⟩)
    | _ => none
  | _, _, _, _ => none

theorem aSub_ok {σ : St K} {o : Oper} {id : Nat} {t : TypeId} {x : Operand} {lo hi : Option Operand} {obs : List Prop} {e : Eff K} (ho : o.op = .slice t x lo hi none) (hd : dstOk V.N o.dst = true) (h : aSub P σ o.dst t x lo hi = some (obs, e)) (hobs : ∀ p ∈ obs, p) : OpGo D V P o id σ e := by
  intro β a w hI hrd hid Q K' hn
  unfold aSub at h
  split at h
  · rename_i s y hu hx
    split at h
    case h_2 => cases h
    rename_i k hk
    injection h with h
    injection h with h1 h2
    subst h1; subst h2
    have e1 := lit?_ok hx (ev_ok (D := D) fun k hk => hrd k (memL hk))
    have e2 := lit?_ok hk (ev_ok (D := D) fun k hk => hrd k (memR hk))
    have h0 : 0 ≤ k := hobs _ (by simp)
    have h1 : k ≤ (s.size : Int) := hobs _ (by simp)
    refine wp_val (v := .string (s.extract 0 k.toNat)) (w' := w) ?_ (nxt_same (x := .val false [.lit (.string (s.extract 0 k.toNat))]) hI hd (vl_lit _ _) hn)
    unfold execOp
    simp only [ho, e1, e2, Sem.run_bind, Option.map_none, Option.map_some]
    have hr : (Instr.sliceAt t (.string s) none (some (.int .i64 k)) none).run P w = .ok (.string (s.extract 0 k.toNat)) w := by
      simp [Instr.sliceAt, Instr.slice, Instr.sliceBounds, Instr.sliceBound, asIntOf, run_underlying hu w, Sem.run_bind, h0, h1]
    rw [hr]
    rfl
  · rename_i s y hu hx
    split at h
    case h_2 => cases h
    rename_i k hk
    injection h with h
    injection h with h1 h2
    subst h1; subst h2
    have e1 := lit?_ok hx (ev_ok (D := D) fun k hk => hrd k (memL hk))
    have e2 := lit?_ok hk (ev_ok (D := D) fun k hk => hrd k (memR hk))
    have h0 : 0 ≤ k := hobs _ (by simp)
    have h1 : k ≤ (s.size : Int) := hobs _ (by simp)
    refine wp_val (v := .string (s.extract k.toNat s.size)) (w' := w) ?_ (nxt_same (x := .val false [.lit (.string (s.extract k.toNat s.size))]) hI hd (vl_lit _ _) hn)
    unfold execOp
    simp only [ho, e1, e2, Sem.run_bind, Option.map_none, Option.map_some]
    have hr : (Instr.sliceAt t (.string s) (some (.int .i64 k)) none none).run P w = .ok (.string (s.extract k.toNat s.size)) w := by
      simp [Instr.sliceAt, Instr.slice, Instr.sliceBounds, Instr.sliceBound, asIntOf, run_underlying hu w, Sem.run_bind, h0, h1]
    rw [hr]
    rfl
  · cases h

end

section

variable {K : Type} {D : K → KdE} {sp : K → Option (List (Seg K))} {V : Env} {P : Program} {ops : Array Oper}

def aIndexAddr (P : Program) (σ : St K) (dst : Option Nat) (T : TypeId) (x ix : Operand) : Option (Eff K) :=
  match σ.ev x, lit? (σ.ev ix), P.underlying T with
  | .sl i o n _, some (.int _ j), some (.slice el) => match tySize P el with
    | some s => if (decide (0 ≤ j) && decide (j < n)) = true then some ⟨rdO x ++ rdO ix, wrd dst (.ptr i (o + j.toNat * s))⟩ else none
    | none => none
  | .ptr i o, some (.int _ j), some (.array n el) => match tySize P el with
    | some s => if (decide (0 ≤ j) && decide (j < n)) = true then some ⟨rdO x ++ rdO ix, wrd dst (.ptr i (o + j.toNat * s))⟩ else none
    | none => none
  | _, _, _ => none

theorem run_sizeOf {T s : Nat} (h : tySize P T = some s) (w : World) : (sizeOf T).run P w = .ok s w := by
  cases hi : P.info? T with
  | none => simp [tySize, hi] at h
  | some ti =>
    have hs : ti.size = s := by simpa [tySize, hi] using h
    simp [sizeOf, typeInfo, hi, hs, Sem.run_bind]

theorem aIndexAddr_ok {σ : St K} {o : Oper} {id : Nat} {T : TypeId} {x ix : Operand} {e : Eff K} (ho : o.op = .indexAddr T x ix) (hd : dstOk V.N o.dst = true) (h : aIndexAddr P σ o.dst T x ix = some e) : OpGo D V P o id σ e := by
  intro β a w hI hrd hid Q K' hn
  unfold aIndexAddr at h
  split at h
  · rename_i i off n c k j el hx hix hu
    split at h
    case h_2 => cases h
    rename_i s hs
    split at h
    case isFalse => cases h
    rename_i hb
    rw [Bool.and_eq_true, decide_eq_true_eq, decide_eq_true_eq] at hb
    injection h with h
    subst h
    have hp := ev_ok (x := x) fun k hk => hrd k (memL hk)
    rw [hx] at hp
    obtain ⟨A, hA, hxv⟩ := hp
    have hiv := lit?_ok hix (ev_ok (D := D) fun k hk => hrd k (memR hk))
    refine wp_val (v := .pointer (some ⟨A, off + j.toNat * s, none⟩)) (w' := w) ?_ (nxt_same (x := .ptr i (off + j.toNat * s)) hI hd ⟨A, hA, rfl⟩ hn)
    have had := Addr.add_mid A off (j.toNat * s)
    unfold execOp
    simp [ho, hxv, hiv, Instr.indexAt, asIntOf, run_underlying hu w, run_sizeOf hs w, hb, had, Sem.run_bind]
  · rename_i i off k j n el hx hix hu
    split at h
    case h_2 => cases h
    rename_i s hs
    split at h
    case isFalse => cases h
    rename_i hb
    rw [Bool.and_eq_true, decide_eq_true_eq, decide_eq_true_eq] at hb
    injection h with h
    subst h
    have hp := ev_ok (x := x) fun k hk => hrd k (memL hk)
    rw [hx] at hp
    obtain ⟨A, hA, hxv⟩ := hp
    have hiv := lit?_ok hix (ev_ok (D := D) fun k hk => hrd k (memR hk))
    refine wp_val (v := .pointer (some ⟨A, off + j.toNat * s, none⟩)) (w' := w) ?_ (nxt_same (x := .ptr i (off + j.toNat * s)) hI hd ⟨A, hA, rfl⟩ hn)
    have had := Addr.add_mid A off (j.toNat * s)
    unfold execOp
    simp [ho, hxv, hiv, Instr.indexAt, Instr.sureAddr, asIntOf, run_underlying hu w, run_sizeOf hs w, hb, had, Sem.run_bind]
  · cases h

def aSliceAll (P : Program) (σ : St K) (dst : Option Nat) (T : TypeId) (x : Operand) : Option (Eff K) :=
  match σ.ev x, P.underlying T with
  | .ptr i o, some (.array n el) => match tySize P el with
    | some _ => some ⟨rdO x, wrd dst (.sl i o n n)⟩
    | none => none
  | _, _ => none

theorem aSliceAll_ok {σ : St K} {o : Oper} {id : Nat} {T : TypeId} {x : Operand} {e : Eff K} (ho : o.op = .slice T x none none none) (hd : dstOk V.N o.dst = true) (h : aSliceAll P σ o.dst T x = some e) : OpGo D V P o id σ e := by
  intro β a w hI hrd hid Q K' hn
  unfold aSliceAll at h
  split at h
  case h_2 => cases h
  rename_i i off n el hx hu
  split at h
  case h_2 => cases h
  rename_i s hs
  injection h with h
  subst h
  have hp := ev_ok (x := x) hrd
  rw [hx] at hp
  obtain ⟨A, hA, hxv⟩ := hp
  refine wp_val (v := .slice (some ⟨A, off, none⟩) n n) (w' := w) ?_ (nxt_same (x := .sl i off n n) hI hd ⟨A, hA, rfl⟩ hn)
  unfold execOp
  have had : (⟨A, off, none⟩ : Addr).add 0 = ⟨A, off, none⟩ := rfl
  simp [ho, hxv, Instr.sliceAt, Instr.sureAddr, Instr.sliceBounds, run_underlying hu w, run_sizeOf hs w, had, Sem.run_bind]

def aLenO (P : Program) (σ : St K) (dst : Option Nat) (c : Call) (b : Builtin) : Option (Eff K) :=
  match b, c.args.toList, c.argTypes.toList with
  | .len, [x], [t] => match σ.ev x, P.underlying t with
    | .sl _ _ n _, some (.slice _) => some ⟨rdO x, wrd dst (.val false [.lit (.int .i64 (n : Int))])⟩
    | _, _ => none
  | _, _, _ => none

theorem aLenO_ok {σ : St K} {o : Oper} {id : Nat} {c : Call} {b : Builtin} {e : Eff K} (ho : o.op = .call c) (hc : c.callee = .builtin b) (hd : dstOk V.N o.dst = true) (h : aLenO P σ o.dst c b = some e) : OpGo D V P o id σ e := by
  intro β a w hI hrd hid Q K' hn
  unfold aLenO at h
  split at h
  case h_2 => cases h
  rename_i x t hx ht
  split at h
  case h_2 => cases h
  rename_i i off n cp el hk hu
  injection h with h
  subst h
  have hq := ev_ok (x := x) hrd
  rw [hk] at hq
  obtain ⟨A, hA, h3⟩ := hq
  refine wp_val (v := .int .i64 (n : Int)) (w' := w) ?_ (nxt_same (x := .val false [.lit (.int .i64 (n : Int))]) hI hd (vl_lit _ _) hn)
  unfold execOp
  have e1 : c.args = #[x] := by apply Array.ext'; simpa using hx
  have e2 : c.argTypes = #[t] := by apply Array.ext'; simpa using ht
  simp only [ho, resolve, hc, e1, e2, Sem.run_bind, Sem.run_pure, Result.andThen_ok, invoke, builtin, Builtin.len_]
  simp [h3, run_underlying hu w, Sem.run_bind, goInt]

def aRowO (D : K → KdE) (sp : K → Option (List (Seg K))) (P : Program) (σ : St K) (dst : Option Nat) (id : Nat) (t : TypeId) (len : Nat) (parts : List (Nat × Operand)) : Option (Eff K) :=
  match P.underlying t, dst with
  | some (.slice el), some d => match tySize P el, pureRun P (zeroValue el) with
    | some size, some z => if (decide (len * size ≤ 2 ^ 24) && decide (0 < len * size)) = true then match aFill D sp (fun i => some (i * size, size)) (parts.map fun p => (p.1, σ.ev p.2)) (((Array.range (len * size)).map (z.cells[· % z.cells.size]!)).toList.map .lit) with
        | some ss => if ss.all plainSeg = true then some ⟨parts.flatMap fun p => rdO p.2, [(.slot d, .av (.sl id 0 len len)), (.obj id, .ob ⟨el, ss⟩)]⟩ else none
        | none => none
      else none
    | _, _ => none
  | _, _ => none

theorem aRowO_ok (hsp : SplitOk D sp) {σ : St K} {o : Oper} {id : Nat} {t : TypeId} {len : Nat} {parts : Array (Nat × Operand)} {e : Eff K} (ho : o.op = .buildSlice t len parts) (hd : dstOk V.N o.dst = true) (h : aRowO D sp P σ o.dst id t len parts.toList = some e) : OpGo D V P o id σ e := by
  intro β a w hI hrd hid Q K' hn
  unfold aRowO at h
  split at h
  case h_2 => cases h
  rename_i el d hu hdst
  split at h
  case h_2 => cases h
  rename_i size z hs hz
  split at h
  case isFalse => cases h
  rename_i hb
  rw [Bool.and_eq_true, decide_eq_true_eq, decide_eq_true_eq] at hb
  split at h
  case h_2 => cases h
  rename_i ss hf
  split at h
  case isFalse => cases h
  rename_i hp
  injection h with h
  subst h
  obtain ⟨cs', h1, h2⟩ := aFill_ok (D := D) hsp (β := β) (w := V.see β w) (us := parts.toList.map fun p => (p.1, a.eval p.2)) (by simp) (fun j p u hp hu => by
    simp only [List.getElem?_map, Option.map_eq_some_iff] at hp hu
    obtain ⟨q, hq, rfl⟩ := hp
    obtain ⟨q', hq', rfl⟩ := hu
    rw [hq] at hq'
    injection hq' with hq'
    subst hq'
    exact ev_ok fun k hk => hrd k (List.mem_flatMap.2 ⟨q, List.mem_of_getElem? hq, hk⟩)) hf (segs_lits (V.see β w) _)
  rw [hdst] at hd
  refine wp_val (v := .slice (some ⟨w.heap.size, 0, none⟩) len len) (w' := w.alloc (.cells cs'.toArray el)) ?_ ?_
  · unfold execOp
    have e1 : (parts.map fun (p : Nat × Operand) => (p.1, a.eval p.2)) = (parts.toList.map fun p => (p.1, a.eval p.2)).toArray := by apply Array.ext'; simp
    simp only [ho, Sem.run_bind]
    rw [show (fun (x : Nat × Operand) => match x with | (i, x) => (i, a.eval x)) = fun (p : Nat × Operand) => (p.1, a.eval p.2) from rfl, e1]
    have h1' : Instr.fill (fun i => some (i * size, size)) ((Array.range (len * size)).map (z.cells[· % z.cells.size]!)) (parts.toList.map fun p => (p.1, a.eval p.2)) = some cs'.toArray := by
      rw [← h1, Array.toArray_toList]
    unfold Instr.buildSlice
    simp only [Sem.run_bind, run_underlying hu w, Result.andThen_ok, run_sizeOf hs w]
    rw [if_neg (by omega), if_neg (by omega)]
    simp only [Sem.run_bind, pureRun_ok hz w, Result.andThen_ok, Sem.run_pure, h1']
    rfl
  · rw [hdst]
    exact nxt_newx (x := .sl id 0 len len) hI hd hid hp h2 (fun _ _ e => ⟨_, e, rfl⟩) hn

def EltOk (D : K → KdE) (_P : Program) (elt : K → Nat → Nat → TypeId → Option (List Prop × List (Seg K))) : Prop := ∀ k s j T obs ss, elt k s j T = some (obs, ss) → (∀ p ∈ obs, p) → ∀ (w : World) (a : Addr) (n c : Nat), (D k).φ w [.slice (some a) n c] → j < n →
  ∃ b off cs, a = ⟨b, off, none⟩ ∧ segs D w ss cs ∧ cs.length = s ∧ w.rangeAt b (off + j * s) cs

def aIndexK (P : Program) (len : K → Option Nat) (σ : St K) (dst : Option Nat) (T : TypeId) (x ix : Operand) : Option (List Prop × Eff K) :=
  match σ.ev x, lit? (σ.ev ix), P.underlying T with
  | .val false [.sem k], some (.int .i64 j), some (.slice el) => match tySize P el, len k with
    | some s, some n => some ([0 ≤ j, j < (n : Int)], ⟨rdO x ++ rdO ix, wrd dst (.dp k s j.toNat)⟩)
    | _, _ => none
  | _, _, _ => none

theorem aIndexK_ok {len : K → Option Nat} (hl : LenOk D len) {σ : St K} {o : Oper} {id : Nat} {T : TypeId} {x ix : Operand} {obs : List Prop} {e : Eff K} (ho : o.op = .indexAddr T x ix) (hd : dstOk V.N o.dst = true) (h : aIndexK P len σ o.dst T x ix = some (obs, e)) (hobs : ∀ p ∈ obs, p) : OpGo D V P o id σ e := by
  intro β a w hI hrd hid Q K' hn
  unfold aIndexK at h
  split at h
  case h_2 => cases h
  rename_i k j el hx hj hu
  split at h
  case h_2 => cases h
  rename_i s n hs hln
  injection h with h
  injection h with h1 h2
  subst h1; subst h2
  have h0 : 0 ≤ j := hobs _ (by simp)
  have h1 : j < (n : Int) := hobs _ (by simp)
  have q1 := ev_ok (x := x) fun k hk => hrd k (memL hk)
  rw [hx] at q1
  have q2 := lit?_ok hj (ev_ok (D := D) fun k hk => hrd k (memR hk))
  have hφ := one_sem q1
  obtain ⟨p, c, hv, hnil⟩ := hl k n hln _ _ hφ
  rw [hv] at hφ
  cases p with
  | none => exact absurd (hnil rfl) (by omega)
  | some ad =>
    refine wp_val (v := .pointer (some (ad.add (j.toNat * s)))) (w' := w) ?_ (nxt_same (x := .dp k s j.toNat) hI hd ⟨ad, n, c, hφ, by omega, rfl⟩ hn)
    unfold execOp
    simp only [ho, q2, hv, Sem.run_bind]
    have hr : (Instr.indexAt T (.slice (some ad) n c) (.int .i64 j)).run P w = .ok (.pointer (some (ad.add (j.toNat * s)))) w := by
      simp [Instr.indexAt, asIntOf, run_underlying hu w, Sem.run_bind, h0, h1, run_sizeOf hs w]
    rw [hr]
    rfl

def rowN (g : Bool) (n : Nat) : Nat := if g then n else 1

def aLoadK (_D : K → KdE) (elt : K → Nat → Nat → TypeId → Option (List Prop × List (Seg K))) (P : Program) (σ : St K) (dst : Option Nat) (T : TypeId) (x : Operand) : Option (List Prop × Eff K) :=
  match σ.ev x, tyRow P T, tySize P T with
  | .dp k s j, some g, some n => if (rowN g n == s) = true then (elt k s j T).map fun r => (r.1, ⟨rdO x, wrd dst (.val g r.2)⟩) else none
  | _, _, _ => none

theorem aLoadK_ok {elt : K → Nat → Nat → TypeId → Option (List Prop × List (Seg K))} (hl : EltOk D P elt) {σ : St K} {o : Oper} {id : Nat} {T : TypeId} {x : Operand} {obs : List Prop} {e : Eff K} (ho : o.op = .load T x) (hd : dstOk V.N o.dst = true) (h : aLoadK D elt P σ o.dst T x = some (obs, e)) (hobs : ∀ p ∈ obs, p) : OpGo D V P o id σ e := by
  intro β a w hI hrd hid Q K' hn
  unfold aLoadK at h
  split at h
  case h_2 => cases h
  rename_i k s j g n hx hg hs
  split at h
  case isFalse => cases h
  rename_i hsz
  simp only [Option.map_eq_some_iff, Prod.mk.injEq] at h
  obtain ⟨⟨obs', ss⟩, hk, e0, rfl⟩ := h
  have e0 : obs' = obs := e0
  subst e0
  have q1 := ev_ok (x := x) hrd
  rw [hx] at q1
  obtain ⟨ad, m, c, hφ, hjm, hv⟩ := q1
  obtain ⟨b, off, cs, rfl, hsg, hcl, hrange⟩ := hl k s j T obs' ss hk hobs _ ad m c hφ hjm
  rw [Addr.add_lit] at hv
  have hrange' : w.rangeAt b (off + j * s) cs := fun i q hq => (grows_hide _ w).cell (hrange i q hq)
  have hsz' : rowN g n = s := beq_iff_eq.1 hsz
  unfold tyRow at hg
  cases hud : P.underlying T with
  | none => rw [hud] at hg; cases hg
  | some d =>
    rw [hud] at hg
    injection hg with hg
    have hrun : (loadVar T ⟨b, off + j * s, none⟩).run P w = .ok (mkV g cs) w := by
      cases g with
      | true => exact run_loadVar_mid (P := P) w b (off + j * s) T cs d hrange' hud hg (by rw [hcl, ← hsz']; exact hs)
      | false =>
        have hy1 : cs.length = 1 := by rw [hcl, ← hsz']; rfl
        obtain ⟨q, rfl⟩ : ∃ q, cs = [q] := by
          match cs, hy1 with
          | [q], _ => exact ⟨q, rfl⟩
        have hagg : (isAgg T).run P w = .ok false w := by
          unfold isAgg
          rw [Sem.run_bind, run_underlying hud w]
          cases d <;> simp_all
        have hc := hrange' 0 q rfl
        rw [Nat.add_zero] at hc
        simp only [Sem.run_bind, Result.andThen_ok, loadVar, hagg, load, Sem.run, Bool.false_eq_true, if_false, hc]
        rfl
    refine wp_val (v := mkV g cs) (w' := w) ?_ (nxt_same (x := .val g ss) hI hd ⟨cs, hsg, rfl, fun hg0 => by subst hg0; rw [hcl, ← hsz']; rfl⟩ hn)
    unfold execOp
    simp only [ho, hv, Instr.loadAt, Instr.sureAddr, Sem.run_bind, Sem.run_pure, Result.andThen_ok, hrun]

end

end Go.Proofs.YtagciepnhjbopaaGreatDoor.En
