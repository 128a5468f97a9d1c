/- What the statements of this claim stand on: of En3, what they name -/
import Derived.Test.YtagciepnhjbopaaGreatDoorT02

namespace Go.Proofs.YtagciepnhjbopaaGreatDoor.En
open Go Go.RowKit

section

variable {K : Type} {D : K → KdE} {V : Env} {P : Program} {ops : Array Oper}

def noPtr : AV K → Bool
  | .ptr _ _ | .sl _ _ _ _ => false
  | _ => true

def avs (D : K → KdE) (β : Nat → Option Nat) (w : World) : List (AV K) → List Value → Prop
  | [], vs => vs = []
  | x :: xs, vs => ∃ v us, vs = v :: us ∧ x.holds D β w v ∧ avs D β w xs us

theorem avs_map {β : Nat → Option Nat} {w : World} {σ : St K} {a : Act} : ∀ {xs : List Operand}, (∀ x ∈ xs, (σ.ev x).holds D β w (a.eval x)) → avs D β w (xs.map σ.ev) (xs.map a.eval)
  | [], _ => rfl
  | x :: _, h => ⟨_, _, rfl, h x List.mem_cons_self, avs_map fun y hy => h y (List.mem_cons_of_mem _ hy)⟩

theorem holds_none {β : Nat → Option Nat} {w : World} {x : AV K} {v : Value} (h : noPtr x = true) (hx : x.holds D β w v) : x.holds D (fun _ => none) w v := by
  cases x with
  | ptr i o => cases h
  | sl i o n c => cases h
  | dp k s j => exact hx
  | any => exact hx
  | val g ss => exact hx
  | tup ts => exact hx

theorem avs_none {β : Nat → Option Nat} {w : World} : ∀ {xs : List (AV K)} {vs : List Value}, xs.all noPtr = true → avs D β w xs vs → avs D (fun _ => none) w xs vs
  | [], _, _, h => h
  | _ :: _, _, hp, ⟨v, us, e, h1, h2⟩ => by
    simp only [List.all_cons, Bool.and_eq_true] at hp
    exact ⟨v, us, e, holds_none hp.1 h1, avs_none hp.2 h2⟩

def Ret (D : K → KdE) (S : Nat → Prop) (r : AV K) (w : World) (e : Ending) (w' : World) : Prop := ∃ u, e = .returned u ∧ r.holds D (fun _ => none) (hide S w') u ∧ Fr0 w w'

def Con (D : K → KdE) (P : Program) (E : World → Prop) (f : FuncId) (args : List (AV K)) (r : AV K) : Prop :=
  (∃ fn, P.funcs[f]? = some fn ∧ (fn.name == "runtime.NumGoroutine") = false ∧ fn.body.isNone = false) ∧
    ∀ (S : Nat → Prop) (w : World) (vs : List Value), E (hide S w) → (∀ b, S b → Plain w b) → avs D (fun _ => none) (hide S w) args vs → Calls P f vs.toArray w (Ret D S r w)

def only0 (A : Nat) : Nat → Option Nat := fun i => if i = 0 then some A else none

def lentId : List (AV K) → Option Nat
  | [] => none
  | .ptr i _ :: _ => some i
  | .sl i _ _ _ :: _ => some i
  | _ :: xs => lentId xs

def ren (i : Nat) : AV K → Option (AV K)
  | .ptr j o => if j = i then some (.ptr 0 o) else none
  | .sl j o n c => if j = i then some (.sl 0 o n c) else none
  | x => some x

def rens (i : Nat) : List (AV K) → Option (List (AV K))
  | [] => some []
  | x :: xs => match ren i x, rens i xs with
    | some y, some ys => some (y :: ys)
    | _, _ => none

theorem ren_ok {β : Nat → Option Nat} {w : World} {i A : Nat} (hA : β i = some A) {x y : AV K} {v : Value} (h : ren i x = some y) (hx : x.holds D β w v) : y.holds D (only0 A) w v := by
  cases x with
  | ptr j o =>
    simp only [ren] at h
    split at h
    · rename_i e; subst e; injection h with h; subst h; obtain ⟨B, h1, h2⟩ := hx; rw [hA] at h1; injection h1 with h1; subst h1; exact ⟨A, rfl, h2⟩
    · cases h
  | sl j o n c =>
    simp only [ren] at h
    split at h
    · rename_i e; subst e; injection h with h; subst h; obtain ⟨B, h1, h2⟩ := hx; rw [hA] at h1; injection h1 with h1; subst h1; exact ⟨A, rfl, h2⟩
    · cases h
  | any => injection h with h; subst h; exact hx
  | dp k s j => injection h with h; subst h; exact hx
  | val g ss => injection h with h; subst h; exact hx
  | tup ts => injection h with h; subst h; exact hx

theorem rens_ok {β : Nat → Option Nat} {w : World} {i A : Nat} (hA : β i = some A) : ∀ {xs ys : List (AV K)} {vs : List Value}, rens i xs = some ys → avs D β w xs vs → avs D (only0 A) w ys vs
  | [], ys, vs, h, hv => by injection h with h; subst h; exact hv
  | x :: xs, ys, vs, h, ⟨v, us, e, h1, h2⟩ => by
    unfold rens at h
    split at h
    · rename_i y ys' hy hys
      injection h with h
      subst h
      exact ⟨v, us, e, ren_ok hA hy h1, rens_ok hA hys h2⟩
    · cases h

def RetL (D : K → KdE) (S : Nat → Prop) (A : Nat) (T : TypeId) (r : AV K) (ss : List (Seg K)) (w : World) (e : Ending) (w' : World) : Prop :=
  ∃ u cs, e = .returned u ∧ r.holds D (fun _ => none) (hide (fun b => S b ∨ b = A) w') u ∧ w'.heap[A]? = some (Obj.cells (List.toArray cs) T (0, 0)) ∧ (∀ v ∈ cs, cellOk v = true) ∧ segs D (hide (fun b => S b ∨ b = A) w') ss cs ∧ FrL (fun b => b = A) w w'

def ConL (D : K → KdE) (P : Program) (E : World → Prop) (f : FuncId) (args : List (AV K)) (T : TypeId) (ss : List (Seg K)) (r : AV K) (ss' : List (Seg K)) : Prop :=
  (∃ fn, P.funcs[f]? = some fn ∧ (fn.name == "runtime.NumGoroutine") = false ∧ fn.body.isNone = false) ∧
    ∀ (S : Nat → Prop) (w : World) (vs : List Value) (A : Nat) (cs : List Value), E (hide (fun b => S b ∨ b = A) w) → (∀ b, S b → Plain w b) → ¬ S A → w.heap[A]? = some (Obj.cells (List.toArray cs) T (0, 0)) → (∀ v ∈ cs, cellOk v = true) → segs D (hide (fun b => S b ∨ b = A) w) ss cs →
      avs D (only0 A) (hide (fun b => S b ∨ b = A) w) args vs → Calls P f vs.toArray w (RetL D S A T r ss' w)

structure TbOk (D : K → KdE) (P : Program) (E : World → Prop) (tb : Tb K) : Prop where
  split : SplitOk D tb.split
  len : LenOk D tb.len
  row : RowOk D tb.row
  app : AppOk D P tb.app
  elt : EltOk D P tb.elt
  call : ∀ f args ds obs r ds', tb.call f args ds = some (obs, r, ds') → (∀ p ∈ obs, p) → Con D P E f args r
  lend : ∀ f args T ss ds obs r ss' ds', tb.lend f args T ss ds = some (obs, r, ss', ds') → (∀ p ∈ obs, p) → ConL D P E f args T ss r ss'

def aCall (tb : Tb K) (σ : St K) (dst : Option Nat) (x : Operand) (args : List Operand) (ds : List (Option Bool)) : Option (List Prop × Eff K × List (Option Bool)) :=
  match σ.ev x with
  | .val false [.lit (.func (.func f) ⟨[]⟩ ⟨[]⟩)] => if (args.map σ.ev).all noPtr = true then match tb.call f (args.map σ.ev) ds with
      | some (obs, r, ds') => some (obs, ⟨rdO x ++ args.flatMap rdO, wrd dst r⟩, ds')
      | none => none
    else none
  | _ => none

theorem aCall_ok {tb : Tb K} (ht : TbOk D P V.E tb) {σ : St K} {o : Oper} {id : Nat} {x : Operand} {c : Call} {ds ds' : List (Option Bool)} {obs : List Prop} {e : Eff K} (ho : o.op = .call c) (hc : c.callee = .value x) (hd : dstOk V.N o.dst = true) (h : aCall tb σ o.dst x c.args.toList ds = some (obs, e, ds')) (hobs : ∀ p ∈ obs, p) : OpGo D V P o id σ e := by
  intro β a w hI hrd hid Q K' hn
  unfold aCall at h
  split at h
  case h_2 => cases h
  rename_i f hx
  split at h
  case isFalse => cases h
  rename_i hnp
  split at h
  case h_2 => cases h
  rename_i obs' r ds1 hcall
  injection h with h
  injection h with h1 h2
  injection h2 with h2 h3
  subst h1; subst h2
  obtain ⟨⟨fn, hfn, hname, hbody⟩, hcon⟩ := ht.call _ _ _ _ _ _ hcall hobs
  have hargs := avs_none hnp (avs_map (D := D) (β := β) (w := V.see β w) (a := a) fun x hx => ev_ok fun k hk => hrd k (memR (List.mem_flatMap.2 ⟨x, hx, hk⟩)))
  have hfx := ev_ok (x := x) fun k hk => hrd k (memL hk)
  rw [hx] at hfx
  have hfx := vl_lit_inv hfx
  have hC := hcon (V.hid β) w _ hI.e (by
    rintro b (hb | ⟨i, hb⟩)
    · exact (hI.old b hb).2
    · exact (hI.own i b hb).2) hargs
  have hrun : (execOp a.eval o).run P w = .ok (.enter f (c.args.toList.map a.eval).toArray) w := by
    unfold execOp
    simp only [ho, resolve, hc, hfx, Deferred.ofValue, Sem.run_bind, Sem.run_pure, Result.andThen_ok, invoke, callFunc, program, Sem.run, hfn, hname, hbody, Bool.false_eq_true, if_false]
    rw [show (⟨[]⟩ : Array Value) ++ Array.map a.eval c.args ++ ⟨[]⟩ = (List.map a.eval c.args.toList).toArray by apply Array.ext'; simp]
  unfold Oper.wp
  rw [hrun]
  refine Calls.mono hC ?_
  rintro e w' ⟨u, rfl, hu, hf⟩
  exact nxt_fr hI hd hf (AV.up (fun _ _ h => by cases h) (Grows.refl _) hu) hn

def aCallL (tb : Tb K) (σ : St K) (dst : Option Nat) (x : Operand) (args : List Operand) (ds : List (Option Bool)) : Option (List Prop × Eff K × List (Option Bool)) :=
  match σ.ev x with
  | .val false [.lit (.func (.func f) ⟨[]⟩ ⟨[]⟩)] => match lentId (args.map σ.ev) with
    | some i => match rens i (args.map σ.ev), σ (.obj i) with
      | some xs, .ob o => match tb.lend f xs o.T o.ss ds with
        | some (obs, r, ss', ds') => some (obs, ⟨.obj i :: (rdO x ++ args.flatMap rdO), wrd dst r ++ [(.obj i, .ob ⟨o.T, ss'⟩)]⟩, ds')
        | none => none
      | _, _ => none
    | none => none
  | _ => none

theorem aCallL_ok {tb : Tb K} (ht : TbOk D P V.E tb) {σ : St K} {o : Oper} {id : Nat} {x : Operand} {c : Call} {ds ds' : List (Option Bool)} {obs : List Prop} {e : Eff K} (ho : o.op = .call c) (hc : c.callee = .value x) (hd : dstOk V.N o.dst = true) (h : aCallL tb σ o.dst x c.args.toList ds = some (obs, e, ds')) (hobs : ∀ p ∈ obs, p) : OpGo D V P o id σ e := by
  intro β a w hI hrd hid Q K' hn
  unfold aCallL at h
  split at h
  case h_2 => cases h
  rename_i f hx
  split at h
  case h_2 => cases h
  rename_i i hi
  split at h
  case h_2 => cases h
  rename_i xs ob hxs hob
  split at h
  case h_2 => cases h
  rename_i obs' r ss' ds1 hcall
  injection h with h
  injection h with h1 h2
  injection h2 with h2 h3
  subst h1; subst h2
  have hbox := hrd (.obj i) List.mem_cons_self
  rw [hob] at hbox
  obtain ⟨A, cs, hA, hcell, hsegs⟩ := hbox
  obtain ⟨⟨fn, hfn, hname, hbody⟩, hcon⟩ := ht.lend _ _ _ _ _ _ _ _ _ hcall hobs
  have hS : (fun b => (V.hid β b ∧ b ≠ A) ∨ b = A) = V.hid β := by
    funext b
    apply propext
    constructor
    · rintro (h | rfl)
      · exact h.1
      · exact Or.inr ⟨i, hA⟩
    · intro h
      by_cases e : b = A
      · exact Or.inr e
      · exact Or.inl ⟨h, e⟩
  have hpl : ∀ v ∈ cs, cellOk v = true := by
    obtain ⟨_, cs', T', e', hp⟩ := hI.own i A hA
    rw [hcell] at e'
    injection e' with e'
    injection e' with e' _ _
    have : cs = cs' := by simpa using e'
    rw [this]
    exact hp
  have hargs := rens_ok hA hxs (avs_map (D := D) (β := β) (w := V.see β w) (a := a) fun x hx => ev_ok fun k hk => hrd k (List.mem_cons_of_mem _ (memR (List.mem_flatMap.2 ⟨x, hx, hk⟩))))
  have hfx := ev_ok (x := x) fun k hk => hrd k (List.mem_cons_of_mem _ (memL hk))
  rw [hx] at hfx
  have hfx := vl_lit_inv hfx
  have hC := hcon (fun b => V.hid β b ∧ b ≠ A) w _ A cs (by rw [hS]; exact hI.e) (by
    rintro b ⟨hb | ⟨j, hb⟩, _⟩
    · exact (hI.old b hb).2
    · exact (hI.own j b hb).2) (fun h => h.2 rfl) hcell hpl (by rw [hS]; exact hsegs) (by rw [hS]; exact hargs)
  have hrun : (execOp a.eval o).run P w = .ok (.enter f (c.args.toList.map a.eval).toArray) w := by
    unfold execOp
    simp only [ho, resolve, hc, hfx, Deferred.ofValue, Sem.run_bind, Sem.run_pure, Result.andThen_ok, invoke, callFunc, program, Sem.run, hfn, hname, hbody, Bool.false_eq_true, if_false]
    rw [show (⟨[]⟩ : Array Value) ++ Array.map a.eval c.args ++ ⟨[]⟩ = (List.map a.eval c.args.toList).toArray by apply Array.ext'; simp]
  unfold Oper.wp
  rw [hrun]
  refine Calls.mono hC ?_
  rintro e w' ⟨u, cs', rfl, hu, hcell', hp', hsegs', hf⟩
  rw [hS] at hu hsegs'
  exact nxt_lend (x := r) hI hd hA hf hcell' hp' hsegs' (AV.up (fun _ _ h => by cases h) (Grows.refl _) hu) hn

def aOp (D : K → KdE) (tb : Tb K) (P : Program) (σ : St K) (id : Nat) (o : Oper) (ds : List (Option Bool)) : Option (List Prop × Eff K × List (Option Bool)) :=
  match o.op with
  | .load T x => match aLoad D tb.split P σ o.dst T x with
    | some e => some ([], e, ds)
    | none => (aLoadK D tb.elt P σ o.dst T x).map fun e => (e.1, e.2, ds)
  | .store T x v => (aStore D tb.split P σ o.dst T x v).map fun e => ([], e, ds)
  | .box T x => (aBox σ o.dst id T x).map fun e => ([], e, ds)
  | .alloc T => (aAlloc P o.dst id T).map fun e => ([], e, ds)
  | .fieldAddr T x f => (aFieldAddr P σ o.dst T x f).map fun e => ([], e, ds)
  | .indexAddr T x ix => match aIndexAddr P σ o.dst T x ix with
    | some e => some ([], e, ds)
    | none => (aIndexK P tb.len σ o.dst T x ix).map fun e => (e.1, e.2, ds)
  | .slice T x none none none => (aSliceAll P σ o.dst T x).map fun e => ([], e, ds)
  | .slice T x lo hi none => (aSub P σ o.dst T x lo hi).map fun e => (e.1, e.2, ds)
  | .index T x ix => (aIdx P σ o.dst T x ix).map fun e => (e.1, e.2, ds)
  | .move x | .assign x => (aMove σ o.dst x).map fun e => ([], e, ds)
  | .pick c x y => (aPick σ o.dst c x y).map fun e => ([], e, ds)
  | .extract x k => (aExtract σ o.dst x k).map fun e => ([], e, ds)
  | .build T ps => (aBuild D tb.split P σ o.dst T ps.toList).map fun e => ([], e, ds)
  | .field T x f => (aField D tb.split P σ o.dst T x f).map fun e => ([], e, ds)
  | .buildSlice t n ps => match aRow P tb.row σ o.dst t n ps.toList with
    | some e => some (e.1, e.2, ds)
    | none => (aRowO D tb.split P σ o.dst id t n ps.toList).map fun e => ([], e, ds)
  | .call c => match c.callee with
    | .value x => match aCall tb σ o.dst x c.args.toList ds with
      | some p => some p
      | none => aCallL tb σ o.dst x c.args.toList ds
    | .builtin b => match aLenO P σ o.dst c b with
      | some e => some ([], e, ds)
      | none => match aApp tb.app σ o.dst c b with
        | some e => some (e.1, e.2, ds)
        | none => (aBuiltin P tb.len σ o.dst o.type c b).map fun e => ([], e, ds)
    | _ => none
  | .binOp .add t x y yt => match aCat σ o.dst x y with
    | some r => some (r.1, r.2, ds)
    | none => (aWord P σ o.dst (.binOp .add t x y yt)).map fun e => ([], e, ds)
  | op => (aWord P σ o.dst op).map fun e => ([], e, ds)

theorem aOp_ok {tb : Tb K} (ht : TbOk D P V.E tb) {σ : St K} {o : Oper} {id : Nat} {ds ds' : List (Option Bool)} {obs : List Prop} {e : Eff K} (hd : dstOk V.N o.dst = true) (h : aOp D tb P σ id o ds = some (obs, e, ds')) (hobs : ∀ p ∈ obs, p) : OpGo D V P o id σ e := by
  unfold aOp at h
  split at h <;> first
    | (rename_i ho; split at h
       · rename_i hc
         split at h
         · rename_i p hp; injection h with h; subst h; exact aCall_ok ht ho hc hd hp hobs
         · exact aCallL_ok ht ho hc hd h hobs
       · rename_i hc
         split at h
         · rename_i e' hl
           simp only [Option.some.injEq, Prod.mk.injEq] at h
           obtain ⟨-, rfl, -⟩ := h
           exact aLenO_ok ho hc hd hl
         · split at h
           · rename_i hl
             simp only [Option.some.injEq, Prod.mk.injEq] at h
             obtain ⟨rfl, rfl, -⟩ := h
             exact aApp_ok ht.app ho hc hd hl hobs
           · simp only [Option.map_eq_some_iff, Prod.mk.injEq] at h
             obtain ⟨e', h, -, rfl, -⟩ := h
             exact aBuiltin_ok ht.len ho hc hd h
       · cases h)
    | (rename_i ho; split at h
       · rename_i hc; simp only [Option.some.injEq, Prod.mk.injEq] at h; obtain ⟨rfl, rfl, -⟩ := h; exact aRow_ok ht.row ho hd hc hobs
       · simp only [Option.map_eq_some_iff, Prod.mk.injEq] at h
         obtain ⟨e', h, -, rfl, -⟩ := h
         exact aRowO_ok ht.split ho hd h)
    | (rename_i ho; split at h
       · rename_i hc; simp only [Option.some.injEq, Prod.mk.injEq] at h; obtain ⟨-, rfl, -⟩ := h
         first
           | exact aLoad_ok ht.split ho hd hc
           | exact aIndexAddr_ok ho hd hc
       · simp only [Option.map_eq_some_iff, Prod.mk.injEq] at h
         obtain ⟨⟨ob, e'⟩, h, rfl, rfl, -⟩ := h
         first
           | exact aLoadK_ok ht.elt ho hd h hobs
           | exact aIndexK_ok ht.len ho hd h hobs)
    | (rename_i ho; split at h
       · rename_i hc; simp only [Option.some.injEq, Prod.mk.injEq] at h; obtain ⟨rfl, rfl, -⟩ := h; exact aCat_ok ho hd hc hobs
       · simp only [Option.map_eq_some_iff, Prod.mk.injEq] at h
         obtain ⟨e', h, -, rfl, -⟩ := h
         exact aWord_ok hd (by rw [ho]; exact h))
    | (rename_i ho
       simp only [Option.map_eq_some_iff, Prod.mk.injEq] at h
       obtain ⟨⟨ob, e'⟩, h, rfl, rfl, -⟩ := h
       first
         | exact aSub_ok ho hd h hobs
         | exact aIdx_ok ho hd h hobs)
    | (simp only [Option.map_eq_some_iff, Prod.mk.injEq] at h
       obtain ⟨e', h, -, rfl, -⟩ := h
       first
         | exact aLoad_ok ht.split (by assumption) hd h
         | exact aStore_ok ht.split (by assumption) hd h
         | exact aBuild_ok ht.split (by assumption) hd h
         | exact aField_ok ht.split (by assumption) hd h
         | exact aBox_ok (by assumption) hd h
         | exact aAlloc_ok (by assumption) hd h
         | exact aFieldAddr_ok (by assumption) hd h
         | exact aIndexAddr_ok (by assumption) hd h
         | exact aSliceAll_ok (by assumption) hd h
         | exact aMove_ok (Or.inl (by assumption)) hd h
         | exact aMove_ok (Or.inr (by assumption)) hd h
         | exact aPick_ok (by assumption) hd h
         | exact aExtract_ok (by assumption) hd h
         | exact aWord_ok hd h)

def settle (e : Eff K) (ds : List (Option Bool)) : List Prop × Eff K × List (Option Bool) :=
  match e.wr with
  | [(k, .av (.val false [.lit (.bool b)]))] => match ds with
    | some c :: ds => ([b = c], ⟨e.rd, [(k, .av (.val false [.lit (.bool c)]))]⟩, ds)
    | none :: ds => ([], e, ds)
    | [] => ([], e, [])
  | _ => ([], e, ds)

theorem settle_ok {e e' : Eff K} {ds ds' : List (Option Bool)} {obs : List Prop} {o : Oper} {id : Nat} {σ : St K} (h : settle e ds = (obs, e', ds')) (hobs : ∀ p ∈ obs, p) (hg : OpGo D V P o id σ e) : OpGo D V P o id σ e' := by
  unfold settle at h
  split at h
  · rename_i k b hw
    split at h
    · rename_i c ds0
      simp only [Prod.mk.injEq] at h
      obtain ⟨rfl, rfl, rfl⟩ := h
      have hb : b = c := hobs _ (List.mem_singleton_self _)
      subst hb
      have : e = ⟨e.rd, [(k, .av (.val false [.lit (.bool b)]))]⟩ := by rw [← hw]
      rw [this] at hg
      exact hg
    · simp only [Prod.mk.injEq] at h; obtain ⟨-, rfl, -⟩ := h; exact hg
    · simp only [Prod.mk.injEq] at h; obtain ⟨-, rfl, -⟩ := h; exact hg
  · simp only [Prod.mk.injEq] at h; obtain ⟨-, rfl, -⟩ := h; exact hg

def aStep (D : K → KdE) (tb : Tb K) (P : Program) (N : Nat) (ops : Array Oper) (σ : St K) (id : Nat) (o : Oper) (ds : List (Option Bool)) : Option (List Prop × Eff K × List (Option Bool)) :=
  if dstOk N o.dst = true then
    match o.guard with
    | none => match aOp D tb P σ id o ds with
      | some (obs, e, ds) => match settle e ds with
        | (obs', e', ds') => some (obs ++ obs', e', ds')
      | none => none
    | some (j, want) => match (ops[j]?).bind (·.dst) with
      | some g => if g < N then match σ.sl g with
        | .val false [.lit (.bool b)] => if (b == want) = true then match aOp D tb P σ id o ds with
            | some (obs, e, ds) => match settle e ds with
              | (obs', e', ds') => some (obs ++ obs', ⟨.slot g :: e'.rd, e'.wr⟩, ds')
            | none => none
          else some ([], ⟨[.slot g], wrd o.dst (.val false [.lit undef])⟩, ds)
        | .val false [.lit (.tuple ⟨[]⟩)] => some ([], ⟨[.slot g], wrd o.dst (.val false [.lit undef])⟩, ds)
        | _ => none
        else none
      | none => none
  else none

theorem aStep_ok {tb : Tb K} (ht : TbOk D P V.E tb) {σ : St K} {o : Oper} {id : Nat} {obs : List Prop} {e : Eff K} {ds ds' : List (Option Bool)} (h : aStep D tb P V.N ops σ id o ds = some (obs, e, ds')) (hobs : ∀ p ∈ obs, p) : OpOk D V P ops o id σ e := by
  unfold aStep at h
  split at h
  case isFalse => cases h
  rename_i hd
  intro β a w hI hrd hid Q K' hn
  split at h
  · rename_i hg
    rw [if_pos (by unfold Region.wanted; rw [hg])]
    split at h
    case h_2 => cases h
    rename_i obs1 e1 ds1 h1
    split at h
    rename_i obs2 e2 ds2 h2
    simp only [Option.some.injEq, Prod.mk.injEq] at h
    obtain ⟨rfl, rfl, rfl⟩ := h
    exact settle_ok h2 (fun p hp => hobs p (memR hp)) (aOp_ok ht hd h1 fun p hp => hobs p (memL hp)) β a w hI hrd hid Q K' hn
  · rename_i j want hg
    split at h
    case h_2 => cases h
    rename_i g hj
    split at h
    case isFalse => cases h
    rename_i hgN
    have hvl : ∀ {v : Value}, σ.sl g = .val false [.lit v] → (∀ k ∈ [Key.slot g], At D V β a w k (σ k)) → a.tmps[g]? = some v := by
      intro v hb hk
      have h1 := ev_ok (x := .tmp g) hk
      rw [show σ.ev (.tmp g) = σ.sl g from rfl, hb] at h1
      have h2 := vl_lit_inv h1
      have h3 : a.tmps.getD g undef = v := h2
      rw [← hI.nt] at hgN
      rw [Array.getElem?_eq_getElem hgN]
      simpa [Array.getD_eq_getD_getElem?, hgN] using h3
    split at h
    case h_3 => cases h
    case h_2 hb =>
      simp only [Option.some.injEq, Prod.mk.injEq] at h
      obtain ⟨rfl, rfl, rfl⟩ := h
      have hv := hvl hb hrd
      have hy : yielded ops a.tmps j = none := by
        unfold yielded
        rw [hj, Option.bind_some, hv]
      rw [if_neg (by unfold Region.wanted; rw [hg]; simp only [hy]; simp)]
      exact nxt_same (x := AV.val false [.lit undef]) hI hd (vl_lit _ undef) hn
    rename_i b hb
    have hval : (∀ k ∈ [Key.slot g], At D V β a w k (σ k)) → a.tmps[g]? = some (.bool b) := hvl hb
    have hy : a.tmps[g]? = some (.bool b) → yielded ops a.tmps j = some b := by
      intro e
      unfold yielded
      rw [hj, Option.bind_some, e]
    split at h
    · rename_i hbw
      split at h
      case h_2 => cases h
      rename_i obs1 e1 ds1 h1
      split at h
      rename_i obs2 e2 ds2 h2
      simp only [Option.some.injEq, Prod.mk.injEq] at h
      obtain ⟨rfl, rfl, rfl⟩ := h
      have hv := hval fun k hk => hrd k (by rw [List.mem_singleton.1 hk]; exact List.mem_cons_self)
      rw [if_pos (by unfold Region.wanted; rw [hg]; simp only [hy hv]; rw [beq_iff_eq] at hbw; rw [hbw]; simp)]
      exact settle_ok h2 (fun p hp => hobs p (memR hp)) (aOp_ok ht hd h1 fun p hp => hobs p (memL hp)) β a w hI (fun k hk => hrd k (List.mem_cons_of_mem _ hk)) hid Q K' hn
    · rename_i hbw
      simp only [Option.some.injEq, Prod.mk.injEq] at h
      obtain ⟨rfl, rfl, rfl⟩ := h
      have hv := hval hrd
      rw [if_neg (by unfold Region.wanted; rw [hg]; simp only [hy hv]; intro hx; simp at hx; subst hx; simp at hbw)]
      exact nxt_same (x := AV.val false [.lit undef]) hI hd (vl_lit _ undef) hn

end

section

variable {K : Type}

def aOps (D : K → KdE) (tb : Tb K) (P : Program) (N : Nat) (ops : Array Oper) : List Oper → Nat → St K → List (Option Bool) → Option (List Prop × List (Eff K) × St K × List (Option Bool))
  | [], _, σ, ds => some ([], [], σ, ds)
  | o :: os, id, σ, ds => match aStep D tb P N ops σ id o ds with
    | some (obs, e, ds') => match aOps D tb P N ops os (id + 1) (e.app σ) ds' with
      | some (obs', es, σ', ds'') => some (obs ++ obs', e :: es, σ', ds'')
      | none => none
    | none => none

inductive Out where
  | normal
  | exit (id : Nat)
  | ret

def Out.fits (Q : Exit → Act → World → Prop) : Out → Act → World → Prop
  | .normal => Q .normal
  | .exit id => Q (.exit id)
  | .ret => Q .ret

def Goes (D : K → KdE) (V : Env) (P : Program) (c : Code) (σ : St K) (nx : Nat) (out : Out) (σ' : St K) (nx' : Nat) : Prop :=
  ∀ (Q : Exit → Act → World → Prop) (β : Nat → Option Nat) (a : Act) (w : World), Inv V β a w → Holds D V σ β a w → (∀ j, nx ≤ j → β j = none) →
    (∀ β' a' w', Inv V β' a' w' → Holds D V σ' β' a' w' → (∀ j, nx' ≤ j → β' j = none) → out.fits Q a' w') → c.wp P Q a w

def ofL (l : List (Key × Ct K)) : St K := fun k => (l.lookup k).getD .no

def LoopOk (D : K → KdE) (tb : Tb K) (P : Program) (N : Nat) (c : Code) (h : Hint K) (nx : Nat) : Prop :=
  ∀ V : Env, V.N = N → TbOk D P V.E tb → ∀ k, k < h.n → Goes D V P c (ofL (h.fam k)) nx .normal (ofL (h.fam (k + 1))) nx

abbrev Res (K : Type) := Option (List Prop × Out × St K × Nat × List (Option Bool))

def rounds (step : St K → Nat → List (Option Bool) → Res K) : Nat → St K → Nat → List (Option Bool) → Res K
  | 0, _, _, _ => none
  | n + 1, σ, nx, ds => match step σ nx ds with
    | some (obs, .normal, σ', nx', ds') => match rounds step n σ' nx' ds' with
      | some (obs', r) => some (obs ++ obs', r)
      | none => none
    | r => r

def aRun (D : K → KdE) (tb : Tb K) (P : Program) (N : Nat) (fuel : Nat) : Code → St K → Nat → List (Option Bool) → Res K
  | .skip, σ, nx, ds => some ([], .normal, σ, nx, ds)
  | .region _ ops _, σ, nx, ds => match aOps D tb P N ops ops.toList nx σ ds with
    | some (obs, es, σ', ds') => if (ordOk ops (closure ops) && apart es (closure ops)) = true then some (obs, .normal, σ', nx + ops.toList.length, ds') else none
    | none => none
  | .seq a b, σ, nx, ds => match aRun D tb P N fuel a σ nx ds with
    | some (obs, .normal, σ', nx', ds') => match aRun D tb P N fuel b σ' nx' ds' with
      | some (obs', r) => some (obs ++ obs', r)
      | none => none
    | r => r
  | .cond c a b, σ, nx, ds => match σ.ev c with
    | .val false [.lit (.bool t)] => if t = true then aRun D tb P N fuel a σ nx ds else aRun D tb P N fuel b σ nx ds
    | _ => none
  | .block id c, σ, nx, ds => match aRun D tb P N fuel c σ nx ds with
    | some (obs, .exit id', r) => if id' = id then some (obs, .normal, r) else some (obs, .exit id', r)
    | r => r
  | .loop c, σ, nx, ds => match tb.hint nx with
    | none => rounds (aRun D tb P N fuel c) fuel σ nx ds
    | some h => match aRun D tb P N fuel c (ofL (h.fam h.n)) nx ds with
      | some (_, .normal, _, _, _) => none
      | some (obs, .exit id, r) => some ((h.fam 0).map (fun e => σ e.1 = e.2) ++ LoopOk D tb P N c h nx :: obs, .exit id, r)
      | some (obs, .ret, r) => some ((h.fam 0).map (fun e => σ e.1 = e.2) ++ LoopOk D tb P N c h nx :: obs, .ret, r)
      | none => none
  | .exit id, σ, nx, ds => some ([], .exit id, σ, nx, ds)
  | .ret, σ, nx, ds => some ([], .ret, σ, nx, ds)
  | _, _, _, _ => none

variable {D : K → KdE} {V : Env} {P : Program} {ops : Array Oper}

theorem upto_cons (e : Eff K) (es : List (Eff K)) (l : Nat → Bool) (σ : St K) : ∀ n, upto (e :: es) l σ (n + 1) = upto es (fun j => l (j + 1)) (if l 0 then e.app σ else σ) n
  | 0 => by simp [upto]
  | n + 1 => by
    rw [upto, upto_cons e es l σ n]
    conv => rhs; rw [upto]
    simp

theorem aOps_ok {tb : Tb K} (ht : TbOk D P V.E tb) : ∀ {os : List Oper} {id : Nat} {σ σ' : St K} {ds ds' : List (Option Bool)} {obs : List Prop} {es : List (Eff K)},
    aOps D tb P V.N ops os id σ ds = some (obs, es, σ', ds') → (∀ p ∈ obs, p) → es.length = os.length ∧ σ' = upto es (fun _ => true) σ es.length ∧
      ∀ (j : Nat) (o : Oper) (e : Eff K), os[j]? = some o → es[j]? = some e → OpOk D V P ops o (id + j) (upto es (fun i => decide (i < j)) σ es.length) e
  | [], id, σ, σ', ds, ds', obs, es, h, hobs => by
    simp only [aOps, Option.some.injEq, Prod.mk.injEq] at h
    obtain ⟨rfl, rfl, rfl, rfl⟩ := h
    exact ⟨rfl, rfl, fun j o e h => by simp at h⟩
  | o :: os, id, σ, σ', ds, ds', obs, es, h, hobs => by
    unfold aOps at h
    split at h
    case h_2 => cases h
    rename_i obs1 e1 ds1 h1
    split at h
    case h_2 => cases h
    rename_i obs2 es2 σ2 ds2 h2
    simp only [Option.some.injEq, Prod.mk.injEq] at h
    obtain ⟨rfl, rfl, rfl, rfl⟩ := h
    obtain ⟨i1, i2, i3⟩ := aOps_ok ht h2 fun p hp => hobs p (memR hp)
    refine ⟨by simp [i1], ?_, ?_⟩
    · rw [List.length_cons, upto_cons]
      exact i2
    · intro j o' e' ho he
      rw [List.length_cons, upto_cons]
      cases j with
      | zero =>
        simp only [List.getElem?_cons_zero, Option.some.injEq] at ho he
        subst ho; subst he
        have e0 : upto es2 (fun i => decide (i + 1 < 0)) (if decide (0 < 0) = true then e1.app σ else σ) es2.length = σ := by
          have : ∀ n (τ : St K), upto es2 (fun i => decide (i + 1 < 0)) τ n = τ := by
            intro n τ
            induction n with
            | zero => rfl
            | succ n ih => rw [upto, if_neg (by simp)]; exact ih
          rw [this]
          rfl
        rw [e0]
        exact aStep_ok ht h1 fun p hp => hobs p (memL hp)
      | succ j =>
        simp only [List.getElem?_cons_succ] at ho he
        have := i3 j o' e' ho he
        simp only [Nat.add_lt_add_iff_right, Nat.zero_lt_succ, decide_true, if_true]
        rw [show id + (j + 1) = id + 1 + j by omega]
        exact this

def Within (P : Program) (c : Code) (Q : Exit → Act → World → Prop) : Nat → Act → World → Prop
  | 0, _, _ => False
  | n + 1, a, w => c.wp P (Exit.then (Within P c Q n) Q) a w

open Classical in

theorem wp_within {c : Code} {Q : Exit → Act → World → Prop} {n : Nat} {a : Act} {w : World} (h : Within P c Q n a w) : (Code.loop c).wp P Q a w := by
  have mn : ∀ a w, (∃ n, Within P c Q n a w) → ∃ m, Within P c Q m a w ∧ ∀ k, Within P c Q k a w → m ≤ k := by
    intro a w ⟨n, hn⟩
    induction n using Nat.strongRecOn with
    | ind n ih =>
      by_cases h : ∃ k, k < n ∧ Within P c Q k a w
      · obtain ⟨k, h1, h2⟩ := h; exact ih k h1 h2
      · exact ⟨n, hn, fun k hk => Nat.le_of_not_lt fun hlt => h ⟨k, hlt, hk⟩⟩
  let μ : Act → World → Nat := fun a w => if h : ∃ n, Within P c Q n a w then (mn a w h).choose else 0
  refine wp_loop (fun a w => ∃ n, Within P c Q n a w) μ ⟨n, h⟩ ?_
  intro a w hI
  have h1 := (mn a w hI).choose_spec
  have hμ : μ a w = (mn a w hI).choose := dif_pos hI
  rw [← hμ] at h1
  obtain ⟨h1, -⟩ := h1
  cases hm : μ a w with
  | zero => rw [hm] at h1; exact h1.elim
  | succ m =>
    rw [hm] at h1
    refine wp_mono h1 fun e a' w' he => ?_
    cases e with
    | normal =>
      have hI' : ∃ n, Within P c Q n a' w' := ⟨m, he⟩
      refine ⟨hI', ?_⟩
      have : μ a' w' = (mn a' w' hI').choose := dif_pos hI'
      have := (mn a' w' hI').choose_spec.2 m he
      omega
    | _ => exact he

theorem rounds_ok {step : St K → Nat → List (Option Bool) → Res K} {c : Code} (hstep : ∀ {σ σ' : St K} {nx nx' : Nat} {ds ds' : List (Option Bool)} {obs : List Prop} {out : Out}, step σ nx ds = some (obs, out, σ', nx', ds') → (∀ p ∈ obs, p) → Goes D V P c σ nx out σ' nx') :
    ∀ {n : Nat} {σ σ' : St K} {nx nx' : Nat} {ds ds' : List (Option Bool)} {obs : List Prop} {out : Out}, rounds step n σ nx ds = some (obs, out, σ', nx', ds') → (∀ p ∈ obs, p) → out ≠ .normal → ∀ (Q : Exit → Act → World → Prop) (β : Nat → Option Nat) (a : Act) (w : World), Inv V β a w → Holds D V σ β a w → (∀ j, nx ≤ j → β j = none) →
    (∀ β' a' w', Inv V β' a' w' → Holds D V σ' β' a' w' → (∀ j, nx' ≤ j → β' j = none) → out.fits Q a' w') → Within P c Q n a w
  | 0, _, _, _, _, _, _, _, _, h, _, _ => by cases h
  | n + 1, σ, σ', nx, nx', ds, ds', obs, out, h, hobs, hne => by
    intro Q β a w hI hH hf hQ
    unfold rounds at h
    split at h
    · rename_i obs1 σ1 nx1 ds1 h1
      split at h
      case h_2 => cases h
      rename_i obs2 r h2
      simp only [Option.some.injEq, Prod.mk.injEq] at h
      obtain ⟨rfl, rfl⟩ := h
      refine hstep h1 (fun p hp => hobs p (memL hp)) _ β a w hI hH hf fun β' a' w' k1 k2 k3 => ?_
      exact rounds_ok hstep h2 (fun p hp => hobs p (memR hp)) hne Q β' a' w' k1 k2 k3 hQ
    · refine hstep h hobs _ β a w hI hH hf fun β' a' w' k1 k2 k3 => ?_
      have := hQ β' a' w' k1 k2 k3
      cases out with
      | normal => exact absurd rfl hne
      | exit id => exact this
      | ret => exact this

theorem rounds_out {step : St K → Nat → List (Option Bool) → Res K} : ∀ {n : Nat} {σ σ' : St K} {nx nx' : Nat} {ds ds' : List (Option Bool)} {obs : List Prop}, rounds step n σ nx ds ≠ some (obs, .normal, σ', nx', ds')
  | 0, _, _, _, _, _, _, _ => fun h => by cases h
  | n + 1, σ, σ', nx, nx', ds, ds', obs => fun h => by
    unfold rounds at h
    split at h
    · split at h
      · rename_i h2
        simp only [Option.some.injEq, Prod.mk.injEq] at h
        obtain ⟨rfl, rfl⟩ := h
        exact rounds_out h2
      · cases h
    · rename_i hx
      exact hx _ _ _ _ h

theorem ofL_holds {σ : St K} {β : Nat → Option Nat} {a : Act} {w : World} {l : List (Key × Ct K)} (hH : Holds D V σ β a w) (h : ∀ e ∈ l, σ e.1 = e.2) : Holds D V (ofL l) β a w := by
  intro k
  unfold ofL
  cases hk : l.lookup k with
  | none => cases k <;> trivial
  | some c =>
    have h1 := h _ (lookup_none hk)
    show At D V β a w k c
    rw [← show σ k = c from h1]
    exact hH k

theorem hint_ok {c : Code} {fam : Nat → List (Key × Ct K)} {n nx nx' : Nat} {σ' : St K} {out : Out} (hL : ∀ k, k < n → Goes D V P c (ofL (fam k)) nx .normal (ofL (fam (k + 1))) nx) (hE : Goes D V P c (ofL (fam n)) nx out σ' nx') (hne : out ≠ .normal) {Q : Exit → Act → World → Prop} :
    ∀ (m k : Nat) {β : Nat → Option Nat} {a : Act} {w : World}, k + m = n → Inv V β a w → Holds D V (ofL (fam k)) β a w → (∀ j, nx ≤ j → β j = none) →
    (∀ β' a' w', Inv V β' a' w' → Holds D V σ' β' a' w' → (∀ j, nx' ≤ j → β' j = none) → out.fits Q a' w') → Within P c Q (m + 1) a w
  | 0, k, β, a, w, e, hI, hH, hf, hQ => by
    have e : k = n := e
    subst e
    refine hE _ β a w hI hH hf fun β' a' w' k1 k2 k3 => ?_
    have := hQ β' a' w' k1 k2 k3
    cases out with
    | normal => exact absurd rfl hne
    | exit id => exact this
    | ret => exact this
  | m + 1, k, β, a, w, e, hI, hH, hf, hQ => by
    refine hL k (by omega) _ β a w hI hH hf fun β' a' w' k1 k2 k3 => ?_
    exact hint_ok hL hE hne m (k + 1) (by omega) k1 k2 k3 hQ

theorem aRun_ok {tb : Tb K} (ht : TbOk D P V.E tb) (hm : P.follows .mixedOrders = true) {fuel : Nat} : ∀ {c : Code} {σ σ' : St K} {nx nx' : Nat} {ds ds' : List (Option Bool)} {obs : List Prop} {out : Out}, aRun D tb P V.N fuel c σ nx ds = some (obs, out, σ', nx', ds') → (∀ p ∈ obs, p) → Goes D V P c σ nx out σ' nx' := by
  intro c
  induction c with
  | skip =>
    intro σ σ' nx nx' ds ds' obs out h hobs Q β a w hI hH hf hQ
    simp only [aRun, Option.some.injEq, Prod.mk.injEq] at h
    obtain ⟨rfl, rfl, rfl, rfl, rfl⟩ := h
    exact wp_skip (hQ β a w hI hH hf)
  | region id ops b =>
    intro σ σ' nx nx' ds ds' obs out h hobs Q β a w hI hH hf hQ
    unfold aRun at h
    split at h
    case h_2 => cases h
    rename_i obs1 es σ1 ds1 h1
    split at h
    case isFalse => cases h
    rename_i hok
    simp only [Option.some.injEq, Prod.mk.injEq] at h
    obtain ⟨rfl, rfl, rfl, rfl, rfl⟩ := h
    rw [Bool.and_eq_true] at hok
    obtain ⟨i1, i2, i3⟩ := aOps_ok ht h1 hobs
    subst i2
    refine region_sound hm (by rw [i1, Array.length_toList]) hok.1 hok.2 (fun i o e ho he => i3 i o e (by rw [Array.getElem?_toList]; exact ho) he) hI hH hf fun β' a' w' k1 k2 k3 => ?_
    exact hQ β' a' w' k1 k2 (by rw [← i1]; exact k3)
  | seq x y ihx ihy =>
    intro σ σ' nx nx' ds ds' obs out h hobs Q β a w hI hH hf hQ
    unfold aRun at h
    split at h
    · rename_i obs1 σ1 nx1 ds1 h1
      split at h
      case h_2 => cases h
      rename_i obs2 r h2
      simp only [Option.some.injEq, Prod.mk.injEq] at h
      obtain ⟨rfl, rfl⟩ := h
      refine wp_seq (ihx h1 (fun p hp => hobs p (memL hp)) _ β a w hI hH hf fun β' a' w' k1 k2 k3 => ?_)
      exact ihy h2 (fun p hp => hobs p (memR hp)) Q β' a' w' k1 k2 k3 hQ
    · rename_i hne
      refine wp_seq (ihx h hobs _ β a w hI hH hf fun β' a' w' k1 k2 k3 => ?_)
      have := hQ β' a' w' k1 k2 k3
      cases out with
      | normal => exact absurd h (hne _ _ _ _)
      | exit id => exact this
      | ret => exact this
  | cond x c1 c2 ih1 ih2 =>
    intro σ σ' nx nx' ds ds' obs out h hobs Q β a w hI hH hf hQ
    unfold aRun at h
    split at h
    case h_2 => cases h
    rename_i t hx
    have h1 := ev_ok (x := x) fun k _ => hH k
    rw [hx] at h1
    have h2 := vl_lit_inv h1
    split at h
    · rename_i hb; subst hb; exact wp_cond_true h2 (ih1 h hobs Q β a w hI hH hf hQ)
    · rename_i hb
      have hb' : t = false := by simpa using hb
      subst hb'
      exact wp_cond_false h2 (ih2 h hobs Q β a w hI hH hf hQ)
  | block id c ih =>
    intro σ σ' nx nx' ds ds' obs out h hobs Q β a w hI hH hf hQ
    unfold aRun at h
    split at h
    · rename_i obs1 id' r h1
      obtain ⟨σ1, nx1, ds1⟩ := r
      split at h
      · rename_i hid
        simp only [Option.some.injEq, Prod.mk.injEq] at h
        obtain ⟨rfl, rfl, rfl, rfl, rfl⟩ := h
        refine wp_block (ih h1 hobs _ β a w hI hH hf fun β' a' w' k1 k2 k3 => ?_)
        have := hQ β' a' w' k1 k2 k3
        simpa [Out.fits, Exit.inBlock, hid] using this
      · rename_i hid
        simp only [Option.some.injEq, Prod.mk.injEq] at h
        obtain ⟨rfl, rfl, rfl, rfl, rfl⟩ := h
        refine wp_block (ih h1 hobs _ β a w hI hH hf fun β' a' w' k1 k2 k3 => ?_)
        have := hQ β' a' w' k1 k2 k3
        simpa [Out.fits, Exit.inBlock, hid] using this
    · rename_i hne
      refine wp_block (ih h hobs _ β a w hI hH hf fun β' a' w' k1 k2 k3 => ?_)
      have := hQ β' a' w' k1 k2 k3
      cases out with
      | normal => exact this
      | exit id' => exact absurd h (hne _ _ _)
      | ret => exact this
  | loop c ih =>
    intro σ σ' nx nx' ds ds' obs out h hobs Q β a w hI hH hf hQ
    unfold aRun at h
    split at h
    · have hne : out ≠ .normal := by rintro rfl; exact rounds_out h
      exact wp_within (rounds_ok ih h hobs hne Q β a w hI hH hf hQ)
    · rename_i hint hh
      have key : ∀ {obs1 : List Prop} {out1 : Out}, out1 ≠ .normal → aRun D tb P V.N fuel c (ofL (hint.fam hint.n)) nx ds = some (obs1, out1, σ', nx', ds') → (∀ p ∈ (hint.fam 0).map (fun e => σ e.1 = e.2) ++ LoopOk D tb P V.N c hint nx :: obs1, p) →
          (∀ β' a' w', Inv V β' a' w' → Holds D V σ' β' a' w' → (∀ j, nx' ≤ j → β' j = none) → out1.fits Q a' w') → (Code.loop c).wp P Q a w := by
        intro obs1 out1 hne h1 ho hQ
        refine wp_within (n := hint.n + 1) ?_
        have hL : LoopOk D tb P V.N c hint nx := ho _ (List.mem_append_right _ List.mem_cons_self)
        refine hint_ok (hL V rfl ht) (fun Q β a w i1 i2 i3 i4 => ih h1 (fun p hp => ho p (List.mem_append_right _ (List.mem_cons_of_mem _ hp))) Q β a w i1 i2 i3 i4) hne hint.n 0 (by omega) hI (ofL_holds hH fun e he => ho _ (List.mem_append_left _ (List.mem_map_of_mem he))) hf hQ
      split at h
      · cases h
      · rename_i obs1 id r h1
        simp only [Option.some.injEq, Prod.mk.injEq] at h
        obtain ⟨rfl, rfl, rfl⟩ := h
        exact key (by intro h; cases h) h1 hobs hQ
      · rename_i obs1 r h1
        simp only [Option.some.injEq, Prod.mk.injEq] at h
        obtain ⟨rfl, rfl, rfl⟩ := h
        exact key (by intro h; cases h) h1 hobs hQ
      · cases h
  | exit id =>
    intro σ σ' nx nx' ds ds' obs out h hobs Q β a w hI hH hf hQ
    simp only [aRun, Option.some.injEq, Prod.mk.injEq] at h
    obtain ⟨rfl, rfl, rfl, rfl, rfl⟩ := h
    exact wp_exit (hQ β a w hI hH hf)
  | ret =>
    intro σ σ' nx nx' ds ds' obs out h hobs Q β a w hI hH hf hQ
    simp only [aRun, Option.some.injEq, Prod.mk.injEq] at h
    obtain ⟨rfl, rfl, rfl, rfl, rfl⟩ := h
    exact wp_ret (hQ β a w hI hH hf)
  | _ =>
    intro σ σ' nx nx' ds ds' obs out h
    simp [aRun] at h

theorem hide_sub {S S' : Nat → Prop} {w : World} (h : ∀ b, S b → S' b) : Grows (hide S' w) (hide S w) :=
  hide_mono (Nat.le_refl _) fun b _ hb => ⟨rfl, fun hs => hb (h b hs)⟩

def boxLt (nx : Nat) : Ct K → Bool
  | .av (.ptr i _) => decide (i < nx)
  | .av (.sl i _ _ _) => decide (i < nx)
  | _ => true

def keyLt (nx : Nat) : Key → Bool
  | .slot _ => true
  | .obj i => decide (i < nx)

def roundObs (D : K → KdE) (tb : Tb K) (P : Program) (N fuel : Nat) (c : Code) (h : Hint K) (nx k : Nat) (ds : List (Option Bool)) : Option (List Prop) :=
  match aRun D tb P N fuel c (ofL (h.fam k)) nx ds with
  | some (obs, .normal, σ', _, _) => if ((h.fam (k + 1)).all fun e => boxLt nx e.2 && keyLt nx e.1) = true then some (obs ++ (h.fam (k + 1)).map fun e => σ' e.1 = e.2) else none
  | _ => none

theorem loopOk_of {tb : Tb K} {N nx : Nat} {c : Code} {h : Hint K} (hm : P.follows .mixedOrders = true) (hr : ∀ k, k < h.n → ∃ fuel ds obs, roundObs D tb P N fuel c h nx k ds = some obs ∧ ∀ p ∈ obs, p) : LoopOk D tb P N c h nx := by
  intro V hN hT k hk Q β a w hI hH hf hQ
  subst hN
  obtain ⟨fuel, ds, obs, h1, ho⟩ := hr k hk
  unfold roundObs at h1
  split at h1
  case h_2 => cases h1
  rename_i obs1 σ' nx' ds' hrun
  split at h1
  case isFalse => cases h1
  rename_i hall
  injection h1 with h1
  subst h1
  refine aRun_ok hT hm hrun (fun p hp => ho p (List.mem_append_left _ hp)) Q β a w hI hH hf fun β' a' w' k1 k2 k3 => ?_
  have k2 : Holds D V (ofL (h.fam (k + 1))) β' a' w' := ofL_holds k2 fun e he => ho _ (List.mem_append_right _ (List.mem_map_of_mem he))
  let β0 : Nat → Option Nat := fun j => if j < nx then β' j else none
  have hanc := hI.anc
  have hs : ∀ i A, β0 i = some A → β' i = some A := by
    intro i A h
    by_cases hi : i < nx
    · simpa [β0, hi] using h
    · simp [β0, hi] at h
  have hg : ∀ i, i < nx → β0 i = β' i := fun i hi => if_pos hi
  have hgr : Grows (V.see β' w') (V.see β0 w') := hide_sub fun b hb => by
    rcases hb with hb | ⟨i, hb⟩
    · exact Or.inl hb
    · exact Or.inr ⟨i, hs _ _ hb⟩
  refine hQ β0 a' w' ⟨k1.fr, k1.nt, k1.df, fun i j A h1 h2 => k1.inj i j A (hs _ _ h1) (hs _ _ h2), fun i A h => k1.own i A (hs _ _ h), k1.old, V.eup _ _ hgr k1.e, fun A h => (if_pos (Nat.pos_of_ne_zero fun e => by subst e; rw [hf 0 (Nat.le_refl _)] at hanc; exact absurd (hanc A h) (by simp))).trans (k1.anc A h)⟩ ?_ fun j hj => if_neg (by omega)
  intro key
  have hkey := k2 key
  unfold ofL at hkey ⊢
  cases hl : (h.fam (k + 1)).lookup key with
  | none => cases key <;> trivial
  | some ct =>
    rw [hl] at hkey
    have hm := lookup_none hl
    rw [List.all_eq_true] at hall
    have hb := hall _ hm
    rw [Bool.and_eq_true] at hb
    obtain ⟨hb1, hb2⟩ := hb
    show At D V β0 a' w' key ct
    have hkey : At D V β' a' w' key ct := hkey
    cases ct with
    | no => cases key <;> trivial
    | av x =>
      cases key with
      | obj i => trivial
      | slot d =>
        have hkey : x.holds D β' (V.see β' w') (a'.tmps.getD d undef) := hkey
        show x.holds D β0 (V.see β0 w') (a'.tmps.getD d undef)
        cases x with
        | any => trivial
        | val g ss => exact vl_up hgr hkey
        | ptr i o => obtain ⟨A, e1, e2⟩ := hkey; exact ⟨A, (hg i (of_decide_eq_true hb1)).trans e1, e2⟩
        | sl i o n c => obtain ⟨A, e1, e2⟩ := hkey; exact ⟨A, (hg i (of_decide_eq_true hb1)).trans e1, e2⟩
        | dp k s j => obtain ⟨a, n, c, e1, e2⟩ := hkey; exact ⟨a, n, c, (D k).up _ _ _ hgr e1, e2⟩
        | tup ts => obtain ⟨us, e1, e2⟩ := hkey; exact ⟨us, e1, vls_up hgr e2⟩
    | ob o =>
      cases key with
      | slot d => trivial
      | obj i =>
        obtain ⟨A, cs, e1, e2, e3⟩ := hkey
        exact ⟨A, cs, (hg i (of_decide_eq_true hb2)).trans e1, e2, segs_up hgr e3⟩

def loopsOf : Code → List Code
  | .seq a b => loopsOf a ++ loopsOf b
  | .block _ c => loopsOf c
  | .cond _ a b => loopsOf a ++ loopsOf b
  | .loop c => c :: loopsOf c
  | _ => []

def loopAt (fn : Func) (i : Nat) : Code := match fn.body with
  | some c => (loopsOf c)[i]?.getD .skip
  | none => .skip

def getRes (D : K → KdE) (sp : K → Option (List (Seg K))) (P : Program) (σ : St K) : ResultVar → Option (Bool × List (Seg K))
  | .tmp t => match σ.sl t with
    | .val g ss => some (g, ss)
    | _ => none
  | .cell t T => match σ.sl t with
    | .ptr i off => ldAt D sp P σ T i off
    | _ => none

def getAll (D : K → KdE) (sp : K → Option (List (Seg K))) (P : Program) (σ : St K) : List ResultVar → Option (List (Bool × List (Seg K)))
  | [] => some []
  | r :: rs => match getRes D sp P σ r, getAll D sp P σ rs with
    | some p, some ps => some (p :: ps)
    | _, _ => none

def packRes : List (Bool × List (Seg K)) → AV K
  | [p] => .val p.1 p.2
  | ps => .tup ps

def entry (args : List (AV K)) : St K
  | .slot d => match args[d]? with
    | some x => .av x
    | none => .no
  | .obj _ => .no

def aFun (D : K → KdE) (tb : Tb K) (P : Program) (fuel : Nat) (fn : Func) (args : List (AV K)) (ds : List (Option Bool)) : Option (List Prop × AV K) :=
  match fn.body with
  | some c => if (args.all noPtr && decide (args.length ≤ fn.ntmps)) = true then match aRun D tb P fn.ntmps fuel c (entry args) 0 ds with
    | some (obs, .normal, σ, _, _) => (getAll D tb.split P σ fn.results.toList).map fun ps => (obs, packRes ps)
    | some (obs, .ret, σ, _, _) => (getAll D tb.split P σ fn.results.toList).map fun ps => (obs, packRes ps)
    | _ => none
    else none
  | none => none

def resOne (tmps : Array Value) : ResultVar → Sem Value
  | .tmp t => pure (tmps.getD t undef)
  | .cell x t => do loadVar t (← asAddr (tmps.getD x undef))

theorem getRes_ok {sp : K → Option (List (Seg K))} (hsp : SplitOk D sp) {σ : St K} {β : Nat → Option Nat} {a : Act} {w : World} (hH : Holds D V σ β a w) : ∀ {r : ResultVar} {p : Bool × List (Seg K)}, getRes D sp P σ r = some p →
    ∃ v, (resOne a.tmps r).run P w = .ok v w ∧ vl D (V.see β w) p v
  | .tmp t, p, h => by
    simp only [getRes] at h
    split at h
    case h_2 => cases h
    rename_i g ss hg
    injection h with h
    subst h
    have h1 := ev_ok (σ := σ) (x := .tmp t) fun k _ => hH k
    rw [show σ.ev (.tmp t) = σ.sl t from rfl, hg] at h1
    exact ⟨_, rfl, h1⟩
  | .cell t T, p, h => by
    simp only [getRes] at h
    split at h
    case h_2 => cases h
    rename_i i off hi
    have h1 := ev_ok (σ := σ) (x := .tmp t) fun k _ => hH k
    rw [show σ.ev (.tmp t) = σ.sl t from rfl, hi] at h1
    obtain ⟨A, hA, hv⟩ := h1
    obtain ⟨v, hv1, hv2⟩ := ldAt_ok hsp hA (hH (.obj i)) h
    refine ⟨v, ?_, hv2⟩
    have hv : a.tmps.getD t undef = .pointer (some ⟨A, off, none⟩) := hv
    simp only [resOne, hv, asAddr, Sem.run_bind, Sem.run_pure, Result.andThen_ok, hv1]

theorem getAll_ok {sp : K → Option (List (Seg K))} (hsp : SplitOk D sp) {σ : St K} {β : Nat → Option Nat} {a : Act} {w : World} (hH : Holds D V σ β a w) : ∀ {rs : List ResultVar} {ps : List (Bool × List (Seg K))}, getAll D sp P σ rs = some ps →
    ∃ vs, (rs.mapM (resOne a.tmps)).run P w = .ok vs w ∧ vls D (V.see β w) ps vs
  | [], ps, h => by
    injection h with h
    subst h
    exact ⟨[], rfl, rfl⟩
  | r :: rs, ps, h => by
    unfold getAll at h
    split at h
    case h_2 => cases h
    rename_i p ps' h1 h2
    injection h with h
    subst h
    obtain ⟨v, hv, hvl⟩ := getRes_ok hsp hH h1
    obtain ⟨vs, hvs, hvls⟩ := getAll_ok hsp hH h2
    refine ⟨v :: vs, ?_, v, vs, rfl, hvl, hvls⟩
    rw [List.mapM_cons]
    simp only [Sem.run_bind]
    rw [hv]
    simp only [Result.andThen_ok]
    rw [hvs]
    rfl

theorem pack_ok {w : World} {ps : List (Bool × List (Seg K))} {vs : List Value} (h : vls D w ps vs) : (packRes ps).holds D (fun _ => none) w (if h : vs.toArray.size = 1 then vs.toArray[0] else .tuple vs.toArray) := by
  match ps, vs, h with
  | [], _, h => rw [show _ = [] from h]; exact ⟨[], rfl, rfl⟩
  | [p], _, ⟨v, us, e, h1, h2⟩ =>
    have h2 : us = [] := h2
    subst h2; subst e
    exact h1
  | p :: q :: ps, _, ⟨v, us, e, h1, ⟨v', us', e', h2, h3⟩⟩ =>
    subst e'; subst e
    exact ⟨_, rfl, v, _, rfl, h1, v', us', rfl, h2, h3⟩

theorem aFun_ok {E : World → Prop} (eup : ∀ w w', Grows w w' → E w → E w') {tb : Tb K} (ht : TbOk D P E tb) (hm : P.follows .mixedOrders = true) {f : FuncId} {fn : Func} {args : List (AV K)} {ds : List (Option Bool)} {fuel : Nat} {obs : List Prop} {r : AV K}
    (hf : P.funcs[f]? = some fn) (hname : (fn.name == "runtime.NumGoroutine") = false) (h : aFun D tb P fuel fn args ds = some (obs, r)) (hobs : (∃ w vs, avs D (fun _ => none) w args vs) → ∀ p ∈ obs, p) : Con D P E f args r := by
  unfold aFun at h
  split at h
  case h_2 => cases h
  rename_i c hb
  split at h
  case isFalse => cases h
  rename_i hargs
  rw [Bool.and_eq_true, decide_eq_true_eq] at hargs
  refine ⟨⟨fn, hf, hname, by rw [hb]; rfl⟩, fun S w vs hE hS hvs => ?_⟩
  have hobs := hobs ⟨_, vs, hvs⟩
  let V : Env := { S := S, L := fun _ => False, E := E, eup := eup, w0 := w, N := fn.ntmps }
  have hhid : V.hid (fun _ => none) = S := by
    funext b
    apply propext
    constructor
    · rintro (h | ⟨i, h⟩)
      · exact h
      · cases h
    · exact Or.inl
  have hsee : V.see (fun _ => none) w = hide S w := by unfold Env.see; rw [hhid]
  have hlen : ∀ {xs : List (AV K)} {vs : List Value}, avs D (fun _ => none) (hide S w) xs vs → vs.length = xs.length := by
    intro xs
    induction xs with
    | nil => intro vs h; rw [show vs = [] from h]; rfl
    | cons x xs ih => intro vs ⟨v, us, e, _, h⟩; rw [e, List.length_cons, List.length_cons, ih h]
  have hget : ∀ {xs : List (AV K)} {vs : List Value} {d : Nat} {x : AV K}, avs D (fun _ => none) (hide S w) xs vs → xs[d]? = some x → ∃ v, vs[d]? = some v ∧ x.holds D (fun _ => none) (hide S w) v := by
    intro xs
    induction xs with
    | nil => intro vs d x _ h; simp at h
    | cons y xs ih =>
      rintro vs d x ⟨v, us, rfl, h1, h2⟩ h
      cases d with
      | zero => simp only [List.getElem?_cons_zero, Option.some.injEq] at h; subst h; exact ⟨v, rfl, h1⟩
      | succ d => simp only [List.getElem?_cons_succ] at h ⊢; exact ih h2 h
  refine calls_of_wp hf hb ?_
  have hsz : vs.toArray.size = args.length := by rw [List.size_toArray, hlen hvs]
  have hI : Inv V (fun _ => none) { tmps := vs.toArray ++ Array.replicate (fn.ntmps - vs.toArray.size) undef, defers := [] } w := by
    refine ⟨⟨rfl, rfl, rfl, Nat.le_refl _, fun _ _ _ => rfl⟩, ?_, rfl, fun _ _ _ h => (by cases h), fun _ _ h => (by cases h), fun b hb => ⟨⟨?_, fun h => h⟩, hS b hb⟩, by rw [hsee]; exact hE, fun _ h => h.elim⟩
    · show (vs.toArray ++ Array.replicate (fn.ntmps - vs.toArray.size) undef).size = fn.ntmps
      rw [Array.size_append, Array.size_replicate]
      omega
    · obtain ⟨cs, T, e, _⟩ := hS b hb
      exact (Array.getElem?_eq_some_iff.1 e).1
  have hH : Holds D V (entry args) (fun _ => none) { tmps := vs.toArray ++ Array.replicate (fn.ntmps - vs.toArray.size) undef, defers := [] } w := by
    intro k
    cases k with
    | obj i => trivial
    | slot d =>
      cases hx : args[d]? with
      | none => rw [show entry args (.slot d) = .no by simp only [entry, hx]]; trivial
      | some x =>
        rw [show entry args (.slot d) = .av x by simp only [entry, hx]]
        obtain ⟨v, hv, hxv⟩ := hget hvs hx
        show AV.holds D _ (V.see _ w) x ((vs.toArray ++ Array.replicate (fn.ntmps - vs.toArray.size) undef).getD d undef)
        rw [hsee]
        have hlt := (List.getElem?_eq_some_iff.1 hv).1
        have : (vs.toArray ++ Array.replicate (fn.ntmps - vs.toArray.size) undef).getD d undef = v := by
          rw [Array.getD_eq_getD_getElem?, Array.getElem?_append_left (by simpa using hlt)]
          simp [hv]
        rw [this]
        exact hxv
  have fin : ∀ {σ : St K} {ps : List (Bool × List (Seg K))} {β' : Nat → Option Nat} {a' : Act} {w' : World}, getAll D tb.split P σ fn.results.toList = some ps → Inv V β' a' w' → Holds D V σ β' a' w' → a'.defers = [] ∧ ∃ v, (results fn a'.tmps).run P w' = .ok v w' ∧ Ret D S (packRes ps) w (.returned v) w' := by
    intro σ ps β' a' w' hps k1 k2
    obtain ⟨us, hus, hvls⟩ := getAll_ok ht.split k2 hps
    refine ⟨k1.df, (if h : us.toArray.size = 1 then us.toArray[0] else .tuple us.toArray), ?_, _, rfl, AV.up (fun _ _ h => h) (hide_sub fun b hb => Or.inl hb) (pack_ok hvls), ⟨k1.fr.os, k1.fr.tape, k1.fr.output, k1.fr.size, fun k hk => k1.fr.block k hk fun h => h⟩⟩
    have e : results fn a'.tmps = (do let vs ← fn.results.mapM (resOne a'.tmps); pure (if h : vs.size = 1 then vs[0] else .tuple vs)) := by
      unfold results
      congr
    rw [e, Sem.run_bind, Array.mapM_eq_mapM_toList, Sem.run_map, hus]
    rfl
  split at h
  · rename_i obs1 σ nx ds' h1
    simp only [Option.map_eq_some_iff, Prod.mk.injEq] at h
    obtain ⟨ps, hps, rfl, rfl⟩ := h
    exact aRun_ok (V := V) ht hm h1 hobs _ _ _ _ hI hH (fun _ _ => rfl) fun β' a' w' k1 k2 _ => fin hps k1 k2
  · rename_i obs1 σ nx ds' h1
    simp only [Option.map_eq_some_iff, Prod.mk.injEq] at h
    obtain ⟨ps, hps, rfl, rfl⟩ := h
    exact aRun_ok (V := V) ht hm h1 hobs _ _ _ _ hI hH (fun _ _ => rfl) fun β' a' w' k1 k2 _ => fin hps k1 k2
  · cases h

end

end Go.Proofs.YtagciepnhjbopaaGreatDoor.En
