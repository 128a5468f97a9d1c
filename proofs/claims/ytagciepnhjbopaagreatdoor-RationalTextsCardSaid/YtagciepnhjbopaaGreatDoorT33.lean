/- What the statements of this claim stand on: of Kp1, what they name -/
import Derived.Test.YtagciepnhjbopaaGreatDoorT32

namespace Go.Proofs.YtagciepnhjbopaaGreatDoor
open Go.RowKit En

inductive Pa where
  | n (L x : Nat)
  | i (L : Nat) (z : Int)
  | r (L : Nat) (q : Rat)
  | f (L : Nat) (q : Rat)
  | l (v : Value)
  | cd (x : Nat)
  | cz (n : Int)
  | cq (q : Rat)
  | vv (L : Nat) (r s : Rat)

abbrev ivSegs (L : Nat) (r s : Rat) : List (Seg Kn) := [.sem (.rrat L r), .sem (.rrat L s)]

def Pa.is (w : World) : Pa → Value → Prop
  | .n L x => VN w L x
  | .i L z => VI w L z
  | .r L q => VR w L q
  | .f L q => VF w L q
  | .l v => fun u => u = v
  | .cd y => VD w y
  | .cz y => VZ w y
  | .cq y => VQ w y
  | .vv L a b => vl Dn w (true, ivSegs L a b)

def pas (w : World) : List Pa → List Value → Prop
  | [], vs => vs = []
  | p :: ps, vs => ∃ v us, vs = v :: us ∧ p.is w v ∧ pas w ps us

inductive Ar where
  | n
  | i
  | r
  | f
  | l
  | cd
  | cz
  | cq
  | vv

def pFrac : List (Seg Kn) → Option (List Prop × Nat × Rat)
  | [.sem (.frac L r)] => some ([], L, r)
  | [.sem (.low r)] => some ([], nq r, r)
  | [s, t] => match pInt [s], pInt [t] with
    | some p, some q => some ([0 < q.2], p.1 + q.1, Rat.divInt p.2 q.2)
    | _, _ => none
  | [s, t, u] => match pInt [s], pInt [t, u] with
    | some p, some q => some ([0 < q.2], p.1 + q.1, Rat.divInt p.2 q.2)
    | _, _ => match pInt [s, t], pInt [u] with
      | some p, some q => some ([0 < q.2], p.1 + q.1, Rat.divInt p.2 q.2)
      | _, _ => none
  | [s, t, u, v] => match pInt [s, t], pInt [u, v] with
    | some p, some q => some ([0 < q.2], p.1 + q.1, Rat.divInt p.2 q.2)
    | _, _ => none
  | _ => none

def pD1 : List (Seg Kn) → Option Nat
  | [.sem (.nat x)] => some x
  | [.lit (.slice none 0 0)] => some 0
  | _ => none

def pZ1 : List (Seg Kn) → Option Int
  | [.sem (.int z)] => some z
  | [.lit (.bool false), s] => (pD1 [s]).map fun (x : Nat) => (x : Int)
  | _ => none

def pQ1 : List (Seg Kn) → Option Rat
  | [.sem (.rat r)] => some r
  | _ => none

theorem pD1_seg {w : World} {s : Seg Kn} {x : Nat} {cs : List Value} (h : pD1 [s] = some x) (hs : s.holds Dn w cs) : ∃ p c, cs = [.slice p (dg x).length c] ∧ Sl w p (dg x).length c (dg x) := by
  unfold pD1 at h
  split at h
  · rename_i y e
    injection e with e
    subst e
    injection h with h
    subst h
    obtain ⟨⟨hl, _⟩, p, c, e, s⟩ := hs
    match cs, hl with
    | [v], _ => exact ⟨p, c, by have e : v = _ := e; rw [e], s⟩
  · rename_i e
    injection e with e
    subst e
    injection h with h
    subst h
    have hs : cs = [.slice none 0 0] := hs
    refine ⟨none, 0, ?_, ?_⟩
    · rw [hs, dg_zero]; rfl
    · rw [dg_zero]; exact Sl.zero w
  · cases h

theorem pD1_ok {w : World} {β : Nat → Option Nat} {ss : List (Seg Kn)} {x : Nat} {v : Value} (h : pD1 ss = some x) (hs : (AV.val false ss).holds Dn β w v) : VD w x v := by
  have : ∃ s, ss = [s] := by
    unfold pD1 at h
    split at h
    · exact ⟨_, rfl⟩
    · exact ⟨_, rfl⟩
    · cases h
  obtain ⟨s, rfl⟩ := this
  obtain ⟨cs, h1, h2, -⟩ := seg1 hs
  obtain ⟨p, c, rfl, hx⟩ := pD1_seg h h1
  exact ⟨p, c, h2, hx⟩

theorem pZ1_ok {w : World} {β : Nat → Option Nat} {ss : List (Seg Kn)} {z : Int} {v : Value} (h : pZ1 ss = some z) (hs : (AV.val true ss).holds Dn β w v) : VZ w z v := by
  unfold pZ1 at h
  split at h
  · injection h with h; subst h; exact sv_to hs
  · rename_i s
    simp only [Option.map_eq_some_iff] at h
    obtain ⟨x, hx, rfl⟩ := h
    obtain ⟨cs, ⟨a, b, rfl, h1, a', b', rfl, h2, rfl⟩, h3, -⟩ := hs
    have h1 : a = [.bool false] := h1
    subst h1
    obtain ⟨p, c, rfl, hs⟩ := pD1_seg hx h2
    rw [h3]
    refine ⟨p, c, ?_, by rw [Int.natAbs_natCast]; exact hs⟩
    rw [decide_eq_false (by omega), Int.natAbs_natCast]
    rfl
  · cases h

def pItv : List (Seg Kn) → Option (Nat × Rat × Rat)
  | [s, t] => match pRat [s], pRat [t] with
    | some p, some q => some (p.1 + q.1, p.2, q.2)
    | _, _ => none
  | [s1, s2, s3, t1, t2, t3] => match pRat [s1, s2, s3], pRat [t1, t2, t3] with
    | some p, some q => some (p.1 + q.1, p.2, q.2)
    | _, _ => none
  | _ => none

theorem pItv_ok {w : World} {β : Nat → Option Nat} {ss : List (Seg Kn)} {L : Nat} {r s : Rat} {v : Value} (h : pItv ss = some (L, r, s)) (hs : (AV.val true ss).holds Dn β w v) : vl Dn w (true, ivSegs L r s) v := by
  have two : ∀ {a b : List (Seg Kn)} {p q : Nat × Rat}, pRat a = some p → pRat b = some q → ss = a ++ b → (p.1 + q.1, p.2, q.2) = (L, r, s) → vl Dn w (true, ivSegs L r s) v := by
    intro a b p q ha hb e he
    injection he with e1 e2
    injection e2 with e2 e3
    subst e1; subst e2; subst e3; subst e
    obtain ⟨cs, h1, h2, -⟩ := hs
    obtain ⟨x, y, rfl, k1, k2⟩ := segs_split h1
    have one : ∀ {c : List (Seg Kn)} {p : Nat × Rat} {z : List Value}, pRat c = some p → segs Dn w c z → ∀ M, p.1 ≤ M → Seg.holds Dn w (.sem (.rrat M p.2)) z := by
      intro c p z hc hz M hM
      have h5 : (AV.val true c).holds Dn (fun _ => none) w (.agg z.toArray) := ⟨z, hz, rfl, fun h => by cases h⟩
      have h6 := (pRat_ok hc h5).mono hM
      obtain ⟨cs, ⟨a, b, e, h7, h8⟩, h9, -⟩ := sv_of (x := .rrat M p.2) h6 (fun _ => none)
      have h8 : b = [] := h8
      subst h8
      rw [List.append_nil] at e
      subst e
      injection h9 with h9
      have h9 : z = cs := by simpa using congrArg Array.toList h9
      rw [h9]
      exact h7
    exact ⟨_, ⟨x, y, rfl, one ha k1 _ (by omega), y, [], (List.append_nil _).symm, one hb k2 _ (by omega), rfl⟩, h2, fun h => by cases h⟩
  unfold pItv at h
  split at h
  · split at h
    case h_2 => cases h
    rename_i hp hq
    injection h with h
    exact two hp hq rfl h
  · split at h
    case h_2 => cases h
    rename_i hp hq
    injection h with h
    exact two hp hq rfl h
  · cases h

def parse : Ar → Av → Option (List Prop × Pa)
  | .n, .val false s => (pNat s).map fun p => ([], .n p.1 p.2)
  | .i, .val true s => (pInt s).map fun p => ([], .i p.1 p.2)
  | .r, .val true s => (pRat s).map fun p => ([], .r p.1 p.2)
  | .f, .val true s => (pFrac s).map fun p => (p.1, .f p.2.1 p.2.2)
  | .l, x => (lit? x).map fun v => ([], .l v)
  | .cd, .val false s => (pD1 s).map fun x => ([], .cd x)
  | .cz, .val true s => (pZ1 s).map fun x => ([], .cz x)
  | .cq, .val true s => (pQ1 s).map fun x => ([], .cq x)
  | .vv, .val true s => (pItv s).map fun p => ([], .vv p.1 p.2.1 p.2.2)
  | _, _ => none

def parses : List Ar → List Av → Option (List Prop × List Pa)
  | [], [] => some ([], [])
  | a :: ar, x :: xs => match parse a x, parses ar xs with
    | some p, some ps => some (p.1 ++ ps.1, p.2 :: ps.2)
    | _, _ => none
  | _, _ => none

theorem VI.frac {w : World} {L M : Nat} {a b : Int} {cs ds : List Value} (h : VI w L a (.agg cs.toArray)) (h' : VI w M b (.agg ds.toArray)) (hb : 0 < b) : VF w (L + M) (Rat.divInt a b) (.agg (cs ++ ds).toArray) := by
  obtain ⟨g, p, n, c, X, e, s, rfl, l⟩ := h
  obtain ⟨g', q, m, d, Y, e', t, rfl, l'⟩ := h'
  have e : cs = [.bool g, .slice p n c] := by injection e with e; simpa using congrArg Array.toList e
  have e' : ds = [.bool g', .slice q m d] := by injection e' with e'; simpa using congrArg Array.toList e'
  subst e; subst e'
  have hg : g' = false := by
    cases g' with
    | false => rfl
    | true => unfold iv at hb; simp at hb; omega
  subst hg
  have hv : iv false (val Y) = (val Y : Int) := rfl
  rw [hv] at hb ⊢
  exact ⟨g, p, n, c, X, q, m, d, Y, rfl, s, t, (divInt_pos _).symm, by omega, by omega, by omega⟩

theorem pFrac_two {w : World} {a b : List (Seg Kn)} {L M : Nat} {x y : Int} {cs : List Value} (ha : pInt a = some (L, x)) (hb : pInt b = some (M, y)) (h0 : 0 < y) (hs : segs Dn w (a ++ b) cs) : VF w (L + M) (Rat.divInt x y) (.agg cs.toArray) := by
  obtain ⟨u, v, rfl, h1, h2⟩ := segs_split hs
  exact VI.frac (pInt_segs ha h1) (pInt_segs hb h2) h0

theorem pFrac_ok {w : World} {β : Nat → Option Nat} {ss : List (Seg Kn)} {obs : List Prop} {L : Nat} {r : Rat} {v : Value} (h : pFrac ss = some (obs, L, r)) (ho : ∀ p ∈ obs, p) (hs : (AV.val true ss).holds Dn β w v) : VF w L r v := by
  obtain ⟨cs, h1, h2, -⟩ := hs
  rw [h2]
  show VF w L r (.agg cs.toArray)
  have two : ∀ {a b : List (Seg Kn)} {p q : Nat × Int}, pInt a = some p → pInt b = some q → ss = a ++ b → ([0 < q.2], p.1 + q.1, Rat.divInt p.2 q.2) = (obs, L, r) → VF w L r (.agg cs.toArray) := by
    intro a b p q ha hb e he
    injection he with e1 e2
    injection e2 with e2 e3
    subst e1; subst e2; subst e3
    subst e
    exact pFrac_two ha hb (ho _ (by simp)) h1
  unfold pFrac at h
  split at h
  · injection h with h
    injection h with e1 e2
    injection e2 with e2 e3
    subst e1; subst e2; subst e3
    obtain ⟨a, b, rfl, ⟨_, h1⟩, rfl⟩ := h1
    rw [List.append_nil]
    exact h1
  · injection h with h
    injection h with e1 e2
    injection e2 with e2 e3
    subst e1; subst e2; subst e3
    obtain ⟨a, b, rfl, ⟨_, h1⟩, rfl⟩ := h1
    rw [List.append_nil]
    exact VL.raw h1 (Nat.le_refl _)
  · split at h
    case h_2 => cases h
    rename_i hp hq
    injection h with h
    exact two hp hq rfl h
  · split at h
    · rename_i hp hq
      injection h with h
      exact two hp hq rfl h
    · split at h
      case h_2 => cases h
      rename_i hp hq
      injection h with h
      exact two hp hq rfl h
  · split at h
    case h_2 => cases h
    rename_i hp hq
    injection h with h
    exact two hp hq rfl h
  · cases h

theorem parse_ok {w : World} {β : Nat → Option Nat} {a : Ar} {x : Av} {obs : List Prop} {p : Pa} {v : Value} (h : parse a x = some (obs, p)) (ho : ∀ p ∈ obs, p) (hx : x.holds Dn β w v) : p.is w v := by
  unfold parse at h
  split at h
  · simp only [Option.map_eq_some_iff, Prod.mk.injEq] at h
    obtain ⟨q, hq, rfl, rfl⟩ := h
    exact pNat_ok hq hx
  · simp only [Option.map_eq_some_iff, Prod.mk.injEq] at h
    obtain ⟨q, hq, rfl, rfl⟩ := h
    exact pInt_ok hq hx
  · simp only [Option.map_eq_some_iff, Prod.mk.injEq] at h
    obtain ⟨q, hq, rfl, rfl⟩ := h
    exact pRat_ok hq hx
  · simp only [Option.map_eq_some_iff, Prod.mk.injEq] at h
    obtain ⟨q, hq, rfl, rfl⟩ := h
    exact pFrac_ok hq ho hx
  · simp only [Option.map_eq_some_iff, Prod.mk.injEq] at h
    obtain ⟨q, hq, rfl, rfl⟩ := h
    exact lit?_ok hq hx
  · simp only [Option.map_eq_some_iff, Prod.mk.injEq] at h
    obtain ⟨q, hq, rfl, rfl⟩ := h
    exact pD1_ok hq hx
  · simp only [Option.map_eq_some_iff, Prod.mk.injEq] at h
    obtain ⟨q, hq, rfl, rfl⟩ := h
    exact pZ1_ok hq hx
  · simp only [Option.map_eq_some_iff, Prod.mk.injEq] at h
    obtain ⟨q, hq, rfl, rfl⟩ := h
    unfold pQ1 at hq
    split at hq
    · injection hq with hq; subst hq; exact sv_to hx
    · cases hq
  · simp only [Option.map_eq_some_iff, Prod.mk.injEq] at h
    obtain ⟨q, hq, rfl, rfl⟩ := h
    exact pItv_ok hq hx
  · cases h

theorem parses_ok {w : World} {β : Nat → Option Nat} : ∀ {ar : List Ar} {xs : List Av} {obs : List Prop} {ps : List Pa} {vs : List Value}, parses ar xs = some (obs, ps) → (∀ p ∈ obs, p) → avs Dn β w xs vs → pas w ps vs
  | [], [], _, _, _, h, _, hv => by injection h with h; injection h with h1 h2; subst h2; exact hv
  | a :: ar, x :: xs, _, _, _, h, ho, ⟨v, us, e, h1, h2⟩ => by
    simp only [parses] at h
    split at h
    case h_2 => cases h
    rename_i p ps hp hps
    injection h with h
    injection h with e1 e2
    subst e1; subst e2
    exact ⟨v, us, e, parse_ok hp (fun q hq => ho q (memL hq)) h1, parses_ok hps (fun q hq => ho q (memR hq)) h2⟩
  | [], _ :: _, _, _, _, h, _, _ => by cases h
  | _ :: _, [], _, _, _, h, _, _ => by cases h

def Cp (f : FuncId) (ps : List Pa) (r : Av) : Prop :=
  Enters f ∧ ∀ (S : Nat → Prop) (w : World) (vs : List Value), Tab (hide S w) → (∀ b, S b → Plain w b) → pas (hide S w) ps vs → Calls Tryz.prog f vs.toArray w (Ret Dn S r w)

def ent (ar : List Ar) (k : List Pa → Option (List Prop × Av)) : List Av → Option (List Prop × Av) := fun xs => match parses ar xs with
  | some (obs, ps) => match k ps with
    | some (obs', r) => some (obs ++ obs', r)
    | none => none
  | none => none

theorem ent_ok {f : FuncId} {ar : List Ar} {k : List Pa → Option (List Prop × Av)} (h : ∀ ps obs r, k ps = some (obs, r) → (∀ p ∈ obs, p) → Cp f ps r) (args : List Av) (obs : List Prop) (r : Av) (he : ent ar k args = some (obs, r)) (ho : ∀ p ∈ obs, p) : Cn f args r := by
  unfold ent at he
  split at he
  case h_2 => cases he
  rename_i obs1 ps hp
  split at he
  case h_2 => cases he
  rename_i obs2 r2 hk
  injection he with he
  injection he with e1 e2
  subst e1; subst e2
  obtain ⟨h1, h2⟩ := h ps obs2 r2 hk fun q hq => ho q (memR hq)
  exact ⟨h1, fun S w vs hE hS hv => h2 S w vs hE hS (parses_ok hp (fun q hq => ho q (memL hq)) hv)⟩

def pav : Pa → Av
  | .n L x => sv (.rnat L x)
  | .i L z => sv (.rint L z)
  | .r L q => sv (.rrat L q)
  | .f L q => sv (.frac L q)
  | .l v => .val false [.lit v]
  | .cd x => sv (.nat x)
  | .cz y => sv (.int y)
  | .cq y => sv (.rat y)
  | .vv L r s => .val true (ivSegs L r s)

theorem pav_of {w : World} {p : Pa} {v : Value} (h : p.is w v) : (pav p).holds Dn none' w v := by
  cases p with
  | n L x => exact sv_of (x := .rnat L x) h _
  | i L z => exact sv_of (x := .rint L z) h _
  | r L q => exact sv_of (x := .rrat L q) h _
  | f L q => exact sv_of (x := .frac L q) h _
  | l u =>
    have h : v = u := h
    subst h
    exact vl_lit _ _
  | cd x => exact sv_of (x := .nat x) h _
  | cz n => exact sv_of (x := .int n) h _
  | cq q => exact sv_of (x := .rat q) h _
  | vv L r s => exact h

theorem pav_to {w : World} {p : Pa} {v : Value} (h : (pav p).holds Dn none' w v) : p.is w v := by
  cases p with
  | n L x => exact sv_to (x := .rnat L x) h
  | i L z => exact sv_to (x := .rint L z) h
  | r L q => exact sv_to (x := .rrat L q) h
  | f L q => exact sv_to (x := .frac L q) h
  | l u => exact vl_lit_inv h
  | cd x => exact sv_to (x := .nat x) h
  | cz n => exact sv_to (x := .int n) h
  | cq q => exact sv_to (x := .rat q) h
  | vv L r s => exact h

theorem pas_avs {w : World} : ∀ {ps : List Pa} {vs : List Value}, pas w ps vs → avs Dn none' w (ps.map pav) vs
  | [], _, h => h
  | _ :: _, _, ⟨v, us, e, h1, h2⟩ => ⟨v, us, e, pav_of h1, pas_avs h2⟩

theorem avs_pas {w : World} : ∀ {ps : List Pa} {vs : List Value}, avs Dn none' w (ps.map pav) vs → pas w ps vs
  | [], _, h => h
  | _ :: _, _, ⟨v, us, e, h1, h2⟩ => ⟨v, us, e, pav_to h1, avs_pas h2⟩

theorem cp_of {f : FuncId} {ps : List Pa} {r : Av} (h : Cn f (ps.map pav) r) : Cp f ps r := ⟨h.1, fun S w vs hE hS hv => h.2 S w vs hE hS (pas_avs hv)⟩

theorem cp_leaf {f : FuncId} {ps : List Pa} {r : Av} (he : Enters f) (h : ∀ w vs, Tab w → pas w ps vs → Calls Tryz.prog f vs.toArray w fun e w' => ∃ u, e = .returned u ∧ r.holds Dn none' w' u ∧ Fr [] w w') : Cp f ps r :=
  cp_of (leaf he fun w vs ht hv => h w vs ht (avs_pas hv))

theorem rv_sv {k : Kn} {w : World} {e : Ending} {w' : World} (h : RV (fun w' => k.is w') w e w') : ∃ u, e = .returned u ∧ (sv k).holds Dn none' w' u ∧ Fr [] w w' := by
  obtain ⟨u, h1, h2, h3⟩ := h
  exact ⟨u, h1, sv_of h2 _, h3⟩

theorem rn_sv {z : Int} {w : World} {e : Ending} {w' : World} (h : RN z w e w') : ∃ u, e = .returned u ∧ (avI z).holds Dn none' w' u ∧ Fr [] w w' := ⟨_, h.1, vl_lit _ _, h.2⟩

theorem rb_sv {b : Bool} {w : World} {e : Ending} {w' : World} (h : RB b w e w') : ∃ u, e = .returned u ∧ (avB b).holds Dn none' w' u ∧ Fr [] w w' := ⟨_, h.1, vl_lit _ _, h.2⟩

theorem vl_sv {k : Kn} {w : World} {v : Value} (h : k.is w v) : vl Dn w (k.g, [.sem k]) v := sv_of h none'

def opn : Pa → Av → Prop
  | .n L x, a => (dg x).length ≤ L ∧ a = sv (.rnat L x)
  | .i L z, a => nz z ≤ L ∧ a = sv (.rint L z)
  | .r L q, a => ∃ (z : Int) (d : Nat), mkRat z d = q ∧ nz z ≤ L ∧ (dg d).length ≤ L ∧ a = .val true [.sem (.rint L z), .sem (.rnat L d)]
  | .f L q, a => ∃ (z : Int) (d : Nat), mkRat z d = q ∧ d ≠ 0 ∧ nz z ≤ L ∧ (dg d).length ≤ L ∧ a = .val true [.sem (.rint L z), .lit (.bool false), .sem (.rnat L d)]
  | .l v, a => a = .val false [.lit v]
  | .cd x, a => a = sv (.nat x)
  | .cz y, a => a = sv (.int y)
  | .cq y, a => a = sv (.rat y)
  | .vv L r s, a => a = .val true (ivSegs L r s)

def opns : List Pa → List Av → Prop
  | [], xs => xs = []
  | p :: ps, xs => ∃ x ys, xs = x :: ys ∧ opn p x ∧ opns ps ys

theorem vn_len {w : World} {L x : Nat} {v : Value} (h : VN w L x v) : (dg x).length ≤ L := by
  obtain ⟨p, n, c, X, _, s, rfl, l⟩ := h
  have := dg_len_val s.dig
  rw [s.len] at this
  omega

theorem opn_of {w : World} {p : Pa} {v : Value} (h : p.is w v) : ∃ x, opn p x ∧ x.holds Dn none' w v := by
  cases p with
  | n L x => exact ⟨_, ⟨vn_len h, rfl⟩, sv_of (x := .rnat L x) h _⟩
  | i L z => exact ⟨_, ⟨nz_len h, rfl⟩, sv_of (x := .rint L z) h _⟩
  | l u => exact ⟨_, rfl, pav_of (p := .l u) h⟩
  | cd x => exact ⟨_, rfl, pav_of (p := .cd x) h⟩
  | cz x => exact ⟨_, rfl, pav_of (p := .cz x) h⟩
  | cq x => exact ⟨_, rfl, pav_of (p := .cq x) h⟩
  | vv L r s => exact ⟨_, rfl, pav_of (p := .vv L r s) h⟩
  | r L q =>
    obtain ⟨g, p, n, c, X, q', m, d, Y, rfl, s, t, hr, l, l'⟩ := h
    have h1 : VI w L (iv g (val X)) (.agg [.bool g, .slice p n c].toArray) := ⟨g, p, n, c, X, rfl, s, rfl, l⟩
    have h2 : VN w L (val Y) (.slice q' m d) := ⟨q', m, d, Y, rfl, t, rfl, l'⟩
    exact ⟨_, ⟨_, _, hr, nz_len h1, vn_len h2, rfl⟩, [.bool g, .slice p n c, .slice q' m d], ⟨[_, _], [_], rfl, ⟨⟨rfl, by simp [cellOk]⟩, h1⟩, [_], [], rfl, ⟨⟨rfl, by simp [cellOk]⟩, h2⟩, rfl⟩, rfl, fun h => by cases h⟩
  | f L q =>
    obtain ⟨g, p, n, c, X, q', m, d, Y, rfl, s, t, hr, hy, l, l'⟩ := h
    have h1 : VI w L (iv g (val X)) (.agg [.bool g, .slice p n c].toArray) := ⟨g, p, n, c, X, rfl, s, rfl, l⟩
    have h2 : VN w L (val Y) (.slice q' m d) := ⟨q', m, d, Y, rfl, t, rfl, l'⟩
    exact ⟨_, ⟨_, _, hr, hy, nz_len h1, vn_len h2, rfl⟩, [.bool g, .slice p n c, .bool false, .slice q' m d], ⟨[_, _], [_, _], rfl, ⟨⟨rfl, by simp [cellOk]⟩, h1⟩, [_], [_], rfl, rfl, [_], [], rfl, ⟨⟨rfl, by simp [cellOk]⟩, h2⟩, rfl⟩, rfl, fun h => by cases h⟩

theorem opns_of {w : World} : ∀ {ps : List Pa} {vs : List Value}, pas w ps vs → ∃ xs, opns ps xs ∧ avs Dn none' w xs vs
  | [], _, h => ⟨[], rfl, h⟩
  | _ :: _, _, ⟨v, us, e, h1, h2⟩ => by
    obtain ⟨x, h3, h4⟩ := opn_of h1
    obtain ⟨xs, h5, h6⟩ := opns_of h2
    exact ⟨x :: xs, ⟨x, xs, rfl, h3, h5⟩, v, us, e, h4, h6⟩

theorem cp_opn {f : FuncId} {ps : List Pa} {r : Av} (he : Enters f) (h : ∀ xs, opns ps xs → Cn f xs r) : Cp f ps r :=
  ⟨he, fun S w vs hE hS hv => by obtain ⟨xs, h1, h2⟩ := opns_of hv; exact (h xs h1).2 S w vs hE hS h2⟩

theorem cn_res {f : FuncId} {args : List Av} {r r' : Av} (h : Cn f args r) (hr : ∀ w u, r.holds Dn none' w u → r'.holds Dn none' w u) : Cn f args r' :=
  ⟨h.1, fun S w vs hE hS hv => (h.2 S w vs hE hS hv).mono (by rintro e w' ⟨u, h1, h2, h3⟩; exact ⟨u, h1, hr _ _ h2, h3⟩)⟩

theorem segs2 {w : World} {s t : Seg Kn} {cs : List Value} (h : segs Dn w [s, t] cs) : ∃ a b, cs = a ++ b ∧ s.holds Dn w a ∧ t.holds Dn w b := by
  obtain ⟨a, b, rfl, h1, c, d, rfl, h2, rfl⟩ := h
  exact ⟨a, c, by rw [List.append_nil], h1, h2⟩

theorem rat_join {z : Int} {x : Nat} {r : Rat} (hz : r.num = z) (hx : r.den = x) (w : World) (u : Value) (h : (AV.val true [.sem (.int z), .sem (.nat x)] : Av).holds Dn none' w u) : (sv (.rat r)).holds Dn none' w u := by
  obtain ⟨cs, h1, h2, -⟩ := h
  obtain ⟨a, b, rfl, ⟨_, p, c, e, s⟩, ⟨⟨hl, _⟩, q, d, e', t⟩⟩ := segs2 h1
  subst hz; subst hx
  rw [h2]
  have e : a = [.bool (decide (r.num < 0)), .slice p (dg r.num.natAbs).length c] := by injection e with e; simpa using congrArg Array.toList e
  have e' : b = [.slice q (dg r.den).length d] := by
    match b, hl with
    | [y], _ => have e' : y = _ := e'; rw [e']
  subst e; subst e'
  exact sv_of (x := .rat r) ⟨p, c, q, d, rfl, s, t⟩ _

theorem rat_zero (w : World) (u : Value) (h : (AV.val true [.lit (.bool false), .lit (.slice none 0 0), .sem (.nat 1)] : Av).holds Dn none' w u) : (sv (.rat 0)).holds Dn none' w u := by
  obtain ⟨cs, ⟨a, b, rfl, h1, a', b', rfl, h2, a3, b3, rfl, ⟨⟨hl, _⟩, q, d, e', t⟩, rfl⟩, h4, -⟩ := h
  have h1 : a = [.bool false] := h1
  have h2 : a' = [.slice none 0 0] := h2
  have e' : a3 = [.slice q (dg 1).length d] := by
    match a3, hl with
    | [y], _ => have e' : y = _ := e'; rw [e']
  subst h1; subst h2; subst e'
  rw [h4]
  refine sv_of (x := .rat 0) ⟨none, 0, q, d, ?_, ?_, t⟩ _
  · show _ = rw' (decide ((0 : Int) < 0)) none (dg (0 : Int).natAbs).length 0 q (dg 1).length d
    rw [Int.natAbs_zero, dg_zero]
    rfl
  · show Sl w none (dg (0 : Int).natAbs).length 0 (dg (0 : Int).natAbs)
    rw [Int.natAbs_zero, dg_zero]
    exact Sl.zero w

def AllP : List Prop → Prop
  | [] => True
  | p :: ps => p ∧ AllP ps

theorem allp : ∀ {ps : List Prop}, AllP ps → ∀ p ∈ ps, p
  | [], _, p, h => by cases h
  | q :: ps, ⟨h1, h2⟩, p, h => by
    rcases List.mem_cons.1 h with rfl | h
    · exact h1
    · exact allp h2 p h

theorem wk {es : List Ent} (hes : EntsOk es) {f : FuncId} {fn : Func} {args : List Av} {ds : List (Option Bool)} {fuel : Nat} {obs : List Prop} {r : Av} (hf : Tryz.prog.funcs[f]? = some fn) (hname : (fn.name == "runtime.NumGoroutine") = false)
    (h : aFun Dn (mkTb es) Tryz.prog fuel fn args ds = some (obs, r)) (ho : AllP obs) : Cn f args r := walk2 (alts := []) hes trivial hf hname h fun _ => allp ho

theorem wk2 {es alts : List Ent} (hes : EntsOk es) (ha : EntsOk alts) {f : FuncId} {fn : Func} {args : List Av} {ds : List (Option Bool)} {fuel : Nat} {obs : List Prop} {r : Av} (hf : Tryz.prog.funcs[f]? = some fn) (hname : (fn.name == "runtime.NumGoroutine") = false)
    (h : aFun Dn (mkTb2 es alts) Tryz.prog fuel fn args ds = some (obs, r)) (ho : AllP obs) : Cn f args r := walk2 hes ha hf hname h fun _ => allp ho

theorem wk3 {es alts : List Ent} {hint : Nat → Option (Hint Kn)} (hes : EntsOk es) (ha : EntsOk alts) {f : FuncId} {fn : Func} {args : List Av} {ds : List (Option Bool)} {fuel : Nat} {obs : List Prop} {r : Av} (hf : Tryz.prog.funcs[f]? = some fn) (hname : (fn.name == "runtime.NumGoroutine") = false)
    (h : aFun Dn (mkTb3 es alts hint) Tryz.prog fuel fn args ds = some (obs, r)) (ho : AllP obs) : Cn f args r := walk3 hes ha hf hname h fun _ => allp ho

end Go.Proofs.YtagciepnhjbopaaGreatDoor
