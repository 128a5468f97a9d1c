/- What the statements of this claim stand on: of Tab, what they name -/
import Derived.ChangeVars
import Derived.JoinedOf
import Derived.LaidLaws
import Derived.Test.YtagciepnhjbopaaGreatDoorT19
import Derived.Test.YtagciepnhjbopaaGreatDoorT23
import Derived.Test.YtagciepnhjbopaaGreatDoorT24

namespace Go.Proofs.YtagciepnhjbopaaGreatDoor
open Go.Joins Go.ChangeShapes Go.WideShapes Go.ChangeAt Go.RowKit Go.Deep

theorem mapM_some {α β : Type} {f : α → Option β} : ∀ {l : List α} {xs : List β}, l.mapM f = some xs → ∀ (i : Nat) (a : α), l[i]? = some a → ∃ b, xs[i]? = some b ∧ f a = some b
  | [], xs, _, i, a, ha => by simp at ha
  | x :: l, xs, h, i, a, ha => by
    simp only [List.mapM_cons, Option.bind_eq_bind, Option.bind_eq_some_iff, Option.pure_def, Option.some.injEq] at h
    obtain ⟨y, hy, ys, hys, rfl⟩ := h
    cases i with
    | zero =>
      simp at ha
      subst ha
      exact ⟨y, rfl, hy⟩
    | succ i =>
      obtain ⟨b, hb, hf⟩ := mapM_some hys i a (by simpa using ha)
      exact ⟨b, by simpa using hb, hf⟩

def tbl : List Nat := [0, 1, 28, 2, 29, 14, 24, 3, 30, 22, 20, 15, 25, 17, 4, 8, 31, 27, 13, 23, 21, 19, 16, 7, 26, 12, 18, 6, 11, 5, 10, 9]

def tcells : Array Value := (tbl.map fun (x : Nat) => Value.int .u8 (x : Int)).toArray

abbrev laidT {H : Type} : List (String × DataW H) := [("math/bits.deBruijn32tab", Rows.laid_math_bits_deBruijn32tab)]

theorem Tryz.tabG : Tryz.prog.globalNamed "math/bits.deBruijn32tab" = some 0 := by kernel_rfl

theorem Tryz.tabT : (Tryz.prog.globals[0]?).map (·.type) = some 160 := by kernel_rfl

theorem Tryz.cells32 : Tryz.prog.cellsOf 160 = 32 := by kernel_rfl

theorem Tryz.cells8 : Tryz.prog.cellsOf 5 = 1 := by kernel_rfl

theorem lit_of_trod {H : Type} {enc : TypeId × Value → H} {P : Program} {w : World} {base : Nat} {sp : Nat → Bool} {held : Bool} {fuel : Nat} {t : TypeId} {k : IntKind} {c : Value} {y : DataW H × List MemPlace}
    (ht : P.underlying t = some (.int k)) (h : DataW.trod enc P w base sp held fuel t [c] = some y) : ∃ n, c = .int k n ∧ y = (.lit (.int k n), []) := by
  cases fuel with
  | zero => simp [DataW.trod] at h
  | succ fuel =>
    cases c <;> simp [DataW.trod, ht] at h
    rename_i k' n
    obtain ⟨⟨rfl, _⟩, rfl⟩ := h
    exact ⟨n, rfl, rfl⟩

theorem tbl_data {H : Type} : (Rows.laid_math_bits_deBruijn32tab : DataW H) = .agg (tbl.map fun (x : Nat) => .lit (.int .u8 (x : Int))) := rfl

theorem tbl_at : ∀ k, k < 32 → tbl[2 ^ k * 125613361 % 4294967296 / 134217728]? = some k := by decide +kernel

theorem tab_laid {W : World} (h : laidMet Tryz.prog laidT W) : Tab W := by
  obtain ⟨ps, ⟨g, t, cs, fuel, p, q, hg, ht, hvar, hd, _, _⟩, _⟩ := h
  obtain rfl := Option.some.inj (Tryz.tabG.symm.trans hg)
  obtain rfl := Option.some.inj (Tryz.tabT.symm.trans ht)
  cases fuel with
  | zero => simp [DataW.trod] at hd
  | succ fuel =>
    simp only [DataW.trod, Tryz.underlying160, Tryz.cells32, Tryz.cells8] at hd
    split at hd
    · rename_i hl
      rw [Option.map_eq_some_iff] at hd
      obtain ⟨xs, hm, hx⟩ := hd
      have hx1 : xs.map (·.1) = tbl.map fun (x : Nat) => .lit (.int .u8 (x : Int)) := by
        have := congrArg Prod.fst hx
        rw [tbl_data] at this
        injection this
      intro k hk
      have h1 := tbl_at k hk
      generalize 2 ^ k * 125613361 % 4294967296 / 134217728 = j at h1 ⊢
      have hj : j < 32 := (List.getElem?_eq_some_iff.1 h1).1
      obtain ⟨b, hb, hf⟩ := mapM_some hm j j (by simp [hj])
      have hlj : j < cs.toList.length := by omega
      have e1 : (cs.toList.drop (j * 1)).take 1 = [cs.toList[j]] := by
        rw [Nat.mul_one, List.drop_eq_getElem_cons hlj]
        rfl
      rw [e1] at hf
      obtain ⟨n, hc, rfl⟩ := lit_of_trod Tryz.underlying5 hf
      have e2 : (xs.map (·.1))[j]? = some (.lit (.int .u8 n)) := by rw [List.getElem?_map, hb]; rfl
      rw [hx1, List.getElem?_map, h1] at e2
      simp at e2
      rw [World.var?_cell hg hvar j]
      have e3 : cs[j]? = some (.int .u8 n) := by
        rw [← Array.getElem?_toList, List.getElem?_eq_getElem hlj, hc]
      rw [e3, ← e2]
    · cases hd

noncomputable def tabWorld (os : Os) : World :=
  { World.holding Tryz.prog os ⟨#[], #[], []⟩ with heap := (World.holding Tryz.prog os ⟨#[], #[], []⟩).heap.modify 0 fun
      | .cells _ t frozen => .cells tcells t frozen
      | o => o }

theorem tabWorld_row (os : Os) (args : Array Value) : ((tabWorld os).forCall (fun _ _ => 0) ⟨#[], args, []⟩).memory.heap[0]? = some (.cells tcells 160 (0, 0)) := by kernel_rfl

theorem tcells_int {u : TypeId} {v : Value} {j : Nat} : tcells[j]? ≠ some (.iface u v) := by
  unfold tcells
  rw [List.getElem?_toArray, List.getElem?_map]
  cases tbl[j]? <;> simp

set_option maxRecDepth 100000 in
theorem tabWorld_met (os : Os) (args : Array Value) : laidMet Tryz.prog laidT ((tabWorld os).forCall (fun _ _ => 0) ⟨#[], args, []⟩).memory :=
  ⟨_, ⟨0, 160, tcells, 8, [], [], by kernel_rfl, by kernel_rfl, by kernel_rfl, by kernel_rfl, rfl, rfl⟩, of_decide_eq_true (by kernel_rfl), fun b off h => by
    have h' : MemPlace.cell b off ∈ MemPlace.row ⟨0, 0, none⟩ 32 ++ [] ++ [] := h
    have hb : b = 0 := by
      rw [List.append_nil, List.append_nil] at h'
      obtain ⟨i, _, e⟩ := List.mem_map.1 h'
      injection e with e1 e2
      exact e1.symm
    subst hb
    refine ⟨⟨_, _, tabWorld_row os args⟩, fun u v hc => ?_⟩
    rw [cell_of_row _ 0 off _ _ _ (tabWorld_row os args)] at hc
    exact absurd hc (tcells_int (u := u) (v := v) (j := off))⟩

set_option maxRecDepth 100000 in
theorem Tryz.cellsR : Tryz.prog.cellsOf 26 = 3 := by kernel_rfl

set_option maxRecDepth 100000 in
theorem view_rat {H : Type} {enc : TypeId × Value → H} {W : World} {r : Reach} {b0 : Nat} {v : Value} {d : DataW H} {p : List MemPlace}
    (hv : Value.okWide Tryz.prog W r b0 26 v) (h : DataW.Trod enc Tryz.prog W 0 (fun _ => true) true 26 v d p) : ∃ g q n c xs q' m k ys, v = rw' g q n c q' m k ∧ Sl W q n c xs ∧ Sl W q' m k ys := by
  obtain ⟨cs, rfl, hsz⟩ := okWide_struct Tryz.underlying26 hv
  obtain ⟨c0, c1, c2, rfl⟩ := array3 (hsz.trans Tryz.cellsR)
  obtain ⟨fuel, hf⟩ := h
  obtain ⟨y0, y1, n, _, _, h0, h1⟩ := trod_struct2 Tryz.underlying26 hf
  have h0' : DataW.trod enc Tryz.prog W 0 (fun _ => true) true n 24 [c0, c1] = some y0 := by simpa [Value.cells, Tryz.cellsI] using h0
  have h1' : DataW.trod enc Tryz.prog W 0 (fun _ => true) true n 22 [c2] = some y1 := by simpa [Value.cells, show Tryz.prog.cellsOf 22 = 1 from by kernel_rfl] using h1
  obtain ⟨z0, z1, m, _, _, k0, k1⟩ := trod_struct2 Tryz.underlying24 h0'
  have k0' : DataW.trod enc Tryz.prog W 0 (fun _ => true) true m 4 [c0] = some z0 := by simpa [show Tryz.prog.cellsOf 4 = 1 from by kernel_rfl] using k0
  have k1' : DataW.trod enc Tryz.prog W 0 (fun _ => true) true m 22 [c1] = some z1 := by simpa [show Tryz.prog.cellsOf 22 = 1 from by kernel_rfl] using k1
  obtain ⟨a1, l1, j1, X1, rfl, s1⟩ := view_slice k1'
  obtain ⟨a2, l2, j2, X2, rfl, s2⟩ := view_slice h1'
  obtain ⟨b, hb, _⟩ := DataW.trod_bool Tryz.underlying4 k0'
  simp at hb
  subst hb
  exact ⟨b, a1, l1, j1, X1, a2, l2, j2, X2, rfl, s1, s2⟩

set_option maxRecDepth 100000 in
theorem staysR {H : Type} {enc : TypeId × Value → H} {W W' : World} {v : Value} {d : DataW H} {ps : List MemPlace} (h : DataW.Trod enc Tryz.prog W 0 (fun _ => true) true 26 v d ps) (hb : Below W.heap.size W W') (hlt : ∀ x ∈ ps, x.block < W.heap.size) :
    DataW.Trod enc Tryz.prog W' 0 (fun b => decide (b < W.heap.size)) true 26 v d ps :=
  Below.trod Tryz.laidOut (by kernel_rfl) (of_decide_eq_true (by kernel_rfl)) h hb hlt

end Go.Proofs.YtagciepnhjbopaaGreatDoor
