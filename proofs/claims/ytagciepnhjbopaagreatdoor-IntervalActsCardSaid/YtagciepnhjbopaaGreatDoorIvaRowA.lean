/- IntervalActs is true, whatever its arguments: the row, and its card: of every input, in worlds in which the table of package math/bits stands as the program's text lays it. Written by wip/gen/gen_row3.py. -/
import Derived.ChangeMaps5
import Derived.OpenShut
import Derived.SevenTiedAt
import Derived.Test.YtagciepnhjbopaaGreatDoorCards
import Derived.Test.YtagciepnhjbopaaGreatDoorRows
import Derived.Test.YtagciepnhjbopaaGreatDoorTie
import Derived.Test.YtagciepnhjbopaaGreatDoorA44
import Derived.Test.YtagciepnhjbopaaGreatDoorA45

namespace Go.Proofs.YtagciepnhjbopaaGreatDoor
open Go.Joins Go.ChangeShapes Go.WideShapes Go.ChangeAt Go.RowKit Go.Deep

theorem int_of_wf3 {n : Int} (h : (Lit.int .i64 n).wf = true) : -9223372036854775808 ≤ n ∧ n ≤ 9223372036854775807 := by
  simp [Lit.wf, IntKind.min, IntKind.max, IntKind.signed, IntKind.bits] at h
  omega

set_option maxRecDepth 100000 in
theorem intervalActs_lifted (os : Os) (started : os.Started) (H : Type) (enc : TypeId × Value → H) :
    ReturnsInHanded {} Tryz.checked os 10 .any (fun w args => (Rows.intervalActsSpec.pre enc Tryz.prog Tryz.f10 [] false w args ∧ laidMet Tryz.prog laidT w) ∧ sizedMet enc Tryz.prog Tryz.f10 (OpenSpec.ofChange Rows.intervalActsSpec) false w args) (Rows.intervalActsSpec.post enc Tryz.prog Tryz.f10 false true false false) := by
  refine returnsInHanded_of_change_and (C := Tryz.checked) (X := fun w _ => laidMet Tryz.prog laidT w) (fun _ _ _ hh h => h.of_heap hh) Tryz.own started (by kernel_rfl) Tryz.func10
    (ChangeSpec.witness_at (enc := enc) (C := Tryz.checked) (os := os) (X := fun w _ => laidMet Tryz.prog laidT w) false (tabWorld os) #[.agg #[.bool false, .slice none 0 0, .slice none 0 0, .bool false, .slice none 0 0, .slice none 0 0], .agg #[.bool false, .slice none 0 0, .slice none 0 0, .bool false, .slice none 0 0, .slice none 0 0], .agg #[.bool false, .slice none 0 0, .slice none 0 0], .int .i64 0] 8 rfl (by kernel_rfl) (by kernel_rfl) (by kernel_rfl) (by kernel_rfl) (by kernel_rfl) (tabWorld_met os _)) ?_
  intro W base args ds gs before hval0 hW _ _ hL _
  have hval : ∀ (j : Nat) t v, Tryz.f10.params[j]? = some t → args[j]? = some v → Value.okWide Tryz.prog W .any base t v := hval0
  have hW' := hW
  obtain ⟨p, q, hA0, hV, rfl, hfz, hnd⟩ := hW
  have hA : DataW.TrodAll enc Tryz.prog W 0 (fun _ => true) true Tryz.f10.params.toList args.toList ds p := hA0
  rw [Tryz.params10] at hA hval
  have ht := tab_laid hL
  obtain ⟨v0, v1, v2, v3, d0, d1, d2, d3, p0, p1, p2, p3, rfl, rfl, rfl, h0, h1, h2, h3⟩ := trodAll_four hA
  obtain ⟨rfl, rfl⟩ := trodVars_none hV
  obtain ⟨b0, a0, l0, c0, x0, r0, m0, k0, y0, b0b, a0b, l0b, c0b, x0b, r0b, m0b, k0b, y0b, rfl, s0, t0, s0b, t0b⟩ := view_iv (hval 0 55 v0 rfl rfl) h0
  obtain ⟨b1, a1, l1, c1, x1, r1, m1, k1, y1, b1b, a1b, l1b, c1b, x1b, r1b, m1b, k1b, y1b, rfl, s1, t1, s1b, t1b⟩ := view_iv (hval 1 55 v1 rfl rfl) h1
  obtain ⟨b2, a2, l2, c2, x2, r2, m2, k2, y2, rfl, s2, t2⟩ := view_rat (hval 2 26 v2 rfl rfl) h2
  obtain ⟨z3, rfl, rfl, rfl, u3⟩ := open_int Tryz.underlying3 (hval 3 3 v3 rfl rfl) h3
  clear hA0 hval0
  simp only [List.append_nil] at hW'
  have hlt : ∀ x ∈ p0 ++ (p1 ++ (p2 ++ ([]))), x.block < W.heap.size := fun x hx => hW'.lt x (by simpa using hx)
  refine (iacts_any b0 a0 l0 c0 x0 r0 m0 k0 y0 b0b a0b l0b c0b x0b r0b m0b k0b y0b b1 a1 l1 c1 x1 r1 m1 k1 y1 b1b a1b l1b c1b x1b r1b m1b k1b y1b b2 a2 l2 c2 x2 r2 m2 k2 y2 z3 W ht s0 t0 s0b t0b s1 t1 s1b t1b s2 t2 (int_of_wf3 u3)).mono fun e W' ⟨he, hf⟩ => ?_
  subst he
  have hb := hf.below
  exact ⟨_, rfl, _, _, _, _, _, [], hW', trodAll_mk1 (shut_bool Tryz.underlying4 _),
    trodAll_mk4 (staysV h0 hb (fun x hx => hlt x (by simp [hx]))) (staysV h1 hb (fun x hx => hlt x (by simp [hx]))) (staysR h2 hb (fun x hx => hlt x (by simp [hx]))) (shut_int Tryz.underlying3 u3), rfl, hb.frame _, fun h => by cases h⟩

theorem intervalActs_r1 : Tryz.pinned.checked.prog.funcNamed Rows.intervalActsRow.func = some 10 := by kernel_rfl

theorem intervalActs_r2 : joinedFacts Tryz.pinned.checked.prog 10 Tryz.f10 Rows.intervalActsSpec Rows.intervalActsRow = true := by kernel_rfl

theorem intervalActs_r3 : Tryz.f10.isInstance Tryz.pinned.checked.prog Rows.intervalActsRow.origin Rows.intervalActsRow.targs := of_decide_eq_true (by kernel_rfl)

theorem intervalActs_r4 : Tryz.f10.isWrapper Tryz.pinned.checked.prog Rows.intervalActsRow.wrapper Rows.intervalActsRow.mainSum := by
  unfold Func.isWrapper; first | (rw [if_pos (by decide +kernel)]; kernel_rfl) | (rw [if_neg (by decide +kernel)]; exact ⟨rfl, rfl⟩)

theorem intervalActs_row : Rows.IntervalActsSaid :=
  OpenClaim.holds_of_wide 10 Tryz.f10 rfl rfl rfl rfl rfl rfl rfl ⟨rfl, rfl, rfl, rfl, rfl⟩ rfl rfl rfl rfl rfl intervalActs_r1 Tryz.func10 intervalActs_r2
    intervalActs_r3 intervalActs_r4 (fun os started H enc _ => intervalActs_lifted os started H enc)

theorem intervalActs_c1 : Rows.intervalActsRow.wfByText (OpenSpec.ofChange Rows.intervalActsSpec) = true := by kernel_rfl

theorem intervalActs_c2 : Tryz.pinned.checked.prog.mainIs = some (true, ("6faae55cd4d553e14e82649c7f04d9b92d94c4472a6a4697afff338c71cc0c8d" : String).toList) := by kernel_rfl

theorem intervalActs_c3 : false = Tryz.pinned.checked.prog.looks [] := by kernel_rfl

theorem intervalActs_c5 : false = Rows.intervalActsRow.goesBy Tryz.pinned.checked.prog := by kernel_rfl

theorem intervalActs_c6 : Tryz.pinned.checked.prog.funcNamed Rows.intervalActsRow.func = some 10 := by kernel_rfl

theorem intervalActs_c7V : Tryz.pinned.checked.prog.wantsStandIn 55 = false := by kernel_rfl

theorem intervalActs_c7R : Tryz.pinned.checked.prog.wantsStandIn 26 = false := by kernel_rfl

theorem intervalActs_c7n : Tryz.pinned.checked.prog.wantsStandIn 3 = false := by kernel_rfl

theorem intervalActs_c8 (f : FuncId) (fn : Func) (hf : Tryz.pinned.checked.prog.funcNamed Rows.intervalActsRow.func = some f) (hfn : Tryz.pinned.checked.prog.funcs[f]? = some fn) : false = Tryz.pinned.checked.prog.looks [] ∧ ∀ (j : Nat) t, fn.params[j]? = some t → Tryz.pinned.checked.prog.wantsStandIn t = false := by
  rw [intervalActs_c6] at hf
  cases hf
  have h1 : Tryz.pinned.checked.prog.funcs[10]? = some Tryz.f10 := Tryz.func10
  rw [h1] at hfn
  cases hfn
  refine ⟨intervalActs_c3, fun j t ht => ?_⟩
  rw [Tryz.params10] at ht
  have hm := Array.mem_of_getElem? ht
  have h2 : t = 55 ∨ t = 26 ∨ t = 3 := by simpa using hm
  rcases h2 with h2 | h2 | h2
  · rw [h2]; exact intervalActs_c7V
  · rw [h2]; exact intervalActs_c7R
  · rw [h2]; exact intervalActs_c7n

theorem intervalActs_card : Rows.IntervalActsCardSaid :=
  Claim7.holds_tied_plain_at .later [] [.data] true (true, "6faae55cd4d553e14e82649c7f04d9b92d94c4472a6a4697afff338c71cc0c8d") false
    intervalActs_row (fun _ h => by cases h) intervalActs_c1 (fun _ h => by cases h) intervalActs_row_tie rfl ⟨rfl, rfl⟩ intervalActs_c2 rfl intervalActs_c8 intervalActs_c5

end Go.Proofs.YtagciepnhjbopaaGreatDoor

#print axioms Go.Proofs.YtagciepnhjbopaaGreatDoor.intervalActs_card
