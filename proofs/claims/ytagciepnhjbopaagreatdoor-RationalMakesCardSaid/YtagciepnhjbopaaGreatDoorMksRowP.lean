/- RationalMakes is true, whatever its arguments: the row, and its card: of every input, in worlds in which the table of package math/bits stands as the program's text lays it. Written by wip/gen/gen_row3.py. -/
import Derived.ChangeMaps5
import Derived.OpenShut
import Derived.SevenTiedAt
import Derived.Test.YtagciepnhjbopaaGreatDoorCards
import Derived.Test.YtagciepnhjbopaaGreatDoorRows
import Derived.Test.YtagciepnhjbopaaGreatDoorTie
import Derived.Test.YtagciepnhjbopaaGreatDoorP19
import Derived.Test.YtagciepnhjbopaaGreatDoorP38
import Derived.Test.YtagciepnhjbopaaGreatDoorP39

namespace Go.Proofs.YtagciepnhjbopaaGreatDoor
open Go.Joins Go.ChangeShapes Go.WideShapes Go.ChangeAt Go.RowKit Go.Deep

theorem int_of_wf3 {n : Int} (h : (Lit.int .i64 n).wf = true) : -9223372036854775808 ≤ n ∧ n ≤ 9223372036854775807 := by
  simp [Lit.wf, IntKind.min, IntKind.max, IntKind.signed, IntKind.bits] at h
  omega

set_option maxRecDepth 100000 in
theorem rationalMakes_lifted (os : Os) (started : os.Started) (H : Type) (enc : TypeId × Value → H) :
    ReturnsInHanded {} Tryz.checked os 4 .any (fun w args => (Rows.rationalMakesSpec.pre enc Tryz.prog Tryz.f4 [] false w args ∧ laidMet Tryz.prog laidT w) ∧ sizedMet enc Tryz.prog Tryz.f4 (OpenSpec.ofChange Rows.rationalMakesSpec) false w args) (Rows.rationalMakesSpec.post enc Tryz.prog Tryz.f4 false true false false) := by
  refine returnsInHanded_of_change_and (C := Tryz.checked) (X := fun w _ => laidMet Tryz.prog laidT w) (fun _ _ _ hh h => h.of_heap hh) Tryz.own started (by kernel_rfl) Tryz.func4
    (ChangeSpec.witness_at (enc := enc) (C := Tryz.checked) (os := os) (X := fun w _ => laidMet Tryz.prog laidT w) false (tabWorld os) #[.int .i64 0, .int .i64 0, .int .i64 0, .agg #[.bool false, .slice none 0 0], .agg #[.bool false, .slice none 0 0]] 8 rfl (by kernel_rfl) (by kernel_rfl) (by kernel_rfl) (by kernel_rfl) (by kernel_rfl) (tabWorld_met os _)) ?_
  intro W base args ds gs before hval0 hW _ _ hL _
  have hval : ∀ (j : Nat) t v, Tryz.f4.params[j]? = some t → args[j]? = some v → Value.okWide Tryz.prog W .any base t v := hval0
  have hW' := hW
  obtain ⟨p, q, hA0, hV, rfl, hfz, hnd⟩ := hW
  have hA : DataW.TrodAll enc Tryz.prog W 0 (fun _ => true) true Tryz.f4.params.toList args.toList ds p := hA0
  rw [Tryz.params4] at hA hval
  have ht := tab_laid hL
  obtain ⟨v0, vs0, d0, ds0, p0, q0, ha, hd, hp, h0, hr0⟩ := trodAll_cons hA
  obtain ⟨v1, vs1, d1, ds1, p1, q1, rfl, rfl, rfl, h1, hr1⟩ := trodAll_cons hr0
  obtain ⟨v2, vs2, d2, ds2, p2, q2, rfl, rfl, rfl, h2, hr2⟩ := trodAll_cons hr1
  obtain ⟨v3, vs3, d3, ds3, p3, q3, rfl, rfl, rfl, h3, hr3⟩ := trodAll_cons hr2
  obtain ⟨v4, vs4, d4, ds4, p4, q4, rfl, rfl, rfl, h4, hr4⟩ := trodAll_cons hr3
  obtain ⟨rfl, rfl, rfl⟩ := trodAll_nil hr4
  subst hd hp
  obtain rfl : args = #[v0, v1, v2, v3, v4] := by cases args; simpa using ha
  clear ha
  obtain ⟨rfl, rfl⟩ := trodVars_none hV
  obtain ⟨z0, rfl, rfl, rfl, u0⟩ := open_int Tryz.underlying3 (hval 0 3 v0 rfl rfl) h0
  obtain ⟨z1, rfl, rfl, rfl, u1⟩ := open_int Tryz.underlying3 (hval 1 3 v1 rfl rfl) h1
  obtain ⟨z2, rfl, rfl, rfl, u2⟩ := open_int Tryz.underlying3 (hval 2 3 v2 rfl rfl) h2
  obtain ⟨b3, a3, l3, c3, x3, rfl, s3⟩ := view_int (hval 3 24 v3 rfl rfl) h3
  obtain ⟨b4, a4, l4, c4, x4, rfl, s4⟩ := view_int (hval 4 24 v4 rfl rfl) h4
  clear hA0 hval0
  simp only [List.append_nil] at hW'
  have hlt : ∀ x ∈ p3 ++ (p4), x.block < W.heap.size := fun x hx => hW'.lt x (by simpa using hx)
  refine (makes_any z0 z1 z2 b3 a3 l3 c3 x3 b4 a4 l4 c4 x4 W ht (int_of_wf3 u0) (int_of_wf3 u1) s3 s4).mono fun e W' ⟨he, hf⟩ => ?_
  subst he
  have hb := hf.below
  exact ⟨_, rfl, _, _, _, _, _, [], hW', trodAll_mk1 (shut_bool Tryz.underlying4 _),
    trodAll_cons_mk (shut_int Tryz.underlying3 u0) (trodAll_cons_mk (shut_int Tryz.underlying3 u1) (trodAll_cons_mk (shut_int Tryz.underlying3 u2) (trodAll_cons_mk (staysI h3 hb (fun x hx => hlt x (by simp [hx]))) (trodAll_cons_mk (staysI h4 hb (fun x hx => hlt x (by simp [hx]))) (rfl))))), rfl, hb.frame _, fun h => by cases h⟩

theorem rationalMakes_r1 : Tryz.pinned.checked.prog.funcNamed Rows.rationalMakesRow.func = some 4 := by kernel_rfl

theorem rationalMakes_r2 : joinedFacts Tryz.pinned.checked.prog 4 Tryz.f4 Rows.rationalMakesSpec Rows.rationalMakesRow = true := by kernel_rfl

theorem rationalMakes_r3 : Tryz.f4.isInstance Tryz.pinned.checked.prog Rows.rationalMakesRow.origin Rows.rationalMakesRow.targs := of_decide_eq_true (by kernel_rfl)

theorem rationalMakes_r4 : Tryz.f4.isWrapper Tryz.pinned.checked.prog Rows.rationalMakesRow.wrapper Rows.rationalMakesRow.mainSum := by
  unfold Func.isWrapper; first | (rw [if_pos (by decide +kernel)]; kernel_rfl) | (rw [if_neg (by decide +kernel)]; exact ⟨rfl, rfl⟩)

theorem rationalMakes_row : Rows.RationalMakesSaid :=
  OpenClaim.holds_of_wide 4 Tryz.f4 rfl rfl rfl rfl rfl rfl rfl ⟨rfl, rfl, rfl, rfl, rfl⟩ rfl rfl rfl rfl rfl rationalMakes_r1 Tryz.func4 rationalMakes_r2
    rationalMakes_r3 rationalMakes_r4 (fun os started H enc _ => rationalMakes_lifted os started H enc)

theorem rationalMakes_c1 : Rows.rationalMakesRow.wfByText (OpenSpec.ofChange Rows.rationalMakesSpec) = true := by kernel_rfl

theorem rationalMakes_c2 : Tryz.pinned.checked.prog.mainIs = some (true, ("6faae55cd4d553e14e82649c7f04d9b92d94c4472a6a4697afff338c71cc0c8d" : String).toList) := by kernel_rfl

theorem rationalMakes_c3 : false = Tryz.pinned.checked.prog.looks [] := by kernel_rfl

theorem rationalMakes_c5 : false = Rows.rationalMakesRow.goesBy Tryz.pinned.checked.prog := by kernel_rfl

theorem rationalMakes_c6 : Tryz.pinned.checked.prog.funcNamed Rows.rationalMakesRow.func = some 4 := by kernel_rfl

theorem rationalMakes_c7n : Tryz.pinned.checked.prog.wantsStandIn 3 = false := by kernel_rfl

theorem rationalMakes_c7I : Tryz.pinned.checked.prog.wantsStandIn 24 = false := by kernel_rfl

theorem rationalMakes_c8 (f : FuncId) (fn : Func) (hf : Tryz.pinned.checked.prog.funcNamed Rows.rationalMakesRow.func = some f) (hfn : Tryz.pinned.checked.prog.funcs[f]? = some fn) : false = Tryz.pinned.checked.prog.looks [] ∧ ∀ (j : Nat) t, fn.params[j]? = some t → Tryz.pinned.checked.prog.wantsStandIn t = false := by
  rw [rationalMakes_c6] at hf
  cases hf
  have h1 : Tryz.pinned.checked.prog.funcs[4]? = some Tryz.f4 := Tryz.func4
  rw [h1] at hfn
  cases hfn
  refine ⟨rationalMakes_c3, fun j t ht => ?_⟩
  rw [Tryz.params4] at ht
  have hm := Array.mem_of_getElem? ht
  have h2 : t = 3 ∨ t = 24 := by simpa using hm
  rcases h2 with h2 | h2
  · rw [h2]; exact rationalMakes_c7n
  · rw [h2]; exact rationalMakes_c7I

theorem rationalMakes_card : Rows.RationalMakesCardSaid :=
  Claim7.holds_tied_plain_at .later [] [.data] true (true, "6faae55cd4d553e14e82649c7f04d9b92d94c4472a6a4697afff338c71cc0c8d") false
    rationalMakes_row (fun _ h => by cases h) rationalMakes_c1 (fun _ h => by cases h) rationalMakes_row_tie rfl ⟨rfl, rfl⟩ rationalMakes_c2 rfl rationalMakes_c8 rationalMakes_c5

end Go.Proofs.YtagciepnhjbopaaGreatDoor

#print axioms Go.Proofs.YtagciepnhjbopaaGreatDoor.rationalMakes_card
