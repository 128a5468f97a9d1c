/- RationalSame is true, whatever its arguments: the row, and its card: of every input, in worlds in which the table of package math/bits stands as the program's text lays it. Written by wip/gen/gen_row3.py. -/
import Derived.ChangeMaps5
import Derived.OpenShut
import Derived.SevenTiedAt
import Derived.Test.YtagciepnhjbopaaGreatDoorCards
import Derived.Test.YtagciepnhjbopaaGreatDoorRows
import Derived.Test.YtagciepnhjbopaaGreatDoorTie
import Derived.Test.YtagciepnhjbopaaGreatDoorS40
import Derived.Test.YtagciepnhjbopaaGreatDoorS41

namespace Go.Proofs.YtagciepnhjbopaaGreatDoor
open Go.Joins Go.ChangeShapes Go.WideShapes Go.ChangeAt Go.RowKit Go.Deep

theorem int_of_wf3 {n : Int} (h : (Lit.int .i64 n).wf = true) : -9223372036854775808 ≤ n ∧ n ≤ 9223372036854775807 := by
  simp [Lit.wf, IntKind.min, IntKind.max, IntKind.signed, IntKind.bits] at h
  omega

set_option maxRecDepth 100000 in
theorem rationalSame_lifted (os : Os) (started : os.Started) (H : Type) (enc : TypeId × Value → H) :
    ReturnsInHanded {} Tryz.checked os 9 .any (fun w args => (Rows.rationalSameSpec.pre enc Tryz.prog Tryz.f9 [] false w args ∧ laidMet Tryz.prog laidT w) ∧ sizedMet enc Tryz.prog Tryz.f9 (OpenSpec.ofChange Rows.rationalSameSpec) false w args) (Rows.rationalSameSpec.post enc Tryz.prog Tryz.f9 false true false false) := by
  refine returnsInHanded_of_change_and (C := Tryz.checked) (X := fun w _ => laidMet Tryz.prog laidT w) (fun _ _ _ hh h => h.of_heap hh) Tryz.own started (by kernel_rfl) Tryz.func9
    (ChangeSpec.witness_at (enc := enc) (C := Tryz.checked) (os := os) (X := fun w _ => laidMet Tryz.prog laidT w) false (tabWorld os) #[.int .i64 0, .int .i64 0, .int .i64 0] 8 rfl (by kernel_rfl) (by kernel_rfl) (by kernel_rfl) (by kernel_rfl) (by kernel_rfl) (tabWorld_met os _)) ?_
  intro W base args ds gs before hval0 hW _ _ hL _
  have hval : ∀ (j : Nat) t v, Tryz.f9.params[j]? = some t → args[j]? = some v → Value.okWide Tryz.prog W .any base t v := hval0
  have hW' := hW
  obtain ⟨p, q, hA0, hV, rfl, hfz, hnd⟩ := hW
  have hA : DataW.TrodAll enc Tryz.prog W 0 (fun _ => true) true Tryz.f9.params.toList args.toList ds p := hA0
  rw [Tryz.params9] at hA hval
  have ht := tab_laid hL
  obtain ⟨v0, v1, v2, d0, d1, d2, p0, p1, p2, rfl, rfl, rfl, h0, h1, h2⟩ := trodAll_three hA
  obtain ⟨rfl, rfl⟩ := trodVars_none hV
  obtain ⟨z0, rfl, rfl, rfl, u0⟩ := open_int Tryz.underlying3 (hval 0 3 v0 rfl rfl) h0
  obtain ⟨z1, rfl, rfl, rfl, u1⟩ := open_int Tryz.underlying3 (hval 1 3 v1 rfl rfl) h1
  obtain ⟨z2, rfl, rfl, rfl, u2⟩ := open_int Tryz.underlying3 (hval 2 3 v2 rfl rfl) h2
  clear hA0 hval0
  refine (sameL_any z0 z1 z2 W ht (int_of_wf3 u0) (int_of_wf3 u1) (int_of_wf3 u2)).mono fun e W' ⟨he, hf⟩ => ?_
  subst he
  have hb := hf.below
  exact ⟨_, rfl, _, _, _, _, _, [], hW', trodAll_mk1 (shut_bool Tryz.underlying4 _),
    trodAll_mk3 (shut_int Tryz.underlying3 u0) (shut_int Tryz.underlying3 u1) (shut_int Tryz.underlying3 u2), rfl, hb.frame _, fun h => by cases h⟩

theorem rationalSame_r1 : Tryz.pinned.checked.prog.funcNamed Rows.rationalSameRow.func = some 9 := by kernel_rfl

theorem rationalSame_r2 : joinedFacts Tryz.pinned.checked.prog 9 Tryz.f9 Rows.rationalSameSpec Rows.rationalSameRow = true := by kernel_rfl

theorem rationalSame_r3 : Tryz.f9.isInstance Tryz.pinned.checked.prog Rows.rationalSameRow.origin Rows.rationalSameRow.targs := of_decide_eq_true (by kernel_rfl)

theorem rationalSame_r4 : Tryz.f9.isWrapper Tryz.pinned.checked.prog Rows.rationalSameRow.wrapper Rows.rationalSameRow.mainSum := by
  unfold Func.isWrapper; first | (rw [if_pos (by decide +kernel)]; kernel_rfl) | (rw [if_neg (by decide +kernel)]; exact ⟨rfl, rfl⟩)

theorem rationalSame_row : Rows.RationalSameSaid :=
  OpenClaim.holds_of_wide 9 Tryz.f9 rfl rfl rfl rfl rfl rfl rfl ⟨rfl, rfl, rfl, rfl, rfl⟩ rfl rfl rfl rfl rfl rationalSame_r1 Tryz.func9 rationalSame_r2
    rationalSame_r3 rationalSame_r4 (fun os started H enc _ => rationalSame_lifted os started H enc)

theorem rationalSame_c1 : Rows.rationalSameRow.wfByText (OpenSpec.ofChange Rows.rationalSameSpec) = true := by kernel_rfl

theorem rationalSame_c2 : Tryz.pinned.checked.prog.mainIs = some (true, ("6faae55cd4d553e14e82649c7f04d9b92d94c4472a6a4697afff338c71cc0c8d" : String).toList) := by kernel_rfl

theorem rationalSame_c3 : false = Tryz.pinned.checked.prog.looks [] := by kernel_rfl

theorem rationalSame_c5 : false = Rows.rationalSameRow.goesBy Tryz.pinned.checked.prog := by kernel_rfl

theorem rationalSame_c6 : Tryz.pinned.checked.prog.funcNamed Rows.rationalSameRow.func = some 9 := by kernel_rfl

theorem rationalSame_c7n : Tryz.pinned.checked.prog.wantsStandIn 3 = false := by kernel_rfl

theorem rationalSame_c8 (f : FuncId) (fn : Func) (hf : Tryz.pinned.checked.prog.funcNamed Rows.rationalSameRow.func = some f) (hfn : Tryz.pinned.checked.prog.funcs[f]? = some fn) : false = Tryz.pinned.checked.prog.looks [] ∧ ∀ (j : Nat) t, fn.params[j]? = some t → Tryz.pinned.checked.prog.wantsStandIn t = false := by
  rw [rationalSame_c6] at hf
  cases hf
  have h1 : Tryz.pinned.checked.prog.funcs[9]? = some Tryz.f9 := Tryz.func9
  rw [h1] at hfn
  cases hfn
  refine ⟨rationalSame_c3, fun j t ht => ?_⟩
  rw [Tryz.params9] at ht
  have hm := Array.mem_of_getElem? ht
  have h2 : t = 3 := by simpa using hm
  · rw [h2]; exact rationalSame_c7n

theorem rationalSame_card : Rows.RationalSameCardSaid :=
  Claim7.holds_tied_plain_at .later [] [.data] true (true, "6faae55cd4d553e14e82649c7f04d9b92d94c4472a6a4697afff338c71cc0c8d") false
    rationalSame_row (fun _ h => by cases h) rationalSame_c1 (fun _ h => by cases h) rationalSame_row_tie rfl ⟨rfl, rfl⟩ rationalSame_c2 rfl rationalSame_c8 rationalSame_c5

end Go.Proofs.YtagciepnhjbopaaGreatDoor

#print axioms Go.Proofs.YtagciepnhjbopaaGreatDoor.rationalSame_card
