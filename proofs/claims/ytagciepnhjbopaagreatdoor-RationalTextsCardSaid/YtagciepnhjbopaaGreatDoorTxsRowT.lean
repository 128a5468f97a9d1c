/- RationalTexts is true, whatever its arguments: the row, and its card: of every input, in worlds in which the table of package math/bits stands as the program's text lays it. Written by wip/gen/gen_row3.py. -/
import Derived.ChangeMaps5
import Derived.OpenShut
import Derived.SevenTiedAt
import Derived.Test.YtagciepnhjbopaaGreatDoorCards
import Derived.Test.YtagciepnhjbopaaGreatDoorRows
import Derived.Test.YtagciepnhjbopaaGreatDoorTie
import Derived.Test.YtagciepnhjbopaaGreatDoorT42
import Derived.Test.YtagciepnhjbopaaGreatDoorT43

namespace Go.Proofs.YtagciepnhjbopaaGreatDoor
open Go.Joins Go.ChangeShapes Go.WideShapes Go.ChangeAt Go.RowKit Go.Deep Go.ChangeMaps

set_option maxRecDepth 100000 in
theorem rationalTexts_lifted (os : Os) (started : os.Started) (H : Type) (enc : TypeId × Value → H) :
    ReturnsInHanded {} Tryz.checked os 6 .any (fun w args => (Rows.rationalTextsSpec.pre enc Tryz.prog Tryz.f6 [] false w args ∧ laidMet Tryz.prog laidT w) ∧ sizedMet enc Tryz.prog Tryz.f6 (OpenSpec.ofChange Rows.rationalTextsSpec) false w args) (Rows.rationalTextsSpec.post enc Tryz.prog Tryz.f6 false true false false) := by
  refine returnsInHanded_of_change_and (C := Tryz.checked) (X := fun w _ => laidMet Tryz.prog laidT w) (fun _ _ _ hh h => h.of_heap hh) Tryz.own started (by kernel_rfl) Tryz.func6
    (ChangeSpec.witness_at (enc := enc) (C := Tryz.checked) (os := os) (X := fun w _ => laidMet Tryz.prog laidT w) false (tabWorld os) #[.agg #[.bool false, .slice none 0 0, .slice none 0 0], .string { data := #[] }] 8 rfl (by kernel_rfl) (by kernel_rfl) (by kernel_rfl) (by kernel_rfl) (by kernel_rfl) (tabWorld_met os _)) ?_
  intro W base args ds gs before hval0 hW _ _ hL _
  have hval : ∀ (j : Nat) t v, Tryz.f6.params[j]? = some t → args[j]? = some v → Value.okWide Tryz.prog W .any base t v := hval0
  have hW' := hW
  obtain ⟨p, q, hA0, hV, rfl, hfz, hnd⟩ := hW
  have hA : DataW.TrodAll enc Tryz.prog W 0 (fun _ => true) true Tryz.f6.params.toList args.toList ds p := hA0
  rw [Tryz.params6] at hA hval
  have ht := tab_laid hL
  obtain ⟨v0, v1, d0, d1, p0, p1, rfl, rfl, rfl, h0, h1⟩ := trodAll_two hA
  obtain ⟨rfl, rfl⟩ := trodVars_none hV
  obtain ⟨b0, a0, l0, c0, x0, r0, m0, k0, y0, rfl, s0, t0⟩ := view_rat (hval 0 26 v0 rfl rfl) h0
  obtain ⟨z1, rfl, rfl, rfl, u1⟩ := open_string Tryz.underlying9 (hval 1 9 v1 rfl rfl) h1
  clear hA0 hval0
  simp only [List.append_nil] at hW'
  have hlt : ∀ x ∈ p0 ++ ([]), x.block < W.heap.size := fun x hx => hW'.lt x (by simpa using hx)
  refine (texts_any b0 a0 l0 c0 x0 r0 m0 k0 y0 z1 W ht s0 t0).mono fun e W' ⟨he, hf⟩ => ?_
  subst he
  have hb := hf.below
  exact ⟨_, rfl, _, _, _, _, _, [], hW', trodAll_mk1 (shut_bool Tryz.underlying4 _),
    trodAll_mk2 (staysR h0 hb (fun x hx => hlt x (by simp [hx]))) (shut_string Tryz.underlying9 u1), rfl, hb.frame _, fun h => by cases h⟩

theorem rationalTexts_r1 : Tryz.pinned.checked.prog.funcNamed Rows.rationalTextsRow.func = some 6 := by kernel_rfl

theorem rationalTexts_r2 : joinedFacts Tryz.pinned.checked.prog 6 Tryz.f6 Rows.rationalTextsSpec Rows.rationalTextsRow = true := by kernel_rfl

theorem rationalTexts_r3 : Tryz.f6.isInstance Tryz.pinned.checked.prog Rows.rationalTextsRow.origin Rows.rationalTextsRow.targs := of_decide_eq_true (by kernel_rfl)

theorem rationalTexts_r4 : Tryz.f6.isWrapper Tryz.pinned.checked.prog Rows.rationalTextsRow.wrapper Rows.rationalTextsRow.mainSum := by
  unfold Func.isWrapper; first | (rw [if_pos (by decide +kernel)]; kernel_rfl) | (rw [if_neg (by decide +kernel)]; exact ⟨rfl, rfl⟩)

theorem rationalTexts_row : Rows.RationalTextsSaid :=
  OpenClaim.holds_of_wide 6 Tryz.f6 rfl rfl rfl rfl rfl rfl rfl ⟨rfl, rfl, rfl, rfl, rfl⟩ rfl rfl rfl rfl rfl rationalTexts_r1 Tryz.func6 rationalTexts_r2
    rationalTexts_r3 rationalTexts_r4 (fun os started H enc _ => rationalTexts_lifted os started H enc)

theorem rationalTexts_c1 : Rows.rationalTextsRow.wfByText (OpenSpec.ofChange Rows.rationalTextsSpec) = true := by kernel_rfl

theorem rationalTexts_c2 : Tryz.pinned.checked.prog.mainIs = some (true, ("6faae55cd4d553e14e82649c7f04d9b92d94c4472a6a4697afff338c71cc0c8d" : String).toList) := by kernel_rfl

theorem rationalTexts_c3 : false = Tryz.pinned.checked.prog.looks [] := by kernel_rfl

theorem rationalTexts_c5 : false = Rows.rationalTextsRow.goesBy Tryz.pinned.checked.prog := by kernel_rfl

theorem rationalTexts_c6 : Tryz.pinned.checked.prog.funcNamed Rows.rationalTextsRow.func = some 6 := by kernel_rfl

theorem rationalTexts_c7R : Tryz.pinned.checked.prog.wantsStandIn 26 = false := by kernel_rfl

theorem rationalTexts_c7s : Tryz.pinned.checked.prog.wantsStandIn 9 = false := by kernel_rfl

theorem rationalTexts_c8 (f : FuncId) (fn : Func) (hf : Tryz.pinned.checked.prog.funcNamed Rows.rationalTextsRow.func = some f) (hfn : Tryz.pinned.checked.prog.funcs[f]? = some fn) : false = Tryz.pinned.checked.prog.looks [] ∧ ∀ (j : Nat) t, fn.params[j]? = some t → Tryz.pinned.checked.prog.wantsStandIn t = false := by
  rw [rationalTexts_c6] at hf
  cases hf
  have h1 : Tryz.pinned.checked.prog.funcs[6]? = some Tryz.f6 := Tryz.func6
  rw [h1] at hfn
  cases hfn
  refine ⟨rationalTexts_c3, fun j t ht => ?_⟩
  rw [Tryz.params6] at ht
  have hm := Array.mem_of_getElem? ht
  have h2 : t = 26 ∨ t = 9 := by simpa using hm
  rcases h2 with h2 | h2
  · rw [h2]; exact rationalTexts_c7R
  · rw [h2]; exact rationalTexts_c7s

theorem rationalTexts_card : Rows.RationalTextsCardSaid :=
  Claim7.holds_tied_plain_at .later [] [.data] true (true, "6faae55cd4d553e14e82649c7f04d9b92d94c4472a6a4697afff338c71cc0c8d") false
    rationalTexts_row (fun _ h => by cases h) rationalTexts_c1 (fun _ h => by cases h) rationalTexts_row_tie rfl ⟨rfl, rfl⟩ rationalTexts_c2 rfl rationalTexts_c8 rationalTexts_c5

end Go.Proofs.YtagciepnhjbopaaGreatDoor

#print axioms Go.Proofs.YtagciepnhjbopaaGreatDoor.rationalTexts_card
