/- RationalRounds is true, whatever its arguments: the row, and its card: of every input, in worlds in which the table of package math/bits stands as the program's text lays it. Written by wip/gen/gen_row3.py. -/
import Derived.ChangeMaps5
import Derived.SevenTiedAt
import Derived.Test.YtnokcaigpnejeaaGreatDoorCards
import Derived.Test.YtnokcaigpnejeaaGreatDoorRows
import Derived.Test.YtnokcaigpnejeaaGreatDoorTie
import Derived.Test.YtnokcaigpnejeaaGreatDoorK37
import Derived.Test.YtnokcaigpnejeaaGreatDoorK38

namespace Go.Proofs.YtnokcaigpnejeaaGreatDoor
open Go.Joins Go.ChangeShapes Go.WideShapes Go.ChangeAt Go.RowKit Go.Deep

theorem int_of_wf3 {n : Int} (h : (Lit.int .i64 n).wf = true) : -9223372036854775808 ≤ n ∧ n ≤ 9223372036854775807 := by
  simp [Lit.wf, IntKind.min, IntKind.max, IntKind.signed, IntKind.bits] at h
  omega

set_option maxRecDepth 100000 in
theorem rationalRounds_lifted (os : Os) (started : os.Started) (H : Type) (enc : TypeId × Value → H) :
    ReturnsInHanded {} Tryz.checked os 5 .any (fun w args => (Rows.rationalRoundsSpec.pre enc Tryz.prog Tryz.f5 [] false w args ∧ laidMet Tryz.prog laidT w) ∧ sizedMet enc Tryz.prog Tryz.f5 (OpenSpec.ofChange Rows.rationalRoundsSpec) false w args) (Rows.rationalRoundsSpec.post enc Tryz.prog Tryz.f5 false true false false) := by
  refine returnsInHanded_of_change_and (C := Tryz.checked) (X := fun w _ => laidMet Tryz.prog laidT w) (fun _ _ _ hh h => h.of_heap hh) Tryz.own started (by kernel_rfl) Tryz.func5
    (ChangeSpec.witness_at (enc := enc) (C := Tryz.checked) (os := os) (X := fun w _ => laidMet Tryz.prog laidT w) false (tabWorld os) #[.agg #[.bool false, .slice none 0 0, .slice none 0 0], .int .i64 0] 8 rfl (by kernel_rfl) (by kernel_rfl) (by kernel_rfl) (by kernel_rfl) (by kernel_rfl) (tabWorld_met os _)) ?_
  intro W base args ds gs before hval0 hW _ _ hL _
  have hval : ∀ (j : Nat) t v, Tryz.f5.params[j]? = some t → args[j]? = some v → Value.okWide Tryz.prog W .any base t v := hval0
  have hW' := hW
  obtain ⟨p, q, hA0, hV, rfl, hfz, hnd⟩ := hW
  have hA : DataW.TrodAll enc Tryz.prog W 0 (fun _ => true) true Tryz.f5.params.toList args.toList ds p := hA0
  rw [Tryz.params5] at hA hval
  have ht := tab_laid hL
  obtain ⟨v0, v1, d0, d1, p0, p1, rfl, rfl, rfl, h0, h1⟩ := trodAll_two hA
  obtain ⟨rfl, rfl⟩ := trodVars_none hV
  obtain ⟨b0, a0, l0, c0, x0, r0, m0, k0, y0, rfl, s0, t0⟩ := view_rat (hval 0 26 v0 rfl rfl) h0
  obtain ⟨z1, rfl, rfl, rfl, u1⟩ := open_int Tryz.underlying3 (hval 1 3 v1 rfl rfl) h1
  clear hA0 hval0
  simp only [List.append_nil] at hW'
  have hlt : ∀ x ∈ p0 ++ ([]), x.block < W.heap.size := fun x hx => hW'.lt x (by simpa using hx)
  refine (rounds_any b0 a0 l0 c0 x0 r0 m0 k0 y0 z1 W ht (int_of_wf3 u1) s0 t0).mono fun e W' ⟨he, hf⟩ => ?_
  subst he
  have hb := hf.below
  exact ⟨_, rfl, _, _, _, _, _, [], hW', trodAll_mk1 (shut_bool Tryz.underlying4 _),
    trodAll_mk2 (staysR h0 hb (fun x hx => hlt x (by simp [hx]))) (shut_int Tryz.underlying3 u1), rfl, hb.frame _, fun h => by cases h⟩

theorem rationalRounds_r1 : Tryz.pinned.checked.prog.funcNamed Rows.rationalRoundsRow.func = some 5 := by kernel_rfl

theorem rationalRounds_r2 : joinedFacts Tryz.pinned.checked.prog 5 Tryz.f5 Rows.rationalRoundsSpec Rows.rationalRoundsRow = true := by kernel_rfl

theorem rationalRounds_r3 : Tryz.f5.isInstance Tryz.pinned.checked.prog Rows.rationalRoundsRow.origin Rows.rationalRoundsRow.targs := of_decide_eq_true (by kernel_rfl)

theorem rationalRounds_r4 : Tryz.f5.isWrapper Tryz.pinned.checked.prog Rows.rationalRoundsRow.wrapper Rows.rationalRoundsRow.mainSum := by
  unfold Func.isWrapper; first | (rw [if_pos (by decide +kernel)]; kernel_rfl) | (rw [if_neg (by decide +kernel)]; exact ⟨rfl, rfl⟩)

theorem rationalRounds_row : Rows.RationalRoundsSaid :=
  OpenClaim.holds_of_wide 5 Tryz.f5 rfl rfl rfl rfl rfl rfl rfl ⟨rfl, rfl, rfl, rfl, rfl⟩ rfl rfl rfl rfl rfl rationalRounds_r1 Tryz.func5 rationalRounds_r2
    rationalRounds_r3 rationalRounds_r4 (fun os started H enc _ => rationalRounds_lifted os started H enc)

theorem rationalRounds_c1 : Rows.rationalRoundsRow.wfByText (OpenSpec.ofChange Rows.rationalRoundsSpec) = true := by kernel_rfl

theorem rationalRounds_c2 : Tryz.pinned.checked.prog.mainIs = some (true, ("6faae55cd4d553e14e82649c7f04d9b92d94c4472a6a4697afff338c71cc0c8d" : String).toList) := by kernel_rfl

theorem rationalRounds_c3 : false = Tryz.pinned.checked.prog.looks [] := by kernel_rfl

theorem rationalRounds_c5 : false = Rows.rationalRoundsRow.goesBy Tryz.pinned.checked.prog := by kernel_rfl

theorem rationalRounds_c6 : Tryz.pinned.checked.prog.funcNamed Rows.rationalRoundsRow.func = some 5 := by kernel_rfl

theorem rationalRounds_c7R : Tryz.pinned.checked.prog.wantsStandIn 26 = false := by kernel_rfl

theorem rationalRounds_c7n : Tryz.pinned.checked.prog.wantsStandIn 3 = false := by kernel_rfl

theorem rationalRounds_c8 (f : FuncId) (fn : Func) (hf : Tryz.pinned.checked.prog.funcNamed Rows.rationalRoundsRow.func = some f) (hfn : Tryz.pinned.checked.prog.funcs[f]? = some fn) : false = Tryz.pinned.checked.prog.looks [] ∧ ∀ (j : Nat) t, fn.params[j]? = some t → Tryz.pinned.checked.prog.wantsStandIn t = false := by
  rw [rationalRounds_c6] at hf
  cases hf
  have h1 : Tryz.pinned.checked.prog.funcs[5]? = some Tryz.f5 := Tryz.func5
  rw [h1] at hfn
  cases hfn
  refine ⟨rationalRounds_c3, fun j t ht => ?_⟩
  rw [Tryz.params5] at ht
  have hm := Array.mem_of_getElem? ht
  have h2 : t = 26 ∨ t = 3 := by simpa using hm
  rcases h2 with h2 | h2
  · rw [h2]; exact rationalRounds_c7R
  · rw [h2]; exact rationalRounds_c7n

theorem rationalRounds_card : Rows.RationalRoundsCardSaid :=
  Claim7.holds_tied_plain_at .later [] [.data] true (true, "6faae55cd4d553e14e82649c7f04d9b92d94c4472a6a4697afff338c71cc0c8d") false
    rationalRounds_row (fun _ h => by cases h) rationalRounds_c1 (fun _ h => by cases h) rationalRounds_row_tie rfl ⟨rfl, rfl⟩ rationalRounds_c2 rfl rationalRounds_c8 rationalRounds_c5

end Go.Proofs.YtnokcaigpnejeaaGreatDoor

#print axioms Go.Proofs.YtnokcaigpnejeaaGreatDoor.rationalRounds_card
