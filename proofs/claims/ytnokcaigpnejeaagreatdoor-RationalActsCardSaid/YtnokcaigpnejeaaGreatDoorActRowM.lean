/- RationalActs is true, whatever its arguments: the row, and its card: of every input, in worlds in which the table of package math/bits stands as the program's text lays it. Written by wip/gen/gen_row3.py. -/
import Derived.ChangeMaps5
import Derived.SevenTiedAt
import Derived.Test.YtnokcaigpnejeaaGreatDoorCards
import Derived.Test.YtnokcaigpnejeaaGreatDoorRows
import Derived.Test.YtnokcaigpnejeaaGreatDoorTie
import Derived.Test.YtnokcaigpnejeaaGreatDoorM42
import Derived.Test.YtnokcaigpnejeaaGreatDoorM44

namespace Go.Proofs.YtnokcaigpnejeaaGreatDoor
open Go.Joins Go.ChangeShapes Go.WideShapes Go.ChangeAt Go.RowKit Go.Deep

set_option maxRecDepth 100000 in
theorem rationalActs_lifted (os : Os) (started : os.Started) (H : Type) (enc : TypeId × Value → H) :
    ReturnsInHanded {} Tryz.checked os 3 .any (fun w args => (Rows.rationalActsSpec.pre enc Tryz.prog Tryz.f3 [] false w args ∧ laidMet Tryz.prog laidT w) ∧ sizedMet enc Tryz.prog Tryz.f3 (OpenSpec.ofChange Rows.rationalActsSpec) false w args) (Rows.rationalActsSpec.post enc Tryz.prog Tryz.f3 false true false false) := by
  refine returnsInHanded_of_change_and (C := Tryz.checked) (X := fun w _ => laidMet Tryz.prog laidT w) (fun _ _ _ hh h => h.of_heap hh) Tryz.own started (by kernel_rfl) Tryz.func3
    (ChangeSpec.witness_at (enc := enc) (C := Tryz.checked) (os := os) (X := fun w _ => laidMet Tryz.prog laidT w) false (tabWorld os) #[.agg #[.bool false, .slice none 0 0, .slice none 0 0], .agg #[.bool false, .slice none 0 0, .slice none 0 0]] 8 rfl (by kernel_rfl) (by kernel_rfl) (by kernel_rfl) (by kernel_rfl) (by kernel_rfl) (tabWorld_met os _)) ?_
  intro W base args ds gs before hval0 hW _ _ hL _
  have hval : ∀ (j : Nat) t v, Tryz.f3.params[j]? = some t → args[j]? = some v → Value.okWide Tryz.prog W .any base t v := hval0
  have hW' := hW
  obtain ⟨p, q, hA0, hV, rfl, hfz, hnd⟩ := hW
  have hA : DataW.TrodAll enc Tryz.prog W 0 (fun _ => true) true Tryz.f3.params.toList args.toList ds p := hA0
  rw [Tryz.params3] at hA hval
  have ht := tab_laid hL
  obtain ⟨v0, v1, d0, d1, p0, p1, rfl, rfl, rfl, h0, h1⟩ := trodAll_two hA
  obtain ⟨rfl, rfl⟩ := trodVars_none hV
  obtain ⟨b0, a0, l0, c0, x0, r0, m0, k0, y0, rfl, s0, t0⟩ := view_rat (hval 0 26 v0 rfl rfl) h0
  obtain ⟨b1, a1, l1, c1, x1, r1, m1, k1, y1, rfl, s1, t1⟩ := view_rat (hval 1 26 v1 rfl rfl) h1
  clear hA0 hval0
  simp only [List.append_nil] at hW'
  have hlt : ∀ x ∈ p0 ++ (p1), x.block < W.heap.size := fun x hx => hW'.lt x (by simpa using hx)
  refine (acts_any b0 a0 l0 c0 x0 r0 m0 k0 y0 b1 a1 l1 c1 x1 r1 m1 k1 y1 W ht s0 t0 s1 t1).mono fun e W' ⟨he, hf⟩ => ?_
  subst he
  have hb := hf.below
  exact ⟨_, rfl, _, _, _, _, _, [], hW', trodAll_mk1 (shut_bool Tryz.underlying4 _),
    trodAll_mk2 (staysR h0 hb (fun x hx => hlt x (by simp [hx]))) (staysR h1 hb (fun x hx => hlt x (by simp [hx]))), rfl, hb.frame _, fun h => by cases h⟩

theorem rationalActs_r1 : Tryz.pinned.checked.prog.funcNamed Rows.rationalActsRow.func = some 3 := by kernel_rfl

theorem rationalActs_r2 : joinedFacts Tryz.pinned.checked.prog 3 Tryz.f3 Rows.rationalActsSpec Rows.rationalActsRow = true := by kernel_rfl

theorem rationalActs_r3 : Tryz.f3.isInstance Tryz.pinned.checked.prog Rows.rationalActsRow.origin Rows.rationalActsRow.targs := of_decide_eq_true (by kernel_rfl)

theorem rationalActs_r4 : Tryz.f3.isWrapper Tryz.pinned.checked.prog Rows.rationalActsRow.wrapper Rows.rationalActsRow.mainSum := by
  unfold Func.isWrapper; first | (rw [if_pos (by decide +kernel)]; kernel_rfl) | (rw [if_neg (by decide +kernel)]; exact ⟨rfl, rfl⟩)

theorem rationalActs_row : Rows.RationalActsSaid :=
  OpenClaim.holds_of_wide 3 Tryz.f3 rfl rfl rfl rfl rfl rfl rfl ⟨rfl, rfl, rfl, rfl, rfl⟩ rfl rfl rfl rfl rfl rationalActs_r1 Tryz.func3 rationalActs_r2
    rationalActs_r3 rationalActs_r4 (fun os started H enc _ => rationalActs_lifted os started H enc)

theorem rationalActs_c1 : Rows.rationalActsRow.wfByText (OpenSpec.ofChange Rows.rationalActsSpec) = true := by kernel_rfl

theorem rationalActs_c2 : Tryz.pinned.checked.prog.mainIs = some (true, ("6faae55cd4d553e14e82649c7f04d9b92d94c4472a6a4697afff338c71cc0c8d" : String).toList) := by kernel_rfl

theorem rationalActs_c3 : false = Tryz.pinned.checked.prog.looks [] := by kernel_rfl

theorem rationalActs_c5 : false = Rows.rationalActsRow.goesBy Tryz.pinned.checked.prog := by kernel_rfl

theorem rationalActs_c6 : Tryz.pinned.checked.prog.funcNamed Rows.rationalActsRow.func = some 3 := by kernel_rfl

theorem rationalActs_c7R : Tryz.pinned.checked.prog.wantsStandIn 26 = false := by kernel_rfl

theorem rationalActs_c8 (f : FuncId) (fn : Func) (hf : Tryz.pinned.checked.prog.funcNamed Rows.rationalActsRow.func = some f) (hfn : Tryz.pinned.checked.prog.funcs[f]? = some fn) : false = Tryz.pinned.checked.prog.looks [] ∧ ∀ (j : Nat) t, fn.params[j]? = some t → Tryz.pinned.checked.prog.wantsStandIn t = false := by
  rw [rationalActs_c6] at hf
  cases hf
  have h1 : Tryz.pinned.checked.prog.funcs[3]? = some Tryz.f3 := Tryz.func3
  rw [h1] at hfn
  cases hfn
  refine ⟨rationalActs_c3, fun j t ht => ?_⟩
  rw [Tryz.params3] at ht
  have hm := Array.mem_of_getElem? ht
  have h2 : t = 26 := by simpa using hm
  · rw [h2]; exact rationalActs_c7R

theorem rationalActs_card : Rows.RationalActsCardSaid :=
  Claim7.holds_tied_plain_at .later [] [.data] true (true, "6faae55cd4d553e14e82649c7f04d9b92d94c4472a6a4697afff338c71cc0c8d") false
    rationalActs_row (fun _ h => by cases h) rationalActs_c1 (fun _ h => by cases h) rationalActs_row_tie rfl ⟨rfl, rfl⟩ rationalActs_c2 rfl rationalActs_c8 rationalActs_c5

end Go.Proofs.YtnokcaigpnejeaaGreatDoor

#print axioms Go.Proofs.YtnokcaigpnejeaaGreatDoor.rationalActs_card
