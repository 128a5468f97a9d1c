/- RationalOrder is true, whatever the numbers: the row, and its card: of every input, in worlds in which the table of package math/bits stands as the program's text lays it. Written by wip/gen/gen_law3.py. -/
import Derived.SevenTiedAt
import Derived.Test.YtjjdbhohjphcoaaGreatDoorCards
import Derived.Test.YtjjdbhohjphcoaaGreatDoorRows
import Derived.Test.YtjjdbhohjphcoaaGreatDoorTie
import Derived.Test.YtjjdbhohjphcoaaGreatDoorK38
import Derived.Test.YtjjdbhohjphcoaaGreatDoorK39

namespace Go.Proofs.YtjjdbhohjphcoaaGreatDoor
open Go.Joins Go.ChangeShapes Go.WideShapes Go.ChangeAt Go.RowKit Go.Deep

set_option maxRecDepth 100000 in
theorem rationalOrder_lifted (os : Os) (started : os.Started) (H : Type) (enc : TypeId × Value → H) :
    ReturnsInHanded {} Tryz.checked os 8 .any (fun w args => (Rows.rationalOrderSpec.pre enc Tryz.prog Tryz.f8 [] false w args ∧ laidMet Tryz.prog laidT w) ∧ sizedMet enc Tryz.prog Tryz.f8 (OpenSpec.ofChange Rows.rationalOrderSpec) false w args) (Rows.rationalOrderSpec.post enc Tryz.prog Tryz.f8 false true false false) := by
  refine returnsInHanded_of_change_and (C := Tryz.checked) (X := fun w _ => laidMet Tryz.prog laidT w) (fun _ _ _ hh h => h.of_heap hh) Tryz.own started (by kernel_rfl) Tryz.func8
    (ChangeSpec.witness_at (enc := enc) (C := Tryz.checked) (os := os) (X := fun w _ => laidMet Tryz.prog laidT w) false (tabWorld os) #[.agg #[.bool false, .slice none 0 0, .slice none 0 0], .agg #[.bool false, .slice none 0 0, .slice none 0 0], .agg #[.bool false, .slice none 0 0, .slice none 0 0]] 8 rfl (by kernel_rfl) (by kernel_rfl) (by kernel_rfl) (by kernel_rfl) (by kernel_rfl) (tabWorld_met os _)) ?_
  intro W base args ds gs before hval0 hW _ _ hL _
  have hval : ∀ (j : Nat) t v, Tryz.f8.params[j]? = some t → args[j]? = some v → Value.okWide Tryz.prog W .any base t v := hval0
  have hW' := hW
  obtain ⟨p, q, hA0, hV, rfl, hfz, hnd⟩ := hW
  have hA : DataW.TrodAll enc Tryz.prog W 0 (fun _ => true) true Tryz.f8.params.toList args.toList ds p := hA0
  rw [Tryz.params8] at hA hval
  have ht := tab_laid hL
  obtain ⟨v0, v1, v2, d0, d1, d2, p0, p1, p2, rfl, rfl, rfl, h0, h1, h2⟩ := trodAll_three hA
  obtain ⟨rfl, rfl⟩ := trodVars_none hV
  obtain ⟨b0, a0, l0, c0, x0, r0, m0, k0, y0, rfl, s0, t0⟩ := view_rat (hval 0 26 v0 rfl rfl) h0
  obtain ⟨b1, a1, l1, c1, x1, r1, m1, k1, y1, rfl, s1, t1⟩ := view_rat (hval 1 26 v1 rfl rfl) h1
  obtain ⟨b2, a2, l2, c2, x2, r2, m2, k2, y2, rfl, s2, t2⟩ := view_rat (hval 2 26 v2 rfl rfl) h2
  clear hA0 hval0
  simp only [List.append_nil] at hW'
  have hlt : ∀ x ∈ p0 ++ (p1 ++ p2), x.block < W.heap.size := fun x hx => hW'.lt x (by simpa using hx)
  refine (order_any b0 a0 l0 c0 x0 r0 m0 k0 y0 b1 a1 l1 c1 x1 r1 m1 k1 y1 b2 a2 l2 c2 x2 r2 m2 k2 y2 W ht s0 t0 s1 t1 s2 t2).mono fun e W' ⟨he, hf⟩ => ?_
  subst he
  have hb := hf.below
  exact ⟨_, rfl, _, _, _, _, _, [], hW', trodAll_mk1 (shut_bool Tryz.underlying4 _),
    trodAll_mk3 (staysR h0 hb (fun x hx => hlt x (by simp [hx]))) (staysR h1 hb (fun x hx => hlt x (by simp [hx]))) (staysR h2 hb (fun x hx => hlt x (by simp [hx]))), rfl, hb.frame _, fun h => by cases h⟩

theorem rationalOrder_r1 : Tryz.pinned.checked.prog.funcNamed Rows.rationalOrderRow.func = some 8 := by kernel_rfl
theorem rationalOrder_r2 : joinedFacts Tryz.pinned.checked.prog 8 Tryz.f8 Rows.rationalOrderSpec Rows.rationalOrderRow = true := by kernel_rfl
theorem rationalOrder_r3 : Tryz.f8.isInstance Tryz.pinned.checked.prog Rows.rationalOrderRow.origin Rows.rationalOrderRow.targs := of_decide_eq_true (by kernel_rfl)
theorem rationalOrder_r4 : Tryz.f8.isWrapper Tryz.pinned.checked.prog Rows.rationalOrderRow.wrapper Rows.rationalOrderRow.mainSum := by
  unfold Func.isWrapper; first | (rw [if_pos (by decide +kernel)]; kernel_rfl) | (rw [if_neg (by decide +kernel)]; exact ⟨rfl, rfl⟩)
theorem rationalOrder_row : Rows.RationalOrderSaid :=
  OpenClaim.holds_of_wide 8 Tryz.f8 rfl rfl rfl rfl rfl rfl rfl ⟨rfl, rfl, rfl, rfl, rfl⟩ rfl rfl rfl rfl rfl rationalOrder_r1 Tryz.func8 rationalOrder_r2
    rationalOrder_r3 rationalOrder_r4 (fun os started H enc _ => rationalOrder_lifted os started H enc)

theorem rationalOrder_c1 : Rows.rationalOrderRow.wfByText (OpenSpec.ofChange Rows.rationalOrderSpec) = true := by kernel_rfl

theorem rationalOrder_c2 : Tryz.pinned.checked.prog.mainIs = some (true, ("6faae55cd4d553e14e82649c7f04d9b92d94c4472a6a4697afff338c71cc0c8d" : String).toList) := by kernel_rfl

theorem rationalOrder_c3 : false = Tryz.pinned.checked.prog.looks [] := by kernel_rfl

theorem rationalOrder_c5 : false = Rows.rationalOrderRow.goesBy Tryz.pinned.checked.prog := by kernel_rfl

theorem rationalOrder_c6 : Tryz.pinned.checked.prog.funcNamed Rows.rationalOrderRow.func = some 8 := by kernel_rfl

theorem rationalOrder_c7 : Tryz.pinned.checked.prog.wantsStandIn 26 = false := by kernel_rfl

theorem rationalOrder_c8 (f : FuncId) (fn : Func) (hf : Tryz.pinned.checked.prog.funcNamed Rows.rationalOrderRow.func = some f) (hfn : Tryz.pinned.checked.prog.funcs[f]? = some fn) : false = Tryz.pinned.checked.prog.looks [] ∧ ∀ (j : Nat) t, fn.params[j]? = some t → Tryz.pinned.checked.prog.wantsStandIn t = false := by
  rw [rationalOrder_c6] at hf
  cases hf
  have h1 : Tryz.pinned.checked.prog.funcs[8]? = some Tryz.f8 := Tryz.func8
  rw [h1] at hfn
  cases hfn
  refine ⟨rationalOrder_c3, fun j t ht => ?_⟩
  rw [Tryz.params8] at ht
  have hm := Array.mem_of_getElem? ht
  have h2 : t = 26 := by simpa using hm
  rw [h2]
  exact rationalOrder_c7

theorem rationalOrder_card : Rows.RationalOrderCardSaid :=
  Claim7.holds_tied_plain_at .later [] [.data] true (true, "6faae55cd4d553e14e82649c7f04d9b92d94c4472a6a4697afff338c71cc0c8d") false
    rationalOrder_row (fun _ h => by cases h) rationalOrder_c1 (fun _ h => by cases h) rationalOrder_row_tie rfl ⟨rfl, rfl⟩ rationalOrder_c2 rfl rationalOrder_c8 rationalOrder_c5

end Go.Proofs.YtjjdbhohjphcoaaGreatDoor

#print axioms Go.Proofs.YtjjdbhohjphcoaaGreatDoor.rationalOrder_card
