/- IntegerActs: for every two integers, given by any digits, Small, Valid, Sign, Compare, Trim, Neg, Abs, Add, Sub, Mul and Gcd answer as the document's own functions do. No condition. Written by wip/gen/gen_iacts.py. -/
import Derived.Test.YtfjhdhmneknmkaaIActs2
namespace Go.Proofs.Ytfjhdhmneknmkaa
open Go.RowKit Go.ChangeShapes Go.WideShapes Go.ChangeAt

theorem iacts_small (g h : Bool) (p q : Option Addr) (n c m d : Nat) (xs ys : List Nat) (w : World) (h1 : Sl w p n c xs) (h2 : Sl w q m d ys) (B1 : n ≤ 10) (B2 : m ≤ 10) :
    Calls Try.prog 5 #[iw g p n c, iw h q m d] w fun e w' => e = .returned (.bool true) ∧ Fr [] w w' := by
  by_cases hf : Fits (iv g (val xs))
  · exact iacts_yes g h p q n c m d xs ys w h1 h2 B1 B2 hf
  · exact iacts_no g h p q n c m d xs ys w h1 h2 B1 B2 hf

set_option maxRecDepth 100000 in
theorem iacts_any (g h : Bool) (p q : Option Addr) (n c m d : Nat) (xs ys : List Nat) (w : World) (h1 : Sl w p n c xs) (h2 : Sl w q m d ys) :
    Calls Try.prog 5 #[iw g p n c, iw h q m d] w fun e w' => e = .returned (.bool true) ∧ Fr [] w w' := by
  by_cases B1 : n ≤ 10
  case' neg =>
    go_enter Try.func5, Try.ntmps5
    go_wp2_with fail
    have hw : Fr [] w ((w.alloc (Obj.cells #[.bool g, .slice p n c] 40)).alloc (Obj.cells #[.bool h, .slice q m d] 40)) := ((Fr.refl _ _).alloc _).alloc _
    have b0 : Bx ((w.alloc (Obj.cells #[.bool g, .slice p n c] 40)).alloc (Obj.cells #[.bool h, .slice q m d] 40)) w.heap.size 40 #[.bool g, .slice p n c] := (Bx.made' (by simp) _ _).kept ((Fr.refl _ _).alloc _)
    have b1 : Bx ((w.alloc (Obj.cells #[.bool g, .slice p n c] 40)).alloc (Obj.cells #[.bool h, .slice q m d] 40)) (w.heap.size + 1) 40 #[.bool h, .slice q m d] := (Bx.made' (by simp) _ _).kept (Fr.refl _ _)
    generalize ((w.alloc (Obj.cells #[.bool g, .slice p n c] 40)).alloc (Obj.cells #[.bool h, .slice q m d] 40)) = W at *
    have hbs := b1.lt
    have c_b0_0 := b0.cell (j := 0) rfl
    have f_b0_0 := b0.free 0
    have c_b0_1 := b0.cell (j := 1) rfl
    have f_b0_1 := b0.free 1
    have c_b1_0 := b1.cell (j := 0) rfl
    have f_b1_0 := b1.free 0
    have c_b1_1 := b1.cell (j := 1) rfl
    have f_b1_1 := b1.free 1
    go_wp2_with fail
    clear c_b0_0 f_b0_0 c_b0_1 f_b0_1 c_b1_0 f_b1_0 c_b1_1 f_b1_1
    refine (small_no _ _ _ _ _ (by omega)).mono ?_
    rintro e V1 ⟨rfl, ff⟩
    have hsz1 := ff.size
    replace hw := hw.trans ff (by simp)
    replace b0 := b0.kept ff
    replace b1 := b1.kept ff
    clear ff
    have c_b0_0 := b0.cell (j := 0) rfl
    have f_b0_0 := b0.free 0
    have c_b0_1 := b0.cell (j := 1) rfl
    have f_b0_1 := b0.free 1
    have c_b1_0 := b1.cell (j := 0) rfl
    have f_b1_0 := b1.free 0
    have c_b1_1 := b1.cell (j := 1) rfl
    have f_b1_1 := b1.free 1
    go_wp2_with fail
    clear c_b0_0 f_b0_0 c_b0_1 f_b0_1 c_b1_0 f_b1_0 c_b1_1 f_b1_1
    refine (awake2_any _).mono ?_
    rintro e V2 ⟨rfl, ff⟩
    have hsz2 := ff.size
    replace hw := hw.trans ff (by simp)
    replace b0 := b0.kept ff
    replace b1 := b1.kept ff
    clear ff
    have c_b0_0 := b0.cell (j := 0) rfl
    have f_b0_0 := b0.free 0
    have c_b0_1 := b0.cell (j := 1) rfl
    have f_b0_1 := b0.free 1
    have c_b1_0 := b1.cell (j := 0) rfl
    have f_b1_0 := b1.free 0
    have c_b1_1 := b1.cell (j := 1) rfl
    have f_b1_1 := b1.free 1
    go_wp2
    go_ret
    exact ⟨rfl, hw⟩
  by_cases B2 : m ≤ 10
  case' neg =>
    go_enter Try.func5, Try.ntmps5
    go_wp2_with fail
    have hw : Fr [] w ((w.alloc (Obj.cells #[.bool g, .slice p n c] 40)).alloc (Obj.cells #[.bool h, .slice q m d] 40)) := ((Fr.refl _ _).alloc _).alloc _
    have b0 : Bx ((w.alloc (Obj.cells #[.bool g, .slice p n c] 40)).alloc (Obj.cells #[.bool h, .slice q m d] 40)) w.heap.size 40 #[.bool g, .slice p n c] := (Bx.made' (by simp) _ _).kept ((Fr.refl _ _).alloc _)
    have b1 : Bx ((w.alloc (Obj.cells #[.bool g, .slice p n c] 40)).alloc (Obj.cells #[.bool h, .slice q m d] 40)) (w.heap.size + 1) 40 #[.bool h, .slice q m d] := (Bx.made' (by simp) _ _).kept (Fr.refl _ _)
    generalize ((w.alloc (Obj.cells #[.bool g, .slice p n c] 40)).alloc (Obj.cells #[.bool h, .slice q m d] 40)) = W at *
    have hbs := b1.lt
    have c_b0_0 := b0.cell (j := 0) rfl
    have f_b0_0 := b0.free 0
    have c_b0_1 := b0.cell (j := 1) rfl
    have f_b0_1 := b0.free 1
    have c_b1_0 := b1.cell (j := 0) rfl
    have f_b1_0 := b1.free 0
    have c_b1_1 := b1.cell (j := 1) rfl
    have f_b1_1 := b1.free 1
    go_wp2_with fail
    clear c_b0_0 f_b0_0 c_b0_1 f_b0_1 c_b1_0 f_b1_0 c_b1_1 f_b1_1
    refine (small_yes _ _ _ _ _ B1).mono ?_
    rintro e V1 ⟨rfl, ff⟩
    have hsz1 := ff.size
    replace hw := hw.trans ff (by simp)
    replace b0 := b0.kept ff
    replace b1 := b1.kept ff
    clear ff
    have c_b0_0 := b0.cell (j := 0) rfl
    have f_b0_0 := b0.free 0
    have c_b0_1 := b0.cell (j := 1) rfl
    have f_b0_1 := b0.free 1
    have c_b1_0 := b1.cell (j := 0) rfl
    have f_b1_0 := b1.free 0
    have c_b1_1 := b1.cell (j := 1) rfl
    have f_b1_1 := b1.free 1
    go_wp2_with fail
    clear c_b0_0 f_b0_0 c_b0_1 f_b0_1 c_b1_0 f_b1_0 c_b1_1 f_b1_1
    refine (small_no _ _ _ _ _ (by omega)).mono ?_
    rintro e V2 ⟨rfl, ff⟩
    have hsz2 := ff.size
    replace hw := hw.trans ff (by simp)
    replace b0 := b0.kept ff
    replace b1 := b1.kept ff
    clear ff
    have c_b0_0 := b0.cell (j := 0) rfl
    have f_b0_0 := b0.free 0
    have c_b0_1 := b0.cell (j := 1) rfl
    have f_b0_1 := b0.free 1
    have c_b1_0 := b1.cell (j := 0) rfl
    have f_b1_0 := b1.free 0
    have c_b1_1 := b1.cell (j := 1) rfl
    have f_b1_1 := b1.free 1
    go_wp2_with fail
    clear c_b0_0 f_b0_0 c_b0_1 f_b0_1 c_b1_0 f_b1_0 c_b1_1 f_b1_1
    refine (awake2_any _).mono ?_
    rintro e V3 ⟨rfl, ff⟩
    have hsz3 := ff.size
    replace hw := hw.trans ff (by simp)
    replace b0 := b0.kept ff
    replace b1 := b1.kept ff
    clear ff
    have c_b0_0 := b0.cell (j := 0) rfl
    have f_b0_0 := b0.free 0
    have c_b0_1 := b0.cell (j := 1) rfl
    have f_b0_1 := b0.free 1
    have c_b1_0 := b1.cell (j := 0) rfl
    have f_b1_0 := b1.free 0
    have c_b1_1 := b1.cell (j := 1) rfl
    have f_b1_1 := b1.free 1
    go_wp2
    go_ret
    exact ⟨rfl, hw⟩
  exact iacts_small g h p q n c m d xs ys w h1 h2 B1 B2

set_option maxRecDepth 100000 in
theorem integerActs_lifted (os : Os) (started : os.Started) (H : Type) (enc : TypeId × Value → H) :
    ReturnsInHanded {} Try.checked os 5 .any (Rows.integerActsSpec.pre6 enc Try.prog Try.f5 Rows.integerActsRow.domain false) (Rows.integerActsSpec.post enc Try.prog Try.f5 false true false false) := by
  refine returnsInHanded_of_change (C := Try.checked) Try.own started (by kernel_rfl) Try.func5
    (ChangeSpec.witness6 (enc := enc) (C := Try.checked) false ⟨#[], #[.agg #[.bool false, .slice none 0 0], .agg #[.bool false, .slice none 0 0]], []⟩ 8 (by kernel_rfl) (by kernel_rfl) (by kernel_rfl) (by kernel_rfl)) ?_
  intro W base args ds gs before hval0 hW hcnd _
  have hval : ∀ (j : Nat) t v, Try.f5.params[j]? = some t → args[j]? = some v → Value.okWide Try.prog W .any base t v := hval0
  have hW' := hW
  obtain ⟨p, q, hA0, hV, rfl, hfz, hnd⟩ := hW
  have hA : DataW.TrodAll enc Try.prog W 0 (fun _ => true) true Try.f5.params.toList args.toList ds p := hA0
  rw [Try.params5] at hA hval
  obtain ⟨v0, v1, d0, d1, p0, p1, rfl, rfl, rfl, h0, h1⟩ := trodAll_two hA
  obtain ⟨rfl, rfl⟩ := trodVars_none hV
  obtain ⟨b0, a0, l0, c0, x0, rfl, k0⟩ := view_int (hval 0 40 v0 rfl rfl) h0
  obtain ⟨b1, a1, l1, c1, x1, rfl, k1⟩ := view_int (hval 1 40 v1 rfl rfl) h1
  clear hA0 hval0
  simp only [List.append_nil] at hW'
  have hlt : ∀ x ∈ p0 ++ p1, x.block < W.heap.size := fun x hx => hW'.lt x (by simpa using hx)
  refine (iacts_any b0 b1 a0 a1 l0 c0 l1 c1 x0 x1 W k0 k1).mono fun e W' ⟨he, hf⟩ => ?_
  subst he
  have hb := hf.below
  exact ⟨_, rfl, _, _, _, _, _, [], hW', trodAll_mk1 (shut_bool Try.underlying4 _),
    trodAll_mk2 (staysI h0 hb (fun x hx => hlt x (by simp [hx]))) (staysI h1 hb (fun x hx => hlt x (by simp [hx]))), rfl, hb.frame _, fun h => by cases h⟩

theorem integerActs_holds : Rows.IntegerActsSaid :=
  OpenClaim.holds_of_wide 5 Try.f5 rfl rfl rfl rfl rfl rfl rfl ⟨rfl, rfl, rfl, rfl, rfl⟩ rfl rfl rfl rfl rfl (by kernel_rfl) Try.func5 (by kernel_rfl)
    (of_decide_eq_true (by kernel_rfl)) (by unfold Func.isWrapper; first | (rw [if_pos (by decide +kernel)]; kernel_rfl) | (rw [if_neg (by decide +kernel)]; exact ⟨rfl, rfl⟩))
    (fun os started H enc _ => integerActs_lifted os started H enc)

#print axioms integerActs_holds

end Go.Proofs.Ytfjhdhmneknmkaa
