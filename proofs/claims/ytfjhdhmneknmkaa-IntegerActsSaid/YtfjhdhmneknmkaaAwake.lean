/- awake: the examples of the chapter. -/
import Derived.Test.YtfjhdhmneknmkaaFmt
namespace Go.Proofs.Ytfjhdhmneknmkaa
open Go.RowKit

theorem made1 {w : World} {g x : Nat} {X : Int} (hX : X = (x : Int)) (hg : g = w.heap.size) (h : x < 4294967296) : Sl (w.alloc (.cells #[.int .u32 X] 57)) (some ⟨g, 0, none⟩) 1 1 [x] := by
  subst hX
  subst hg
  exact (Ow.made w (base := 0) [x] (Nat.zero_le _) (by simp) (Dg.one h)).sl
theorem made2 {w : World} {g x y : Nat} {X Y : Int} (hX : X = (x : Int)) (hY : Y = (y : Int)) (hg : g = w.heap.size) (h : x < 4294967296) (h2 : y < 4294967296) : Sl (w.alloc (.cells #[.int .u32 X, .int .u32 Y] 57)) (some ⟨g, 0, none⟩) 2 2 [x, y] := by
  subst hX
  subst hY
  subst hg
  exact (Ow.made w (base := 0) [x, y] (Nat.zero_le _) (by simp) (Dg.cons h (Dg.one h2))).sl
theorem Fr.new {w : World} (o : Obj) : Fr [] w (w.alloc o) := (Fr.refl _ _).alloc _

theorem dg_carry : dg 4294967296 = [0, 1] := by
  have h := dg_step (x := 0) (n := 1) (by decide) (by decide)
  rw [dg_one] at h
  exact h
theorem rt_two_eight : rt 2 8 = 2 := rt_unique (by decide) (by decide) (by decide)
theorem fmt_carry : fmt 4294967296 = [4, 2, 9, 4, 9, 6, 7, 2, 9, 6] := by
  have h := dB_of [4, 2, 9, 4, 9, 6, 7, 2, 9, 6] (by intro d hd; simp at hd; omega) (by intro x T e; cases e; decide)
  have h2 : dvB [4, 2, 9, 4, 9, 6, 7, 2, 9, 6] = 4294967296 := by decide
  rw [h2] at h
  unfold fmt
  rw [if_neg (by decide)]
  exact h

set_option maxRecDepth 100000 in
set_option maxHeartbeats 4000000 in
theorem awake_any (w : World) : Calls Try.prog 10 #[] w fun e w' => e = .returned (.bool true) ∧ Fr [] w w' := by
  go_enter Try.func10, Try.ntmps10
  go_wp2_with fail
  refine (divmod_yes _ _ _ _ _ _ [0, 1] [3] _ ((made2 rfl rfl rfl (by decide) (by decide)).kept (Fr.new _)) (made1 rfl (by simp) (by decide)) (by decide) (by decide) (by decide)).mono ?_
  rintro e w1 ⟨pq, cq, pr, cr, rfl, hq, hr, hf1⟩
  have e1 : val [0, 1] / val [3] = 1431655765 := by decide
  have e2 : val [0, 1] % val [3] = 1 := by decide
  rw [e1, dg_small (by decide) (by decide)] at hq ⊢
  rw [e2, dg_one] at hr ⊢
  have f1 : Fr [] w w1 := ((Fr.new _).trans (Fr.new _) (by simp)).trans hf1 (by simp)
  clear hf1 e1 e2
  have sq := hq.sl
  have sr := hr.sl
  clear hq hr
  simp only [List.length_cons, List.length_nil, Nat.zero_add] at sq sr ⊢
  go_wp2_with fail
  refine (root_yes _ _ _ 2 [8] _ (made1 rfl rfl (by decide)) (by decide) (by decide) (by decide)).mono ?_
  rintro e w2 ⟨px, cx, rfl, hx, hf2⟩
  have e3 : rt 2 (val [8]) = 2 := rt_two_eight
  rw [e3, dg_small (by decide) (by decide)] at hx ⊢
  have sx := hx.sl
  have hf3 : Fr [] w1 w2 := (Fr.new _).trans hf2 (by simp)
  have sq2 := sq.kept hf3
  have sr2 := sr.kept hf3
  have f2 : Fr [] w w2 := f1.trans hf3 (by simp)
  clear hx hf2 hf3 sq sr f1 e3
  simp only [List.length_cons, List.length_nil, Nat.zero_add] at sx ⊢
  go_wp2_with fail
  refine (same_any _ _ _ _ _ [1431655765] _ (sq2.kept (Fr.new _)) (made1 rfl rfl (by decide))).mono ?_
  rintro e w3 ⟨rfl, hf⟩
  have hg : Fr [] w2 w3 := (Fr.new _).trans hf (by simp)
  have sr3 := sr2.kept hg
  have sx3 := sx.kept hg
  have f3 : Fr [] w w3 := f2.trans hg (by simp)
  clear hf hg sr2 sx sq2 f2
  go_wp2_with fail
  refine (same_any _ _ _ _ _ [1] _ (sr3.kept (Fr.new _)) (made1 rfl rfl (by decide))).mono ?_
  rintro e w4 ⟨rfl, hf⟩
  have hg : Fr [] w3 w4 := (Fr.new _).trans hf (by simp)
  have sx4 := sx3.kept hg
  have f4 : Fr [] w w4 := f3.trans hg (by simp)
  clear hf hg sr3 sx3 f3
  go_wp2_with fail
  refine (same_any _ _ _ _ _ [2] _ (sx4.kept (Fr.new _)) (made1 rfl rfl (by decide))).mono ?_
  rintro e w5 ⟨rfl, hf⟩
  have hg : Fr [] w4 w5 := (Fr.new _).trans hf (by simp)
  have f5 : Fr [] w w5 := f4.trans hg (by simp)
  clear hf hg sx4 f4
  go_wp2_with fail
  refine (format_any _ _ _ [0, 1] _ (made2 rfl rfl rfl (by decide) (by decide)) (by decide)).mono ?_
  rintro e w6 ⟨rfl, hf⟩
  have e4 : fmt (val [0, 1]) = [4, 2, 9, 4, 9, 6, 7, 2, 9, 6] := fmt_carry
  have e5 : txt (fmt (val [0, 1])) = ⟨#[52, 50, 57, 52, 57, 54, 55, 50, 57, 54]⟩ := by rw [e4]; rfl
  rw [e5]
  have hg : Fr [] w5 w6 := (Fr.new _).trans hf (by simp)
  have f6 : Fr [] w w6 := f5.trans hg (by simp)
  clear hf hg f5 e4 e5
  go_wp2_with fail
  refine (add_any _ _ _ _ _ _ [4294967295] [1] _ ((made1 rfl rfl (by decide)).kept (Fr.new _)) (made1 rfl (by simp) (by decide)) (by decide) (by decide)).mono ?_
  rintro e w7 ⟨ps, cs, rfl, hs, hf⟩
  have e6 : val [4294967295] + val [1] = 4294967296 := by decide
  rw [e6, dg_carry] at hs ⊢
  have hss := hs.sl
  have hg : Fr [] w6 w7 := ((Fr.new _).trans (Fr.new _) (by simp)).trans hf (by simp)
  have f7 : Fr [] w w7 := f6.trans hg (by simp)
  clear hf hg f6 e6 hs
  simp only [List.length_cons, List.length_nil, Nat.zero_add] at hss ⊢
  go_wp2_with fail
  refine (same_any _ _ _ _ _ [0, 1] _ (hss.kept (Fr.new _)) (made2 rfl rfl rfl (by decide) (by decide))).mono ?_
  rintro e w8 ⟨rfl, hf⟩
  have f8 : Fr [] w w8 := f7.trans ((Fr.new _).trans hf (by simp)) (by simp)
  clear hf f7 hss
  go_wp2_with fail
  go_ret
  exact ⟨rfl, f8⟩

end Go.Proofs.Ytfjhdhmneknmkaa
