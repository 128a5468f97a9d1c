/- awake of layer 2: the examples of the chapter. Written by wip/gen/gen_int13.py. -/
import Derived.Test.YtfjhdhmneknmkaaInt12
import Derived.Test.YtfjhdhmneknmkaaInt9
namespace Go.Proofs.Ytfjhdhmneknmkaa
open Go.RowKit

/-- A contract's end, signs and sizes named. -/
theorem calls_rd {P : Program} {f : FuncId} {vs : Array Value} {w : World} {z y : Int} (h : Calls P f vs w (RetD w z y)) {b b' : Bool} {m m' : Nat} (hb : decide (z < 0) = b) (hm : z.natAbs = m) (hb' : decide (y < 0) = b') (hm' : y.natAbs = m') :
    Calls P f vs w fun e w' => ∃ p c p' c', e = .returned (.tuple #[iw b p (dg m).length c, iw b' p' (dg m').length c', .int .i64 0]) ∧ Ow w' w.heap.size p (dg m).length c (dg m) ∧ Ow w' w.heap.size p' (dg m').length c' (dg m') ∧ Fr [] w w' := by
  subst hb
  subst hm
  subst hb'
  subst hm'
  exact h
theorem format_zero (p : Option Addr) (w : World) (h : Sl w p 1 1 [0]) : Calls Try.prog 57 #[iw true p 1 1] w fun e w' => e = .returned (.string { data := #[48] }) ∧ Fr [] w w' :=
  iformat_false true p 1 1 [0] w h (by decide) (by decide) (by decide)
theorem sign_five (p : Option Addr) (c : Nat) (w : World) (h : Sl w p (dg 5).length c (dg 5)) : Calls Try.prog 32 #[iw true p (dg 5).length c] w fun e w' => e = .returned (.int .i64 (-1)) ∧ Fr [] w w' := by
  have hl : (dg 5).length ≤ 1 := dg_len_le (by rw [pB_one]; decide)
  have := isign_any true p (dg 5).length c (dg 5) w h (by omega)
  rwa [val_dg, show (iv true 5).sign = -1 from by decide] at this
theorem dg_len7 (m : Nat) (h : m < 4294967296) : (dg m).length ≤ 1 := dg_len_le (by rw [pB_one]; exact h)

set_option maxRecDepth 100000 in
set_option maxHeartbeats 4000000 in
theorem awake2_any (w : World) : Calls Try.prog 27 #[] w fun e w' => e = .returned (.bool true) ∧ Fr [] w w' := by
  have l7 := dg_len7 7 (by decide)
  have l2 := dg_len7 2 (by decide)
  go_enter Try.func27, Try.ntmps27
  go_wp2_with fail
  refine (calls_ri (b := false) (m := 7) (of_any 7 w (by decide) (by decide)) (by decide) (by decide)).mono ?_
  rintro e w1 ⟨p1, c1, rfl, o1, hw⟩
  go_wp2_with fail
  refine (calls_ri (b := true) (m := 2) (of_any (-2) w1 (by decide) (by decide)) (by decide) (by decide)).mono ?_
  rintro e w2 ⟨p2, c2, rfl, o2, ff⟩
  replace o1 := o1.kept ff
  replace hw := hw.trans ff (by simp)
  clear ff
  go_wp2_with fail
  refine (calls_rd (b := true) (m := 3) (b' := false) (m' := 1) (idiv_any false true _ _ _ _ _ _ (dg 7) (dg 2) _ o1.sl o2.sl (by omega) (by omega) (by rw [val_dg]; decide)) (by rw [val_dg, val_dg]; decide) (by rw [val_dg, val_dg]; decide) (by rw [val_dg, val_dg]; decide) (by rw [val_dg, val_dg]; decide)).mono ?_
  rintro e w3 ⟨p3, c3, p4, c4, rfl, o3, o4, ff⟩
  replace hw := hw.trans ff (by simp)
  clear ff o1 o2 l2 l7
  obtain ⟨M, hM⟩ : ∃ M, (-9223372036854775808 : Int).natAbs = M := ⟨_, rfl⟩
  have hMl : (dg M).length ≤ 2 := dg_len_le (by rw [show pB 2 = 18446744073709551616 by decide, ← hM]; decide)
  have hMi : iv true (val (dg M)) = -9223372036854775808 := by rw [val_dg, iv_neg, ← hM]; decide
  have HM := Lib.hid hM
  have HMi := Lib.hid hMi
  clear hM hMi
  go_wp2_with fail
  have b0 : Bx ((w3.alloc (Obj.cells #[.bool true, .slice p3 (dg 3).length c3] 40)).alloc (Obj.cells #[.bool false, .slice p4 (dg 1).length c4] 40)) w3.heap.size 40 #[.bool true, .slice p3 (dg 3).length c3] := (Bx.made _ _ _).kept (Fr.new _)
  have b1 : Bx ((w3.alloc (Obj.cells #[.bool true, .slice p3 (dg 3).length c3] 40)).alloc (Obj.cells #[.bool false, .slice p4 (dg 1).length c4] 40)) (w3.heap.size + 1) 40 #[.bool false, .slice p4 (dg 1).length c4] := Bx.made' (by simp) _ _
  have s3 := o3.sl.kept ((Fr.new (w := w3) (Obj.cells #[.bool true, .slice p3 (dg 3).length c3] 40)).alloc (Obj.cells #[.bool false, .slice p4 (dg 1).length c4] 40))
  have s4 := o4.sl.kept ((Fr.new (w := w3) (Obj.cells #[.bool true, .slice p3 (dg 3).length c3] 40)).alloc (Obj.cells #[.bool false, .slice p4 (dg 1).length c4] 40))
  replace hw := (hw.alloc (Obj.cells #[.bool true, .slice p3 (dg 3).length c3] 40)).alloc (Obj.cells #[.bool false, .slice p4 (dg 1).length c4] 40)
  generalize ((w3.alloc (Obj.cells #[.bool true, .slice p3 (dg 3).length c3] 40)).alloc (Obj.cells #[.bool false, .slice p4 (dg 1).length c4] 40)) = w4 at *
  clear o3 o4
  refine (calls_ri (b := true) (m := M) (of_any (-9223372036854775808) w4 (by decide) (by decide)) (by decide) HM.out).mono ?_
  rintro e w5 ⟨p5, c5, rfl, o5, ff⟩
  replace b0 := b0.kept ff
  replace b1 := b1.kept ff
  replace s3 := s3.kept ff
  replace s4 := s4.kept ff
  replace hw := hw.trans ff (by simp)
  clear ff
  go_wp2_with fail
  refine (ismall_yes true _ _ _ (dg M) _ o5.sl (by omega) (by rw [HMi.out]; exact ⟨by decide, by decide⟩)).mono ?_
  rw [HMi.out]
  rintro e w6 ⟨rfl, ff⟩
  replace b0 := b0.kept ff
  replace b1 := b1.kept ff
  replace s3 := s3.kept ff
  replace s4 := s4.kept ff
  replace hw := hw.trans ff (by simp)
  clear ff o5 hMl HM HMi
  go_wp2_with fail
  have Hw := hw.drew
  have B0 := b0.kept (Fr.refl [] w6).drew
  have B1 := b1.kept (Fr.refl [] w6).drew
  have S3 := s3.kept (Fr.refl [] w6).drew
  have S4 := s4.kept (Fr.refl [] w6).drew
  go_region_held3 (fun w' => w'.cell? ⟨w3.heap.size, 0, none⟩ = some (.bool true) ∧ w'.cell? ⟨w3.heap.size, 1, none⟩ = some (.slice p3 (dg 3).length c3) ∧ w'.cell? ⟨w3.heap.size + 1, 0, none⟩ = some (.bool false) ∧ w'.cell? ⟨w3.heap.size + 1, 1, none⟩ = some (.slice p4 (dg 1).length c4)) (first | exact ⟨(B0).cell (j := 0) rfl, (B0).cell (j := 1) rfl, (B1).cell (j := 0) rfl, (B1).cell (j := 1) rfl⟩ | exact ⟨(B0.kept (Fr.new _)).cell (j := 0) rfl, (B0.kept (Fr.new _)).cell (j := 1) rfl, (B1.kept (Fr.new _)).cell (j := 0) rfl, (B1.kept (Fr.new _)).cell (j := 1) rfl⟩)
    (first
    | (go_at_call 54; (with_reducible refine (calls_ri (b := true) (m := 3) (rof_any (-3) _ (by decide) (by decide)) (by decide) (by decide)).mono ?_); rintro e V ⟨p7, c7, rfl, o7, ff⟩; have Hw := Hw.trans ff (by simp); have B0 := B0.kept ff; have B1 := B1.kept ff; have S3 := S3.kept ff; have S4 := S4.kept ff)
    | (go_at_call 36; (with_reducible refine (isame_any true p3 _ _ _ _ (dg 3) _ S3 o7.sl).mono ?_); rintro e V ⟨rfl, ff⟩; have Hw := Hw.trans ff (by simp); have B0 := B0.kept ff; have B1 := B1.kept ff; have S3 := S3.kept ff; have S4 := S4.kept ff)
    | (go_at_call 54; (with_reducible refine (calls_ri (b := false) (m := 1) (rof_any 1 _ (by decide) (by decide)) (by decide) (by decide)).mono ?_); rintro e V ⟨p8, c8, rfl, o8, ff⟩; have Hw := Hw.trans ff (by simp); have B0 := B0.kept ff; have B1 := B1.kept ff; have S3 := S3.kept ff; have S4 := S4.kept ff)
    | (go_at_call 36; (with_reducible refine (isame_any false p4 _ _ _ _ (dg 1) _ S4 o8.sl).mono ?_); rintro e V ⟨rfl, ff⟩; have Hw := Hw.trans ff (by simp); have B0 := B0.kept ff; have B1 := B1.kept ff; have S3 := S3.kept ff; have S4 := S4.kept ff)
    | (go_at_call 57; refine (format_zero _ _ (made1 rfl (by simp) (by decide))).mono ?_; rintro e V ⟨rfl, ff⟩; have gg := (Fr.new _).trans ff (by simp); have Hw := Hw.trans gg (by simp); have B0 := B0.kept gg; have B1 := B1.kept gg)
    | (go_at_call 53; (with_reducible refine (calls_ri (b := true) (m := 5) (of_any (-5) _ (by decide) (by decide)) (by decide) (by decide)).mono ?_); rintro e V ⟨p9, c9, rfl, o9, ff⟩; have Hw := Hw.trans ff (by simp); have B0 := B0.kept ff; have B1 := B1.kept ff)
    | (go_at_call 32; refine (sign_five _ _ _ o9.sl).mono ?_; rintro e V ⟨rfl, ff⟩; have Hw := Hw.trans ff (by simp); have B0 := B0.kept ff; have B1 := B1.kept ff))
  go_wp2
  go_ret
  exact ⟨rfl, Hw⟩

end Go.Proofs.Ytfjhdhmneknmkaa
