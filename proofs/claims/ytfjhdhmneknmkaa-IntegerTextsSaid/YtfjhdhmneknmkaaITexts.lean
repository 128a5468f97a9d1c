/- IntegerTexts: for every integer, given by any digits, and every text, Format and Parse answer as the document's own functions do, and Parse undoes Format. No condition. Written by wip/gen/gen_itexts.py. -/
import Derived.Test.YtfjhdhmneknmkaaInt17
import Derived.Test.YtfjhdhmneknmkaaInt13
import Derived.Test.YtfjhdhmneknmkaaIntOpen
namespace Go.Proofs.Ytfjhdhmneknmkaa
open Go.RowKit Go.ChangeShapes Go.WideShapes Go.ChangeAt Go.ChangeMaps

theorem iparse_back {T : ByteArray} {s : Bool} {M : Nat} (hT : itx s M = T) (h : s = true → M ≠ 0) (w : World) (hz : T.size ≤ 4096) :
    Calls Try.prog 55 #[.string T] w fun e w' => ∃ p c, e = .returned (.tuple #[iw s p (dg M).length c, .int .i64 0]) ∧ Ow w' w.heap.size p (dg M).length c (dg M) ∧ Fr [] w w' := by
  refine (iparse_any T w hz).mono ?_
  subst hT
  unfold RetP
  rw [ipe_itx h, ips_itx h, ipx_itx h]
  exact fun _ _ q => q

set_option maxRecDepth 100000 in
set_option maxHeartbeats 8000000 in
theorem itexts_small (g : Bool) (p : Option Addr) (n c : Nat) (xs : List Nat) (s : ByteArray) (w : World) (h1 : Sl w p n c xs) (B1 : n ≤ 10) (B2 : s.size ≤ 200) :
    Calls Try.prog 8 #[iw g p n c, .string s] w fun e w' => e = .returned (.bool true) ∧ Fr [] w w' := by
  have hd2 : decide ((200 : Int) < (s.size : Int)) = false := by simp; omega
  have hsz := val_lt h1.dig
  rw [h1.len] at hsz
  have hfz := fmt_len hsz B1
  have hfz2 : (txt (fmt (val xs))).size ≤ 4095 := by
    rw [txt_size] at hfz ⊢
    by_cases h0 : val xs = 0
    · rw [h0]; decide
    · have e : fmt (val xs) = dB (val xs) := by unfold fmt; rw [if_neg h0]
      rw [e]
      have q1 := dB_len_pow (val xs) h0
      have q2 := dec_len q1 hsz
      omega
  obtain ⟨sg, hsg⟩ : ∃ b, decide (iv g (val xs) < 0) = b := ⟨_, rfl⟩
  have hnz : sg = true → val xs ≠ 0 := by
    rintro rfl
    have h2 := of_decide_eq_true hsg
    intro h3
    rw [h3] at h2
    cases g <;> simp [iv] at h2
  obtain ⟨T, hT⟩ : ∃ T, itx sg (val xs) = T := ⟨_, rfl⟩
  have hTz : T.size ≤ 4096 := by have := itx_size sg (val xs); rw [hT] at this; omega
  have HT := Lib.hid hT
  have HSG := Lib.hid hsg
  have HNZ := Lib.hid hnz
  have HFZ := Lib.hid hfz
  have hTT : (T.toList == T.toList) = true := by simp
  clear hT hsg hnz hsz hfz hfz2
  go_enter Try.func8, Try.ntmps8
  go_wp2_with fail
  have g_h1 := h1
  have hw : Fr [] w (w.alloc (Obj.cells #[.bool g, .slice p n c] 40)) := (Fr.refl _ _).alloc _
  have b0 : Bx (w.alloc (Obj.cells #[.bool g, .slice p n c] 40)) w.heap.size 40 #[.bool g, .slice p n c] := (Bx.made' (by simp) _ _).kept (Fr.refl _ _)
  generalize (w.alloc (Obj.cells #[.bool g, .slice p n c] 40)) = W at *
  have hbs := b0.lt
  replace h1 := h1.kept hw
  have c_b0_0 := b0.cell (j := 0) rfl
  have f_b0_0 := b0.free 0
  have c_b0_1 := b0.cell (j := 1) rfl
  have f_b0_1 := b0.free 1
  go_wp2_with fail
  clear c_b0_0 f_b0_0 c_b0_1 f_b0_1
  refine (small_yes _ _ _ _ _ B1).mono ?_
  rintro e V1 ⟨rfl, ff⟩
  have hsz1 := ff.size
  replace hw := hw.trans ff (by simp)
  replace h1 := h1.kept ff
  replace b0 := b0.kept ff
  clear ff
  have c_b0_0 := b0.cell (j := 0) rfl
  have f_b0_0 := b0.free 0
  have c_b0_1 := b0.cell (j := 1) rfl
  have f_b0_1 := b0.free 1
  go_wp2_with fail
  clear c_b0_0 f_b0_0 c_b0_1 f_b0_1
  refine (iparse_any s _ (by omega)).mono ?_
  rintro e V5 ⟨pa, ca, rfl, oa, ff⟩
  replace hw := hw.trans ff (by simp)
  replace h1 := h1.kept ff
  replace b0 := b0.kept ff
  clear ff
  have c_b0_0 := b0.cell (j := 0) rfl
  have f_b0_0 := b0.free 0
  have c_b0_1 := b0.cell (j := 1) rfl
  have f_b0_1 := b0.free 1
  go_wp2_with fail
  clear c_b0_0 f_b0_0 c_b0_1 f_b0_1
  have hal : Fr [] V5 (V5.alloc (Obj.cells #[.bool (ips s), .slice pa (ipx s).length ca] 40)) := Fr.new _
  have d0 : Bx (V5.alloc (Obj.cells #[.bool (ips s), .slice pa (ipx s).length ca] 40)) V5.heap.size 40 #[.bool (ips s), .slice pa (ipx s).length ca] := Bx.made _ _ _
  replace hw := hw.trans hal (by simp)
  replace h1 := h1.kept hal
  replace oa := oa.kept hal
  replace b0 := b0.kept hal
  clear hal
  generalize (V5.alloc (Obj.cells #[.bool (ips s), .slice pa (ipx s).length ca] 40)) = V5x at *
  refine (rparseI_any s _ (by omega)).mono ?_
  rintro e V6 ⟨pb, cb, rfl, ob, ff⟩
  replace hw := hw.trans ff (by simp)
  replace h1 := h1.kept ff
  replace oa := oa.kept ff
  replace b0 := b0.kept ff
  replace d0 := d0.kept ff
  clear ff
  have cx0 := (b0.kept (Fr.new (w := V6) (Obj.cells #[.bool (ips s), .slice pb (ipx s).length cb] 40))).cell (j := 0) rfl
  have cx1 := (b0.kept (Fr.new (w := V6) (Obj.cells #[.bool (ips s), .slice pb (ipx s).length cb] 40))).cell (j := 1) rfl
  have c_b0_0 := b0.cell (j := 0) rfl
  have f_b0_0 := b0.free 0
  have c_b0_1 := b0.cell (j := 1) rfl
  have f_b0_1 := b0.free 1
  have c_d0_0 := d0.cell (j := 0) rfl
  have f_d0_0 := d0.free 0
  have c_d0_1 := d0.cell (j := 1) rfl
  have f_d0_1 := d0.free 1
  go_wp2_with fail
  clear c_b0_0 f_b0_0 c_b0_1 f_b0_1 c_d0_0 f_d0_0 c_d0_1 f_d0_1
  clear cx0 cx1
  have hal : Fr [] V6 (V6.alloc (Obj.cells #[.bool (ips s), .slice pb (ipx s).length cb] 40)) := Fr.new _
  have e0 : Bx (V6.alloc (Obj.cells #[.bool (ips s), .slice pb (ipx s).length cb] 40)) V6.heap.size 40 #[.bool (ips s), .slice pb (ipx s).length cb] := Bx.made _ _ _
  replace hw := hw.trans hal (by simp)
  replace h1 := h1.kept hal
  replace oa := oa.kept hal
  replace ob := ob.kept hal
  replace b0 := b0.kept hal
  replace d0 := d0.kept hal
  clear hal
  generalize (V6.alloc (Obj.cells #[.bool (ips s), .slice pb (ipx s).length cb] 40)) = V6x at *
  refine (iformat_any sg g _ _ _ xs _ h1 (by omega) HSG.out HFZ.out).mono ?_
  rw [HT.out]
  rintro e V7 ⟨rfl, ff⟩
  replace hw := hw.trans ff (by simp)
  replace h1 := h1.kept ff
  replace oa := oa.kept ff
  replace ob := ob.kept ff
  replace b0 := b0.kept ff
  replace d0 := d0.kept ff
  replace e0 := e0.kept ff
  clear ff
  have c_b0_0 := b0.cell (j := 0) rfl
  have f_b0_0 := b0.free 0
  have c_b0_1 := b0.cell (j := 1) rfl
  have f_b0_1 := b0.free 1
  have c_d0_0 := d0.cell (j := 0) rfl
  have f_d0_0 := d0.free 0
  have c_d0_1 := d0.cell (j := 1) rfl
  have f_d0_1 := d0.free 1
  have c_e0_0 := e0.cell (j := 0) rfl
  have f_e0_0 := e0.free 0
  have c_e0_1 := e0.cell (j := 1) rfl
  have f_e0_1 := e0.free 1
  go_wp2_with fail
  clear c_b0_0 f_b0_0 c_b0_1 f_b0_1 c_d0_0 f_d0_0 c_d0_1 f_d0_1 c_e0_0 f_e0_0 c_e0_1 f_e0_1
  refine (iparse_back HT.out HNZ.out _ hTz).mono ?_
  rintro e V8 ⟨pf, cf, rfl, of, ff⟩
  replace hw := hw.trans ff (by simp)
  replace h1 := h1.kept ff
  replace oa := oa.kept ff
  replace ob := ob.kept ff
  replace b0 := b0.kept ff
  replace d0 := d0.kept ff
  replace e0 := e0.kept ff
  clear ff
  generalize ipx s = X0 at *
  generalize ips s = S0 at *
  generalize ipe s = E0 at *
  have hEE : (E0 == E0) = true := by simp
  have c_b0_0 := b0.cell (j := 0) rfl
  have f_b0_0 := b0.free 0
  have c_b0_1 := b0.cell (j := 1) rfl
  have f_b0_1 := b0.free 1
  have c_d0_0 := d0.cell (j := 0) rfl
  have f_d0_0 := d0.free 0
  have c_d0_1 := d0.cell (j := 1) rfl
  have f_d0_1 := d0.free 1
  have c_e0_0 := e0.cell (j := 0) rfl
  have f_e0_0 := e0.free 0
  have c_e0_1 := e0.cell (j := 1) rfl
  have f_e0_1 := e0.free 1
  go_wp2_with fail
  clear c_b0_0 f_b0_0 c_b0_1 f_b0_1 c_d0_0 f_d0_0 c_d0_1 f_d0_1 c_e0_0 f_e0_0 c_e0_1 f_e0_1
  have hal : Fr [] V8 (V8.alloc (Obj.cells #[.bool sg, .slice pf (dg (val xs)).length cf] 40)) := Fr.new _
  have f0 : Bx (V8.alloc (Obj.cells #[.bool sg, .slice pf (dg (val xs)).length cf] 40)) V8.heap.size 40 #[.bool sg, .slice pf (dg (val xs)).length cf] := Bx.made _ _ _
  replace hw := hw.trans hal (by simp)
  replace h1 := h1.kept hal
  replace oa := oa.kept hal
  replace ob := ob.kept hal
  replace of := of.kept hal
  replace b0 := b0.kept hal
  replace d0 := d0.kept hal
  replace e0 := e0.kept hal
  clear hal
  generalize (V8.alloc (Obj.cells #[.bool sg, .slice pf (dg (val xs)).length cf] 40)) = V8x at *
  have Hw := hw.drew
  have Nb0 := b0.kept (Fr.refl [] V8x).drew
  have Nd0 := d0.kept (Fr.refl [] V8x).drew
  have Ne0 := e0.kept (Fr.refl [] V8x).drew
  have Nf0 := f0.kept (Fr.refl [] V8x).drew
  have Nh1 := h1.kept (Fr.refl [] V8x).drew
  have Noa := oa.kept (Fr.refl [] V8x).drew
  have Nob := ob.kept (Fr.refl [] V8x).drew
  have Nof := of.kept (Fr.refl [] V8x).drew
  go_region_held3 (fun w' => w'.cell? ⟨w.heap.size, 0, none⟩ = some (.bool g) ∧ w'.cell? ⟨w.heap.size, 1, none⟩ = some (.slice p n c) ∧ w'.cell? ⟨V5.heap.size, 0, none⟩ = some (.bool S0) ∧ w'.cell? ⟨V5.heap.size, 1, none⟩ = some (.slice pa X0.length ca) ∧ w'.cell? ⟨V6.heap.size, 0, none⟩ = some (.bool S0) ∧ w'.cell? ⟨V6.heap.size, 1, none⟩ = some (.slice pb X0.length cb) ∧ w'.cell? ⟨V8.heap.size, 0, none⟩ = some (.bool sg) ∧ w'.cell? ⟨V8.heap.size, 1, none⟩ = some (.slice pf (dg (val xs)).length cf)) (first | exact ⟨(Nb0).cell (j := 0) rfl, (Nb0).cell (j := 1) rfl, (Nd0).cell (j := 0) rfl, (Nd0).cell (j := 1) rfl, (Ne0).cell (j := 0) rfl, (Ne0).cell (j := 1) rfl, (Nf0).cell (j := 0) rfl, (Nf0).cell (j := 1) rfl⟩ | exact ⟨(Nb0.kept (Fr.new _)).cell (j := 0) rfl, (Nb0.kept (Fr.new _)).cell (j := 1) rfl, (Nd0.kept (Fr.new _)).cell (j := 0) rfl, (Nd0.kept (Fr.new _)).cell (j := 1) rfl, (Ne0.kept (Fr.new _)).cell (j := 0) rfl, (Ne0.kept (Fr.new _)).cell (j := 1) rfl, (Nf0.kept (Fr.new _)).cell (j := 0) rfl, (Nf0.kept (Fr.new _)).cell (j := 1) rfl⟩)
    (first
    | (go_at_call 27; (with_reducible refine (awake2_any _).mono ?_); rintro e V ⟨rfl, ff⟩; have Hw := Hw.trans ff (by simp); have Nb0 := Nb0.kept ff; have Nd0 := Nd0.kept ff; have Ne0 := Ne0.kept ff; have Nf0 := Nf0.kept ff; have Nh1 := Nh1.kept ff; have Noa := Noa.kept ff; have Nob := Nob.kept ff; have Nof := Nof.kept ff; try have ot := ot.kept ff)
    | (go_at_call 36; (with_reducible refine (isame_any S0 _ _ _ _ _ X0 _ Noa.sl Nob.sl).mono ?_); rintro e V ⟨rfl, ff⟩; have Hw := Hw.trans ff (by simp); have Nb0 := Nb0.kept ff; have Nd0 := Nd0.kept ff; have Ne0 := Ne0.kept ff; have Nf0 := Nf0.kept ff; have Nh1 := Nh1.kept ff; have Noa := Noa.kept ff; have Nob := Nob.kept ff; have Nof := Nof.kept ff; try have ot := ot.kept ff)
    | (go_at_call 57; (with_reducible refine (iformat_any sg g _ _ _ xs _ Nh1 (by omega) HSG.out HFZ.out).mono ?_); rw [HT.out]; rintro e V ⟨rfl, ff⟩; have Hw := Hw.trans ff (by simp); have Nb0 := Nb0.kept ff; have Nd0 := Nd0.kept ff; have Ne0 := Ne0.kept ff; have Nf0 := Nf0.kept ff; have Nh1 := Nh1.kept ff; have Noa := Noa.kept ff; have Nob := Nob.kept ff; have Nof := Nof.kept ff; try have ot := ot.kept ff)
    | (go_at_call 58; (with_reducible refine (rformatI_any sg g _ _ _ xs _ Nh1 (by omega) HSG.out HFZ.out).mono ?_); rw [HT.out]; rintro e V ⟨rfl, ff⟩; have Hw := Hw.trans ff (by simp); have Nb0 := Nb0.kept ff; have Nd0 := Nd0.kept ff; have Ne0 := Ne0.kept ff; have Nf0 := Nf0.kept ff; have Nh1 := Nh1.kept ff; have Noa := Noa.kept ff; have Nob := Nob.kept ff; have Nof := Nof.kept ff; try have ot := ot.kept ff)
    | (go_at_call 38; (with_reducible refine (calls_ri (b := sg) (m := val xs) (rtrim_any g _ _ _ xs _ Nh1 (by omega)) HSG.out (iv_abs _ _)).mono ?_); rintro e V ⟨pt, ct, rfl, ot, ff⟩; have Hw := Hw.trans ff (by simp); have Nb0 := Nb0.kept ff; have Nd0 := Nd0.kept ff; have Ne0 := Ne0.kept ff; have Nf0 := Nf0.kept ff; have Nh1 := Nh1.kept ff; have Noa := Noa.kept ff; have Nob := Nob.kept ff; have Nof := Nof.kept ff)
    | (go_at_call 36; (with_reducible refine (isame_any sg _ _ _ _ _ (dg (val xs)) _ Nof.sl ot.sl).mono ?_); rintro e V ⟨rfl, ff⟩; have Hw := Hw.trans ff (by simp); have Nb0 := Nb0.kept ff; have Nd0 := Nd0.kept ff; have Ne0 := Ne0.kept ff; have Nf0 := Nf0.kept ff; have Nh1 := Nh1.kept ff; have Noa := Noa.kept ff; have Nob := Nob.kept ff; have Nof := Nof.kept ff; try have ot := ot.kept ff))
  go_wp2
  go_ret
  exact ⟨rfl, Hw⟩

set_option maxRecDepth 100000 in
theorem itexts_any (g : Bool) (p : Option Addr) (n c : Nat) (xs : List Nat) (s : ByteArray) (w : World) (h1 : Sl w p n c xs) :
    Calls Try.prog 8 #[iw g p n c, .string s] w fun e w' => e = .returned (.bool true) ∧ Fr [] w w' := by
  by_cases B1 : n ≤ 10
  case' neg =>
    go_enter Try.func8, Try.ntmps8
    go_wp2_with fail
    have hw : Fr [] w (w.alloc (Obj.cells #[.bool g, .slice p n c] 40)) := (Fr.refl _ _).alloc _
    have b0 : Bx (w.alloc (Obj.cells #[.bool g, .slice p n c] 40)) w.heap.size 40 #[.bool g, .slice p n c] := (Bx.made' (by simp) _ _).kept (Fr.refl _ _)
    generalize (w.alloc (Obj.cells #[.bool g, .slice p n c] 40)) = W at *
    have hbs := b0.lt
    have c_b0_0 := b0.cell (j := 0) rfl
    have f_b0_0 := b0.free 0
    have c_b0_1 := b0.cell (j := 1) rfl
    have f_b0_1 := b0.free 1
    go_wp2_with fail
    clear c_b0_0 f_b0_0 c_b0_1 f_b0_1
    refine (small_no _ _ _ _ _ (by omega)).mono ?_
    rintro e V1 ⟨rfl, ff⟩
    have hsz1 := ff.size
    replace hw := hw.trans ff (by simp)
    replace b0 := b0.kept ff
    clear ff
    have c_b0_0 := b0.cell (j := 0) rfl
    have f_b0_0 := b0.free 0
    have c_b0_1 := b0.cell (j := 1) rfl
    have f_b0_1 := b0.free 1
    go_wp2_with fail
    clear c_b0_0 f_b0_0 c_b0_1 f_b0_1
    refine (awake2_any _).mono ?_
    rintro e V2 ⟨rfl, ff⟩
    have hsz2 := ff.size
    replace hw := hw.trans ff (by simp)
    replace b0 := b0.kept ff
    clear ff
    have c_b0_0 := b0.cell (j := 0) rfl
    have f_b0_0 := b0.free 0
    have c_b0_1 := b0.cell (j := 1) rfl
    have f_b0_1 := b0.free 1
    go_wp2
    go_ret
    exact ⟨rfl, hw⟩
  by_cases B2 : s.size ≤ 200
  case' neg =>
    have hd2 : decide ((200 : Int) < (s.size : Int)) = true := by simp; omega
    go_enter Try.func8, Try.ntmps8
    go_wp2_with fail
    have hw : Fr [] w (w.alloc (Obj.cells #[.bool g, .slice p n c] 40)) := (Fr.refl _ _).alloc _
    have b0 : Bx (w.alloc (Obj.cells #[.bool g, .slice p n c] 40)) w.heap.size 40 #[.bool g, .slice p n c] := (Bx.made' (by simp) _ _).kept (Fr.refl _ _)
    generalize (w.alloc (Obj.cells #[.bool g, .slice p n c] 40)) = W at *
    have hbs := b0.lt
    have c_b0_0 := b0.cell (j := 0) rfl
    have f_b0_0 := b0.free 0
    have c_b0_1 := b0.cell (j := 1) rfl
    have f_b0_1 := b0.free 1
    go_wp2_with fail
    clear c_b0_0 f_b0_0 c_b0_1 f_b0_1
    refine (small_yes _ _ _ _ _ B1).mono ?_
    rintro e V1 ⟨rfl, ff⟩
    have hsz1 := ff.size
    replace hw := hw.trans ff (by simp)
    replace b0 := b0.kept ff
    clear ff
    have c_b0_0 := b0.cell (j := 0) rfl
    have f_b0_0 := b0.free 0
    have c_b0_1 := b0.cell (j := 1) rfl
    have f_b0_1 := b0.free 1
    go_wp2_with fail
    clear c_b0_0 f_b0_0 c_b0_1 f_b0_1
    refine (awake2_any _).mono ?_
    rintro e V2 ⟨rfl, ff⟩
    have hsz2 := ff.size
    replace hw := hw.trans ff (by simp)
    replace b0 := b0.kept ff
    clear ff
    have c_b0_0 := b0.cell (j := 0) rfl
    have f_b0_0 := b0.free 0
    have c_b0_1 := b0.cell (j := 1) rfl
    have f_b0_1 := b0.free 1
    go_wp2
    go_ret
    exact ⟨rfl, hw⟩
  exact itexts_small g p n c xs s w h1 B1 B2

set_option maxRecDepth 100000 in
theorem integerTexts_lifted (os : Os) (started : os.Started) (H : Type) (enc : TypeId × Value → H) :
    ReturnsInHanded {} Try.checked os 8 .any (Rows.integerTextsSpec.pre6 enc Try.prog Try.f8 Rows.integerTextsRow.domain false) (Rows.integerTextsSpec.post enc Try.prog Try.f8 false true false false) := by
  refine returnsInHanded_of_change (C := Try.checked) Try.own started (by kernel_rfl) Try.func8
    (ChangeSpec.witness6 (enc := enc) (C := Try.checked) false ⟨#[], #[.agg #[.bool false, .slice none 0 0], .string ⟨#[]⟩], []⟩ 8 (by kernel_rfl) (by kernel_rfl) (by kernel_rfl) (by kernel_rfl)) ?_
  intro W base args ds gs before hval0 hW hcnd _
  have hval : ∀ (j : Nat) t v, Try.f8.params[j]? = some t → args[j]? = some v → Value.okWide Try.prog W .any base t v := hval0
  have hW' := hW
  obtain ⟨p, q, hA0, hV, rfl, hfz, hnd⟩ := hW
  have hA : DataW.TrodAll enc Try.prog W 0 (fun _ => true) true Try.f8.params.toList args.toList ds p := hA0
  rw [Try.params8] at hA hval
  obtain ⟨v0, v1, d0, d1, p0, p1, rfl, rfl, rfl, h0, h1⟩ := trodAll_two hA
  obtain ⟨rfl, rfl⟩ := trodVars_none hV
  obtain ⟨b0, a0, l0, c0, x0, rfl, k0⟩ := view_int (hval 0 40 v0 rfl rfl) h0
  obtain ⟨z1, rfl, rfl, rfl, u1⟩ := open_string Try.underlying9 (hval 1 9 v1 rfl rfl) h1
  clear hA0 hval0
  simp only [List.append_nil] at hW'
  have hlt : ∀ x ∈ p0, x.block < W.heap.size := fun x hx => hW'.lt x (by simpa using hx)
  refine (itexts_any b0 a0 l0 c0 x0 z1 W k0).mono fun e W' ⟨he, hf⟩ => ?_
  subst he
  have hb := hf.below
  exact ⟨_, rfl, _, _, _, _, _, [], hW', trodAll_mk1 (shut_bool Try.underlying4 _),
    trodAll_mk2 (staysI h0 hb (fun x hx => hlt x (by simp [hx]))) (shut_string Try.underlying9 u1), rfl, hb.frame _, fun h => by cases h⟩

theorem integerTexts_holds : Rows.IntegerTextsSaid :=
  OpenClaim.holds_of_wide 8 Try.f8 rfl rfl rfl rfl rfl rfl rfl ⟨rfl, rfl, rfl, rfl, rfl⟩ rfl rfl rfl rfl rfl (by kernel_rfl) Try.func8 (by kernel_rfl)
    (of_decide_eq_true (by kernel_rfl)) (by unfold Func.isWrapper; first | (rw [if_pos (by decide +kernel)]; kernel_rfl) | (rw [if_neg (by decide +kernel)]; exact ⟨rfl, rfl⟩))
    (fun os started H enc _ => integerTexts_lifted os started H enc)

#print axioms integerTexts_holds

end Go.Proofs.Ytfjhdhmneknmkaa
