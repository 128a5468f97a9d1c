/- What the statements of this claim stand on: of Rat2, Rat3, Rat6, what they name -/
import Derived.Deep.RegionWith
import Derived.Test.YtagciepnhjbopaaGreatDoorT18
import Derived.Test.YtagciepnhjbopaaGreatDoorT24

namespace Go.Proofs.YtagciepnhjbopaaGreatDoor
open Go.RowKit

theorem tz_digits {xs : List Nat} {k : Nat} (hd : Dg xs) (hk : k < xs.length) (h0 : val (xs.take k) = 0) (hg : gd xs k ≠ 0) : tz (val xs) = 32 * k + tz (gd xs k) := by
  have e1 := val_split xs k (by omega)
  rw [h0, Nat.zero_add, drop_cons_gd hk, val, pB_two] at e1
  have hl : gd xs k < 2 ^ 32 := by have := hd.at k; omega
  rw [e1, tz_shift (by omega), show (4294967296 : Nat) = 2 ^ 32 by decide, tz_add hg hl]

theorem bl_two (k : Nat) : bl (2 ^ k) = k + 1 := bl_eq (Nat.pow_lt_pow_right (by decide) (by omega)) (by rw [Nat.pow_succ]; omega)

theorem bin_yes {y : Nat} (h : y = 2 ^ tz y) : ((tz y : Int) + 1 == (bl y : Int)) = true := by
  have e : bl y = tz y + 1 := by
    have := bl_two (tz y)
    rw [← h] at this
    exact this
  rw [e]
  exact beq_iff_eq.2 (by omega)

theorem bin_no {y : Nat} (h0 : y ≠ 0) (h : y ≠ 2 ^ tz y) : ((tz y : Int) + 1 == (bl y : Int)) = false := by
  apply beq_eq_false_iff_ne.2
  intro e
  have e1 : bl y = tz y + 1 := by omega
  have h1 := bl_lt y
  rw [e1, Nat.pow_succ] at h1
  obtain ⟨m, h2, h3⟩ := tz_spec y h0
  have h4 : m = 1 := by
    have hp := Nat.two_pow_pos (tz y)
    have : m < 2 := by
      apply Nat.lt_of_mul_lt_mul_left (a := 2 ^ tz y)
      rw [← h2]; exact h1
    omega
  rw [h4, Nat.mul_one] at h2
  exact h h2

theorem bitLen_f (p : Option Addr) (n c : Nat) (xs : List Nat) (w : World) (h : Sl w p n c xs) (hn : n ≤ 1099511627776) :
    Calls Tryz.prog 196 #[.slice p n c] w fun e w' => e = .returned (.int .i64 (bl (val xs) : Nat)) ∧ Fr [] w w' :=
  (bitLen_any p n c xs w h hn).mono fun _ _ ⟨h1, h2⟩ => ⟨h1, by rw [h2]; exact Fr.refl _ _⟩

set_option maxRecDepth 100000 in
set_option maxHeartbeats 1000000 in
theorem zeros_any (g : Bool) (p : Option Addr) (n c : Nat) (xs : List Nat) (w : World) (ht : Tab w) (h1 : Sl w p n c xs) (_hn : n ≤ 1048576) (h0 : val xs ≠ 0) :
    Calls Tryz.prog 171 #[iw g p n c] w fun e w' => e = .returned (.int .i64 (tz (val xs) : Nat)) ∧ Fr [] w w' := by
  go_enter Tryz.func171, Tryz.ntmps171
  go_wp2_with fail
  have g_h1 := h1
  have hw : Fr [] w (w.alloc (Obj.cells #[.bool g, .slice p n c] 24)) := (Fr.refl _ _).alloc _
  have b0 : Bx (w.alloc (Obj.cells #[.bool g, .slice p n c] 24)) w.heap.size 24 #[.bool g, .slice p n c] := (Bx.made' (by simp) _ _).kept (Fr.refl _ _)
  generalize (w.alloc (Obj.cells #[.bool g, .slice p n c] 24)) = W at *
  have hbs := b0.lt
  replace h1 := h1.kept hw
  replace ht := ht.kept hw
  have hx := h1.len
  have HX := Lib.hid hx
  have H0 := Lib.hid h0
  clear hx h0
  have c_b0_0 := b0.cell (j := 0) rfl
  have f_b0_0 := b0.free 0
  have c_b0_1 := b0.cell (j := 1) rfl
  have f_b0_1 := b0.free 1
  go_wp2_with fail
  clear c_b0_0 f_b0_0 c_b0_1 f_b0_1
  go_loop [3] (fun s => ∃ k : Nat, k ≤ n ∧ s = .int .i64 k ∧ val (xs.take k) = 0) (fun s => n - (intOf s).toNat)
  case atStart => exact ⟨0, Nat.zero_le _, rfl, rfl⟩
  case round =>
    obtain ⟨k, hk, rfl, hv0⟩ := hrel
    have HV := Lib.hid hv0
    clear hv0
    have hlt : k < n := by
      apply Nat.lt_of_not_le
      intro h
      have hv := HV.out
      rw [List.take_of_length_le (by rw [HX.out]; exact h)] at hv
      exact H0.out hv
    obtain ⟨b, off, rfl, _, hcell⟩ := h1.rd.open (by rw [HX.out]; omega)
    have hck := hcell k (by rw [HX.out]; exact hlt)
    have dk := h1.dig.at k
    clear hcell
    by_cases hz : gd xs k = 0
    · have HZ : Hid (val (xs.take (k + 1)) = 0) := by show _ = _; rw [val_take_succ, HV.out, hz, Nat.mul_zero]
      rw [hz] at hck
      clear hz dk
      have c_b0_0 := b0.cell (j := 0) rfl
      have f_b0_0 := b0.free 0
      have c_b0_1 := b0.cell (j := 1) rfl
      have f_b0_1 := b0.free 1
      go_wp2_with fail
      go_round
      case rel => exact ⟨k + 1, by omega, by go_num, HZ.out⟩
      case measure => simp [intOf]; omega
    · have HT := Lib.hid (tz_digits h1.dig (by rw [HX.out]; exact hlt) HV.out hz)
      have hzb : ((gd xs k : Int) == 0) = false := beq_eq_false_iff_ne.2 (by omega)
      have HZ := Lib.hid hz
      clear hz
      have hb32 := tz_lt32 HZ.out dk
      have c_b0_0 := b0.cell (j := 0) rfl
      have f_b0_0 := b0.free 0
      have c_b0_1 := b0.cell (j := 1) rfl
      have f_b0_1 := b0.free 1
      go_wp2_with fail
      refine (tz32_any (gd xs k) _ ht HZ.out dk).mono ?_
      rintro e w' ⟨rfl, rfl⟩
      go_wp2_with fail
      go_ret
      rw [HT.out]
      exact ⟨ret_int (by omega), hw⟩

set_option maxRecDepth 100000 in
set_option maxHeartbeats 1000000 in
theorem isbin_any (g h : Bool) (p q : Option Addr) (n c m d : Nat) (ys : List Nat) (w : World) (ht : Tab w) (h2 : Sl w q m d ys) (_hm : m ≤ 1048576) (h0 : val ys ≠ 0) :
    Calls Tryz.prog 170 #[fw g p n c h q m d] w fun e w' => e = .returned (.bool ((tz (val ys) : Int) + 1 == (bl (val ys) : Int))) ∧ Fr [] w w' := by
  have htz := tz_le h0
  have hbl := bl_le (x := val ys) (n := 32 * m) (by have := val_lt h2.dig; rw [h2.len, pB_two] at this; exact this)
  have htb : tz (val ys) < 32 * m := by
    have h3 := val_lt h2.dig
    rw [h2.len, pB_two] at h3
    exact (Nat.pow_lt_pow_iff_right (a := 2) (by decide)).1 (Nat.lt_of_le_of_lt htz h3)
  have H0 := Lib.hid h0
  have hwr : IntKind.i64.wrap ((tz (val ys) : Int) + 1) = (tz (val ys) : Int) + 1 := IntWalk.i64_in _ (by omega)
  clear h0 htz
  go_enter Tryz.func170, Tryz.ntmps170
  go_wp2_with fail
  have g_h2 := h2
  have hw : Fr [] w (w.alloc (Obj.cells #[.bool g, .slice p n c, .bool h, .slice q m d] 75)) := (Fr.refl _ _).alloc _
  have b0 : Bx (w.alloc (Obj.cells #[.bool g, .slice p n c, .bool h, .slice q m d] 75)) w.heap.size 75 #[.bool g, .slice p n c, .bool h, .slice q m d] := (Bx.made' (by simp) _ _).kept (Fr.refl _ _)
  generalize (w.alloc (Obj.cells #[.bool g, .slice p n c, .bool h, .slice q m d] 75)) = W at *
  have hbs := b0.lt
  replace h2 := h2.kept hw
  replace ht := ht.kept hw
  have Hw := hw.drew
  have hu0 := ((Fr.refl [] W).drew).size
  have Nh2 := h2.kept (Fr.refl [] W).drew
  have Nb0 := b0.kept (Fr.refl [] W).drew
  have Nht := ht.kept (Fr.refl [] W).drew
  go_region_held3 (fun w' => w'.cell? ⟨w.heap.size, 2, none⟩ = some (.bool h) ∧ w'.cell? ⟨w.heap.size, 3, none⟩ = some (.slice q m d)) (first | exact ⟨Nb0.cell (j := 2) rfl, Nb0.cell (j := 3) rfl⟩ | exact ⟨(Nb0.kept (Fr.new _)).cell (j := 2) rfl, (Nb0.kept (Fr.new _)).cell (j := 3) rfl⟩)
    (first
    | (go_at_call 171; (with_reducible refine (zeros_any h _ _ _ ys _ Nht Nh2 (by omega) H0.out).mono ?_); rintro e U1 ⟨rfl, ff⟩; have hu1 := ff.size; replace Hw := Hw.trans ff (by simp); replace Nh2 := Nh2.kept ff; replace Nb0 := Nb0.kept ff; replace Nht := Nht.kept ff; clear ff)
    | (go_at_call 196; (with_reducible refine (bitLen_f _ _ _ ys _ Nh2 (by omega)).mono ?_); rintro e U2 ⟨rfl, ff⟩; have hu2 := ff.size; replace Hw := Hw.trans ff (by simp); replace Nh2 := Nh2.kept ff; replace Nb0 := Nb0.kept ff; replace Nht := Nht.kept ff; clear ff; have m_b0_0 := Nb0.cell (j := 0) rfl; have q_b0_0 := Nb0.free 0; have m_b0_1 := Nb0.cell (j := 1) rfl; have q_b0_1 := Nb0.free 1; have m_b0_2 := Nb0.cell (j := 2) rfl; have q_b0_2 := Nb0.free 2; have m_b0_3 := Nb0.cell (j := 3) rfl; have q_b0_3 := Nb0.free 3))
  go_wp2_with fail
  go_ret
  exact ⟨rfl, Hw⟩

def RetL (w : World) (r : Rat) (e : Ending) (w' : World) : Prop :=
  ∃ p c q d, e = .returned (fw (decide (r.num < 0)) p (dg r.num.natAbs).length c false q (dg r.den).length d) ∧ Ow w' w.heap.size p (dg r.num.natAbs).length c (dg r.num.natAbs) ∧ Ow w' w.heap.size q (dg r.den).length d (dg r.den) ∧ Fr [] w w'

theorem retl_of {w : World} {r : Rat} {g : Bool} {a b : Nat} (hg : decide (r.num < 0) = g) (ha : r.num.natAbs = a) (hb : r.den = b) {e : Ending} {w' : World}
    (h : ∃ p c q d, e = .returned (fw g p (dg a).length c false q (dg b).length d) ∧ Ow w' w.heap.size p (dg a).length c (dg a) ∧ Ow w' w.heap.size q (dg b).length d (dg b) ∧ Fr [] w w') : RetL w r e w' := by
  unfold RetL
  rw [hg, ha, hb]
  exact h

theorem iv_div (g : Bool) {a k : Nat} (h : k ∣ a) (hk : k ≠ 0) : iv g a / (k : Int) = iv g (a / k) := by
  obtain ⟨b, rfl⟩ := h
  rw [Nat.mul_div_cancel_left _ (Nat.pos_of_ne_zero hk)]
  cases g
  · show ((k * b : Nat) : Int) / (k : Int) = (b : Int)
    rw [Int.natCast_mul, Int.mul_ediv_cancel_left _ (by omega)]
  · show -((k * b : Nat) : Int) / (k : Int) = -(b : Int)
    rw [Int.natCast_mul, ← Int.mul_neg, Int.mul_ediv_cancel_left _ (by omega)]

theorem gcd_ne {a b : Nat} (h : b ≠ 0) : Nat.gcd a b ≠ 0 := fun e => h (Nat.eq_zero_of_gcd_eq_zero_right e)

theorem mk_abs (g : Bool) {a b : Nat} (hb : b ≠ 0) : (mkRat (iv g a) b).num.natAbs = a / Nat.gcd a b ∧ (mkRat (iv g a) b).den = b / Nat.gcd a b := by
  rw [mk_num _ hb, mk_den _ hb, iv_abs, iv_div g (Nat.gcd_dvd_left a b) (gcd_ne hb), iv_abs]
  exact ⟨rfl, rfl⟩

theorem mk_sign (g : Bool) {a b : Nat} (ha : a ≠ 0) (hb : b ≠ 0) : decide ((mkRat (iv g a) b).num < 0) = g := by
  rw [mk_neg_iff _ hb, iv_lt, decide_eq_true (Nat.pos_of_ne_zero ha), Bool.and_true]

theorem sign_ne (g : Bool) {a : Nat} (h : a ≠ 0) : ((iv g a).sign == 0) = false := by
  apply beq_eq_false_iff_ne.2
  intro e
  have := Int.sign_eq_zero_iff_zero.1 e
  have h2 := iv_abs g a
  rw [this] at h2
  exact h h2.symm

set_option maxRecDepth 100000 in
set_option maxHeartbeats 1000000 in
theorem reduce_zero (g : Bool) (p q : Option Addr) (n c m d : Nat) (xs ys : List Nat) (w : World) (ht : Tab w) (h1 : Sl w p n c xs) (h2 : Sl w q m d ys) (_hn : n ≤ 524287) (_hm : m ≤ 524287) (_hy : val ys ≠ 0) (hx : val xs = 0) :
    Calls Tryz.prog 120 #[fw g p n c false q m d] w (RetL w (mkRat (iv g (val xs)) (val ys))) := by
  have hr : mkRat (iv g (val xs)) (val ys) = 0 := by rw [hx]; cases g <;> exact Rat.zero_mkRat _
  have hs : (iv g (val xs)).sign = 0 := by rw [hx]; cases g <;> rfl
  rw [hr]
  have HS := Lib.hid hs
  clear hr hs hx _hy
  go_enter Tryz.func120, Tryz.ntmps120
  go_wp2_with fail
  have g_h1 := h1
  have g_h2 := h2
  have hw : Fr [] w ((w.alloc (Obj.cells #[.bool g, .slice p n c, .bool false, .slice q m d] 75)).alloc (Obj.cells #[.bool false, .slice none 0 0, .bool false, .slice none 0 0] 92)) := ((Fr.refl _ _).alloc _).alloc _
  have b0 : Bx ((w.alloc (Obj.cells #[.bool g, .slice p n c, .bool false, .slice q m d] 75)).alloc (Obj.cells #[.bool false, .slice none 0 0, .bool false, .slice none 0 0] 92)) w.heap.size 75 #[.bool g, .slice p n c, .bool false, .slice q m d] := (Bx.made' (by simp) _ _).kept ((Fr.refl _ _).alloc _)
  have r0 : Bx ((w.alloc (Obj.cells #[.bool g, .slice p n c, .bool false, .slice q m d] 75)).alloc (Obj.cells #[.bool false, .slice none 0 0, .bool false, .slice none 0 0] 92)) (w.heap.size + 1) 92 #[.bool false, .slice none 0 0, .bool false, .slice none 0 0] := (Bx.made' (by simp) _ _).kept (Fr.refl _ _)
  generalize ((w.alloc (Obj.cells #[.bool g, .slice p n c, .bool false, .slice q m d] 75)).alloc (Obj.cells #[.bool false, .slice none 0 0, .bool false, .slice none 0 0] 92)) = W at *
  have hbs := r0.lt
  replace h1 := h1.kept hw
  replace h2 := h2.kept hw
  replace ht := ht.kept hw
  have c_b0_0 := b0.cell (j := 0) rfl
  have f_b0_0 := b0.free 0
  have c_b0_1 := b0.cell (j := 1) rfl
  have f_b0_1 := b0.free 1
  have c_b0_2 := b0.cell (j := 2) rfl
  have f_b0_2 := b0.free 2
  have c_b0_3 := b0.cell (j := 3) rfl
  have f_b0_3 := b0.free 3
  have c_r0_0 := r0.cell (j := 0) rfl
  have f_r0_0 := r0.free 0
  have c_r0_1 := r0.cell (j := 1) rfl
  have f_r0_1 := r0.free 1
  have c_r0_2 := r0.cell (j := 2) rfl
  have f_r0_2 := r0.free 2
  have c_r0_3 := r0.cell (j := 3) rfl
  have f_r0_3 := r0.free 3
  go_wp2_with fail
  clear c_b0_0 f_b0_0 c_b0_1 f_b0_1 c_b0_2 f_b0_2 c_b0_3 f_b0_3 c_r0_0 f_r0_0 c_r0_1 f_r0_1 c_r0_2 f_r0_2 c_r0_3 f_r0_3
  refine (isign_any g _ _ _ xs _ h1 (by omega)).mono ?_
  rw [HS.out]
  rintro e V1 ⟨rfl, ff⟩
  have hsz1 := ff.size
  replace hw := hw.trans ff (by simp)
  replace h1 := h1.kept ff
  replace h2 := h2.kept ff
  replace b0 := b0.kept ff
  replace r0 := r0.kept ff
  replace ht := ht.kept ff
  clear ff
  have c_b0_0 := b0.cell (j := 0) rfl
  have f_b0_0 := b0.free 0
  have c_b0_1 := b0.cell (j := 1) rfl
  have f_b0_1 := b0.free 1
  have c_b0_2 := b0.cell (j := 2) rfl
  have f_b0_2 := b0.free 2
  have c_b0_3 := b0.cell (j := 3) rfl
  have f_b0_3 := b0.free 3
  have c_r0_0 := r0.cell (j := 0) rfl
  have f_r0_0 := r0.free 0
  have c_r0_1 := r0.cell (j := 1) rfl
  have f_r0_1 := r0.free 1
  have c_r0_2 := r0.cell (j := 2) rfl
  have f_r0_2 := r0.free 2
  have c_r0_3 := r0.cell (j := 3) rfl
  have f_r0_3 := r0.free 3
  go_wp2_with fail
  clear c_b0_0 f_b0_0 c_b0_1 f_b0_1 c_b0_2 f_b0_2 c_b0_3 f_b0_3 c_r0_0 f_r0_0 c_r0_1 f_r0_1 c_r0_2 f_r0_2 c_r0_3 f_r0_3
  refine (of_zero _).mono ?_
  rintro e V2 ⟨pa, ca, rfl, oa, ff⟩
  have hsz2 := ff.size
  replace hw := hw.trans ff (by simp)
  replace h1 := h1.kept ff
  replace h2 := h2.kept ff
  replace b0 := b0.kept ff
  replace r0 := r0.kept ff
  replace ht := ht.kept ff
  clear ff
  have c_b0_0 := b0.cell (j := 0) rfl
  have f_b0_0 := b0.free 0
  have c_b0_1 := b0.cell (j := 1) rfl
  have f_b0_1 := b0.free 1
  have c_b0_2 := b0.cell (j := 2) rfl
  have f_b0_2 := b0.free 2
  have c_b0_3 := b0.cell (j := 3) rfl
  have f_b0_3 := b0.free 3
  have c_r0_0 := r0.cell (j := 0) rfl
  have f_r0_0 := r0.free 0
  have c_r0_1 := r0.cell (j := 1) rfl
  have f_r0_1 := r0.free 1
  have c_r0_2 := r0.cell (j := 2) rfl
  have f_r0_2 := r0.free 2
  have c_r0_3 := r0.cell (j := 3) rfl
  have f_r0_3 := r0.free 3
  go_wp2_with fail
  clear c_b0_0 f_b0_0 c_b0_1 f_b0_1 c_b0_2 f_b0_2 c_b0_3 f_b0_3 c_r0_0 f_r0_0 c_r0_1 f_r0_1 c_r0_2 f_r0_2 c_r0_3 f_r0_3
  refine (whole_any _ _ _ _ _).mono ?_
  rintro e V3 ⟨pb, cb, rfl, ob, ff⟩
  have hsz3 := ff.size
  replace hw := hw.trans ff (by simp)
  replace h1 := h1.kept ff
  replace h2 := h2.kept ff
  replace oa := oa.kept ff
  replace b0 := b0.kept ff
  replace r0 := r0.kept ff
  replace ht := ht.kept ff
  clear ff
  have c_b0_0 := b0.cell (j := 0) rfl
  have f_b0_0 := b0.free 0
  have c_b0_1 := b0.cell (j := 1) rfl
  have f_b0_1 := b0.free 1
  have c_b0_2 := b0.cell (j := 2) rfl
  have f_b0_2 := b0.free 2
  have c_b0_3 := b0.cell (j := 3) rfl
  have f_b0_3 := b0.free 3
  have c_r0_0 := r0.cell (j := 0) rfl
  have f_r0_0 := r0.free 0
  have c_r0_1 := r0.cell (j := 1) rfl
  have f_r0_1 := r0.free 1
  have c_r0_2 := r0.cell (j := 2) rfl
  have f_r0_2 := r0.free 2
  have c_r0_3 := r0.cell (j := 3) rfl
  have f_r0_3 := r0.free 3
  go_wp2_with fail
  exact fin4 (V := fw false pa 0 ca false pb 1 cb) r0 hw (by omega) rfl (fun W' c0 c1 c2 c3 => by simp [results, Tryz.results120, go_sem, c0, c1, c2, c3]) (fun W' fb fw => retl_of (g := false) (a := 0) (b := 1) (by decide) rfl rfl (by rw [dg_zero, dg_one]; exact ⟨pa, ca, pb, cb, rfl, (oa.far fb (by omega)).mono (by omega), (ob.far fb (by omega)).mono (by omega), fw⟩))

set_option maxRecDepth 100000 in
set_option maxHeartbeats 1000000 in
theorem reduce_bin (g : Bool) (p q : Option Addr) (n c m d : Nat) (xs ys : List Nat) (w : World) (ht : Tab w) (h1 : Sl w p n c xs) (h2 : Sl w q m d ys) (_hn : n ≤ 524287) (_hm : m ≤ 524287) (hy : val ys ≠ 0) (hx : val xs ≠ 0) (hb : val ys = 2 ^ tz (val ys)) :
    Calls Tryz.prog 120 #[fw g p n c false q m d] w (RetL w (mkRat (iv g (val xs)) (val ys))) := by
  obtain ⟨k, hk⟩ : ∃ k, k = min (tz (val xs)) (tz (val ys)) := ⟨_, rfl⟩
  have hg : Nat.gcd (val xs) (val ys) = 2 ^ k := by
    have e := gcd_two (z := val xs) (k := tz (val ys)) hx
    rw [← hb, ← hk] at e
    exact e
  obtain ⟨ha, hbb⟩ := mk_abs g (a := val xs) hy
  rw [hg] at ha hbb
  have hsg := mk_sign g hx hy
  have hs := sign_ne g hx
  have hbin := bin_yes hb
  have hkb : k < 32 * n := by
    have h3 := val_lt h1.dig
    rw [h1.len, pB_two] at h3
    have := (Nat.pow_lt_pow_iff_right (a := 2) (by decide)).1 (Nat.lt_of_le_of_lt (tz_le hx) h3)
    omega
  have HMIN : Hid (min (tz (val xs) : Int) (tz (val ys) : Int) = (k : Int)) := by show _ = _; omega
  have HA := Lib.hid ha
  have HB := Lib.hid hbb
  have HSG := Lib.hid hsg
  have HS := Lib.hid hs
  have HBN := Lib.hid hbin
  have HX := Lib.hid hx
  have HY := Lib.hid hy
  clear hg hk ha hbb hsg hs hbin hx hy hb
  go_enter Tryz.func120, Tryz.ntmps120
  go_wp2_with fail
  have g_h1 := h1
  have g_h2 := h2
  have hw : Fr [] w ((w.alloc (Obj.cells #[.bool g, .slice p n c, .bool false, .slice q m d] 75)).alloc (Obj.cells #[.bool false, .slice none 0 0, .bool false, .slice none 0 0] 92)) := ((Fr.refl _ _).alloc _).alloc _
  have b0 : Bx ((w.alloc (Obj.cells #[.bool g, .slice p n c, .bool false, .slice q m d] 75)).alloc (Obj.cells #[.bool false, .slice none 0 0, .bool false, .slice none 0 0] 92)) w.heap.size 75 #[.bool g, .slice p n c, .bool false, .slice q m d] := (Bx.made' (by simp) _ _).kept ((Fr.refl _ _).alloc _)
  have r0 : Bx ((w.alloc (Obj.cells #[.bool g, .slice p n c, .bool false, .slice q m d] 75)).alloc (Obj.cells #[.bool false, .slice none 0 0, .bool false, .slice none 0 0] 92)) (w.heap.size + 1) 92 #[.bool false, .slice none 0 0, .bool false, .slice none 0 0] := (Bx.made' (by simp) _ _).kept (Fr.refl _ _)
  generalize ((w.alloc (Obj.cells #[.bool g, .slice p n c, .bool false, .slice q m d] 75)).alloc (Obj.cells #[.bool false, .slice none 0 0, .bool false, .slice none 0 0] 92)) = W at *
  have hbs := r0.lt
  replace h1 := h1.kept hw
  replace h2 := h2.kept hw
  replace ht := ht.kept hw
  obtain ⟨sg, hsgn⟩ : ∃ z, (iv g (val xs)).sign = z := ⟨_, rfl⟩
  have hsb := HS.out
  rw [hsgn] at hsb
  have HSN := Lib.hid hsgn
  clear hsgn
  have c_b0_0 := b0.cell (j := 0) rfl
  have f_b0_0 := b0.free 0
  have c_b0_1 := b0.cell (j := 1) rfl
  have f_b0_1 := b0.free 1
  have c_b0_2 := b0.cell (j := 2) rfl
  have f_b0_2 := b0.free 2
  have c_b0_3 := b0.cell (j := 3) rfl
  have f_b0_3 := b0.free 3
  have c_r0_0 := r0.cell (j := 0) rfl
  have f_r0_0 := r0.free 0
  have c_r0_1 := r0.cell (j := 1) rfl
  have f_r0_1 := r0.free 1
  have c_r0_2 := r0.cell (j := 2) rfl
  have f_r0_2 := r0.free 2
  have c_r0_3 := r0.cell (j := 3) rfl
  have f_r0_3 := r0.free 3
  go_wp2_with fail
  clear c_b0_0 f_b0_0 c_b0_1 f_b0_1 c_b0_2 f_b0_2 c_b0_3 f_b0_3 c_r0_0 f_r0_0 c_r0_1 f_r0_1 c_r0_2 f_r0_2 c_r0_3 f_r0_3
  refine (isign_any g _ _ _ xs _ h1 (by omega)).mono ?_
  rw [HSN.out]
  rintro e V1 ⟨rfl, ff⟩
  have hsz1 := ff.size
  replace hw := hw.trans ff (by simp)
  replace h1 := h1.kept ff
  replace h2 := h2.kept ff
  replace b0 := b0.kept ff
  replace r0 := r0.kept ff
  replace ht := ht.kept ff
  clear ff
  have c_b0_0 := b0.cell (j := 0) rfl
  have f_b0_0 := b0.free 0
  have c_b0_1 := b0.cell (j := 1) rfl
  have f_b0_1 := b0.free 1
  have c_b0_2 := b0.cell (j := 2) rfl
  have f_b0_2 := b0.free 2
  have c_b0_3 := b0.cell (j := 3) rfl
  have f_b0_3 := b0.free 3
  have c_r0_0 := r0.cell (j := 0) rfl
  have f_r0_0 := r0.free 0
  have c_r0_1 := r0.cell (j := 1) rfl
  have f_r0_1 := r0.free 1
  have c_r0_2 := r0.cell (j := 2) rfl
  have f_r0_2 := r0.free 2
  have c_r0_3 := r0.cell (j := 3) rfl
  have f_r0_3 := r0.free 3
  go_wp2_with fail
  clear c_b0_0 f_b0_0 c_b0_1 f_b0_1 c_b0_2 f_b0_2 c_b0_3 f_b0_3 c_r0_0 f_r0_0 c_r0_1 f_r0_1 c_r0_2 f_r0_2 c_r0_3 f_r0_3
  refine (isbin_any g false _ _ _ _ _ _ ys _ ht h2 (by omega) HY.out).mono ?_
  rw [HBN.out]
  rintro e V2 ⟨rfl, ff⟩
  have hsz2 := ff.size
  replace hw := hw.trans ff (by simp)
  replace h1 := h1.kept ff
  replace h2 := h2.kept ff
  replace b0 := b0.kept ff
  replace r0 := r0.kept ff
  replace ht := ht.kept ff
  clear ff
  have c_b0_0 := b0.cell (j := 0) rfl
  have f_b0_0 := b0.free 0
  have c_b0_1 := b0.cell (j := 1) rfl
  have f_b0_1 := b0.free 1
  have c_b0_2 := b0.cell (j := 2) rfl
  have f_b0_2 := b0.free 2
  have c_b0_3 := b0.cell (j := 3) rfl
  have f_b0_3 := b0.free 3
  have c_r0_0 := r0.cell (j := 0) rfl
  have f_r0_0 := r0.free 0
  have c_r0_1 := r0.cell (j := 1) rfl
  have f_r0_1 := r0.free 1
  have c_r0_2 := r0.cell (j := 2) rfl
  have f_r0_2 := r0.free 2
  have c_r0_3 := r0.cell (j := 3) rfl
  have f_r0_3 := r0.free 3
  go_wp2_with fail
  clear c_b0_0 f_b0_0 c_b0_1 f_b0_1 c_b0_2 f_b0_2 c_b0_3 f_b0_3 c_r0_0 f_r0_0 c_r0_1 f_r0_1 c_r0_2 f_r0_2 c_r0_3 f_r0_3
  have Hw := hw.drew
  have hu0 := ((Fr.refl [] V2).drew).size
  have Nh1 := h1.kept (Fr.refl [] V2).drew
  have Nh2 := h2.kept (Fr.refl [] V2).drew
  have Nb0 := b0.kept (Fr.refl [] V2).drew
  have Nr0 := r0.kept (Fr.refl [] V2).drew
  have Nht := ht.kept (Fr.refl [] V2).drew
  go_region_held3 (fun w' => w'.cell? ⟨w.heap.size, 0, none⟩ = some (.bool g) ∧ w'.cell? ⟨w.heap.size, 1, none⟩ = some (.slice p n c) ∧ w'.cell? ⟨w.heap.size, 2, none⟩ = some (.bool false) ∧ w'.cell? ⟨w.heap.size, 3, none⟩ = some (.slice q m d)) (first | exact ⟨Nb0.cell (j := 0) rfl, Nb0.cell (j := 1) rfl, Nb0.cell (j := 2) rfl, Nb0.cell (j := 3) rfl⟩ | exact ⟨(Nb0.kept (Fr.new _)).cell (j := 0) rfl, (Nb0.kept (Fr.new _)).cell (j := 1) rfl, (Nb0.kept (Fr.new _)).cell (j := 2) rfl, (Nb0.kept (Fr.new _)).cell (j := 3) rfl⟩)
    (first
    | (go_at_call 171; (with_reducible refine (zeros_any g _ _ _ xs _ Nht Nh1 (by omega) HX.out).mono ?_); rintro e U1 ⟨rfl, ff⟩; have hu1 := ff.size; replace Hw := Hw.trans ff (by simp); replace Nh1 := Nh1.kept ff; replace Nh2 := Nh2.kept ff; replace Nb0 := Nb0.kept ff; replace Nr0 := Nr0.kept ff; replace Nht := Nht.kept ff; clear ff)
    | (go_at_call 171; (with_reducible refine (zeros_any false _ _ _ ys _ Nht Nh2 (by omega) HY.out).mono ?_); rintro e U2 ⟨rfl, ff⟩; have hu2 := ff.size; replace Hw := Hw.trans ff (by simp); replace Nh1 := Nh1.kept ff; replace Nh2 := Nh2.kept ff; replace Nb0 := Nb0.kept ff; replace Nr0 := Nr0.kept ff; replace Nht := Nht.kept ff; clear ff; have m_b0_0 := Nb0.cell (j := 0) rfl; have q_b0_0 := Nb0.free 0; have m_b0_1 := Nb0.cell (j := 1) rfl; have q_b0_1 := Nb0.free 1; have m_b0_2 := Nb0.cell (j := 2) rfl; have q_b0_2 := Nb0.free 2; have m_b0_3 := Nb0.cell (j := 3) rfl; have q_b0_3 := Nb0.free 3; have m_r0_0 := Nr0.cell (j := 0) rfl; have q_r0_0 := Nr0.free 0; have m_r0_1 := Nr0.cell (j := 1) rfl; have q_r0_1 := Nr0.free 1; have m_r0_2 := Nr0.cell (j := 2) rfl; have q_r0_2 := Nr0.free 2; have m_r0_3 := Nr0.cell (j := 3) rfl; have q_r0_3 := Nr0.free 3))
  clear m_b0_0 q_b0_0 m_b0_1 q_b0_1 m_b0_2 q_b0_2 m_b0_3 q_b0_3 m_r0_0 q_r0_0 m_r0_1 q_r0_1 m_r0_2 q_r0_2 m_r0_3 q_r0_3
  replace hw := Hw
  clear Hw
  replace h1 := Nh1
  clear Nh1
  replace h2 := Nh2
  clear Nh2
  replace b0 := Nb0
  clear Nb0
  replace r0 := Nr0
  clear Nr0
  replace ht := Nht
  clear Nht
  rw [HMIN.out]
  have c_b0_0 := b0.cell (j := 0) rfl
  have f_b0_0 := b0.free 0
  have c_b0_1 := b0.cell (j := 1) rfl
  have f_b0_1 := b0.free 1
  have c_b0_2 := b0.cell (j := 2) rfl
  have f_b0_2 := b0.free 2
  have c_b0_3 := b0.cell (j := 3) rfl
  have f_b0_3 := b0.free 3
  have c_r0_0 := r0.cell (j := 0) rfl
  have f_r0_0 := r0.free 0
  have c_r0_1 := r0.cell (j := 1) rfl
  have f_r0_1 := r0.free 1
  have c_r0_2 := r0.cell (j := 2) rfl
  have f_r0_2 := r0.free 2
  have c_r0_3 := r0.cell (j := 3) rfl
  have f_r0_3 := r0.free 3
  go_wp2_with fail
  clear c_b0_0 f_b0_0 c_b0_1 f_b0_1 c_b0_2 f_b0_2 c_b0_3 f_b0_3 c_r0_0 f_r0_0 c_r0_1 f_r0_1 c_r0_2 f_r0_2 c_r0_3 f_r0_3
  have Hw := hw.drew
  have hu0 := ((Fr.refl [] U2).drew).size
  have Nh1 := h1.kept (Fr.refl [] U2).drew
  have Nh2 := h2.kept (Fr.refl [] U2).drew
  have Nb0 := b0.kept (Fr.refl [] U2).drew
  have Nr0 := r0.kept (Fr.refl [] U2).drew
  have Nht := ht.kept (Fr.refl [] U2).drew
  go_region_held3 (fun w' => w'.cell? ⟨w.heap.size, 0, none⟩ = some (.bool g) ∧ w'.cell? ⟨w.heap.size, 1, none⟩ = some (.slice p n c) ∧ w'.cell? ⟨w.heap.size, 2, none⟩ = some (.bool false) ∧ w'.cell? ⟨w.heap.size, 3, none⟩ = some (.slice q m d)) (first | exact ⟨Nb0.cell (j := 0) rfl, Nb0.cell (j := 1) rfl, Nb0.cell (j := 2) rfl, Nb0.cell (j := 3) rfl⟩ | exact ⟨(Nb0.keep (S := [(w.heap.size + 1)]) (bset4_fr _ (w.heap.size + 1) _ _ _ _) (by simp; try omega)).cell (j := 0) rfl, (Nb0.keep (S := [(w.heap.size + 1)]) (bset4_fr _ (w.heap.size + 1) _ _ _ _) (by simp; try omega)).cell (j := 1) rfl, (Nb0.keep (S := [(w.heap.size + 1)]) (bset4_fr _ (w.heap.size + 1) _ _ _ _) (by simp; try omega)).cell (j := 2) rfl, (Nb0.keep (S := [(w.heap.size + 1)]) (bset4_fr _ (w.heap.size + 1) _ _ _ _) (by simp; try omega)).cell (j := 3) rfl⟩)
    (first
    | (go_at_call 172; (with_reducible refine (lower_rat g _ _ _ k xs _ Nh1 (by omega) (by omega)).mono ?_); rintro e U1 ⟨pa, ca, rfl, oa, ff⟩; have hu1 := ff.size; replace Hw := Hw.trans ff (by simp); replace Nh1 := Nh1.kept ff; replace Nh2 := Nh2.kept ff; replace Nb0 := Nb0.kept ff; replace Nr0 := Nr0.kept ff; replace Nht := Nht.kept ff; clear ff)
    | (go_at_call 172; (with_reducible refine (lower_rat false _ _ _ k ys _ Nh2 (by omega) (by omega)).mono ?_); rintro e U2 ⟨pb, cb, rfl, ob, ff⟩; have hu2 := ff.size; replace Hw := Hw.trans ff (by simp); replace Nh1 := Nh1.kept ff; replace Nh2 := Nh2.kept ff; replace Nb0 := Nb0.kept ff; replace Nr0 := Nr0.kept ff; replace Nht := Nht.kept ff; replace oa := oa.kept ff; clear ff; have m_b0_0 := Nb0.cell (j := 0) rfl; have q_b0_0 := Nb0.free 0; have m_b0_1 := Nb0.cell (j := 1) rfl; have q_b0_1 := Nb0.free 1; have m_b0_2 := Nb0.cell (j := 2) rfl; have q_b0_2 := Nb0.free 2; have m_b0_3 := Nb0.cell (j := 3) rfl; have q_b0_3 := Nb0.free 3; have m_r0_0 := Nr0.cell (j := 0) rfl; have q_r0_0 := Nr0.free 0; have m_r0_1 := Nr0.cell (j := 1) rfl; have q_r0_1 := Nr0.free 1; have m_r0_2 := Nr0.cell (j := 2) rfl; have q_r0_2 := Nr0.free 2; have m_r0_3 := Nr0.cell (j := 3) rfl; have q_r0_3 := Nr0.free 3))
  go_wp2_with fail
  exact fin4 Nr0 Hw (by omega) rfl (fun W' c0 c1 c2 c3 => by simp [results, Tryz.results120, go_sem, c0, c1, c2, c3]) (fun W' fb fw => retl_of HSG.out HA.out HB.out ⟨pa, ca, pb, cb, rfl, (oa.far fb (by omega)).mono (by omega), (ob.far fb (by omega)).mono (by omega), fw⟩)

set_option maxRecDepth 100000 in
set_option maxHeartbeats 1000000 in
theorem reduce_gcd (g : Bool) (p q : Option Addr) (n c m d : Nat) (xs ys : List Nat) (w : World) (ht : Tab w) (h1 : Sl w p n c xs) (h2 : Sl w q m d ys) (_hn : n ≤ 524287) (_hm : m ≤ 524287) (hy : val ys ≠ 0) (hx : val xs ≠ 0) (hb : val ys ≠ 2 ^ tz (val ys)) :
    Calls Tryz.prog 120 #[fw g p n c false q m d] w (RetL w (mkRat (iv g (val xs)) (val ys))) := by
  obtain ⟨G, hG⟩ : ∃ G, G = Nat.gcd (val xs) (val ys) := ⟨_, rfl⟩
  have hG0 : G ≠ 0 := by rw [hG]; exact gcd_ne hy
  have d1 : G ∣ val xs := by rw [hG]; exact Nat.gcd_dvd_left _ _
  have d2 : G ∣ val ys := by rw [hG]; exact Nat.gcd_dvd_right _ _
  obtain ⟨ha, hbb⟩ := mk_abs g (a := val xs) hy
  rw [← hG] at ha hbb
  have hsg := mk_sign g hx hy
  have hs := sign_ne g hx
  have hbin := bin_no hy hb
  have l1 := dg_len_val h1.dig
  rw [h1.len] at l1
  have l2 := dg_len_val h2.dig
  rw [h2.len] at l2
  have lG : (dg G).length ≤ m := Nat.le_trans (dg_len_mono (Nat.le_of_dvd (Nat.pos_of_ne_zero hy) d2)) l2
  have q0 : val xs / G ≠ 0 := fun e => hx (by have := Nat.div_mul_cancel d1; rw [e, Nat.zero_mul] at this; exact this.symm)
  have z1 : iv g (val xs) / iv false (val (dg G)) = iv g (val xs / G) := by rw [val_dg]; exact iv_div g d1 hG0
  have z2 : iv false (val ys) / iv false (val (dg G)) = iv false (val ys / G) := by rw [val_dg]; exact iv_div false d2 hG0
  have r1 : iv g (val xs) % iv false (val (dg G)) = 0 := by
    rw [val_dg]; exact Int.emod_eq_zero_of_dvd (by obtain ⟨b, hb2⟩ := d1; rw [hb2]; cases g <;> simp [iv])
  have r2 : iv false (val ys) % iv false (val (dg G)) = 0 := by
    rw [val_dg]; exact Int.emod_eq_zero_of_dvd (by obtain ⟨b, hb2⟩ := d2; rw [hb2]; simp [iv])
  have D1 : Hid (decide (iv g (val xs) / iv false (val (dg G)) < 0) = g) := by show _ = _; rw [z1, iv_lt, decide_eq_true (Nat.pos_of_ne_zero q0), Bool.and_true]
  have D2 : Hid ((iv g (val xs) / iv false (val (dg G))).natAbs = val xs / G) := by show _ = _; rw [z1, iv_abs]
  have D3 : Hid (decide (iv g (val xs) % iv false (val (dg G)) < 0) = false) := by show _ = _; rw [r1]; rfl
  have D4 : Hid ((iv g (val xs) % iv false (val (dg G))).natAbs = 0) := by show _ = _; rw [r1]; rfl
  have E1 : Hid (decide (iv false (val ys) / iv false (val (dg G)) < 0) = false) := by show _ = _; rw [z2, iv_lt]; rfl
  have E2 : Hid ((iv false (val ys) / iv false (val (dg G))).natAbs = val ys / G) := by show _ = _; rw [z2, iv_abs]
  have E3 : Hid (decide (iv false (val ys) % iv false (val (dg G)) < 0) = false) := by show _ = _; rw [r2]; rfl
  have E4 : Hid ((iv false (val ys) % iv false (val (dg G))).natAbs = 0) := by show _ = _; rw [r2]; rfl
  have GV : Hid (val (dg G) ≠ 0) := by show _ ≠ _; rw [val_dg]; exact hG0
  have HG1 : Hid (decide (((Nat.gcd (val xs) (val ys) : Nat) : Int) < 0) = false) := decide_eq_false (by omega)
  have HG2 : Hid (((Nat.gcd (val xs) (val ys) : Nat) : Int).natAbs = G) := by show _ = _; rw [Int.natAbs_natCast, hG]
  have HA := Lib.hid ha
  have HB := Lib.hid hbb
  have HSG := Lib.hid hsg
  have HS := Lib.hid hs
  have HBN := Lib.hid hbin
  have HX := Lib.hid hx
  have HY := Lib.hid hy
  clear hG hG0 d1 d2 ha hbb hsg hs hbin hx hy hb q0 z1 z2 r1 r2
  go_enter Tryz.func120, Tryz.ntmps120
  go_wp2_with fail
  have g_h1 := h1
  have g_h2 := h2
  have hw : Fr [] w ((w.alloc (Obj.cells #[.bool g, .slice p n c, .bool false, .slice q m d] 75)).alloc (Obj.cells #[.bool false, .slice none 0 0, .bool false, .slice none 0 0] 92)) := ((Fr.refl _ _).alloc _).alloc _
  have b0 : Bx ((w.alloc (Obj.cells #[.bool g, .slice p n c, .bool false, .slice q m d] 75)).alloc (Obj.cells #[.bool false, .slice none 0 0, .bool false, .slice none 0 0] 92)) w.heap.size 75 #[.bool g, .slice p n c, .bool false, .slice q m d] := (Bx.made' (by simp) _ _).kept ((Fr.refl _ _).alloc _)
  have r0 : Bx ((w.alloc (Obj.cells #[.bool g, .slice p n c, .bool false, .slice q m d] 75)).alloc (Obj.cells #[.bool false, .slice none 0 0, .bool false, .slice none 0 0] 92)) (w.heap.size + 1) 92 #[.bool false, .slice none 0 0, .bool false, .slice none 0 0] := (Bx.made' (by simp) _ _).kept (Fr.refl _ _)
  generalize ((w.alloc (Obj.cells #[.bool g, .slice p n c, .bool false, .slice q m d] 75)).alloc (Obj.cells #[.bool false, .slice none 0 0, .bool false, .slice none 0 0] 92)) = W at *
  have hbs := r0.lt
  replace h1 := h1.kept hw
  replace h2 := h2.kept hw
  replace ht := ht.kept hw
  obtain ⟨sg, hsgn⟩ : ∃ z, (iv g (val xs)).sign = z := ⟨_, rfl⟩
  have hsb := HS.out
  rw [hsgn] at hsb
  have HSN := Lib.hid hsgn
  clear hsgn
  have c_b0_0 := b0.cell (j := 0) rfl
  have f_b0_0 := b0.free 0
  have c_b0_1 := b0.cell (j := 1) rfl
  have f_b0_1 := b0.free 1
  have c_b0_2 := b0.cell (j := 2) rfl
  have f_b0_2 := b0.free 2
  have c_b0_3 := b0.cell (j := 3) rfl
  have f_b0_3 := b0.free 3
  have c_r0_0 := r0.cell (j := 0) rfl
  have f_r0_0 := r0.free 0
  have c_r0_1 := r0.cell (j := 1) rfl
  have f_r0_1 := r0.free 1
  have c_r0_2 := r0.cell (j := 2) rfl
  have f_r0_2 := r0.free 2
  have c_r0_3 := r0.cell (j := 3) rfl
  have f_r0_3 := r0.free 3
  go_wp2_with fail
  clear c_b0_0 f_b0_0 c_b0_1 f_b0_1 c_b0_2 f_b0_2 c_b0_3 f_b0_3 c_r0_0 f_r0_0 c_r0_1 f_r0_1 c_r0_2 f_r0_2 c_r0_3 f_r0_3
  refine (isign_any g _ _ _ xs _ h1 (by omega)).mono ?_
  rw [HSN.out]
  rintro e V1 ⟨rfl, ff⟩
  have hsz1 := ff.size
  replace hw := hw.trans ff (by simp)
  replace h1 := h1.kept ff
  replace h2 := h2.kept ff
  replace b0 := b0.kept ff
  replace r0 := r0.kept ff
  replace ht := ht.kept ff
  clear ff
  have c_b0_0 := b0.cell (j := 0) rfl
  have f_b0_0 := b0.free 0
  have c_b0_1 := b0.cell (j := 1) rfl
  have f_b0_1 := b0.free 1
  have c_b0_2 := b0.cell (j := 2) rfl
  have f_b0_2 := b0.free 2
  have c_b0_3 := b0.cell (j := 3) rfl
  have f_b0_3 := b0.free 3
  have c_r0_0 := r0.cell (j := 0) rfl
  have f_r0_0 := r0.free 0
  have c_r0_1 := r0.cell (j := 1) rfl
  have f_r0_1 := r0.free 1
  have c_r0_2 := r0.cell (j := 2) rfl
  have f_r0_2 := r0.free 2
  have c_r0_3 := r0.cell (j := 3) rfl
  have f_r0_3 := r0.free 3
  go_wp2_with fail
  clear c_b0_0 f_b0_0 c_b0_1 f_b0_1 c_b0_2 f_b0_2 c_b0_3 f_b0_3 c_r0_0 f_r0_0 c_r0_1 f_r0_1 c_r0_2 f_r0_2 c_r0_3 f_r0_3
  refine (isbin_any g false _ _ _ _ _ _ ys _ ht h2 (by omega) HY.out).mono ?_
  rw [HBN.out]
  rintro e V2 ⟨rfl, ff⟩
  have hsz2 := ff.size
  replace hw := hw.trans ff (by simp)
  replace h1 := h1.kept ff
  replace h2 := h2.kept ff
  replace b0 := b0.kept ff
  replace r0 := r0.kept ff
  replace ht := ht.kept ff
  clear ff
  have c_b0_0 := b0.cell (j := 0) rfl
  have f_b0_0 := b0.free 0
  have c_b0_1 := b0.cell (j := 1) rfl
  have f_b0_1 := b0.free 1
  have c_b0_2 := b0.cell (j := 2) rfl
  have f_b0_2 := b0.free 2
  have c_b0_3 := b0.cell (j := 3) rfl
  have f_b0_3 := b0.free 3
  have c_r0_0 := r0.cell (j := 0) rfl
  have f_r0_0 := r0.free 0
  have c_r0_1 := r0.cell (j := 1) rfl
  have f_r0_1 := r0.free 1
  have c_r0_2 := r0.cell (j := 2) rfl
  have f_r0_2 := r0.free 2
  have c_r0_3 := r0.cell (j := 3) rfl
  have f_r0_3 := r0.free 3
  go_wp2_with fail
  clear c_b0_0 f_b0_0 c_b0_1 f_b0_1 c_b0_2 f_b0_2 c_b0_3 f_b0_3 c_r0_0 f_r0_0 c_r0_1 f_r0_1 c_r0_2 f_r0_2 c_r0_3 f_r0_3
  refine (calls_ri (b := false) (m := G) (igcd_any g false _ _ _ _ _ _ xs ys _ h1 h2 (by omega) (by omega)) HG1.out HG2.out).mono ?_
  rintro e V3 ⟨p4, c4, rfl, o4, ff⟩
  have hsz3 := ff.size
  replace hw := hw.trans ff (by simp)
  replace h1 := h1.kept ff
  replace h2 := h2.kept ff
  replace b0 := b0.kept ff
  replace r0 := r0.kept ff
  replace ht := ht.kept ff
  clear ff
  have hal : Fr [] V3 (V3.alloc (Obj.cells #[.bool false, .slice p4 (dg G).length c4] 24)) := (Fr.refl _ _).alloc _
  have c_b0_0 := (b0.kept hal).cell (j := 0) rfl
  have f_b0_0 := (b0.kept hal).free 0
  have c_b0_1 := (b0.kept hal).cell (j := 1) rfl
  have f_b0_1 := (b0.kept hal).free 1
  have c_b0_2 := (b0.kept hal).cell (j := 2) rfl
  have f_b0_2 := (b0.kept hal).free 2
  have c_b0_3 := (b0.kept hal).cell (j := 3) rfl
  have f_b0_3 := (b0.kept hal).free 3
  have c_r0_0 := (r0.kept hal).cell (j := 0) rfl
  have f_r0_0 := (r0.kept hal).free 0
  have c_r0_1 := (r0.kept hal).cell (j := 1) rfl
  have f_r0_1 := (r0.kept hal).free 1
  have c_r0_2 := (r0.kept hal).cell (j := 2) rfl
  have f_r0_2 := (r0.kept hal).free 2
  have c_r0_3 := (r0.kept hal).cell (j := 3) rfl
  have f_r0_3 := (r0.kept hal).free 3
  have b4 : Bx (V3.alloc (Obj.cells #[.bool false, .slice p4 (dg G).length c4] 24)) V3.heap.size 24 #[.bool false, .slice p4 (dg G).length c4] := (Bx.made' (by simp) _ _).kept (Fr.refl _ _)
  have c_b4_0 := b4.cell (j := 0) rfl
  have c_b4_1 := b4.cell (j := 1) rfl
  go_wp2_with fail
  clear c_b0_0 f_b0_0 c_b0_1 f_b0_1 c_b0_2 f_b0_2 c_b0_3 f_b0_3 c_r0_0 f_r0_0 c_r0_1 f_r0_1 c_r0_2 f_r0_2 c_r0_3 f_r0_3 c_b4_0 c_b4_1
  replace hw := hw.trans hal (by simp)
  replace h1 := h1.kept hal
  replace h2 := h2.kept hal
  replace o4 := o4.kept hal
  replace b0 := b0.kept hal
  replace r0 := r0.kept hal
  replace ht := ht.kept hal
  have hsX4 := hal.size
  clear hal
  generalize (V3.alloc (Obj.cells #[.bool false, .slice p4 (dg G).length c4] 24)) = X4 at *
  refine (calls_rd (b := g) (m := val xs / G) (b' := false) (m' := 0) (idiv_any g false _ _ _ _ _ _ xs (dg G) _ h1 o4.sl (by omega) (by omega) GV.out) D1.out D2.out D3.out D4.out).mono ?_
  rintro e V5 ⟨p5, c5, p6, c6, rfl, o5, o6, ff⟩
  have hsz5 := ff.size
  replace hw := hw.trans ff (by simp)
  replace h1 := h1.kept ff
  replace h2 := h2.kept ff
  replace o4 := o4.kept ff
  replace b0 := b0.kept ff
  replace r0 := r0.kept ff
  replace b4 := b4.kept ff
  replace ht := ht.kept ff
  clear ff
  have hal : Fr [] V5 ((V5.alloc (Obj.cells #[.bool g, .slice p5 (dg (val xs / G)).length c5] 24)).alloc (Obj.cells #[.bool false, .slice p6 (dg 0).length c6] 24)) := ((Fr.refl _ _).alloc _).alloc _
  have c_b0_0 := (b0.kept hal).cell (j := 0) rfl
  have f_b0_0 := (b0.kept hal).free 0
  have c_b0_1 := (b0.kept hal).cell (j := 1) rfl
  have f_b0_1 := (b0.kept hal).free 1
  have c_b0_2 := (b0.kept hal).cell (j := 2) rfl
  have f_b0_2 := (b0.kept hal).free 2
  have c_b0_3 := (b0.kept hal).cell (j := 3) rfl
  have f_b0_3 := (b0.kept hal).free 3
  have c_r0_0 := (r0.kept hal).cell (j := 0) rfl
  have f_r0_0 := (r0.kept hal).free 0
  have c_r0_1 := (r0.kept hal).cell (j := 1) rfl
  have f_r0_1 := (r0.kept hal).free 1
  have c_r0_2 := (r0.kept hal).cell (j := 2) rfl
  have f_r0_2 := (r0.kept hal).free 2
  have c_r0_3 := (r0.kept hal).cell (j := 3) rfl
  have f_r0_3 := (r0.kept hal).free 3
  have c_b4_0 := (b4.kept hal).cell (j := 0) rfl
  have f_b4_0 := (b4.kept hal).free 0
  have c_b4_1 := (b4.kept hal).cell (j := 1) rfl
  have f_b4_1 := (b4.kept hal).free 1
  have b5 : Bx ((V5.alloc (Obj.cells #[.bool g, .slice p5 (dg (val xs / G)).length c5] 24)).alloc (Obj.cells #[.bool false, .slice p6 (dg 0).length c6] 24)) V5.heap.size 24 #[.bool g, .slice p5 (dg (val xs / G)).length c5] := (Bx.made' (by simp) _ _).kept ((Fr.refl _ _).alloc _)
  have c_b5_0 := b5.cell (j := 0) rfl
  have c_b5_1 := b5.cell (j := 1) rfl
  have b6 : Bx ((V5.alloc (Obj.cells #[.bool g, .slice p5 (dg (val xs / G)).length c5] 24)).alloc (Obj.cells #[.bool false, .slice p6 (dg 0).length c6] 24)) (V5.heap.size + 1) 24 #[.bool false, .slice p6 (dg 0).length c6] := (Bx.made' (by simp) _ _).kept (Fr.refl _ _)
  have c_b6_0 := b6.cell (j := 0) rfl
  have c_b6_1 := b6.cell (j := 1) rfl
  go_wp2_with fail
  clear c_b0_0 f_b0_0 c_b0_1 f_b0_1 c_b0_2 f_b0_2 c_b0_3 f_b0_3 c_r0_0 f_r0_0 c_r0_1 f_r0_1 c_r0_2 f_r0_2 c_r0_3 f_r0_3 c_b4_0 f_b4_0 c_b4_1 f_b4_1 c_b5_0 c_b5_1 c_b6_0 c_b6_1
  replace hw := hw.trans hal (by simp)
  replace h1 := h1.kept hal
  replace h2 := h2.kept hal
  replace o4 := o4.kept hal
  replace o5 := o5.kept hal
  replace o6 := o6.kept hal
  replace b0 := b0.kept hal
  replace r0 := r0.kept hal
  replace b4 := b4.kept hal
  replace ht := ht.kept hal
  have hsX6 := hal.size
  clear hal
  generalize ((V5.alloc (Obj.cells #[.bool g, .slice p5 (dg (val xs / G)).length c5] 24)).alloc (Obj.cells #[.bool false, .slice p6 (dg 0).length c6] 24)) = X6 at *
  refine (calls_rd (b := false) (m := val ys / G) (b' := false) (m' := 0) (idiv_any false false _ _ _ _ _ _ ys (dg G) _ h2 o4.sl (by omega) (by omega) GV.out) E1.out E2.out E3.out E4.out).mono ?_
  rintro e V7 ⟨p8, c8, p9, c9, rfl, o8, o9, ff⟩
  have hsz7 := ff.size
  replace hw := hw.trans ff (by simp)
  replace h1 := h1.kept ff
  replace h2 := h2.kept ff
  replace o4 := o4.kept ff
  replace o5 := o5.kept ff
  replace o6 := o6.kept ff
  replace b0 := b0.kept ff
  replace r0 := r0.kept ff
  replace b4 := b4.kept ff
  replace b5 := b5.kept ff
  replace b6 := b6.kept ff
  replace ht := ht.kept ff
  clear ff
  have hal : Fr [] V7 ((V7.alloc (Obj.cells #[.bool false, .slice p8 (dg (val ys / G)).length c8] 24)).alloc (Obj.cells #[.bool false, .slice p9 (dg 0).length c9] 24)) := ((Fr.refl _ _).alloc _).alloc _
  have c_b0_0 := (b0.kept hal).cell (j := 0) rfl
  have f_b0_0 := (b0.kept hal).free 0
  have c_b0_1 := (b0.kept hal).cell (j := 1) rfl
  have f_b0_1 := (b0.kept hal).free 1
  have c_b0_2 := (b0.kept hal).cell (j := 2) rfl
  have f_b0_2 := (b0.kept hal).free 2
  have c_b0_3 := (b0.kept hal).cell (j := 3) rfl
  have f_b0_3 := (b0.kept hal).free 3
  have c_r0_0 := (r0.kept hal).cell (j := 0) rfl
  have f_r0_0 := (r0.kept hal).free 0
  have c_r0_1 := (r0.kept hal).cell (j := 1) rfl
  have f_r0_1 := (r0.kept hal).free 1
  have c_r0_2 := (r0.kept hal).cell (j := 2) rfl
  have f_r0_2 := (r0.kept hal).free 2
  have c_r0_3 := (r0.kept hal).cell (j := 3) rfl
  have f_r0_3 := (r0.kept hal).free 3
  have c_b4_0 := (b4.kept hal).cell (j := 0) rfl
  have f_b4_0 := (b4.kept hal).free 0
  have c_b4_1 := (b4.kept hal).cell (j := 1) rfl
  have f_b4_1 := (b4.kept hal).free 1
  have c_b5_0 := (b5.kept hal).cell (j := 0) rfl
  have f_b5_0 := (b5.kept hal).free 0
  have c_b5_1 := (b5.kept hal).cell (j := 1) rfl
  have f_b5_1 := (b5.kept hal).free 1
  have c_b6_0 := (b6.kept hal).cell (j := 0) rfl
  have f_b6_0 := (b6.kept hal).free 0
  have c_b6_1 := (b6.kept hal).cell (j := 1) rfl
  have f_b6_1 := (b6.kept hal).free 1
  have b8 : Bx ((V7.alloc (Obj.cells #[.bool false, .slice p8 (dg (val ys / G)).length c8] 24)).alloc (Obj.cells #[.bool false, .slice p9 (dg 0).length c9] 24)) V7.heap.size 24 #[.bool false, .slice p8 (dg (val ys / G)).length c8] := (Bx.made' (by simp) _ _).kept ((Fr.refl _ _).alloc _)
  have c_b8_0 := b8.cell (j := 0) rfl
  have c_b8_1 := b8.cell (j := 1) rfl
  have b9 : Bx ((V7.alloc (Obj.cells #[.bool false, .slice p8 (dg (val ys / G)).length c8] 24)).alloc (Obj.cells #[.bool false, .slice p9 (dg 0).length c9] 24)) (V7.heap.size + 1) 24 #[.bool false, .slice p9 (dg 0).length c9] := (Bx.made' (by simp) _ _).kept (Fr.refl _ _)
  have c_b9_0 := b9.cell (j := 0) rfl
  have c_b9_1 := b9.cell (j := 1) rfl
  go_wp2_with fail
  clear c_b0_0 f_b0_0 c_b0_1 f_b0_1 c_b0_2 f_b0_2 c_b0_3 f_b0_3 c_r0_0 f_r0_0 c_r0_1 f_r0_1 c_r0_2 f_r0_2 c_r0_3 f_r0_3 c_b4_0 f_b4_0 c_b4_1 f_b4_1 c_b5_0 f_b5_0 c_b5_1 f_b5_1 c_b6_0 f_b6_0 c_b6_1 f_b6_1 c_b8_0 c_b8_1 c_b9_0 c_b9_1
  replace hw := hw.trans hal (by simp)
  replace h1 := h1.kept hal
  replace h2 := h2.kept hal
  replace o4 := o4.kept hal
  replace o5 := o5.kept hal
  replace o6 := o6.kept hal
  replace o8 := o8.kept hal
  replace o9 := o9.kept hal
  replace b0 := b0.kept hal
  replace r0 := r0.kept hal
  replace b4 := b4.kept hal
  replace b5 := b5.kept hal
  replace b6 := b6.kept hal
  replace ht := ht.kept hal
  have hsX8 := hal.size
  clear hal
  generalize ((V7.alloc (Obj.cells #[.bool false, .slice p8 (dg (val ys / G)).length c8] 24)).alloc (Obj.cells #[.bool false, .slice p9 (dg 0).length c9] 24)) = X8 at *
  exact fin4 r0 hw (by omega) rfl (fun W' c0 c1 c2 c3 => by simp [results, Tryz.results120, go_sem, c0, c1, c2, c3]) (fun W' fb fw => retl_of HSG.out HA.out HB.out ⟨p5, c5, p8, c8, rfl, (o5.far fb (by omega)).mono (by omega), (o8.far fb (by omega)).mono (by omega), fw⟩)

end Go.Proofs.YtagciepnhjbopaaGreatDoor

namespace Go.Proofs.YtagciepnhjbopaaGreatDoor
open Go.RowKit

theorem reduce_any (g : Bool) (p q : Option Addr) (n c m d : Nat) (xs ys : List Nat) (w : World) (ht : Tab w) (h1 : Sl w p n c xs) (h2 : Sl w q m d ys) (hn : n ≤ 524287) (hm : m ≤ 524287) (hy : val ys ≠ 0) :
    Calls Tryz.prog 120 #[fw g p n c false q m d] w (RetL w (mkRat (iv g (val xs)) (val ys))) := by
  by_cases hx : val xs = 0
  · exact reduce_zero g p q n c m d xs ys w ht h1 h2 hn hm hy hx
  · by_cases hb : val ys = 2 ^ tz (val ys)
    · exact reduce_bin g p q n c m d xs ys w ht h1 h2 hn hm hy hx hb
    · exact reduce_gcd g p q n c m d xs ys w ht h1 h2 hn hm hy hx hb

def rz (g : Bool) (a b : Nat) : Int := if b = 0 then 0 else iv g a

def rd (b : Nat) : Nat := if b = 0 then 1 else b

theorem rd_ne (b : Nat) : rd b ≠ 0 := by unfold rd; split <;> omega

theorem mk_read (g : Bool) (a b : Nat) : mkRat (rz g a b) (rd b) = mkRat (iv g a) b := by
  unfold rz rd
  split
  · next h => rw [h, Rat.mkRat_zero]; exact Rat.zero_mkRat 1
  · rfl

end Go.Proofs.YtagciepnhjbopaaGreatDoor

namespace Go.Proofs.YtagciepnhjbopaaGreatDoor
open Go.RowKit

theorem sign_of_mk {z : Int} {d : Nat} {r : Rat} (h : mkRat z d = r) (hd : d ≠ 0) : z.sign = r.num.sign := by
  have h1 := mk_neg_iff z hd
  have h2 := mk_zero_iff z hd
  rw [h] at h1 h2
  rw [decide_eq_decide] at h1
  rw [← Rat.num_eq_zero] at h2
  generalize r.num = k at *
  rcases Int.lt_trichotomy z 0 with c | c | c
  · rw [Int.sign_eq_neg_one_of_neg c, Int.sign_eq_neg_one_of_neg (h1.2 c)]
  · rw [c, h2.2 c]
  · have : 0 < k := by omega
    rw [Int.sign_eq_one_of_pos c, Int.sign_eq_one_of_pos this]

end Go.Proofs.YtagciepnhjbopaaGreatDoor
