/- What the statements of this claim stand on: of Q9, Q10, what they name -/
import Derived.Test.YtnokcaigpnejeaaGreatDoorM40

namespace Go.Proofs.YtnokcaigpnejeaaGreatDoor
open Go.RowKit En

theorem isame (a b : Int) : Cp 53 [.cz a, .cz b] (avB (decide (a = b))) := by
  by_cases h : decide (a < 0) = decide (b < 0)
  · rw [show decide (a = b) = decide (a.natAbs = b.natAbs) by
      rw [decide_eq_decide] at h ⊢
      omega]
    exact cp_of (wk leafs2_ok (ds := [none, none, none, some true]) (fuel := 40) (obs := [(decide (a < (0 : Int)) == decide (b < (0 : Int))) = true]) (r := AV.val false [Seg.lit (Value.bool (decide (Int.natAbs a = Int.natAbs b)))]) Tryz.func53 rfl (by kernel_rfl) ⟨by rw [h]; simp, trivial⟩)
  · rw [show decide (a = b) = false by
      rw [decide_eq_false_iff_not]
      intro e
      rw [e] at h
      exact h rfl]
    exact cp_of (wk leafs2_ok (ds := [none, none, none, some false]) (fuel := 40) (obs := [(decide (a < (0 : Int)) == decide (b < (0 : Int))) = false]) (r := AV.val false [Seg.lit (Value.bool false)]) Tryz.func53 rfl (by kernel_rfl) ⟨by simpa using h, trivial⟩)

abbrev k_isame : List Pa → Option (List Prop × Av)
  | [.cz a, .cz b] => some ([], avB (decide (a = b)))
  | _ => none

theorem e_isame (args : List Av) (obs : List Prop) (r : Av) : ent [.cz, .cz] k_isame args = some (obs, r) → (∀ p ∈ obs, p) → Cn 53 args r :=
  ent_ok (fun ps obs r h ho => by
    unfold k_isame at h
    split at h
    · cases h; exact isame _ _
    · cases h) args obs r

noncomputable def tT0 : List Ent := (53, ent [.cz, .cz] k_isame) :: leafs2

theorem tT0_ok : EntsOk tT0 := ⟨e_isame, leafs2_ok⟩

theorem rat_eq_iff (q s : Rat) : q = s ↔ q.num = s.num ∧ q.den = s.den := ⟨fun e => by rw [e]; exact ⟨rfl, rfl⟩, fun ⟨h1, h2⟩ => Rat.ext h1 h2⟩

theorem qsame (q s : Rat) : Cp 18 [.cq q, .cq s] (avB (decide (q = s))) := by
  by_cases h : q.num = s.num
  · rw [show decide (q = s) = decide (q.den = s.den) by rw [decide_eq_decide, rat_eq_iff]; exact ⟨fun h => h.2, fun h' => ⟨h, h'⟩⟩]
    exact cp_of (wk tT0_ok (ds := [none, some true]) (fuel := 40) (obs := [decide (Rat.num q = Rat.num s) = true]) (r := AV.val false [Seg.lit (Value.bool (decide (Rat.den q = Rat.den s)))]) Tryz.func18 rfl (by kernel_rfl) ⟨decide_eq_true h, trivial⟩)
  · rw [show decide (q = s) = false by rw [decide_eq_false_iff_not, rat_eq_iff]; exact fun h' => h h'.1]
    exact cp_of (wk tT0_ok (ds := [none, some false]) (fuel := 40) (obs := [decide (Rat.num q = Rat.num s) = false]) (r := AV.val false [Seg.lit (Value.bool false)]) Tryz.func18 rfl (by kernel_rfl) ⟨decide_eq_false h, trivial⟩)

theorem same00 : Cn 18 [.val true [.lit (.bool false), .lit (.slice none 0 0), .lit (.slice none 0 0)], .val true [.lit (.bool false), .lit (.slice none 0 0), .lit (.slice none 0 0)]] (avB true) :=
  (wk tT0_ok (ds := [none, some true, none, some true]) (fuel := 40) (obs := [decide ((↑0 : Int) = (↑0 : Int)) = true, decide (0 = 0) = true]) (r := AV.val false [Seg.lit (Value.bool true)]) Tryz.func18 rfl (by kernel_rfl) ⟨rfl, rfl, trivial⟩)

abbrev k_qsame : List Av → Option (List Prop × Av)
  | [.val true [.sem (.rat q)], .val true [.sem (.rat s)]] => some ([], avB (decide (q = s)))
  | [.val true [.lit (.bool false), .lit (.slice none 0 0), .lit (.slice none 0 0)], .val true [.lit (.bool false), .lit (.slice none 0 0), .lit (.slice none 0 0)]] => some ([], avB true)
  | _ => none

theorem e_qsame (args : List Av) (obs : List Prop) (r : Av) (h : k_qsame args = some (obs, r)) (_ho : ∀ p ∈ obs, p) : Cn 18 args r := by
  unfold k_qsame at h
  split at h
  · cases h
    obtain ⟨h1, h2⟩ := qsame _ _
    exact ⟨h1, fun S w vs hE hS hv => h2 S w vs hE hS (avs_pas (ps := [.cq _, .cq _]) hv)⟩
  · cases h; exact same00
  · cases h

abbrev k_ptrim : List Pa → Option (List Prop × Av)
  | [.r L q] => some ([L ≤ 65535], sv (.rat q))
  | _ => none

theorem e_ptrim (args : List Av) (obs : List Prop) (r : Av) : ent [.r] k_ptrim args = some (obs, r) → (∀ p ∈ obs, p) → Cn 25 args r :=
  ent_ok (fun ps obs r h ho => by
    unfold k_ptrim at h
    split at h
    · cases h; exact ptrim _ _ (ho _ (by simp))
    · cases h) args obs r

noncomputable def tU0 : List Ent := leafs2 ++ tP2

theorem tU0_ok : EntsOk tU0 := ents_append leafs2_ok tP2_ok

theorem cat_le {a b : ByteArray} (_h1 : a.size ≤ 9000) (_h2 : b.size ≤ 9000) : catOk a b := by
  show ((a.size + b.size : Nat) : Int) ≤ IntKind.i64.max
  rw [show IntKind.i64.max = 9223372036854775807 by decide]
  omega

theorem pformat (L : Nat) (q : Rat) (_hL : L ≤ 65535) (hn : q.num.natAbs < pB 10) (hd : q.den < pB 10) : Cp 58 [.r L q] (.val false [.lit (.string (qtx q))]) := by
  have h1 := itx_le (decide (q.num < 0)) hn
  have h2 := itx_le false hd
  unfold qtx
  by_cases h : q.den = 1
  · rw [if_pos h]
    exact cp_of (wk tU0_ok (ds := [some true]) (fuel := 40) (obs := [L ≤ 262143, 2 * L + 3 ≤ 524287, Int.natAbs (Rat.num q) < (4294967296 : Nat) ^ 10, decide (Rat.den q = 1) = true]) (r := AV.val false [Seg.lit (Value.string (itx (decide (Rat.num q < (0 : Int))) (Int.natAbs (Rat.num q))))]) Tryz.func58 rfl (by kernel_rfl) ⟨by omega, by omega, hn, decide_eq_true h, trivial⟩)
  · rw [if_neg h]
    exact cp_of (wk tU0_ok (ds := [some false]) (fuel := 40) (obs := [L ≤ 262143, 2 * L + 3 ≤ 524287, Int.natAbs (Rat.num q) < (4294967296 : Nat) ^ 10, decide (Rat.den q = 1) = false, catOk (itx (decide (Rat.num q < (0 : Int))) (Int.natAbs (Rat.num q))) ({ data := #[47] } : ByteArray), Int.natAbs (↑(Rat.den q) : Int) < (4294967296 : Nat) ^ 10, catOk (itx (decide (Rat.num q < (0 : Int))) (Int.natAbs (Rat.num q)) ++ ({ data := #[47] } : ByteArray)) (itx (decide ((↑(Rat.den q) : Int) < (0 : Int))) (Int.natAbs (↑(Rat.den q) : Int)))]) (r := AV.val false [Seg.lit (Value.string (itx (decide (Rat.num q < (0 : Int))) (Int.natAbs (Rat.num q)) ++ ({ data := #[47] } : ByteArray) ++ itx (decide ((↑(Rat.den q) : Int) < (0 : Int))) (Int.natAbs (↑(Rat.den q) : Int))))]) Tryz.func58 rfl (by kernel_rfl) ⟨by omega, by omega, hn, decide_eq_false h, cat_le (by omega) (by decide), hd, cat_le (by rw [ByteArray.size_append]; have h3 : ({ data := #[47] } : ByteArray).size = 1 := rfl; omega) (by exact Nat.le_trans h2 (by decide)), trivial⟩)

noncomputable def tU1 : List Ent := (19, k_valid) :: leafs2 ++ tP2

theorem tU1_ok : EntsOk tU1 := ⟨e_valid, ents_append leafs2_ok tP2_ok⟩

theorem parse24' : Cp 56 [.l (.string { data := #[50, 47, 52] })] (noQ 6) := by
  have e0 : ({ data := #[50, 47, 52] } : ByteArray).extract 0 1 = { data := #[50] } := by decide +kernel
  have e1 : ({ data := #[50, 47, 52] } : ByteArray).extract (1 + 1) 3 = { data := #[52] } := by decide +kernel
  have g2 : Good ({ data := #[50] } : ByteArray) := good_digit rfl (by decide +kernel) (by decide +kernel)
  have g4 : Good ({ data := #[52] } : ByteArray) := good_digit rfl (by decide +kernel) (by decide +kernel)
  obtain ⟨a1, a2⟩ := ipe_good g2 (by decide +kernel)
  have n2 : nP ({ data := #[50] } : ByteArray) = 2 := by rw [nP_good g2]; decide +kernel
  have n4 : nP ({ data := #[52] } : ByteArray) = 4 := by rw [nP_good g4]; decide +kernel
  rw [n2] at a2
  refine cp_of (wk tU1_ok (ds := [none, none, none, none, none, none, none, some false, none, some false]) (fuel := 40) (obs := [({ data := #[47] } : ByteArray) = { data := #[47] }, Lib.indexByte [50, 47, 52] 47 = ((Lib.indexByte [50, 47, 52] 47).toNat : Int), (Lib.indexByte [50, 47, 52] 47).toNat + 1 ≤ 3, 3 ≤ 8192, 1 ≤ 4096, ipe { data := #[50] } = 0, 1 ≤ 4096, pre { data := #[52] } = 0, decide (nP { data := #[52] } = 1) = false, nP { data := #[52] } ≠ 0, nz (zP { data := #[50] }) ≤ 131071, (dg (nP { data := #[52] })).length ≤ 131071, decide (nP { data := #[52] } ≠ 0 ∧ Nat.gcd (zP { data := #[50] }).natAbs (nP { data := #[52] }) = 1) = false]) Tryz.func56 rfl (by kernel_rfl) ⟨rfl, by decide +kernel, by decide +kernel, by decide, by decide, a1, by decide, pre_good g4, ?_, ?_, ?_, ?_, ?_, trivial⟩)
  · rw [n4]; decide
  · rw [n4]; decide
  · rw [a2]; unfold nz; exact Nat.le_trans (dg_len_le (k := 1) (by rw [pB_one]; decide)) (by decide)
  · rw [n4]; exact Nat.le_trans (dg_len_le (k := 1) (by rw [pB_one]; decide)) (by decide)
  · rw [a2, n4]; decide +kernel

abbrev k_pfloor : List Pa → Option (List Prop × Av)
  | [.r L q] => some ([L ≤ 65535], sv (.int q.floor))
  | _ => none

theorem e_pfloor (args : List Av) (obs : List Prop) (r : Av) : ent [.r] k_pfloor args = some (obs, r) → (∀ p ∈ obs, p) → Cn 54 args r :=
  ent_ok (fun ps obs r h ho => by
    unfold k_pfloor at h
    split at h
    · cases h; exact pfloor _ _ (ho _ (by simp))
    · cases h) args obs r

abbrev k_pfrac : List Pa → Option (List Prop × Av)
  | [.l (.int .i64 x), .l (.int .i64 y)] => some ([-9223372036854775808 ≤ x, x ≤ 9223372036854775807, -9223372036854775808 ≤ y, y ≤ 9223372036854775807], sv (.rat (Rat.divInt x y)))
  | _ => none

theorem e_pfrac (args : List Av) (obs : List Prop) (r : Av) : ent [.l, .l] k_pfrac args = some (obs, r) → (∀ p ∈ obs, p) → Cn 45 args r :=
  ent_ok (fun ps obs r h ho => by
    unfold k_pfrac at h
    split at h
    · cases h; exact pfrac _ _ (ho _ (by simp)) (ho _ (by simp)) (ho _ (by simp)) (ho _ (by simp))
    · cases h) args obs r

abbrev k_pDown : List Pa → Option (List Prop × Av)
  | [.r L q, .l (.int .i64 (.ofNat k))] => some ([L ≤ 65535, k ≤ 256], okQ (downQ q k))
  | _ => none

theorem e_pDown (args : List Av) (obs : List Prop) (r : Av) : ent [.r, .l] k_pDown args = some (obs, r) → (∀ p ∈ obs, p) → Cn 46 args r :=
  ent_ok (fun ps obs r h ho => by
    unfold k_pDown at h
    split at h
    · cases h; exact pDown _ _ _ (ho _ (by simp)) (ho _ (by simp))
    · cases h) args obs r

abbrev k_pUp : List Pa → Option (List Prop × Av)
  | [.r L q, .l (.int .i64 (.ofNat k))] => some ([L ≤ 16383, k ≤ 256], okQ (upQ q k))
  | _ => none

theorem e_pUp (args : List Av) (obs : List Prop) (r : Av) : ent [.r, .l] k_pUp args = some (obs, r) → (∀ p ∈ obs, p) → Cn 48 args r :=
  ent_ok (fun ps obs r h ho => by
    unfold k_pUp at h
    split at h
    · cases h; exact pUp _ _ _ (ho _ (by simp)) (ho _ (by simp))
    · cases h) args obs r

abbrev k_pNear : List Pa → Option (List Prop × Av)
  | [.r L q, .l (.int .i64 (.ofNat k))] => some ([L ≤ 8191, k ≤ 256], okQ (nearQ q k))
  | _ => none

theorem e_pNear (args : List Av) (obs : List Prop) (r : Av) : ent [.r, .l] k_pNear args = some (obs, r) → (∀ p ∈ obs, p) → Cn 50 args r :=
  ent_ok (fun ps obs r h ho => by
    unfold k_pNear at h
    split at h
    · cases h; exact pNearest _ _ _ (ho _ (by simp)) (ho _ (by simp))
    · cases h) args obs r

abbrev k_pformat : List Pa → Option (List Prop × Av)
  | [.r L q] => some ([L ≤ 65535, q.num.natAbs < pB 10, q.den < pB 10], .val false [.lit (.string (qtx q))])
  | _ => none

theorem e_pformat (args : List Av) (obs : List Prop) (r : Av) : ent [.r] k_pformat args = some (obs, r) → (∀ p ∈ obs, p) → Cn 58 args r :=
  ent_ok (fun ps obs r h ho => by
    unfold k_pformat at h
    split at h
    · cases h; exact pformat _ _ (ho _ (by simp)) (ho _ (by simp)) (ho _ (by simp))
    · cases h) args obs r

abbrev k_p24 : List Pa → Option (List Prop × Av)
  | [.l (.string { data := ⟨[50, 47, 52]⟩ })] => some ([], noQ 6)
  | _ => none

theorem e_p24 (args : List Av) (obs : List Prop) (r : Av) : ent [.l] k_p24 args = some (obs, r) → (∀ p ∈ obs, p) → Cn 56 args r :=
  ent_ok (fun ps obs r h ho => by
    unfold k_p24 at h
    split at h
    · cases h; exact parse24'
    · cases h) args obs r

noncomputable def tV0 : List Ent := (54, ent [.r] k_pfloor) :: (45, ent [.l, .l] k_pfrac) :: (46, ent [.r, .l] k_pDown) :: (48, ent [.r, .l] k_pUp) :: (50, ent [.r, .l] k_pNear) :: (58, ent [.r] k_pformat) :: (56, ent [.l] k_p24) :: (53, ent [.cz, .cz] k_isame) :: (18, k_qsame) :: tS0

theorem tV0_ok : EntsOk tV0 := ⟨e_pfloor, e_pfrac, e_pDown, e_pUp, e_pNear, e_pformat, e_p24, e_isame, e_qsame, tS0_ok⟩

theorem awake03 : Cp 15 [] (avB true) :=
  cp_of (wk tV0_ok (ds := [none, none, none, none, none, none, none, none, none, some true, none, none, some true, none, none, some true, none, none, some true]) (fuel := 40) (obs := [(-9223372036854775808 : Int) ≤ (1 : Int), (1 : Int) ≤ (9223372036854775807 : Int), (-9223372036854775808 : Int) ≤ (3 : Int), (3 : Int) ≤ (9223372036854775807 : Int), nq (Rat.divInt (1 : Int) (3 : Int)) ≤ 65535, 2 ≤ 256, nq (Rat.divInt (1 : Int) (3 : Int)) ≤ 16383, 2 ≤ 256, (-9223372036854775808 : Int) ≤ (1 : Int), (1 : Int) ≤ (9223372036854775807 : Int), (-9223372036854775808 : Int) ≤ (4 : Int), (4 : Int) ≤ (9223372036854775807 : Int), decide (downQ (Rat.divInt (1 : Int) (3 : Int)) (2) = Rat.divInt (1 : Int) (4 : Int)) = true, (-9223372036854775808 : Int) ≤ (1 : Int), (1 : Int) ≤ (9223372036854775807 : Int), (-9223372036854775808 : Int) ≤ (2 : Int), (2 : Int) ≤ (9223372036854775807 : Int), decide (upQ (Rat.divInt (1 : Int) (3 : Int)) (2) = Rat.divInt (1 : Int) (2 : Int)) = true, (-9223372036854775808 : Int) ≤ (6 : Int), (6 : Int) ≤ (9223372036854775807 : Int), (-9223372036854775808 : Int) ≤ (-4 : Int), (-4 : Int) ≤ (9223372036854775807 : Int), nq (Rat.divInt (6 : Int) (-4 : Int)) ≤ 65535, Int.natAbs (Rat.num (Rat.divInt (6 : Int) (-4 : Int))) < (4294967296 : Nat) ^ 10, Rat.den (Rat.divInt (6 : Int) (-4 : Int)) < (4294967296 : Nat) ^ 10, (ByteArray.toList (qtx (Rat.divInt (6 : Int) (-4 : Int))) == ByteArray.toList ({ data := #[45, 51, 47, 50] } : ByteArray)) = true, (-9223372036854775808 : Int) ≤ (-1 : Int), (-1 : Int) ≤ (9223372036854775807 : Int), (-9223372036854775808 : Int) ≤ (2 : Int), (2 : Int) ≤ (9223372036854775807 : Int), nq (Rat.divInt (-1 : Int) (2 : Int)) ≤ 65535, (-9223372036854775808 : Int) ≤ (-1 : Int), (-1 : Int) ≤ (9223372036854775807 : Int), decide (Rat.floor (Rat.divInt (-1 : Int) (2 : Int)) = (-1 : Int)) = true]) (r := AV.val false [Seg.lit (Value.bool true)]) Tryz.func15 rfl (by kernel_rfl) (by simp only [AllP, and_true]; (repeat' apply And.intro) <;> first | decide | exact Nat.le_trans (nq_small (by decide +kernel) (by decide +kernel)) (by decide) | decide +kernel))

end Go.Proofs.YtnokcaigpnejeaaGreatDoor

namespace Go.Proofs.YtnokcaigpnejeaaGreatDoor
open Go.RowKit En

theorem cmp_not {a b : Rat} (h : b ≤ a) : decide (cmpQ a b < 0) = false := by
  unfold cmpQ
  rw [if_neg (Rat.not_lt.mpr h)]
  split <;> decide

theorem down_mul (q : Rat) (k : Nat) : downQ q k * ((2 ^ k : Nat) : Rat) = ((q * ((2 ^ k : Nat) : Rat)).floor : Rat) := by
  have hP : ((2 ^ k : Nat) : Rat) ≠ 0 := by
    have h := Nat.two_pow_pos k
    intro h1
    have h2 : (((2 ^ k : Nat) : Int) : Rat) = ((0 : Int) : Rat) := h1
    have h3 := Rat.intCast_inj.mp h2
    omega
  unfold downQ
  rw [two_int, Rat.mkRat_eq_div, Rat.div_mul_cancel hP]
  rfl

theorem le_of_P {a b : Rat} (k : Nat) (h : a * ((2 ^ k : Nat) : Rat) ≤ b * ((2 ^ k : Nat) : Rat)) : a ≤ b := by
  refine Rat.le_of_mul_le_mul_right h ?_
  have h := Nat.two_pow_pos k
  exact Rat.intCast_lt_intCast.mpr (show (0 : Int) < ((2 ^ k : Nat) : Int) by omega)

theorem down_le (q : Rat) (k : Nat) : downQ q k ≤ q := le_of_P k (by rw [down_mul]; exact Rat.floor_le _)

theorem le_up (q : Rat) (k : Nat) : q ≤ upQ q k := by
  have h := down_le (-q) k
  unfold upQ
  generalize downQ (-q) k = d at h
  grind

theorem down_mono {q s : Rat} (k : Nat) (h : q ≤ s) : downQ q k ≤ downQ s k := by
  refine le_of_P k ?_
  rw [down_mul, down_mul]
  refine Rat.intCast_le_intCast.mpr (Rat.floor_monotone ?_)
  refine Rat.mul_le_mul_of_nonneg_right h ?_
  exact Rat.intCast_le_intCast.mpr (Int.natCast_nonneg _)

theorem half_mul (k : Nat) : mkRat 1 (2 ^ (k + 1)) * ((2 ^ k : Nat) : Rat) = 1 / 2 := by
  have h := Nat.two_pow_pos k
  rw [show ((2 ^ k : Nat) : Rat) = mkRat ((2 ^ k : Nat) : Int) 1 from (two_int k).symm, Rat.mkRat_mul_mkRat, show (1 : Rat) / 2 = mkRat 1 2 by decide +kernel, Rat.mkRat_eq_iff (by have := Nat.two_pow_pos (k + 1); omega) (by decide), Nat.pow_succ]
  push_cast
  omega

theorem down_near (q : Rat) (k : Nat) : downQ q k ≤ nearQ q k := by
  refine down_mono k ?_
  have h : (0 : Rat) ≤ mkRat 1 (2 ^ (k + 1)) := by
    refine le_of_P k ?_
    rw [half_mul, Rat.zero_mul]
    decide +kernel
  generalize mkRat 1 (2 ^ (k + 1)) = d at h
  grind

theorem near_up (q : Rat) (k : Nat) : nearQ q k ≤ upQ q k := by
  refine le_of_P k ?_
  unfold nearQ upQ
  rw [down_mul, Rat.neg_mul, down_mul, Rat.add_mul, half_mul, Rat.neg_mul]
  generalize q * ((2 ^ k : Nat) : Rat) = x
  have h1 := Rat.floor_le (-x)
  have h2 := Rat.floor_le (x + 1 / 2)
  have h3 : ((x + 1 / 2).floor : Rat) < ((-(-x).floor + 1 : Int) : Rat) := by
    rw [Rat.intCast_add, Rat.intCast_neg]
    generalize ((-x).floor : Rat) = u at *
    generalize ((x + 1 / 2).floor : Rat) = t at *
    grind
  have h4 := Rat.intCast_lt_intCast.mp h3
  rw [← Rat.intCast_neg]
  exact Rat.intCast_le_intCast.mpr (by omega)

theorem rnd_facts (q : Rat) (b : Int) (_hq : nq q ≤ 9) (_h0 : 0 ≤ b) (_h1 : b ≤ 256) : nq (downQ q b.toNat) ≤ 100 ∧ nq (upQ q b.toNat) ≤ 100 ∧ nq (nearQ q b.toNat) ≤ 100 ∧ ¬ cmpQ q (downQ q b.toNat) < 0 ∧ ¬ cmpQ (upQ q b.toNat) q < 0 ∧ ¬ cmpQ (upQ q b.toNat) (nearQ q b.toNat) < 0 ∧ ¬ cmpQ (nearQ q b.toNat) (downQ q b.toNat) < 0 := by
  have hk : b.toNat ≤ 256 := by omega
  generalize b.toNat = k at hk ⊢
  have e1 := nq_down q hk
  have e2 := nq_down (-q) hk
  have e3 := nq_neg q
  have e4 := nq_neg (downQ (-q) k)
  have e5 := nq_add' q (mkRat 1 (2 ^ (k + 1)))
  have e6 := nq_down (q + mkRat 1 (2 ^ (k + 1))) hk
  have e7 := nq_half hk
  rw [half_eq] at e7
  refine ⟨by omega, by unfold upQ; omega, by unfold nearQ; omega, of_decide_eq_false (cmp_not (down_le q k)), of_decide_eq_false (cmp_not (le_up q k)), of_decide_eq_false (cmp_not (near_up q k)), of_decide_eq_false (cmp_not (down_near q k))⟩

theorem gDown (L : Nat) (q : Rat) (b : Int) (hL : L ≤ 65535) (h0 : 0 ≤ b) (_h1 : b ≤ 256) : Cp 46 [.r L q, .l (.int .i64 b)] (okQ (downQ q b.toNat)) := by
  obtain ⟨k, rfl⟩ := Int.eq_ofNat_of_zero_le h0
  exact pDown L k q hL (by omega)

theorem gUp (L : Nat) (q : Rat) (b : Int) (hL : L ≤ 16383) (h0 : 0 ≤ b) (_h1 : b ≤ 256) : Cp 48 [.r L q, .l (.int .i64 b)] (okQ (upQ q b.toNat)) := by
  obtain ⟨k, rfl⟩ := Int.eq_ofNat_of_zero_le h0
  exact pUp L k q hL (by omega)

theorem gNear (L : Nat) (q : Rat) (b : Int) (hL : L ≤ 8191) (h0 : 0 ≤ b) (_h1 : b ≤ 256) : Cp 50 [.r L q, .l (.int .i64 b)] (okQ (nearQ q b.toNat)) := by
  obtain ⟨k, rfl⟩ := Int.eq_ofNat_of_zero_le h0
  exact pNearest L k q hL (by omega)

theorem hDown (L : Nat) (q : Rat) (b : Int) (hL : L ≤ 4000) (h0 : 0 ≤ b) (_h1 : b ≤ 256) (hn : nq q ≤ 4000) : Cp 47 [.r L q, .l (.int .i64 b)] (okQ (downQ q b.toNat)) := by
  obtain ⟨k, rfl⟩ := Int.eq_ofNat_of_zero_le h0
  exact qDown L k q hL (by omega) hn

theorem hUp (L : Nat) (q : Rat) (b : Int) (hL : L ≤ 4000) (h0 : 0 ≤ b) (_h1 : b ≤ 256) (hn : nq q ≤ 4000) : Cp 49 [.r L q, .l (.int .i64 b)] (okQ (upQ q b.toNat)) := by
  obtain ⟨k, rfl⟩ := Int.eq_ofNat_of_zero_le h0
  exact qUp L k q hL (by omega) hn

theorem hNear (L : Nat) (q : Rat) (b : Int) (hL : L ≤ 4000) (h0 : 0 ≤ b) (_h1 : b ≤ 256) (hn : nq q ≤ 4000) : Cp 51 [.r L q, .l (.int .i64 b)] (okQ (nearQ q b.toNat)) := by
  obtain ⟨k, rfl⟩ := Int.eq_ofNat_of_zero_le h0
  exact qNear L k q hL (by omega) hn

theorem hDownBad (L : Nat) (q : Rat) (b : Int) (hb : b < 0 ∨ 256 < b) : Cp 47 [.r L q, .l (.int .i64 b)] (noQ 1) :=
  cp_of (wk tSy_ok (ds := []) (fuel := 40) (obs := [b < (0 : Int) ∨ (256 : Int) < b]) (r := AV.tup [(true, [Seg.lit (Value.bool false), Seg.lit (Value.slice none 0 0), Seg.lit (Value.slice none 0 0)]), (false, [Seg.lit (Value.int IntKind.i64 (1 : Int))])]) Tryz.func47 rfl (by kernel_rfl) ⟨hb, trivial⟩)

theorem hUpBad (L : Nat) (q : Rat) (b : Int) (hb : b < 0 ∨ 256 < b) : Cp 49 [.r L q, .l (.int .i64 b)] (noQ 1) :=
  cp_of (wk tSy_ok (ds := []) (fuel := 40) (obs := [b < (0 : Int) ∨ (256 : Int) < b]) (r := AV.tup [(true, [Seg.lit (Value.bool false), Seg.lit (Value.slice none 0 0), Seg.lit (Value.slice none 0 0)]), (false, [Seg.lit (Value.int IntKind.i64 (1 : Int))])]) Tryz.func49 rfl (by kernel_rfl) ⟨hb, trivial⟩)

theorem hNearBad (L : Nat) (q : Rat) (b : Int) (hb : b < 0 ∨ 256 < b) : Cp 51 [.r L q, .l (.int .i64 b)] (noQ 1) :=
  cp_of (wk tSy_ok (ds := []) (fuel := 40) (obs := [b < (0 : Int) ∨ (256 : Int) < b]) (r := AV.tup [(true, [Seg.lit (Value.bool false), Seg.lit (Value.slice none 0 0), Seg.lit (Value.slice none 0 0)]), (false, [Seg.lit (Value.int IntKind.i64 (1 : Int))])]) Tryz.func51 rfl (by kernel_rfl) ⟨hb, trivial⟩)

abbrev k_gDown : List Pa → Option (List Prop × Av)
  | [.r L q, .l (.int .i64 b)] => some ([L ≤ 65535, 0 ≤ b, b ≤ 256], okQ (downQ q b.toNat))
  | _ => none

theorem e_gDown (args : List Av) (obs : List Prop) (r : Av) : ent [.r, .l] k_gDown args = some (obs, r) → (∀ p ∈ obs, p) → Cn 46 args r :=
  ent_ok (fun ps obs r h ho => by
    unfold k_gDown at h
    split at h
    · cases h; exact gDown _ _ _ (ho _ (by simp)) (ho _ (by simp)) (ho _ (by simp))
    · cases h) args obs r

abbrev k_gUp : List Pa → Option (List Prop × Av)
  | [.r L q, .l (.int .i64 b)] => some ([L ≤ 16383, 0 ≤ b, b ≤ 256], okQ (upQ q b.toNat))
  | _ => none

theorem e_gUp (args : List Av) (obs : List Prop) (r : Av) : ent [.r, .l] k_gUp args = some (obs, r) → (∀ p ∈ obs, p) → Cn 48 args r :=
  ent_ok (fun ps obs r h ho => by
    unfold k_gUp at h
    split at h
    · cases h; exact gUp _ _ _ (ho _ (by simp)) (ho _ (by simp)) (ho _ (by simp))
    · cases h) args obs r

abbrev k_gNear : List Pa → Option (List Prop × Av)
  | [.r L q, .l (.int .i64 b)] => some ([L ≤ 8191, 0 ≤ b, b ≤ 256], okQ (nearQ q b.toNat))
  | _ => none

theorem e_gNear (args : List Av) (obs : List Prop) (r : Av) : ent [.r, .l] k_gNear args = some (obs, r) → (∀ p ∈ obs, p) → Cn 50 args r :=
  ent_ok (fun ps obs r h ho => by
    unfold k_gNear at h
    split at h
    · cases h; exact gNear _ _ _ (ho _ (by simp)) (ho _ (by simp)) (ho _ (by simp))
    · cases h) args obs r

abbrev k_hDown : List Pa → Option (List Prop × Av)
  | [.r L q, .l (.int .i64 b)] => some ([L ≤ 4000, 0 ≤ b, b ≤ 256, nq q ≤ 4000], okQ (downQ q b.toNat))
  | _ => none

theorem e_hDown (args : List Av) (obs : List Prop) (r : Av) : ent [.r, .l] k_hDown args = some (obs, r) → (∀ p ∈ obs, p) → Cn 47 args r :=
  ent_ok (fun ps obs r h ho => by
    unfold k_hDown at h
    split at h
    · cases h; exact hDown _ _ _ (ho _ (by simp)) (ho _ (by simp)) (ho _ (by simp)) (ho _ (by simp))
    · cases h) args obs r

abbrev k_hUp : List Pa → Option (List Prop × Av)
  | [.r L q, .l (.int .i64 b)] => some ([L ≤ 4000, 0 ≤ b, b ≤ 256, nq q ≤ 4000], okQ (upQ q b.toNat))
  | _ => none

theorem e_hUp (args : List Av) (obs : List Prop) (r : Av) : ent [.r, .l] k_hUp args = some (obs, r) → (∀ p ∈ obs, p) → Cn 49 args r :=
  ent_ok (fun ps obs r h ho => by
    unfold k_hUp at h
    split at h
    · cases h; exact hUp _ _ _ (ho _ (by simp)) (ho _ (by simp)) (ho _ (by simp)) (ho _ (by simp))
    · cases h) args obs r

abbrev k_hNear : List Pa → Option (List Prop × Av)
  | [.r L q, .l (.int .i64 b)] => some ([L ≤ 4000, 0 ≤ b, b ≤ 256, nq q ≤ 4000], okQ (nearQ q b.toNat))
  | _ => none

theorem e_hNear (args : List Av) (obs : List Prop) (r : Av) : ent [.r, .l] k_hNear args = some (obs, r) → (∀ p ∈ obs, p) → Cn 51 args r :=
  ent_ok (fun ps obs r h ho => by
    unfold k_hNear at h
    split at h
    · cases h; exact hNear _ _ _ (ho _ (by simp)) (ho _ (by simp)) (ho _ (by simp)) (ho _ (by simp))
    · cases h) args obs r

abbrev k_gDownBad : List Pa → Option (List Prop × Av)
  | [.r _L _q, .l (.int .i64 b)] => some ([b < 0 ∨ 256 < b], noQ 1)
  | _ => none

theorem e_gDownBad (args : List Av) (obs : List Prop) (r : Av) : ent [.r, .l] k_gDownBad args = some (obs, r) → (∀ p ∈ obs, p) → Cn 46 args r :=
  ent_ok (fun ps obs r h ho => by
    unfold k_gDownBad at h
    split at h
    · cases h; exact pDownBad _ _ _ (ho _ (by simp))
    · cases h) args obs r

abbrev k_gUpBad : List Pa → Option (List Prop × Av)
  | [.r _L _q, .l (.int .i64 b)] => some ([b < 0 ∨ 256 < b], noQ 1)
  | _ => none

theorem e_gUpBad (args : List Av) (obs : List Prop) (r : Av) : ent [.r, .l] k_gUpBad args = some (obs, r) → (∀ p ∈ obs, p) → Cn 48 args r :=
  ent_ok (fun ps obs r h ho => by
    unfold k_gUpBad at h
    split at h
    · cases h; exact pUpBad _ _ _ (ho _ (by simp))
    · cases h) args obs r

abbrev k_gNearBad : List Pa → Option (List Prop × Av)
  | [.r _L _q, .l (.int .i64 b)] => some ([b < 0 ∨ 256 < b], noQ 1)
  | _ => none

theorem e_gNearBad (args : List Av) (obs : List Prop) (r : Av) : ent [.r, .l] k_gNearBad args = some (obs, r) → (∀ p ∈ obs, p) → Cn 50 args r :=
  ent_ok (fun ps obs r h ho => by
    unfold k_gNearBad at h
    split at h
    · cases h; exact pNearestBad _ _ _ (ho _ (by simp))
    · cases h) args obs r

abbrev k_hDownBad : List Pa → Option (List Prop × Av)
  | [.r _L _q, .l (.int .i64 b)] => some ([b < 0 ∨ 256 < b], noQ 1)
  | _ => none

theorem e_hDownBad (args : List Av) (obs : List Prop) (r : Av) : ent [.r, .l] k_hDownBad args = some (obs, r) → (∀ p ∈ obs, p) → Cn 47 args r :=
  ent_ok (fun ps obs r h ho => by
    unfold k_hDownBad at h
    split at h
    · cases h; exact hDownBad _ _ _ (ho _ (by simp))
    · cases h) args obs r

abbrev k_hUpBad : List Pa → Option (List Prop × Av)
  | [.r _L _q, .l (.int .i64 b)] => some ([b < 0 ∨ 256 < b], noQ 1)
  | _ => none

theorem e_hUpBad (args : List Av) (obs : List Prop) (r : Av) : ent [.r, .l] k_hUpBad args = some (obs, r) → (∀ p ∈ obs, p) → Cn 49 args r :=
  ent_ok (fun ps obs r h ho => by
    unfold k_hUpBad at h
    split at h
    · cases h; exact hUpBad _ _ _ (ho _ (by simp))
    · cases h) args obs r

abbrev k_hNearBad : List Pa → Option (List Prop × Av)
  | [.r _L _q, .l (.int .i64 b)] => some ([b < 0 ∨ 256 < b], noQ 1)
  | _ => none

theorem e_hNearBad (args : List Av) (obs : List Prop) (r : Av) : ent [.r, .l] k_hNearBad args = some (obs, r) → (∀ p ∈ obs, p) → Cn 51 args r :=
  ent_ok (fun ps obs r h ho => by
    unfold k_hNearBad at h
    split at h
    · cases h; exact hNearBad _ _ _ (ho _ (by simp))
    · cases h) args obs r

abbrev k_awake : List Pa → Option (List Prop × Av)
  | [] => some ([], avB true)
  | _ => none

theorem e_awake (args : List Av) (obs : List Prop) (r : Av) : ent [] k_awake args = some (obs, r) → (∀ p ∈ obs, p) → Cn 15 args r :=
  ent_ok (fun ps obs r h ho => by
    unfold k_awake at h
    split at h
    · cases h; exact awake03
    · cases h) args obs r

noncomputable def tX0 : List Ent := (15, ent [] k_awake) :: (53, ent [.cz, .cz] k_isame) :: (18, k_qsame) :: (54, ent [.r] k_pfloor) :: tS0

theorem tX0_ok : EntsOk tX0 := ⟨e_awake, e_isame, e_qsame, e_pfloor, tS0_ok⟩

noncomputable def tX : List Ent := (46, ent [.r, .l] k_gDown) :: (48, ent [.r, .l] k_gUp) :: (50, ent [.r, .l] k_gNear) :: (47, ent [.r, .l] k_hDown) :: (49, ent [.r, .l] k_hUp) :: (51, ent [.r, .l] k_hNear) :: tX0

theorem tX_ok : EntsOk tX := ⟨e_gDown, e_gUp, e_gNear, e_hDown, e_hUp, e_hNear, tX0_ok⟩

noncomputable def tXb : List Ent := (46, ent [.r, .l] k_gDownBad) :: (48, ent [.r, .l] k_gUpBad) :: (50, ent [.r, .l] k_gNearBad) :: (47, ent [.r, .l] k_hDownBad) :: (49, ent [.r, .l] k_hUpBad) :: [(51, ent [.r, .l] k_hNearBad)]

theorem tXb_ok : EntsOk tXb := ⟨e_gDownBad, e_gUpBad, e_gNearBad, e_hDownBad, e_hUpBad, e_hNearBad, trivial⟩

theorem rounds_big (g : Bool) (p : Option Addr) (n c : Nat) (q : Option Addr) (m d : Nat) (b : Int) (h : (decide (n ≤ 4) && decide (m ≤ 4)) = false) : Cn 5 [.val true [.lit (.bool g), .lit (.slice p n c), .lit (.slice q m d)], .val false [.lit (.int .i64 b)]] (avB true) :=
  (wk tX0_ok (ds := [none, some false, none, none]) (fuel := 40) (obs := [g = g ∧ p = p ∧ c = c ∧ q = q ∧ d = d, (match decide (n ≤ 4) with | false => false | true => decide (m ≤ 4)) = false]) (r := AV.val false [Seg.lit (Value.bool true)]) Tryz.func5 rfl (by kernel_rfl) ⟨⟨rfl, rfl, rfl, rfl, rfl⟩, h, trivial⟩)

theorem rounds_good (q : Rat) (b : Int) (hq : nq q ≤ 9) (_hb : -9223372036854775808 ≤ b ∧ b ≤ 9223372036854775807) (h0 : 0 ≤ b) (h1 : b ≤ 256) : Cn 5 [sv (.rrat 4 q), .val false [.lit (.int .i64 b)]] (avB true) :=
  (wk2 tX_ok tXb_ok (ds := [none, some true, none, none, some true, some true, some true, some true, some true, some true, none, none, none, none, none, none, none, none, some true, none, none, none, some true, none, none, none, some true, none, none, none, none, some false, none, some false, none, none, some false, none, none, some false, none, none, none, some true, some true, some true, some true, some true, some true, none, none, none, none, none, none, none, none, some true, none, none, none, some true, none, none, none, some true, none, none, none, none, some false, none, some false, none, none, some false, none, none, some false, none, none, none, none, none, some true]) (fuel := 40) (obs := [q = q, true = true, (1 : Int) ≤ (40 : Int), (40 : Int) ≤ (1000000 : Int), (-9223372036854775808 : Int) ≤ b, b ≤ (9223372036854775807 : Int), 4 ≤ 65535, (0 : Int) ≤ b, b ≤ (256 : Int), 4 ≤ 4000, (0 : Int) ≤ b, b ≤ (256 : Int), nq q ≤ 4000, 4 ≤ 16383, (0 : Int) ≤ b, b ≤ (256 : Int), 4 ≤ 4000, (0 : Int) ≤ b, b ≤ (256 : Int), nq q ≤ 4000, 4 ≤ 8191, (0 : Int) ≤ b, b ≤ (256 : Int), 4 ≤ 4000, (0 : Int) ≤ b, b ≤ (256 : Int), nq q ≤ 4000, decide (downQ q (Int.toNat b) = downQ q (Int.toNat b)) = true, decide (upQ q (Int.toNat b) = upQ q (Int.toNat b)) = true, decide (nearQ q (Int.toNat b) = nearQ q (Int.toNat b)) = true, 4 ≤ 65535, nq (downQ q (Int.toNat b)) ≤ 65535, decide (cmpQ q (downQ q (Int.toNat b)) < (0 : Int)) = false, nq (upQ q (Int.toNat b)) ≤ 65535, 4 ≤ 65535, decide (cmpQ (upQ q (Int.toNat b)) q < (0 : Int)) = false, nq (upQ q (Int.toNat b)) ≤ 65535, nq (nearQ q (Int.toNat b)) ≤ 65535, decide (cmpQ (upQ q (Int.toNat b)) (nearQ q (Int.toNat b)) < (0 : Int)) = false, nq (nearQ q (Int.toNat b)) ≤ 65535, nq (downQ q (Int.toNat b)) ≤ 65535, decide (cmpQ (nearQ q (Int.toNat b)) (downQ q (Int.toNat b)) < (0 : Int)) = false, 4 ≤ 65535, (0 : Int) ≤ b % (40 : Int), b % (40 : Int) ≤ (256 : Int), 4 ≤ 4000, (0 : Int) ≤ b % (40 : Int), b % (40 : Int) ≤ (256 : Int), nq q ≤ 4000, 4 ≤ 16383, (0 : Int) ≤ b % (40 : Int), b % (40 : Int) ≤ (256 : Int), 4 ≤ 4000, (0 : Int) ≤ b % (40 : Int), b % (40 : Int) ≤ (256 : Int), nq q ≤ 4000, 4 ≤ 8191, (0 : Int) ≤ b % (40 : Int), b % (40 : Int) ≤ (256 : Int), 4 ≤ 4000, (0 : Int) ≤ b % (40 : Int), b % (40 : Int) ≤ (256 : Int), nq q ≤ 4000, decide (downQ q (Int.toNat (b % (40 : Int))) = downQ q (Int.toNat (b % (40 : Int)))) = true, decide (upQ q (Int.toNat (b % (40 : Int))) = upQ q (Int.toNat (b % (40 : Int)))) = true, decide (nearQ q (Int.toNat (b % (40 : Int))) = nearQ q (Int.toNat (b % (40 : Int)))) = true, 4 ≤ 65535, nq (downQ q (Int.toNat (b % (40 : Int)))) ≤ 65535, decide (cmpQ q (downQ q (Int.toNat (b % (40 : Int)))) < (0 : Int)) = false, nq (upQ q (Int.toNat (b % (40 : Int)))) ≤ 65535, 4 ≤ 65535, decide (cmpQ (upQ q (Int.toNat (b % (40 : Int)))) q < (0 : Int)) = false, nq (upQ q (Int.toNat (b % (40 : Int)))) ≤ 65535, nq (nearQ q (Int.toNat (b % (40 : Int)))) ≤ 65535, decide (cmpQ (upQ q (Int.toNat (b % (40 : Int)))) (nearQ q (Int.toNat (b % (40 : Int)))) < (0 : Int)) = false, nq (nearQ q (Int.toNat (b % (40 : Int)))) ≤ 65535, nq (downQ q (Int.toNat (b % (40 : Int)))) ≤ 65535, decide (cmpQ (nearQ q (Int.toNat (b % (40 : Int)))) (downQ q (Int.toNat (b % (40 : Int)))) < (0 : Int)) = false, 4 ≤ 65535, 4 ≤ 262143, decide (Rat.floor q = Rat.floor q) = true]) (r := AV.val false [Seg.lit (Value.bool true)]) Tryz.func5 rfl (by kernel_rfl) (by simp only [AllP, and_true, true_and, decide_eq_true_eq, decide_eq_false_iff_not]; obtain ⟨a1, a2, a3, a4, a5, a6, a7⟩ := rnd_facts q b hq h0 h1; obtain ⟨b1, b2, b3, b4, b5, b6, b7⟩ := rnd_facts q (b % 40) hq (by omega) (by omega); (repeat' apply And.intro) <;> first | rfl | assumption | omega))

theorem rounds_bad (q : Rat) (b : Int) (hq : nq q ≤ 9) (_hb : -9223372036854775808 ≤ b ∧ b ≤ 9223372036854775807) (_h : b < 0 ∨ 256 < b) : Cn 5 [sv (.rrat 4 q), .val false [.lit (.int .i64 b)]] (avB true) :=
  (wk2 tX_ok tXb_ok (ds := [none, some true, none, none, some false, some false, some false, some false, some false, some false, none, none, none, none, none, none, none, none, some true, none, none, none, some true, none, none, none, some true, none, none, none, none, none, none, some true, some true, some true, some true, some true, some true, none, none, none, none, none, none, none, none, some true, none, none, none, some true, none, none, none, some true, none, none, none, none, some false, none, some false, none, none, some false, none, none, some false, none, none, none, none, none, none, some true]) (fuel := 40) (obs := [q = q, true = true, (1 : Int) ≤ (40 : Int), (40 : Int) ≤ (1000000 : Int), (-9223372036854775808 : Int) ≤ b, b ≤ (9223372036854775807 : Int), b < (0 : Int) ∨ (256 : Int) < b, b < (0 : Int) ∨ (256 : Int) < b, b < (0 : Int) ∨ (256 : Int) < b, b < (0 : Int) ∨ (256 : Int) < b, b < (0 : Int) ∨ (256 : Int) < b, b < (0 : Int) ∨ (256 : Int) < b, true = true, true = true, true = true, 4 ≤ 65535, (0 : Int) ≤ b % (40 : Int), b % (40 : Int) ≤ (256 : Int), 4 ≤ 4000, (0 : Int) ≤ b % (40 : Int), b % (40 : Int) ≤ (256 : Int), nq q ≤ 4000, 4 ≤ 16383, (0 : Int) ≤ b % (40 : Int), b % (40 : Int) ≤ (256 : Int), 4 ≤ 4000, (0 : Int) ≤ b % (40 : Int), b % (40 : Int) ≤ (256 : Int), nq q ≤ 4000, 4 ≤ 8191, (0 : Int) ≤ b % (40 : Int), b % (40 : Int) ≤ (256 : Int), 4 ≤ 4000, (0 : Int) ≤ b % (40 : Int), b % (40 : Int) ≤ (256 : Int), nq q ≤ 4000, decide (downQ q (Int.toNat (b % (40 : Int))) = downQ q (Int.toNat (b % (40 : Int)))) = true, decide (upQ q (Int.toNat (b % (40 : Int))) = upQ q (Int.toNat (b % (40 : Int)))) = true, decide (nearQ q (Int.toNat (b % (40 : Int))) = nearQ q (Int.toNat (b % (40 : Int)))) = true, 4 ≤ 65535, nq (downQ q (Int.toNat (b % (40 : Int)))) ≤ 65535, decide (cmpQ q (downQ q (Int.toNat (b % (40 : Int)))) < (0 : Int)) = false, nq (upQ q (Int.toNat (b % (40 : Int)))) ≤ 65535, 4 ≤ 65535, decide (cmpQ (upQ q (Int.toNat (b % (40 : Int)))) q < (0 : Int)) = false, nq (upQ q (Int.toNat (b % (40 : Int)))) ≤ 65535, nq (nearQ q (Int.toNat (b % (40 : Int)))) ≤ 65535, decide (cmpQ (upQ q (Int.toNat (b % (40 : Int)))) (nearQ q (Int.toNat (b % (40 : Int)))) < (0 : Int)) = false, nq (nearQ q (Int.toNat (b % (40 : Int)))) ≤ 65535, nq (downQ q (Int.toNat (b % (40 : Int)))) ≤ 65535, decide (cmpQ (nearQ q (Int.toNat (b % (40 : Int)))) (downQ q (Int.toNat (b % (40 : Int)))) < (0 : Int)) = false, 4 ≤ 65535, 4 ≤ 262143, decide (Rat.floor q = Rat.floor q) = true]) (r := AV.val false [Seg.lit (Value.bool true)]) Tryz.func5 rfl (by kernel_rfl) (by simp only [AllP, and_true, true_and, decide_eq_true_eq, decide_eq_false_iff_not]; obtain ⟨b1, b2, b3, b4, b5, b6, b7⟩ := rnd_facts q (b % 40) hq (by omega) (by omega); (repeat' apply And.intro) <;> first | rfl | assumption | omega))

theorem hide_none (w : World) : hide (fun _ => False) w = w := by
  have h : (hide (fun _ => False) w).heap = w.heap := by
    unfold hide
    apply Array.ext
    · simp
    · intro i h1 h2; simp
  cases w
  unfold hide at h ⊢
  simp only at h
  simp only [h]

theorem law_calls {f : FuncId} {args : List Av} {b : Bool} (h : Cn f args (avB b)) {w : World} {vs : List Value} (ht : Tab w) (hv : avs Dn none' w args vs) : Calls Tryz.prog f vs.toArray w (RB b w) := by
  refine (h.2 (fun _ => False) w vs (by rw [hide_none]; exact ht) (fun _ h => h.elim) (by rw [hide_none]; exact hv)).mono ?_
  rintro e w' ⟨u, rfl, h1, h2⟩
  rw [hide_none] at h1
  have h1 : u = .bool b := vl_lit_inv (D := Dn) h1
  subst h1
  exact ⟨rfl, h2.os, h2.tape, h2.output, h2.size, fun k h _ => h2.block k h⟩

theorem rounds_any (g : Bool) (p : Option Addr) (n c : Nat) (X : List Nat) (q : Option Addr) (m d : Nat) (Y : List Nat) (b : Int) (w : World) (ht : Tab w) (hb : -9223372036854775808 ≤ b ∧ b ≤ 9223372036854775807) (s : Sl w p n c X) (t : Sl w q m d Y) :
    Calls Tryz.prog 5 #[rw' g p n c q m d, .int .i64 b] w (RB true w) := by
  cases h : (decide (n ≤ 4) && decide (m ≤ 4))
  · exact law_calls (vs := [rw' g p n c q m d, .int .i64 b]) (rounds_big g p n c q m d b h) ht ⟨_, _, rfl, ofV_ok none' w (rw' g p n c q m d), _, _, rfl, vl_lit _ _, rfl⟩
  · have l := h
    simp only [Bool.and_eq_true, decide_eq_true_eq] at l
    have hr : VR w 4 _ (rw' g p n c q m d) := ⟨_, _, _, _, _, _, _, _, _, rfl, s, t, rfl, l.1, l.2⟩
    have hv := fun β => sv_of (x := .rrat 4 _) hr β
    have hq := nq_vr hr
    by_cases h1 : b < 0 ∨ 256 < b
    · exact law_calls (vs := [rw' g p n c q m d, .int .i64 b]) (rounds_bad _ b hq hb h1) ht ⟨_, _, rfl, hv none', _, _, rfl, vl_lit _ _, rfl⟩
    · exact law_calls (vs := [rw' g p n c q m d, .int .i64 b]) (rounds_good _ b hq hb (by omega) (by omega)) ht ⟨_, _, rfl, hv none', _, _, rfl, vl_lit _ _, rfl⟩

end Go.Proofs.YtnokcaigpnejeaaGreatDoor
