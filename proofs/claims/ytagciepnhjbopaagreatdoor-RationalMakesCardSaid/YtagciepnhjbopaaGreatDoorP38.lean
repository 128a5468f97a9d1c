/- What the statements of this claim stand on: of Q13, Q14, what they name -/
import Derived.Test.YtagciepnhjbopaaGreatDoorP08
import Derived.Test.YtagciepnhjbopaaGreatDoorP37

namespace Go.Proofs.YtagciepnhjbopaaGreatDoor
open Go.RowKit En

abbrev k_npow : List Pa → Option (List Prop × Av) := fun | [.n L x, .l (.int .i64 (.ofNat e))] => some ([L ≤ 1048576, e ≤ 64], .tup [(false, [.sem (.nat (x ^ e))]), (false, [.lit (.int .i64 0)])]) | _ => none

theorem e_npow (args : List Av) (obs : List Prop) (r : Av) : ent [.n, .l] k_npow args = some (obs, r) → (∀ p ∈ obs, p) → Cn 121 args r :=
  ent_ok (fun ps obs r h ho => by
    unfold k_npow at h
    split at h
    case h_2 => cases h
    rename_i L x e
    cases h
    refine cp_leaf ⟨_, Tryz.func121, rfl, rfl⟩ fun w vs ht hv => ?_
    obtain ⟨v0, _, rfl, h0, ⟨v1, _, rfl, h1, rfl⟩⟩ := hv
    have h1 : v1 = _ := h1
    subst h1
    have hL : L ≤ 1048576 := ho _ (by simp)
    have he : e ≤ 64 := ho _ (by simp)
    obtain ⟨p, n, c, X, rfl, s, rfl, hn⟩ := h0
    refine (pow_yes p n c e X w s (by omega) he).mono ?_
    rintro e1 w' ⟨q, cq, rfl, o, f⟩
    exact ⟨_, rfl, ⟨[_, .int .i64 0], rfl, _, _, rfl, vl_sv (k := .nat _) ⟨q, cq, rfl, o.sl⟩, _, _, rfl, vl_lit _ _, rfl⟩, f⟩) args obs r

abbrev k_npowN : List Pa → Option (List Prop × Av) := fun | [.n L x, .l (.int .i64 e)] => some ([e < 0 ∨ 64 < e, L = L ∧ x = x], .tup [(false, [.lit (.slice none 0 0)]), (false, [.lit (.int .i64 1)])]) | _ => none

theorem e_npowN (args : List Av) (obs : List Prop) (r : Av) : ent [.n, .l] k_npowN args = some (obs, r) → (∀ p ∈ obs, p) → Cn 121 args r :=
  ent_ok (fun ps obs r h ho => by
    unfold k_npowN at h
    split at h
    case h_2 => cases h
    rename_i L x e
    cases h
    refine cp_leaf ⟨_, Tryz.func121, rfl, rfl⟩ fun w vs ht hv => ?_
    obtain ⟨v0, _, rfl, h0, ⟨v1, _, rfl, h1, rfl⟩⟩ := hv
    have h1 : v1 = _ := h1
    subst h1
    obtain ⟨p, n, c, X, rfl, s, -, hn⟩ := h0
    refine (pow_no p n c e w (ho _ (by simp))).mono ?_
    rintro e1 w' ⟨rfl, rfl⟩
    exact ⟨_, rfl, ⟨[_, .int .i64 1], rfl, _, _, rfl, vl_lit _ _, _, _, rfl, vl_lit _ _, rfl⟩, Fr.refl _ _⟩) args obs r

theorem rat_joinb {b : Bool} {x y : Nat} {r : Rat} (hb : b = decide (r.num < 0)) (hx : x = r.num.natAbs) (hy : y = r.den) (w : World) (u : Value) (h : (AV.val true [.lit (.bool b), .sem (.nat x), .sem (.nat y)] : Av).holds Dn none' w u) : (sv (.rat r)).holds Dn none' w u := by
  subst hb; subst hx; subst hy
  obtain ⟨cs, ⟨a, _, rfl, h1, a', _, rfl, ⟨⟨hl, _⟩, p, c, e, s⟩, a3, _, rfl, ⟨⟨hl', _⟩, q, d, e', t⟩, rfl⟩, h4, -⟩ := h
  have h1 : a = [.bool _] := h1
  subst h1
  rw [h4]
  match a', hl, a3, hl' with
  | [v], _, [v'], _ =>
    have e : v = _ := e
    have e' : v' = _ := e'
    subst e; subst e'
    exact sv_of (x := .rat r) ⟨p, c, q, d, rfl, s, t⟩ _

theorem rat_s (b : Bool) (x d : Nat) (r : Rat) (hb : b = decide (r.num < 0)) (hx : x = r.num.natAbs) (hy : d = r.den) : Cn 122 [.val true [.lit (.bool b), .sem (.nat x), .lit (.bool false), .sem (.nat d)]] (sv (.rat r)) :=
  cn_res (wk leafs_ok (ds := []) (fuel := 40) (obs := []) (r := AV.val (true) [Seg.lit (Value.bool b), Seg.sem (Kn.nat x), Seg.sem (Kn.nat d)]) Tryz.func122 rfl (by kernel_rfl) trivial) (rat_joinb hb hx hy)

abbrev k_lrats : List Av → Option (List Prop × Av)
  | [.val true [.lit (.bool b), .sem (.nat x), .lit (.bool false), .sem (.nat d)]] => some ([b = decide ((mkRat (iv b x) d).num < 0), x = (mkRat (iv b x) d).num.natAbs, d = (mkRat (iv b x) d).den], sv (.rat (mkRat (iv b x) d)))
  | _ => none

theorem e_lrats (args : List Av) (obs : List Prop) (r : Av) (h : k_lrats args = some (obs, r)) (ho : ∀ p ∈ obs, p) : Cn 122 args r := by
  unfold k_lrats at h
  split at h
  case h_2 => cases h
  cases h
  exact rat_s _ _ _ _ (ho _ (by simp)) (ho _ (by simp)) (ho _ (by simp))

noncomputable def tW : List Ent := (121, ent [.n, .l] k_npow) :: (122, k_lrats) :: tP2

theorem tW_ok : EntsOk tW := ⟨e_npow, e_lrats, tP2_ok⟩

noncomputable def tWb : List Ent := (121, ent [.n, .l] k_npowN) :: tP2

theorem tWb_ok : EntsOk tWb := ⟨e_npowN, tP2_ok⟩

theorem pow_neg {z : Int} (h : z < 0) : ∀ n, (n % 2 = 1 → z ^ n < 0) ∧ (n % 2 = 0 → 0 < z ^ n)
  | 0 => ⟨fun h => by omega, fun _ => by rw [Int.pow_zero]; decide⟩
  | n + 1 => by
    obtain ⟨h1, h2⟩ := pow_neg h n
    rw [Int.pow_succ]
    constructor
    · intro h3
      exact Int.mul_neg_of_pos_of_neg (h2 (by omega)) h
    · intro h3
      exact Int.mul_pos_of_neg_of_neg (h1 (by omega)) h

theorem pow_nn {z : Int} (h : 0 ≤ z) : ∀ n, 0 ≤ z ^ n
  | 0 => by rw [Int.pow_zero]; decide
  | n + 1 => by rw [Int.pow_succ]; exact Int.mul_nonneg (pow_nn h n) h

theorem pow_join (q : Rat) (n : Nat) (b : Bool) (h : b = decide (q.num ^ n < 0)) : mkRat (iv b (q.num.natAbs ^ n)) (q.den ^ n) = q ^ n := by
  have h1 : iv b (q.num.natAbs ^ n) = (q ^ n).num := by
    rw [Rat.num_pow, ← Int.natAbs_pow]
    subst h
    unfold iv
    by_cases h : q.num ^ n < 0
    · rw [decide_eq_true h, if_pos rfl]; omega
    · rw [decide_eq_false h, if_neg (by simp)]; omega
  rw [h1, ← Rat.den_pow, Rat.mkRat_self]

theorem ppow (L n : Nat) (q : Rat) (_hL : L ≤ 65535) (hn : n ≤ 64) (hq : nq q ≤ 900) : Cp 41 [.r L q, .l (.int .i64 n)] (okQ (q ^ n)) := by
  have h9 : (dg q.num.natAbs).length ≤ 1048576 := by unfold nq nz at hq; omega
  have h10 : (dg q.den).length ≤ 1048576 := by unfold nq at hq; omega
  have hx : q.num.natAbs ^ n = (q ^ n).num.natAbs := by rw [Rat.num_pow, Int.natAbs_pow]
  have hy : q.den ^ n = (q ^ n).den := by rw [Rat.den_pow]
  rcases Int.lt_or_le q.num 0 with h | h
  · rcases Nat.mod_two_eq_zero_or_one n with h2 | h2
    · have hb : false = decide (q.num ^ n < 0) := (decide_eq_false (by have := (pow_neg h n).2 h2; omega)).symm
      have hj := pow_join q n _ hb
      rw [← Rat.num_pow] at hb
      rw [← hj]
      exact cp_of (wk tW_ok (ds := [none, some true, none, some false, none]) (fuel := 40) (obs := [L ≤ 262143, 2 * L + 3 ≤ 524287, List.length (dg (Int.natAbs (Rat.num q))) ≤ 1048576, n ≤ 64, List.length (dg (Rat.den q)) ≤ 1048576, n ≤ 64, decide (Rat.num q < (0 : Int)) = true, (Int.tmod (↑n : Int) (2 : Int) == (1 : Int)) = false, false = decide (Rat.num (mkRat (iv false (Int.natAbs (Rat.num q) ^ n)) (Rat.den q ^ n)) < (0 : Int)), Int.natAbs (Rat.num q) ^ n = Int.natAbs (Rat.num (mkRat (iv false (Int.natAbs (Rat.num q) ^ n)) (Rat.den q ^ n))), Rat.den q ^ n = Rat.den (mkRat (iv false (Int.natAbs (Rat.num q) ^ n)) (Rat.den q ^ n))]) (r := AV.tup [(true, [Seg.sem (Kn.rat (mkRat (iv false (Int.natAbs (Rat.num q) ^ n)) (Rat.den q ^ n)))]), (false, [Seg.lit (Value.int IntKind.i64 (0 : Int))])]) Tryz.func41 rfl (by kernel_rfl) ⟨by omega, by omega, h9, hn, h10, hn, decide_eq_true h, (by show (((n % 2 : Nat) : Int) == 1) = false; rw [h2]; rfl), by rw [hj]; exact hb, by rw [hj]; exact hx, by rw [hj]; exact hy, trivial⟩)
    · have hb : true = decide (q.num ^ n < 0) := (decide_eq_true ((pow_neg h n).1 h2)).symm
      have hj := pow_join q n _ hb
      rw [← Rat.num_pow] at hb
      rw [← hj]
      exact cp_of (wk tW_ok (ds := [none, some true, none, some true, none]) (fuel := 40) (obs := [L ≤ 262143, 2 * L + 3 ≤ 524287, List.length (dg (Int.natAbs (Rat.num q))) ≤ 1048576, n ≤ 64, List.length (dg (Rat.den q)) ≤ 1048576, n ≤ 64, decide (Rat.num q < (0 : Int)) = true, (Int.tmod (↑n : Int) (2 : Int) == (1 : Int)) = true, true = decide (Rat.num (mkRat (iv true (Int.natAbs (Rat.num q) ^ n)) (Rat.den q ^ n)) < (0 : Int)), Int.natAbs (Rat.num q) ^ n = Int.natAbs (Rat.num (mkRat (iv true (Int.natAbs (Rat.num q) ^ n)) (Rat.den q ^ n))), Rat.den q ^ n = Rat.den (mkRat (iv true (Int.natAbs (Rat.num q) ^ n)) (Rat.den q ^ n))]) (r := AV.tup [(true, [Seg.sem (Kn.rat (mkRat (iv true (Int.natAbs (Rat.num q) ^ n)) (Rat.den q ^ n)))]), (false, [Seg.lit (Value.int IntKind.i64 (0 : Int))])]) Tryz.func41 rfl (by kernel_rfl) ⟨by omega, by omega, h9, hn, h10, hn, decide_eq_true h, (by show (((n % 2 : Nat) : Int) == 1) = true; rw [h2]; rfl), by rw [hj]; exact hb, by rw [hj]; exact hx, by rw [hj]; exact hy, trivial⟩)
  · have hb : false = decide (q.num ^ n < 0) := (decide_eq_false (by have := pow_nn h n; omega)).symm
    have hj := pow_join q n _ hb
    rw [← Rat.num_pow] at hb
    rw [← hj]
    exact cp_of (wk tW_ok (ds := [none, some false, none, none]) (fuel := 40) (obs := [L ≤ 262143, 2 * L + 3 ≤ 524287, List.length (dg (Int.natAbs (Rat.num q))) ≤ 1048576, n ≤ 64, List.length (dg (Rat.den q)) ≤ 1048576, n ≤ 64, decide (Rat.num q < (0 : Int)) = false, false = decide (Rat.num (mkRat (iv false (Int.natAbs (Rat.num q) ^ n)) (Rat.den q ^ n)) < (0 : Int)), Int.natAbs (Rat.num q) ^ n = Int.natAbs (Rat.num (mkRat (iv false (Int.natAbs (Rat.num q) ^ n)) (Rat.den q ^ n))), Rat.den q ^ n = Rat.den (mkRat (iv false (Int.natAbs (Rat.num q) ^ n)) (Rat.den q ^ n))]) (r := AV.tup [(true, [Seg.sem (Kn.rat (mkRat (iv false (Int.natAbs (Rat.num q) ^ n)) (Rat.den q ^ n)))]), (false, [Seg.lit (Value.int IntKind.i64 (0 : Int))])]) Tryz.func41 rfl (by kernel_rfl) ⟨by omega, by omega, h9, hn, h10, hn, decide_eq_false (by omega), by rw [hj]; exact hb, by rw [hj]; exact hx, by rw [hj]; exact hy, trivial⟩)

theorem ppowN (L : Nat) (q : Rat) (n : Int) (_hL : L ≤ 65535) (hn : n < 0 ∨ 64 < n) : Cp 41 [.r L q, .l (.int .i64 n)] (noQ 1) :=
  cp_of (wk tWb_ok (ds := [none]) (fuel := 40) (obs := [L ≤ 262143, 2 * L + 3 ≤ 524287, n < (0 : Int) ∨ (64 : Int) < n, List.length (dg (Int.natAbs (Rat.num q))) = List.length (dg (Int.natAbs (Rat.num q))) ∧ Int.natAbs (Rat.num q) = Int.natAbs (Rat.num q)]) (r := AV.tup [(true, [Seg.lit (Value.bool false), Seg.lit (Value.slice none 0 0), Seg.lit (Value.slice none 0 0)]), (false, [Seg.lit (Value.int IntKind.i64 (1 : Int))])]) Tryz.func41 rfl (by kernel_rfl) ⟨by omega, by omega, hn, ⟨rfl, rfl⟩, trivial⟩)

theorem qpowA (L : Nat) (q : Rat) (n : Int) (_hn : n < 0) : Cp 42 [.r L q, .l (.int .i64 n)] (noQ 1) :=
  cp_of (wk tS0_ok (ds := [some true, none, none]) (fuel := 40) (obs := [decide (n < (0 : Int)) = true]) (r := AV.tup [(true, [Seg.lit (Value.bool false), Seg.lit (Value.slice none 0 0), Seg.lit (Value.slice none 0 0)]), (false, [Seg.lit (Value.int IntKind.i64 (1 : Int))])]) Tryz.func42 rfl (by kernel_rfl) (by simp only [AllP, and_true, decide_eq_true_eq]; omega))

theorem qpowB (L : Nat) (q : Rat) (n : Int) (_hn : 64 < n) : Cp 42 [.r L q, .l (.int .i64 n)] (noQ 1) :=
  cp_of (wk tS0_ok (ds := [some false, none, some true, none]) (fuel := 40) (obs := [decide (n < (0 : Int)) = false, decide (n > (64 : Int)) = true]) (r := AV.tup [(true, [Seg.lit (Value.bool false), Seg.lit (Value.slice none 0 0), Seg.lit (Value.slice none 0 0)]), (false, [Seg.lit (Value.int IntKind.i64 (1 : Int))])]) Tryz.func42 rfl (by kernel_rfl) (by simp only [AllP, and_true, decide_eq_true_eq, decide_eq_false_iff_not]; omega))

end Go.Proofs.YtagciepnhjbopaaGreatDoor

namespace Go.Proofs.YtagciepnhjbopaaGreatDoor
open Go.RowKit En

theorem nq_divInt' (a b : Int) : nq (Rat.divInt a b) ≤ nz a + nz b + 1 := by
  have hz : nq 0 ≤ 1 := by
    unfold nq nz
    rw [show (0 : Rat).num = 0 from rfl, show (0 : Rat).den = 1 from rfl, Int.natAbs_zero, dg_zero, dg_one]
    decide
  rcases Int.lt_trichotomy b 0 with h | h | h
  · obtain ⟨D, rfl⟩ : ∃ D : Nat, b = -(D : Int) := ⟨b.natAbs, by omega⟩
    obtain ⟨l1, l2, _⟩ := low_neg (z := a) (D := D) (by omega) rfl
    unfold nq
    rw [l1, l2, nz_neg, nz_neg, nz_nat]
    have h1 := nz_floor' a ((Nat.gcd a.natAbs D : Nat) : Int)
    have h2 := dg_len_mono (Nat.div_le_self D (Nat.gcd a.natAbs D))
    omega
  · rw [h, Rat.divInt_zero]; omega
  · obtain ⟨D, rfl⟩ := Int.eq_ofNat_of_zero_le (Int.le_of_lt h)
    obtain ⟨l1, l2, _⟩ := low_pos (z := a) (D := D) (by omega) rfl
    unfold nq
    rw [l1, l2, nz_nat]
    have h1 := nz_floor' a ((Nat.gcd a.natAbs D : Nat) : Int)
    have h2 := dg_len_mono (Nat.div_le_self D (Nat.gcd a.natAbs D))
    omega

theorem pmakeT (L M : Nat) (z d : Int) (hL : L ≤ 262143) (hM : M ≤ 262143) (_h0 : d ≠ 0) (hz : nz z ≤ L) (hd : nz d ≤ M) : Cp 37 [.i L z, .i M d] (okQ (Rat.divInt z d)) := by
  rcases Int.lt_or_le d 0 with h | h
  · exact pmakeN L M z d hL hM h hz hd
  · exact pmake L M z d hL hM (by omega)

theorem qpowG (L : Nat) (n : Int) (q : Rat) (hL : L ≤ 4000) (h0 : 0 ≤ n) (_hn : n ≤ 64) (hq : nq q ≤ 900) : Cp 42 [.r L q, .l (.int .i64 n)] (okQ (q ^ n.toNat)) := by
  obtain ⟨k, rfl⟩ := Int.eq_ofNat_of_zero_le h0
  exact qpow L k q hL (by omega) hq

theorem ppowG (L : Nat) (n : Int) (q : Rat) (hL : L ≤ 65535) (h0 : 0 ≤ n) (_hn : n ≤ 64) (hq : nq q ≤ 900) : Cp 41 [.r L q, .l (.int .i64 n)] (okQ (q ^ n.toNat)) := by
  obtain ⟨k, rfl⟩ := Int.eq_ofNat_of_zero_le h0
  exact ppow L k q hL (by omega) hq

theorem qpowN (L : Nat) (q : Rat) (n : Int) (hn : n < 0 ∨ 64 < n) : Cp 42 [.r L q, .l (.int .i64 n)] (noQ 1) := by
  rcases hn with h | h
  · exact qpowA L q n h
  · exact qpowB L q n h

abbrev k_pmk : List Pa → Option (List Prop × Av)
  | [.i L z, .i M d] => some ([L ≤ 262143, M ≤ 262143, d ≠ 0, nz z ≤ L, nz d ≤ M], okQ (Rat.divInt z d))
  | _ => none

theorem e_pmk (args : List Av) (obs : List Prop) (r : Av) : ent [.i, .i] k_pmk args = some (obs, r) → (∀ p ∈ obs, p) → Cn 37 args r :=
  ent_ok (fun ps obs r h ho => by
    unfold k_pmk at h
    split at h
    · cases h; exact pmakeT _ _ _ _ (ho _ (by simp)) (ho _ (by simp)) (ho _ (by simp)) (ho _ (by simp)) (ho _ (by simp))
    · cases h) args obs r

abbrev k_pmkz : List Pa → Option (List Prop × Av)
  | [.i _L _z, .i M d] => some ([M ≤ 262143, d = 0], noQ 3)
  | _ => none

theorem e_pmkz (args : List Av) (obs : List Prop) (r : Av) : ent [.i, .i] k_pmkz args = some (obs, r) → (∀ p ∈ obs, p) → Cn 37 args r :=
  ent_ok (fun ps obs r h ho => by
    unfold k_pmkz at h
    split at h
    · cases h; exact pmake0 _ _ _ _ (ho _ (by simp)) (ho _ (by simp))
    · cases h) args obs r

abbrev k_qmk : List Pa → Option (List Prop × Av)
  | [.i L z, .i M d] => some ([L ≤ 524286, M ≤ 524287, d ≠ 0], okQ (Rat.divInt z d))
  | _ => none

theorem e_qmk (args : List Av) (obs : List Prop) (r : Av) : ent [.i, .i] k_qmk args = some (obs, r) → (∀ p ∈ obs, p) → Cn 38 args r :=
  ent_ok (fun ps obs r h ho => by
    unfold k_qmk at h
    split at h
    · cases h; exact qmake _ _ _ _ (ho _ (by simp)) (ho _ (by simp)) (ho _ (by simp))
    · cases h) args obs r

abbrev k_qmkz : List Pa → Option (List Prop × Av)
  | [.i _L _z, .i M d] => some ([M ≤ 524287, d = 0], noQ 3)
  | _ => none

theorem e_qmkz (args : List Av) (obs : List Prop) (r : Av) : ent [.i, .i] k_qmkz args = some (obs, r) → (∀ p ∈ obs, p) → Cn 38 args r :=
  ent_ok (fun ps obs r h ho => by
    unfold k_qmkz at h
    split at h
    · cases h; exact qmake0 _ _ _ _ (ho _ (by simp)) (ho _ (by simp))
    · cases h) args obs r

abbrev k_ppw : List Pa → Option (List Prop × Av)
  | [.r L q, .l (.int .i64 n)] => some ([L ≤ 65535, 0 ≤ n, n ≤ 64, nq q ≤ 900], okQ (q ^ n.toNat))
  | _ => none

theorem e_ppw (args : List Av) (obs : List Prop) (r : Av) : ent [.r, .l] k_ppw args = some (obs, r) → (∀ p ∈ obs, p) → Cn 41 args r :=
  ent_ok (fun ps obs r h ho => by
    unfold k_ppw at h
    split at h
    · cases h; exact ppowG _ _ _ (ho _ (by simp)) (ho _ (by simp)) (ho _ (by simp)) (ho _ (by simp))
    · cases h) args obs r

abbrev k_ppwN : List Pa → Option (List Prop × Av)
  | [.r L _q, .l (.int .i64 n)] => some ([L ≤ 65535, n < 0 ∨ 64 < n], noQ 1)
  | _ => none

theorem e_ppwN (args : List Av) (obs : List Prop) (r : Av) : ent [.r, .l] k_ppwN args = some (obs, r) → (∀ p ∈ obs, p) → Cn 41 args r :=
  ent_ok (fun ps obs r h ho => by
    unfold k_ppwN at h
    split at h
    · cases h; exact ppowN _ _ _ (ho _ (by simp)) (ho _ (by simp))
    · cases h) args obs r

abbrev k_qpw : List Pa → Option (List Prop × Av)
  | [.r L q, .l (.int .i64 n)] => some ([L ≤ 4000, 0 ≤ n, n ≤ 64, nq q ≤ 900], okQ (q ^ n.toNat))
  | _ => none

theorem e_qpw (args : List Av) (obs : List Prop) (r : Av) : ent [.r, .l] k_qpw args = some (obs, r) → (∀ p ∈ obs, p) → Cn 42 args r :=
  ent_ok (fun ps obs r h ho => by
    unfold k_qpw at h
    split at h
    · cases h; exact qpowG _ _ _ (ho _ (by simp)) (ho _ (by simp)) (ho _ (by simp)) (ho _ (by simp))
    · cases h) args obs r

abbrev k_qpwN : List Pa → Option (List Prop × Av)
  | [.r _L _q, .l (.int .i64 n)] => some ([n < 0 ∨ 64 < n], noQ 1)
  | _ => none

theorem e_qpwN (args : List Av) (obs : List Prop) (r : Av) : ent [.r, .l] k_qpwN args = some (obs, r) → (∀ p ∈ obs, p) → Cn 42 args r :=
  ent_ok (fun ps obs r h ho => by
    unfold k_qpwN at h
    split at h
    · cases h; exact qpowN _ _ _ (ho _ (by simp))
    · cases h) args obs r

noncomputable def tM : List Ent := (37, ent [.i, .i] k_pmk) :: (38, ent [.i, .i] k_qmk) :: (41, ent [.r, .l] k_ppw) :: (42, ent [.r, .l] k_qpw) :: (43, ent [.l] k_pof) :: (45, ent [.l, .l] k_pfrac) :: tX0

theorem tM_ok : EntsOk tM := ⟨e_pmk, e_qmk, e_ppw, e_qpw, e_pof, e_pfrac, tX0_ok⟩

noncomputable def tMb : List Ent := (37, ent [.i, .i] k_pmkz) :: (38, ent [.i, .i] k_qmkz) :: (41, ent [.r, .l] k_ppwN) :: [(42, ent [.r, .l] k_qpwN)]

theorem tMb_ok : EntsOk tMb := ⟨e_pmkz, e_qmkz, e_ppwN, e_qpwN, trivial⟩

theorem mk_facts (n : Int) : nq (Rat.divInt (n % 20 - 9) 7) ≤ 5 ∧ IntKind.i64.wrap (n % 20 - 9) = n % 20 - 9 := by
  have h1 := nq_divInt' (n % 20 - 9) 7
  have h2 := nz_word (x := n % 20 - 9) (by omega) (by omega)
  have h3 := nz_word (x := 7) (by decide) (by decide)
  exact ⟨by omega, by rw [IntKind.wrap_i64]; omega⟩

theorem makes_cg (n m k : Int) (g h : Bool) (a b x y : Nat) (_hn : -9223372036854775808 ≤ n ∧ n ≤ 9223372036854775807) (_hm : -9223372036854775808 ≤ m ∧ m ≤ 9223372036854775807) (_ha : a ≤ 6) (_hb : b ≤ 6) (_hx : nz (iv g x) ≤ a) (_hy : nz (iv h y) ≤ b) (_h0 : iv h y ≠ 0) (_k0 : 0 ≤ k) (_k1 : k ≤ 64) : Cn 4 [.val false [.lit (.int .i64 n)], .val false [.lit (.int .i64 m)], .val false [.lit (.int .i64 k)], .val true [.lit (.bool g), .sem (.dig a x)], .val true [.lit (.bool h), .sem (.dig b y)]] (avB true) :=
  (wk2 tM_ok tMb_ok (ds := [none, some false, none, some false, none, none, none, none, none, none, none, none, none, none, none, none, none, some true, none, none, some true, none, none, some true, none, none, some true, none, none]) (fuel := 40) (obs := [decide ((↑a : Int) > (6 : Int)) = false, decide ((↑b : Int) > (6 : Int)) = false, a ≤ 262143, b ≤ 262143, iv h y ≠ (0 : Int), nz (iv g x) ≤ a, nz (iv h y) ≤ b, a ≤ 524286, b ≤ 524287, iv h y ≠ (0 : Int), (1 : Int) ≤ (20 : Int), (20 : Int) ≤ (1000000 : Int), (-9223372036854775808 : Int) ≤ n, n ≤ (9223372036854775807 : Int), (-9223372036854775808 : Int) ≤ IntKind.wrap IntKind.i64 (n % (20 : Int) - (9 : Int)), IntKind.wrap IntKind.i64 (n % (20 : Int) - (9 : Int)) ≤ (9223372036854775807 : Int), (-9223372036854775808 : Int) ≤ (7 : Int), (7 : Int) ≤ (9223372036854775807 : Int), nq (Rat.divInt (IntKind.wrap IntKind.i64 (n % (20 : Int) - (9 : Int))) (7 : Int)) ≤ 65535, (0 : Int) ≤ k, k ≤ (64 : Int), nq (Rat.divInt (IntKind.wrap IntKind.i64 (n % (20 : Int) - (9 : Int))) (7 : Int)) ≤ 900, nq (Rat.divInt (IntKind.wrap IntKind.i64 (n % (20 : Int) - (9 : Int))) (7 : Int)) ≤ 4000, (0 : Int) ≤ k, k ≤ (64 : Int), nq (Rat.divInt (IntKind.wrap IntKind.i64 (n % (20 : Int) - (9 : Int))) (7 : Int)) ≤ 900, decide (Rat.divInt (iv g x) (iv h y) = Rat.divInt (iv g x) (iv h y)) = true, decide (Rat.divInt (IntKind.wrap IntKind.i64 (n % (20 : Int) - (9 : Int))) (7 : Int) ^ Int.toNat k = Rat.divInt (IntKind.wrap IntKind.i64 (n % (20 : Int) - (9 : Int))) (7 : Int) ^ Int.toNat k) = true, (-9223372036854775808 : Int) ≤ n, n ≤ (9223372036854775807 : Int), (-9223372036854775808 : Int) ≤ n, n ≤ (9223372036854775807 : Int), decide ((↑n : Rat) = (↑n : Rat)) = true, (-9223372036854775808 : Int) ≤ n, n ≤ (9223372036854775807 : Int), (-9223372036854775808 : Int) ≤ m, m ≤ (9223372036854775807 : Int), (-9223372036854775808 : Int) ≤ n, n ≤ (9223372036854775807 : Int), (-9223372036854775808 : Int) ≤ m, m ≤ (9223372036854775807 : Int), decide (Rat.divInt n m = Rat.divInt n m) = true]) (r := AV.val false [Seg.lit (Value.bool true)]) Tryz.func4 rfl (by kernel_rfl) (by simp only [AllP, and_true, true_and, decide_eq_true_eq, decide_eq_false_iff_not]; simp only [(mk_facts n).2]; have f1 := (mk_facts n).1; (repeat' apply And.intro) <;> first | rfl | assumption | omega | simp))

theorem makes_cb (n m k : Int) (g h : Bool) (a b x y : Nat) (_hn : -9223372036854775808 ≤ n ∧ n ≤ 9223372036854775807) (_hm : -9223372036854775808 ≤ m ∧ m ≤ 9223372036854775807) (_ha : a ≤ 6) (_hb : b ≤ 6) (_hx : nz (iv g x) ≤ a) (_hy : nz (iv h y) ≤ b) (_h0 : iv h y ≠ 0) (_k0 : k < 0 ∨ 64 < k) : Cn 4 [.val false [.lit (.int .i64 n)], .val false [.lit (.int .i64 m)], .val false [.lit (.int .i64 k)], .val true [.lit (.bool g), .sem (.dig a x)], .val true [.lit (.bool h), .sem (.dig b y)]] (avB true) :=
  (wk2 tM_ok tMb_ok (ds := [none, some false, none, some false, none, none, none, some false, some false, none, none, none, none, none, none, none, none, some true, none, none, some true, none, none, some true, none, none, some true, none, none]) (fuel := 40) (obs := [decide ((↑a : Int) > (6 : Int)) = false, decide ((↑b : Int) > (6 : Int)) = false, a ≤ 262143, b ≤ 262143, iv h y ≠ (0 : Int), nz (iv g x) ≤ a, nz (iv h y) ≤ b, a ≤ 524286, b ≤ 524287, iv h y ≠ (0 : Int), (1 : Int) ≤ (20 : Int), (20 : Int) ≤ (1000000 : Int), (-9223372036854775808 : Int) ≤ n, n ≤ (9223372036854775807 : Int), (-9223372036854775808 : Int) ≤ IntKind.wrap IntKind.i64 (n % (20 : Int) - (9 : Int)), IntKind.wrap IntKind.i64 (n % (20 : Int) - (9 : Int)) ≤ (9223372036854775807 : Int), (-9223372036854775808 : Int) ≤ (7 : Int), (7 : Int) ≤ (9223372036854775807 : Int), nq (Rat.divInt (IntKind.wrap IntKind.i64 (n % (20 : Int) - (9 : Int))) (7 : Int)) ≤ 65535, k < (0 : Int) ∨ (64 : Int) < k, k < (0 : Int) ∨ (64 : Int) < k, decide (Rat.divInt (iv g x) (iv h y) = Rat.divInt (iv g x) (iv h y)) = true, true = true, (-9223372036854775808 : Int) ≤ n, n ≤ (9223372036854775807 : Int), (-9223372036854775808 : Int) ≤ n, n ≤ (9223372036854775807 : Int), decide ((↑n : Rat) = (↑n : Rat)) = true, (-9223372036854775808 : Int) ≤ n, n ≤ (9223372036854775807 : Int), (-9223372036854775808 : Int) ≤ m, m ≤ (9223372036854775807 : Int), (-9223372036854775808 : Int) ≤ n, n ≤ (9223372036854775807 : Int), (-9223372036854775808 : Int) ≤ m, m ≤ (9223372036854775807 : Int), decide (Rat.divInt n m = Rat.divInt n m) = true]) (r := AV.val false [Seg.lit (Value.bool true)]) Tryz.func4 rfl (by kernel_rfl) (by simp only [AllP, and_true, true_and, decide_eq_true_eq, decide_eq_false_iff_not]; simp only [(mk_facts n).2]; have f1 := (mk_facts n).1; (repeat' apply And.intro) <;> first | rfl | assumption | omega | simp))

theorem makes_zg (n m k : Int) (g h : Bool) (a b x y : Nat) (_hn : -9223372036854775808 ≤ n ∧ n ≤ 9223372036854775807) (_hm : -9223372036854775808 ≤ m ∧ m ≤ 9223372036854775807) (_ha : a ≤ 6) (_hb : b ≤ 6) (_hx : nz (iv g x) ≤ a) (_hy : nz (iv h y) ≤ b) (_h0 : iv h y = 0) (_k0 : 0 ≤ k) (_k1 : k ≤ 64) : Cn 4 [.val false [.lit (.int .i64 n)], .val false [.lit (.int .i64 m)], .val false [.lit (.int .i64 k)], .val true [.lit (.bool g), .sem (.dig a x)], .val true [.lit (.bool h), .sem (.dig b y)]] (avB true) :=
  (wk2 tM_ok tMb_ok (ds := [none, some false, none, some false, none, some false, some false, none, none, none, none, none, none, none, none, none, none, some true, none, none, some true, none, none, some true, none, none, some true, none, none]) (fuel := 40) (obs := [decide ((↑a : Int) > (6 : Int)) = false, decide ((↑b : Int) > (6 : Int)) = false, b ≤ 262143, iv h y = (0 : Int), b ≤ 524287, iv h y = (0 : Int), (1 : Int) ≤ (20 : Int), (20 : Int) ≤ (1000000 : Int), (-9223372036854775808 : Int) ≤ n, n ≤ (9223372036854775807 : Int), (-9223372036854775808 : Int) ≤ IntKind.wrap IntKind.i64 (n % (20 : Int) - (9 : Int)), IntKind.wrap IntKind.i64 (n % (20 : Int) - (9 : Int)) ≤ (9223372036854775807 : Int), (-9223372036854775808 : Int) ≤ (7 : Int), (7 : Int) ≤ (9223372036854775807 : Int), nq (Rat.divInt (IntKind.wrap IntKind.i64 (n % (20 : Int) - (9 : Int))) (7 : Int)) ≤ 65535, (0 : Int) ≤ k, k ≤ (64 : Int), nq (Rat.divInt (IntKind.wrap IntKind.i64 (n % (20 : Int) - (9 : Int))) (7 : Int)) ≤ 900, nq (Rat.divInt (IntKind.wrap IntKind.i64 (n % (20 : Int) - (9 : Int))) (7 : Int)) ≤ 4000, (0 : Int) ≤ k, k ≤ (64 : Int), nq (Rat.divInt (IntKind.wrap IntKind.i64 (n % (20 : Int) - (9 : Int))) (7 : Int)) ≤ 900, true = true, decide (Rat.divInt (IntKind.wrap IntKind.i64 (n % (20 : Int) - (9 : Int))) (7 : Int) ^ Int.toNat k = Rat.divInt (IntKind.wrap IntKind.i64 (n % (20 : Int) - (9 : Int))) (7 : Int) ^ Int.toNat k) = true, (-9223372036854775808 : Int) ≤ n, n ≤ (9223372036854775807 : Int), (-9223372036854775808 : Int) ≤ n, n ≤ (9223372036854775807 : Int), decide ((↑n : Rat) = (↑n : Rat)) = true, (-9223372036854775808 : Int) ≤ n, n ≤ (9223372036854775807 : Int), (-9223372036854775808 : Int) ≤ m, m ≤ (9223372036854775807 : Int), (-9223372036854775808 : Int) ≤ n, n ≤ (9223372036854775807 : Int), (-9223372036854775808 : Int) ≤ m, m ≤ (9223372036854775807 : Int), decide (Rat.divInt n m = Rat.divInt n m) = true]) (r := AV.val false [Seg.lit (Value.bool true)]) Tryz.func4 rfl (by kernel_rfl) (by simp only [AllP, and_true, true_and, decide_eq_true_eq, decide_eq_false_iff_not]; simp only [(mk_facts n).2]; have f1 := (mk_facts n).1; (repeat' apply And.intro) <;> first | rfl | assumption | omega | simp))

theorem makes_zb (n m k : Int) (g h : Bool) (a b x y : Nat) (_hn : -9223372036854775808 ≤ n ∧ n ≤ 9223372036854775807) (_hm : -9223372036854775808 ≤ m ∧ m ≤ 9223372036854775807) (_ha : a ≤ 6) (_hb : b ≤ 6) (_hx : nz (iv g x) ≤ a) (_hy : nz (iv h y) ≤ b) (_h0 : iv h y = 0) (_k0 : k < 0 ∨ 64 < k) : Cn 4 [.val false [.lit (.int .i64 n)], .val false [.lit (.int .i64 m)], .val false [.lit (.int .i64 k)], .val true [.lit (.bool g), .sem (.dig a x)], .val true [.lit (.bool h), .sem (.dig b y)]] (avB true) :=
  (wk2 tM_ok tMb_ok (ds := [none, some false, none, some false, none, some false, some false, some false, some false, none, none, none, none, none, none, none, none, some true, none, none, some true, none, none, some true, none, none, some true, none, none]) (fuel := 40) (obs := [decide ((↑a : Int) > (6 : Int)) = false, decide ((↑b : Int) > (6 : Int)) = false, b ≤ 262143, iv h y = (0 : Int), b ≤ 524287, iv h y = (0 : Int), (1 : Int) ≤ (20 : Int), (20 : Int) ≤ (1000000 : Int), (-9223372036854775808 : Int) ≤ n, n ≤ (9223372036854775807 : Int), (-9223372036854775808 : Int) ≤ IntKind.wrap IntKind.i64 (n % (20 : Int) - (9 : Int)), IntKind.wrap IntKind.i64 (n % (20 : Int) - (9 : Int)) ≤ (9223372036854775807 : Int), (-9223372036854775808 : Int) ≤ (7 : Int), (7 : Int) ≤ (9223372036854775807 : Int), nq (Rat.divInt (IntKind.wrap IntKind.i64 (n % (20 : Int) - (9 : Int))) (7 : Int)) ≤ 65535, k < (0 : Int) ∨ (64 : Int) < k, k < (0 : Int) ∨ (64 : Int) < k, true = true, true = true, (-9223372036854775808 : Int) ≤ n, n ≤ (9223372036854775807 : Int), (-9223372036854775808 : Int) ≤ n, n ≤ (9223372036854775807 : Int), decide ((↑n : Rat) = (↑n : Rat)) = true, (-9223372036854775808 : Int) ≤ n, n ≤ (9223372036854775807 : Int), (-9223372036854775808 : Int) ≤ m, m ≤ (9223372036854775807 : Int), (-9223372036854775808 : Int) ≤ n, n ≤ (9223372036854775807 : Int), (-9223372036854775808 : Int) ≤ m, m ≤ (9223372036854775807 : Int), decide (Rat.divInt n m = Rat.divInt n m) = true]) (r := AV.val false [Seg.lit (Value.bool true)]) Tryz.func4 rfl (by kernel_rfl) (by simp only [AllP, and_true, true_and, decide_eq_true_eq, decide_eq_false_iff_not]; simp only [(mk_facts n).2]; have f1 := (mk_facts n).1; (repeat' apply And.intro) <;> first | rfl | assumption | omega | simp))

theorem makes_A (n m k : Int) (g h : Bool) (a b x y : Nat) (_ha : 6 < a) : Cn 4 [.val false [.lit (.int .i64 n)], .val false [.lit (.int .i64 m)], .val false [.lit (.int .i64 k)], .val true [.lit (.bool g), .sem (.dig a x)], .val true [.lit (.bool h), .sem (.dig b y)]] (avB true) :=
  (wk2 tM_ok tMb_ok (ds := [none, some true, none, none, none]) (fuel := 40) (obs := [decide ((↑a : Int) > (6 : Int)) = true]) (r := AV.val false [Seg.lit (Value.bool true)]) Tryz.func4 rfl (by kernel_rfl) (by simp only [AllP, and_true, decide_eq_true_eq]; omega))

theorem makes_B (n m k : Int) (g h : Bool) (a b x y : Nat) (_ha : a ≤ 6) (_hb : 6 < b) : Cn 4 [.val false [.lit (.int .i64 n)], .val false [.lit (.int .i64 m)], .val false [.lit (.int .i64 k)], .val true [.lit (.bool g), .sem (.dig a x)], .val true [.lit (.bool h), .sem (.dig b y)]] (avB true) :=
  (wk2 tM_ok tMb_ok (ds := [none, some false, none, some true, none, none, none]) (fuel := 40) (obs := [decide ((↑a : Int) > (6 : Int)) = false, decide ((↑b : Int) > (6 : Int)) = true]) (r := AV.val false [Seg.lit (Value.bool true)]) Tryz.func4 rfl (by kernel_rfl) (by simp only [AllP, and_true, decide_eq_true_eq, decide_eq_false_iff_not]; omega))

theorem holds_dig {w : World} {g : Bool} {p : Option Addr} {n c : Nat} {X : List Nat} (s : Sl w p n c X) : (AV.val true [.lit (.bool g), .sem (.dig n (val X))] : Av).holds Dn none' w (iw g p n c) :=
  ⟨[.bool g, .slice p n c], ⟨[.bool g], [.slice p n c], rfl, rfl, ⟨[.slice p n c], [], rfl, ⟨⟨rfl, by simp [cellOk]⟩, p, c, X, rfl, s, rfl⟩, rfl⟩⟩, rfl, fun h => by cases h⟩

theorem nz_iv {w : World} {g : Bool} {p : Option Addr} {n c : Nat} {X : List Nat} (s : Sl w p n c X) : nz (iv g (val X)) ≤ n := by
  have h : (iv g (val X)).natAbs = val X := by unfold iv; cases g <;> simp
  unfold nz
  rw [h]
  have h1 := dg_len_le (k := X.length) (val_lt s.dig)
  have h2 := s.len
  omega

theorem makes_any (n m k : Int) (g : Bool) (p : Option Addr) (a c : Nat) (X : List Nat) (h : Bool) (q : Option Addr) (b d : Nat) (Y : List Nat) (w : World) (ht : Tab w) (hn : -9223372036854775808 ≤ n ∧ n ≤ 9223372036854775807) (hm : -9223372036854775808 ≤ m ∧ m ≤ 9223372036854775807) (s : Sl w p a c X) (t : Sl w q b d Y) :
    Calls Tryz.prog 4 #[.int .i64 n, .int .i64 m, .int .i64 k, iw g p a c, iw h q b d] w (RB true w) := by
  have hv : avs Dn none' w [.val false [.lit (.int .i64 n)], .val false [.lit (.int .i64 m)], .val false [.lit (.int .i64 k)], .val true [.lit (.bool g), .sem (.dig a (val X))], .val true [.lit (.bool h), .sem (.dig b (val Y))]] [.int .i64 n, .int .i64 m, .int .i64 k, iw g p a c, iw h q b d] :=
    ⟨_, _, rfl, vl_lit _ _, _, _, rfl, vl_lit _ _, _, _, rfl, vl_lit _ _, _, _, rfl, holds_dig s, _, _, rfl, holds_dig t, rfl⟩
  have hx := nz_iv (g := g) s
  have hy := nz_iv (g := h) t
  by_cases ha : 6 < a
  · exact law_calls (makes_A n m k g h a b _ _ ha) ht hv
  by_cases hb : 6 < b
  · exact law_calls (makes_B n m k g h a b _ _ (by omega) hb) ht hv
  by_cases h0 : iv h (val Y) = 0
  · by_cases hk : k < 0 ∨ 64 < k
    · exact law_calls (makes_zb n m k g h a b _ _ hn hm (by omega) (by omega) hx hy h0 hk) ht hv
    · exact law_calls (makes_zg n m k g h a b _ _ hn hm (by omega) (by omega) hx hy h0 (by omega) (by omega)) ht hv
  · by_cases hk : k < 0 ∨ 64 < k
    · exact law_calls (makes_cb n m k g h a b _ _ hn hm (by omega) (by omega) hx hy h0 hk) ht hv
    · exact law_calls (makes_cg n m k g h a b _ _ hn hm (by omega) (by omega) hx hy h0 (by omega) (by omega)) ht hv

end Go.Proofs.YtagciepnhjbopaaGreatDoor
