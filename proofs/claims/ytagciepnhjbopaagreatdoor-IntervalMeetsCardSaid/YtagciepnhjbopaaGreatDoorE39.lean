/- What the statements of this claim stand on: of Q18, what they name -/
import Derived.Test.YtagciepnhjbopaaGreatDoorE38

namespace Go.Proofs.YtagciepnhjbopaaGreatDoor
open Go.RowKit En

abbrev lits6 (g : Bool) (p : Option Addr) (n c : Nat) (q : Option Addr) (m d : Nat) (g' : Bool) (p' : Option Addr) (n' c' : Nat) (q' : Option Addr) (m' d' : Nat) : Av := .val true [.lit (.bool g), .lit (.slice p n c), .lit (.slice q m d), .lit (.bool g'), .lit (.slice p' n' c'), .lit (.slice q' m' d')]

noncomputable def tSm : List Ent := [(14, k_small)]

theorem tSm_ok : EntsOk tSm := ⟨e_small, trivial⟩

theorem smallon_l (g : Bool) (p : Option Addr) (n c : Nat) (q : Option Addr) (m d : Nat) (g' : Bool) (p' : Option Addr) (n' c' : Nat) (q' : Option Addr) (m' d' : Nat) : Cn 61 [lits6 g p n c q m d g' p' n' c' q' m' d'] (avB ((decide (n ≤ 4) && decide (m ≤ 4)) && (decide (n' ≤ 4) && decide (m' ≤ 4)))) := by
  cases h : (decide (n ≤ 4) && decide (m ≤ 4))
  · exact (wk tSm_ok (ds := [none, some false, none, none, none]) (fuel := 40) (obs := [g = g ∧ p = p ∧ c = c ∧ q = q ∧ d = d, (match decide (n ≤ 4) with | false => false | true => decide (m ≤ 4)) = false]) (r := AV.val false [Seg.lit (Value.bool false)]) Tryz.func61 rfl (by kernel_rfl) ⟨⟨rfl, rfl, rfl, rfl, rfl⟩, h, trivial⟩)
  · exact (wk tSm_ok (ds := [none, some true, none, none, none, none]) (fuel := 40) (obs := [g = g ∧ p = p ∧ c = c ∧ q = q ∧ d = d, (match decide (n ≤ 4) with | false => false | true => decide (m ≤ 4)) = true, g' = g' ∧ p' = p' ∧ c' = c' ∧ q' = q' ∧ d' = d']) (r := AV.val false [Seg.lit (Value.bool (match decide (n' ≤ 4) with | false => false | true => decide (m' ≤ 4)))]) Tryz.func61 rfl (by kernel_rfl) ⟨⟨rfl, rfl, rfl, rfl, rfl⟩, h, ⟨rfl, rfl, rfl, rfl, rfl⟩, trivial⟩)

theorem smallon_k (r s : Rat) : Cn 61 [.val true (ivSegs 4 r s)] (avB true) :=
  (wk tSm_ok (ds := []) (fuel := 40) (obs := [r = r, s = s]) (r := AV.val false [Seg.lit (Value.bool true)]) Tryz.func61 rfl (by kernel_rfl) ⟨rfl, rfl, trivial⟩)

abbrev k_smallon : List Av → Option (List Prop × Av)
  | [.val true [.lit (.bool g), .lit (.slice p n c), .lit (.slice q m d), .lit (.bool g'), .lit (.slice p' n' c'), .lit (.slice q' m' d')]] => some ([(g = g ∧ p = p ∧ c = c ∧ q = q ∧ d = d) ∧ g' = g' ∧ p' = p' ∧ c' = c' ∧ q' = q' ∧ d' = d'], avB ((decide (n ≤ 4) && decide (m ≤ 4)) && (decide (n' ≤ 4) && decide (m' ≤ 4))))
  | [.val true [.sem (.rrat 4 r), .sem (.rrat 4 s)]] => some ([r = r ∧ s = s], avB true)
  | _ => none

theorem e_smallon (args : List Av) (obs : List Prop) (r : Av) (h : k_smallon args = some (obs, r)) (_ho : ∀ p ∈ obs, p) : Cn 61 args r := by
  unfold k_smallon at h
  split at h
  · cases h; exact smallon_l _ _ _ _ _ _ _ _ _ _ _ _ _ _
  · cases h; exact smallon_k _ _
  · cases h

theorem nq_ofInt (z : Int) (_h : z.natAbs ≤ 1000000) : nq ((z : Int) : Rat) ≤ 2 := by
  rw [← mk_int]
  have h5 := nq_mk z (d := 1) (by decide)
  have h6 : nz z ≤ 1 := dg_len_le (k := 1) (by rw [pB_one]; omega)
  have h7 : (dg 1).length = 1 := (by rw [dg_one]; rfl)
  omega

noncomputable def tA4 : List Ent := (63, ent [.vv, .vv] k_vdiv) :: (92, ent [.vv] k_vsquare) :: (tI4 ++ tJ3)

theorem tA4_ok : EntsOk tA4 := ⟨e_vdiv, e_vsquare, ents_append tI4_ok tJ3_ok⟩

noncomputable def tA4z : List Ent := [(63, ent [.vv, .vv] k_vdiv0)]

theorem tA4z_ok : EntsOk tA4z := ⟨e_vdiv0, trivial⟩

theorem awake04 : Cp 62 [] (avB true) := by
  exact cp_of (wk2 tA4_ok tA4z_ok (ds := [none, some false, none, none, some true, none, none, some true, none, none]) (fuel := 40) (obs := [(-9223372036854775808 : Int) ≤ (-1 : Int), (-1 : Int) ≤ (9223372036854775807 : Int), (-9223372036854775808 : Int) ≤ (2 : Int), (2 : Int) ≤ (9223372036854775807 : Int), 2 ≤ 32767, 2 ≤ 32767, (-9223372036854775808 : Int) ≤ (3 : Int), (3 : Int) ≤ (9223372036854775807 : Int), (-9223372036854775808 : Int) ≤ (4 : Int), (4 : Int) ≤ (9223372036854775807 : Int), 2 ≤ 32767, 2 ≤ 32767, 4 ≤ 65535, 4 ≤ 65535, 2 ≤ 9999, 2 ≤ 9999, 2 ≤ 9999, 2 ≤ 9999, (-9223372036854775808 : Int) ≤ (-1 : Int), (-1 : Int) ≤ (9223372036854775807 : Int), (-9223372036854775808 : Int) ≤ (2 : Int), (2 : Int) ≤ (9223372036854775807 : Int), 2 ≤ 32767, 2 ≤ 32767, 4 ≤ 30000, 2 ≤ 9999, 2 ≤ 9999, (-9223372036854775808 : Int) ≤ (-1 : Int), (-1 : Int) ≤ (9223372036854775807 : Int), (-9223372036854775808 : Int) ≤ (1 : Int), (1 : Int) ≤ (9223372036854775807 : Int), 2 ≤ 32767, 2 ≤ 32767, 4 ≤ 30000, sgnI (minQ (↑(-1 : Int) : Rat) (↑(1 : Int) : Rat)) (maxQ (↑(-1 : Int) : Rat) (↑(1 : Int) : Rat)) = (0 : Int), (-9223372036854775808 : Int) ≤ (-4 : Int), (-4 : Int) ≤ (9223372036854775807 : Int), (-9223372036854775808 : Int) ≤ (8 : Int), (8 : Int) ≤ (9223372036854775807 : Int), 2 ≤ 32767, 2 ≤ 32767, eqI (min4 (minQ (↑(-1 : Int) : Rat) (↑(2 : Int) : Rat) * minQ (↑(3 : Int) : Rat) (↑(4 : Int) : Rat)) (minQ (↑(-1 : Int) : Rat) (↑(2 : Int) : Rat) * maxQ (↑(3 : Int) : Rat) (↑(4 : Int) : Rat)) (maxQ (↑(-1 : Int) : Rat) (↑(2 : Int) : Rat) * minQ (↑(3 : Int) : Rat) (↑(4 : Int) : Rat)) (maxQ (↑(-1 : Int) : Rat) (↑(2 : Int) : Rat) * maxQ (↑(3 : Int) : Rat) (↑(4 : Int) : Rat))) (max4 (minQ (↑(-1 : Int) : Rat) (↑(2 : Int) : Rat) * minQ (↑(3 : Int) : Rat) (↑(4 : Int) : Rat)) (minQ (↑(-1 : Int) : Rat) (↑(2 : Int) : Rat) * maxQ (↑(3 : Int) : Rat) (↑(4 : Int) : Rat)) (maxQ (↑(-1 : Int) : Rat) (↑(2 : Int) : Rat) * minQ (↑(3 : Int) : Rat) (↑(4 : Int) : Rat)) (maxQ (↑(-1 : Int) : Rat) (↑(2 : Int) : Rat) * maxQ (↑(3 : Int) : Rat) (↑(4 : Int) : Rat))) (minQ (↑(-4 : Int) : Rat) (↑(8 : Int) : Rat)) (maxQ (↑(-4 : Int) : Rat) (↑(8 : Int) : Rat)) = true, (-9223372036854775808 : Int) ≤ (0 : Int), (0 : Int) ≤ (9223372036854775807 : Int), (-9223372036854775808 : Int) ≤ (4 : Int), (4 : Int) ≤ (9223372036854775807 : Int), 1 ≤ 32767, 2 ≤ 32767, eqI (sqLo (minQ (↑(-1 : Int) : Rat) (↑(2 : Int) : Rat)) (maxQ (↑(-1 : Int) : Rat) (↑(2 : Int) : Rat))) (maxQ (minQ (↑(-1 : Int) : Rat) (↑(2 : Int) : Rat) * minQ (↑(-1 : Int) : Rat) (↑(2 : Int) : Rat)) (maxQ (↑(-1 : Int) : Rat) (↑(2 : Int) : Rat) * maxQ (↑(-1 : Int) : Rat) (↑(2 : Int) : Rat))) (minQ (↑(0 : Int) : Rat) (↑(4 : Int) : Rat)) (maxQ (↑(0 : Int) : Rat) (↑(4 : Int) : Rat)) = true]) (r := AV.val false [Seg.lit (Value.bool true)]) Tryz.func62 rfl (by kernel_rfl) (by simp only [AllP, and_true]; (repeat' apply And.intro) <;> first | decide | exact Nat.le_trans (nq_small (by decide +kernel) (by decide +kernel)) (by decide) | decide +kernel))

abbrev k_awake04 : List Pa → Option (List Prop × Av)
  | [] => some ([], avB true)
  | _ => none

theorem e_awake04 (args : List Av) (obs : List Prop) (r : Av) : ent [] k_awake04 args = some (obs, r) → (∀ p ∈ obs, p) → Cn 62 args r :=
  ent_ok (fun ps obs r h ho => by
    unfold k_awake04 at h
    split at h
    · cases h; exact awake04
    · cases h) args obs r

theorem mm_lo (r s : Rat) : minQ (minQ r s) (maxQ r s) = minQ r s := by unfold minQ maxQ; grind

theorem mm_hi (r s : Rat) : maxQ (minQ r s) (maxQ r s) = maxQ r s := by unfold minQ maxQ; grind

theorem nq_eighth (k : Int) (_h0 : 0 ≤ k) (_h8 : k ≤ 8) : nq (Rat.divInt k 8) ≤ 3 := by
  have h := nq_dI k 8
  have h1 : nz k ≤ 1 := dg_len_le (k := 1) (by rw [pB_one]; omega)
  have h2 : nz 8 ≤ 1 := dg_len_le (k := 1) (by rw [pB_one]; decide)
  omega

abbrev atQ (r s : Rat) (n : Int) : Rat := minQ r s + (maxQ r s - minQ r s) * Rat.divInt (n % 9) 8

theorem nq_at (r s : Rat) (n : Int) : nq (atQ r s n) ≤ 10 * nq r + 10 * nq s + 9 := by
  have h1 := nq_minQ r s
  have h2 := nq_maxQ r s
  have h3 := nq_eighth (n % 9) (by omega) (by omega)
  have h4 := nq_sub (maxQ r s) (minQ r s)
  have h5 := nq_mul (maxQ r s - minQ r s) (Rat.divInt (n % 9) 8)
  have h6 := nq_add' (minQ r s) ((maxQ r s - minQ r s) * Rat.divInt (n % 9) 8)
  unfold atQ
  omega

theorem between_c (L : Nat) (r s : Rat) (n : Int) (_hL : L ≤ 30000) (_hr : nq r ≤ 99) (_hs : nq s ≤ 99) (_h0 : -9223372036854775808 ≤ n) (_h1 : n ≤ 9223372036854775807) : Cp 96 [.vv L r s, .l (.int .i64 n)] (sv (.rat (atQ r s n))) := by
  have a1 := nq_minQ r s
  have a2 := nq_maxQ r s
  have a3 := nq_eighth (n % 9) (by omega) (by omega)
  have a4 := nq_sub (maxQ r s) (minQ r s)
  have a5 := nq_mul (maxQ r s - minQ r s) (Rat.divInt (n % 9) 8)
  have h := (cp_of (wk tJ3_ok (ds := []) (fuel := 40) (obs := [L + L ≤ 65535, nq (minQ r s) + nq (maxQ r s) ≤ 30000, nq (minQ r s) ≤ 9999, nq (maxQ r s) ≤ 9999, (1 : Int) ≤ (9 : Int), (9 : Int) ≤ (1000000 : Int), (-9223372036854775808 : Int) ≤ n, n ≤ (9223372036854775807 : Int), (-9223372036854775808 : Int) ≤ n % (9 : Int), n % (9 : Int) ≤ (9223372036854775807 : Int), (-9223372036854775808 : Int) ≤ (8 : Int), (8 : Int) ≤ (9223372036854775807 : Int), nq (maxQ (minQ r s) (maxQ r s) - minQ (minQ r s) (maxQ r s)) ≤ 65535, nq (Rat.divInt (n % (9 : Int)) (8 : Int)) ≤ 65535, nq (minQ r s) ≤ 65535, nq ((maxQ (minQ r s) (maxQ r s) - minQ (minQ r s) (maxQ r s)) * Rat.divInt (n % (9 : Int)) (8 : Int)) ≤ 65535]) (r := AV.val (true) [Seg.sem (Kn.rat (minQ r s + (maxQ (minQ r s) (maxQ r s) - minQ (minQ r s) (maxQ r s)) * Rat.divInt (n % (9 : Int)) (8 : Int)))]) Tryz.func96 rfl (by kernel_rfl) (by simp only [AllP, and_true]; rw [mm_lo, mm_hi]; (repeat' apply And.intro) <;> omega)) : Cp 96 [.vv L r s, .l (.int .i64 n)] _)
  rw [mm_lo, mm_hi] at h
  exact h

abbrev k_between : List Pa → Option (List Prop × Av)
  | [.vv L r s, .l (.int .i64 n)] => some ([L ≤ 30000, nq r ≤ 99, nq s ≤ 99, -9223372036854775808 ≤ n, n ≤ 9223372036854775807], sv (.rat (atQ r s n)))
  | _ => none

theorem e_between (args : List Av) (obs : List Prop) (r : Av) : ent [.vv, .l] k_between args = some (obs, r) → (∀ p ∈ obs, p) → Cn 96 args r :=
  ent_ok (fun ps obs r h ho => by
    unfold k_between at h
    split at h
    · cases h; exact between_c _ _ _ _ (ho _ (by simp)) (ho _ (by simp)) (ho _ (by simp)) (ho _ (by simp)) (ho _ (by simp))
    · cases h) args obs r

noncomputable def tE4 : List Ent := (96, ent [.vv, .l] k_between) :: (62, ent [] k_awake04) :: (61, k_smallon) :: tA4

theorem tE4_ok : EntsOk tE4 := ⟨e_between, e_awake04, e_smallon, tA4_ok⟩

theorem nq_min4 (a b c d : Rat) : nq (min4 a b c d) ≤ nq a + nq b + nq c + nq d := by
  have h1 := nq_minQ a b
  have h2 := nq_minQ c d
  have h3 := nq_minQ (minQ a b) (minQ c d)
  unfold min4
  omega

theorem nq_max4 (a b c d : Rat) : nq (max4 a b c d) ≤ nq a + nq b + nq c + nq d := by
  have h1 := nq_maxQ a b
  have h2 := nq_maxQ c d
  have h3 := nq_maxQ (maxQ a b) (maxQ c d)
  unfold max4
  omega

theorem nq_over (x y : Rat) : nq (x / y) ≤ nq x + nq y + 1 := by
  have e : x / y = x * (1 / y) := by rw [Rat.div_def, Rat.div_def 1, Rat.one_mul]
  rw [e]
  have h1 := nq_mul x (1 / y)
  have h2 := nq_inv y
  omega

theorem nq_mulI (r s t u : Rat) : nq (min4 (r * t) (r * u) (s * t) (s * u)) ≤ 2 * (nq r + nq s + nq t + nq u) ∧ nq (max4 (r * t) (r * u) (s * t) (s * u)) ≤ 2 * (nq r + nq s + nq t + nq u) := by
  have h1 := nq_mul r t
  have h2 := nq_mul r u
  have h3 := nq_mul s t
  have h4 := nq_mul s u
  have h5 := nq_min4 (r * t) (r * u) (s * t) (s * u)
  have h6 := nq_max4 (r * t) (r * u) (s * t) (s * u)
  omega

theorem nq_sqI (r s : Rat) : nq (sqLo r s) ≤ 2 * nq r + 2 * nq s + 2 ∧ nq (maxQ (r * r) (s * s)) ≤ 2 * nq r + 2 * nq s := by
  have h1 := nq_mul r r
  have h2 := nq_mul s s
  have h3 := nq_minQ (r * r) (s * s)
  have h4 := nq_maxQ (r * r) (s * s)
  have h5 := nq_ofInt 0 (by decide)
  have h6 : nq 0 ≤ 2 := h5
  refine ⟨?_, by omega⟩
  unfold sqLo
  split <;> omega

theorem nq_sumI (r s t u : Rat) : nq (minQ r s + minQ t u) ≤ 2 * (nq r + nq s + nq t + nq u) + 1 ∧ nq (maxQ r s + maxQ t u) ≤ 2 * (nq r + nq s + nq t + nq u) + 1 ∧ nq (minQ r s - maxQ t u) ≤ 2 * (nq r + nq s + nq t + nq u) + 1 ∧ nq (maxQ r s - minQ t u) ≤ 2 * (nq r + nq s + nq t + nq u) + 1 := by
  have h1 := nq_minQ r s
  have h2 := nq_maxQ r s
  have h3 := nq_minQ t u
  have h4 := nq_maxQ t u
  have h5 := nq_add' (minQ r s) (minQ t u)
  have h6 := nq_add' (maxQ r s) (maxQ t u)
  have h7 := nq_sub (minQ r s) (maxQ t u)
  have h8 := nq_sub (maxQ r s) (minQ t u)
  omega

structure EncF (r s t u x y : Rat) : Prop where
  nx : nq x ≤ 400
  ny : nq y ≤ 400
  xy : nq (x + y) ≤ 2000 ∧ nq (x - y) ≤ 2000 ∧ nq (x * y) ≤ 2000 ∧ nq (x * x) ≤ 2000 ∧ nq (x / y) ≤ 2000
  sum : nq (minQ r s + minQ t u) ≤ 100 ∧ nq (maxQ r s + maxQ t u) ≤ 100 ∧ nq (minQ r s - maxQ t u) ≤ 100 ∧ nq (maxQ r s - minQ t u) ≤ 100
  mul : nq (min4 (r * t) (r * u) (s * t) (s * u)) ≤ 100 ∧ nq (max4 (r * t) (r * u) (s * t) (s * u)) ≤ 100
  sq : nq (sqLo r s) ≤ 100 ∧ nq (maxQ (r * r) (s * s)) ≤ 100
  c1 : ctn (minQ r s + minQ t u) (maxQ r s + maxQ t u) (x + y) = true
  c2 : ctn (minQ r s - maxQ t u) (maxQ r s - minQ t u) (x - y) = true
  c3 : ctn (min4 (r * t) (r * u) (s * t) (s * u)) (max4 (r * t) (r * u) (s * t) (s * u)) (x * y) = true
  c4 : ctn (sqLo r s) (maxQ (r * r) (s * s)) (x * x) = true
  c5 : ctn r s x = true

theorem enc_facts {r s t u x y : Rat} (_hr : nq r ≤ 9) (_hs : nq s ≤ 9) (_ht : nq t ≤ 9) (_hu : nq u ≤ 9) (hx : Btw r s x) (hy : Btw t u y) (nx : nq x ≤ 400) (ny : nq y ≤ 400) : EncF r s t u x y := by
  have h1 := nq_add' x y
  have h2 := nq_sub x y
  have h3 := nq_mul x y
  have h4 := nq_mul x x
  have h5 := nq_over x y
  have h6 := nq_sumI r s t u
  have h7 := nq_mulI r s t u
  have h8 := nq_sqI r s
  exact ⟨nx, ny, by omega, by omega, by omega, by omega, btw_sum hx hy, btw_diff hx hy, btw_mulI hx hy, btw_sq hx, (ctn_iff _ _ _).2 hx⟩

theorem encl_c (r s t u : Rat) (n m : Int) (hr : nq r ≤ 9) (hs : nq s ≤ 9) (ht : nq t ≤ 9) (hu : nq u ≤ 9) (_n0 : -9223372036854775808 ≤ n) (_n1 : n ≤ 9223372036854775807) (_m0 : -9223372036854775808 ≤ m) (_m1 : m ≤ 9223372036854775807) (h : sgnI t u ≠ 0) : Cn 11 [.val true (ivSegs 4 r s), .val true (ivSegs 4 t u), .val false [.lit (.int .i64 n)], .val false [.lit (.int .i64 m)]] (avB true) := by
  have e1 := eighth (n % 9) (by omega) (by omega)
  have e2 := eighth (m % 9) (by omega) (by omega)
  have a1 := nq_at r s n
  have a2 := nq_at t u m
  have hx : Btw r s (atQ r s n) := btw_at e1.1 e1.2
  have hy : Btw t u (atQ t u m) := btw_at e2.1 e2.2
  obtain ⟨b1, b2, b3, b4, b5, b6, c1, c2, c3, c4, c5⟩ := enc_facts hr hs ht hu hx hy (by omega) (by omega)
  have b7 := nq_mulI r s (1 / t) (1 / u)
  have b8 := nq_inv t
  have b9 := nq_inv u
  have c6 := btw_divI h hx hy
  simp only [atQ] at *
  exact (wk2 tE4_ok tA4z_ok (ds := [none, none, none, none, none, none, none, none, none, none, some true, none, none, none, none, some true, none, none, some true, none, none, some true, none, none, some true, none, none, some true, none, none]) (fuel := 40) (obs := [r = r ∧ s = s, t = t ∧ u = u, 4 + 4 ≤ 30000, nq r ≤ 99, nq s ≤ 99, (-9223372036854775808 : Int) ≤ n, n ≤ (9223372036854775807 : Int), 4 + 4 ≤ 30000, nq t ≤ 99, nq u ≤ 99, (-9223372036854775808 : Int) ≤ m, m ≤ (9223372036854775807 : Int), 4 + 4 ≤ 30000, 4 + 4 ≤ 30000, nq r ≤ 4999, nq s ≤ 4999, nq t ≤ 4999, nq u ≤ 4999, sgnI t u ≠ (0 : Int), nq (minQ r s + (maxQ r s - minQ r s) * Rat.divInt (n % (9 : Int)) (8 : Int)) ≤ 65535, nq (minQ t u + (maxQ t u - minQ t u) * Rat.divInt (m % (9 : Int)) (8 : Int)) ≤ 65535, nq (min4 (r * ((1 : Rat) / t)) (r * ((1 : Rat) / u)) (s * ((1 : Rat) / t)) (s * ((1 : Rat) / u))) + nq (max4 (r * ((1 : Rat) / t)) (r * ((1 : Rat) / u)) (s * ((1 : Rat) / t)) (s * ((1 : Rat) / u))) ≤ 30000, nq ((minQ r s + (maxQ r s - minQ r s) * Rat.divInt (n % (9 : Int)) (8 : Int)) / (minQ t u + (maxQ t u - minQ t u) * Rat.divInt (m % (9 : Int)) (8 : Int))) ≤ 65535, nq (min4 (r * ((1 : Rat) / t)) (r * ((1 : Rat) / u)) (s * ((1 : Rat) / t)) (s * ((1 : Rat) / u))) ≤ 9999, nq (max4 (r * ((1 : Rat) / t)) (r * ((1 : Rat) / u)) (s * ((1 : Rat) / t)) (s * ((1 : Rat) / u))) ≤ 9999, ctn (min4 (r * ((1 : Rat) / t)) (r * ((1 : Rat) / u)) (s * ((1 : Rat) / t)) (s * ((1 : Rat) / u))) (max4 (r * ((1 : Rat) / t)) (r * ((1 : Rat) / u)) (s * ((1 : Rat) / t)) (s * ((1 : Rat) / u))) ((minQ r s + (maxQ r s - minQ r s) * Rat.divInt (n % (9 : Int)) (8 : Int)) / (minQ t u + (maxQ t u - minQ t u) * Rat.divInt (m % (9 : Int)) (8 : Int))) = true, 4 + 4 ≤ 8000, 4 + 4 ≤ 8000, nq (minQ r s + (maxQ r s - minQ r s) * Rat.divInt (n % (9 : Int)) (8 : Int)) ≤ 65535, nq (minQ t u + (maxQ t u - minQ t u) * Rat.divInt (m % (9 : Int)) (8 : Int)) ≤ 65535, nq (minQ r s + minQ t u) + nq (maxQ r s + maxQ t u) ≤ 30000, nq (minQ r s + (maxQ r s - minQ r s) * Rat.divInt (n % (9 : Int)) (8 : Int) + (minQ t u + (maxQ t u - minQ t u) * Rat.divInt (m % (9 : Int)) (8 : Int))) ≤ 65535, nq (minQ r s + minQ t u) ≤ 9999, nq (maxQ r s + maxQ t u) ≤ 9999, ctn (minQ r s + minQ t u) (maxQ r s + maxQ t u) (minQ r s + (maxQ r s - minQ r s) * Rat.divInt (n % (9 : Int)) (8 : Int) + (minQ t u + (maxQ t u - minQ t u) * Rat.divInt (m % (9 : Int)) (8 : Int))) = true, 4 + 4 ≤ 8000, 4 + 4 ≤ 8000, nq (minQ r s + (maxQ r s - minQ r s) * Rat.divInt (n % (9 : Int)) (8 : Int)) ≤ 65535, nq (minQ t u + (maxQ t u - minQ t u) * Rat.divInt (m % (9 : Int)) (8 : Int)) ≤ 65535, nq (minQ t u + (maxQ t u - minQ t u) * Rat.divInt (m % (9 : Int)) (8 : Int)) ≤ 65535, nq (minQ r s - maxQ t u) + nq (maxQ r s - minQ t u) ≤ 30000, nq (minQ r s + (maxQ r s - minQ r s) * Rat.divInt (n % (9 : Int)) (8 : Int) - (minQ t u + (maxQ t u - minQ t u) * Rat.divInt (m % (9 : Int)) (8 : Int))) ≤ 65535, nq (minQ r s - maxQ t u) ≤ 9999, nq (maxQ r s - minQ t u) ≤ 9999, ctn (minQ r s - maxQ t u) (maxQ r s - minQ t u) (minQ r s + (maxQ r s - minQ r s) * Rat.divInt (n % (9 : Int)) (8 : Int) - (minQ t u + (maxQ t u - minQ t u) * Rat.divInt (m % (9 : Int)) (8 : Int))) = true, 4 + 4 ≤ 65535, 4 + 4 ≤ 65535, nq r ≤ 9999, nq s ≤ 9999, nq t ≤ 9999, nq u ≤ 9999, nq (minQ r s + (maxQ r s - minQ r s) * Rat.divInt (n % (9 : Int)) (8 : Int)) ≤ 65535, nq (minQ t u + (maxQ t u - minQ t u) * Rat.divInt (m % (9 : Int)) (8 : Int)) ≤ 65535, nq (min4 (r * t) (r * u) (s * t) (s * u)) + nq (max4 (r * t) (r * u) (s * t) (s * u)) ≤ 30000, nq ((minQ r s + (maxQ r s - minQ r s) * Rat.divInt (n % (9 : Int)) (8 : Int)) * (minQ t u + (maxQ t u - minQ t u) * Rat.divInt (m % (9 : Int)) (8 : Int))) ≤ 65535, nq (min4 (r * t) (r * u) (s * t) (s * u)) ≤ 9999, nq (max4 (r * t) (r * u) (s * t) (s * u)) ≤ 9999, ctn (min4 (r * t) (r * u) (s * t) (s * u)) (max4 (r * t) (r * u) (s * t) (s * u)) ((minQ r s + (maxQ r s - minQ r s) * Rat.divInt (n % (9 : Int)) (8 : Int)) * (minQ t u + (maxQ t u - minQ t u) * Rat.divInt (m % (9 : Int)) (8 : Int))) = true, 4 + 4 ≤ 30000, nq r ≤ 9999, nq s ≤ 9999, nq (minQ r s + (maxQ r s - minQ r s) * Rat.divInt (n % (9 : Int)) (8 : Int)) ≤ 65535, nq (minQ r s + (maxQ r s - minQ r s) * Rat.divInt (n % (9 : Int)) (8 : Int)) ≤ 65535, nq (sqLo r s) + nq (maxQ (r * r) (s * s)) ≤ 30000, nq ((minQ r s + (maxQ r s - minQ r s) * Rat.divInt (n % (9 : Int)) (8 : Int)) * (minQ r s + (maxQ r s - minQ r s) * Rat.divInt (n % (9 : Int)) (8 : Int))) ≤ 65535, nq (sqLo r s) ≤ 9999, nq (maxQ (r * r) (s * s)) ≤ 9999, ctn (sqLo r s) (maxQ (r * r) (s * s)) ((minQ r s + (maxQ r s - minQ r s) * Rat.divInt (n % (9 : Int)) (8 : Int)) * (minQ r s + (maxQ r s - minQ r s) * Rat.divInt (n % (9 : Int)) (8 : Int))) = true, 4 + 4 ≤ 30000, nq (minQ r s + (maxQ r s - minQ r s) * Rat.divInt (n % (9 : Int)) (8 : Int)) ≤ 65535, ctn r s (minQ r s + (maxQ r s - minQ r s) * Rat.divInt (n % (9 : Int)) (8 : Int)) = true]) (r := AV.val false [Seg.lit (Value.bool true)]) Tryz.func11 rfl (by kernel_rfl) (by simp only [AllP, and_true, true_and]; (repeat' apply And.intro) <;> first | assumption | omega))

theorem encl_z (r s t u : Rat) (n m : Int) (hr : nq r ≤ 9) (hs : nq s ≤ 9) (ht : nq t ≤ 9) (hu : nq u ≤ 9) (_n0 : -9223372036854775808 ≤ n) (_n1 : n ≤ 9223372036854775807) (_m0 : -9223372036854775808 ≤ m) (_m1 : m ≤ 9223372036854775807) (_h : sgnI t u = 0) : Cn 11 [.val true (ivSegs 4 r s), .val true (ivSegs 4 t u), .val false [.lit (.int .i64 n)], .val false [.lit (.int .i64 m)]] (avB true) := by
  have e1 := eighth (n % 9) (by omega) (by omega)
  have e2 := eighth (m % 9) (by omega) (by omega)
  have a1 := nq_at r s n
  have a2 := nq_at t u m
  have hx : Btw r s (atQ r s n) := btw_at e1.1 e1.2
  have hy : Btw t u (atQ t u m) := btw_at e2.1 e2.2
  obtain ⟨b1, b2, b3, b4, b5, b6, c1, c2, c3, c4, c5⟩ := enc_facts hr hs ht hu hx hy (by omega) (by omega)
  simp only [atQ] at *
  exact (wk2 tE4_ok tA4z_ok (ds := [none, none, none, none, none, none, none, some false, none, none, none, none, none, some true, none, none, some true, none, none, some true, none, none, some true, none, none, some true, none, none]) (fuel := 40) (obs := [r = r ∧ s = s, t = t ∧ u = u, 4 + 4 ≤ 30000, nq r ≤ 99, nq s ≤ 99, (-9223372036854775808 : Int) ≤ n, n ≤ (9223372036854775807 : Int), 4 + 4 ≤ 30000, nq t ≤ 99, nq u ≤ 99, (-9223372036854775808 : Int) ≤ m, m ≤ (9223372036854775807 : Int), 4 + 4 ≤ 30000, sgnI t u = (0 : Int), 4 + 4 ≤ 8000, 4 + 4 ≤ 8000, nq (minQ r s + (maxQ r s - minQ r s) * Rat.divInt (n % (9 : Int)) (8 : Int)) ≤ 65535, nq (minQ t u + (maxQ t u - minQ t u) * Rat.divInt (m % (9 : Int)) (8 : Int)) ≤ 65535, nq (minQ r s + minQ t u) + nq (maxQ r s + maxQ t u) ≤ 30000, nq (minQ r s + (maxQ r s - minQ r s) * Rat.divInt (n % (9 : Int)) (8 : Int) + (minQ t u + (maxQ t u - minQ t u) * Rat.divInt (m % (9 : Int)) (8 : Int))) ≤ 65535, nq (minQ r s + minQ t u) ≤ 9999, nq (maxQ r s + maxQ t u) ≤ 9999, ctn (minQ r s + minQ t u) (maxQ r s + maxQ t u) (minQ r s + (maxQ r s - minQ r s) * Rat.divInt (n % (9 : Int)) (8 : Int) + (minQ t u + (maxQ t u - minQ t u) * Rat.divInt (m % (9 : Int)) (8 : Int))) = true, 4 + 4 ≤ 8000, 4 + 4 ≤ 8000, nq (minQ r s + (maxQ r s - minQ r s) * Rat.divInt (n % (9 : Int)) (8 : Int)) ≤ 65535, nq (minQ t u + (maxQ t u - minQ t u) * Rat.divInt (m % (9 : Int)) (8 : Int)) ≤ 65535, nq (minQ t u + (maxQ t u - minQ t u) * Rat.divInt (m % (9 : Int)) (8 : Int)) ≤ 65535, nq (minQ r s - maxQ t u) + nq (maxQ r s - minQ t u) ≤ 30000, nq (minQ r s + (maxQ r s - minQ r s) * Rat.divInt (n % (9 : Int)) (8 : Int) - (minQ t u + (maxQ t u - minQ t u) * Rat.divInt (m % (9 : Int)) (8 : Int))) ≤ 65535, nq (minQ r s - maxQ t u) ≤ 9999, nq (maxQ r s - minQ t u) ≤ 9999, ctn (minQ r s - maxQ t u) (maxQ r s - minQ t u) (minQ r s + (maxQ r s - minQ r s) * Rat.divInt (n % (9 : Int)) (8 : Int) - (minQ t u + (maxQ t u - minQ t u) * Rat.divInt (m % (9 : Int)) (8 : Int))) = true, 4 + 4 ≤ 65535, 4 + 4 ≤ 65535, nq r ≤ 9999, nq s ≤ 9999, nq t ≤ 9999, nq u ≤ 9999, nq (minQ r s + (maxQ r s - minQ r s) * Rat.divInt (n % (9 : Int)) (8 : Int)) ≤ 65535, nq (minQ t u + (maxQ t u - minQ t u) * Rat.divInt (m % (9 : Int)) (8 : Int)) ≤ 65535, nq (min4 (r * t) (r * u) (s * t) (s * u)) + nq (max4 (r * t) (r * u) (s * t) (s * u)) ≤ 30000, nq ((minQ r s + (maxQ r s - minQ r s) * Rat.divInt (n % (9 : Int)) (8 : Int)) * (minQ t u + (maxQ t u - minQ t u) * Rat.divInt (m % (9 : Int)) (8 : Int))) ≤ 65535, nq (min4 (r * t) (r * u) (s * t) (s * u)) ≤ 9999, nq (max4 (r * t) (r * u) (s * t) (s * u)) ≤ 9999, ctn (min4 (r * t) (r * u) (s * t) (s * u)) (max4 (r * t) (r * u) (s * t) (s * u)) ((minQ r s + (maxQ r s - minQ r s) * Rat.divInt (n % (9 : Int)) (8 : Int)) * (minQ t u + (maxQ t u - minQ t u) * Rat.divInt (m % (9 : Int)) (8 : Int))) = true, 4 + 4 ≤ 30000, nq r ≤ 9999, nq s ≤ 9999, nq (minQ r s + (maxQ r s - minQ r s) * Rat.divInt (n % (9 : Int)) (8 : Int)) ≤ 65535, nq (minQ r s + (maxQ r s - minQ r s) * Rat.divInt (n % (9 : Int)) (8 : Int)) ≤ 65535, nq (sqLo r s) + nq (maxQ (r * r) (s * s)) ≤ 30000, nq ((minQ r s + (maxQ r s - minQ r s) * Rat.divInt (n % (9 : Int)) (8 : Int)) * (minQ r s + (maxQ r s - minQ r s) * Rat.divInt (n % (9 : Int)) (8 : Int))) ≤ 65535, nq (sqLo r s) ≤ 9999, nq (maxQ (r * r) (s * s)) ≤ 9999, ctn (sqLo r s) (maxQ (r * r) (s * s)) ((minQ r s + (maxQ r s - minQ r s) * Rat.divInt (n % (9 : Int)) (8 : Int)) * (minQ r s + (maxQ r s - minQ r s) * Rat.divInt (n % (9 : Int)) (8 : Int))) = true, 4 + 4 ≤ 30000, nq (minQ r s + (maxQ r s - minQ r s) * Rat.divInt (n % (9 : Int)) (8 : Int)) ≤ 65535, ctn r s (minQ r s + (maxQ r s - minQ r s) * Rat.divInt (n % (9 : Int)) (8 : Int)) = true]) (r := AV.val false [Seg.lit (Value.bool true)]) Tryz.func11 rfl (by kernel_rfl) (by simp only [AllP, and_true, true_and]; (repeat' apply And.intro) <;> first | assumption | omega))

theorem encl_A (g1 : Bool) (p1 : Option Addr) (n1 c1 : Nat) (q1 : Option Addr) (m1 d1 : Nat) (g2 : Bool) (p2 : Option Addr) (n2 c2 : Nat) (q2 : Option Addr) (m2 d2 : Nat) (g3 : Bool) (p3 : Option Addr) (n3 c3 : Nat) (q3 : Option Addr) (m3 d3 : Nat) (g4 : Bool) (p4 : Option Addr) (n4 c4 : Nat) (q4 : Option Addr) (m4 d4 : Nat) (n m : Int) (h : ((decide (n1 ≤ 4) && decide (m1 ≤ 4)) && (decide (n2 ≤ 4) && decide (m2 ≤ 4))) = false) : Cn 11 [lits6 g1 p1 n1 c1 q1 m1 d1 g2 p2 n2 c2 q2 m2 d2, lits6 g3 p3 n3 c3 q3 m3 d3 g4 p4 n4 c4 q4 m4 d4, .val false [.lit (.int .i64 n)], .val false [.lit (.int .i64 m)]] (avB true) :=
  (wk tE4_ok (ds := [none, some false]) (fuel := 40) (obs := [(g1 = g1 ∧ p1 = p1 ∧ c1 = c1 ∧ q1 = q1 ∧ d1 = d1) ∧ g2 = g2 ∧ p2 = p2 ∧ c2 = c2 ∧ q2 = q2 ∧ d2 = d2, (match match decide (n1 ≤ 4) with | false => false | true => decide (m1 ≤ 4) with | false => false | true => decide (n2 ≤ 4) && decide (m2 ≤ 4)) = false]) (r := AV.val false [Seg.lit (Value.bool true)]) Tryz.func11 rfl (by kernel_rfl) ⟨⟨⟨rfl, rfl, rfl, rfl, rfl⟩, rfl, rfl, rfl, rfl, rfl⟩, h, trivial⟩)

theorem encl_B (g1 : Bool) (p1 : Option Addr) (n1 c1 : Nat) (q1 : Option Addr) (m1 d1 : Nat) (g2 : Bool) (p2 : Option Addr) (n2 c2 : Nat) (q2 : Option Addr) (m2 d2 : Nat) (g3 : Bool) (p3 : Option Addr) (n3 c3 : Nat) (q3 : Option Addr) (m3 d3 : Nat) (g4 : Bool) (p4 : Option Addr) (n4 c4 : Nat) (q4 : Option Addr) (m4 d4 : Nat) (n m : Int) (h : ((decide (n1 ≤ 4) && decide (m1 ≤ 4)) && (decide (n2 ≤ 4) && decide (m2 ≤ 4))) = true) (h' : ((decide (n3 ≤ 4) && decide (m3 ≤ 4)) && (decide (n4 ≤ 4) && decide (m4 ≤ 4))) = false) : Cn 11 [lits6 g1 p1 n1 c1 q1 m1 d1 g2 p2 n2 c2 q2 m2 d2, lits6 g3 p3 n3 c3 q3 m3 d3 g4 p4 n4 c4 q4 m4 d4, .val false [.lit (.int .i64 n)], .val false [.lit (.int .i64 m)]] (avB true) :=
  (wk tE4_ok (ds := [none, some true, none, none, some false]) (fuel := 40) (obs := [(g1 = g1 ∧ p1 = p1 ∧ c1 = c1 ∧ q1 = q1 ∧ d1 = d1) ∧ g2 = g2 ∧ p2 = p2 ∧ c2 = c2 ∧ q2 = q2 ∧ d2 = d2, (match match decide (n1 ≤ 4) with | false => false | true => decide (m1 ≤ 4) with | false => false | true => decide (n2 ≤ 4) && decide (m2 ≤ 4)) = true, (g3 = g3 ∧ p3 = p3 ∧ c3 = c3 ∧ q3 = q3 ∧ d3 = d3) ∧ g4 = g4 ∧ p4 = p4 ∧ c4 = c4 ∧ q4 = q4 ∧ d4 = d4, (match match decide (n3 ≤ 4) with | false => false | true => decide (m3 ≤ 4) with | false => false | true => decide (n4 ≤ 4) && decide (m4 ≤ 4)) = false]) (r := AV.val false [Seg.lit (Value.bool true)]) Tryz.func11 rfl (by kernel_rfl) ⟨⟨⟨rfl, rfl, rfl, rfl, rfl⟩, rfl, rfl, rfl, rfl, rfl⟩, h, ⟨⟨rfl, rfl, rfl, rfl, rfl⟩, rfl, rfl, rfl, rfl, rfl⟩, h', trivial⟩)

theorem iv_small {w : World} {g1 : Bool} {p1 : Option Addr} {n1 c1 : Nat} {X1 : List Nat} {q1 : Option Addr} {m1 d1 : Nat} {Y1 : List Nat} {g2 : Bool} {p2 : Option Addr} {n2 c2 : Nat} {X2 : List Nat} {q2 : Option Addr} {m2 d2 : Nat} {Y2 : List Nat} (s1 : Sl w p1 n1 c1 X1) (t1 : Sl w q1 m1 d1 Y1) (s2 : Sl w p2 n2 c2 X2) (t2 : Sl w q2 m2 d2 Y2) (h : ((decide (n1 ≤ 4) && decide (m1 ≤ 4)) && (decide (n2 ≤ 4) && decide (m2 ≤ 4))) = true) : ∃ r s : Rat, nq r ≤ 9 ∧ nq s ≤ 9 ∧ (AV.val true (ivSegs 4 r s) : Av).holds Dn none' w (.agg #[.bool g1, .slice p1 n1 c1, .slice q1 m1 d1, .bool g2, .slice p2 n2 c2, .slice q2 m2 d2]) := by
  simp only [Bool.and_eq_true, decide_eq_true_eq] at h
  obtain ⟨⟨a1, a2⟩, a3, a4⟩ := h
  have h1 : VR w 4 _ (rw' g1 p1 n1 c1 q1 m1 d1) := ⟨_, _, _, _, _, _, _, _, _, rfl, s1, t1, rfl, a1, a2⟩
  have h2 : VR w 4 _ (rw' g2 p2 n2 c2 q2 m2 d2) := ⟨_, _, _, _, _, _, _, _, _, rfl, s2, t2, rfl, a3, a4⟩
  exact ⟨_, _, nq_vr h1, nq_vr h2, [.bool g1, .slice p1 n1 c1, .slice q1 m1 d1, .bool g2, .slice p2 n2 c2, .slice q2 m2 d2], ⟨[_, _, _], [_, _, _], rfl, ⟨⟨rfl, by simp [cellOk]⟩, h1⟩, [_, _, _], [], rfl, ⟨⟨rfl, by simp [cellOk]⟩, h2⟩, rfl⟩, rfl, fun h => by cases h⟩

theorem encl_any (g1 : Bool) (p1 : Option Addr) (n1 c1 : Nat) (X1 : List Nat) (q1 : Option Addr) (m1 d1 : Nat) (Y1 : List Nat) (g2 : Bool) (p2 : Option Addr) (n2 c2 : Nat) (X2 : List Nat) (q2 : Option Addr) (m2 d2 : Nat) (Y2 : List Nat) (g3 : Bool) (p3 : Option Addr) (n3 c3 : Nat) (X3 : List Nat) (q3 : Option Addr) (m3 d3 : Nat) (Y3 : List Nat) (g4 : Bool) (p4 : Option Addr) (n4 c4 : Nat) (X4 : List Nat) (q4 : Option Addr) (m4 d4 : Nat) (Y4 : List Nat) (n m : Int) (w : World) (ht : Tab w) (s1 : Sl w p1 n1 c1 X1) (t1 : Sl w q1 m1 d1 Y1) (s2 : Sl w p2 n2 c2 X2) (t2 : Sl w q2 m2 d2 Y2) (s3 : Sl w p3 n3 c3 X3) (t3 : Sl w q3 m3 d3 Y3) (s4 : Sl w p4 n4 c4 X4) (t4 : Sl w q4 m4 d4 Y4) (hn : -9223372036854775808 ≤ n ∧ n ≤ 9223372036854775807) (hm : -9223372036854775808 ≤ m ∧ m ≤ 9223372036854775807) :
    Calls Tryz.prog 11 #[.agg #[.bool g1, .slice p1 n1 c1, .slice q1 m1 d1, .bool g2, .slice p2 n2 c2, .slice q2 m2 d2], .agg #[.bool g3, .slice p3 n3 c3, .slice q3 m3 d3, .bool g4, .slice p4 n4 c4, .slice q4 m4 d4], .int .i64 n, .int .i64 m] w (RB true w) := by
  have hl : avs Dn none' w [lits6 g1 p1 n1 c1 q1 m1 d1 g2 p2 n2 c2 q2 m2 d2, lits6 g3 p3 n3 c3 q3 m3 d3 g4 p4 n4 c4 q4 m4 d4, .val false [.lit (.int .i64 n)], .val false [.lit (.int .i64 m)]] [.agg #[.bool g1, .slice p1 n1 c1, .slice q1 m1 d1, .bool g2, .slice p2 n2 c2, .slice q2 m2 d2], .agg #[.bool g3, .slice p3 n3 c3, .slice q3 m3 d3, .bool g4, .slice p4 n4 c4, .slice q4 m4 d4], .int .i64 n, .int .i64 m] := ⟨_, _, rfl, ofV_ok none' w (.agg #[.bool g1, .slice p1 n1 c1, .slice q1 m1 d1, .bool g2, .slice p2 n2 c2, .slice q2 m2 d2]), _, _, rfl, ofV_ok none' w (.agg #[.bool g3, .slice p3 n3 c3, .slice q3 m3 d3, .bool g4, .slice p4 n4 c4, .slice q4 m4 d4]), _, _, rfl, vl_lit _ _, _, _, rfl, vl_lit _ _, rfl⟩
  cases ha : ((decide (n1 ≤ 4) && decide (m1 ≤ 4)) && (decide (n2 ≤ 4) && decide (m2 ≤ 4)))
  · exact law_calls (encl_A g1 p1 n1 c1 q1 m1 d1 g2 p2 n2 c2 q2 m2 d2 g3 p3 n3 c3 q3 m3 d3 g4 p4 n4 c4 q4 m4 d4 n m ha) ht hl
  cases hb : ((decide (n3 ≤ 4) && decide (m3 ≤ 4)) && (decide (n4 ≤ 4) && decide (m4 ≤ 4)))
  · exact law_calls (encl_B g1 p1 n1 c1 q1 m1 d1 g2 p2 n2 c2 q2 m2 d2 g3 p3 n3 c3 q3 m3 d3 g4 p4 n4 c4 q4 m4 d4 n m ha hb) ht hl
  obtain ⟨r, s, k1, k2, k3⟩ := iv_small s1 t1 s2 t2 ha
  obtain ⟨t, u, k4, k5, k6⟩ := iv_small s3 t3 s4 t4 hb
  have hv : avs Dn none' w [.val true (ivSegs 4 r s), .val true (ivSegs 4 t u), .val false [.lit (.int .i64 n)], .val false [.lit (.int .i64 m)]] [.agg #[.bool g1, .slice p1 n1 c1, .slice q1 m1 d1, .bool g2, .slice p2 n2 c2, .slice q2 m2 d2], .agg #[.bool g3, .slice p3 n3 c3, .slice q3 m3 d3, .bool g4, .slice p4 n4 c4, .slice q4 m4 d4], .int .i64 n, .int .i64 m] := ⟨_, _, rfl, k3, _, _, rfl, k6, _, _, rfl, vl_lit _ _, _, _, rfl, vl_lit _ _, rfl⟩
  by_cases h0 : sgnI t u = 0
  · exact law_calls (encl_z r s t u n m k1 k2 k4 k5 hn.1 hn.2 hm.1 hm.2 h0) ht hv
  · exact law_calls (encl_c r s t u n m k1 k2 k4 k5 hn.1 hn.2 hm.1 hm.2 h0) ht hv

end Go.Proofs.YtagciepnhjbopaaGreatDoor
