/- What the statements of this claim stand on: of Q4, Q5, Q6, what they name -/
import Derived.Test.YtagciepnhjbopaaGreatDoorT24
import Derived.Test.YtagciepnhjbopaaGreatDoorT35
import Derived.Test.YtagciepnhjbopaaGreatDoorT36

namespace Go.Proofs.YtagciepnhjbopaaGreatDoor
open Go.RowKit En

theorem whole_c (L : Nat) (z : Int) : Cp 123 [.i L z] (.val true [.sem (.rint L z), .sem (.int 1)]) :=
  cp_of (wk leafs_ok (ds := []) (fuel := 40) (obs := [(-9223372036854775808 : Int) ≤ (1 : Int), (1 : Int) ≤ (9223372036854775807 : Int)]) (r := AV.val true [Seg.sem (Kn.rint L z), Seg.sem (Kn.int (1 : Int))]) Tryz.func123 rfl (by kernel_rfl) (by simp only [AllP, and_true]; omega))

theorem rat_c (q : Rat) : Cn 122 [sv (.low q)] (sv (.rat q)) :=
  cn_res (wk leafs_ok (ds := []) (fuel := 40) (obs := []) (r := AV.val true [Seg.sem (Kn.int (Rat.num q)), Seg.sem (Kn.nat (Rat.den q))]) Tryz.func122 rfl (by kernel_rfl) trivial) (rat_join (z := q.num) (x := q.den) rfl rfl)

abbrev k_whole : List Pa → Option (List Prop × Av)
  | [.i L z] => some ([], .val true [.sem (.rint L z), .sem (.int 1)])
  | _ => none

theorem e_whole (args : List Av) (obs : List Prop) (r : Av) : ent [.i] k_whole args = some (obs, r) → (∀ p ∈ obs, p) → Cn 123 args r :=
  ent_ok (fun ps obs r h ho => by
    unfold k_whole at h
    split at h
    · cases h; exact whole_c _ _
    · cases h) args obs r

abbrev k_lrat : List Av → Option (List Prop × Av)
  | [.val true [.sem (.low q)]] => some ([], sv (.rat q))
  | _ => none

theorem e_lrat (args : List Av) (obs : List Prop) (r : Av) (h : k_lrat args = some (obs, r)) (_ho : ∀ p ∈ obs, p) : Cn 122 args r := by
  unfold k_lrat at h
  split at h
  · cases h; exact rat_c _
  · cases h

def tP1 : List Ent := (123, ent [.i] k_whole) :: (122, k_lrat) :: leafs

theorem tP1_ok : EntsOk tP1 := ⟨e_whole, e_lrat, leafs_ok⟩

theorem fj {s t : Seg Kn} {z : Int} {d L M k : Nat} {q : Rat} (hs : pInt [s] = some (L, z)) (ht : pNat [t] = some (M, d)) (_hd : d ≠ 0) (hk : L + M ≤ k) (hq : mkRat z d = q) (w : World) (u : Value) (h : (AV.val true [s, .lit (.bool false), t] : Av).holds Dn none' w u) : (sv (.frac k q)).holds Dn none' w u := by
  obtain ⟨cs, h1, h2, -⟩ := h
  rw [h2]
  have hb : pInt [.lit (.bool false), t] = some (M, (d : Int)) := by show (pNat [t]).map (fun p => (p.1, iv false p.2)) = _; rw [ht]; rfl
  exact hq ▸ sv_of (x := .frac k (mkRat z d)) ((pFrac_two (a := [s]) (b := [_, _]) hs hb (by omega) h1).mono hk) _

theorem fj2 {s t : Seg Kn} {z : Int} {d L M k : Nat} {q : Rat} (hs : pInt [s] = some (L, z)) (ht : pInt [t] = some (M, (d : Int))) (_hd : d ≠ 0) (hk : L + M ≤ k) (hq : mkRat z d = q) (w : World) (u : Value) (h : (AV.val true [s, t] : Av).holds Dn none' w u) : (sv (.frac k q)).holds Dn none' w u := by
  obtain ⟨cs, h1, h2, -⟩ := h
  rw [h2]
  exact hq ▸ sv_of (x := .frac k (mkRat z d)) ((pFrac_two (a := [s]) (b := [t]) hs ht (by omega) h1).mono hk) _

theorem cmp_ne {d e : Nat} (_h : d ≠ e) : (cmpZ (d : Int) (e : Int) == 0) = false := by
  rw [beq_eq_false_iff_ne]
  unfold cmpZ
  split
  · omega
  · split <;> omega

theorem result_c (L : Nat) (q : Rat) (_hL : L ≤ 524287) : Cp 112 [.f L q] (sv (.rat q)) :=
  cp_of (wk tP1_ok (ds := []) (fuel := 40) (obs := [L ≤ 524287]) (r := AV.val true [Seg.sem (Kn.rat q)]) Tryz.func112 rfl (by kernel_rfl) (by simp only [AllP, and_true]; omega))

theorem natsign {d : Nat} (_h : d ≠ 0) : (((d : Nat) : Int).sign == 0) = false := sign_ne0 (by omega)

theorem read_c (L : Nat) (q : Rat) (_hL : L ≤ 262143) : Cp 98 [.r L q] (sv (.frac (2 * L + 3) q)) := by
  refine cp_opn ⟨_, Tryz.func98, rfl, rfl⟩ ?_
  rintro _ ⟨_, _, rfl, ⟨z, d, rfl, hz, hd, rfl⟩, rfl⟩
  have h1 : nz 0 ≤ 1 := by unfold nz; rw [Int.natAbs_zero, dg_zero]; exact Nat.zero_le _
  have h2 : nz 1 ≤ 1 := by rw [show (1 : Int) = ((1 : Nat) : Int) from rfl, nz_nat, dg_one]; exact Nat.le_refl _
  by_cases h : d = 0
  · subst h
    exact cn_res (wk tP1_ok (ds := [some true]) (fuel := 40) (obs := [L ≤ 1048575, true = true, (-9223372036854775808 : Int) ≤ (0 : Int), (0 : Int) ≤ (9223372036854775807 : Int)]) (r := AV.val true [Seg.sem (Kn.rint (nz (0 : Int)) (0 : Int)), Seg.sem (Kn.int (1 : Int))]) Tryz.func98 rfl (by kernel_rfl) ⟨by omega, rfl, by decide, by decide, trivial⟩) (fj2 (d := 1) rfl rfl (by omega) (by omega) (by rw [Rat.mkRat_zero]; rfl))
  · exact cn_res (wk tP1_ok (ds := [some false]) (fuel := 40) (obs := [L ≤ 1048575, (Int.sign (iv false d) == (0 : Int)) = false]) (r := AV.val true [Seg.sem (Kn.rint L z), Seg.lit (Value.bool false), Seg.sem (Kn.rnat L d)]) Tryz.func98 rfl (by kernel_rfl) ⟨by omega, natsign h, trivial⟩) (fj rfl rfl h (by omega) rfl)

theorem negation_c (L : Nat) (q : Rat) (_hL : L ≤ 262143) : Cp 113 [.f L q] (sv (.frac (2 * L) (-q))) := by
  refine cp_opn ⟨_, Tryz.func113, rfl, rfl⟩ ?_
  rintro _ ⟨_, _, rfl, ⟨z, d, rfl, h0, hz, hd, rfl⟩, rfl⟩
  have h1 := nz_neg z
  exact cn_res (wk tP1_ok (ds := []) (fuel := 40) (obs := [L ≤ 1048575]) (r := AV.val true [Seg.sem (Kn.int (-z)), Seg.lit (Value.bool false), Seg.sem (Kn.rnat L d)]) Tryz.func113 rfl (by kernel_rfl) (by simp only [AllP, and_true]; omega)) (fj rfl rfl h0 (by omega) (Rat.neg_mkRat z d).symm)

theorem plus_c (L M : Nat) (q s : Rat) (_hL : L ≤ 131071) (_hM : M ≤ 131071) : Cp 117 [.f L q, .f M s] (sv (.frac (3 * L + 3 * M + 1) (q + s))) := by
  refine cp_opn ⟨_, Tryz.func117, rfl, rfl⟩ ?_
  rintro _ ⟨_, _, rfl, ⟨z, d, rfl, h0, hz, hd, rfl⟩, _, _, rfl, ⟨y, e, rfl, h1, hy, he, rfl⟩, rfl⟩
  have k1 := nz_mul z (e : Int)
  have k2 := nz_mul y (d : Int)
  have k3 := nz_add (z * (e : Int)) (y * (d : Int))
  have k4 := nz_mul (d : Int) (e : Int)
  have k5 := nz_add z y
  rw [nz_nat] at k1 k2
  rw [nz_nat, nz_nat] at k4
  by_cases h : d = e
  · subst h
    exact cn_res (wk tP1_ok (ds := [some true]) (fuel := 40) (obs := [L ≤ 1048575, M ≤ 1048575, (cmpZ (iv false d) (iv false d) == (0 : Int)) = true, L ≤ 1048575, M ≤ 1048575]) (r := AV.val true [Seg.sem (Kn.int (z + y)), Seg.lit (Value.bool false), Seg.sem (Kn.rnat L d)]) Tryz.func117 rfl (by kernel_rfl) ⟨by omega, by omega, by simp [cmpZ, iv], by omega, by omega, trivial⟩) (fj rfl rfl h0 (by omega) (mk_add_same _ _ h0).symm)
  · exact cn_res (wk tP1_ok (ds := [some false]) (fuel := 40) (obs := [L ≤ 1048575, M ≤ 1048575, (cmpZ (iv false d) (iv false e) == (0 : Int)) = false, L ≤ 1048575, M ≤ 1048575, M ≤ 1048575, L ≤ 1048575, nz (z * iv false e) ≤ 1048575, nz (y * iv false d) ≤ 1048575, L ≤ 1048575, M ≤ 1048575]) (r := AV.val true [Seg.sem (Kn.int (z * iv false e + y * iv false d)), Seg.sem (Kn.int (iv false d * iv false e))]) Tryz.func117 rfl (by kernel_rfl) ⟨by omega, by omega, cmp_ne h, by omega, by omega, by omega, by omega, (show nz (z * (e : Int)) ≤ 1048575 by omega), (show nz (y * (d : Int)) ≤ 1048575 by omega), by omega, by omega, trivial⟩) (fj2 (d := d * e) (L := nz (z * (e : Int) + y * (d : Int))) (M := nz ((d : Int) * (e : Int))) rfl rfl (Nat.mul_ne_zero h0 h1) (by omega) (Rat.mkRat_add_mkRat _ _ h0 h1).symm)

abbrev k_result : List Pa → Option (List Prop × Av)
  | [.f L q] => some ([L ≤ 524287], sv (.rat q))
  | _ => none

theorem e_result (args : List Av) (obs : List Prop) (r : Av) : ent [.f] k_result args = some (obs, r) → (∀ p ∈ obs, p) → Cn 112 args r :=
  ent_ok (fun ps obs r h ho => by
    unfold k_result at h
    split at h
    · cases h; exact result_c _ _ (ho _ (by simp))
    · cases h) args obs r

abbrev k_read : List Pa → Option (List Prop × Av)
  | [.r L q] => some ([L ≤ 262143], sv (.frac (2 * L + 3) q))
  | _ => none

theorem e_read (args : List Av) (obs : List Prop) (r : Av) : ent [.r] k_read args = some (obs, r) → (∀ p ∈ obs, p) → Cn 98 args r :=
  ent_ok (fun ps obs r h ho => by
    unfold k_read at h
    split at h
    · cases h; exact read_c _ _ (ho _ (by simp))
    · cases h) args obs r

abbrev k_negation : List Pa → Option (List Prop × Av)
  | [.f L q] => some ([L ≤ 262143], sv (.frac (2 * L) (-q)))
  | _ => none

theorem e_negation (args : List Av) (obs : List Prop) (r : Av) : ent [.f] k_negation args = some (obs, r) → (∀ p ∈ obs, p) → Cn 113 args r :=
  ent_ok (fun ps obs r h ho => by
    unfold k_negation at h
    split at h
    · cases h; exact negation_c _ _ (ho _ (by simp))
    · cases h) args obs r

abbrev k_plus : List Pa → Option (List Prop × Av)
  | [.f L q, .f M s] => some ([L ≤ 131071, M ≤ 131071], sv (.frac (3 * L + 3 * M + 1) (q + s)))
  | _ => none

theorem e_plus (args : List Av) (obs : List Prop) (r : Av) : ent [.f, .f] k_plus args = some (obs, r) → (∀ p ∈ obs, p) → Cn 117 args r :=
  ent_ok (fun ps obs r h ho => by
    unfold k_plus at h
    split at h
    · cases h; exact plus_c _ _ _ _ (ho _ (by simp)) (ho _ (by simp))
    · cases h) args obs r

def tP2 : List Ent := (112, ent [.f] k_result) :: (98, ent [.r] k_read) :: (113, ent [.f] k_negation) :: (117, ent [.f, .f] k_plus) :: tP1

theorem tP2_ok : EntsOk tP2 := ⟨e_result, e_read, e_negation, e_plus, tP1_ok⟩

end Go.Proofs.YtagciepnhjbopaaGreatDoor

namespace Go.Proofs.YtagciepnhjbopaaGreatDoor
open Go.RowKit En

theorem pof (x : Int) (h1 : -9223372036854775808 ≤ x) (h2 : x ≤ 9223372036854775807) : Cp 43 [.l (.int .i64 x)] (sv (.rat (x : Rat))) := by
  have h5 := nz_word h1 h2
  have h6 : nz 1 ≤ 1 := by rw [show (1 : Int) = ((1 : Nat) : Int) from rfl, nz_nat, dg_one]; exact Nat.le_refl _
  rw [show ((x : Int) : Rat) = Rat.divInt x 1 from (mk_int x).symm]
  exact cp_of (wk tP2_ok (ds := []) (fuel := 40) (obs := [(-9223372036854775808 : Int) ≤ x, x ≤ (9223372036854775807 : Int), (0 : Int) < (1 : Int), nz x + nz (1 : Int) ≤ 524287]) (r := AV.val true [Seg.sem (Kn.rat (Rat.divInt x (1 : Int)))]) Tryz.func43 rfl (by kernel_rfl) (by simp only [AllP, and_true]; omega))

theorem pmake (L M : Nat) (z d : Int) (_hL : L ≤ 262143) (_hM : M ≤ 262143) (h0 : 0 < d) : Cp 37 [.i L z, .i M d] (.tup [(true, [.sem (.rat (Rat.divInt z d))]), (false, [.lit (.int .i64 0)])]) := by
  have h1 : (d.sign == 0) = false := sign_ne0 (by omega)
  have h2 : (d.sign == -1) = false := by rw [Int.sign_eq_one_of_pos h0]; rfl
  exact cp_of (wk tP2_ok (ds := [some false, none, some false]) (fuel := 40) (obs := [M ≤ 1048575, (Int.sign d == (0 : Int)) = false, (Int.sign d == (-1 : Int)) = false, (0 : Int) < d, L + M ≤ 524287]) (r := AV.tup [(true, [Seg.sem (Kn.rat (Rat.divInt z d))]), (false, [Seg.lit (Value.int IntKind.i64 (0 : Int))])]) Tryz.func37 rfl (by kernel_rfl) ⟨by omega, h1, h2, h0, by omega, trivial⟩)

theorem pmakeN (L M : Nat) (z d : Int) (_hL : L ≤ 262143) (_hM : M ≤ 262143) (h0 : d < 0) (_hz : nz z ≤ L) (_hd : nz d ≤ M) : Cp 37 [.i L z, .i M d] (.tup [(true, [.sem (.rat (Rat.divInt z d))]), (false, [.lit (.int .i64 0)])]) := by
  have h1 : (d.sign == 0) = false := sign_ne0 (by omega)
  have h2 : (d.sign == -1) = true := by rw [Int.sign_eq_neg_one_of_neg h0]; rfl
  have h3 := nz_neg z
  have h4 := nz_neg d
  rw [← divInt_neg z d]
  exact cp_of (wk tP2_ok (ds := [some false, none, some true]) (fuel := 40) (obs := [M ≤ 1048575, (Int.sign d == (0 : Int)) = false, (Int.sign d == (-1 : Int)) = true, L ≤ 1048575, M ≤ 1048575, (0 : Int) < -d, nz (-z) + nz (-d) ≤ 524287]) (r := AV.tup [(true, [Seg.sem (Kn.rat (Rat.divInt (-z) (-d)))]), (false, [Seg.lit (Value.int IntKind.i64 (0 : Int))])]) Tryz.func37 rfl (by kernel_rfl) ⟨by omega, h1, h2, by omega, by omega, by omega, by omega, trivial⟩)

theorem pmake0 (L M : Nat) (z d : Int) (_hM : M ≤ 262143) (h0 : d = 0) : Cp 37 [.i L z, .i M d] (.tup [(true, [.lit (.bool false), .lit (.slice none 0 0), .lit (.slice none 0 0)]), (false, [.lit (.int .i64 3)])]) := by
  have h1 := sgn0 h0
  exact cp_of (wk tP2_ok (ds := [some true]) (fuel := 40) (obs := [M ≤ 1048575, (Int.sign d == (0 : Int)) = true]) (r := AV.tup [(true, [Seg.lit (Value.bool false), Seg.lit (Value.slice none 0 0), Seg.lit (Value.slice none 0 0)]), (false, [Seg.lit (Value.int IntKind.i64 (3 : Int))])]) Tryz.func37 rfl (by kernel_rfl) ⟨by omega, h1, trivial⟩)

theorem join22 {s t : List (Seg Kn)} {ks kt : Kn} (hs : ∀ w cs, segs Dn w s cs → segs Dn w [.sem ks] cs) (ht : ∀ w cs, segs Dn w t cs → segs Dn w [.sem kt] cs) (w : World) (u : Value) (h : (AV.val true (s ++ t) : Av).holds Dn none' w u) : (AV.val true [.sem ks, .sem kt] : Av).holds Dn none' w u := by
  obtain ⟨cs, h1, h2, -⟩ := h
  obtain ⟨a, b, rfl, h3, h4⟩ := segs_split h1
  exact ⟨a ++ b, segs_append (hs w a h3) (ht w b h4), h2, fun h => by cases h⟩

theorem rint_of {ss : List (Seg Kn)} {L M : Nat} {z z' : Int} (h : pInt ss = some (L, z)) (hL : L ≤ M) (hz : z = z') (w : World) (cs : List Value) (hs : segs Dn w ss cs) : segs Dn w [.sem (.rint M z')] cs := by
  have h1 := (pInt_segs h hs).mono hL
  rw [hz] at h1
  obtain ⟨vs, e, hl, hp⟩ := is_agg (x := .rint M z') h1
  have e : cs = vs := by have e : Value.agg cs.toArray = .agg vs.toArray := e; injection e with e; simpa using congrArg Array.toList e
  subst e
  exact ⟨cs, [], (List.append_nil _).symm, ⟨⟨hl, hp⟩, h1⟩, rfl⟩

theorem readO (L M d : Nat) (z : Int) (_hM : M ≤ 262143) (_hd : (dg d).length ≤ M) : Cn 98 [.val true [.sem (.rint L z), .sem (.rnat M d)]] (.val true [.sem (.rint L (pZ z d)), .sem (.rint (M + 1) ((pD d : Nat) : Int))]) := by
  by_cases h : d = 0
  · subst h
    have h1 : nz 0 ≤ L := by unfold nz; rw [Int.natAbs_zero, dg_zero]; exact Nat.zero_le _
    have h2 : nz 1 ≤ M + 1 := by rw [show (1 : Int) = ((1 : Nat) : Int) from rfl, nz_nat, dg_one]; exact Nat.succ_le_succ (Nat.zero_le _)
    exact cn_res (wk tP1_ok (ds := [some true]) (fuel := 40) (obs := [M ≤ 1048575, true = true, (-9223372036854775808 : Int) ≤ (0 : Int), (0 : Int) ≤ (9223372036854775807 : Int)]) (r := AV.val true [Seg.sem (Kn.rint (nz (0 : Int)) (0 : Int)), Seg.sem (Kn.int (1 : Int))]) Tryz.func98 rfl (by kernel_rfl) ⟨by omega, rfl, by decide, by decide, trivial⟩) (join22 (s := [_]) (t := [_]) (rint_of rfl h1 rfl) (rint_of rfl h2 rfl))
  · exact cn_res (wk tP1_ok (ds := [some false]) (fuel := 40) (obs := [M ≤ 1048575, (Int.sign (iv false d) == (0 : Int)) = false]) (r := AV.val true [Seg.sem (Kn.rint L z), Seg.lit (Value.bool false), Seg.sem (Kn.rnat M d)]) Tryz.func98 rfl (by kernel_rfl) ⟨by omega, natsign h, trivial⟩) (join22 (s := [_]) (t := [_, _]) (rint_of rfl (Nat.le_refl _) (by unfold pZ; rw [if_neg h])) (rint_of rfl (Nat.le_succ M) (by unfold pD; rw [if_neg h]; rfl)))

abbrev k_readO : List Av → Option (List Prop × Av)
  | [.val true [.sem (.rint L z), .sem (.rnat M d)]] => some ([M ≤ 262143, (dg d).length ≤ M], .val true [.sem (.rint L (pZ z d)), .sem (.rint (M + 1) ((pD d : Nat) : Int))])
  | _ => none

theorem e_readO (args : List Av) (obs : List Prop) (r : Av) (h : k_readO args = some (obs, r)) (ho : ∀ p ∈ obs, p) : Cn 98 args r := by
  unfold k_readO at h
  split at h
  · cases h; exact readO _ _ _ _ (ho _ (by simp)) (ho _ (by simp))
  · cases h

def tP3 : List Ent := (98, k_readO) :: tP2

theorem tP3_ok : EntsOk tP3 := ⟨e_readO, tP2_ok⟩

end Go.Proofs.YtagciepnhjbopaaGreatDoor

namespace Go.Proofs.YtagciepnhjbopaaGreatDoor
open Go.RowKit En

abbrev k_pmake : List Pa → Option (List Prop × Av)
  | [.i L z, .i M d] => some ([L ≤ 262143, M ≤ 262143, 0 < d], .tup [(true, [.sem (.rat (Rat.divInt z d))]), (false, [.lit (.int .i64 0)])])
  | _ => none

theorem e_pmake (args : List Av) (obs : List Prop) (r : Av) : ent [.i, .i] k_pmake args = some (obs, r) → (∀ p ∈ obs, p) → Cn 37 args r :=
  ent_ok (fun ps obs r h ho => by
    unfold k_pmake at h
    split at h
    · cases h; exact pmake _ _ _ _ (ho _ (by simp)) (ho _ (by simp)) (ho _ (by simp))
    · cases h) args obs r

abbrev k_pmakeN : List Pa → Option (List Prop × Av)
  | [.i L z, .i M d] => some ([L ≤ 262143, M ≤ 262143, d < 0, nz z ≤ L, nz d ≤ M], .tup [(true, [.sem (.rat (Rat.divInt z d))]), (false, [.lit (.int .i64 0)])])
  | _ => none

theorem e_pmakeN (args : List Av) (obs : List Prop) (r : Av) : ent [.i, .i] k_pmakeN args = some (obs, r) → (∀ p ∈ obs, p) → Cn 37 args r :=
  ent_ok (fun ps obs r h ho => by
    unfold k_pmakeN at h
    split at h
    · cases h; exact pmakeN _ _ _ _ (ho _ (by simp)) (ho _ (by simp)) (ho _ (by simp)) (ho _ (by simp)) (ho _ (by simp))
    · cases h) args obs r

abbrev k_pmake0 : List Pa → Option (List Prop × Av)
  | [.i _L _z, .i M d] => some ([M ≤ 262143, d = 0], .tup [(true, [.lit (.bool false), .lit (.slice none 0 0), .lit (.slice none 0 0)]), (false, [.lit (.int .i64 3)])])
  | _ => none

theorem e_pmake0 (args : List Av) (obs : List Prop) (r : Av) : ent [.i, .i] k_pmake0 args = some (obs, r) → (∀ p ∈ obs, p) → Cn 37 args r :=
  ent_ok (fun ps obs r h ho => by
    unfold k_pmake0 at h
    split at h
    · cases h; exact pmake0 _ _ _ _ (ho _ (by simp)) (ho _ (by simp))
    · cases h) args obs r

abbrev k_pof : List Pa → Option (List Prop × Av)
  | [.l (.int .i64 x)] => some ([-9223372036854775808 ≤ x, x ≤ 9223372036854775807], sv (.rat (x : Rat)))
  | _ => none

theorem e_pof (args : List Av) (obs : List Prop) (r : Av) : ent [.l] k_pof args = some (obs, r) → (∀ p ∈ obs, p) → Cn 43 args r :=
  ent_ok (fun ps obs r h ho => by
    unfold k_pof at h
    split at h
    · cases h; exact pof _ (ho _ (by simp)) (ho _ (by simp))
    · cases h) args obs r

def tPp : List Ent := (37, ent [.i, .i] k_pmake) :: tP3

theorem tPp_ok : EntsOk tPp := ⟨e_pmake, tP3_ok⟩

def tPn : List Ent := (37, ent [.i, .i] k_pmakeN) :: tP3

theorem tPn_ok : EntsOk tPn := ⟨e_pmakeN, tP3_ok⟩

def tPz : List Ent := (37, ent [.i, .i] k_pmake0) :: tP3

theorem tPz_ok : EntsOk tPz := ⟨e_pmake0, tP3_ok⟩

def tPzo : List Ent := (43, ent [.l] k_pof) :: tPz

theorem tPzo_ok : EntsOk tPzo := ⟨e_pof, tPz_ok⟩

theorem pfrac (x y : Int) (h1 : -9223372036854775808 ≤ x) (h2 : x ≤ 9223372036854775807) (h3 : -9223372036854775808 ≤ y) (h4 : y ≤ 9223372036854775807) : Cp 45 [.l (.int .i64 x), .l (.int .i64 y)] (sv (.rat (Rat.divInt x y))) := by
  have h5 := nz_word h1 h2
  have h6 := nz_word h3 h4
  rcases Int.lt_trichotomy y 0 with h | h | h
  · exact cp_of (wk tPn_ok (ds := []) (fuel := 40) (obs := [(-9223372036854775808 : Int) ≤ x, x ≤ (9223372036854775807 : Int), (-9223372036854775808 : Int) ≤ y, y ≤ (9223372036854775807 : Int), nz x ≤ 262143, nz y ≤ 262143, y < (0 : Int), nz x ≤ nz x, nz y ≤ nz y]) (r := AV.val true [Seg.sem (Kn.rat (Rat.divInt x y))]) Tryz.func45 rfl (by kernel_rfl) (by simp only [AllP, and_true]; omega))
  · rw [show Rat.divInt x y = ((0 : Int) : Rat) by rw [h, Rat.divInt_zero]; rfl]
    exact cp_of (wk tPzo_ok (ds := []) (fuel := 40) (obs := [(-9223372036854775808 : Int) ≤ x, x ≤ (9223372036854775807 : Int), (-9223372036854775808 : Int) ≤ y, y ≤ (9223372036854775807 : Int), nz y ≤ 262143, y = (0 : Int), (-9223372036854775808 : Int) ≤ (0 : Int), (0 : Int) ≤ (9223372036854775807 : Int)]) (r := AV.val true [Seg.sem (Kn.rat (↑(0 : Int) : Rat))]) Tryz.func45 rfl (by kernel_rfl) ⟨h1, h2, h3, h4, by omega, h, by decide, by decide, trivial⟩)
  · exact cp_of (wk tPp_ok (ds := []) (fuel := 40) (obs := [(-9223372036854775808 : Int) ≤ x, x ≤ (9223372036854775807 : Int), (-9223372036854775808 : Int) ≤ y, y ≤ (9223372036854775807 : Int), nz x ≤ 262143, nz y ≤ 262143, (0 : Int) < y]) (r := AV.val true [Seg.sem (Kn.rat (Rat.divInt x y))]) Tryz.func45 rfl (by kernel_rfl) (by simp only [AllP, and_true]; omega))

end Go.Proofs.YtagciepnhjbopaaGreatDoor
