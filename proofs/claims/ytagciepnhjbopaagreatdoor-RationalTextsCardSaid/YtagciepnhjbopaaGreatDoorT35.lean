/- What the statements of this claim stand on: of Rr2, Q1, Q2, what they name -/
import Derived.Test.YtagciepnhjbopaaGreatDoorT24
import Derived.Test.YtagciepnhjbopaaGreatDoorT25
import Derived.Test.YtagciepnhjbopaaGreatDoorT29
import Derived.Test.YtagciepnhjbopaaGreatDoorT34

namespace Go.Proofs.YtagciepnhjbopaaGreatDoor
open Go.RowKit

theorem quot_ne {D g : Nat} {a : Nat} (hD : D ≠ 0) (hg : Nat.gcd a D = g) : D / g ≠ 0 := by
  intro e
  have h1 : g ∣ D := by rw [← hg]; exact Nat.gcd_dvd_right _ _
  have h2 := Nat.div_mul_cancel h1
  rw [e, Nat.zero_mul] at h2
  exact hD h2.symm

theorem sign_ne0 {z : Int} (h : z ≠ 0) : (z.sign == 0) = false := by
  rw [beq_eq_false_iff_ne]
  exact fun e => h (Int.sign_eq_zero_iff_zero.1 e)

theorem nz_floor' (a b : Int) : nz (a / b) ≤ nz a := by
  unfold nz
  exact dg_len_mono (Int.natAbs_ediv_le_natAbs _ _)

theorem low_pos {z : Int} {D g : Nat} (hD : D ≠ 0) (hg : Nat.gcd z.natAbs D = g) : (Rat.divInt z (D : Int)).num = z / (g : Int) ∧ (Rat.divInt z (D : Int)).den = D / g ∧ ((D : Int) / (g : Int)) = ((D / g : Nat) : Int) := by
  subst hg
  rw [divInt_pos]
  exact ⟨mk_num z hD, mk_den z hD, rfl⟩

theorem low_neg {z : Int} {D g : Nat} (hD : D ≠ 0) (hg : Nat.gcd z.natAbs D = g) : (Rat.divInt z (-(D : Int))).num = -(z / (g : Int)) ∧ (Rat.divInt z (-(D : Int))).den = D / g ∧ (-(D : Int) / (g : Int)) = -((D / g : Nat) : Int) := by
  subst hg
  have e : Rat.divInt z (-(D : Int)) = mkRat (-z) D := by
    have := divInt_neg (-z) (D : Int)
    rw [Int.neg_neg] at this
    rw [this]
    rfl
  have h1 : ((Nat.gcd z.natAbs D : Nat) : Int) ∣ z := by
    exact Int.ofNat_dvd_left.2 (Nat.gcd_dvd_left _ _)
  have h2 : ((Nat.gcd z.natAbs D : Nat) : Int) ∣ (D : Int) := Int.natCast_dvd_natCast.2 (Nat.gcd_dvd_right _ _)
  rw [e]
  refine ⟨?_, ?_, ?_⟩
  · rw [mk_num (-z) hD, Int.natAbs_neg]
    exact Int.neg_ediv_of_dvd h1
  · rw [mk_den (-z) hD, Int.natAbs_neg]
  · rw [Int.neg_ediv_of_dvd h2]; rfl

end Go.Proofs.YtagciepnhjbopaaGreatDoor

namespace Go.Proofs.YtagciepnhjbopaaGreatDoor
open Go.RowKit En

def pZ (z : Int) (d : Nat) : Int := if d = 0 then 0 else z

def pD (d : Nat) : Nat := if d = 0 then 1 else d

theorem pD_ne (d : Nat) : pD d ≠ 0 := by unfold pD; split <;> omega

theorem mk_P (z : Int) (d : Nat) : mkRat (pZ z d) (pD d) = mkRat z d := by
  unfold pZ pD
  split
  · rename_i h; subst h; rw [Rat.mkRat_zero]; rfl
  · rfl

theorem pZ_le (z : Int) (d : Nat) : nz (pZ z d) ≤ nz z := by
  unfold pZ nz
  split
  · rw [Int.natAbs_zero, dg_zero]; exact Nat.zero_le _
  · exact Nat.le_refl _

theorem pD_le (d : Nat) : (dg (pD d)).length ≤ (dg d).length + 1 := by
  unfold pD
  split
  · rw [dg_one]; simp
  · omega

theorem len0 {d : Nat} : ((((dg d).length : Nat) : Int) == 0) = decide (d = 0) := by
  by_cases h : d = 0
  · subst h; rw [dg_zero]; rfl
  · have h1 : dg d ≠ [] := fun e => h (dg_nil.1 e)
    have h2 : (dg d).length ≠ 0 := fun e => h1 (List.length_eq_zero_iff.1 e)
    rw [decide_eq_false h, beq_eq_false_iff_ne]
    omega

theorem vl_weak {p q : Bool × List (Seg Kn)} {w : World} {v : Value} (h : vl Dn w p v) (hk : ∀ w u, (AV.val p.1 p.2 : Av).holds Dn none' w u → (AV.val q.1 q.2 : Av).holds Dn none' w u) : vl Dn w q v := hk w v h

theorem tup2 {p q p' q' : Bool × List (Seg Kn)} (h1 : ∀ w u, (AV.val p.1 p.2 : Av).holds Dn none' w u → (AV.val p'.1 p'.2 : Av).holds Dn none' w u) (h2 : ∀ w u, (AV.val q.1 q.2 : Av).holds Dn none' w u → (AV.val q'.1 q'.2 : Av).holds Dn none' w u) (w : World) (u : Value) (h : (AV.tup [p, q] : Av).holds Dn none' w u) : (AV.tup [p', q'] : Av).holds Dn none' w u := by
  obtain ⟨us, rfl, v, _, rfl, k1, v', _, rfl, k2, rfl⟩ := h
  exact ⟨_, rfl, v, _, rfl, vl_weak k1 h1, v', _, rfl, vl_weak k2 h2, rfl⟩

theorem int_join {ss : List (Seg Kn)} {L M : Nat} {z z' : Int} (h : pInt ss = some (L, z)) (hL : L ≤ M) (hz : z = z') (w : World) (u : Value) (hs : (AV.val true ss : Av).holds Dn none' w u) : (sv (.rint M z')).holds Dn none' w u :=
  hz ▸ sv_of (x := .rint M z) ((pInt_ok h hs).mono hL) _

theorem parts_c (L M d : Nat) (z : Int) (_hM : M ≤ 524287) (hd : (dg d).length ≤ M) : Cn 100 [.val true [.sem (.rint L z), .sem (.rnat M d)]] (.tup [(true, [.sem (.rint L (pZ z d))]), (true, [.sem (.rint (M + 1) ((pD d : Nat) : Int))])]) := by
  by_cases h : d = 0
  · refine cn_res (wk leafs_ok (ds := [some true]) (fuel := 10) (obs := [M ≤ 1048576, ((((dg d).length : Nat) : Int) == 0) = true]) (r := .tup [(true, [.lit (.bool false), .lit (.slice none 0 0)]), (true, [.lit (.bool false), .sem (.nat 1)])]) Tryz.func100 rfl (by kernel_rfl) ⟨by omega, by rw [len0]; simpa using h, trivial⟩) ?_
    refine tup2 (int_join rfl (Nat.zero_le _) (by unfold pZ; rw [if_pos h]; rfl)) (int_join rfl ?_ (by unfold pD; rw [if_pos h]; rfl))
    rw [dg_one]
    exact Nat.succ_le_succ (Nat.zero_le _)
  · refine cn_res (wk leafs_ok (ds := [some false]) (fuel := 10) (obs := [M ≤ 1048576, ((((dg d).length : Nat) : Int) == 0) = false]) (r := .tup [(true, [.sem (.rint L z)]), (true, [.lit (.bool false), .sem (.nat d)])]) Tryz.func100 rfl (by kernel_rfl) ⟨by omega, by rw [len0]; simpa using h, trivial⟩) ?_
    exact tup2 (int_join rfl (Nat.le_refl _) (by unfold pZ; rw [if_neg h])) (int_join rfl (Nat.le_succ_of_le hd) (by unfold pD; rw [if_neg h]; rfl))

theorem sgn0 {z : Int} (h : z = 0) : (z.sign == 0) = true := by subst h; rfl

theorem reduce_c (L M : Nat) (z d : Int) (_hL : L ≤ 524286) (hM : M ≤ 524287) : Cp 102 [.i L z, .i M d] (sv (.rat (Rat.divInt z d))) := by
  refine cp_opn ⟨_, Tryz.func102, rfl, rfl⟩ ?_
  rintro _ ⟨_, _, rfl, ⟨hz, rfl⟩, _, _, rfl, ⟨hd, rfl⟩, rfl⟩
  by_cases h0 : z = 0
  · rw [show Rat.divInt z d = 0 by rw [h0]; exact Rat.zero_divInt d]
    exact cn_res (wk leafs_ok (ds := [some true]) (fuel := 10) (obs := [L ≤ 524287, (z.sign == 0) = true]) Tryz.func102 rfl (by kernel_rfl) ⟨by omega, sgn0 h0, trivial⟩) rat_zero
  · by_cases h1 : d = 0
    · rw [show Rat.divInt z d = 0 by rw [h1]; exact Rat.divInt_zero z]
      exact cn_res (wk leafs_ok (ds := [some false, none, some true]) (fuel := 10) (obs := [L ≤ 524287, (z.sign == 0) = false, M ≤ 524287, (d.sign == 0) = true]) Tryz.func102 rfl (by kernel_rfl) ⟨by omega, sign_ne0 h0, hM, sgn0 h1, trivial⟩) rat_zero
    · have hg : Nat.gcd z.natAbs d.natAbs ≠ 0 := fun e => h1 (Int.natAbs_eq_zero.1 (Nat.eq_zero_of_gcd_eq_zero_right e))
      have hg1 : ((Nat.gcd z.natAbs d.natAbs : Nat) : Int) ≠ 0 := by omega
      have hg2 : nz ((Nat.gcd z.natAbs d.natAbs : Nat) : Int) ≤ 524287 := by
        rw [nz_nat]
        have := dg_len_mono (Nat.gcd_le_right z.natAbs (n := d.natAbs) (by omega))
        unfold nz at hd
        omega
      rcases Int.lt_or_le d 0 with h2 | h2
      · obtain ⟨D, hD⟩ : ∃ D : Nat, d = -(D : Int) := ⟨d.natAbs, by omega⟩
        obtain ⟨e1, e2, e3⟩ := low_neg (z := z) (D := D) (g := Nat.gcd z.natAbs d.natAbs) (by omega) (by rw [hD, Int.natAbs_neg]; rfl)
        have hq := quot_ne (D := D) (a := z.natAbs) (g := Nat.gcd z.natAbs d.natAbs) (by omega) (by rw [hD, Int.natAbs_neg]; rfl)
        rw [← hD] at e1 e2 e3
        refine cn_res (wk leafs_ok (ds := [some false, none, some false, none, some true]) (fuel := 10) (obs := [L ≤ 524287, (z.sign == 0) = false, M ≤ 524287, (d.sign == 0) = false, L ≤ 524287, M ≤ 524287, L ≤ 524287, nz ((Nat.gcd z.natAbs d.natAbs : Nat) : Int) ≤ 524287, ((Nat.gcd z.natAbs d.natAbs : Nat) : Int) ≠ 0, M ≤ 524287, nz ((Nat.gcd z.natAbs d.natAbs : Nat) : Int) ≤ 524287, ((Nat.gcd z.natAbs d.natAbs : Nat) : Int) ≠ 0, decide (d / ((Nat.gcd z.natAbs d.natAbs : Nat) : Int) < 0) = true, nz (z / ((Nat.gcd z.natAbs d.natAbs : Nat) : Int)) ≤ 524287]) Tryz.func102 rfl (by kernel_rfl) ⟨by omega, sign_ne0 h0, hM, sign_ne0 h1, by omega, hM, by omega, hg2, hg1, hM, hg2, hg1, ?_, ?_, trivial⟩) (rat_join (x := (d / ((Nat.gcd z.natAbs d.natAbs : Nat) : Int)).natAbs) e1 (by rw [e2, e3, Int.natAbs_neg]; rfl))
        · rw [e3, decide_eq_true_eq]; omega
        · have := nz_floor' z ((Nat.gcd z.natAbs d.natAbs : Nat) : Int); omega
      · obtain ⟨D, hD⟩ := Int.eq_ofNat_of_zero_le h2
        obtain ⟨e1, e2, e3⟩ := low_pos (z := z) (D := D) (g := Nat.gcd z.natAbs d.natAbs) (by omega) (by rw [hD]; rfl)
        rw [← hD] at e1 e2 e3
        refine cn_res (wk leafs_ok (ds := [some false, none, some false, none, some false]) (fuel := 10) (obs := [L ≤ 524287, (z.sign == 0) = false, M ≤ 524287, (d.sign == 0) = false, L ≤ 524287, M ≤ 524287, L ≤ 524287, nz ((Nat.gcd z.natAbs d.natAbs : Nat) : Int) ≤ 524287, ((Nat.gcd z.natAbs d.natAbs : Nat) : Int) ≠ 0, M ≤ 524287, nz ((Nat.gcd z.natAbs d.natAbs : Nat) : Int) ≤ 524287, ((Nat.gcd z.natAbs d.natAbs : Nat) : Int) ≠ 0, decide (d / ((Nat.gcd z.natAbs d.natAbs : Nat) : Int) < 0) = false]) Tryz.func102 rfl (by kernel_rfl) ⟨by omega, sign_ne0 h0, hM, sign_ne0 h1, by omega, hM, by omega, hg2, hg1, hM, hg2, hg1, ?_, trivial⟩) (rat_join (x := (d / ((Nat.gcd z.natAbs d.natAbs : Nat) : Int)).natAbs) e1 (by rw [e2, e3]; rfl))
        rw [e3, decide_eq_false_iff_not]
        omega

abbrev k_parts : List Av → Option (List Prop × Av)
  | [.val true [.sem (.rint L z), .sem (.rnat M d)]] => some ([M ≤ 524287, (dg d).length ≤ M], .tup [(true, [.sem (.rint L (pZ z d))]), (true, [.sem (.rint (M + 1) ((pD d : Nat) : Int))])])
  | _ => none

theorem e_parts (args : List Av) (obs : List Prop) (r : Av) (h : k_parts args = some (obs, r)) (ho : ∀ p ∈ obs, p) : Cn 100 args r := by
  unfold k_parts at h
  split at h
  · cases h; exact parts_c _ _ _ _ (ho _ (by simp)) (ho _ (by simp))
  · cases h

abbrev k_reduce : List Pa → Option (List Prop × Av)
  | [.i L z, .i M d] => some ([L ≤ 524286, M ≤ 524287], sv (.rat (Rat.divInt z d)))
  | _ => none

theorem e_reduce (args : List Av) (obs : List Prop) (r : Av) : ent [.i, .i] k_reduce args = some (obs, r) → (∀ p ∈ obs, p) → Cn 102 args r :=
  ent_ok (fun ps obs r h ho => by
    unfold k_reduce at h
    split at h
    · cases h; exact reduce_c _ _ _ _ (ho _ (by simp)) (ho _ (by simp))
    · cases h) args obs r

def tQ1 : List Ent := (100, k_parts) :: (102, ent [.i, .i] k_reduce) :: leafs

theorem tQ1_ok : EntsOk tQ1 := ⟨e_parts, e_reduce, leafs_ok⟩

end Go.Proofs.YtagciepnhjbopaaGreatDoor

namespace Go.Proofs.YtagciepnhjbopaaGreatDoor
open Go.RowKit En

theorem nz_pD (d : Nat) : nz ((pD d : Nat) : Int) ≤ (dg d).length + 1 := by rw [nz_nat]; exact pD_le d

theorem add_P (z y : Int) (d e : Nat) : mkRat z d + mkRat y e = Rat.divInt (pZ z d * ((pD e : Nat) : Int) + pZ y e * ((pD d : Nat) : Int)) (((pD d : Nat) : Int) * ((pD e : Nat) : Int)) := by
  rw [← mk_P z d, ← mk_P y e, Rat.mkRat_add_mkRat _ _ (pD_ne _) (pD_ne _)]
  rfl

theorem mul_P (z y : Int) (d e : Nat) : mkRat z d * mkRat y e = Rat.divInt (pZ z d * pZ y e) (((pD d : Nat) : Int) * ((pD e : Nat) : Int)) := by
  rw [← mk_P z d, ← mk_P y e, Rat.mkRat_mul_mkRat]
  rfl

theorem cmp_P (z y : Int) (d e : Nat) : cmpZ (pZ z d * ((pD e : Nat) : Int)) (pZ y e * ((pD d : Nat) : Int)) = cmpQ (mkRat z d) (mkRat y e) :=
  cmp_mk (mk_P z d) (mk_P y e) (pD_ne d) (pD_ne e)

theorem sign_P (z : Int) (d : Nat) : (pZ z d).sign = (mkRat z d).num.sign := sign_of_mk (mk_P z d) (pD_ne d)

theorem pZ_zero (z : Int) (d : Nat) : pZ z d = 0 ↔ mkRat z d = 0 := by
  rw [← mk_P z d, mk_zero_iff _ (pD_ne d)]

theorem div_P (z y : Int) (d e : Nat) (h : mkRat y e ≠ 0) : mkRat z d / mkRat y e = Rat.divInt (pZ z d * ((pD e : Nat) : Int)) (((pD d : Nat) : Int) * pZ y e) := by
  have h1 : pZ y e ≠ 0 := fun h2 => h ((pZ_zero y e).1 h2)
  rw [← mk_P z d, ← mk_P y e, div_mk (pD_ne d) (pD_ne e) h1]

theorem floor_P (z : Int) (d : Nat) : (mkRat z d).floor = pZ z d / ((pD d : Nat) : Int) := by
  rw [← mk_P z d, floor_mk _ (pD_ne d)]

theorem trim_P (z : Int) (d : Nat) : mkRat z d = Rat.divInt (pZ z d) ((pD d : Nat) : Int) := by
  rw [← mk_P z d]; rfl

theorem qtrim (L : Nat) (q : Rat) (_hL : L ≤ 262143) : Cp 26 [.r L q] (sv (.rat q)) := by
  refine cp_opn ⟨_, Tryz.func26, rfl, rfl⟩ ?_
  rintro _ ⟨_, _, rfl, ⟨z, d, rfl, hz, hd, rfl⟩, rfl⟩
  rw [trim_P]
  exact (wk tQ1_ok (ds := []) (fuel := 40) (obs := [L ≤ 524287, List.length (dg d) ≤ L, L ≤ 524286, L + 1 ≤ 524287]) (r := AV.val true [Seg.sem (Kn.rat (Rat.divInt (pZ z d) (↑(pD d) : Int)))]) Tryz.func26 rfl (by kernel_rfl) (by simp only [AllP, and_true]; omega))

theorem qsign (L : Nat) (q : Rat) (_hL : L ≤ 262143) : Cp 22 [.r L q] (avI q.num.sign) := by
  refine cp_opn ⟨_, Tryz.func22, rfl, rfl⟩ ?_
  rintro _ ⟨_, _, rfl, ⟨z, d, rfl, hz, hd, rfl⟩, rfl⟩
  rw [← sign_P]
  exact (wk tQ1_ok (ds := []) (fuel := 40) (obs := [L ≤ 524287, List.length (dg d) ≤ L, L ≤ 524287]) (r := AV.val false [Seg.lit (Value.int IntKind.i64 (Int.sign (pZ z d)))]) Tryz.func22 rfl (by kernel_rfl) (by simp only [AllP, and_true]; omega))

theorem qadd (L M : Nat) (q s : Rat) (_hL : L ≤ 65535) (_hM : M ≤ 65535) : Cp 32 [.r L q, .r M s] (sv (.rat (q + s))) := by
  refine cp_opn ⟨_, Tryz.func32, rfl, rfl⟩ ?_
  rintro _ ⟨_, _, rfl, ⟨z, d, rfl, hz, hd, rfl⟩, _, _, rfl, ⟨y, e, rfl, hy, he, rfl⟩, rfl⟩
  rw [add_P]
  have h1 := nz_mul (pZ z d) ((pD e : Nat) : Int)
  have h2 := nz_mul (pZ y e) ((pD d : Nat) : Int)
  have h3 := nz_add (pZ z d * ((pD e : Nat) : Int)) (pZ y e * ((pD d : Nat) : Int))
  have h4 := nz_mul ((pD d : Nat) : Int) ((pD e : Nat) : Int)
  have h5 := nz_pD d
  have h6 := nz_pD e
  have h7 := pZ_le z d
  have h8 := pZ_le y e
  exact (wk tQ1_ok (ds := []) (fuel := 40) (obs := [L ≤ 524287, List.length (dg d) ≤ L, M ≤ 524287, List.length (dg e) ≤ M, L ≤ 524287, M + 1 ≤ 524287, M ≤ 524287, L + 1 ≤ 524287, nz (pZ z d * (↑(pD e) : Int)) ≤ 524287, nz (pZ y e * (↑(pD d) : Int)) ≤ 524287, L + 1 ≤ 524287, M + 1 ≤ 524287, nz (pZ z d * (↑(pD e) : Int) + pZ y e * (↑(pD d) : Int)) ≤ 524286, nz ((↑(pD d) : Int) * (↑(pD e) : Int)) ≤ 524287]) (r := AV.val true [Seg.sem (Kn.rat (Rat.divInt (pZ z d * (↑(pD e) : Int) + pZ y e * (↑(pD d) : Int)) ((↑(pD d) : Int) * (↑(pD e) : Int))))]) Tryz.func32 rfl (by kernel_rfl) (by simp only [AllP, and_true]; omega))

theorem qcmp (L M : Nat) (q s : Rat) (_hL : L ≤ 65535) (_hM : M ≤ 65535) : Cp 24 [.r L q, .r M s] (avI (cmpQ q s)) := by
  refine cp_opn ⟨_, Tryz.func24, rfl, rfl⟩ ?_
  rintro _ ⟨_, _, rfl, ⟨z, d, rfl, hz, hd, rfl⟩, _, _, rfl, ⟨y, e, rfl, hy, he, rfl⟩, rfl⟩
  rw [← cmp_P]
  have h1 := nz_mul (pZ z d) ((pD e : Nat) : Int)
  have h2 := nz_mul (pZ y e) ((pD d : Nat) : Int)
  have h5 := nz_pD d
  have h6 := nz_pD e
  have h7 := pZ_le z d
  have h8 := pZ_le y e
  exact (wk tQ1_ok (ds := []) (fuel := 40) (obs := [L ≤ 524287, List.length (dg d) ≤ L, M ≤ 524287, List.length (dg e) ≤ M, L ≤ 524287, M + 1 ≤ 524287, M ≤ 524287, L + 1 ≤ 524287, nz (pZ z d * (↑(pD e) : Int)) ≤ 524287, nz (pZ y e * (↑(pD d) : Int)) ≤ 524287]) (r := AV.val false [Seg.lit (Value.int IntKind.i64 (cmpZ (pZ z d * (↑(pD e) : Int)) (pZ y e * (↑(pD d) : Int))))]) Tryz.func24 rfl (by kernel_rfl) (by simp only [AllP, and_true]; omega))

theorem qmul (L M : Nat) (q s : Rat) (_hL : L ≤ 65535) (_hM : M ≤ 65535) : Cp 36 [.r L q, .r M s] (sv (.rat (q * s))) := by
  refine cp_opn ⟨_, Tryz.func36, rfl, rfl⟩ ?_
  rintro _ ⟨_, _, rfl, ⟨z, d, rfl, hz, hd, rfl⟩, _, _, rfl, ⟨y, e, rfl, hy, he, rfl⟩, rfl⟩
  rw [mul_P]
  have h1 := nz_mul (pZ z d) (pZ y e)
  have h4 := nz_mul ((pD d : Nat) : Int) ((pD e : Nat) : Int)
  have h5 := nz_pD d
  have h6 := nz_pD e
  have h7 := pZ_le z d
  have h8 := pZ_le y e
  exact (wk tQ1_ok (ds := []) (fuel := 40) (obs := [L ≤ 524287, List.length (dg d) ≤ L, M ≤ 524287, List.length (dg e) ≤ M, L ≤ 524287, M ≤ 524287, L + 1 ≤ 524287, M + 1 ≤ 524287, nz (pZ z d * pZ y e) ≤ 524286, nz ((↑(pD d) : Int) * (↑(pD e) : Int)) ≤ 524287]) (r := AV.val true [Seg.sem (Kn.rat (Rat.divInt (pZ z d * pZ y e) ((↑(pD d) : Int) * (↑(pD e) : Int))))]) Tryz.func36 rfl (by kernel_rfl) (by simp only [AllP, and_true]; omega))

theorem qdiv (L M : Nat) (q s : Rat) (_hL : L ≤ 65535) (_hM : M ≤ 65535) (h0 : s ≠ 0) : Cp 17 [.r L q, .r M s] (.tup [(true, [.sem (.rat (q / s))]), (false, [.lit (.int .i64 0)])]) := by
  refine cp_opn ⟨_, Tryz.func17, rfl, rfl⟩ ?_
  rintro _ ⟨_, _, rfl, ⟨z, d, rfl, hz, hd, rfl⟩, _, _, rfl, ⟨y, e, rfl, hy, he, rfl⟩, rfl⟩
  rw [div_P _ _ _ _ h0]
  have h1 := nz_mul (pZ z d) ((pD e : Nat) : Int)
  have h4 := nz_mul ((pD d : Nat) : Int) (pZ y e)
  have h5 := nz_pD d
  have h6 := nz_pD e
  have h7 := pZ_le z d
  have h8 := pZ_le y e
  have h9 := sign_ne0 fun h => h0 ((pZ_zero y e).1 h)
  exact (wk tQ1_ok (ds := [some false]) (fuel := 40) (obs := [L ≤ 524287, List.length (dg d) ≤ L, M ≤ 524287, List.length (dg e) ≤ M, M ≤ 524287, (Int.sign (pZ y e) == 0) = false, L ≤ 524287, M + 1 ≤ 524287, L + 1 ≤ 524287, M ≤ 524287, nz (pZ z d * (↑(pD e) : Int)) ≤ 524286, nz ((↑(pD d) : Int) * pZ y e) ≤ 524287]) (r := AV.tup [(true, [Seg.sem (Kn.rat (Rat.divInt (pZ z d * (↑(pD e) : Int)) ((↑(pD d) : Int) * pZ y e)))]), (false, [Seg.lit (Value.int IntKind.i64 0)])]) Tryz.func17 rfl (by kernel_rfl) (by simp only [AllP, and_true]; refine ⟨?_, ?_, ?_, ?_, ?_, h9, ?_⟩ <;> omega))

theorem qdiv0 (L M : Nat) (q s : Rat) (_hL : L ≤ 65535) (_hM : M ≤ 65535) (h0 : s = 0) : Cp 17 [.r L q, .r M s] (.tup [(true, [.lit (.bool false), .lit (.slice none 0 0), .lit (.slice none 0 0)]), (false, [.lit (.int .i64 3)])]) := by
  refine cp_opn ⟨_, Tryz.func17, rfl, rfl⟩ ?_
  rintro _ ⟨_, _, rfl, ⟨z, d, rfl, hz, hd, rfl⟩, _, _, rfl, ⟨y, e, rfl, hy, he, rfl⟩, rfl⟩
  have h9 := sgn0 ((pZ_zero y e).2 h0)
  exact (wk tQ1_ok (ds := [some true]) (fuel := 40) (obs := [L ≤ 524287, List.length (dg d) ≤ L, M ≤ 524287, List.length (dg e) ≤ M, M ≤ 524287, (Int.sign (pZ y e) == 0) = true]) (r := AV.tup [(true, [Seg.lit (Value.bool false), Seg.lit (Value.slice none 0 0), Seg.lit (Value.slice none 0 0)]), (false, [Seg.lit (Value.int IntKind.i64 3)])]) Tryz.func17 rfl (by kernel_rfl) (by simp only [AllP, and_true]; refine ⟨?_, ?_, ?_, ?_, ?_, h9⟩ <;> omega))

theorem qfloor (L : Nat) (q : Rat) (_hL : L ≤ 262143) : Cp 55 [.r L q] (sv (.int q.floor)) := by
  refine cp_opn ⟨_, Tryz.func55, rfl, rfl⟩ ?_
  rintro _ ⟨_, _, rfl, ⟨z, d, rfl, hz, hd, rfl⟩, rfl⟩
  rw [floor_P]
  have h1 := pD_ne d
  exact (wk tQ1_ok (ds := []) (fuel := 40) (obs := [L ≤ 524287, List.length (dg d) ≤ L, L ≤ 524287, L + 1 ≤ 524287, (↑(pD d) : Int) ≠ 0]) (r := AV.val true [Seg.sem (Kn.int (pZ z d / (↑(pD d) : Int)))]) Tryz.func55 rfl (by kernel_rfl) (by simp only [AllP, and_true]; omega))

abbrev k_qtrim : List Pa → Option (List Prop × Av)
  | [.r L q] => some ([L ≤ 262143], sv (.rat q))
  | _ => none

theorem e_qtrim (args : List Av) (obs : List Prop) (r : Av) : ent [.r] k_qtrim args = some (obs, r) → (∀ p ∈ obs, p) → Cn 26 args r :=
  ent_ok (fun ps obs r h ho => by
    unfold k_qtrim at h
    split at h
    · cases h; exact qtrim _ _ (ho _ (by simp))
    · cases h) args obs r

abbrev k_qsign : List Pa → Option (List Prop × Av)
  | [.r L q] => some ([L ≤ 262143], avI q.num.sign)
  | _ => none

theorem e_qsign (args : List Av) (obs : List Prop) (r : Av) : ent [.r] k_qsign args = some (obs, r) → (∀ p ∈ obs, p) → Cn 22 args r :=
  ent_ok (fun ps obs r h ho => by
    unfold k_qsign at h
    split at h
    · cases h; exact qsign _ _ (ho _ (by simp))
    · cases h) args obs r

abbrev k_qadd : List Pa → Option (List Prop × Av)
  | [.r L q, .r M s] => some ([L ≤ 65535, M ≤ 65535], sv (.rat (q + s)))
  | _ => none

theorem e_qadd (args : List Av) (obs : List Prop) (r : Av) : ent [.r, .r] k_qadd args = some (obs, r) → (∀ p ∈ obs, p) → Cn 32 args r :=
  ent_ok (fun ps obs r h ho => by
    unfold k_qadd at h
    split at h
    · cases h; exact qadd _ _ _ _ (ho _ (by simp)) (ho _ (by simp))
    · cases h) args obs r

abbrev k_qcmp : List Pa → Option (List Prop × Av)
  | [.r L q, .r M s] => some ([L ≤ 65535, M ≤ 65535], avI (cmpQ q s))
  | _ => none

theorem e_qcmp (args : List Av) (obs : List Prop) (r : Av) : ent [.r, .r] k_qcmp args = some (obs, r) → (∀ p ∈ obs, p) → Cn 24 args r :=
  ent_ok (fun ps obs r h ho => by
    unfold k_qcmp at h
    split at h
    · cases h; exact qcmp _ _ _ _ (ho _ (by simp)) (ho _ (by simp))
    · cases h) args obs r

abbrev k_qmul : List Pa → Option (List Prop × Av)
  | [.r L q, .r M s] => some ([L ≤ 65535, M ≤ 65535], sv (.rat (q * s)))
  | _ => none

theorem e_qmul (args : List Av) (obs : List Prop) (r : Av) : ent [.r, .r] k_qmul args = some (obs, r) → (∀ p ∈ obs, p) → Cn 36 args r :=
  ent_ok (fun ps obs r h ho => by
    unfold k_qmul at h
    split at h
    · cases h; exact qmul _ _ _ _ (ho _ (by simp)) (ho _ (by simp))
    · cases h) args obs r

abbrev k_qfloor : List Pa → Option (List Prop × Av)
  | [.r L q] => some ([L ≤ 262143], sv (.int q.floor))
  | _ => none

theorem e_qfloor (args : List Av) (obs : List Prop) (r : Av) : ent [.r] k_qfloor args = some (obs, r) → (∀ p ∈ obs, p) → Cn 55 args r :=
  ent_ok (fun ps obs r h ho => by
    unfold k_qfloor at h
    split at h
    · cases h; exact qfloor _ _ (ho _ (by simp))
    · cases h) args obs r

def tQ2 : List Ent := (26, ent [.r] k_qtrim) :: (22, ent [.r] k_qsign) :: (32, ent [.r, .r] k_qadd) :: (24, ent [.r, .r] k_qcmp) :: (36, ent [.r, .r] k_qmul) :: (55, ent [.r] k_qfloor) :: tQ1

theorem tQ2_ok : EntsOk tQ2 := ⟨e_qtrim, e_qsign, e_qadd, e_qcmp, e_qmul, e_qfloor, tQ1_ok⟩

end Go.Proofs.YtagciepnhjbopaaGreatDoor
