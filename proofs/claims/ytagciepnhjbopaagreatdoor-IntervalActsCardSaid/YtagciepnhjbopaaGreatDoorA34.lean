/- What the statements of this claim stand on: of Rr2, Q1, what they name -/
import Derived.Test.YtagciepnhjbopaaGreatDoorA28
import Derived.Test.YtagciepnhjbopaaGreatDoorA33

namespace Go.Proofs.YtagciepnhjbopaaGreatDoor
open Go.RowKit

theorem quot_ne {D g : Nat} {a : Nat} (hD : D ≠ 0) (hg : Nat.gcd a D = g) : D / g ≠ 0 := by
  intro e
  have h1 : g ∣ D := by rw [← hg]; exact Nat.gcd_dvd_right _ _
  have h2 := Nat.div_mul_cancel h1
  rw [e, Nat.zero_mul] at h2
  exact hD h2.symm

theorem sign_ne0 {z : Int} (h : z ≠ 0) : (z.sign == 0) = false := by
  rw [beq_eq_false_iff_ne]
  exact fun e => h (Int.sign_eq_zero_iff_zero.1 e)

theorem nz_floor' (a b : Int) : nz (a / b) ≤ nz a := by
  unfold nz
  exact dg_len_mono (Int.natAbs_ediv_le_natAbs _ _)

theorem low_pos {z : Int} {D g : Nat} (hD : D ≠ 0) (hg : Nat.gcd z.natAbs D = g) : (Rat.divInt z (D : Int)).num = z / (g : Int) ∧ (Rat.divInt z (D : Int)).den = D / g ∧ ((D : Int) / (g : Int)) = ((D / g : Nat) : Int) := by
  subst hg
  rw [divInt_pos]
  exact ⟨mk_num z hD, mk_den z hD, rfl⟩

theorem low_neg {z : Int} {D g : Nat} (hD : D ≠ 0) (hg : Nat.gcd z.natAbs D = g) : (Rat.divInt z (-(D : Int))).num = -(z / (g : Int)) ∧ (Rat.divInt z (-(D : Int))).den = D / g ∧ (-(D : Int) / (g : Int)) = -((D / g : Nat) : Int) := by
  subst hg
  have e : Rat.divInt z (-(D : Int)) = mkRat (-z) D := by
    have := divInt_neg (-z) (D : Int)
    rw [Int.neg_neg] at this
    rw [this]
    rfl
  have h1 : ((Nat.gcd z.natAbs D : Nat) : Int) ∣ z := by
    exact Int.ofNat_dvd_left.2 (Nat.gcd_dvd_left _ _)
  have h2 : ((Nat.gcd z.natAbs D : Nat) : Int) ∣ (D : Int) := Int.natCast_dvd_natCast.2 (Nat.gcd_dvd_right _ _)
  rw [e]
  refine ⟨?_, ?_, ?_⟩
  · rw [mk_num (-z) hD, Int.natAbs_neg]
    exact Int.neg_ediv_of_dvd h1
  · rw [mk_den (-z) hD, Int.natAbs_neg]
  · rw [Int.neg_ediv_of_dvd h2]; rfl

end Go.Proofs.YtagciepnhjbopaaGreatDoor

namespace Go.Proofs.YtagciepnhjbopaaGreatDoor
open Go.RowKit En

def pZ (z : Int) (d : Nat) : Int := if d = 0 then 0 else z

def pD (d : Nat) : Nat := if d = 0 then 1 else d

theorem pD_ne (d : Nat) : pD d ≠ 0 := by unfold pD; split <;> omega

theorem mk_P (z : Int) (d : Nat) : mkRat (pZ z d) (pD d) = mkRat z d := by
  unfold pZ pD
  split
  · rename_i h; subst h; rw [Rat.mkRat_zero]; rfl
  · rfl

theorem pZ_le (z : Int) (d : Nat) : nz (pZ z d) ≤ nz z := by
  unfold pZ nz
  split
  · rw [Int.natAbs_zero, dg_zero]; exact Nat.zero_le _
  · exact Nat.le_refl _

theorem pD_le (d : Nat) : (dg (pD d)).length ≤ (dg d).length + 1 := by
  unfold pD
  split
  · rw [dg_one]; simp
  · omega

theorem len0 {d : Nat} : ((((dg d).length : Nat) : Int) == 0) = decide (d = 0) := by
  by_cases h : d = 0
  · subst h; rw [dg_zero]; rfl
  · have h1 : dg d ≠ [] := fun e => h (dg_nil.1 e)
    have h2 : (dg d).length ≠ 0 := fun e => h1 (List.length_eq_zero_iff.1 e)
    rw [decide_eq_false h, beq_eq_false_iff_ne]
    omega

theorem vl_weak {p q : Bool × List (Seg Kn)} {w : World} {v : Value} (h : vl Dn w p v) (hk : ∀ w u, (AV.val p.1 p.2 : Av).holds Dn none' w u → (AV.val q.1 q.2 : Av).holds Dn none' w u) : vl Dn w q v := hk w v h

theorem tup2 {p q p' q' : Bool × List (Seg Kn)} (h1 : ∀ w u, (AV.val p.1 p.2 : Av).holds Dn none' w u → (AV.val p'.1 p'.2 : Av).holds Dn none' w u) (h2 : ∀ w u, (AV.val q.1 q.2 : Av).holds Dn none' w u → (AV.val q'.1 q'.2 : Av).holds Dn none' w u) (w : World) (u : Value) (h : (AV.tup [p, q] : Av).holds Dn none' w u) : (AV.tup [p', q'] : Av).holds Dn none' w u := by
  obtain ⟨us, rfl, v, _, rfl, k1, v', _, rfl, k2, rfl⟩ := h
  exact ⟨_, rfl, v, _, rfl, vl_weak k1 h1, v', _, rfl, vl_weak k2 h2, rfl⟩

theorem int_join {ss : List (Seg Kn)} {L M : Nat} {z z' : Int} (h : pInt ss = some (L, z)) (hL : L ≤ M) (hz : z = z') (w : World) (u : Value) (hs : (AV.val true ss : Av).holds Dn none' w u) : (sv (.rint M z')).holds Dn none' w u :=
  hz ▸ sv_of (x := .rint M z) ((pInt_ok h hs).mono hL) _

theorem parts_c (L M d : Nat) (z : Int) (_hM : M ≤ 524287) (hd : (dg d).length ≤ M) : Cn 100 [.val true [.sem (.rint L z), .sem (.rnat M d)]] (.tup [(true, [.sem (.rint L (pZ z d))]), (true, [.sem (.rint (M + 1) ((pD d : Nat) : Int))])]) := by
  by_cases h : d = 0
  · refine cn_res (wk leafs_ok (ds := [some true]) (fuel := 10) (obs := [M ≤ 1048576, ((((dg d).length : Nat) : Int) == 0) = true]) (r := .tup [(true, [.lit (.bool false), .lit (.slice none 0 0)]), (true, [.lit (.bool false), .sem (.nat 1)])]) Tryz.func100 rfl (by kernel_rfl) ⟨by omega, by rw [len0]; simpa using h, trivial⟩) ?_
    refine tup2 (int_join rfl (Nat.zero_le _) (by unfold pZ; rw [if_pos h]; rfl)) (int_join rfl ?_ (by unfold pD; rw [if_pos h]; rfl))
    rw [dg_one]
    exact Nat.succ_le_succ (Nat.zero_le _)
  · refine cn_res (wk leafs_ok (ds := [some false]) (fuel := 10) (obs := [M ≤ 1048576, ((((dg d).length : Nat) : Int) == 0) = false]) (r := .tup [(true, [.sem (.rint L z)]), (true, [.lit (.bool false), .sem (.nat d)])]) Tryz.func100 rfl (by kernel_rfl) ⟨by omega, by rw [len0]; simpa using h, trivial⟩) ?_
    exact tup2 (int_join rfl (Nat.le_refl _) (by unfold pZ; rw [if_neg h])) (int_join rfl (Nat.le_succ_of_le hd) (by unfold pD; rw [if_neg h]; rfl))

theorem sgn0 {z : Int} (h : z = 0) : (z.sign == 0) = true := by subst h; rfl

theorem reduce_c (L M : Nat) (z d : Int) (_hL : L ≤ 524286) (hM : M ≤ 524287) : Cp 102 [.i L z, .i M d] (sv (.rat (Rat.divInt z d))) := by
  refine cp_opn ⟨_, Tryz.func102, rfl, rfl⟩ ?_
  rintro _ ⟨_, _, rfl, ⟨hz, rfl⟩, _, _, rfl, ⟨hd, rfl⟩, rfl⟩
  by_cases h0 : z = 0
  · rw [show Rat.divInt z d = 0 by rw [h0]; exact Rat.zero_divInt d]
    exact cn_res (wk leafs_ok (ds := [some true]) (fuel := 10) (obs := [L ≤ 524287, (z.sign == 0) = true]) Tryz.func102 rfl (by kernel_rfl) ⟨by omega, sgn0 h0, trivial⟩) rat_zero
  · by_cases h1 : d = 0
    · rw [show Rat.divInt z d = 0 by rw [h1]; exact Rat.divInt_zero z]
      exact cn_res (wk leafs_ok (ds := [some false, none, some true]) (fuel := 10) (obs := [L ≤ 524287, (z.sign == 0) = false, M ≤ 524287, (d.sign == 0) = true]) Tryz.func102 rfl (by kernel_rfl) ⟨by omega, sign_ne0 h0, hM, sgn0 h1, trivial⟩) rat_zero
    · have hg : Nat.gcd z.natAbs d.natAbs ≠ 0 := fun e => h1 (Int.natAbs_eq_zero.1 (Nat.eq_zero_of_gcd_eq_zero_right e))
      have hg1 : ((Nat.gcd z.natAbs d.natAbs : Nat) : Int) ≠ 0 := by omega
      have hg2 : nz ((Nat.gcd z.natAbs d.natAbs : Nat) : Int) ≤ 524287 := by
        rw [nz_nat]
        have := dg_len_mono (Nat.gcd_le_right z.natAbs (n := d.natAbs) (by omega))
        unfold nz at hd
        omega
      rcases Int.lt_or_le d 0 with h2 | h2
      · obtain ⟨D, hD⟩ : ∃ D : Nat, d = -(D : Int) := ⟨d.natAbs, by omega⟩
        obtain ⟨e1, e2, e3⟩ := low_neg (z := z) (D := D) (g := Nat.gcd z.natAbs d.natAbs) (by omega) (by rw [hD, Int.natAbs_neg]; rfl)
        have hq := quot_ne (D := D) (a := z.natAbs) (g := Nat.gcd z.natAbs d.natAbs) (by omega) (by rw [hD, Int.natAbs_neg]; rfl)
        rw [← hD] at e1 e2 e3
        refine cn_res (wk leafs_ok (ds := [some false, none, some false, none, some true]) (fuel := 10) (obs := [L ≤ 524287, (z.sign == 0) = false, M ≤ 524287, (d.sign == 0) = false, L ≤ 524287, M ≤ 524287, L ≤ 524287, nz ((Nat.gcd z.natAbs d.natAbs : Nat) : Int) ≤ 524287, ((Nat.gcd z.natAbs d.natAbs : Nat) : Int) ≠ 0, M ≤ 524287, nz ((Nat.gcd z.natAbs d.natAbs : Nat) : Int) ≤ 524287, ((Nat.gcd z.natAbs d.natAbs : Nat) : Int) ≠ 0, decide (d / ((Nat.gcd z.natAbs d.natAbs : Nat) : Int) < 0) = true, nz (z / ((Nat.gcd z.natAbs d.natAbs : Nat) : Int)) ≤ 524287]) Tryz.func102 rfl (by kernel_rfl) ⟨by omega, sign_ne0 h0, hM, sign_ne0 h1, by omega, hM, by omega, hg2, hg1, hM, hg2, hg1, ?_, ?_, trivial⟩) (rat_join (x := (d / ((Nat.gcd z.natAbs d.natAbs : Nat) : Int)).natAbs) e1 (by rw [e2, e3, Int.natAbs_neg]; rfl))
        · rw [e3, decide_eq_true_eq]; omega
        · have := nz_floor' z ((Nat.gcd z.natAbs d.natAbs : Nat) : Int); omega
      · obtain ⟨D, hD⟩ := Int.eq_ofNat_of_zero_le h2
        obtain ⟨e1, e2, e3⟩ := low_pos (z := z) (D := D) (g := Nat.gcd z.natAbs d.natAbs) (by omega) (by rw [hD]; rfl)
        rw [← hD] at e1 e2 e3
        refine cn_res (wk leafs_ok (ds := [some false, none, some false, none, some false]) (fuel := 10) (obs := [L ≤ 524287, (z.sign == 0) = false, M ≤ 524287, (d.sign == 0) = false, L ≤ 524287, M ≤ 524287, L ≤ 524287, nz ((Nat.gcd z.natAbs d.natAbs : Nat) : Int) ≤ 524287, ((Nat.gcd z.natAbs d.natAbs : Nat) : Int) ≠ 0, M ≤ 524287, nz ((Nat.gcd z.natAbs d.natAbs : Nat) : Int) ≤ 524287, ((Nat.gcd z.natAbs d.natAbs : Nat) : Int) ≠ 0, decide (d / ((Nat.gcd z.natAbs d.natAbs : Nat) : Int) < 0) = false]) Tryz.func102 rfl (by kernel_rfl) ⟨by omega, sign_ne0 h0, hM, sign_ne0 h1, by omega, hM, by omega, hg2, hg1, hM, hg2, hg1, ?_, trivial⟩) (rat_join (x := (d / ((Nat.gcd z.natAbs d.natAbs : Nat) : Int)).natAbs) e1 (by rw [e2, e3]; rfl))
        rw [e3, decide_eq_false_iff_not]
        omega

abbrev k_parts : List Av → Option (List Prop × Av)
  | [.val true [.sem (.rint L z), .sem (.rnat M d)]] => some ([M ≤ 524287, (dg d).length ≤ M], .tup [(true, [.sem (.rint L (pZ z d))]), (true, [.sem (.rint (M + 1) ((pD d : Nat) : Int))])])
  | _ => none

theorem e_parts (args : List Av) (obs : List Prop) (r : Av) (h : k_parts args = some (obs, r)) (ho : ∀ p ∈ obs, p) : Cn 100 args r := by
  unfold k_parts at h
  split at h
  · cases h; exact parts_c _ _ _ _ (ho _ (by simp)) (ho _ (by simp))
  · cases h

abbrev k_reduce : List Pa → Option (List Prop × Av)
  | [.i L z, .i M d] => some ([L ≤ 524286, M ≤ 524287], sv (.rat (Rat.divInt z d)))
  | _ => none

theorem e_reduce (args : List Av) (obs : List Prop) (r : Av) : ent [.i, .i] k_reduce args = some (obs, r) → (∀ p ∈ obs, p) → Cn 102 args r :=
  ent_ok (fun ps obs r h ho => by
    unfold k_reduce at h
    split at h
    · cases h; exact reduce_c _ _ _ _ (ho _ (by simp)) (ho _ (by simp))
    · cases h) args obs r

def tQ1 : List Ent := (100, k_parts) :: (102, ent [.i, .i] k_reduce) :: leafs

theorem tQ1_ok : EntsOk tQ1 := ⟨e_parts, e_reduce, leafs_ok⟩

end Go.Proofs.YtagciepnhjbopaaGreatDoor
