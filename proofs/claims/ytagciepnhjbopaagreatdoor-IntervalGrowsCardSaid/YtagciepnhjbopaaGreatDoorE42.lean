/- What the statements of this claim stand on: of Q19, what they name -/
import Derived.Test.YtagciepnhjbopaaGreatDoorE39

namespace Go.Proofs.YtagciepnhjbopaaGreatDoor
open Go.RowKit En

theorem m4_lo (a b c d : Rat) : minQ (min4 a b c d) (max4 a b c d) = min4 a b c d := by unfold min4 max4 minQ maxQ; grind

theorem m4_hi (a b c d : Rat) : maxQ (min4 a b c d) (max4 a b c d) = max4 a b c d := by unfold min4 max4 minQ maxQ; grind

theorem hull_c (L M : Nat) (r s t u : Rat) (_hL : L ≤ 30000) (hM : M = L) (_hr : nq r ≤ 9999) (_hs : nq s ≤ 9999) (_ht : nq t ≤ 9999) (_hu : nq u ≤ 9999) : Cp 94 [.vv L r s, .vv M t u] (iv2 (min4 r s t u) (max4 r s t u)) := by
  have h1 := nq_min4 r s t u
  have h2 := nq_max4 r s t u
  have h := (cp_of (wk4 (hint := (fun _ => none)) (es := tI4) (alts := []) (ls := lSp) tI4_ok trivial lSp_ok (ds := []) (fuel := 40) (obs := [L = L ∧ M = L ∧ M = L ∧ L ≤ 65535, L + L ≤ 65535, nq (min4 r s t u) ≤ 65535, nq (max4 r s t u) ≤ 65535]) (r := AV.val (true) [Seg.sem (Kn.rat (minQ (min4 r s t u) (max4 r s t u))), Seg.sem (Kn.rat (maxQ (min4 r s t u) (max4 r s t u)))]) Tryz.func94 rfl (by kernel_rfl) ⟨⟨rfl, hM, hM, by omega⟩, by omega, by omega, by omega, trivial⟩) : Cp 94 [.vv L r s, .vv M t u] _)
  rw [m4_lo, m4_hi] at h
  exact h

abbrev k_hull : List Pa → Option (List Prop × Av)
  | [.vv L r s, .vv M t u] => some ([L ≤ 30000, M = L, nq r ≤ 9999, nq s ≤ 9999, nq t ≤ 9999, nq u ≤ 9999], iv2 (min4 r s t u) (max4 r s t u))
  | _ => none

theorem e_hull (args : List Av) (obs : List Prop) (r : Av) : ent [.vv, .vv] k_hull args = some (obs, r) → (∀ p ∈ obs, p) → Cn 94 args r :=
  ent_ok (fun ps obs r h ho => by
    unfold k_hull at h
    split at h
    · cases h; exact hull_c _ _ _ _ _ _ (ho _ (by simp)) (ho _ (by simp)) (ho _ (by simp)) (ho _ (by simp)) (ho _ (by simp)) (ho _ (by simp))
    · cases h) args obs r

noncomputable def tG4 : List Ent := (94, ent [.vv, .vv] k_hull) :: tE4

theorem tG4_ok : EntsOk tG4 := ⟨e_hull, tE4_ok⟩

theorem btw_end1 {a b r s : Rat} (_h1 : Btw a b r) (_h2 : Btw a b s) : Btw a b (minQ r s) ∧ Btw a b (maxQ r s) := by
  constructor
  · have : minQ r s = r ∨ minQ r s = s := by unfold minQ; grind
    rcases this with e | e <;> rw [e] <;> assumption
  · have : maxQ r s = r ∨ maxQ r s = s := by unfold maxQ; grind
    rcases this with e | e <;> rw [e] <;> assumption

theorem of4 {P : Rat → Prop} {a b c d : Rat} (_h1 : P a) (_h2 : P b) (_h3 : P c) (_h4 : P d) : P (min4 a b c d) ∧ P (max4 a b c d) := by
  have e1 : min4 a b c d = a ∨ min4 a b c d = b ∨ min4 a b c d = c ∨ min4 a b c d = d := by unfold min4 minQ; grind
  have e2 : max4 a b c d = a ∨ max4 a b c d = b ∨ max4 a b c d = c ∨ max4 a b c d = d := by unfold max4 maxQ; grind
  constructor
  · rcases e1 with e | e | e | e <;> rw [e] <;> assumption
  · rcases e2 with e | e | e | e <;> rw [e] <;> assumption

theorem btw_zero {r s : Rat} (h : sgnI r s = 0) : Btw r s 0 := by
  unfold Btw
  have h1 : ¬ (0 < r ∧ 0 < s) := by
    rintro ⟨h1, h2⟩
    unfold sgnI at h
    rw [sign_pos.2 h1, sign_pos.2 h2] at h
    simp at h
  have h2 : ¬ (r < 0 ∧ s < 0) := by
    rintro ⟨h1, h2⟩
    unfold sgnI at h
    rw [sign_neg.2 h1, sign_neg.2 h2] at h
    simp at h
  unfold minQ maxQ
  grind

theorem ctn2 {a b p q : Rat} (h1 : ctn a b p = true) (h2 : ctn a b q = true) : insB a b p q = true := by unfold insB; rw [h1, h2]; rfl

theorem grow_add {a b c d r s t u : Rat} (h1 : Btw a b r) (h2 : Btw a b s) (h3 : Btw c d t) (h4 : Btw c d u) : insB (minQ a b + minQ c d) (maxQ a b + maxQ c d) (minQ r s + minQ t u) (maxQ r s + maxQ t u) = true :=
  ctn2 (btw_sum (btw_end1 h1 h2).1 (btw_end1 h3 h4).1) (btw_sum (btw_end1 h1 h2).2 (btw_end1 h3 h4).2)

theorem grow_sub {a b c d r s t u : Rat} (h1 : Btw a b r) (h2 : Btw a b s) (h3 : Btw c d t) (h4 : Btw c d u) : insB (minQ a b - maxQ c d) (maxQ a b - minQ c d) (minQ r s - maxQ t u) (maxQ r s - minQ t u) = true :=
  ctn2 (btw_diff (btw_end1 h1 h2).1 (btw_end1 h3 h4).2) (btw_diff (btw_end1 h1 h2).2 (btw_end1 h3 h4).1)

theorem grow_mul {a b c d r s t u : Rat} (h1 : Btw a b r) (h2 : Btw a b s) (h3 : Btw c d t) (h4 : Btw c d u) : insB (min4 (a * c) (a * d) (b * c) (b * d)) (max4 (a * c) (a * d) (b * c) (b * d)) (min4 (r * t) (r * u) (s * t) (s * u)) (max4 (r * t) (r * u) (s * t) (s * u)) = true := by
  obtain ⟨k1, k2⟩ := of4 (P := fun z => ctn (min4 (a * c) (a * d) (b * c) (b * d)) (max4 (a * c) (a * d) (b * c) (b * d)) z = true) (btw_mulI h1 h3) (btw_mulI h1 h4) (btw_mulI h2 h3) (btw_mulI h2 h4)
  exact ctn2 k1 k2

theorem btw_trans {a b r s x : Rat} (h1 : Btw a b r) (h2 : Btw a b s) (h : Btw r s x) : Btw a b x := by
  obtain ⟨k1, k2⟩ := btw_end1 h1 h2
  exact ⟨Rat.le_trans k1.1 h.1, Rat.le_trans h.2 k2.2⟩

theorem grow_sq {a b r s : Rat} (h1 : Btw a b r) (h2 : Btw a b s) : insB (sqLo a b) (maxQ (a * a) (b * b)) (sqLo r s) (maxQ (r * r) (s * s)) = true := by
  refine ctn2 ?_ ?_
  · unfold sqLo
    by_cases h : sgnI r s = 0
    · rw [if_pos h]
      have := btw_sq (btw_trans h1 h2 (btw_zero h))
      rw [Rat.zero_mul] at this
      exact this
    · rw [if_neg h]
      have : minQ (r * r) (s * s) = r * r ∨ minQ (r * r) (s * s) = s * s := by unfold minQ; grind
      rcases this with e | e <;> rw [e]
      · exact btw_sq h1
      · exact btw_sq h2
  · have : maxQ (r * r) (s * s) = r * r ∨ maxQ (r * r) (s * s) = s * s := by unfold maxQ; grind
    rcases this with e | e <;> rw [e]
    · exact btw_sq h1
    · exact btw_sq h2

theorem btw_hull (r s t u : Rat) : Btw (min4 r s t u) (max4 r s t u) r ∧ Btw (min4 r s t u) (max4 r s t u) s := by
  unfold Btw
  rw [m4_lo, m4_hi]
  unfold min4 max4 minQ maxQ
  grind

theorem grows_c (r s t u r' s' t' u' : Rat) (_hr : nq r ≤ 9) (_hs : nq s ≤ 9) (_ht : nq t ≤ 9) (_hu : nq u ≤ 9) (_hr' : nq r' ≤ 9) (_hs' : nq s' ≤ 9) (_ht' : nq t' ≤ 9) (_hu' : nq u' ≤ 9) : Cn 12 [.val true (ivSegs 4 r s), .val true (ivSegs 4 t u), .val true (ivSegs 4 r' s'), .val true (ivSegs 4 t' u')] (avB true) := by
  obtain ⟨h1, h2⟩ := btw_hull r s r' s'
  obtain ⟨h3, h4⟩ := btw_hull t u t' u'
  have a1 := nq_min4 r s r' s'
  have a2 := nq_max4 r s r' s'
  have a3 := nq_min4 t u t' u'
  have a4 := nq_max4 t u t' u'
  have b1 := nq_sumI r s t u
  have b2 := nq_sumI (min4 r s r' s') (max4 r s r' s') (min4 t u t' u') (max4 t u t' u')
  have b3 := nq_mulI r s t u
  have b4 := nq_mulI (min4 r s r' s') (max4 r s r' s') (min4 t u t' u') (max4 t u t' u')
  have b5 := nq_sqI r s
  have b6 := nq_sqI (min4 r s r' s') (max4 r s r' s')
  have c0 := ctn2 ((ctn_iff _ _ _).2 h1) ((ctn_iff _ _ _).2 h2)
  have c1 := grow_add h1 h2 h3 h4
  have c2 := grow_sub h1 h2 h3 h4
  have c3 := grow_mul h1 h2 h3 h4
  have c4 := grow_sq h1 h2
  exact (wk tG4_ok (ds := [none, none, none, none, none, none, none, none, none, none, none, none, none, none, none, none, none, some true, none, none, some true, none, none, some true, none, none, some true, none, none, some true, none, none]) (fuel := 40) (obs := [r = r ∧ s = s, t = t ∧ u = u, r' = r' ∧ s' = s', t' = t' ∧ u' = u', 4 + 4 ≤ 30000, 4 + 4 = 4 + 4, nq r ≤ 9999, nq s ≤ 9999, nq r' ≤ 9999, nq s' ≤ 9999, 4 + 4 ≤ 30000, 4 + 4 = 4 + 4, nq t ≤ 9999, nq u ≤ 9999, nq t' ≤ 9999, nq u' ≤ 9999, 4 + 4 ≤ 15000, nq (min4 r s r' s') + nq (max4 r s r' s') ≤ 15000, insB (min4 r s r' s') (max4 r s r' s') r s = true, 4 + 4 ≤ 8000, 4 + 4 ≤ 8000, nq (min4 r s r' s') + nq (max4 r s r' s') ≤ 8000, nq (min4 t u t' u') + nq (max4 t u t' u') ≤ 8000, nq (minQ r s + minQ t u) + nq (maxQ r s + maxQ t u) ≤ 15000, nq (minQ (min4 r s r' s') (max4 r s r' s') + minQ (min4 t u t' u') (max4 t u t' u')) + nq (maxQ (min4 r s r' s') (max4 r s r' s') + maxQ (min4 t u t' u') (max4 t u t' u')) ≤ 15000, insB (minQ (min4 r s r' s') (max4 r s r' s') + minQ (min4 t u t' u') (max4 t u t' u')) (maxQ (min4 r s r' s') (max4 r s r' s') + maxQ (min4 t u t' u') (max4 t u t' u')) (minQ r s + minQ t u) (maxQ r s + maxQ t u) = true, 4 + 4 ≤ 8000, 4 + 4 ≤ 8000, nq (min4 r s r' s') + nq (max4 r s r' s') ≤ 8000, nq (min4 t u t' u') + nq (max4 t u t' u') ≤ 8000, nq (minQ r s - maxQ t u) + nq (maxQ r s - minQ t u) ≤ 15000, nq (minQ (min4 r s r' s') (max4 r s r' s') - maxQ (min4 t u t' u') (max4 t u t' u')) + nq (maxQ (min4 r s r' s') (max4 r s r' s') - minQ (min4 t u t' u') (max4 t u t' u')) ≤ 15000, insB (minQ (min4 r s r' s') (max4 r s r' s') - maxQ (min4 t u t' u') (max4 t u t' u')) (maxQ (min4 r s r' s') (max4 r s r' s') - minQ (min4 t u t' u') (max4 t u t' u')) (minQ r s - maxQ t u) (maxQ r s - minQ t u) = true, 4 + 4 ≤ 65535, 4 + 4 ≤ 65535, nq r ≤ 9999, nq s ≤ 9999, nq t ≤ 9999, nq u ≤ 9999, nq (min4 r s r' s') + nq (max4 r s r' s') ≤ 65535, nq (min4 t u t' u') + nq (max4 t u t' u') ≤ 65535, nq (min4 r s r' s') ≤ 9999, nq (max4 r s r' s') ≤ 9999, nq (min4 t u t' u') ≤ 9999, nq (max4 t u t' u') ≤ 9999, nq (min4 (r * t) (r * u) (s * t) (s * u)) + nq (max4 (r * t) (r * u) (s * t) (s * u)) ≤ 15000, nq (min4 (min4 r s r' s' * min4 t u t' u') (min4 r s r' s' * max4 t u t' u') (max4 r s r' s' * min4 t u t' u') (max4 r s r' s' * max4 t u t' u')) + nq (max4 (min4 r s r' s' * min4 t u t' u') (min4 r s r' s' * max4 t u t' u') (max4 r s r' s' * min4 t u t' u') (max4 r s r' s' * max4 t u t' u')) ≤ 15000, insB (min4 (min4 r s r' s' * min4 t u t' u') (min4 r s r' s' * max4 t u t' u') (max4 r s r' s' * min4 t u t' u') (max4 r s r' s' * max4 t u t' u')) (max4 (min4 r s r' s' * min4 t u t' u') (min4 r s r' s' * max4 t u t' u') (max4 r s r' s' * min4 t u t' u') (max4 r s r' s' * max4 t u t' u')) (min4 (r * t) (r * u) (s * t) (s * u)) (max4 (r * t) (r * u) (s * t) (s * u)) = true, 4 + 4 ≤ 30000, nq r ≤ 9999, nq s ≤ 9999, nq (min4 r s r' s') + nq (max4 r s r' s') ≤ 30000, nq (min4 r s r' s') ≤ 9999, nq (max4 r s r' s') ≤ 9999, nq (sqLo r s) + nq (maxQ (r * r) (s * s)) ≤ 15000, nq (sqLo (min4 r s r' s') (max4 r s r' s')) + nq (maxQ (min4 r s r' s' * min4 r s r' s') (max4 r s r' s' * max4 r s r' s')) ≤ 15000, insB (sqLo (min4 r s r' s') (max4 r s r' s')) (maxQ (min4 r s r' s' * min4 r s r' s') (max4 r s r' s' * max4 r s r' s')) (sqLo r s) (maxQ (r * r) (s * s)) = true]) (r := AV.val false [Seg.lit (Value.bool true)]) Tryz.func12 rfl (by kernel_rfl) (by simp only [AllP, and_true, true_and]; (repeat' apply And.intro) <;> first | assumption | omega))

theorem grows_b0 (g1 : Bool) (p1 : Option Addr) (n1 c1 : Nat) (q1 : Option Addr) (m1 d1 : Nat) (g2 : Bool) (p2 : Option Addr) (n2 c2 : Nat) (q2 : Option Addr) (m2 d2 : Nat) (g3 : Bool) (p3 : Option Addr) (n3 c3 : Nat) (q3 : Option Addr) (m3 d3 : Nat) (g4 : Bool) (p4 : Option Addr) (n4 c4 : Nat) (q4 : Option Addr) (m4 d4 : Nat) (g5 : Bool) (p5 : Option Addr) (n5 c5 : Nat) (q5 : Option Addr) (m5 d5 : Nat) (g6 : Bool) (p6 : Option Addr) (n6 c6 : Nat) (q6 : Option Addr) (m6 d6 : Nat) (g7 : Bool) (p7 : Option Addr) (n7 c7 : Nat) (q7 : Option Addr) (m7 d7 : Nat) (g8 : Bool) (p8 : Option Addr) (n8 c8 : Nat) (q8 : Option Addr) (m8 d8 : Nat) (h0 : ((decide (n1 ≤ 4) && decide (m1 ≤ 4)) && (decide (n2 ≤ 4) && decide (m2 ≤ 4))) = false) : Cn 12 [lits6 g1 p1 n1 c1 q1 m1 d1 g2 p2 n2 c2 q2 m2 d2, lits6 g3 p3 n3 c3 q3 m3 d3 g4 p4 n4 c4 q4 m4 d4, lits6 g5 p5 n5 c5 q5 m5 d5 g6 p6 n6 c6 q6 m6 d6, lits6 g7 p7 n7 c7 q7 m7 d7 g8 p8 n8 c8 q8 m8 d8] (avB true) :=
  (wk tG4_ok (ds := [none, some false]) (fuel := 40) (obs := [(g1 = g1 ∧ p1 = p1 ∧ c1 = c1 ∧ q1 = q1 ∧ d1 = d1) ∧ g2 = g2 ∧ p2 = p2 ∧ c2 = c2 ∧ q2 = q2 ∧ d2 = d2, (match match decide (n1 ≤ 4) with | false => false | true => decide (m1 ≤ 4) with | false => false | true => decide (n2 ≤ 4) && decide (m2 ≤ 4)) = false]) (r := AV.val false [Seg.lit (Value.bool true)]) Tryz.func12 rfl (by kernel_rfl) ⟨⟨⟨rfl, rfl, rfl, rfl, rfl⟩, rfl, rfl, rfl, rfl, rfl⟩, h0, trivial⟩)

theorem grows_b1 (g1 : Bool) (p1 : Option Addr) (n1 c1 : Nat) (q1 : Option Addr) (m1 d1 : Nat) (g2 : Bool) (p2 : Option Addr) (n2 c2 : Nat) (q2 : Option Addr) (m2 d2 : Nat) (g3 : Bool) (p3 : Option Addr) (n3 c3 : Nat) (q3 : Option Addr) (m3 d3 : Nat) (g4 : Bool) (p4 : Option Addr) (n4 c4 : Nat) (q4 : Option Addr) (m4 d4 : Nat) (g5 : Bool) (p5 : Option Addr) (n5 c5 : Nat) (q5 : Option Addr) (m5 d5 : Nat) (g6 : Bool) (p6 : Option Addr) (n6 c6 : Nat) (q6 : Option Addr) (m6 d6 : Nat) (g7 : Bool) (p7 : Option Addr) (n7 c7 : Nat) (q7 : Option Addr) (m7 d7 : Nat) (g8 : Bool) (p8 : Option Addr) (n8 c8 : Nat) (q8 : Option Addr) (m8 d8 : Nat) (h0 : ((decide (n1 ≤ 4) && decide (m1 ≤ 4)) && (decide (n2 ≤ 4) && decide (m2 ≤ 4))) = true) (h1 : ((decide (n3 ≤ 4) && decide (m3 ≤ 4)) && (decide (n4 ≤ 4) && decide (m4 ≤ 4))) = false) : Cn 12 [lits6 g1 p1 n1 c1 q1 m1 d1 g2 p2 n2 c2 q2 m2 d2, lits6 g3 p3 n3 c3 q3 m3 d3 g4 p4 n4 c4 q4 m4 d4, lits6 g5 p5 n5 c5 q5 m5 d5 g6 p6 n6 c6 q6 m6 d6, lits6 g7 p7 n7 c7 q7 m7 d7 g8 p8 n8 c8 q8 m8 d8] (avB true) :=
  (wk tG4_ok (ds := [none, some true, none, none, some false]) (fuel := 40) (obs := [(g1 = g1 ∧ p1 = p1 ∧ c1 = c1 ∧ q1 = q1 ∧ d1 = d1) ∧ g2 = g2 ∧ p2 = p2 ∧ c2 = c2 ∧ q2 = q2 ∧ d2 = d2, (match match decide (n1 ≤ 4) with | false => false | true => decide (m1 ≤ 4) with | false => false | true => decide (n2 ≤ 4) && decide (m2 ≤ 4)) = true, (g3 = g3 ∧ p3 = p3 ∧ c3 = c3 ∧ q3 = q3 ∧ d3 = d3) ∧ g4 = g4 ∧ p4 = p4 ∧ c4 = c4 ∧ q4 = q4 ∧ d4 = d4, (match match decide (n3 ≤ 4) with | false => false | true => decide (m3 ≤ 4) with | false => false | true => decide (n4 ≤ 4) && decide (m4 ≤ 4)) = false]) (r := AV.val false [Seg.lit (Value.bool true)]) Tryz.func12 rfl (by kernel_rfl) ⟨⟨⟨rfl, rfl, rfl, rfl, rfl⟩, rfl, rfl, rfl, rfl, rfl⟩, h0, ⟨⟨rfl, rfl, rfl, rfl, rfl⟩, rfl, rfl, rfl, rfl, rfl⟩, h1, trivial⟩)

theorem grows_b2 (g1 : Bool) (p1 : Option Addr) (n1 c1 : Nat) (q1 : Option Addr) (m1 d1 : Nat) (g2 : Bool) (p2 : Option Addr) (n2 c2 : Nat) (q2 : Option Addr) (m2 d2 : Nat) (g3 : Bool) (p3 : Option Addr) (n3 c3 : Nat) (q3 : Option Addr) (m3 d3 : Nat) (g4 : Bool) (p4 : Option Addr) (n4 c4 : Nat) (q4 : Option Addr) (m4 d4 : Nat) (g5 : Bool) (p5 : Option Addr) (n5 c5 : Nat) (q5 : Option Addr) (m5 d5 : Nat) (g6 : Bool) (p6 : Option Addr) (n6 c6 : Nat) (q6 : Option Addr) (m6 d6 : Nat) (g7 : Bool) (p7 : Option Addr) (n7 c7 : Nat) (q7 : Option Addr) (m7 d7 : Nat) (g8 : Bool) (p8 : Option Addr) (n8 c8 : Nat) (q8 : Option Addr) (m8 d8 : Nat) (h0 : ((decide (n1 ≤ 4) && decide (m1 ≤ 4)) && (decide (n2 ≤ 4) && decide (m2 ≤ 4))) = true) (h1 : ((decide (n3 ≤ 4) && decide (m3 ≤ 4)) && (decide (n4 ≤ 4) && decide (m4 ≤ 4))) = true) (h2 : ((decide (n5 ≤ 4) && decide (m5 ≤ 4)) && (decide (n6 ≤ 4) && decide (m6 ≤ 4))) = false) : Cn 12 [lits6 g1 p1 n1 c1 q1 m1 d1 g2 p2 n2 c2 q2 m2 d2, lits6 g3 p3 n3 c3 q3 m3 d3 g4 p4 n4 c4 q4 m4 d4, lits6 g5 p5 n5 c5 q5 m5 d5 g6 p6 n6 c6 q6 m6 d6, lits6 g7 p7 n7 c7 q7 m7 d7 g8 p8 n8 c8 q8 m8 d8] (avB true) :=
  (wk tG4_ok (ds := [none, some true, none, none, some true, none, none, none, some false]) (fuel := 40) (obs := [(g1 = g1 ∧ p1 = p1 ∧ c1 = c1 ∧ q1 = q1 ∧ d1 = d1) ∧ g2 = g2 ∧ p2 = p2 ∧ c2 = c2 ∧ q2 = q2 ∧ d2 = d2, (match match decide (n1 ≤ 4) with | false => false | true => decide (m1 ≤ 4) with | false => false | true => decide (n2 ≤ 4) && decide (m2 ≤ 4)) = true, (g3 = g3 ∧ p3 = p3 ∧ c3 = c3 ∧ q3 = q3 ∧ d3 = d3) ∧ g4 = g4 ∧ p4 = p4 ∧ c4 = c4 ∧ q4 = q4 ∧ d4 = d4, (match match decide (n3 ≤ 4) with | false => false | true => decide (m3 ≤ 4) with | false => false | true => decide (n4 ≤ 4) && decide (m4 ≤ 4)) = true, (g5 = g5 ∧ p5 = p5 ∧ c5 = c5 ∧ q5 = q5 ∧ d5 = d5) ∧ g6 = g6 ∧ p6 = p6 ∧ c6 = c6 ∧ q6 = q6 ∧ d6 = d6, (match match decide (n5 ≤ 4) with | false => false | true => decide (m5 ≤ 4) with | false => false | true => decide (n6 ≤ 4) && decide (m6 ≤ 4)) = false]) (r := AV.val false [Seg.lit (Value.bool true)]) Tryz.func12 rfl (by kernel_rfl) ⟨⟨⟨rfl, rfl, rfl, rfl, rfl⟩, rfl, rfl, rfl, rfl, rfl⟩, h0, ⟨⟨rfl, rfl, rfl, rfl, rfl⟩, rfl, rfl, rfl, rfl, rfl⟩, h1, ⟨⟨rfl, rfl, rfl, rfl, rfl⟩, rfl, rfl, rfl, rfl, rfl⟩, h2, trivial⟩)

theorem grows_b3 (g1 : Bool) (p1 : Option Addr) (n1 c1 : Nat) (q1 : Option Addr) (m1 d1 : Nat) (g2 : Bool) (p2 : Option Addr) (n2 c2 : Nat) (q2 : Option Addr) (m2 d2 : Nat) (g3 : Bool) (p3 : Option Addr) (n3 c3 : Nat) (q3 : Option Addr) (m3 d3 : Nat) (g4 : Bool) (p4 : Option Addr) (n4 c4 : Nat) (q4 : Option Addr) (m4 d4 : Nat) (g5 : Bool) (p5 : Option Addr) (n5 c5 : Nat) (q5 : Option Addr) (m5 d5 : Nat) (g6 : Bool) (p6 : Option Addr) (n6 c6 : Nat) (q6 : Option Addr) (m6 d6 : Nat) (g7 : Bool) (p7 : Option Addr) (n7 c7 : Nat) (q7 : Option Addr) (m7 d7 : Nat) (g8 : Bool) (p8 : Option Addr) (n8 c8 : Nat) (q8 : Option Addr) (m8 d8 : Nat) (h0 : ((decide (n1 ≤ 4) && decide (m1 ≤ 4)) && (decide (n2 ≤ 4) && decide (m2 ≤ 4))) = true) (h1 : ((decide (n3 ≤ 4) && decide (m3 ≤ 4)) && (decide (n4 ≤ 4) && decide (m4 ≤ 4))) = true) (h2 : ((decide (n5 ≤ 4) && decide (m5 ≤ 4)) && (decide (n6 ≤ 4) && decide (m6 ≤ 4))) = true) (h3 : ((decide (n7 ≤ 4) && decide (m7 ≤ 4)) && (decide (n8 ≤ 4) && decide (m8 ≤ 4))) = false) : Cn 12 [lits6 g1 p1 n1 c1 q1 m1 d1 g2 p2 n2 c2 q2 m2 d2, lits6 g3 p3 n3 c3 q3 m3 d3 g4 p4 n4 c4 q4 m4 d4, lits6 g5 p5 n5 c5 q5 m5 d5 g6 p6 n6 c6 q6 m6 d6, lits6 g7 p7 n7 c7 q7 m7 d7 g8 p8 n8 c8 q8 m8 d8] (avB true) :=
  (wk tG4_ok (ds := [none, some true, none, none, some true, none, none, none, some true, none, none, none, some false]) (fuel := 40) (obs := [(g1 = g1 ∧ p1 = p1 ∧ c1 = c1 ∧ q1 = q1 ∧ d1 = d1) ∧ g2 = g2 ∧ p2 = p2 ∧ c2 = c2 ∧ q2 = q2 ∧ d2 = d2, (match match decide (n1 ≤ 4) with | false => false | true => decide (m1 ≤ 4) with | false => false | true => decide (n2 ≤ 4) && decide (m2 ≤ 4)) = true, (g3 = g3 ∧ p3 = p3 ∧ c3 = c3 ∧ q3 = q3 ∧ d3 = d3) ∧ g4 = g4 ∧ p4 = p4 ∧ c4 = c4 ∧ q4 = q4 ∧ d4 = d4, (match match decide (n3 ≤ 4) with | false => false | true => decide (m3 ≤ 4) with | false => false | true => decide (n4 ≤ 4) && decide (m4 ≤ 4)) = true, (g5 = g5 ∧ p5 = p5 ∧ c5 = c5 ∧ q5 = q5 ∧ d5 = d5) ∧ g6 = g6 ∧ p6 = p6 ∧ c6 = c6 ∧ q6 = q6 ∧ d6 = d6, (match match decide (n5 ≤ 4) with | false => false | true => decide (m5 ≤ 4) with | false => false | true => decide (n6 ≤ 4) && decide (m6 ≤ 4)) = true, (g7 = g7 ∧ p7 = p7 ∧ c7 = c7 ∧ q7 = q7 ∧ d7 = d7) ∧ g8 = g8 ∧ p8 = p8 ∧ c8 = c8 ∧ q8 = q8 ∧ d8 = d8, (match match decide (n7 ≤ 4) with | false => false | true => decide (m7 ≤ 4) with | false => false | true => decide (n8 ≤ 4) && decide (m8 ≤ 4)) = false]) (r := AV.val false [Seg.lit (Value.bool true)]) Tryz.func12 rfl (by kernel_rfl) ⟨⟨⟨rfl, rfl, rfl, rfl, rfl⟩, rfl, rfl, rfl, rfl, rfl⟩, h0, ⟨⟨rfl, rfl, rfl, rfl, rfl⟩, rfl, rfl, rfl, rfl, rfl⟩, h1, ⟨⟨rfl, rfl, rfl, rfl, rfl⟩, rfl, rfl, rfl, rfl, rfl⟩, h2, ⟨⟨rfl, rfl, rfl, rfl, rfl⟩, rfl, rfl, rfl, rfl, rfl⟩, h3, trivial⟩)

theorem grows_any (g1 : Bool) (p1 : Option Addr) (n1 c1 : Nat) (X1 : List Nat) (q1 : Option Addr) (m1 d1 : Nat) (Y1 : List Nat) (g2 : Bool) (p2 : Option Addr) (n2 c2 : Nat) (X2 : List Nat) (q2 : Option Addr) (m2 d2 : Nat) (Y2 : List Nat) (g3 : Bool) (p3 : Option Addr) (n3 c3 : Nat) (X3 : List Nat) (q3 : Option Addr) (m3 d3 : Nat) (Y3 : List Nat) (g4 : Bool) (p4 : Option Addr) (n4 c4 : Nat) (X4 : List Nat) (q4 : Option Addr) (m4 d4 : Nat) (Y4 : List Nat) (g5 : Bool) (p5 : Option Addr) (n5 c5 : Nat) (X5 : List Nat) (q5 : Option Addr) (m5 d5 : Nat) (Y5 : List Nat) (g6 : Bool) (p6 : Option Addr) (n6 c6 : Nat) (X6 : List Nat) (q6 : Option Addr) (m6 d6 : Nat) (Y6 : List Nat) (g7 : Bool) (p7 : Option Addr) (n7 c7 : Nat) (X7 : List Nat) (q7 : Option Addr) (m7 d7 : Nat) (Y7 : List Nat) (g8 : Bool) (p8 : Option Addr) (n8 c8 : Nat) (X8 : List Nat) (q8 : Option Addr) (m8 d8 : Nat) (Y8 : List Nat) (w : World) (ht : Tab w) (s1 : Sl w p1 n1 c1 X1) (t1 : Sl w q1 m1 d1 Y1) (s2 : Sl w p2 n2 c2 X2) (t2 : Sl w q2 m2 d2 Y2) (s3 : Sl w p3 n3 c3 X3) (t3 : Sl w q3 m3 d3 Y3) (s4 : Sl w p4 n4 c4 X4) (t4 : Sl w q4 m4 d4 Y4) (s5 : Sl w p5 n5 c5 X5) (t5 : Sl w q5 m5 d5 Y5) (s6 : Sl w p6 n6 c6 X6) (t6 : Sl w q6 m6 d6 Y6) (s7 : Sl w p7 n7 c7 X7) (t7 : Sl w q7 m7 d7 Y7) (s8 : Sl w p8 n8 c8 X8) (t8 : Sl w q8 m8 d8 Y8) :
    Calls Tryz.prog 12 #[.agg #[.bool g1, .slice p1 n1 c1, .slice q1 m1 d1, .bool g2, .slice p2 n2 c2, .slice q2 m2 d2], .agg #[.bool g3, .slice p3 n3 c3, .slice q3 m3 d3, .bool g4, .slice p4 n4 c4, .slice q4 m4 d4], .agg #[.bool g5, .slice p5 n5 c5, .slice q5 m5 d5, .bool g6, .slice p6 n6 c6, .slice q6 m6 d6], .agg #[.bool g7, .slice p7 n7 c7, .slice q7 m7 d7, .bool g8, .slice p8 n8 c8, .slice q8 m8 d8]] w (RB true w) := by
  have hl : avs Dn none' w [lits6 g1 p1 n1 c1 q1 m1 d1 g2 p2 n2 c2 q2 m2 d2, lits6 g3 p3 n3 c3 q3 m3 d3 g4 p4 n4 c4 q4 m4 d4, lits6 g5 p5 n5 c5 q5 m5 d5 g6 p6 n6 c6 q6 m6 d6, lits6 g7 p7 n7 c7 q7 m7 d7 g8 p8 n8 c8 q8 m8 d8] [.agg #[.bool g1, .slice p1 n1 c1, .slice q1 m1 d1, .bool g2, .slice p2 n2 c2, .slice q2 m2 d2], .agg #[.bool g3, .slice p3 n3 c3, .slice q3 m3 d3, .bool g4, .slice p4 n4 c4, .slice q4 m4 d4], .agg #[.bool g5, .slice p5 n5 c5, .slice q5 m5 d5, .bool g6, .slice p6 n6 c6, .slice q6 m6 d6], .agg #[.bool g7, .slice p7 n7 c7, .slice q7 m7 d7, .bool g8, .slice p8 n8 c8, .slice q8 m8 d8]] := ⟨_, _, rfl, ofV_ok none' w (.agg #[.bool g1, .slice p1 n1 c1, .slice q1 m1 d1, .bool g2, .slice p2 n2 c2, .slice q2 m2 d2]), _, _, rfl, ofV_ok none' w (.agg #[.bool g3, .slice p3 n3 c3, .slice q3 m3 d3, .bool g4, .slice p4 n4 c4, .slice q4 m4 d4]), _, _, rfl, ofV_ok none' w (.agg #[.bool g5, .slice p5 n5 c5, .slice q5 m5 d5, .bool g6, .slice p6 n6 c6, .slice q6 m6 d6]), _, _, rfl, ofV_ok none' w (.agg #[.bool g7, .slice p7 n7 c7, .slice q7 m7 d7, .bool g8, .slice p8 n8 c8, .slice q8 m8 d8]), rfl⟩
  cases h0 : ((decide (n1 ≤ 4) && decide (m1 ≤ 4)) && (decide (n2 ≤ 4) && decide (m2 ≤ 4)))
  · exact law_calls (grows_b0 g1 p1 n1 c1 q1 m1 d1 g2 p2 n2 c2 q2 m2 d2 g3 p3 n3 c3 q3 m3 d3 g4 p4 n4 c4 q4 m4 d4 g5 p5 n5 c5 q5 m5 d5 g6 p6 n6 c6 q6 m6 d6 g7 p7 n7 c7 q7 m7 d7 g8 p8 n8 c8 q8 m8 d8  h0) ht hl
  cases h1 : ((decide (n3 ≤ 4) && decide (m3 ≤ 4)) && (decide (n4 ≤ 4) && decide (m4 ≤ 4)))
  · exact law_calls (grows_b1 g1 p1 n1 c1 q1 m1 d1 g2 p2 n2 c2 q2 m2 d2 g3 p3 n3 c3 q3 m3 d3 g4 p4 n4 c4 q4 m4 d4 g5 p5 n5 c5 q5 m5 d5 g6 p6 n6 c6 q6 m6 d6 g7 p7 n7 c7 q7 m7 d7 g8 p8 n8 c8 q8 m8 d8  h0 h1) ht hl
  cases h2 : ((decide (n5 ≤ 4) && decide (m5 ≤ 4)) && (decide (n6 ≤ 4) && decide (m6 ≤ 4)))
  · exact law_calls (grows_b2 g1 p1 n1 c1 q1 m1 d1 g2 p2 n2 c2 q2 m2 d2 g3 p3 n3 c3 q3 m3 d3 g4 p4 n4 c4 q4 m4 d4 g5 p5 n5 c5 q5 m5 d5 g6 p6 n6 c6 q6 m6 d6 g7 p7 n7 c7 q7 m7 d7 g8 p8 n8 c8 q8 m8 d8  h0 h1 h2) ht hl
  cases h3 : ((decide (n7 ≤ 4) && decide (m7 ≤ 4)) && (decide (n8 ≤ 4) && decide (m8 ≤ 4)))
  · exact law_calls (grows_b3 g1 p1 n1 c1 q1 m1 d1 g2 p2 n2 c2 q2 m2 d2 g3 p3 n3 c3 q3 m3 d3 g4 p4 n4 c4 q4 m4 d4 g5 p5 n5 c5 q5 m5 d5 g6 p6 n6 c6 q6 m6 d6 g7 p7 n7 c7 q7 m7 d7 g8 p8 n8 c8 q8 m8 d8  h0 h1 h2 h3) ht hl
  obtain ⟨r, s, kr, ks, e0⟩ := iv_small s1 t1 s2 t2 h0
  obtain ⟨t, u, kt, ku, e1⟩ := iv_small s3 t3 s4 t4 h1
  obtain ⟨a, b, ka, kb, e2⟩ := iv_small s5 t5 s6 t6 h2
  obtain ⟨c, d, kc, kd, e3⟩ := iv_small s7 t7 s8 t8 h3
  have hv : avs Dn none' w [.val true (ivSegs 4 r s), .val true (ivSegs 4 t u), .val true (ivSegs 4 a b), .val true (ivSegs 4 c d)] [.agg #[.bool g1, .slice p1 n1 c1, .slice q1 m1 d1, .bool g2, .slice p2 n2 c2, .slice q2 m2 d2], .agg #[.bool g3, .slice p3 n3 c3, .slice q3 m3 d3, .bool g4, .slice p4 n4 c4, .slice q4 m4 d4], .agg #[.bool g5, .slice p5 n5 c5, .slice q5 m5 d5, .bool g6, .slice p6 n6 c6, .slice q6 m6 d6], .agg #[.bool g7, .slice p7 n7 c7, .slice q7 m7 d7, .bool g8, .slice p8 n8 c8, .slice q8 m8 d8]] := ⟨_, _, rfl, e0, _, _, rfl, e1, _, _, rfl, e2, _, _, rfl, e3, rfl⟩
  exact law_calls (grows_c r s t u a b c d kr ks kt ku ka kb kc kd) ht hv

end Go.Proofs.YtagciepnhjbopaaGreatDoor
