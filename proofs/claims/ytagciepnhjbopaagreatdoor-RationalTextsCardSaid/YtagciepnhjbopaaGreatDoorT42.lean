/- What the statements of this claim stand on: of Q28, what they name -/
import Derived.Test.YtagciepnhjbopaaGreatDoorT41

namespace Go.Proofs.YtagciepnhjbopaaGreatDoor
open Go.RowKit En

noncomputable def pVal (s : ByteArray) : Rat := (pRes s).getD 0

theorem pval_some {s : ByteArray} (h : pRes s ≠ none) : pRes s = some (pVal s) := by
  unfold pVal
  cases e : pRes s with
  | none => exact absurd e h
  | some q => rfl

theorem pval_qtx (q : Rat) : pVal (qtx q) = q := by unfold pVal; rw [pres_qtx]; rfl

def pOk (s : ByteArray) : Prop := pRes s ≠ none

def pNo (s : ByteArray) : Prop := pRes s = none

theorem pokV (s : ByteArray) (hs : s.size ≤ 4000) (h : pOk s) : Cp 56 [.l (.string s)] (okQ (pVal s)) := pparse_ok s _ hs (pval_some h)

theorem rokV (s : ByteArray) (hs : s.size ≤ 200) (h : pOk s) : Cp 57 [.l (.string s)] (okQ (pVal s)) := rparse_ok s _ hs (pval_some h)

theorem pnoV (s : ByteArray) (hs : s.size ≤ 4000) (h : pNo s) : Cp 56 [.l (.string s)] (noQ 6) := pparse_no s hs h

theorem rnoV (s : ByteArray) (hs : s.size ≤ 200) (h : pNo s) : Cp 57 [.l (.string s)] (noQ 6) := rparse_no s hs h

noncomputable abbrev k_pokV : List Pa → Option (List Prop × Av)
  | [.l (.string s)] => some ([s.size ≤ 4000, pOk s], okQ (pVal s))
  | _ => none

theorem e_pokV (args : List Av) (obs : List Prop) (r : Av) : ent [.l] k_pokV args = some (obs, r) → (∀ p ∈ obs, p) → Cn 56 args r :=
  ent_ok (fun ps obs r h ho => by
    unfold k_pokV at h
    split at h
    · cases h; exact pokV _ (ho _ (by simp)) (ho _ (by simp))
    · cases h) args obs r

noncomputable abbrev k_rokV : List Pa → Option (List Prop × Av)
  | [.l (.string s)] => some ([s.size ≤ 200, pOk s], okQ (pVal s))
  | _ => none

theorem e_rokV (args : List Av) (obs : List Prop) (r : Av) : ent [.l] k_rokV args = some (obs, r) → (∀ p ∈ obs, p) → Cn 57 args r :=
  ent_ok (fun ps obs r h ho => by
    unfold k_rokV at h
    split at h
    · cases h; exact rokV _ (ho _ (by simp)) (ho _ (by simp))
    · cases h) args obs r

noncomputable abbrev k_pnoV : List Pa → Option (List Prop × Av)
  | [.l (.string s)] => some ([s.size ≤ 4000, pNo s], noQ 6)
  | _ => none

theorem e_pnoV (args : List Av) (obs : List Prop) (r : Av) : ent [.l] k_pnoV args = some (obs, r) → (∀ p ∈ obs, p) → Cn 56 args r :=
  ent_ok (fun ps obs r h ho => by
    unfold k_pnoV at h
    split at h
    · cases h; exact pnoV _ (ho _ (by simp)) (ho _ (by simp))
    · cases h) args obs r

noncomputable abbrev k_rnoV : List Pa → Option (List Prop × Av)
  | [.l (.string s)] => some ([s.size ≤ 200, pNo s], noQ 6)
  | _ => none

theorem e_rnoV (args : List Av) (obs : List Prop) (r : Av) : ent [.l] k_rnoV args = some (obs, r) → (∀ p ∈ obs, p) → Cn 57 args r :=
  ent_ok (fun ps obs r h ho => by
    unfold k_rnoV at h
    split at h
    · cases h; exact rnoV _ (ho _ (by simp)) (ho _ (by simp))
    · cases h) args obs r

noncomputable def tTe : List Ent := (15, ent [] k_awake) :: (14, k_small) :: (18, k_qsame) :: (26, ent [.r] k_qtrim) :: (58, ent [.r] k_pformat) :: (59, ent [.r] k_rfmt) :: (56, ent [.l] k_pokV) :: (57, ent [.l] k_rokV) :: []

theorem tTe_ok : EntsOk tTe := ⟨e_awake, e_small, e_qsame, e_qtrim, e_pformat, e_rfmt, e_pokV, e_rokV, trivial⟩

noncomputable def tTeN : List Ent := (56, ent [.l] k_pnoV) :: (57, ent [.l] k_rnoV) :: []

theorem tTeN_ok : EntsOk tTeN := ⟨e_pnoV, e_rnoV, trivial⟩

theorem texts_big (g : Bool) (p : Option Addr) (n c : Nat) (q : Option Addr) (m d : Nat) (s : ByteArray) (h : (decide (n ≤ 4) && decide (m ≤ 4)) = false) : Cn 6 [.val true [.lit (.bool g), .lit (.slice p n c), .lit (.slice q m d)], .val false [.lit (.string s)]] (avB true) :=
  (wk2 tTe_ok tTeN_ok (ds := [none, some false, none, none, none]) (fuel := 40) (obs := [g = g ∧ p = p ∧ c = c ∧ q = q ∧ d = d, (match decide (n ≤ 4) with | false => false | true => decide (m ≤ 4)) = false]) (r := AV.val false [Seg.lit (Value.bool true)]) Tryz.func6 rfl (by kernel_rfl) ⟨⟨rfl, rfl, rfl, rfl, rfl⟩, h, trivial⟩)

theorem texts_long (q : Rat) (s : ByteArray) (_h : 200 < s.size) : Cn 6 [sv (.rrat 4 q), .val false [.lit (.string s)]] (avB true) :=
  (wk2 tTe_ok tTeN_ok (ds := [none, none, none, none, some true, none, none, none]) (fuel := 40) (obs := [q = q, decide ((↑(ByteArray.size s) : Int) > (200 : Int)) = true]) (r := AV.val false [Seg.lit (Value.bool true)]) Tryz.func6 rfl (by kernel_rfl) ⟨rfl, decide_eq_true (by omega), trivial⟩)

theorem q_small {q : Rat} (h : nq q ≤ 9) : nz q.num ≤ 65535 ∧ (dg q.den).length ≤ 65535 ∧ q.num.natAbs < pB 10 ∧ q.den < pB 10 ∧ (txt (fmt q.num.natAbs)).size ≤ 4096 ∧ (txt (fmt q.den)).size ≤ 4096 := by
  have h1 : nz q.num + (dg q.den).length ≤ 9 := h
  have h2 : q.num.natAbs < pB 10 := Nat.lt_of_lt_of_le (dg_lt _) (pB_mono (by unfold nz at h1; omega))
  have h3 : q.den < pB 10 := Nat.lt_of_lt_of_le (dg_lt _) (pB_mono (by omega))
  exact ⟨by omega, by omega, h2, h3, fmt_len h2 (by decide), fmt_len h3 (by decide)⟩

theorem fmt_97 {n : Nat} (_h : n < pB 10) : (txt (fmt n)).size ≤ 97 := by
  rw [txt_size]
  unfold fmt
  split
  · decide
  · next h0 =>
    have h1 := dB_len_pow n h0
    have h2 : pB 10 ≤ 10 ^ 97 := by decide +kernel
    have h3 : ¬ 97 < (dB n).length := fun h4 => by
      have := Nat.pow_le_pow_right (show 0 < 10 by decide) (show 97 ≤ (dB n).length - 1 by omega)
      omega
    omega

theorem qtx_small {q : Rat} (h : nq q ≤ 9) : (qtx q).size ≤ 4000 := by
  obtain ⟨-, -, f3, f4, -, -⟩ := q_small h
  have h1 := fmt_97 f3
  have h2 := fmt_97 f4
  have h3 := itx_size (decide (q.num < 0)) q.num.natAbs
  have h4 := itx_size false q.den
  unfold qtx
  split
  · omega
  · rw [ByteArray.size_append, ByteArray.size_append]
    have h5 : ({ data := #[47] } : ByteArray).size = 1 := rfl
    omega

theorem pok_qtx (q : Rat) : pOk (qtx q) := by
  intro h
  have h : pRes (qtx q) = none := h
  rw [pres_qtx] at h
  cases h

theorem texts_yes (q : Rat) (s : ByteArray) (hq : nq q ≤ 9) (hs : s.size ≤ 200) (h : pRes s ≠ none) : Cn 6 [sv (.rrat 4 q), .val false [.lit (.string s)]] (avB true) := by
  obtain ⟨f1, f2, f3, f4, f5, f6⟩ := q_small hq
  exact (wk2 tTe_ok tTeN_ok (ds := [none, none, none, none, some false, none, some true, some true, some true, none, none, none, none, none, some true, none, none, some true, none, none, none, none, none, some true, none, none]) (fuel := 40) (obs := [q = q, decide ((↑(ByteArray.size s) : Int) > (200 : Int)) = false, ByteArray.size s ≤ 4000, pOk s, ByteArray.size s ≤ 200, pOk s, 4 ≤ 65535, Int.natAbs (Rat.num q) < 2135987035920910082395021706169552114602704522356652769947041607822219725780640550022962086936576, Rat.den q < 2135987035920910082395021706169552114602704522356652769947041607822219725780640550022962086936576, ByteArray.size (qtx q) ≤ 4000, pOk (qtx q), decide (pVal s = pVal s) = true, 4 ≤ 65535, Int.natAbs (Rat.num q) < 2135987035920910082395021706169552114602704522356652769947041607822219725780640550022962086936576, Rat.den q < 2135987035920910082395021706169552114602704522356652769947041607822219725780640550022962086936576, 4 ≤ 65535, nz (Rat.num q) ≤ 65535, List.length (dg (Rat.den q)) ≤ 65535, ByteArray.size (txt (fmt (Int.natAbs (Rat.num q)))) ≤ 4096, ByteArray.size (txt (fmt (Rat.den q))) ≤ 4096, (ByteArray.toList (qtx q) == ByteArray.toList (qtx q)) = true, 4 ≤ 262143, decide (pVal (qtx q) = q) = true]) (r := AV.val false [Seg.lit (Value.bool true)]) Tryz.func6 rfl (by kernel_rfl) ⟨rfl, decide_eq_false (by omega), by omega, h, hs, h, by decide, f3, f4, qtx_small hq, pok_qtx q, decide_eq_true rfl, by decide, f3, f4, by decide, f1, f2, f5, f6, beq_self_eq_true _, by decide, decide_eq_true (pval_qtx q), trivial⟩)

theorem texts_no (q : Rat) (s : ByteArray) (hq : nq q ≤ 9) (hs : s.size ≤ 200) (h : pRes s = none) : Cn 6 [sv (.rrat 4 q), .val false [.lit (.string s)]] (avB true) := by
  obtain ⟨f1, f2, f3, f4, f5, f6⟩ := q_small hq
  exact (wk2 tTe_ok tTeN_ok (ds := [none, none, none, none, some false, none, some false, some false, some true, none, none, none, none, none, none, none, none, some true, none, none, none, none, none, some true, none, none]) (fuel := 40) (obs := [q = q, decide ((↑(ByteArray.size s) : Int) > (200 : Int)) = false, ByteArray.size s ≤ 4000, pNo s, ByteArray.size s ≤ 200, pNo s, 4 ≤ 65535, Int.natAbs (Rat.num q) < 2135987035920910082395021706169552114602704522356652769947041607822219725780640550022962086936576, Rat.den q < 2135987035920910082395021706169552114602704522356652769947041607822219725780640550022962086936576, ByteArray.size (qtx q) ≤ 4000, pOk (qtx q), 4 ≤ 65535, Int.natAbs (Rat.num q) < 2135987035920910082395021706169552114602704522356652769947041607822219725780640550022962086936576, Rat.den q < 2135987035920910082395021706169552114602704522356652769947041607822219725780640550022962086936576, 4 ≤ 65535, nz (Rat.num q) ≤ 65535, List.length (dg (Rat.den q)) ≤ 65535, ByteArray.size (txt (fmt (Int.natAbs (Rat.num q)))) ≤ 4096, ByteArray.size (txt (fmt (Rat.den q))) ≤ 4096, (ByteArray.toList (qtx q) == ByteArray.toList (qtx q)) = true, 4 ≤ 262143, decide (pVal (qtx q) = q) = true]) (r := AV.val false [Seg.lit (Value.bool true)]) Tryz.func6 rfl (by kernel_rfl) ⟨rfl, decide_eq_false (by omega), by omega, h, hs, h, by decide, f3, f4, qtx_small hq, pok_qtx q, by decide, f3, f4, by decide, f1, f2, f5, f6, beq_self_eq_true _, by decide, decide_eq_true (pval_qtx q), trivial⟩)

theorem texts_any (g : Bool) (p : Option Addr) (n c : Nat) (X : List Nat) (q : Option Addr) (m d : Nat) (Y : List Nat) (b : ByteArray) (w : World) (ht : Tab w) (s : Sl w p n c X) (t : Sl w q m d Y) :
    Calls Tryz.prog 6 #[rw' g p n c q m d, .string b] w (RB true w) := by
  cases h : (decide (n ≤ 4) && decide (m ≤ 4))
  · exact law_calls (vs := [rw' g p n c q m d, .string b]) (texts_big g p n c q m d b h) ht ⟨_, _, rfl, ofV_ok none' w (rw' g p n c q m d), _, _, rfl, vl_lit _ _, rfl⟩
  · have l := h
    simp only [Bool.and_eq_true, decide_eq_true_eq] at l
    have hr : VR w 4 _ (rw' g p n c q m d) := ⟨_, _, _, _, _, _, _, _, _, rfl, s, t, rfl, l.1, l.2⟩
    have hv := fun β => sv_of (x := .rrat 4 _) hr β
    have hq := nq_vr hr
    by_cases h1 : b.size ≤ 200
    · by_cases h2 : pRes b = none
      · exact law_calls (vs := [rw' g p n c q m d, .string b]) (texts_no _ b hq h1 h2) ht ⟨_, _, rfl, hv none', _, _, rfl, vl_lit _ _, rfl⟩
      · exact law_calls (vs := [rw' g p n c q m d, .string b]) (texts_yes _ b hq h1 h2) ht ⟨_, _, rfl, hv none', _, _, rfl, vl_lit _ _, rfl⟩
    · exact law_calls (vs := [rw' g p n c q m d, .string b]) (texts_long _ b (by omega)) ht ⟨_, _, rfl, hv none', _, _, rfl, vl_lit _ _, rfl⟩

end Go.Proofs.YtagciepnhjbopaaGreatDoor
