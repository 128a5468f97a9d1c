/- What the statements of this claim stand on: of Q12, Q26, Q27, what they name -/
import Derived.Test.YtagciepnhjbopaaGreatDoorT38
import Derived.Test.YtagciepnhjbopaaGreatDoorT39
import Derived.Test.YtagciepnhjbopaaGreatDoorT40

namespace Go.Proofs.YtagciepnhjbopaaGreatDoor
open Go.RowKit En

abbrev zQ : List (Seg Kn) := [.lit (.bool false), .lit (.slice none 0 0), .lit (.slice none 0 0)]

end Go.Proofs.YtagciepnhjbopaaGreatDoor

namespace Go.Proofs.YtagciepnhjbopaaGreatDoor
open Go.RowKit En

abbrev k_qvalidG : List Av → Option (List Prop × Av)
  | [.val true [.sem (.int z), .sem (.nat x)]] => some ([nz z ≤ 65535, (dg x).length ≤ 65535], avB (decide (x ≠ 0 ∧ Nat.gcd z.natAbs x = 1)))
  | _ => none

theorem psame (z : Int) (x : Nat) (s : Rat) : Cn 18 [.val true [.sem (.int z), .sem (.nat x)], sv (.rat s)] (avB (decide (z = s.num ∧ x = s.den))) := by
  by_cases h : z = s.num
  · rw [show decide (z = s.num ∧ x = s.den) = decide (x = s.den) by rw [decide_eq_decide]; exact ⟨fun h => h.2, fun h' => ⟨h, h'⟩⟩]
    exact (wk tT0_ok (ds := [none, some true]) (fuel := 40) (obs := [decide (z = Rat.num s) = true]) (r := AV.val false [Seg.lit (Value.bool (decide (x = Rat.den s)))]) Tryz.func18 rfl (by kernel_rfl) ⟨decide_eq_true h, trivial⟩)
  · rw [show decide (z = s.num ∧ x = s.den) = false by rw [decide_eq_false_iff_not]; exact fun h' => h h'.1]
    exact (wk tT0_ok (ds := [none, some false]) (fuel := 40) (obs := [decide (z = Rat.num s) = false]) (r := AV.val false [Seg.lit (Value.bool false)]) Tryz.func18 rfl (by kernel_rfl) ⟨decide_eq_false h, trivial⟩)

abbrev k_psame : List Av → Option (List Prop × Av)
  | [.val true [.sem (.int z), .sem (.nat x)], .val true [.sem (.rat s)]] => some ([], avB (decide (z = s.num ∧ x = s.den)))
  | _ => none

theorem e_psame (args : List Av) (obs : List Prop) (r : Av) (h : k_psame args = some (obs, r)) (_ho : ∀ p ∈ obs, p) : Cn 18 args r := by
  unfold k_psame at h
  split at h
  · cases h; exact psame _ _ _
  · cases h

noncomputable def tV9 : List Ent := (18, k_psame) :: (26, ent [.r] k_qtrim) :: []

theorem tV9_ok : EntsOk tV9 := ⟨e_psame, e_qtrim, trivial⟩

theorem cn_qvalid (z : Int) (x : Nat) (_h1 : nz z ≤ 65535) (_h2 : (dg x).length ≤ 65535) : Cn 20 [.val true [.sem (.int z), .sem (.nat x)]] (avB (decide (x ≠ 0 ∧ Nat.gcd z.natAbs x = 1))) := by
  rw [show decide (x ≠ 0 ∧ Nat.gcd z.natAbs x = 1) = decide (z = (mkRat z x).num ∧ x = (mkRat z x).den) by
    rw [decide_eq_decide]
    constructor
    · intro h
      obtain ⟨e1, e2⟩ := mk_low h.1 h.2
      exact ⟨e1.symm, e2.symm⟩
    · intro h
      have h3 := (mkRat z x).den_nz
      have h4 := (mkRat z x).reduced
      rw [← h.1, ← h.2] at h4
      rw [← h.2] at h3
      exact ⟨h3, h4⟩]
  exact (wk tV9_ok (ds := []) (fuel := 40) (obs := [nz z + List.length (dg x) ≤ 262143]) (r := AV.val false [Seg.lit (Value.bool (decide (z = Rat.num (mkRat z x) ∧ x = Rat.den (mkRat z x))))]) Tryz.func20 rfl (by kernel_rfl) ⟨by omega, trivial⟩)

theorem e_qvalidG (args : List Av) (obs : List Prop) (r : Av) (h : k_qvalidG args = some (obs, r)) (ho : ∀ p ∈ obs, p) : Cn 20 args r := by
  unfold k_qvalidG at h
  split at h
  · cases h
    exact cn_qvalid _ _ (ho _ (by simp)) (ho _ (by simp))
  · cases h

noncomputable abbrev k_rfmt : List Pa → Option (List Prop × Av)
  | [.r L q] => some ([L ≤ 65535, nz q.num ≤ 65535, (dg q.den).length ≤ 65535, (txt (fmt q.num.natAbs)).size ≤ 4096, (txt (fmt q.den)).size ≤ 4096], .val false [.lit (.string (qtx q))])
  | _ => none

theorem e_rfmt (args : List Av) (obs : List Prop) (r : Av) : ent [.r] k_rfmt args = some (obs, r) → (∀ p ∈ obs, p) → Cn 59 args r :=
  ent_ok (fun ps obs r h ho => by
    unfold k_rfmt at h
    split at h
    · cases h; exact rfmt _ _ (ho _ (by simp)) (ho _ (by simp)) (ho _ (by simp)) (ho _ (by simp)) (ho _ (by simp))
    · cases h) args obs r

noncomputable def tD0 : List Ent := (20, k_qvalidG) :: (59, ent [.r] k_rfmt) :: (137, ent [.l] k_riprsG) :: (138, ent [.l] k_rnprsG) :: []

theorem tD0_ok : EntsOk tD0 := ⟨e_qvalidG, e_rfmt, e_riprsG, e_rnprsG, trivial⟩

def iTx (s : ByteArray) (n : Nat) : Hint Kn := ⟨n, fun k => [(.slot 0, .av (.val false [.lit (.string s)])), (.slot 2, .av (.ptr 0 0)), (.slot 4, .av (.val false [.lit (.int .i64 (k : Int))])), (.obj 0, .ob ⟨26, zQ⟩)]⟩

def hTx (s : ByteArray) (n : Nat) : Nat → Option (Hint Kn)
  | 6 => some (iTx s n)
  | _ => none

theorem ne_47 {n : Nat} (_h : n ≠ 47) : (match ((n : Int) == (47 : Int)) with | true => false | false => true) = true := by
  have : ((n : Int) == (47 : Int)) = false := by rw [beq_eq_false_iff_ne]; omega
  rw [this]

theorem is_47 {n : Nat} (h : n = 47) : (match ((n : Int) == (47 : Int)) with | true => false | false => true) = false := by subst h; rfl

theorem tx_loop (s : ByteArray) (n : Nat) (_hs : s.size ≤ 200) (_hn : n ≤ s.size) (hb : ∀ k, k < n → byAt s k ≠ 47) : LoopOk Dn (mkTb3 tD0 [] (hTx s n)) Tryz.prog Tryz.f57.ntmps (loopAt Tryz.f57 0) (iTx s n) 6 := by
  refine loopOk_of mixed fun k hk => ?_
  have hk : k < n := hk
  have hw : IntKind.i64.wrap ((k : Int) + 1) = ((k + 1 : Nat) : Int) := by rw [IntKind.wrap_i64]; omega
  exact ⟨40, [some true, none, some true, none], [decide ((↑k : Int) < (↑(ByteArray.size s) : Int)) = true, (0 : Int) ≤ (↑k : Int), (↑k : Int) < (↑(ByteArray.size s) : Int), (match (↑(byAt s (Int.toNat (↑k : Int))) : Int) == (47 : Int) with | true => false | false => true) = true, @Ct.av Kn (AV.val false [Seg.lit (Value.string s)]) = @Ct.av Kn (AV.val false [Seg.lit (Value.string s)]), @Ct.av Kn (AV.ptr 0 0) = @Ct.av Kn (AV.ptr 0 0), @Ct.av Kn (AV.val false [Seg.lit (Value.int IntKind.i64 (IntKind.wrap IntKind.i64 ((↑k : Int) + (1 : Int))))]) = @Ct.av Kn (AV.val false [Seg.lit (Value.int IntKind.i64 (↑(k + 1) : Int))]), @Ct.ob Kn { T := 26, ss := [Seg.lit (Value.bool false), Seg.lit (Value.slice none 0 0), Seg.lit (Value.slice none 0 0)] } = @Ct.ob Kn { T := 26, ss := [Seg.lit (Value.bool false), Seg.lit (Value.slice none 0 0), Seg.lit (Value.slice none 0 0)] }], (by kernel_rfl), allp ⟨decide_eq_true (by omega), by omega, by omega, ne_47 (hb k hk), rfl, rfl, by rw [hw], rfl, trivial⟩⟩

theorem ext_sz {s : ByteArray} (_hs : s.size ≤ 200) (a b : Nat) : (s.extract a b).size ≤ 4096 := by rw [ByteArray.size_extract]; omega

theorem ext_sz2 {s : ByteArray} (_hs : s.size ≤ 200) (a b : Nat) : (s.extract a b).size ≤ 200 := by rw [ByteArray.size_extract]; omega

theorem len_0 {x : Nat} (h : x = 0) : (((dg x).length : Int) == (0 : Int)) = true := by rw [h, dg_zero]; rfl

theorem len_1 {x : Nat} (h : x ≠ 0) : (((dg x).length : Int) == (0 : Int)) = false := by
  rw [beq_eq_false_iff_ne]
  exact fun e => h (dg_nil.1 (List.eq_nil_of_length_eq_zero (by omega)))

theorem str_eq {a b : ByteArray} (h : a = b) : (match a.toList == b.toList with | true => false | false => true) = false := by
  have : (a.toList == b.toList) = true := beq_iff_eq.2 (congrArg _ h)
  rw [this]

theorem str_ne {a b : ByteArray} (h : a ≠ b) : (match a.toList == b.toList with | true => false | false => true) = true := by
  have : (a.toList == b.toList) = false := beq_eq_false_iff_ne.2 fun e => h (by
    rw [ByteArray.toList_eq, ByteArray.toList_eq] at e
    exact ByteArray.ext (Array.toList_inj.1 e))
  rw [this]

theorem itx_ge (b : Bool) (M : Nat) : (txt (fmt M)).size ≤ (itx b M).size := by
  cases b
  · exact Nat.le_refl _
  · show _ ≤ (({ data := #[45] } : ByteArray) ++ txt (fmt M)).size
    rw [ByteArray.size_append]
    omega

theorem parts_ok {a b : ByteArray} {z : Int} {d : Nat} (_ha : a.size ≤ 200) (_hb : b.size ≤ 200) (h1 : itx (decide (z < 0)) z.natAbs = a) (h2 : itx false d = b) (_h3 : nz z ≤ 200) (_h4 : (dg d).length ≤ 200) (h0 : d ≠ 0) (hg : Nat.gcd z.natAbs d = 1) : nz (mkRat z d).num ≤ 65535 ∧ (dg (mkRat z d).den).length ≤ 65535 ∧ (txt (fmt (mkRat z d).num.natAbs)).size ≤ 4096 ∧ (txt (fmt (mkRat z d).den)).size ≤ 4096 := by
  obtain ⟨e1, e2⟩ := mk_low h0 hg
  rw [e1, e2]
  have g1 := itx_ge (decide (z < 0)) z.natAbs
  have g2 := itx_ge false d
  rw [h1] at g1
  rw [h2] at g2
  exact ⟨by omega, by omega, by omega, by omega⟩

theorem dd2 (s : ByteArray) (hs : s.size ≤ 200) (hb : ∀ k, k < s.size → byAt s k ≠ 47) (h : ipe (s.extract 0 s.size) = 6) : Cp 57 [.l (.string s)] (noQ 6) := by
  exact cp_of (wk3 (hint := (hTx s s.size)) (alts := []) tD0_ok trivial (ds := [some false, some false, none, none, some true]) (fuel := 40) (obs := [decide ((↑(ByteArray.size s) : Int) > (4096 : Int)) = false, @Ct.av Kn (AV.val false [Seg.lit (Value.string s)]) = @Ct.av Kn (AV.val false [Seg.lit (Value.string s)]), @Ct.av Kn (AV.ptr 0 0) = @Ct.av Kn (AV.ptr 0 0), @Ct.av Kn (AV.val false [Seg.lit (Value.int IntKind.i64 (0 : Int))]) = @Ct.av Kn (AV.val false [Seg.lit (Value.int IntKind.i64 (↑0 : Int))]), @Ct.ob Kn { T := 26, ss := [Seg.lit (Value.bool false), Seg.lit (Value.slice none 0 0), Seg.lit (Value.slice none 0 0)] } = @Ct.ob Kn { T := 26, ss := [Seg.lit (Value.bool false), Seg.lit (Value.slice none 0 0), Seg.lit (Value.slice none 0 0)] }, LoopOk Dn (mkTb3 tD0 [] (hTx s s.size)) Tryz.prog Tryz.f57.ntmps (loopAt Tryz.f57 0) (iTx s s.size) 6, decide ((↑(ByteArray.size s) : Int) < (↑(ByteArray.size s) : Int)) = false, (0 : Int) ≤ (↑(ByteArray.size s) : Int), (↑(ByteArray.size s) : Int) ≤ (↑(ByteArray.size s) : Int), ByteArray.size (ByteArray.extract s 0 (Int.toNat (↑(ByteArray.size s) : Int))) ≤ 4096, (match ipe (ByteArray.extract s 0 (Int.toNat (↑(ByteArray.size s) : Int))) == (0 : Int) with | true => false | false => true) = true]) (r := AV.tup [(true, [Seg.lit (Value.bool false), Seg.lit (Value.slice none 0 0), Seg.lit (Value.slice none 0 0)]), (false, [Seg.lit (Value.int IntKind.i64 (6 : Int))])]) Tryz.func57 rfl (by kernel_rfl) ⟨decide_eq_false (by omega), rfl, rfl, rfl, rfl, tx_loop s s.size hs (Nat.le_refl _) hb, decide_eq_false (by omega), by omega, by omega, ext_sz hs _ _, ne_yes h, trivial⟩)

theorem dd1 (s : ByteArray) (hs : s.size ≤ 200) (hb : ∀ k, k < s.size → byAt s k ≠ 47) (h : ipe (s.extract 0 s.size) = 0) : Cp 57 [.l (.string s)] (okQ (mkRat (zP (s.extract 0 s.size)) 1)) := by
  have hx : s.extract 0 s.size = s := ByteArray.extract_zero_size
  have h1 := int_back h
  have h3 := zP_len (s.extract 0 s.size)
  have hz := ext_sz2 hs 0 s.size
  obtain ⟨f1, f2, f3, f4⟩ := parts_ok (b := { data := #[49] }) hz (by decide) h1 (d := 1) (by decide +kernel) (by omega) (by rw [dg_1]; decide) (by decide) (Nat.gcd_one_right _)
  obtain ⟨e1, e2⟩ := mk_low (z := zP (s.extract 0 s.size)) (d := 1) (by decide) (Nat.gcd_one_right _)
  have hq : qtx (mkRat (zP (s.extract 0 s.size)) 1) = s := by
    unfold qtx
    rw [if_pos e2, e1, h1, hx]
  exact cp_of (cn_res (wk3 (hint := (hTx s s.size)) (alts := []) tD0_ok trivial (ds := [some false, some false, none, none, some false, some false, some true, none, none, some false, none]) (fuel := 40) (obs := [decide ((↑(ByteArray.size s) : Int) > (4096 : Int)) = false, @Ct.av Kn (AV.val false [Seg.lit (Value.string s)]) = @Ct.av Kn (AV.val false [Seg.lit (Value.string s)]), @Ct.av Kn (AV.ptr 0 0) = @Ct.av Kn (AV.ptr 0 0), @Ct.av Kn (AV.val false [Seg.lit (Value.int IntKind.i64 (0 : Int))]) = @Ct.av Kn (AV.val false [Seg.lit (Value.int IntKind.i64 (↑0 : Int))]), @Ct.ob Kn { T := 26, ss := [Seg.lit (Value.bool false), Seg.lit (Value.slice none 0 0), Seg.lit (Value.slice none 0 0)] } = @Ct.ob Kn { T := 26, ss := [Seg.lit (Value.bool false), Seg.lit (Value.slice none 0 0), Seg.lit (Value.slice none 0 0)] }, LoopOk Dn (mkTb3 tD0 [] (hTx s s.size)) Tryz.prog Tryz.f57.ntmps (loopAt Tryz.f57 0) (iTx s s.size) 6, decide ((↑(ByteArray.size s) : Int) < (↑(ByteArray.size s) : Int)) = false, (0 : Int) ≤ (↑(ByteArray.size s) : Int), (↑(ByteArray.size s) : Int) ≤ (↑(ByteArray.size s) : Int), ByteArray.size (ByteArray.extract s 0 (Int.toNat (↑(ByteArray.size s) : Int))) ≤ 4096, (match ipe (ByteArray.extract s 0 (Int.toNat (↑(ByteArray.size s) : Int))) == (0 : Int) with | true => false | false => true) = false, decide ((↑(ByteArray.size s) : Int) < (↑(ByteArray.size s) : Int)) = false, nz (zP (ByteArray.extract s 0 (Int.toNat (↑(ByteArray.size s) : Int)))) ≤ 65535, 1 ≤ 65535, decide (1 ≠ 0 ∧ Nat.gcd (Int.natAbs (zP (ByteArray.extract s 0 (Int.toNat (↑(ByteArray.size s) : Int))))) 1 = 1) = true, nz (zP (ByteArray.extract s 0 (Int.toNat (↑(ByteArray.size s) : Int)))) + 1 ≤ 65535, nz (Rat.num (mkRat (zP (ByteArray.extract s 0 (Int.toNat (↑(ByteArray.size s) : Int)))) 1)) ≤ 65535, List.length (dg (Rat.den (mkRat (zP (ByteArray.extract s 0 (Int.toNat (↑(ByteArray.size s) : Int)))) 1))) ≤ 65535, ByteArray.size (txt (fmt (Int.natAbs (Rat.num (mkRat (zP (ByteArray.extract s 0 (Int.toNat (↑(ByteArray.size s) : Int)))) 1))))) ≤ 4096, ByteArray.size (txt (fmt (Rat.den (mkRat (zP (ByteArray.extract s 0 (Int.toNat (↑(ByteArray.size s) : Int)))) 1)))) ≤ 4096, (match ByteArray.toList (qtx (mkRat (zP (ByteArray.extract s 0 (Int.toNat (↑(ByteArray.size s) : Int)))) 1)) == ByteArray.toList s with | true => false | false => true) = false]) (r := AV.tup [(true, [Seg.sem (Kn.int (zP (ByteArray.extract s 0 (Int.toNat (↑(ByteArray.size s) : Int))))), Seg.sem (Kn.nat 1)]), (false, [Seg.lit (Value.int IntKind.i64 (0 : Int))])]) Tryz.func57 rfl (by kernel_rfl) ⟨decide_eq_false (by omega), rfl, rfl, rfl, rfl, tx_loop s s.size hs (Nat.le_refl _) hb, decide_eq_false (by omega), by omega, by omega, ext_sz hs _ _, ne_no h, decide_eq_false (by omega), Nat.le_trans h3 (by omega), (by decide), decide_eq_true ⟨by decide, Nat.gcd_one_right _⟩, Nat.le_trans (Nat.add_le_add_right h3 _) (by omega), f1, f2, f3, f4, str_eq hq, trivial⟩) (okq_join e1 e2))

theorem dd3 (s : ByteArray) (n : Nat) (hs : s.size ≤ 200) (_hn : n < s.size) (hb : ∀ k, k < n → byAt s k ≠ 47) (h47 : byAt s n = 47) (h : ipe (s.extract 0 n) = 6) : Cp 57 [.l (.string s)] (noQ 6) := by
  exact cp_of (wk3 (hint := (hTx s n)) (alts := []) tD0_ok trivial (ds := [some false, some true, none, some false, none, some true]) (fuel := 40) (obs := [decide ((↑(ByteArray.size s) : Int) > (4096 : Int)) = false, @Ct.av Kn (AV.val false [Seg.lit (Value.string s)]) = @Ct.av Kn (AV.val false [Seg.lit (Value.string s)]), @Ct.av Kn (AV.ptr 0 0) = @Ct.av Kn (AV.ptr 0 0), @Ct.av Kn (AV.val false [Seg.lit (Value.int IntKind.i64 (0 : Int))]) = @Ct.av Kn (AV.val false [Seg.lit (Value.int IntKind.i64 (↑0 : Int))]), @Ct.ob Kn { T := 26, ss := [Seg.lit (Value.bool false), Seg.lit (Value.slice none 0 0), Seg.lit (Value.slice none 0 0)] } = @Ct.ob Kn { T := 26, ss := [Seg.lit (Value.bool false), Seg.lit (Value.slice none 0 0), Seg.lit (Value.slice none 0 0)] }, LoopOk Dn (mkTb3 tD0 [] (hTx s n)) Tryz.prog Tryz.f57.ntmps (loopAt Tryz.f57 0) (iTx s n) 6, decide ((↑n : Int) < (↑(ByteArray.size s) : Int)) = true, (0 : Int) ≤ (↑n : Int), (↑n : Int) < (↑(ByteArray.size s) : Int), (match (↑(byAt s (Int.toNat (↑n : Int))) : Int) == (47 : Int) with | true => false | false => true) = false, (0 : Int) ≤ (↑n : Int), (↑n : Int) ≤ (↑(ByteArray.size s) : Int), ByteArray.size (ByteArray.extract s 0 (Int.toNat (↑n : Int))) ≤ 4096, (match ipe (ByteArray.extract s 0 (Int.toNat (↑n : Int))) == (0 : Int) with | true => false | false => true) = true]) (r := AV.tup [(true, [Seg.lit (Value.bool false), Seg.lit (Value.slice none 0 0), Seg.lit (Value.slice none 0 0)]), (false, [Seg.lit (Value.int IntKind.i64 (6 : Int))])]) Tryz.func57 rfl (by kernel_rfl) ⟨decide_eq_false (by omega), rfl, rfl, rfl, rfl, tx_loop s n hs (by omega) hb, decide_eq_true (by omega), by omega, by omega, is_47 h47, by omega, by omega, ext_sz hs _ _, ne_yes h, trivial⟩)

theorem w_succ {n : Nat} (_h : n < 200) : IntKind.i64.wrap ((n : Int) + 1) = ((n + 1 : Nat) : Int) := by rw [IntKind.wrap_i64]; omega

theorem dd4 (s : ByteArray) (n : Nat) (hs : s.size ≤ 200) (_hn : n < s.size) (hb : ∀ k, k < n → byAt s k ≠ 47) (h47 : byAt s n = 47) (h : ipe (s.extract 0 n) = 0) (h' : pre (s.extract (n + 1) s.size) = 6) : Cp 57 [.l (.string s)] (noQ 6) := by
  have hw := w_succ (n := n) (by omega)
  exact cp_of (wk3 (hint := (hTx s n)) (alts := []) tD0_ok trivial (ds := [some false, some true, none, some false, none, some false, some true, some true, none, none]) (fuel := 40) (obs := [decide ((↑(ByteArray.size s) : Int) > (4096 : Int)) = false, @Ct.av Kn (AV.val false [Seg.lit (Value.string s)]) = @Ct.av Kn (AV.val false [Seg.lit (Value.string s)]), @Ct.av Kn (AV.ptr 0 0) = @Ct.av Kn (AV.ptr 0 0), @Ct.av Kn (AV.val false [Seg.lit (Value.int IntKind.i64 (0 : Int))]) = @Ct.av Kn (AV.val false [Seg.lit (Value.int IntKind.i64 (↑0 : Int))]), @Ct.ob Kn { T := 26, ss := [Seg.lit (Value.bool false), Seg.lit (Value.slice none 0 0), Seg.lit (Value.slice none 0 0)] } = @Ct.ob Kn { T := 26, ss := [Seg.lit (Value.bool false), Seg.lit (Value.slice none 0 0), Seg.lit (Value.slice none 0 0)] }, LoopOk Dn (mkTb3 tD0 [] (hTx s n)) Tryz.prog Tryz.f57.ntmps (loopAt Tryz.f57 0) (iTx s n) 6, decide ((↑n : Int) < (↑(ByteArray.size s) : Int)) = true, (0 : Int) ≤ (↑n : Int), (↑n : Int) < (↑(ByteArray.size s) : Int), (match (↑(byAt s (Int.toNat (↑n : Int))) : Int) == (47 : Int) with | true => false | false => true) = false, (0 : Int) ≤ (↑n : Int), (↑n : Int) ≤ (↑(ByteArray.size s) : Int), ByteArray.size (ByteArray.extract s 0 (Int.toNat (↑n : Int))) ≤ 4096, (match ipe (ByteArray.extract s 0 (Int.toNat (↑n : Int))) == (0 : Int) with | true => false | false => true) = false, decide ((↑n : Int) < (↑(ByteArray.size s) : Int)) = true, (0 : Int) ≤ IntKind.wrap IntKind.i64 ((↑n : Int) + (1 : Int)), IntKind.wrap IntKind.i64 ((↑n : Int) + (1 : Int)) ≤ (↑(ByteArray.size s) : Int), ByteArray.size (ByteArray.extract s (Int.toNat (IntKind.wrap IntKind.i64 ((↑n : Int) + (1 : Int)))) (ByteArray.size s)) ≤ 4096, (match pre (ByteArray.extract s (Int.toNat (IntKind.wrap IntKind.i64 ((↑n : Int) + (1 : Int)))) (ByteArray.size s)) == (0 : Int) with | true => false | false => true) = true]) (r := AV.tup [(true, [Seg.lit (Value.bool false), Seg.lit (Value.slice none 0 0), Seg.lit (Value.slice none 0 0)]), (false, [Seg.lit (Value.int IntKind.i64 (6 : Int))])]) Tryz.func57 rfl (by kernel_rfl) ⟨decide_eq_false (by omega), rfl, rfl, rfl, rfl, tx_loop s n hs (by omega) hb, decide_eq_true (by omega), by omega, by omega, is_47 h47, by omega, by omega, ext_sz hs _ _, ne_no h, decide_eq_true (by omega), by omega, by omega, ext_sz hs _ _, (by rw [hw]; exact ne_yes h'), trivial⟩)

theorem dd5 (s : ByteArray) (n : Nat) (hs : s.size ≤ 200) (_hn : n < s.size) (hb : ∀ k, k < n → byAt s k ≠ 47) (h47 : byAt s n = 47) (h : ipe (s.extract 0 n) = 0) (h' : pre (s.extract (n + 1) s.size) = 0) (h3 : nP (s.extract (n + 1) s.size) = 0) : Cp 57 [.l (.string s)] (noQ 6) := by
  have hw := w_succ (n := n) (by omega)
  exact cp_of (wk3 (hint := (hTx s n)) (alts := []) tD0_ok trivial (ds := [some false, some true, none, some false, none, some false, some true, some false, none, some true, none]) (fuel := 40) (obs := [decide ((↑(ByteArray.size s) : Int) > (4096 : Int)) = false, @Ct.av Kn (AV.val false [Seg.lit (Value.string s)]) = @Ct.av Kn (AV.val false [Seg.lit (Value.string s)]), @Ct.av Kn (AV.ptr 0 0) = @Ct.av Kn (AV.ptr 0 0), @Ct.av Kn (AV.val false [Seg.lit (Value.int IntKind.i64 (0 : Int))]) = @Ct.av Kn (AV.val false [Seg.lit (Value.int IntKind.i64 (↑0 : Int))]), @Ct.ob Kn { T := 26, ss := [Seg.lit (Value.bool false), Seg.lit (Value.slice none 0 0), Seg.lit (Value.slice none 0 0)] } = @Ct.ob Kn { T := 26, ss := [Seg.lit (Value.bool false), Seg.lit (Value.slice none 0 0), Seg.lit (Value.slice none 0 0)] }, LoopOk Dn (mkTb3 tD0 [] (hTx s n)) Tryz.prog Tryz.f57.ntmps (loopAt Tryz.f57 0) (iTx s n) 6, decide ((↑n : Int) < (↑(ByteArray.size s) : Int)) = true, (0 : Int) ≤ (↑n : Int), (↑n : Int) < (↑(ByteArray.size s) : Int), (match (↑(byAt s (Int.toNat (↑n : Int))) : Int) == (47 : Int) with | true => false | false => true) = false, (0 : Int) ≤ (↑n : Int), (↑n : Int) ≤ (↑(ByteArray.size s) : Int), ByteArray.size (ByteArray.extract s 0 (Int.toNat (↑n : Int))) ≤ 4096, (match ipe (ByteArray.extract s 0 (Int.toNat (↑n : Int))) == (0 : Int) with | true => false | false => true) = false, decide ((↑n : Int) < (↑(ByteArray.size s) : Int)) = true, (0 : Int) ≤ IntKind.wrap IntKind.i64 ((↑n : Int) + (1 : Int)), IntKind.wrap IntKind.i64 ((↑n : Int) + (1 : Int)) ≤ (↑(ByteArray.size s) : Int), ByteArray.size (ByteArray.extract s (Int.toNat (IntKind.wrap IntKind.i64 ((↑n : Int) + (1 : Int)))) (ByteArray.size s)) ≤ 4096, (match pre (ByteArray.extract s (Int.toNat (IntKind.wrap IntKind.i64 ((↑n : Int) + (1 : Int)))) (ByteArray.size s)) == (0 : Int) with | true => false | false => true) = false, ((↑(List.length (dg (nP (ByteArray.extract s (Int.toNat (IntKind.wrap IntKind.i64 ((↑n : Int) + (1 : Int)))) (ByteArray.size s))))) : Int) == (0 : Int)) = true]) (r := AV.tup [(true, [Seg.lit (Value.bool false), Seg.lit (Value.slice none 0 0), Seg.lit (Value.slice none 0 0)]), (false, [Seg.lit (Value.int IntKind.i64 (6 : Int))])]) Tryz.func57 rfl (by kernel_rfl) ⟨decide_eq_false (by omega), rfl, rfl, rfl, rfl, tx_loop s n hs (by omega) hb, decide_eq_true (by omega), by omega, by omega, is_47 h47, by omega, by omega, ext_sz hs _ _, ne_no h, decide_eq_true (by omega), by omega, by omega, ext_sz hs _ _, (by rw [hw]; exact ne_no h'), (by rw [hw]; exact len_0 h3), trivial⟩)

theorem dd6 (s : ByteArray) (n : Nat) (hs : s.size ≤ 200) (_hn : n < s.size) (hb : ∀ k, k < n → byAt s k ≠ 47) (h47 : byAt s n = 47) (h : ipe (s.extract 0 n) = 0) (h' : pre (s.extract (n + 1) s.size) = 0) (h3 : nP (s.extract (n + 1) s.size) ≠ 0) (h4 : ¬ (nP (s.extract (n + 1) s.size) ≠ 0 ∧ Nat.gcd (zP (s.extract 0 n)).natAbs (nP (s.extract (n + 1) s.size)) = 1)) : Cp 57 [.l (.string s)] (noQ 6) := by
  have hw := w_succ (n := n) (by omega)
  have a1 := Nat.le_trans (zP_len (s.extract 0 n)) (ext_sz hs 0 n)
  have a2 := Nat.le_trans (nP_len (s.extract (n + 1) s.size)) (ext_sz hs (n + 1) s.size)
  exact cp_of (wk3 (hint := (hTx s n)) (alts := []) tD0_ok trivial (ds := [some false, some true, none, some false, none, some false, some true, some false, none, some false, none, some false, none, none, none]) (fuel := 40) (obs := [decide ((↑(ByteArray.size s) : Int) > (4096 : Int)) = false, @Ct.av Kn (AV.val false [Seg.lit (Value.string s)]) = @Ct.av Kn (AV.val false [Seg.lit (Value.string s)]), @Ct.av Kn (AV.ptr 0 0) = @Ct.av Kn (AV.ptr 0 0), @Ct.av Kn (AV.val false [Seg.lit (Value.int IntKind.i64 (0 : Int))]) = @Ct.av Kn (AV.val false [Seg.lit (Value.int IntKind.i64 (↑0 : Int))]), @Ct.ob Kn { T := 26, ss := [Seg.lit (Value.bool false), Seg.lit (Value.slice none 0 0), Seg.lit (Value.slice none 0 0)] } = @Ct.ob Kn { T := 26, ss := [Seg.lit (Value.bool false), Seg.lit (Value.slice none 0 0), Seg.lit (Value.slice none 0 0)] }, LoopOk Dn (mkTb3 tD0 [] (hTx s n)) Tryz.prog Tryz.f57.ntmps (loopAt Tryz.f57 0) (iTx s n) 6, decide ((↑n : Int) < (↑(ByteArray.size s) : Int)) = true, (0 : Int) ≤ (↑n : Int), (↑n : Int) < (↑(ByteArray.size s) : Int), (match (↑(byAt s (Int.toNat (↑n : Int))) : Int) == (47 : Int) with | true => false | false => true) = false, (0 : Int) ≤ (↑n : Int), (↑n : Int) ≤ (↑(ByteArray.size s) : Int), ByteArray.size (ByteArray.extract s 0 (Int.toNat (↑n : Int))) ≤ 4096, (match ipe (ByteArray.extract s 0 (Int.toNat (↑n : Int))) == (0 : Int) with | true => false | false => true) = false, decide ((↑n : Int) < (↑(ByteArray.size s) : Int)) = true, (0 : Int) ≤ IntKind.wrap IntKind.i64 ((↑n : Int) + (1 : Int)), IntKind.wrap IntKind.i64 ((↑n : Int) + (1 : Int)) ≤ (↑(ByteArray.size s) : Int), ByteArray.size (ByteArray.extract s (Int.toNat (IntKind.wrap IntKind.i64 ((↑n : Int) + (1 : Int)))) (ByteArray.size s)) ≤ 4096, (match pre (ByteArray.extract s (Int.toNat (IntKind.wrap IntKind.i64 ((↑n : Int) + (1 : Int)))) (ByteArray.size s)) == (0 : Int) with | true => false | false => true) = false, ((↑(List.length (dg (nP (ByteArray.extract s (Int.toNat (IntKind.wrap IntKind.i64 ((↑n : Int) + (1 : Int)))) (ByteArray.size s))))) : Int) == (0 : Int)) = false, nz (zP (ByteArray.extract s 0 (Int.toNat (↑n : Int)))) ≤ 65535, List.length (dg (nP (ByteArray.extract s (Int.toNat (IntKind.wrap IntKind.i64 ((↑n : Int) + (1 : Int)))) (ByteArray.size s)))) ≤ 65535, decide (nP (ByteArray.extract s (Int.toNat (IntKind.wrap IntKind.i64 ((↑n : Int) + (1 : Int)))) (ByteArray.size s)) ≠ 0 ∧ Nat.gcd (Int.natAbs (zP (ByteArray.extract s 0 (Int.toNat (↑n : Int))))) (nP (ByteArray.extract s (Int.toNat (IntKind.wrap IntKind.i64 ((↑n : Int) + (1 : Int)))) (ByteArray.size s))) = 1) = false]) (r := AV.tup [(true, [Seg.lit (Value.bool false), Seg.lit (Value.slice none 0 0), Seg.lit (Value.slice none 0 0)]), (false, [Seg.lit (Value.int IntKind.i64 (6 : Int))])]) Tryz.func57 rfl (by kernel_rfl) ⟨decide_eq_false (by omega), rfl, rfl, rfl, rfl, tx_loop s n hs (by omega) hb, decide_eq_true (by omega), by omega, by omega, is_47 h47, by omega, by omega, ext_sz hs _ _, ne_no h, decide_eq_true (by omega), by omega, by omega, ext_sz hs _ _, (by rw [hw]; exact ne_no h'), (by rw [hw]; exact len_1 h3), Nat.le_trans a1 (by decide), (by rw [hw]; exact Nat.le_trans a2 (by decide)), (by rw [hw]; exact decide_eq_false h4), trivial⟩)

theorem dd7 (s : ByteArray) (n : Nat) (hs : s.size ≤ 200) (_hn : n < s.size) (hb : ∀ k, k < n → byAt s k ≠ 47) (h47 : byAt s n = 47) (h : ipe (s.extract 0 n) = 0) (h' : pre (s.extract (n + 1) s.size) = 0) (h4 : nP (s.extract (n + 1) s.size) ≠ 0 ∧ Nat.gcd (zP (s.extract 0 n)).natAbs (nP (s.extract (n + 1) s.size)) = 1) (h5 : nP (s.extract (n + 1) s.size) = 1) : Cp 57 [.l (.string s)] (noQ 6) := by
  have hw := w_succ (n := n) (by omega)
  have a1 := Nat.le_trans (zP_len (s.extract 0 n)) (ext_sz2 hs 0 n)
  have a2 := Nat.le_trans (nP_len (s.extract (n + 1) s.size)) (ext_sz2 hs (n + 1) s.size)
  obtain ⟨f1, f2, f3, f4⟩ := parts_ok (ext_sz2 hs 0 n) (ext_sz2 hs (n + 1) s.size) (int_back h) (nat_back h') a1 a2 h4.1 h4.2
  obtain ⟨e1, e2⟩ := mk_low h4.1 h4.2
  have hq : qtx (mkRat (zP (s.extract 0 n)) (nP (s.extract (n + 1) s.size))) ≠ s := by
    unfold qtx
    rw [if_pos (e2.trans h5), e1, int_back h]
    intro e
    have := congrArg ByteArray.size e
    rw [ByteArray.size_extract] at this
    omega
  exact cp_of (wk3 (hint := (hTx s n)) (alts := []) tD0_ok trivial (ds := [some false, some true, none, some false, none, some false, some true, some false, none, some false, none, some true, none, none, some true, none]) (fuel := 40) (obs := [decide ((↑(ByteArray.size s) : Int) > (4096 : Int)) = false, @Ct.av Kn (AV.val false [Seg.lit (Value.string s)]) = @Ct.av Kn (AV.val false [Seg.lit (Value.string s)]), @Ct.av Kn (AV.ptr 0 0) = @Ct.av Kn (AV.ptr 0 0), @Ct.av Kn (AV.val false [Seg.lit (Value.int IntKind.i64 (0 : Int))]) = @Ct.av Kn (AV.val false [Seg.lit (Value.int IntKind.i64 (↑0 : Int))]), @Ct.ob Kn { T := 26, ss := [Seg.lit (Value.bool false), Seg.lit (Value.slice none 0 0), Seg.lit (Value.slice none 0 0)] } = @Ct.ob Kn { T := 26, ss := [Seg.lit (Value.bool false), Seg.lit (Value.slice none 0 0), Seg.lit (Value.slice none 0 0)] }, LoopOk Dn (mkTb3 tD0 [] (hTx s n)) Tryz.prog Tryz.f57.ntmps (loopAt Tryz.f57 0) (iTx s n) 6, decide ((↑n : Int) < (↑(ByteArray.size s) : Int)) = true, (0 : Int) ≤ (↑n : Int), (↑n : Int) < (↑(ByteArray.size s) : Int), (match (↑(byAt s (Int.toNat (↑n : Int))) : Int) == (47 : Int) with | true => false | false => true) = false, (0 : Int) ≤ (↑n : Int), (↑n : Int) ≤ (↑(ByteArray.size s) : Int), ByteArray.size (ByteArray.extract s 0 (Int.toNat (↑n : Int))) ≤ 4096, (match ipe (ByteArray.extract s 0 (Int.toNat (↑n : Int))) == (0 : Int) with | true => false | false => true) = false, decide ((↑n : Int) < (↑(ByteArray.size s) : Int)) = true, (0 : Int) ≤ IntKind.wrap IntKind.i64 ((↑n : Int) + (1 : Int)), IntKind.wrap IntKind.i64 ((↑n : Int) + (1 : Int)) ≤ (↑(ByteArray.size s) : Int), ByteArray.size (ByteArray.extract s (Int.toNat (IntKind.wrap IntKind.i64 ((↑n : Int) + (1 : Int)))) (ByteArray.size s)) ≤ 4096, (match pre (ByteArray.extract s (Int.toNat (IntKind.wrap IntKind.i64 ((↑n : Int) + (1 : Int)))) (ByteArray.size s)) == (0 : Int) with | true => false | false => true) = false, ((↑(List.length (dg (nP (ByteArray.extract s (Int.toNat (IntKind.wrap IntKind.i64 ((↑n : Int) + (1 : Int)))) (ByteArray.size s))))) : Int) == (0 : Int)) = false, nz (zP (ByteArray.extract s 0 (Int.toNat (↑n : Int)))) ≤ 65535, List.length (dg (nP (ByteArray.extract s (Int.toNat (IntKind.wrap IntKind.i64 ((↑n : Int) + (1 : Int)))) (ByteArray.size s)))) ≤ 65535, decide (nP (ByteArray.extract s (Int.toNat (IntKind.wrap IntKind.i64 ((↑n : Int) + (1 : Int)))) (ByteArray.size s)) ≠ 0 ∧ Nat.gcd (Int.natAbs (zP (ByteArray.extract s 0 (Int.toNat (↑n : Int))))) (nP (ByteArray.extract s (Int.toNat (IntKind.wrap IntKind.i64 ((↑n : Int) + (1 : Int)))) (ByteArray.size s))) = 1) = true, nz (zP (ByteArray.extract s 0 (Int.toNat (↑n : Int)))) + List.length (dg (nP (ByteArray.extract s (Int.toNat (IntKind.wrap IntKind.i64 ((↑n : Int) + (1 : Int)))) (ByteArray.size s)))) ≤ 65535, nz (Rat.num (mkRat (zP (ByteArray.extract s 0 (Int.toNat (↑n : Int)))) (nP (ByteArray.extract s (Int.toNat (IntKind.wrap IntKind.i64 ((↑n : Int) + (1 : Int)))) (ByteArray.size s))))) ≤ 65535, List.length (dg (Rat.den (mkRat (zP (ByteArray.extract s 0 (Int.toNat (↑n : Int)))) (nP (ByteArray.extract s (Int.toNat (IntKind.wrap IntKind.i64 ((↑n : Int) + (1 : Int)))) (ByteArray.size s)))))) ≤ 65535, ByteArray.size (txt (fmt (Int.natAbs (Rat.num (mkRat (zP (ByteArray.extract s 0 (Int.toNat (↑n : Int)))) (nP (ByteArray.extract s (Int.toNat (IntKind.wrap IntKind.i64 ((↑n : Int) + (1 : Int)))) (ByteArray.size s)))))))) ≤ 4096, ByteArray.size (txt (fmt (Rat.den (mkRat (zP (ByteArray.extract s 0 (Int.toNat (↑n : Int)))) (nP (ByteArray.extract s (Int.toNat (IntKind.wrap IntKind.i64 ((↑n : Int) + (1 : Int)))) (ByteArray.size s))))))) ≤ 4096, (match ByteArray.toList (qtx (mkRat (zP (ByteArray.extract s 0 (Int.toNat (↑n : Int)))) (nP (ByteArray.extract s (Int.toNat (IntKind.wrap IntKind.i64 ((↑n : Int) + (1 : Int)))) (ByteArray.size s))))) == ByteArray.toList s with | true => false | false => true) = true]) (r := AV.tup [(true, [Seg.lit (Value.bool false), Seg.lit (Value.slice none 0 0), Seg.lit (Value.slice none 0 0)]), (false, [Seg.lit (Value.int IntKind.i64 (6 : Int))])]) Tryz.func57 rfl (by kernel_rfl) ⟨decide_eq_false (by omega), rfl, rfl, rfl, rfl, tx_loop s n hs (by omega) hb, decide_eq_true (by omega), by omega, by omega, is_47 h47, by omega, by omega, ext_sz hs _ _, ne_no h, decide_eq_true (by omega), by omega, by omega, ext_sz hs _ _, (by rw [hw]; exact ne_no h'), (by rw [hw]; exact len_1 h4.1), Nat.le_trans a1 (by decide), (by rw [hw]; exact Nat.le_trans a2 (by decide)), (by rw [hw]; exact decide_eq_true h4), (by rw [hw]; exact Nat.le_trans (Nat.add_le_add a1 a2) (by decide)), (by rw [hw]; exact f1), (by rw [hw]; exact f2), (by rw [hw]; exact f3), (by rw [hw]; exact f4), (by rw [hw]; exact str_ne hq), trivial⟩)

theorem split3 {s : ByteArray} {n : Nat} (hn : n < s.size) (h47 : byAt s n = 47) : s.extract 0 n ++ ({ data := #[47] } : ByteArray) ++ s.extract (n + 1) s.size = s := by
  have h1 : s.extract n (n + 1) = { data := #[47] } := by
    apply ByteArray.ext
    rw [ByteArray.data_extract]
    have hn' : n < s.data.size := hn
    have h2 : s.data[n] = 47 := by
      unfold byAt at h47
      rw [List.getD_eq_getElem?_getD, Array.getElem?_toList, Array.getElem?_eq_getElem hn', Option.getD_some] at h47
      exact UInt8.toNat_inj.1 h47
    rw [Array.extract_succ_right (by omega) hn', h2, Array.extract_empty_of_stop_le_start (Nat.le_refl _)]
    rfl
  rw [← h1]
  apply ByteArray.ext
  have hz : s.size = s.data.size := rfl
  rw [ByteArray.data_append, ByteArray.data_append, ByteArray.data_extract, ByteArray.data_extract, ByteArray.data_extract, Array.extract_append_extract, Nat.min_eq_left (by omega), Nat.max_eq_right (by omega), Array.extract_append_extract, Nat.min_eq_left (by omega), Nat.max_eq_right (by omega), hz]
  exact Array.extract_size

theorem dd8 (s : ByteArray) (n : Nat) (hs : s.size ≤ 200) (hn : n < s.size) (hb : ∀ k, k < n → byAt s k ≠ 47) (h47 : byAt s n = 47) (h : ipe (s.extract 0 n) = 0) (h' : pre (s.extract (n + 1) s.size) = 0) (h4 : nP (s.extract (n + 1) s.size) ≠ 0 ∧ Nat.gcd (zP (s.extract 0 n)).natAbs (nP (s.extract (n + 1) s.size)) = 1) (h5 : nP (s.extract (n + 1) s.size) ≠ 1) : Cp 57 [.l (.string s)] (okQ (mkRat (zP (s.extract 0 n)) (nP (s.extract (n + 1) s.size)))) := by
  have hw := w_succ (n := n) (by omega)
  have a1 := Nat.le_trans (zP_len (s.extract 0 n)) (ext_sz2 hs 0 n)
  have a2 := Nat.le_trans (nP_len (s.extract (n + 1) s.size)) (ext_sz2 hs (n + 1) s.size)
  obtain ⟨f1, f2, f3, f4⟩ := parts_ok (ext_sz2 hs 0 n) (ext_sz2 hs (n + 1) s.size) (int_back h) (nat_back h') a1 a2 h4.1 h4.2
  obtain ⟨e1, e2⟩ := mk_low h4.1 h4.2
  have hq : qtx (mkRat (zP (s.extract 0 n)) (nP (s.extract (n + 1) s.size))) = s := by
    unfold qtx
    rw [if_neg (by rw [e2]; exact h5), e1, e2, int_back h, nat_back h']
    exact split3 hn h47
  exact cp_of (cn_res (wk3 (hint := (hTx s n)) (alts := []) tD0_ok trivial (ds := [some false, some true, none, some false, none, some false, some true, some false, none, some false, none, some true, none, none, some false, none]) (fuel := 40) (obs := [decide ((↑(ByteArray.size s) : Int) > (4096 : Int)) = false, @Ct.av Kn (AV.val false [Seg.lit (Value.string s)]) = @Ct.av Kn (AV.val false [Seg.lit (Value.string s)]), @Ct.av Kn (AV.ptr 0 0) = @Ct.av Kn (AV.ptr 0 0), @Ct.av Kn (AV.val false [Seg.lit (Value.int IntKind.i64 (0 : Int))]) = @Ct.av Kn (AV.val false [Seg.lit (Value.int IntKind.i64 (↑0 : Int))]), @Ct.ob Kn { T := 26, ss := [Seg.lit (Value.bool false), Seg.lit (Value.slice none 0 0), Seg.lit (Value.slice none 0 0)] } = @Ct.ob Kn { T := 26, ss := [Seg.lit (Value.bool false), Seg.lit (Value.slice none 0 0), Seg.lit (Value.slice none 0 0)] }, LoopOk Dn (mkTb3 tD0 [] (hTx s n)) Tryz.prog Tryz.f57.ntmps (loopAt Tryz.f57 0) (iTx s n) 6, decide ((↑n : Int) < (↑(ByteArray.size s) : Int)) = true, (0 : Int) ≤ (↑n : Int), (↑n : Int) < (↑(ByteArray.size s) : Int), (match (↑(byAt s (Int.toNat (↑n : Int))) : Int) == (47 : Int) with | true => false | false => true) = false, (0 : Int) ≤ (↑n : Int), (↑n : Int) ≤ (↑(ByteArray.size s) : Int), ByteArray.size (ByteArray.extract s 0 (Int.toNat (↑n : Int))) ≤ 4096, (match ipe (ByteArray.extract s 0 (Int.toNat (↑n : Int))) == (0 : Int) with | true => false | false => true) = false, decide ((↑n : Int) < (↑(ByteArray.size s) : Int)) = true, (0 : Int) ≤ IntKind.wrap IntKind.i64 ((↑n : Int) + (1 : Int)), IntKind.wrap IntKind.i64 ((↑n : Int) + (1 : Int)) ≤ (↑(ByteArray.size s) : Int), ByteArray.size (ByteArray.extract s (Int.toNat (IntKind.wrap IntKind.i64 ((↑n : Int) + (1 : Int)))) (ByteArray.size s)) ≤ 4096, (match pre (ByteArray.extract s (Int.toNat (IntKind.wrap IntKind.i64 ((↑n : Int) + (1 : Int)))) (ByteArray.size s)) == (0 : Int) with | true => false | false => true) = false, ((↑(List.length (dg (nP (ByteArray.extract s (Int.toNat (IntKind.wrap IntKind.i64 ((↑n : Int) + (1 : Int)))) (ByteArray.size s))))) : Int) == (0 : Int)) = false, nz (zP (ByteArray.extract s 0 (Int.toNat (↑n : Int)))) ≤ 65535, List.length (dg (nP (ByteArray.extract s (Int.toNat (IntKind.wrap IntKind.i64 ((↑n : Int) + (1 : Int)))) (ByteArray.size s)))) ≤ 65535, decide (nP (ByteArray.extract s (Int.toNat (IntKind.wrap IntKind.i64 ((↑n : Int) + (1 : Int)))) (ByteArray.size s)) ≠ 0 ∧ Nat.gcd (Int.natAbs (zP (ByteArray.extract s 0 (Int.toNat (↑n : Int))))) (nP (ByteArray.extract s (Int.toNat (IntKind.wrap IntKind.i64 ((↑n : Int) + (1 : Int)))) (ByteArray.size s))) = 1) = true, nz (zP (ByteArray.extract s 0 (Int.toNat (↑n : Int)))) + List.length (dg (nP (ByteArray.extract s (Int.toNat (IntKind.wrap IntKind.i64 ((↑n : Int) + (1 : Int)))) (ByteArray.size s)))) ≤ 65535, nz (Rat.num (mkRat (zP (ByteArray.extract s 0 (Int.toNat (↑n : Int)))) (nP (ByteArray.extract s (Int.toNat (IntKind.wrap IntKind.i64 ((↑n : Int) + (1 : Int)))) (ByteArray.size s))))) ≤ 65535, List.length (dg (Rat.den (mkRat (zP (ByteArray.extract s 0 (Int.toNat (↑n : Int)))) (nP (ByteArray.extract s (Int.toNat (IntKind.wrap IntKind.i64 ((↑n : Int) + (1 : Int)))) (ByteArray.size s)))))) ≤ 65535, ByteArray.size (txt (fmt (Int.natAbs (Rat.num (mkRat (zP (ByteArray.extract s 0 (Int.toNat (↑n : Int)))) (nP (ByteArray.extract s (Int.toNat (IntKind.wrap IntKind.i64 ((↑n : Int) + (1 : Int)))) (ByteArray.size s)))))))) ≤ 4096, ByteArray.size (txt (fmt (Rat.den (mkRat (zP (ByteArray.extract s 0 (Int.toNat (↑n : Int)))) (nP (ByteArray.extract s (Int.toNat (IntKind.wrap IntKind.i64 ((↑n : Int) + (1 : Int)))) (ByteArray.size s))))))) ≤ 4096, (match ByteArray.toList (qtx (mkRat (zP (ByteArray.extract s 0 (Int.toNat (↑n : Int)))) (nP (ByteArray.extract s (Int.toNat (IntKind.wrap IntKind.i64 ((↑n : Int) + (1 : Int)))) (ByteArray.size s))))) == ByteArray.toList s with | true => false | false => true) = false]) (r := AV.tup [(true, [Seg.sem (Kn.int (zP (ByteArray.extract s 0 (Int.toNat (↑n : Int))))), Seg.sem (Kn.nat (nP (ByteArray.extract s (Int.toNat (IntKind.wrap IntKind.i64 ((↑n : Int) + (1 : Int)))) (ByteArray.size s))))]), (false, [Seg.lit (Value.int IntKind.i64 (0 : Int))])]) Tryz.func57 rfl (by kernel_rfl) ⟨decide_eq_false (by omega), rfl, rfl, rfl, rfl, tx_loop s n hs (by omega) hb, decide_eq_true (by omega), by omega, by omega, is_47 h47, by omega, by omega, ext_sz hs _ _, ne_no h, decide_eq_true (by omega), by omega, by omega, ext_sz hs _ _, (by rw [hw]; exact ne_no h'), (by rw [hw]; exact len_1 h4.1), Nat.le_trans a1 (by decide), (by rw [hw]; exact Nat.le_trans a2 (by decide)), (by rw [hw]; exact decide_eq_true h4), (by rw [hw]; exact Nat.le_trans (Nat.add_le_add a1 a2) (by decide)), (by rw [hw]; exact f1), (by rw [hw]; exact f2), (by rw [hw]; exact f3), (by rw [hw]; exact f4), (by rw [hw]; exact str_eq hq), trivial⟩) (okq_join e1 (by rw [hw]; exact e2)))

end Go.Proofs.YtagciepnhjbopaaGreatDoor

namespace Go.Proofs.YtagciepnhjbopaaGreatDoor
open Go.RowKit En

theorem ixb_first (c : UInt8) : ∀ l : List UInt8, (Lib.indexByte l c = -1 → ∀ j, j < l.length → l.getD j 0 ≠ c) ∧ (∀ m : Nat, Lib.indexByte l c = (m : Int) → (∀ j, j < m → l.getD j 0 ≠ c) ∧ l.getD m 0 = c)
  | [] => ⟨fun _ j hj => (by cases hj), fun m h => by exact absurd (show (-1 : Int) = m from h) (by omega)⟩
  | b :: l => by
    obtain ⟨ih1, ih2⟩ := ixb_first c l
    unfold Lib.indexByte
    by_cases h : b == c
    · rw [if_pos h]
      refine ⟨fun e => by exact absurd e (by decide), fun m e => ?_⟩
      have e : m = 0 := by omega
      subst e
      exact ⟨fun j hj => (by cases hj), eq_of_beq h⟩
    · rw [if_neg h]
      have hne : b ≠ c := fun e => h (by rw [e]; exact beq_self_eq_true c)
      rcases ixb_range c l with h1 | ⟨h1, h2⟩
      · rw [h1]
        refine ⟨fun _ j hj => ?_, fun m e => by exact absurd (show (-1 : Int) = m from e) (by omega)⟩
        match j, hj with
        | 0, _ => exact hne
        | j + 1, hj => exact ih1 h1 j (by simpa using hj)
      · have : ¬ (Lib.indexByte l c == -1) = true := by rw [beq_iff_eq]; omega
        rw [if_neg this]
        refine ⟨fun e => by omega, fun m e => ?_⟩
        match m, e with
        | 0, e => omega
        | m + 1, e =>
          obtain ⟨g1, g2⟩ := ih2 m (by omega)
          refine ⟨fun j hj => ?_, g2⟩
          match j, hj with
          | 0, _ => exact hne
          | j + 1, hj => exact g1 j (by omega)

theorem by_ne {s : ByteArray} {j : Nat} (h : s.data.toList.getD j 0 ≠ 47) : byAt s j ≠ 47 := fun e => h (UInt8.toNat_inj.1 e)

theorem no_slash {s : ByteArray} (h : Lib.indexByte s.data.toList 47 = -1) : ∀ k, k < s.size → byAt s k ≠ 47 := fun k hk => by_ne ((ixb_first 47 _).1 h k (by rw [Array.length_toList]; exact hk))

theorem at_slash {s : ByteArray} (h : Lib.indexByte s.data.toList 47 ≠ -1) : (∀ k, k < slash s → byAt s k ≠ 47) ∧ byAt s (slash s) = 47 := by
  obtain ⟨h1, h2⟩ := slash_lt h
  obtain ⟨g1, g2⟩ := (ixb_first 47 s.data.toList).2 (slash s) h1
  exact ⟨fun k hk => by_ne (g1 k hk), by unfold byAt; rw [g2]; rfl⟩

theorem rparse_ok (s : ByteArray) (q : Rat) (hs : s.size ≤ 200) (h : pRes s = some q) : Cp 57 [.l (.string s)] (okQ q) := by
  unfold pRes at h
  split at h
  · rename_i hx
    split at h
    · rename_i h1
      injection h with h
      subst h
      have hz : s.extract 0 s.size = s := ByteArray.extract_zero_size
      have k := dd1 s hs (no_slash hx) (by rw [hz]; exact h1)
      rw [hz] at k
      exact k
    · cases h
  · rename_i hx
    split at h
    · rename_i h1
      injection h with h
      subst h
      obtain ⟨g1, g2⟩ := at_slash hx
      exact dd8 s (slash s) hs (slash_lt hx).2 g1 g2 h1.1 h1.2.1 h1.2.2.2 h1.2.2.1
    · cases h

theorem rparse_no (s : ByteArray) (hs : s.size ≤ 200) (h : pRes s = none) : Cp 57 [.l (.string s)] (noQ 6) := by
  unfold pRes at h
  split at h
  · rename_i hx
    split at h
    · cases h
    · rename_i h1
      have hz : s.extract 0 s.size = s := ByteArray.extract_zero_size
      exact dd2 s hs (no_slash hx) (by rw [hz]; exact ipe_no h1)
  · rename_i hx
    obtain ⟨g1, g2⟩ := at_slash hx
    have g0 := (slash_lt hx).2
    split at h
    · cases h
    · rename_i h1
      by_cases q1 : ipe (above s) = 0
      · by_cases q2 : pre (below s) = 0
        · by_cases q3 : nP (below s) = 0
          · exact dd5 s (slash s) hs g0 g1 g2 q1 q2 q3
          · by_cases q4 : nP (below s) ≠ 0 ∧ Nat.gcd (zP (above s)).natAbs (nP (below s)) = 1
            · by_cases q5 : nP (below s) = 1
              · exact dd7 s (slash s) hs g0 g1 g2 q1 q2 q4 q5
              · exact absurd ⟨q1, q2, q5, q4⟩ h1
            · exact dd6 s (slash s) hs g0 g1 g2 q1 q2 q3 q4
        · exact dd4 s (slash s) hs g0 g1 g2 q1 (pre_no q2)
      · exact dd3 s (slash s) hs g0 g1 g2 (ipe_no q1)

theorem txt_no (n : Nat) : ∀ b ∈ (txt (fmt n)).data.toList, b ≠ 47 := by
  intro b hb
  have h1 := fmt_dd n
  unfold txt at hb
  simp only [List.mem_map] at hb
  obtain ⟨d, hd, rfl⟩ := hb
  have h2 : d < 10 := h1 d hd
  intro e
  have e := congrArg UInt8.toNat e
  rw [UInt8.toNat_ofNat_of_lt' (by show 48 + d < 256; omega)] at e
  have e : 48 + d = 47 := e
  omega

theorem itx_no (g : Bool) (n : Nat) : ∀ b ∈ (itx g n).data.toList, b ≠ 47 := by
  intro b hb
  cases g
  · exact txt_no n b hb
  · have hb : b ∈ (({ data := #[45] } : ByteArray) ++ txt (fmt n)).data.toList := hb
    rw [ByteArray.data_append, Array.toList_append, List.mem_append] at hb
    rcases hb with hb | hb
    · have : b = 45 := by simpa using hb
      rw [this]; decide
    · exact txt_no n b hb

theorem ixb_none {c : UInt8} : ∀ {l : List UInt8}, (∀ b ∈ l, b ≠ c) → Lib.indexByte l c = -1
  | [], _ => rfl
  | b :: l, h => by
    unfold Lib.indexByte
    rw [if_neg (by rw [beq_iff_eq]; exact h b List.mem_cons_self), ixb_none fun x hx => h x (List.mem_cons_of_mem _ hx)]
    rfl

theorem ixb_at {c : UInt8} : ∀ {l t : List UInt8}, (∀ b ∈ l, b ≠ c) → Lib.indexByte (l ++ c :: t) c = (l.length : Int)
  | [], t, _ => by
    rw [List.nil_append]
    unfold Lib.indexByte
    rw [if_pos (beq_self_eq_true c)]
    rfl
  | b :: l, t, h => by
    rw [List.cons_append]
    unfold Lib.indexByte
    rw [if_neg (by rw [beq_iff_eq]; exact h b List.mem_cons_self), ixb_at fun x hx => h x (List.mem_cons_of_mem _ hx)]
    have : ¬ ((l.length : Int) == -1) = true := by rw [beq_iff_eq]; omega
    rw [if_neg this, List.length_cons]
    omega

theorem sg_ne (z : Int) : decide (z < 0) = true → z.natAbs ≠ 0 := fun h => by have := of_decide_eq_true h; omega

theorem zP_itx (z : Int) : zP (itx (decide (z < 0)) z.natAbs) = z := by
  unfold zP
  rw [ips_itx (sg_ne z), ipx_itx (sg_ne z), val_dg, iv_eq rfl rfl]

theorem pres_qtx (q : Rat) : pRes (qtx q) = some q := by
  by_cases h : q.den = 1
  · have e : qtx q = itx (decide (q.num < 0)) q.num.natAbs := by unfold qtx; rw [if_pos h]
    rw [e]
    unfold pRes
    rw [if_pos (ixb_none (itx_no _ _)), if_pos (ipe_itx (sg_ne q.num)), zP_itx]
    show some (mkRat q.num 1) = some q
    rw [← h, Rat.mkRat_self]
  · have e : qtx q = itx (decide (q.num < 0)) q.num.natAbs ++ (({ data := #[47] } : ByteArray) ++ itx false q.den) := (qtx_r q h).symm
    obtain ⟨a, ha⟩ : ∃ a, itx (decide (q.num < 0)) q.num.natAbs = a := ⟨_, rfl⟩
    obtain ⟨b, hb⟩ : ∃ b, itx false q.den = b := ⟨_, rfl⟩
    have na := itx_no (decide (q.num < 0)) q.num.natAbs
    have z1 := zP_itx q.num
    have i1 := ipe_itx (sg_ne q.num)
    have p1 : pre b = 0 := by rw [← hb]; exact pre_fmt q.den
    have n1 : nP b = q.den := by
      rw [← hb]
      unfold nP
      show val (prx (txt (fmt q.den))) = _
      rw [prx_fmt, val_dg]
    rw [ha] at na z1 i1
    rw [e, ha, hb]
    have hl : (a ++ (({ data := #[47] } : ByteArray) ++ b)).data.toList = a.data.toList ++ 47 :: b.data.toList := by
      rw [ByteArray.data_append, ByteArray.data_append, Array.toList_append, Array.toList_append]
      rfl
    have hi : Lib.indexByte (a ++ (({ data := #[47] } : ByteArray) ++ b)).data.toList 47 = (a.size : Int) := by
      rw [hl, ixb_at na, Array.length_toList]
      rfl
    have hs : slash (a ++ (({ data := #[47] } : ByteArray) ++ b)) = a.size := by unfold slash; rw [hi]; rfl
    have h1 : above (a ++ (({ data := #[47] } : ByteArray) ++ b)) = a := by
      unfold above
      rw [hs]
      exact ByteArray.extract_append_eq_left rfl
    have h2 : below (a ++ (({ data := #[47] } : ByteArray) ++ b)) = b := by
      unfold below
      rw [hs, ← ByteArray.append_assoc]
      refine ByteArray.extract_append_eq_right ?_ (by rw [ByteArray.size_append])
      rw [ByteArray.size_append]
      rfl
    unfold pRes
    rw [if_neg (by rw [hi]; omega), h1, h2, z1, n1, if_pos ⟨i1, p1, h, q.den_nz, q.reduced⟩, Rat.mkRat_self]

end Go.Proofs.YtagciepnhjbopaaGreatDoor
