/- What the statements of this claim stand on: of Txt5, Q24, Q25, what they name -/
import Derived.Test.YtagciepnhjbopaaGreatDoorT24
import Derived.Test.YtagciepnhjbopaaGreatDoorT31
import Derived.Test.YtagciepnhjbopaaGreatDoorT38
import Derived.Test.YtagciepnhjbopaaGreatDoorT39

namespace Go.Proofs.YtagciepnhjbopaaGreatDoor
open Go.RowKit

theorem pre_good0 {s : ByteArray} (h : pre s = 0) : Good s := by
  unfold pre at h
  split at h
  · assumption
  · cases h

theorem nP_pv {s : ByteArray} (h : Good s) : nP s = pv (by' s) s.size := by
  unfold nP prx
  rw [if_pos h, val_dg]

theorem good_txt {s : ByteArray} (h : Good s) : txt (fmt (nP s)) = s := by
  obtain ⟨h0, h1, h2⟩ := h
  have hb : ∀ b ∈ s.data.toList, 48 ≤ b.toNat ∧ b.toNat ≤ 57 := by
    intro b hb
    obtain ⟨j, hj, rfl⟩ := List.mem_iff_getElem.1 hb
    have hj' : j < s.size := by rw [Array.length_toList] at hj; exact hj
    have := h2 j hj'
    unfold by' at this
    rw [List.getD_eq_getElem?_getD, List.getElem?_eq_getElem hj] at this
    exact this
  have hS : txt (s.data.toList.map fun b => b.toNat - 48) = s := by
    unfold txt
    rw [List.map_map]
    have e : s.data.toList.map ((fun d => UInt8.ofNat (48 + d)) ∘ fun b => b.toNat - 48) = s.data.toList := by
      rw [List.map_congr_left (g := id)]
      · simp
      · intro b hm
        have := hb b hm
        show UInt8.ofNat (48 + (b.toNat - 48)) = b
        rw [show 48 + (b.toNat - 48) = b.toNat by omega]
        exact UInt8.ofNat_toNat
    rw [e]
  have hl : (s.data.toList.map fun b => b.toNat - 48).length = s.size := by rw [List.length_map, Array.length_toList]; rfl
  have hd : Dd (s.data.toList.map fun b => b.toNat - 48) := by
    intro x hx
    obtain ⟨b, hm, rfl⟩ := List.mem_map.1 hx
    have := hb b hm
    omega
  generalize (s.data.toList.map fun b => b.toNat - 48) = S at hS hl hd
  have hv : nP s = dvB S := by
    rw [nP_pv ⟨h0, h1, h2⟩, ← hl]
    have := pv_txt hd S.length (Nat.le_refl _)
    rw [hS, List.take_length] at this
    exact this
  rw [hv]
  suffices fmt (dvB S) = S by rw [this, hS]
  match S, hl, hd, hS with
  | [], hl, _, _ => exact absurd hl.symm h0
  | x :: T, hl, hd, hS =>
    by_cases hx : x = 0
    · subst hx
      have hb0 : by' s 0 = 48 := by
        have := by'_txt hd (k := 0) (by simp)
        rw [hS] at this
        exact this
      have h3 := h1 hb0
      have hT : T = [] := List.eq_nil_of_length_eq_zero (by simp at hl; omega)
      subst hT
      rfl
    · have h4 := dvB_pos (S := T) hx
      unfold fmt
      rw [if_neg h4]
      exact dB_of _ hd (fun y U e => by injection e with e _; rw [← e]; exact hx)

theorem nat_back {s : ByteArray} (h : pre s = 0) : itx false (nP s) = s := good_txt (pre_good0 h)

theorem ipe_parts {s : ByteArray} (h : ipe s = 0) : pre (ibody s) = 0 ∧ ¬ (isM s ∧ prx (ibody s) = []) := by
  unfold ipe at h
  split at h
  · assumption
  · cases h

theorem minus_back {s : ByteArray} (h : isM s) : ({ data := #[45] } : ByteArray) ++ s.extract 1 s.size = s := by
  have h1 := (isM_iff s h.1).1 h
  rw [← h1]
  apply ByteArray.ext
  rw [ByteArray.data_append, ByteArray.data_extract, ByteArray.data_extract, Array.extract_append_extract]
  have : s.size = s.data.size := rfl
  rw [this, Nat.min_eq_left (by omega), Nat.max_eq_right (show 1 ≤ s.data.size from h.1)]
  exact Array.extract_size

theorem int_back {s : ByteArray} (h : ipe s = 0) : itx (decide (zP s < 0)) (zP s).natAbs = s := by
  obtain ⟨h1, h2⟩ := ipe_parts h
  rw [zP_sign h]
  have e1 : ips s = decide (isM s) := by unfold ips; rw [if_pos h]
  have e2 : (zP s).natAbs = nP (ibody s) := by
    have : ipx s = prx (ibody s) := by unfold ipx; rw [if_pos h]
    unfold zP
    rw [iv_abs, this]
    rfl
  rw [e2]
  have hg := good_txt (pre_good0 h1)
  by_cases hm : isM s
  · have : ips s = true := by rw [e1]; exact decide_eq_true hm
    rw [this]
    show ({ data := #[45] } : ByteArray) ++ txt (fmt (nP (ibody s))) = s
    rw [hg, ibody_yes hm]
    exact minus_back hm
  · have : ips s = false := by rw [e1]; exact decide_eq_false hm
    rw [this]
    show txt (fmt (nP (ibody s))) = s
    rw [hg, ibody_no hm]

end Go.Proofs.YtagciepnhjbopaaGreatDoor

namespace Go.Proofs.YtagciepnhjbopaaGreatDoor
open Go.RowKit En

theorem zP_sg (s : ByteArray) : decide (zP s < 0) = ips s := by
  by_cases h : ipe s = 0
  · exact zP_sign h
  · have h1 : ips s = false := by unfold ips; rw [if_neg h]
    have h2 : ipx s = [] := by unfold ipx; rw [if_neg h]
    have h3 : zP s = 0 := by unfold zP; rw [h1, h2]; rfl
    rw [h1, h3]
    rfl

theorem zP_vz {w : World} {s : ByteArray} {p : Option Addr} {c : Nat} (h : Sl w p (ipx s).length c (ipx s)) : VZ w (zP s) (iw (ips s) p (ipx s).length c) := by
  have e : dg (zP s).natAbs = ipx s := by rw [zP_abs, ← ipx_dg]
  refine ⟨p, c, ?_, ?_⟩
  · rw [e, zP_sg]
  · rw [e]; exact h

noncomputable abbrev zpR (s : ByteArray) : Av := .tup [(true, [.sem (.int (zP s))]), (false, [.lit (.int .i64 (ipe s))])]

noncomputable abbrev npR (s : ByteArray) : Av := .tup [(false, [.sem (.nat (nP s))]), (false, [.lit (.int .i64 (pre s))])]

theorem retp_zpR {w : World} {s : ByteArray} {e : Ending} {w' : World} (h : RetP w s e w') : ∃ u, e = .returned u ∧ (zpR s).holds Dn none' w' u ∧ Fr [] w w' := by
  obtain ⟨p, c, rfl, o, f⟩ := h
  exact ⟨_, rfl, ⟨[_, .int .i64 (ipe s)], rfl, _, _, rfl, vl_sv (k := .int _) (zP_vz o.sl), _, _, rfl, vl_lit _ _, rfl⟩, f⟩

theorem retn_npR {w : World} {s : ByteArray} {e : Ending} {w' : World} (h : ∃ p c, e = .returned (.tuple #[.slice p (prx s).length c, .int .i64 (pre s)]) ∧ Sl w' p (prx s).length c (prx s) ∧ Fr [] w w') : ∃ u, e = .returned u ∧ (npR s).holds Dn none' w' u ∧ Fr [] w w' := by
  obtain ⟨p, c, rfl, o, f⟩ := h
  have hv : VD w' (nP s) (.slice p (prx s).length c) := ⟨p, c, by rw [← prx_dg], by rw [← prx_dg]; exact o⟩
  exact ⟨_, rfl, ⟨[_, .int .i64 (pre s)], rfl, _, _, rfl, vl_sv (k := .nat _) hv, _, _, rfl, vl_lit _ _, rfl⟩, f⟩

theorem one_arg {w : World} {u : Value} {vs : List Value} (h : pas w [.l u] vs) : vs = [u] := by
  obtain ⟨v0, _, rfl, h0, rfl⟩ := h
  have h0 : v0 = _ := h0
  rw [h0]

theorem iprsG (s : ByteArray) (hs : s.size ≤ 4096) : Cp 135 [.l (.string s)] (zpR s) := by
  refine cp_leaf ⟨_, Tryz.func135, rfl, rfl⟩ fun w vs ht hv => ?_
  rw [one_arg hv]
  exact (iparse_any s w hs).mono fun _ _ h => retp_zpR h

theorem riprsG (s : ByteArray) (hs : s.size ≤ 4096) : Cp 137 [.l (.string s)] (zpR s) := by
  refine cp_leaf ⟨_, Tryz.func137, rfl, rfl⟩ fun w vs ht hv => ?_
  rw [one_arg hv]
  exact (rparseI_any s w hs).mono fun _ _ h => retp_zpR h

theorem nprsG (s : ByteArray) (hs : s.size ≤ 4096) : Cp 136 [.l (.string s)] (npR s) := by
  refine cp_leaf ⟨_, Tryz.func136, rfl, rfl⟩ fun w vs ht hv => ?_
  rw [one_arg hv]
  exact (parse_s s w hs).mono fun _ _ h => retn_npR h

theorem rnprsG (s : ByteArray) (hs : s.size ≤ 4096) : Cp 138 [.l (.string s)] (npR s) := by
  refine cp_leaf ⟨_, Tryz.func138, rfl, rfl⟩ fun w vs ht hv => ?_
  rw [one_arg hv]
  exact (rparse_s s w hs).mono fun _ _ h => retn_npR h

theorem scutN (s : ByteArray) (h : Lib.indexByte s.data.toList 47 = -1) : Cp 134 [.l (.string s), .l (.string { data := #[47] })] (.tup [(false, [.lit (.string s)]), (false, [.lit (.string { data := #[] })]), (false, [.lit (.bool false)])]) := by
  refine cp_leaf ⟨_, Tryz.func134, rfl, rfl⟩ fun w vs ht hv => ?_
  obtain ⟨v0, _, rfl, h0, v1, _, rfl, h1, rfl⟩ := hv
  have h0 : v0 = _ := h0
  have h1 : v1 = _ := h1
  subst h0; subst h1
  refine (cut_no s w h).mono ?_
  rintro e w' ⟨rfl, f⟩
  exact ⟨_, rfl, ⟨[_, _, _], rfl, _, _, rfl, vl_lit _ _, _, _, rfl, vl_lit _ _, _, _, rfl, vl_lit _ _, rfl⟩, f⟩

noncomputable abbrev k_iprsG : List Pa → Option (List Prop × Av)
  | [.l (.string s)] => some ([s.size ≤ 4096], zpR s)
  | _ => none

theorem e_iprsG (args : List Av) (obs : List Prop) (r : Av) : ent [.l] k_iprsG args = some (obs, r) → (∀ p ∈ obs, p) → Cn 135 args r :=
  ent_ok (fun ps obs r h ho => by
    unfold k_iprsG at h
    split at h
    · cases h; exact iprsG _ (ho _ (by simp))
    · cases h) args obs r

noncomputable abbrev k_nprsG : List Pa → Option (List Prop × Av)
  | [.l (.string s)] => some ([s.size ≤ 4096], npR s)
  | _ => none

theorem e_nprsG (args : List Av) (obs : List Prop) (r : Av) : ent [.l] k_nprsG args = some (obs, r) → (∀ p ∈ obs, p) → Cn 136 args r :=
  ent_ok (fun ps obs r h ho => by
    unfold k_nprsG at h
    split at h
    · cases h; exact nprsG _ (ho _ (by simp))
    · cases h) args obs r

noncomputable abbrev k_riprsG : List Pa → Option (List Prop × Av)
  | [.l (.string s)] => some ([s.size ≤ 4096], zpR s)
  | _ => none

theorem e_riprsG (args : List Av) (obs : List Prop) (r : Av) : ent [.l] k_riprsG args = some (obs, r) → (∀ p ∈ obs, p) → Cn 137 args r :=
  ent_ok (fun ps obs r h ho => by
    unfold k_riprsG at h
    split at h
    · cases h; exact riprsG _ (ho _ (by simp))
    · cases h) args obs r

noncomputable abbrev k_rnprsG : List Pa → Option (List Prop × Av)
  | [.l (.string s)] => some ([s.size ≤ 4096], npR s)
  | _ => none

theorem e_rnprsG (args : List Av) (obs : List Prop) (r : Av) : ent [.l] k_rnprsG args = some (obs, r) → (∀ p ∈ obs, p) → Cn 138 args r :=
  ent_ok (fun ps obs r h ho => by
    unfold k_rnprsG at h
    split at h
    · cases h; exact rnprsG _ (ho _ (by simp))
    · cases h) args obs r

abbrev k_scutN : List Pa → Option (List Prop × Av)
  | [.l (.string s), .l (.string t)] => some ([t = { data := #[47] }, Lib.indexByte s.data.toList 47 = -1], .tup [(false, [.lit (.string s)]), (false, [.lit (.string { data := #[] })]), (false, [.lit (.bool false)])])
  | _ => none

theorem e_scutN (args : List Av) (obs : List Prop) (r : Av) : ent [.l, .l] k_scutN args = some (obs, r) → (∀ p ∈ obs, p) → Cn 134 args r :=
  ent_ok (fun ps obs r h ho => by
    unfold k_scutN at h
    split at h
    · rename_i s t
      cases h
      have e : t = { data := #[47] } := ho _ (by simp)
      subst e
      exact scutN s (ho _ (by simp))
    · cases h) args obs r

abbrev k_validG : List Av → Option (List Prop × Av)
  | [.val true [.sem (.int z), .sem (.nat x)]] => some ([nz z ≤ 131071, (dg x).length ≤ 131071], avB (decide (x ≠ 0 ∧ Nat.gcd z.natAbs x = 1)))
  | _ => none

theorem e_validG (args : List Av) (obs : List Prop) (r : Av) (h : k_validG args = some (obs, r)) (ho : ∀ p ∈ obs, p) : Cn 19 args r := by
  unfold k_validG at h
  split at h
  case h_2 => cases h
  rename_i z x
  cases h
  have h1 : nz z ≤ 131071 := ho _ (by simp)
  have h2 : (dg x).length ≤ 131071 := ho _ (by simp)
  refine leaf ⟨_, Tryz.func19, rfl, rfl⟩ fun w vs ht hv => ?_
  obtain ⟨v, _, rfl, ⟨cs, k1, k4, -⟩, rfl⟩ := hv
  obtain ⟨a, b, rfl, ⟨-, p, c, e, s⟩, ⟨⟨hl, -⟩, q, d, e', t⟩⟩ := segs2 k1
  have e : a = [.bool (decide (z < 0)), .slice p (dg z.natAbs).length c] := by injection e with e; simpa using congrArg Array.toList e
  have e' : b = [.slice q (dg x).length d] := by
    match b, hl with
    | [y], _ => have e' : y = _ := e'; rw [e']
  subst e; subst e'
  rw [k4]
  have hv := vq_dg z x
  refine (valid_any (g := decide (z < 0)) s t h1 h2).mono fun _ _ h => rb_sv ?_
  rw [hv] at h
  exact h

noncomputable def tTx : List Ent := (135, ent [.l] k_iprsG) :: (136, ent [.l] k_nprsG) :: (134, ent [.l, .l] k_scut) :: (107, ent [.cd] k_isone) :: (19, k_validG) :: tP2

theorem tTx_ok : EntsOk tTx := ⟨e_iprsG, e_nprsG, e_scut, e_isone, e_validG, tP2_ok⟩

noncomputable def tTxN : List Ent := [(134, ent [.l, .l] k_scutN)]

theorem tTxN_ok : EntsOk tTxN := ⟨e_scutN, trivial⟩

abbrev slash (s : ByteArray) : Nat := (Lib.indexByte s.data.toList 47).toNat

abbrev above (s : ByteArray) : ByteArray := s.extract 0 (slash s)

abbrev below (s : ByteArray) : ByteArray := s.extract (slash s + 1) s.size

theorem ixb_range (c : UInt8) : ∀ l : List UInt8, Lib.indexByte l c = -1 ∨ (0 ≤ Lib.indexByte l c ∧ (Lib.indexByte l c).toNat < l.length)
  | [] => Or.inl rfl
  | b :: l => by
    unfold Lib.indexByte
    by_cases h : b == c
    · rw [if_pos h]
      exact Or.inr ⟨Int.le_refl _, by simp⟩
    · rw [if_neg h]
      rcases ixb_range c l with h1 | ⟨h1, h2⟩
      · rw [h1]; exact Or.inl rfl
      · have : ¬ (Lib.indexByte l c == -1) = true := by rw [beq_iff_eq]; omega
        rw [if_neg this]
        refine Or.inr ⟨by omega, ?_⟩
        rw [List.length_cons]
        omega

theorem slash_lt {s : ByteArray} (h : Lib.indexByte s.data.toList 47 ≠ -1) : Lib.indexByte s.data.toList 47 = (slash s : Int) ∧ slash s + 1 ≤ s.size := by
  rcases ixb_range 47 s.data.toList with h1 | ⟨h1, h2⟩
  · exact absurd h1 h
  · rw [Array.length_toList] at h2
    exact ⟨by unfold slash; omega, h2⟩

theorem pv_len {s : ByteArray} (h : Good s) : ∀ k, k ≤ s.size → (dg (pv (by' s) k)).length ≤ k
  | 0, _ => by rw [pv, dg_zero]; exact Nat.le_refl _
  | k + 1, hk => by
    rw [pv]
    have h1 := h.2.2 k (by omega)
    have h2 := dg_ten (a := pv (by' s) k) (d := by' s k - 48) (by omega)
    have h3 := pv_len h k (by omega)
    omega

theorem nP_len (s : ByteArray) : (dg (nP s)).length ≤ s.size := by
  by_cases h : Good s
  · rw [nP_pv h]; exact pv_len h _ (Nat.le_refl _)
  · have : nP s = 0 := by unfold nP prx; rw [if_neg h]; rfl
    rw [this, dg_zero]; exact Nat.zero_le _

theorem zP_len (s : ByteArray) : nz (zP s) ≤ s.size := by
  unfold nz
  rw [zP_abs]
  by_cases h : ipe s = 0
  · have : ipx s = prx (ibody s) := by unfold ipx; rw [if_pos h]
    rw [this]
    exact Nat.le_trans (nP_len (ibody s)) (ibody_size s)
  · have : ipx s = [] := by unfold ipx; rw [if_neg h]
    rw [this, show val [] = 0 from rfl, dg_zero]
    exact Nat.zero_le _

theorem ipe_no {s : ByteArray} (h : ipe s ≠ 0) : ipe s = 6 := by
  unfold ipe at *
  split
  · rename_i q; rw [if_pos q] at h; exact absurd rfl h
  · rfl

theorem pre_no {s : ByteArray} (h : pre s ≠ 0) : pre s = 6 := by
  rcases pre_cases s with h1 | h1
  · exact absurd h1 h
  · exact h1

theorem ne_yes {x : Int} (h : x = 6) : (match x == 0 with | true => false | false => true) = true := by rw [h]; rfl

theorem ne_no {x : Int} (h : x = 0) : (match x == 0 with | true => false | false => true) = false := by rw [h]; rfl

theorem okq_join {z : Int} {d : Nat} {r : Rat} (hz : r.num = z) (hd : r.den = d) (w : World) (u : Value) (h : (AV.tup [(true, [.sem (.int z), .sem (.nat d)]), (false, [.lit (.int .i64 0)])] : Av).holds Dn none' w u) : (okQ r).holds Dn none' w u := by
  obtain ⟨us, rfl, v, us', rfl, h1, h2⟩ := h
  exact ⟨_, rfl, v, us', rfl, rat_join hz hd w v h1, h2⟩

theorem mk_low {z : Int} {d : Nat} (h0 : d ≠ 0) (hg : Nat.gcd z.natAbs d = 1) : (mkRat z d).num = z ∧ (mkRat z d).den = d := by
  rw [← Rat.mk_eq_mkRat z d h0 hg]
  exact ⟨rfl, rfl⟩

theorem pp1 (s : ByteArray) (_hs : s.size ≤ 4000) (hx : Lib.indexByte s.data.toList 47 = -1) (h : ipe s = 0) : Cp 56 [.l (.string s)] (okQ (Rat.divInt (zP s) 1)) := by
  have hz := zP_len s
  exact cp_of (wk2 tTx_ok tTxN_ok (ds := [some false, some false, none, none, some false, none, none]) (fuel := 40) (obs := [decide ((↑(ByteArray.size s) : Int) > (4096 : Int)) = false, ({ data := #[(47 : UInt8)] } : ByteArray) = ({ data := #[(47 : UInt8)] } : ByteArray), Lib.indexByte (ByteArray.data s).1 (47 : UInt8) = (-1 : Int), ByteArray.size s ≤ 4096, (match ipe s == (0 : Int) with | true => false | false => true) = false, (0 : Int) < (1 : Int), nz (zP s) + 1 ≤ 524287]) (r := AV.tup [(true, [Seg.sem (Kn.rat (Rat.divInt (zP s) (1 : Int)))]), (false, [Seg.lit (Value.int IntKind.i64 (0 : Int))])]) Tryz.func56 rfl (by kernel_rfl) ⟨decide_eq_false (by omega), rfl, hx, by omega, ne_no h, by decide, by omega, trivial⟩)

theorem pp2 (s : ByteArray) (_hs : s.size ≤ 4000) (hx : Lib.indexByte s.data.toList 47 = -1) (h : ipe s = 6) : Cp 56 [.l (.string s)] (noQ 6) := by
  have k := (cp_of (wk2 tTx_ok tTxN_ok (ds := [some false, some false, none, none, some true]) (fuel := 40) (obs := [decide ((↑(ByteArray.size s) : Int) > (4096 : Int)) = false, ({ data := #[(47 : UInt8)] } : ByteArray) = ({ data := #[(47 : UInt8)] } : ByteArray), Lib.indexByte (ByteArray.data s).1 (47 : UInt8) = (-1 : Int), ByteArray.size s ≤ 4096, (match ipe s == (0 : Int) with | true => false | false => true) = true]) (r := AV.tup [(true, [Seg.lit (Value.bool false), Seg.lit (Value.slice none 0 0), Seg.lit (Value.slice none 0 0)]), (false, [Seg.lit (Value.int IntKind.i64 (ipe s))])]) Tryz.func56 rfl (by kernel_rfl) ⟨decide_eq_false (by omega), rfl, hx, by omega, ne_yes h, trivial⟩) : Cp 56 [.l (.string s)] _)
  rw [h] at k
  exact k

theorem above_size (s : ByteArray) : (above s).size ≤ s.size := by rw [ByteArray.size_extract]; omega

theorem below_size (s : ByteArray) : (below s).size ≤ s.size := by rw [ByteArray.size_extract]; omega

theorem pp3 (s : ByteArray) (_hs : s.size ≤ 4000) (hx : Lib.indexByte s.data.toList 47 ≠ -1) (h : ipe (above s) = 6) : Cp 56 [.l (.string s)] (noQ 6) := by
  obtain ⟨h1, h2⟩ := slash_lt hx
  have a1 := above_size s
  have k := (cp_of (wk2 tTx_ok tTxN_ok (ds := [some false, some true, none, none, some true]) (fuel := 40) (obs := [decide ((↑(ByteArray.size s) : Int) > (4096 : Int)) = false, ({ data := #[(47 : UInt8)] } : ByteArray) = ({ data := #[(47 : UInt8)] } : ByteArray), Lib.indexByte (ByteArray.data s).1 (47 : UInt8) = (↑(Int.toNat (Lib.indexByte (ByteArray.data s).1 (47 : UInt8))) : Int), Int.toNat (Lib.indexByte (ByteArray.data s).1 (47 : UInt8)) + 1 ≤ ByteArray.size s, ByteArray.size s ≤ 8192, ByteArray.size (ByteArray.extract s 0 (Int.toNat (Lib.indexByte (ByteArray.data s).1 (47 : UInt8)))) ≤ 4096, (match ipe (ByteArray.extract s 0 (Int.toNat (Lib.indexByte (ByteArray.data s).1 (47 : UInt8)))) == (0 : Int) with | true => false | false => true) = true]) (r := AV.tup [(true, [Seg.lit (Value.bool false), Seg.lit (Value.slice none 0 0), Seg.lit (Value.slice none 0 0)]), (false, [Seg.lit (Value.int IntKind.i64 (ipe (ByteArray.extract s 0 (Int.toNat (Lib.indexByte (ByteArray.data s).1 (47 : UInt8))))))])]) Tryz.func56 rfl (by kernel_rfl) ⟨decide_eq_false (by omega), rfl, h1, h2, by omega, Nat.le_trans a1 (by omega), ne_yes h, trivial⟩) : Cp 56 [.l (.string s)] _)
  rw [h] at k
  exact k

theorem pp4 (s : ByteArray) (_hs : s.size ≤ 4000) (hx : Lib.indexByte s.data.toList 47 ≠ -1) (h : ipe (above s) = 0) (h' : pre (below s) = 6) : Cp 56 [.l (.string s)] (noQ 6) := by
  obtain ⟨h1, h2⟩ := slash_lt hx
  have a1 := above_size s
  have a2 := below_size s
  have k := (cp_of (wk2 tTx_ok tTxN_ok (ds := [some false, some true, none, none, some false, none, none, some true]) (fuel := 40) (obs := [decide ((↑(ByteArray.size s) : Int) > (4096 : Int)) = false, ({ data := #[(47 : UInt8)] } : ByteArray) = ({ data := #[(47 : UInt8)] } : ByteArray), Lib.indexByte (ByteArray.data s).1 (47 : UInt8) = (↑(Int.toNat (Lib.indexByte (ByteArray.data s).1 (47 : UInt8))) : Int), Int.toNat (Lib.indexByte (ByteArray.data s).1 (47 : UInt8)) + 1 ≤ ByteArray.size s, ByteArray.size s ≤ 8192, ByteArray.size (ByteArray.extract s 0 (Int.toNat (Lib.indexByte (ByteArray.data s).1 (47 : UInt8)))) ≤ 4096, (match ipe (ByteArray.extract s 0 (Int.toNat (Lib.indexByte (ByteArray.data s).1 (47 : UInt8)))) == (0 : Int) with | true => false | false => true) = false, ByteArray.size (ByteArray.extract s (Int.toNat (Lib.indexByte (ByteArray.data s).1 (47 : UInt8)) + 1) (ByteArray.size s)) ≤ 4096, (match pre (ByteArray.extract s (Int.toNat (Lib.indexByte (ByteArray.data s).1 (47 : UInt8)) + 1) (ByteArray.size s)) == (0 : Int) with | true => false | false => true) = true]) (r := AV.tup [(true, [Seg.lit (Value.bool false), Seg.lit (Value.slice none 0 0), Seg.lit (Value.slice none 0 0)]), (false, [Seg.lit (Value.int IntKind.i64 (pre (ByteArray.extract s (Int.toNat (Lib.indexByte (ByteArray.data s).1 (47 : UInt8)) + 1) (ByteArray.size s))))])]) Tryz.func56 rfl (by kernel_rfl) ⟨decide_eq_false (by omega), rfl, h1, h2, by omega, Nat.le_trans a1 (by omega), ne_no h, Nat.le_trans a2 (by omega), ne_yes h', trivial⟩) : Cp 56 [.l (.string s)] _)
  rw [h'] at k
  exact k

theorem pp5 (s : ByteArray) (_hs : s.size ≤ 4000) (hx : Lib.indexByte s.data.toList 47 ≠ -1) (h : ipe (above s) = 0) (h' : pre (below s) = 0) (h3 : nP (below s) = 1) : Cp 56 [.l (.string s)] (noQ 6) := by
  obtain ⟨h1, h2⟩ := slash_lt hx
  have a1 := above_size s
  have a2 := below_size s
  exact cp_of (wk2 tTx_ok tTxN_ok (ds := [some false, some true, none, none, some false, none, none, some false, some true, none, none]) (fuel := 40) (obs := [decide ((↑(ByteArray.size s) : Int) > (4096 : Int)) = false, ({ data := #[(47 : UInt8)] } : ByteArray) = ({ data := #[(47 : UInt8)] } : ByteArray), Lib.indexByte (ByteArray.data s).1 (47 : UInt8) = (↑(Int.toNat (Lib.indexByte (ByteArray.data s).1 (47 : UInt8))) : Int), Int.toNat (Lib.indexByte (ByteArray.data s).1 (47 : UInt8)) + 1 ≤ ByteArray.size s, ByteArray.size s ≤ 8192, ByteArray.size (ByteArray.extract s 0 (Int.toNat (Lib.indexByte (ByteArray.data s).1 (47 : UInt8)))) ≤ 4096, (match ipe (ByteArray.extract s 0 (Int.toNat (Lib.indexByte (ByteArray.data s).1 (47 : UInt8)))) == (0 : Int) with | true => false | false => true) = false, ByteArray.size (ByteArray.extract s (Int.toNat (Lib.indexByte (ByteArray.data s).1 (47 : UInt8)) + 1) (ByteArray.size s)) ≤ 4096, (match pre (ByteArray.extract s (Int.toNat (Lib.indexByte (ByteArray.data s).1 (47 : UInt8)) + 1) (ByteArray.size s)) == (0 : Int) with | true => false | false => true) = false, decide (nP (ByteArray.extract s (Int.toNat (Lib.indexByte (ByteArray.data s).1 (47 : UInt8)) + 1) (ByteArray.size s)) = 1) = true]) (r := AV.tup [(true, [Seg.lit (Value.bool false), Seg.lit (Value.slice none 0 0), Seg.lit (Value.slice none 0 0)]), (false, [Seg.lit (Value.int IntKind.i64 (6 : Int))])]) Tryz.func56 rfl (by kernel_rfl) ⟨decide_eq_false (by omega), rfl, h1, h2, by omega, Nat.le_trans a1 (by omega), ne_no h, Nat.le_trans a2 (by omega), ne_no h', decide_eq_true h3, trivial⟩)

theorem pp6 (s : ByteArray) (_hs : s.size ≤ 4000) (hx : Lib.indexByte s.data.toList 47 ≠ -1) (h : ipe (above s) = 0) (h' : pre (below s) = 0) (h3 : nP (below s) ≠ 1) (h4 : ¬ (nP (below s) ≠ 0 ∧ Nat.gcd (zP (above s)).natAbs (nP (below s)) = 1)) : Cp 56 [.l (.string s)] (noQ 6) := by
  obtain ⟨h1, h2⟩ := slash_lt hx
  have a1 := above_size s
  have a2 := below_size s
  have a3 := zP_len (above s)
  have a4 := nP_len (below s)
  exact cp_of (wk2 tTx_ok tTxN_ok (ds := [some false, some true, none, none, some false, none, none, some false, some false, none, some false, none, none]) (fuel := 40) (obs := [decide ((↑(ByteArray.size s) : Int) > (4096 : Int)) = false, ({ data := #[(47 : UInt8)] } : ByteArray) = ({ data := #[(47 : UInt8)] } : ByteArray), Lib.indexByte (ByteArray.data s).1 (47 : UInt8) = (↑(Int.toNat (Lib.indexByte (ByteArray.data s).1 (47 : UInt8))) : Int), Int.toNat (Lib.indexByte (ByteArray.data s).1 (47 : UInt8)) + 1 ≤ ByteArray.size s, ByteArray.size s ≤ 8192, ByteArray.size (ByteArray.extract s 0 (Int.toNat (Lib.indexByte (ByteArray.data s).1 (47 : UInt8)))) ≤ 4096, (match ipe (ByteArray.extract s 0 (Int.toNat (Lib.indexByte (ByteArray.data s).1 (47 : UInt8)))) == (0 : Int) with | true => false | false => true) = false, ByteArray.size (ByteArray.extract s (Int.toNat (Lib.indexByte (ByteArray.data s).1 (47 : UInt8)) + 1) (ByteArray.size s)) ≤ 4096, (match pre (ByteArray.extract s (Int.toNat (Lib.indexByte (ByteArray.data s).1 (47 : UInt8)) + 1) (ByteArray.size s)) == (0 : Int) with | true => false | false => true) = false, decide (nP (ByteArray.extract s (Int.toNat (Lib.indexByte (ByteArray.data s).1 (47 : UInt8)) + 1) (ByteArray.size s)) = 1) = false, nz (zP (ByteArray.extract s 0 (Int.toNat (Lib.indexByte (ByteArray.data s).1 (47 : UInt8))))) ≤ 131071, List.length (dg (nP (ByteArray.extract s (Int.toNat (Lib.indexByte (ByteArray.data s).1 (47 : UInt8)) + 1) (ByteArray.size s)))) ≤ 131071, decide (nP (ByteArray.extract s (Int.toNat (Lib.indexByte (ByteArray.data s).1 (47 : UInt8)) + 1) (ByteArray.size s)) ≠ 0 ∧ Nat.gcd (Int.natAbs (zP (ByteArray.extract s 0 (Int.toNat (Lib.indexByte (ByteArray.data s).1 (47 : UInt8)))))) (nP (ByteArray.extract s (Int.toNat (Lib.indexByte (ByteArray.data s).1 (47 : UInt8)) + 1) (ByteArray.size s))) = 1) = false]) (r := AV.tup [(true, [Seg.lit (Value.bool false), Seg.lit (Value.slice none 0 0), Seg.lit (Value.slice none 0 0)]), (false, [Seg.lit (Value.int IntKind.i64 (6 : Int))])]) Tryz.func56 rfl (by kernel_rfl) ⟨decide_eq_false (by omega), rfl, h1, h2, by omega, Nat.le_trans a1 (by omega), ne_no h, Nat.le_trans a2 (by omega), ne_no h', decide_eq_false h3, Nat.le_trans a3 (Nat.le_trans a1 (by omega)), Nat.le_trans a4 (Nat.le_trans a2 (by omega)), decide_eq_false h4, trivial⟩)

theorem pp7 (s : ByteArray) (_hs : s.size ≤ 4000) (hx : Lib.indexByte s.data.toList 47 ≠ -1) (h : ipe (above s) = 0) (h' : pre (below s) = 0) (h3 : nP (below s) ≠ 1) (h4 : nP (below s) ≠ 0 ∧ Nat.gcd (zP (above s)).natAbs (nP (below s)) = 1) : Cp 56 [.l (.string s)] (okQ (mkRat (zP (above s)) (nP (below s)))) := by
  obtain ⟨h1, h2⟩ := slash_lt hx
  have a1 := above_size s
  have a2 := below_size s
  have a3 := zP_len (above s)
  have a4 := nP_len (below s)
  obtain ⟨e1, e2⟩ := mk_low h4.1 h4.2
  exact cp_of (cn_res (wk2 tTx_ok tTxN_ok (ds := [some false, some true, none, none, some false, none, none, some false, some false, none, some true, none, none]) (fuel := 40) (obs := [decide ((↑(ByteArray.size s) : Int) > (4096 : Int)) = false, ({ data := #[(47 : UInt8)] } : ByteArray) = ({ data := #[(47 : UInt8)] } : ByteArray), Lib.indexByte (ByteArray.data s).1 (47 : UInt8) = (↑(Int.toNat (Lib.indexByte (ByteArray.data s).1 (47 : UInt8))) : Int), Int.toNat (Lib.indexByte (ByteArray.data s).1 (47 : UInt8)) + 1 ≤ ByteArray.size s, ByteArray.size s ≤ 8192, ByteArray.size (ByteArray.extract s 0 (Int.toNat (Lib.indexByte (ByteArray.data s).1 (47 : UInt8)))) ≤ 4096, (match ipe (ByteArray.extract s 0 (Int.toNat (Lib.indexByte (ByteArray.data s).1 (47 : UInt8)))) == (0 : Int) with | true => false | false => true) = false, ByteArray.size (ByteArray.extract s (Int.toNat (Lib.indexByte (ByteArray.data s).1 (47 : UInt8)) + 1) (ByteArray.size s)) ≤ 4096, (match pre (ByteArray.extract s (Int.toNat (Lib.indexByte (ByteArray.data s).1 (47 : UInt8)) + 1) (ByteArray.size s)) == (0 : Int) with | true => false | false => true) = false, decide (nP (ByteArray.extract s (Int.toNat (Lib.indexByte (ByteArray.data s).1 (47 : UInt8)) + 1) (ByteArray.size s)) = 1) = false, nz (zP (ByteArray.extract s 0 (Int.toNat (Lib.indexByte (ByteArray.data s).1 (47 : UInt8))))) ≤ 131071, List.length (dg (nP (ByteArray.extract s (Int.toNat (Lib.indexByte (ByteArray.data s).1 (47 : UInt8)) + 1) (ByteArray.size s)))) ≤ 131071, decide (nP (ByteArray.extract s (Int.toNat (Lib.indexByte (ByteArray.data s).1 (47 : UInt8)) + 1) (ByteArray.size s)) ≠ 0 ∧ Nat.gcd (Int.natAbs (zP (ByteArray.extract s 0 (Int.toNat (Lib.indexByte (ByteArray.data s).1 (47 : UInt8)))))) (nP (ByteArray.extract s (Int.toNat (Lib.indexByte (ByteArray.data s).1 (47 : UInt8)) + 1) (ByteArray.size s))) = 1) = true]) (r := AV.tup [(true, [Seg.sem (Kn.int (zP (ByteArray.extract s 0 (Int.toNat (Lib.indexByte (ByteArray.data s).1 (47 : UInt8)))))), Seg.sem (Kn.nat (nP (ByteArray.extract s (Int.toNat (Lib.indexByte (ByteArray.data s).1 (47 : UInt8)) + 1) (ByteArray.size s))))]), (false, [Seg.lit (Value.int IntKind.i64 (0 : Int))])]) Tryz.func56 rfl (by kernel_rfl) ⟨decide_eq_false (by omega), rfl, h1, h2, by omega, Nat.le_trans a1 (by omega), ne_no h, Nat.le_trans a2 (by omega), ne_no h', decide_eq_false h3, Nat.le_trans a3 (Nat.le_trans a1 (by omega)), Nat.le_trans a4 (Nat.le_trans a2 (by omega)), decide_eq_true h4, trivial⟩) (okq_join e1 e2))

open Classical in

noncomputable def pRes (s : ByteArray) : Option Rat :=
  if Lib.indexByte s.data.toList 47 = -1 then (if ipe s = 0 then some (Rat.divInt (zP s) 1) else none)
  else if ipe (above s) = 0 ∧ pre (below s) = 0 ∧ nP (below s) ≠ 1 ∧ (nP (below s) ≠ 0 ∧ Nat.gcd (zP (above s)).natAbs (nP (below s)) = 1) then some (mkRat (zP (above s)) (nP (below s))) else none

theorem pparse_ok (s : ByteArray) (q : Rat) (hs : s.size ≤ 4000) (h : pRes s = some q) : Cp 56 [.l (.string s)] (okQ q) := by
  unfold pRes at h
  split at h
  · rename_i hx
    split at h
    · rename_i h1
      injection h with h
      subst h
      exact pp1 s hs hx h1
    · cases h
  · rename_i hx
    split at h
    · rename_i h1
      injection h with h
      subst h
      exact pp7 s hs hx h1.1 h1.2.1 h1.2.2.1 h1.2.2.2
    · cases h

theorem pparse_no (s : ByteArray) (hs : s.size ≤ 4000) (h : pRes s = none) : Cp 56 [.l (.string s)] (noQ 6) := by
  unfold pRes at h
  split at h
  · rename_i hx
    split at h
    · cases h
    · rename_i h1
      exact pp2 s hs hx (ipe_no h1)
  · rename_i hx
    split at h
    · cases h
    · rename_i h1
      by_cases g1 : ipe (above s) = 0
      · by_cases g2 : pre (below s) = 0
        · by_cases g3 : nP (below s) = 1
          · exact pp5 s hs hx g1 g2 g3
          · exact pp6 s hs hx g1 g2 g3 fun g4 => h1 ⟨g1, g2, g3, g4⟩
        · exact pp4 s hs hx g1 (pre_no g2)
      · exact pp3 s hs hx (ipe_no g1)

end Go.Proofs.YtagciepnhjbopaaGreatDoor

namespace Go.Proofs.YtagciepnhjbopaaGreatDoor
open Go.RowKit En

theorem rifmt_e {w : World} {z : Int} {u : Value} (h : VZ w z u) (hl : nz z ≤ 65535) (hz : (txt (fmt z.natAbs)).size ≤ 4096) : Calls Tryz.prog 140 #[u] w (fun e w' => e = .returned (.string (itx (decide (z < 0)) z.natAbs)) ∧ Fr [] w w') := by
  obtain ⟨p, c, rfl, l⟩ := h
  have h1 := rformatI_any (decide (z < 0)) (decide (z < 0)) p _ c _ w l (by unfold nz at hl; omega) (by rw [val_dg, iv_eq rfl rfl]) (by rw [val_dg]; exact hz)
  rw [val_dg] at h1
  exact h1

theorem rnfmt_e {w : World} {x : Nat} {u : Value} (h : VD w x u) (_hx : (dg x).length ≤ 65535) : Calls Tryz.prog 141 #[u] w (fun e w' => e = .returned (.string (itx false x)) ∧ Fr [] w w') := by
  obtain ⟨p, c, rfl, l⟩ := h
  have h1 := rformat_any p _ c _ w l (by omega)
  rw [val_dg] at h1
  exact h1

abbrev k_rifmt : List Pa → Option (List Prop × Av) := fun | [.cz a] => some ([nz a ≤ 65535, (txt (fmt a.natAbs)).size ≤ 4096], .val false [.lit (.string (itx (decide (a < 0)) a.natAbs))]) | _ => none

theorem e_rifmt (args : List Av) (obs : List Prop) (r : Av) : ent [.cz] k_rifmt args = some (obs, r) → (∀ p ∈ obs, p) → Cn 140 args r :=
  ent_ok (fun ps obs r h ho => by
    unfold k_rifmt at h
    split at h
    case h_2 => cases h
    rename_i a
    cases h
    refine cp_leaf ⟨_, Tryz.func140, rfl, rfl⟩ fun w vs ht hv => ?_
    obtain ⟨v0, _, rfl, h0, rfl⟩ := hv
    exact (rifmt_e h0 (ho _ (by simp)) (ho _ (by simp))).mono fun _ _ h => str_sv h) args obs r

abbrev k_rnfmt : List Pa → Option (List Prop × Av) := fun | [.cd x] => some ([(dg x).length ≤ 65535], .val false [.lit (.string (itx false x))]) | _ => none

theorem e_rnfmt (args : List Av) (obs : List Prop) (r : Av) : ent [.cd] k_rnfmt args = some (obs, r) → (∀ p ∈ obs, p) → Cn 141 args r :=
  ent_ok (fun ps obs r h ho => by
    unfold k_rnfmt at h
    split at h
    case h_2 => cases h
    rename_i a
    cases h
    refine cp_leaf ⟨_, Tryz.func141, rfl, rfl⟩ fun w vs ht hv => ?_
    obtain ⟨v0, _, rfl, h0, rfl⟩ := hv
    exact (rnfmt_e h0 (ho _ (by simp))).mono fun _ _ h => str_sv h) args obs r

noncomputable def tF0 : List Ent := [(26, ent [.r] k_qtrim), (140, ent [.cz] k_rifmt), (141, ent [.cd] k_rnfmt)]

theorem tF0_ok : EntsOk tF0 := ⟨e_qtrim, e_rifmt, e_rnfmt, trivial⟩

theorem qtx_r (q : Rat) (h : q.den ≠ 1) : itx (decide (q.num < 0)) q.num.natAbs ++ (({ data := #[47] } : ByteArray) ++ itx false q.den) = qtx q := by
  unfold qtx
  rw [if_neg h, ByteArray.append_assoc]

theorem dg_1 : dg 1 = [1] := by decide +kernel

theorem eq_no {n : Nat} (h : n = 1) : (match ((n : Int) == (1 : Int)) with | true => false | false => true) = false := by subst h; rfl

theorem eq_yes {n : Nat} (_h : n ≠ 1) : (match ((n : Int) == (1 : Int)) with | true => false | false => true) = true := by
  have : ((n : Int) == (1 : Int)) = false := by rw [beq_eq_false_iff_ne]; omega
  rw [this]

theorem dg_len1 {d : Nat} (h : (dg d).length = 1) : gd (dg d) 0 = d := by
  match hl : dg d, h with
  | [a], _ =>
    have h1 := val_dg d
    rw [hl] at h1
    rw [← h1]
    show a = a + 4294967296 * 0
    omega

theorem rfmt (L : Nat) (q : Rat) (_hL : L ≤ 65535) (hn : nz q.num ≤ 65535) (hd : (dg q.den).length ≤ 65535) (tn : (txt (fmt q.num.natAbs)).size ≤ 4096) (_td : (txt (fmt q.den)).size ≤ 4096) : Cp 59 [.r L q] (.val false [.lit (.string (qtx q))]) := by
  have h1 := itx_size (decide (q.num < 0)) q.num.natAbs
  have h2 := itx_size false q.den
  have c1 : catOk ({ data := #[47] } : ByteArray) (itx false q.den) := cat_le (by decide) (by omega)
  have c2 : catOk (itx (decide (q.num < 0)) q.num.natAbs) (({ data := #[47] } : ByteArray) ++ itx false q.den) := cat_le (by omega) (by rw [ByteArray.size_append]; have h3 : ({ data := #[47] } : ByteArray).size = 1 := rfl; omega)
  by_cases h : q.den = 1
  · have e1 : qtx q = itx (decide (q.num < 0)) q.num.natAbs := by unfold qtx; rw [if_pos h]
    have e2 : (dg q.den).length = 1 := by rw [h, dg_1]; rfl
    have e3 := dg_len1 e2
    rw [e1]
    exact cp_of (wk tF0_ok (ds := [some false, none, some false, none]) (fuel := 40) (obs := [L ≤ 262143, nz (Rat.num q) ≤ 65535, ByteArray.size (txt (fmt (Int.natAbs (Rat.num q)))) ≤ 4096, (match (↑(List.length (dg (Rat.den q))) : Int) == (1 : Int) with | true => false | false => true) = false, (0 : Int) ≤ (0 : Int), (0 : Int) < (↑(List.length (dg (Rat.den q))) : Int), (match (↑(gd (dg (Rat.den q)) 0) : Int) == (1 : Int) with | true => false | false => true) = false]) (r := AV.val false [Seg.lit (Value.string (itx (decide (Rat.num q < (0 : Int))) (Int.natAbs (Rat.num q))))]) Tryz.func59 rfl (by kernel_rfl) ⟨by omega, hn, tn, eq_no e2, by decide, by omega, eq_no (by omega), trivial⟩)
  · rw [← qtx_r q h]
    by_cases h4 : (dg q.den).length = 1
    · have e3 := dg_len1 h4
      exact cp_of (wk tF0_ok (ds := [some false, none, some true, none]) (fuel := 40) (obs := [L ≤ 262143, nz (Rat.num q) ≤ 65535, ByteArray.size (txt (fmt (Int.natAbs (Rat.num q)))) ≤ 4096, (match (↑(List.length (dg (Rat.den q))) : Int) == (1 : Int) with | true => false | false => true) = false, (0 : Int) ≤ (0 : Int), (0 : Int) < (↑(List.length (dg (Rat.den q))) : Int), (match (↑(gd (dg (Rat.den q)) 0) : Int) == (1 : Int) with | true => false | false => true) = true, List.length (dg (Rat.den q)) ≤ 65535, catOk ({ data := #[(47 : UInt8)] } : ByteArray) (itx false (Rat.den q)), catOk (itx (decide (Rat.num q < (0 : Int))) (Int.natAbs (Rat.num q))) (({ data := #[(47 : UInt8)] } : ByteArray) ++ itx false (Rat.den q))]) (r := AV.val false [Seg.lit (Value.string (itx (decide (Rat.num q < (0 : Int))) (Int.natAbs (Rat.num q)) ++ (({ data := #[(47 : UInt8)] } : ByteArray) ++ itx false (Rat.den q))))]) Tryz.func59 rfl (by kernel_rfl) ⟨by omega, hn, tn, eq_no h4, by decide, by omega, eq_yes (by omega), hd, c1, c2, trivial⟩)
    · exact cp_of (wk tF0_ok (ds := [some true, none, none]) (fuel := 40) (obs := [L ≤ 262143, nz (Rat.num q) ≤ 65535, ByteArray.size (txt (fmt (Int.natAbs (Rat.num q)))) ≤ 4096, (match (↑(List.length (dg (Rat.den q))) : Int) == (1 : Int) with | true => false | false => true) = true, List.length (dg (Rat.den q)) ≤ 65535, catOk ({ data := #[(47 : UInt8)] } : ByteArray) (itx false (Rat.den q)), catOk (itx (decide (Rat.num q < (0 : Int))) (Int.natAbs (Rat.num q))) (({ data := #[(47 : UInt8)] } : ByteArray) ++ itx false (Rat.den q))]) (r := AV.val false [Seg.lit (Value.string (itx (decide (Rat.num q < (0 : Int))) (Int.natAbs (Rat.num q)) ++ (({ data := #[(47 : UInt8)] } : ByteArray) ++ itx false (Rat.den q))))]) Tryz.func59 rfl (by kernel_rfl) ⟨by omega, hn, tn, eq_yes h4, hd, c1, c2, trivial⟩)

end Go.Proofs.YtagciepnhjbopaaGreatDoor
