/- What the statements of this claim stand on: of Ref3, Ref4, Ref5, what they name -/
import Derived.Laws.Concat
import Derived.Test.YtagciepnhjbopaaGreatDoorT10

namespace Go.Proofs.YtagciepnhjbopaaGreatDoor
open Go.RowKit

set_option maxRecDepth 100000 in
set_option maxHeartbeats 1000000 in
theorem rsmall_any (p : Option Addr) (n c d : Nat) (xs : List Nat) (w : World) (h : Sl w p n c xs) (hd : 0 < d) (_hd2 : d < 4294967296) (_hn : n ≤ 1099511627776) :
    Calls Tryz.prog 184 #[.slice p n c, .int .u32 d] w fun e w' => ∃ q cq, e = .returned (.tuple #[.slice q (dg (val xs / d)).length cq, .int .u32 (val xs % d : Nat)]) ∧
      Ow w' w.heap.size q (dg (val xs / d)).length cq (dg (val xs / d)) ∧ Fr [] w w' := by
  obtain ⟨i0, hi, hz0, hz1, hz2⟩ := info_parts Tryz.infoU
  have hzl := h.len
  have hm63 : n ≤ 9223372036854775807 := by omega
  go_enter Tryz.func184, Tryz.ntmps184
  go_wp2_with (at_make; refine wpList_make_full _ rfl _ _ 22 rfl 0 52 i0 (.int .u32 0) 1 Tryz.underlying22 hi hz0 hz1 _ _ _ _ n rfl rfl (by simp) (by simp) (by rw [hz2]; omega) (by unfold maxLen; omega) (Nat.zero_le _) ?_)
  intro w0 hown hgrow
  have hB0 := blk_of_made hown
  have hf0 : Fr [] w w0 := (Fr.refl _ _).grown hgrow (by simp)
  clear hown hgrow
  generalize hg : w.heap.size = g at *
  have HG := Lib.hid hg
  clear hg
  obtain ⟨L, hL⟩ : ∃ L, L = (List.replicate n 0).map dv := ⟨_, rfl⟩
  rw [← hL] at hB0
  have hLl : L.length = n := by rw [hL]; simp
  clear hL
  go_wp2
  go_loopw [7, 8] (fun s t wr => ∃ (k R : Nat) (Q : List Nat), k ≤ n ∧ s = .int .u64 R ∧ t = .int .i64 ((k : Int) - 1) ∧ R < d ∧ Q.length = n - k ∧ Dg Q ∧ val (xs.drop k) = val Q * d + R ∧ Blk wr g (spl L k Q) ∧ Fr [] w wr) (fun _ t _ => (intOf t + 1).toNat)
  case atStart => exact ⟨n, 0, [], Nat.le_refl _, rfl, rfl, hd, by simp, Dg.nil, by rw [List.drop_of_length_le (by omega)]; simp [val], by rw [spl_nil]; exact hB0, hf0⟩
  case round =>
    obtain ⟨k, R, Q, hk, rfl, rfl, hR, hQ, hQd, hv, hB, hf⟩ := hrel
    have HQ := Lib.hid hQ
    have Hv := Lib.hid hv
    clear hQ hv hB0 hf0
    cases k with
    | zero =>
      rw [show (((0 : Nat) : Int) - 1) = -1 from rfl]
      have hv := Hv.out
      rw [List.drop_zero] at hv
      have e1 : val xs % d = R := by rw [hv, Nat.mul_comm, Nat.mul_add_mod, Nat.mod_eq_of_lt hR]
      have e2 : val Q = val xs / d := by rw [hv, Nat.mul_comm, Nat.mul_add_div hd, Nat.div_eq_of_lt hR]; rfl
      rw [Nat.sub_zero] at HQ
      have hspl : spl L 0 Q = Q.map dv := by
        unfold spl
        rw [HQ.out, List.drop_of_length_le (by omega)]
        simp
      rw [hspl] at hB
      have HO := Ow.of_blk (base := g) hB (Nat.le_refl _) (by rw [HQ.out]; omega) hQd
      rw [HQ.out] at HO
      have HO2 := Lib.hid HO
      have H1 := Lib.hid e1
      have H2 := Lib.hid e2
      have eR : (R : Int) % 4294967296 = R := by omega
      clear hv e1 e2 HO hB hspl
      go_wp2_with fail
      refine (rcut_any _ _ _ _ _ HO2.out.sl (by omega)).mono ?_
      rw [H2.out]
      rintro e w2 ⟨p2, c2, rfl, ho2, hf2⟩
      go_wp2_with fail
      go_ret2
      have hs := hf.size
      have hg := HG.out
      rw [H1.out]
      exact ⟨p2, c2, rfl, ho2.mono (by omega), hf.trans hf2 (by simp)⟩
    | succ k =>
      rw [show (((k + 1 : Nat) : Int) - 1) = k from by omega]
      obtain ⟨b1, o1, rfl, _, m1⟩ := (h.kept hf).rd.open (by omega)
      have c2 := m1 k (by omega)
      have c3 := hB.free k
      have d2 := h.dig.at k
      have HT := Lib.hid (divd_step (show k < xs.length by omega) Hv.out)
      have HD := Lib.hid (div_small hR d2)
      have HW := Lib.hid (hB.set k)
      have HS : Hid (∀ v, (spl L (k + 1) Q).set k (dv v) = spl L k (v :: Q)) := fun v => spl_down (by rw [HQ.out]; omega) v
      have hor := or64i ((R : Int) * 4294967296) (gd xs k : Nat) R 32 (by omega) (by omega) (by omega) (by omega)
      have hw1 : IntKind.u64.wrap ((R : Int) * 4294967296) = (R : Int) * 4294967296 := wrap_u64_lt (by omega) (by omega)
      have c4 : ∃ v, wr.cell? ⟨g, k, none⟩ = some v := ⟨_, hB.cell (by rw [spl_at (by rw [HQ.out]; omega), if_pos (by omega), List.getElem?_eq_getElem (by omega)])⟩
      obtain ⟨v4, c4⟩ := c4
      generalize gd xs k = x at *
      clear m1
      go_wp2
      go_roundw
      case rel =>
        have hD := HD.out
        have e0 : (R : Int) * 4294967296 + x = ((R * 4294967296 + x : Nat) : Int) := by omega
        have e1 : ((R : Int) * 4294967296 + x) / d = (((R * 4294967296 + x) / d : Nat) : Int) := by rw [e0]; exact (Int.natCast_ediv _ _).symm
        have e2 : ((R : Int) * 4294967296 + x) % d = (((R * 4294967296 + x) % d : Nat) : Int) := by rw [e0]; exact (Int.natCast_emod _ _).symm
        have ht := HT.out
        have hml : (R * 4294967296 + x) % d < d := Nat.mod_lt _ hd
        rw [e1, e2]
        clear HT e0 e1 e2 HD
        generalize (R * 4294967296 + x) / d = qq at *
        generalize (R * 4294967296 + x) % d = rr at *
        have e3 : (qq : Int) % 4294967296 = qq := by omega
        rw [e3]
        refine ⟨k, rr, qq :: Q, by omega, rfl, rfl, hml, by simp [HQ.out]; omega, Dg.cons hD hQd, ht, ?_, hf.setCell _ _ (by have := HG.out; simp; omega)⟩
        rw [← HS.out]
        exact HW.out _
      case measure => simp [intOf]

theorem dB_more {m : Nat} (h : m ≠ 0) {V : Nat} {S : List Nat} (hv : dB V = dB m ++ S) : dB V = dB (m / 10) ++ (m % 10 :: S) := by
  rw [hv, dB_pos h]
  simp

theorem txt_append (S T : List Nat) : txt (S ++ T) = txt S ++ txt T := by
  unfold txt
  rw [ByteArray.mk_append_mk]
  simp

theorem txt_size (S : List Nat) : (txt S).size = S.length := by simp [txt, ByteArray.size]

theorem byte_string (w : World) (d : Nat) (hd : d < 10) : (convert 141 9 (.slice (some ⟨w.heap.size, 0, none⟩) 1 1)).run Tryz.prog (w.alloc (.cells #[bv (48 + d)] 5)) = .ok (.string (txt [d])) (w.alloc (.cells #[bv (48 + d)] 5)) := by
  have h : Fd (w.alloc (.cells #[bv (48 + d)] 5)) w.heap.size 1 [d] := ⟨by simp, heap_alloc_new w _⟩
  exact h.string (Z := []) (S' := [d]) rfl (Dd.cons hd Dd.nil) rfl rfl

set_option maxRecDepth 100000 in
set_option maxHeartbeats 4000000 in
theorem rformat_any (p : Option Addr) (n c : Nat) (xs : List Nat) (w : World) (h : Sl w p n c xs) (_hn : n ≤ 1048576) :
    Calls Tryz.prog 141 #[.slice p n c] w fun e w' => e = .returned (.string (txt (fmt (val xs)))) ∧ Fr [] w w' := by
  have hLn := dg_len_val h.dig
  rw [h.len] at hLn
  have hlt := dg_lt (val xs)
  go_enter Tryz.func141, Tryz.ntmps141
  go_wp2_with fail
  refine (rcut_any _ _ _ _ _ h (by omega)).mono ?_
  rintro e w1 ⟨p1, c1, rfl, ho1, hf1⟩
  by_cases h0 : (val xs) = 0
  · have e1 : (dg (val xs)).length = 0 := by rw [h0, dg_zero]; rfl
    have e2 : fmt (val xs) = [0] := by unfold fmt; rw [if_pos h0]
    have E2 := Lib.hid e2
    rw [e1]
    clear e1 e2 h0 ho1
    go_wp2
    go_ret
    rw [E2.out]
    exact ⟨rfl, hf1⟩
  · have e1 : (dg (val xs)).length ≠ 0 := fun e => h0 (dg_nil.1 (List.eq_nil_of_length_eq_zero e))
    have e2 : fmt (val xs) = dB (val xs) := by unfold fmt; rw [if_neg h0]
    have E2 := Lib.hid e2
    have hcap : (dB (val xs)).length ≤ 10 * n + 1 := by
      have h1 := dB_len_pow (val xs) h0
      have h2 := dec_len h1 hlt
      omega
    have hne : (((dg (val xs)).length : Int) == 0) = false := beq_eq_false_iff_ne.2 (by omega)
    clear e2 h hlt
    go_wp2
    go_loopg [0, 3] (val xs) (fun k s t wr => ∃ (S : List Nat) (pa : Option Addr) (ca : Nat), k ≤ (val xs) ∧ s = .slice pa (dg k).length ca ∧ t = .string (txt S) ∧ dB (val xs) = dB k ++ S ∧ Sl wr pa (dg k).length ca (dg k) ∧ Fr [] w wr)
    case atStart => exact ⟨[], p1, c1, Nat.le_refl _, rfl, rfl, by simp, ho1.sl, hf1⟩
    case round =>
      obtain ⟨S, pa, ca, hkV, rfl, rfl, hv, hs, hf⟩ := hrel
      have Hv := Lib.hid hv
      have hSl : S.length ≤ 10 * n + 1 := by
        have := congrArg List.length hv
        rw [List.length_append] at this
        omega
      clear hv ho1 e1
      by_cases hk : gk = 0
      · subst hk
        have hz : (dg 0).length = 0 := by rw [dg_zero]; rfl
        have hS : S = dB (val xs) := by
          have := Hv.out
          rw [dB_zero] at this
          exact this.symm
        have HS := Lib.hid hS
        rw [hz]
        clear hz hS hs
        go_wp2
        go_ret
        rw [E2.out, HS.out]
        exact ⟨rfl, hf⟩
      · have hlz : (dg gk).length ≠ 0 := fun e => hk (dg_nil.1 (List.eq_nil_of_length_eq_zero e))
        have hkl : (dg gk).length ≤ n := by
          have := dg_len_mono hkV
          omega
        have hdec : gk / 1000000000 < gk := Nat.div_lt_self (by omega) (by decide)
        have hGl : gk % 1000000000 < 10 ^ 9 := Nat.mod_lt _ (by decide)
        have hsum : dB (val xs) = dB (gk / 1000000000 * 10 ^ 9 + gk % 1000000000) ++ S := by
          rw [Hv.out, show gk / 1000000000 * 10 ^ 9 + gk % 1000000000 = gk by have := Nat.div_add_mod gk 1000000000; omega]
        have Hsum := Lib.hid hsum
        clear hsum
        go_wp2_with fail
        refine (rsmall_any _ _ _ 1000000000 _ _ hs (by decide) (by decide) (by omega)).mono ?_
        rw [val_dg]
        rintro e w2 ⟨pq, cq, rfl, hoq, hf2⟩
        have hsq := hoq.sl
        have hfw := hf.trans hf2 (by simp)
        clear hoq hs hf hf2
        generalize gk % 1000000000 = G at *
        generalize gk / 1000000000 = R at *
        go_wp2
        go_loopw [5, 6, 7] (fun s t u wr => ∃ (j G' : Nat) (P : List Nat), j ≤ 9 ∧ s = .int .u32 G' ∧ t = .string (txt P) ∧ u = .int .i64 ((9 - j : Nat) : Int) ∧ G' < 10 ^ j ∧ dB (val xs) = dB (R * 10 ^ j + G') ++ (P ++ S) ∧ Fr [] w2 wr) (fun _ _ u _ => (9 - intOf u).toNat)
        case atStart => exact ⟨9, G, [], Nat.le_refl _, rfl, rfl, rfl, hGl, Hsum.out, Fr.refl _ _⟩
        case round =>
          obtain ⟨j, G', P, hj, rfl, rfl, rfl, hG', hv', hf'⟩ := hrel
          have HG := Lib.hid hG'
          have HV := Lib.hid hv'
          have hPl : P.length + S.length ≤ 10 * n + 1 := by
            have := congrArg List.length hv'
            rw [List.length_append, List.length_append] at this
            omega
          have hadd : (Op.stringOp .add (txt P) (txt S)).run Tryz.prog wr = .ok (.string (txt (P ++ S))) wr := by
            rw [txt_append]
            exact run_string_add_sum wr _ _ (by rw [txt_size, txt_size]; omega)
          clear hG' hv'
          cases j with
          | zero =>
            have hG0 : G' = 0 := by have := HG.out; simp at this; exact this
            subst hG0
            go_wp2
            go_roundg R
            case rel => exact ⟨P ++ S, pq, cq, by omega, rfl, rfl, by have := HV.out; rwa [Nat.pow_zero, Nat.mul_one, Nat.add_zero] at this, hsq.kept hf', hfw.trans hf' (by simp)⟩
            case measure => exact hdec
          | succ j =>
            by_cases hm : R * 10 ^ (j + 1) + G' = 0
            · have hG0 : G' = 0 := by omega
              have hR0 : R = 0 := by
                have h1 : R * 1 ≤ R * 10 ^ (j + 1) := Nat.mul_le_mul_left _ (Nat.pow_pos (by decide))
                omega
              subst hG0
              subst hR0
              have hz : (dg 0).length = 0 := by rw [dg_zero]; rfl
              have hz9 : (9 - (j + 1) : Nat) < 9 := by omega
              go_wp2
              go_roundg 0
              case rel => exact ⟨P ++ S, pq, cq, by omega, by rw [hz], rfl, by have := HV.out; rwa [Nat.zero_mul, Nat.zero_add] at this, hsq.kept hf', hfw.trans hf' (by simp)⟩
              case measure => exact hdec
            · have hcase : G' = 0 → (dg R).length ≠ 0 := by
                intro e1 e2
                have h1 := dg_nil.1 (List.eq_nil_of_length_eq_zero e2)
                subst h1
                subst e1
                simp at hm
              have hm10 : (R * 10 ^ (j + 1) + G') / 10 = R * 10 ^ j + G' / 10 ∧ (R * 10 ^ (j + 1) + G') % 10 = G' % 10 := by
                have e : R * 10 ^ (j + 1) = 10 * (R * 10 ^ j) := by rw [Nat.pow_succ]; grind
                rw [e]
                omega
              have HN : Hid (dB (val xs) = dB (R * 10 ^ j + G' / 10) ++ (G' % 10 :: P ++ S)) := by
                have h1 := dB_more hm HV.out
                rw [hm10.1, hm10.2] at h1
                exact h1
              have HG2 : Hid (G' / 10 < 10 ^ j) := by
                show _ < _
                have := HG.out
                rw [Nat.pow_succ] at this
                omega
              have hGb : G' < 4294967296 := by
                have := HG.out
                have h9 : (10 : Nat) ^ (j + 1) ≤ 10 ^ 9 := Nat.pow_le_pow_right (by decide) hj
                omega
              have hd10 : G' % 10 < 10 := Nat.mod_lt _ (by decide)
              have hconv := byte_string wr (G' % 10) hd10
              have hbv : bv (48 + G' % 10) = .int .u8 (48 + (G' : Int) % 10) := by
                show Value.int .u8 _ = _
                congr 1
              rw [hbv] at hconv
              have hadd2 : ∀ w : World, (Op.stringOp .add (txt [G' % 10]) (txt P)).run Tryz.prog w = .ok (.string (txt (G' % 10 :: P))) w := fun w => by
                have e : txt (G' % 10 :: P) = txt [G' % 10] ++ txt P := by rw [← txt_append]; rfl
                rw [e]
                exact run_string_add_sum w _ _ (by rw [txt_size, txt_size]; simp; omega)
              have hz9 : (9 - (j + 1) : Nat) < 9 := by omega
              clear hadd hm10 hm hbv
              by_cases hG0 : G' = 0
              · have hRl := hcase hG0
                have hb1 : decide (0 < G') = false := by simp; omega
                have hb2 : decide ((0 : Int) < (G' : Int)) = false := by simp; omega
                clear hcase hG0
                go_wp2
                go_roundw
                case rel =>
                  have e1 : (G' : Int) / 10 = ((G' / 10 : Nat) : Int) := by omega
                  have e3 : ((8 - j : Nat) : Int) + 1 = ((9 - j : Nat) : Int) := by omega
                  rw [e1, e3]
                  exact ⟨j, G' / 10, G' % 10 :: P, by omega, rfl, rfl, rfl, HG2.out, HN.out, hf'.alloc _⟩
                case measure => simp [intOf]; omega
              · have hGp : 0 < G' := by omega
                clear hcase
                go_wp2
                go_roundw
                case rel =>
                  have e1 : (G' : Int) / 10 = ((G' / 10 : Nat) : Int) := by omega
                  have e3 : ((8 - j : Nat) : Int) + 1 = ((9 - j : Nat) : Int) := by omega
                  rw [e1, e3]
                  exact ⟨j, G' / 10, G' % 10 :: P, by omega, rfl, rfl, rfl, HG2.out, HN.out, hf'.alloc _⟩
                case measure => simp [intOf]; omega

end Go.Proofs.YtagciepnhjbopaaGreatDoor

namespace Go.Proofs.YtagciepnhjbopaaGreatDoor
open Go.RowKit

def nmb (xs : List Nat) : Bool := decide (xs.length = 0 ∨ gd xs (xs.length - 1) ≠ 0)

set_option maxRecDepth 100000 in
set_option maxHeartbeats 400000 in
theorem isnormal_any (p : Option Addr) (n c : Nat) (xs : List Nat) (w : World) (h : Sl w p n c xs) (_hn : n ≤ 1099511627776) :
    Calls Tryz.prog 106 #[.slice p n c] w fun e w' => e = .returned (.bool (nmb xs)) ∧ w = w' := by
  have hx := h.len
  by_cases h0 : n = 0
  · have e : nmb xs = true := decide_eq_true (Or.inl (by omega))
    subst h0
    rw [e]
    go_enter Tryz.func106, Tryz.ntmps106
    go_wp2
    go_ret
    exact ⟨rfl, rfl⟩
  · obtain ⟨b, off, rfl, _, hcell⟩ := h.rd.open (by omega)
    obtain ⟨k, rfl⟩ : ∃ k, n = k + 1 := ⟨n - 1, by omega⟩
    have hck := hcell k (by omega)
    have hd := h.dig.at k
    have he : nmb xs = ((gd xs k : Int) != 0) := by
      unfold nmb
      rw [hx, Nat.add_sub_cancel]
      by_cases hz : gd xs k = 0
      · rw [hz]; simp
      · have : ((gd xs k : Int) != 0) = true := bne_iff_ne.2 (by omega)
        rw [this]
        exact decide_eq_true (Or.inr hz)
    have HE := Lib.hid he
    clear hcell he
    generalize gd xs k = x at *
    go_enter Tryz.func106, Tryz.ntmps106
    go_wp2
    go_ret
    rw [HE.out]
    exact ⟨rfl, rfl⟩

set_option maxRecDepth 100000 in
set_option maxHeartbeats 2000000 in
theorem rcompare_any (p q : Option Addr) (n c m d : Nat) (xs ys : List Nat) (w : World) (h1 : Sl w p n c xs) (h2 : Sl w q m d ys) (hn : n ≤ 1099511627776) (hm : m ≤ 1099511627776) :
    Calls Tryz.prog 168 #[.slice p n c, .slice q m d] w fun e w' => e = .returned (.int .i64 (cmpN (val xs) (val ys))) ∧ Fr [] w w' := by
  have l1 := dg_len_val h1.dig
  have l2 := dg_len_val h2.dig
  rw [h1.len] at l1
  rw [h2.len] at l2
  go_enter Tryz.func168, Tryz.ntmps168
  go_wp2_with fail
  refine (rcut_any _ _ _ _ _ h1 hn).mono ?_
  rintro e w1 ⟨p1, c1, rfl, o1, f1⟩
  replace h2 := h2.kept f1
  have s1 := o1.sl
  clear h1 o1
  go_wp2_with fail
  refine (rcut_any _ _ _ _ _ h2 hm).mono ?_
  rintro e w2 ⟨p2, c2, rfl, o2, f2⟩
  have s2 := o2.sl
  replace s1 := s1.kept f2
  have hw := f1.trans f2 (by simp)
  clear h2 o2 f1 f2
  have L1 : (dg (val xs)).length < (dg (val ys)).length → cmpN (val xs) (val ys) = -1 := fun h => by rw [cmpN_len_lt h]; exact cmpI_lt (by omega)
  have L2 : (dg (val ys)).length < (dg (val xs)).length → cmpN (val xs) (val ys) = 1 := fun h => by rw [cmpN_len_gt h]; exact cmpI_gt (by omega)
  have L3 : (dg (val xs)).length = (dg (val ys)).length → ∀ k, k < (dg (val xs)).length → (dg (val xs)).drop (k + 1) = (dg (val ys)).drop (k + 1) → gd (dg (val xs)) k < gd (dg (val ys)) k → cmpN (val xs) (val ys) = -1 := fun h k => cmpN_dig_lt h
  have L3' : (dg (val xs)).length = (dg (val ys)).length → ∀ k, k < (dg (val xs)).length → (dg (val xs)).drop (k + 1) = (dg (val ys)).drop (k + 1) → gd (dg (val ys)) k < gd (dg (val xs)) k → cmpN (val xs) (val ys) = 1 := fun h k => cmpN_dig_gt h
  have L4 : dg (val xs) = dg (val ys) → cmpN (val xs) (val ys) = 0 := fun h => by rw [dg_inj h]; exact cmpN_refl _
  generalize dg (val xs) = A at *
  generalize dg (val ys) = B at *
  by_cases hlen : A.length = B.length
  · have H3 := Lib.hid (L3 hlen)
    have H3' := Lib.hid (L3' hlen)
    have H4 := Lib.hid L4
    clear L1 L2 L3 L3' L4
    have hL := Lib.hid hlen
    rw [← hlen] at s2
    rw [← hlen]
    have hne : ((A.length : Int) != A.length) = false := by simp
    clear hlen
    generalize hn' : A.length = n' at *
    have hN := Lib.hid hn'
    clear hn'
    go_wp2
    go_loopw [5] (fun s wr => ∃ k : Nat, k ≤ n' ∧ s = .int .i64 ((k : Int) - 1) ∧ A.drop k = B.drop k ∧ Fr [] w2 wr) (fun s _ => (intOf s + 1).toNat)
    case atStart => exact ⟨n', Nat.le_refl _, rfl, by rw [List.drop_of_length_le (by rw [hN.out]; exact Nat.le_refl _), List.drop_of_length_le (by rw [← hL.out]; exact Nat.le_refl _)], Fr.refl _ _⟩
    case round =>
      obtain ⟨k, hk, rfl, hdr, hf⟩ := hrel
      have hdr' := Lib.hid hdr
      clear hdr
      have g1 := (s1.kept hf).rd
      have g2 := (s2.kept hf).rd
      have hwf := hw.trans hf (by simp)
      cases k with
      | zero =>
        rw [show (((0 : Nat) : Int) - 1) = -1 from rfl]
        go_wp2
        go_ret
        exact ⟨ret_int (H4.out hdr'.out).symm, hwf⟩
      | succ k =>
        rw [show (((k + 1 : Nat) : Int) - 1) = k from by omega]
        have e1 := hN.out
        obtain ⟨b1, o1, rfl, _, m1⟩ := g1.open (by omega)
        obtain ⟨b2, o2, rfl, _, m2⟩ := g2.open (by rw [← hL.out]; omega)
        have c1 := m1 k (by omega)
        have c2 := m2 k (by rw [← hL.out]; omega)
        have d1 := s1.dig.at k
        have d2 := s2.dig.at k
        clear m1 m2
        by_cases hlt : gd A k < gd B k
        · have hr := Lib.hid (H3.out k (by omega) hdr'.out hlt)
          generalize gd A k = x at *
          generalize gd B k = y at *
          clear e1
          go_wp2
          go_quiet (fail)
          go_wp2
          go_ret
          exact ⟨ret_int hr.out.symm, hwf.drewN _⟩
        · by_cases hgt : gd B k < gd A k
          · have hr := Lib.hid (H3'.out k (by omega) hdr'.out hgt)
            generalize gd A k = x at *
            generalize gd B k = y at *
            clear e1
            go_wp2
            go_quiet (fail)
            have hf2 := hwf.drewN nq
            generalize hwq : wr.drewN nq = wq at *
            have c1' : wq.cell? ⟨b1, o1 + k, none⟩ = some (dv x) := by rw [← hwq]; exact c1
            have c2' : wq.cell? ⟨b2, o2 + k, none⟩ = some (dv y) := by rw [← hwq]; exact c2
            clear hwq c1 c2 hf s1 s2 g1 g2
            go_wp2
            go_quiet (fail)
            go_wp2
            go_ret
            exact ⟨ret_int hr.out.symm, hf2.drewN _⟩
          · have hd : gd A k = gd B k := by omega
            have hdd := Lib.hid (drop_eq_succ (hN.out.trans hL.out) (by omega) hdr'.out hd)
            rw [hd] at c1
            clear d1 hd e1 hlt hgt
            generalize gd B k = x at *
            go_wp2
            go_quiet (fail)
            have hf2 := hf.drewN nq
            generalize hwq : wr.drewN nq = wq at *
            have c1' : wq.cell? ⟨b1, o1 + k, none⟩ = some (dv x) := by rw [← hwq]; exact c1
            have c2' : wq.cell? ⟨b2, o2 + k, none⟩ = some (dv x) := by rw [← hwq]; exact c2
            clear hwq c1 c2 hf g1 g2
            go_wp2
            go_quiet (fail)
            go_wp2
            go_roundw
            case rel => exact ⟨k, by omega, by go_num, hdd.out, hf2.drewN _⟩
            case measure => simp [intOf]
  · have hne : ((A.length : Int) != B.length) = true := by rw [bne_iff_ne]; omega
    by_cases hlt : A.length < B.length
    · have HR := Lib.hid (L1 hlt)
      clear L1 L2 L3 L3' L4 hlen
      go_wp2
      go_ret
      exact ⟨ret_int HR.out.symm, hw⟩
    · have HR := Lib.hid (L2 (by omega))
      have hdec : decide (A.length < B.length) = false := by simpa using hlt
      clear L1 L2 L3 L3' L4 hlen
      go_wp2
      go_ret
      exact ⟨ret_int HR.out.symm, hw⟩

theorem Ow.put {w : World} {base : Nat} {p : Option Addr} {n c k : Nat} {xs : List Nat} (h : Ow w base p n c xs) (_hk : k < n) :
    ∃ g, p = some ⟨g, 0, none⟩ ∧ base ≤ g ∧ w.cell? ⟨g, k, none⟩ = some (dv (gd xs k)) ∧ w.frozen? ⟨g, k, none⟩ = false ∧ ∀ v, v < 4294967296 → Ow (w.setCell ⟨g, k, none⟩ (dv v)) base p n c (xs.set k v) := by
  have hs := h.sl
  have hl := hs.len
  obtain ⟨g, L, rfl, h1, hb, hL, ht⟩ := h.own.resolve_left (by intro e; subst e; simp at hl; omega)
  have hc := ht.2 k (by omega)
  rw [Nat.zero_add] at hc
  refine ⟨g, rfl, h1, hb.cell hc, hb.free k, fun v hv => ?_⟩
  have hb' := hb.set k (dv v)
  have ht' : Sg (L.set k (dv v)) 0 (xs.set k v) := by
    refine ⟨by have := ht.1; simpa using this, fun j hj => ?_⟩
    rw [List.length_set] at hj
    rw [Nat.zero_add, List.getElem?_set]
    by_cases e : k = j
    · subst e
      rw [if_pos rfl, if_pos (by have := ht.1; omega), gd_set_eq hj]
    · rw [if_neg e, gd_set_ne e]
      have := ht.2 j hj
      rwa [Nat.zero_add] at this
  exact ⟨⟨by rw [List.length_set]; exact hl, hs.le, hs.cap, hs.nil, ht'.rd hb', hs.dig.set hv k⟩, Or.inr ⟨g, _, rfl, h1, hb', by rw [List.length_set]; exact hL, ht'⟩⟩

theorem put_mid {xs Z : List Nat} {k d : Nat} (hZ : Z.length = k) (hk : k < xs.length) : (Z ++ xs.drop k).set k d = (Z ++ [d]) ++ xs.drop (k + 1) := by
  rw [List.set_append_right _ _ (by omega), hZ, Nat.sub_self, List.drop_eq_getElem_cons hk, List.set_cons_zero, List.append_assoc, List.singleton_append]

set_option maxRecDepth 100000 in
set_option maxHeartbeats 4000000 in
theorem rsub_any (p q : Option Addr) (n c m d : Nat) (xs ys : List Nat) (w : World) (h1 : Sl w p n c xs) (h2 : Sl w q m d ys) (hn : n ≤ 1099511627776) (hm : m ≤ 1099511627776) :
    Calls Tryz.prog 169 #[.slice p n c, .slice q m d] w (RetOwn w (dg (val xs - val ys))) := by
  by_cases hlt : val xs < val ys
  · have e0 : val xs - val ys = 0 := by omega
    have hcl := Lib.hid (cmpN_lt hlt)
    rw [e0, dg_zero]
    clear e0 hlt
    go_enter Tryz.func169, Tryz.ntmps169
    go_wp2_with fail
    refine (rcompare_any _ _ _ _ _ _ _ _ _ h1 h2 hn hm).mono ?_
    rw [hcl.out]
    rintro e w1 ⟨rfl, hf1⟩
    go_wp2_with fail
    go_ret
    exact ⟨none, 0, rfl, Ow.zero _ _, hf1⟩
  · have hge : (0 : Int) ≤ cmpN (val xs) (val ys) := by unfold cmpN; rw [if_neg hlt]; split <;> decide
    have l1 := dg_len_val h1.dig
    have l2 := dg_len_val h2.dig
    rw [h1.len] at l1
    rw [h2.len] at l2
    have hmono := dg_len_mono (show val ys ≤ val xs by omega)
    have HE : Hid (∀ Z : List Nat, Dg Z → ∀ C, Z.length = (dg (val xs)).length → val Z + val ((dg (val ys)).take (dg (val xs)).length) = val ((dg (val xs)).take (dg (val xs)).length) + pB (dg (val xs)).length * C → val Z = val xs - val ys) := by
      intro Z hZ C hl he
      rw [List.take_of_length_le hmono, List.take_length, val_dg, val_dg] at he
      have hz := val_lt hZ
      rw [hl] at hz
      have hC0 : C = 0 := by
        apply Nat.eq_zero_of_not_pos
        intro hp
        have h4 : pB (dg (val xs)).length * 1 ≤ pB (dg (val xs)).length * C := Nat.mul_le_mul_left _ hp
        omega
      rw [hC0] at he
      omega
    go_enter Tryz.func169, Tryz.ntmps169
    go_wp2_with fail
    refine (rcompare_any _ _ _ _ _ _ _ _ _ h1 h2 hn hm).mono ?_
    rintro e w1 ⟨rfl, hf1⟩
    replace h1 := h1.kept hf1
    replace h2 := h2.kept hf1
    have hz0 : decide (cmpN (val xs) (val ys) < 0) = false := by simp; omega
    generalize cmpN (val xs) (val ys) = zc at *
    go_wp2_with fail
    refine (rcut_any _ _ _ _ _ h2 hm).mono ?_
    rintro e w2 ⟨p2, c2, rfl, o2, f2⟩
    replace h1 := h1.kept f2
    have s2 := o2.sl
    have hw := hf1.trans f2 (by simp)
    clear h2 o2 hf1 f2
    go_wp2_with fail
    refine (rcut_any _ _ _ _ _ h1 hn).mono ?_
    rintro e w3 ⟨p1, c1, rfl, o1, f1⟩
    have hdA := Dg_dg (val xs)
    have hdB := Dg_dg (val ys)
    clear h1 hlt hge
    generalize dg (val xs) = A at *
    generalize dg (val ys) = B at *
    go_wp2
    go_loopw [6, 7] (fun s t wr => ∃ (k C : Nat) (Z : List Nat), k ≤ A.length ∧ s = .int .u64 C ∧ t = .int .i64 k ∧ C ≤ 1 ∧ Z.length = k ∧ Dg Z ∧ val Z + val (B.take k) = val (A.take k) + pB k * C ∧ Ow wr w2.heap.size p1 A.length c1 (Z ++ A.drop k) ∧ Fr [] w2 wr) (fun _ t _ => A.length - (intOf t).toNat)
    case atStart => exact ⟨0, 0, [], Nat.zero_le _, rfl, rfl, by omega, rfl, Dg.nil, rfl, o1, f1⟩
    case round =>
      obtain ⟨k, C, Z, hk, rfl, rfl, hC, hZ, hZd, hv, hO, hf⟩ := hrel
      have HZ := Lib.hid hZ
      have Hv := Lib.hid hv
      clear hZ hv o1 f1
      by_cases hlk : k < A.length
      · obtain ⟨g, rfl, hg, c1', c3, hset⟩ := hO.put hlk
        have hgx : gd (Z ++ A.drop k) k = gd A k := by rw [gd_append_right (by rw [HZ.out]; exact Nat.le_refl _), gd_drop, HZ.out, Nat.sub_self, Nat.add_zero]
        rw [hgx] at c1'
        have HS : Hid (∀ (I : Int) (v : Nat), I = v → v < 4294967296 → Ow (wr.setCell ⟨g, k, none⟩ (.int .u32 I)) w2.heap.size (some ⟨g, 0, none⟩) A.length c1 ((Z ++ [v]) ++ A.drop (k + 1))) := fun I v hI hv => by
          have := hset v hv
          rw [hI]
          rwa [put_mid HZ.out hlk] at this
        have d1 := hdA.at k
        have d2 := hdB.at k
        have HT : Hid (∀ D C', D + gd B k + C = gd A k + 4294967296 * C' → val (Z ++ [D]) + val (B.take (k + 1)) = val (A.take (k + 1)) + pB (k + 1) * C') := fun D C' => sub_step HZ.out Hv.out
        clear hgx hset hO
        by_cases hkb : k < B.length
        · obtain ⟨b2, o2, rfl, _, m2⟩ := (s2.kept hf).rd.open (by omega)
          have c2' := m2 k hkb
          clear m2
          generalize gd A k = x at *
          generalize gd B k = y at *
          by_cases hxy : x < y + C
          · have hdc : decide ((x : Int) < ((C : Int) + y)) = true := by simp; omega
            have HV2 := Lib.hid (HT.out (x + 4294967296 - (y + C)) 1 (by omega))
            have HXY := Lib.hid hxy
            clear HT hxy
            go_wp2
            go_roundw
            case rel =>
              have hxy := HXY.out
              exact ⟨k + 1, 1, Z ++ [x + 4294967296 - (y + C)], by omega, rfl, by go_num, by omega, by simp [HZ.out], hZd.append (Dg.one (by omega)), HV2.out, HS.out _ _ (by first | omega | (rw [IntKind.wrap_u64]; omega)) (by omega), hf.setCell _ _ (by simp; omega)⟩
            case measure => simp [intOf]; omega
          · have hdc : decide ((x : Int) < ((C : Int) + y)) = false := by simp; omega
            have HV2 := Lib.hid (HT.out (x - (y + C)) 0 (by omega))
            have HXY := Lib.hid hxy
            clear HT hxy
            go_wp2
            go_roundw
            case rel =>
              have hxy := HXY.out
              exact ⟨k + 1, 0, Z ++ [x - (y + C)], by omega, rfl, by go_num, by omega, by simp [HZ.out], hZd.append (Dg.one (by omega)), HV2.out, HS.out _ _ (by first | omega | (rw [IntKind.wrap_u64]; omega)) (by omega), hf.setCell _ _ (by simp; omega)⟩
            case measure => simp [intOf]; omega
        · have hy0 : gd B k = 0 := gd_ge (by omega)
          rw [hy0] at HT
          clear hy0 d2
          generalize gd A k = x at *
          by_cases hxy : x < C
          · have hdc : decide ((x : Int) < (C : Int)) = true := by simp; omega
            have hdc2 : decide (x < C) = true := by simp; omega
            have HV2 := Lib.hid (HT.out (x + 4294967296 - (0 + C)) 1 (by omega))
            have HXY := Lib.hid hxy
            clear HT hxy
            go_wp2
            go_roundw
            case rel =>
              have hxy := HXY.out
              exact ⟨k + 1, 1, Z ++ [x + 4294967296 - (0 + C)], by omega, rfl, by go_num, by omega, by simp [HZ.out], hZd.append (Dg.one (by omega)), HV2.out, HS.out _ _ (by first | omega | (rw [IntKind.wrap_u64]; omega)) (by omega), hf.setCell _ _ (by simp; omega)⟩
            case measure => simp [intOf]; omega
          · have hdc : decide ((x : Int) < (C : Int)) = false := by simp; omega
            have hdc2 : decide (x < C) = false := by simp; omega
            have HV2 := Lib.hid (HT.out (x - (0 + C)) 0 (by omega))
            have HXY := Lib.hid hxy
            clear HT hxy
            go_wp2
            go_roundw
            case rel =>
              have hxy := HXY.out
              exact ⟨k + 1, 0, Z ++ [x - (0 + C)], by omega, rfl, by go_num, by omega, by simp [HZ.out], hZd.append (Dg.one (by omega)), HV2.out, HS.out _ _ (by first | omega | (rw [IntKind.wrap_u64]; omega)) (by omega), hf.setCell _ _ (by simp; omega)⟩
            case measure => simp [intOf]; omega
      · obtain rfl : k = A.length := by omega
        have hval : val Z = val xs - val ys := HE.out Z hZd C HZ.out Hv.out
        rw [List.drop_of_length_le (Nat.le_refl _), List.append_nil] at hO
        have HVZ := Lib.hid hval
        clear hval
        go_wp2_with fail
        refine (rcut_any _ _ _ _ _ hO.sl (by omega)).mono ?_
        rw [HVZ.out]
        rintro e w4 ⟨p4, c4, rfl, o4, f4⟩
        go_wp2_with fail
        go_ret
        have hs1 := hw.size
        have hs2 := hf.size
        exact ⟨p4, c4, rfl, o4.mono (by omega), (hw.trans hf (by simp)).trans f4 (by simp)⟩

end Go.Proofs.YtagciepnhjbopaaGreatDoor

namespace Go.Proofs.YtagciepnhjbopaaGreatDoor
open Go.RowKit

theorem bl_half {x : Nat} (_h : x ≠ 0) : bl x = bl (x / 2) + 1 := by
  by_cases h1 : x = 1
  · rw [h1]; decide
  · have h2 : 2 ^ 1 ≤ x := by simp; omega
    have := bl_shift h2
    simpa using this

theorem bl_top {v : Nat} (h : v ≠ 0) : bl v = bl (gd (dg v) ((dg v).length - 1)) + 32 * ((dg v).length - 1) := by
  have h1 := dg_ge h
  have hl : (dg v).length ≠ 0 := fun e => h (dg_nil.1 (List.eq_nil_of_length_eq_zero e))
  rw [pB_two] at h1
  have h2 := val_drop_div (Dg_dg v) ((dg v).length - 1)
  rw [val_dg, pB_two, drop_cons_gd (by omega), List.drop_of_length_le (by omega), val_one] at h2
  rw [bl_shift h1, h2]

set_option maxRecDepth 100000 in
set_option maxHeartbeats 1000000 in
theorem rbitlen_any (p : Option Addr) (n c : Nat) (xs : List Nat) (w : World) (h : Sl w p n c xs) (hn : n ≤ 1099511627776) :
    Calls Tryz.prog 203 #[.slice p n c] w fun e w' => e = .returned (.int .i64 (bl (val xs) : Nat)) ∧ Fr [] w w' := by
  have l1 := dg_len_val h.dig
  rw [h.len] at l1
  go_enter Tryz.func203, Tryz.ntmps203
  go_wp2_with fail
  refine (rcut_any _ _ _ _ _ h hn).mono ?_
  rintro e w1 ⟨p1, c1, rfl, o1, f1⟩
  have s1 := o1.sl
  clear h o1
  by_cases h0 : val xs = 0
  · have e1 : (dg (val xs)).length = 0 := by rw [h0, dg_zero]; rfl
    have e2 : bl (val xs) = 0 := by rw [h0]; rfl
    have E2 := Lib.hid e2
    rw [e1]
    clear e1 e2 h0 s1
    go_wp2
    go_ret
    rw [E2.out]
    exact ⟨rfl, f1⟩
  · have hlz : (dg (val xs)).length ≠ 0 := fun e => h0 (dg_nil.1 (List.eq_nil_of_length_eq_zero e))
    obtain ⟨L, hL⟩ : ∃ L, (dg (val xs)).length = L + 1 := ⟨(dg (val xs)).length - 1, by omega⟩
    have hb := bl_top h0
    rw [hL, Nat.add_sub_cancel] at hb
    obtain ⟨b, off, rfl, _, hcell⟩ := s1.rd.open (by omega)
    have hck := hcell L (by omega)
    have hd := s1.dig.at L
    rw [hL]
    generalize gd (dg (val xs)) L = top at *
    have HB := Lib.hid hb
    have hbd : L < 1099511627776 := by omega
    clear hcell hb hL s1 h0 hlz l1
    go_wp2
    go_loop [3, 4] (fun s t => ∃ x j : Nat, s = .int .i64 ((32 * L + j : Nat) : Int) ∧ t = .int .u32 x ∧ bl top = bl x + j ∧ x < 4294967296) (fun _ t => (intOf t).toNat)
    case atStart => exact ⟨top, 0, rfl, rfl, rfl, hd⟩
    case round =>
      obtain ⟨x, j, rfl, rfl, hbl, hx⟩ := hrel
      have hj := bl_le (x := top) (n := 32) (by omega)
      have HBl := Lib.hid hbl
      have hj2 : j ≤ 32 := by omega
      clear hbl
      by_cases hz : x = 0
      · have hfin : bl (val xs) = 32 * L + j := by
          have h1 := HBl.out
          have h2 := HB.out
          rw [hz] at h1
          have h3 : bl 0 = 0 := rfl
          omega
        have HF := Lib.hid hfin
        subst hz
        clear hfin
        go_wp2
        go_ret
        rw [HF.out]
        exact ⟨rfl, f1⟩
      · have hpos : 0 < x := by omega
        have hN : Hid (bl top = bl (x / 2) + (j + 1)) := by
          show _ = _
          rw [HBl.out, bl_half hz]
          omega
        clear hz
        go_wp2
        go_round
        case rel => exact ⟨x / 2, j + 1, congrArg (Value.int .i64) (by omega), congrArg (Value.int .u32) (by omega), hN.out, by omega⟩
        case measure => simp [intOf]; omega

end Go.Proofs.YtagciepnhjbopaaGreatDoor
