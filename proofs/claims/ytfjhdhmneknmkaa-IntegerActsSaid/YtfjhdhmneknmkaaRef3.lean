/- The document's own division by a digit, and its Format. -/
import Derived.Test.YtfjhdhmneknmkaaRef2
import Derived.Laws.Concat
namespace Go.Proofs.Ytfjhdhmneknmkaa
open Go.RowKit

set_option maxRecDepth 100000 in
set_option maxHeartbeats 1000000 in
theorem rsmall_any (p : Option Addr) (n c d : Nat) (xs : List Nat) (w : World) (h : Sl w p n c xs) (hd : 0 < d) (hd2 : d < 4294967296) (hn : n ≤ 1099511627776) :
    Calls Try.prog 106 #[.slice p n c, .int .u32 d] w fun e w' => ∃ q cq, e = .returned (.tuple #[.slice q (dg (val xs / d)).length cq, .int .u32 (val xs % d : Nat)]) ∧
      Ow w' w.heap.size q (dg (val xs / d)).length cq (dg (val xs / d)) ∧ Fr [] w w' := by
  obtain ⟨i0, hi, hz0, hz1, hz2⟩ := info_parts Try.infoU
  have hzl := h.len
  have hm63 : n ≤ 9223372036854775807 := by omega
  go_enter Try.func106, Try.ntmps106
  go_wp2_with (at_make; refine wpList_make_full _ rfl _ _ 22 rfl 0 57 i0 (.int .u32 0) 1 Try.underlying22 hi hz0 hz1 _ _ _ _ n rfl rfl (by simp) (by simp) (by rw [hz2]; omega) (by unfold maxLen; omega) (Nat.zero_le _) ?_)
  intro w0 hown hgrow
  have hB0 := blk_of_made hown
  have hf0 : Fr [] w w0 := (Fr.refl _ _).grown hgrow (by simp)
  clear hown hgrow
  generalize hg : w.heap.size = g at *
  have HG := Lib.hid hg
  clear hg
  obtain ⟨L, hL⟩ : ∃ L, L = (List.replicate n 0).map dv := ⟨_, rfl⟩
  rw [← hL] at hB0
  have hLl : L.length = n := by rw [hL]; simp
  clear hL
  go_wp2
  go_loopw [7, 8] (fun s t wr => ∃ (k R : Nat) (Q : List Nat), k ≤ n ∧ s = .int .u64 R ∧ t = .int .i64 ((k : Int) - 1) ∧ R < d ∧ Q.length = n - k ∧ Dg Q ∧ val (xs.drop k) = val Q * d + R ∧ Blk wr g (spl L k Q) ∧ Fr [] w wr) (fun _ t _ => (intOf t + 1).toNat)
  case atStart => exact ⟨n, 0, [], Nat.le_refl _, rfl, rfl, hd, by simp, Dg.nil, by rw [List.drop_of_length_le (by omega)]; simp [val], by rw [spl_nil]; exact hB0, hf0⟩
  case round =>
    obtain ⟨k, R, Q, hk, rfl, rfl, hR, hQ, hQd, hv, hB, hf⟩ := hrel
    have HQ := Lib.hid hQ
    have Hv := Lib.hid hv
    clear hQ hv hB0 hf0
    cases k with
    | zero =>
      rw [show (((0 : Nat) : Int) - 1) = -1 from rfl]
      have hv := Hv.out
      rw [List.drop_zero] at hv
      have e1 : val xs % d = R := by rw [hv, Nat.mul_comm, Nat.mul_add_mod, Nat.mod_eq_of_lt hR]
      have e2 : val Q = val xs / d := by rw [hv, Nat.mul_comm, Nat.mul_add_div hd, Nat.div_eq_of_lt hR]; rfl
      rw [Nat.sub_zero] at HQ
      have hspl : spl L 0 Q = Q.map dv := by
        unfold spl
        rw [HQ.out, List.drop_of_length_le (by omega)]
        simp
      rw [hspl] at hB
      have HO := Ow.of_blk (base := g) hB (Nat.le_refl _) (by rw [HQ.out]; omega) hQd
      rw [HQ.out] at HO
      have HO2 := Lib.hid HO
      have H1 := Lib.hid e1
      have H2 := Lib.hid e2
      have eR : (R : Int) % 4294967296 = R := by omega
      clear hv e1 e2 HO hB hspl
      go_wp2_with fail
      refine (rcut_any _ _ _ _ _ HO2.out.sl (by omega)).mono ?_
      rw [H2.out]
      rintro e w2 ⟨p2, c2, rfl, ho2, hf2⟩
      go_wp2_with fail
      go_ret2
      have hs := hf.size
      have hg := HG.out
      rw [H1.out]
      exact ⟨p2, c2, rfl, ho2.mono (by omega), hf.trans hf2 (by simp)⟩
    | succ k =>
      rw [show (((k + 1 : Nat) : Int) - 1) = k from by omega]
      obtain ⟨b1, o1, rfl, _, m1⟩ := (h.kept hf).rd.open (by omega)
      have c2 := m1 k (by omega)
      have c3 := hB.free k
      have d2 := h.dig.at k
      have HT := Lib.hid (divd_step (show k < xs.length by omega) Hv.out)
      have HD := Lib.hid (div_small hR d2)
      have HW := Lib.hid (hB.set k)
      have HS : Hid (∀ v, (spl L (k + 1) Q).set k (dv v) = spl L k (v :: Q)) := fun v => spl_down (by rw [HQ.out]; omega) v
      have hor := or64i ((R : Int) * 4294967296) (gd xs k : Nat) R 32 (by omega) (by omega) (by omega) (by omega)
      have hw1 : IntKind.u64.wrap ((R : Int) * 4294967296) = (R : Int) * 4294967296 := wrap_u64_lt (by omega) (by omega)
      have c4 : ∃ v, wr.cell? ⟨g, k, none⟩ = some v := ⟨_, hB.cell (by rw [spl_at (by rw [HQ.out]; omega), if_pos (by omega), List.getElem?_eq_getElem (by omega)])⟩
      obtain ⟨v4, c4⟩ := c4
      generalize gd xs k = x at *
      clear m1
      go_wp2
      go_roundw
      case rel =>
        have hD := HD.out
        have e0 : (R : Int) * 4294967296 + x = ((R * 4294967296 + x : Nat) : Int) := by omega
        have e1 : ((R : Int) * 4294967296 + x) / d = (((R * 4294967296 + x) / d : Nat) : Int) := by rw [e0]; exact (Int.natCast_ediv _ _).symm
        have e2 : ((R : Int) * 4294967296 + x) % d = (((R * 4294967296 + x) % d : Nat) : Int) := by rw [e0]; exact (Int.natCast_emod _ _).symm
        have ht := HT.out
        have hml : (R * 4294967296 + x) % d < d := Nat.mod_lt _ hd
        rw [e1, e2]
        clear HT e0 e1 e2 HD
        generalize (R * 4294967296 + x) / d = qq at *
        generalize (R * 4294967296 + x) % d = rr at *
        have e3 : (qq : Int) % 4294967296 = qq := by omega
        rw [e3]
        refine ⟨k, rr, qq :: Q, by omega, rfl, rfl, hml, by simp [HQ.out]; omega, Dg.cons hD hQd, ht, ?_, hf.setCell _ _ (by have := HG.out; simp; omega)⟩
        rw [← HS.out]
        exact HW.out _
      case measure => simp [intOf]

/-- Decimal digits, one more. -/
theorem dB_more {m : Nat} (h : m ≠ 0) {V : Nat} {S : List Nat} (hv : dB V = dB m ++ S) : dB V = dB (m / 10) ++ (m % 10 :: S) := by
  rw [hv, dB_pos h]
  simp
theorem txt_append (S T : List Nat) : txt (S ++ T) = txt S ++ txt T := by
  unfold txt
  rw [ByteArray.mk_append_mk]
  simp
theorem txt_size (S : List Nat) : (txt S).size = S.length := by simp [txt, ByteArray.size]
theorem txt_nil : txt [] = ⟨#[]⟩ := rfl

/-- One byte as a string. -/
theorem byte_string (w : World) (d : Nat) (hd : d < 10) : (convert 79 9 (.slice (some ⟨w.heap.size, 0, none⟩) 1 1)).run Try.prog (w.alloc (.cells #[bv (48 + d)] 5)) = .ok (.string (txt [d])) (w.alloc (.cells #[bv (48 + d)] 5)) := by
  have h : Fd (w.alloc (.cells #[bv (48 + d)] 5)) w.heap.size 1 [d] := ⟨by simp, heap_alloc_new w _⟩
  exact h.string (Z := []) (S' := [d]) rfl (Dd.cons hd Dd.nil) rfl rfl

set_option maxRecDepth 100000 in
set_option maxHeartbeats 4000000 in
theorem rformat_any (p : Option Addr) (n c : Nat) (xs : List Nat) (w : World) (h : Sl w p n c xs) (hn : n ≤ 1048576) :
    Calls Try.prog 92 #[.slice p n c] w fun e w' => e = .returned (.string (txt (fmt (val xs)))) ∧ Fr [] w w' := by
  have hLn := dg_len_val h.dig
  rw [h.len] at hLn
  have hlt := dg_lt (val xs)
  go_enter Try.func92, Try.ntmps92
  go_wp2_with fail
  refine (rcut_any _ _ _ _ _ h (by omega)).mono ?_
  rintro e w1 ⟨p1, c1, rfl, ho1, hf1⟩
  by_cases h0 : (val xs) = 0
  · have e1 : (dg (val xs)).length = 0 := by rw [h0, dg_zero]; rfl
    have e2 : fmt (val xs) = [0] := by unfold fmt; rw [if_pos h0]
    have E2 := Lib.hid e2
    rw [e1]
    clear e1 e2 h0 ho1
    go_wp2
    go_ret
    rw [E2.out]
    exact ⟨rfl, hf1⟩
  · have e1 : (dg (val xs)).length ≠ 0 := fun e => h0 (dg_nil.1 (List.eq_nil_of_length_eq_zero e))
    have e2 : fmt (val xs) = dB (val xs) := by unfold fmt; rw [if_neg h0]
    have E2 := Lib.hid e2
    have hcap : (dB (val xs)).length ≤ 10 * n + 1 := by
      have h1 := dB_len_pow (val xs) h0
      have h2 := dec_len h1 hlt
      omega
    have hne : (((dg (val xs)).length : Int) == 0) = false := beq_eq_false_iff_ne.2 (by omega)
    clear e2 h hlt
    go_wp2
    go_loopg [0, 3] (val xs) (fun k s t wr => ∃ (S : List Nat) (pa : Option Addr) (ca : Nat), k ≤ (val xs) ∧ s = .slice pa (dg k).length ca ∧ t = .string (txt S) ∧ dB (val xs) = dB k ++ S ∧ Sl wr pa (dg k).length ca (dg k) ∧ Fr [] w wr)
    case atStart => exact ⟨[], p1, c1, Nat.le_refl _, rfl, rfl, by simp, ho1.sl, hf1⟩
    case round =>
      obtain ⟨S, pa, ca, hkV, rfl, rfl, hv, hs, hf⟩ := hrel
      have Hv := Lib.hid hv
      have hSl : S.length ≤ 10 * n + 1 := by
        have := congrArg List.length hv
        rw [List.length_append] at this
        omega
      clear hv ho1 e1
      by_cases hk : gk = 0
      · subst hk
        have hz : (dg 0).length = 0 := by rw [dg_zero]; rfl
        have hS : S = dB (val xs) := by
          have := Hv.out
          rw [dB_zero] at this
          exact this.symm
        have HS := Lib.hid hS
        rw [hz]
        clear hz hS hs
        go_wp2
        go_ret
        rw [E2.out, HS.out]
        exact ⟨rfl, hf⟩
      · have hlz : (dg gk).length ≠ 0 := fun e => hk (dg_nil.1 (List.eq_nil_of_length_eq_zero e))
        have hkl : (dg gk).length ≤ n := by
          have := dg_len_mono hkV
          omega
        have hdec : gk / 1000000000 < gk := Nat.div_lt_self (by omega) (by decide)
        have hGl : gk % 1000000000 < 10 ^ 9 := Nat.mod_lt _ (by decide)
        have hsum : dB (val xs) = dB (gk / 1000000000 * 10 ^ 9 + gk % 1000000000) ++ S := by
          rw [Hv.out, show gk / 1000000000 * 10 ^ 9 + gk % 1000000000 = gk by have := Nat.div_add_mod gk 1000000000; omega]
        have Hsum := Lib.hid hsum
        clear hsum
        go_wp2_with fail
        refine (rsmall_any _ _ _ 1000000000 _ _ hs (by decide) (by decide) (by omega)).mono ?_
        rw [val_dg]
        rintro e w2 ⟨pq, cq, rfl, hoq, hf2⟩
        have hsq := hoq.sl
        have hfw := hf.trans hf2 (by simp)
        clear hoq hs hf hf2
        generalize gk % 1000000000 = G at *
        generalize gk / 1000000000 = R at *
        go_wp2
        go_loopw [5, 6, 7] (fun s t u wr => ∃ (j G' : Nat) (P : List Nat), j ≤ 9 ∧ s = .int .u32 G' ∧ t = .string (txt P) ∧ u = .int .i64 ((9 - j : Nat) : Int) ∧ G' < 10 ^ j ∧ dB (val xs) = dB (R * 10 ^ j + G') ++ (P ++ S) ∧ Fr [] w2 wr) (fun _ _ u _ => (9 - intOf u).toNat)
        case atStart => exact ⟨9, G, [], Nat.le_refl _, rfl, rfl, rfl, hGl, Hsum.out, Fr.refl _ _⟩
        case round =>
          obtain ⟨j, G', P, hj, rfl, rfl, rfl, hG', hv', hf'⟩ := hrel
          have HG := Lib.hid hG'
          have HV := Lib.hid hv'
          have hPl : P.length + S.length ≤ 10 * n + 1 := by
            have := congrArg List.length hv'
            rw [List.length_append, List.length_append] at this
            omega
          have hadd : (Op.stringOp .add (txt P) (txt S)).run Try.prog wr = .ok (.string (txt (P ++ S))) wr := by
            rw [txt_append]
            exact run_string_add_sum wr _ _ (by rw [txt_size, txt_size]; omega)
          clear hG' hv'
          cases j with
          | zero =>
            have hG0 : G' = 0 := by have := HG.out; simp at this; exact this
            subst hG0
            go_wp2
            go_roundg R
            case rel => exact ⟨P ++ S, pq, cq, by omega, rfl, rfl, by have := HV.out; rwa [Nat.pow_zero, Nat.mul_one, Nat.add_zero] at this, hsq.kept hf', hfw.trans hf' (by simp)⟩
            case measure => exact hdec
          | succ j =>
            by_cases hm : R * 10 ^ (j + 1) + G' = 0
            · have hG0 : G' = 0 := by omega
              have hR0 : R = 0 := by
                have h1 : R * 1 ≤ R * 10 ^ (j + 1) := Nat.mul_le_mul_left _ (Nat.pow_pos (by decide))
                omega
              subst hG0
              subst hR0
              have hz : (dg 0).length = 0 := by rw [dg_zero]; rfl
              have hz9 : (9 - (j + 1) : Nat) < 9 := by omega
              go_wp2
              go_roundg 0
              case rel => exact ⟨P ++ S, pq, cq, by omega, by rw [hz], rfl, by have := HV.out; rwa [Nat.zero_mul, Nat.zero_add] at this, hsq.kept hf', hfw.trans hf' (by simp)⟩
              case measure => exact hdec
            · have hcase : G' = 0 → (dg R).length ≠ 0 := by
                intro e1 e2
                have h1 := dg_nil.1 (List.eq_nil_of_length_eq_zero e2)
                subst h1
                subst e1
                simp at hm
              have hm10 : (R * 10 ^ (j + 1) + G') / 10 = R * 10 ^ j + G' / 10 ∧ (R * 10 ^ (j + 1) + G') % 10 = G' % 10 := by
                have e : R * 10 ^ (j + 1) = 10 * (R * 10 ^ j) := by rw [Nat.pow_succ]; grind
                rw [e]
                omega
              have HN : Hid (dB (val xs) = dB (R * 10 ^ j + G' / 10) ++ (G' % 10 :: P ++ S)) := by
                have h1 := dB_more hm HV.out
                rw [hm10.1, hm10.2] at h1
                exact h1
              have HG2 : Hid (G' / 10 < 10 ^ j) := by
                show _ < _
                have := HG.out
                rw [Nat.pow_succ] at this
                omega
              have hGb : G' < 4294967296 := by
                have := HG.out
                have h9 : (10 : Nat) ^ (j + 1) ≤ 10 ^ 9 := Nat.pow_le_pow_right (by decide) hj
                omega
              have hd10 : G' % 10 < 10 := Nat.mod_lt _ (by decide)
              have hconv := byte_string wr (G' % 10) hd10
              have hbv : bv (48 + G' % 10) = .int .u8 (48 + (G' : Int) % 10) := by
                show Value.int .u8 _ = _
                congr 1
              rw [hbv] at hconv
              have hadd2 : ∀ w : World, (Op.stringOp .add (txt [G' % 10]) (txt P)).run Try.prog w = .ok (.string (txt (G' % 10 :: P))) w := fun w => by
                have e : txt (G' % 10 :: P) = txt [G' % 10] ++ txt P := by rw [← txt_append]; rfl
                rw [e]
                exact run_string_add_sum w _ _ (by rw [txt_size, txt_size]; simp; omega)
              have hz9 : (9 - (j + 1) : Nat) < 9 := by omega
              clear hadd hm10 hm hbv
              by_cases hG0 : G' = 0
              · have hRl := hcase hG0
                have hb1 : decide (0 < G') = false := by simp; omega
                have hb2 : decide ((0 : Int) < (G' : Int)) = false := by simp; omega
                clear hcase hG0
                go_wp2
                go_roundw
                case rel =>
                  have e1 : (G' : Int) / 10 = ((G' / 10 : Nat) : Int) := by omega
                  have e3 : ((8 - j : Nat) : Int) + 1 = ((9 - j : Nat) : Int) := by omega
                  rw [e1, e3]
                  exact ⟨j, G' / 10, G' % 10 :: P, by omega, rfl, rfl, rfl, HG2.out, HN.out, hf'.alloc _⟩
                case measure => simp [intOf]; omega
              · have hGp : 0 < G' := by omega
                clear hcase
                go_wp2
                go_roundw
                case rel =>
                  have e1 : (G' : Int) / 10 = ((G' / 10 : Nat) : Int) := by omega
                  have e3 : ((8 - j : Nat) : Int) + 1 = ((9 - j : Nat) : Int) := by omega
                  rw [e1, e3]
                  exact ⟨j, G' / 10, G' % 10 :: P, by omega, rfl, rfl, rfl, HG2.out, HN.out, hf'.alloc _⟩
                case measure => simp [intOf]; omega

end Go.Proofs.Ytfjhdhmneknmkaa
