/- nat.Format. -/
import Derived.Test.YtfjhdhmneknmkaaRoot
import Derived.Test.YtfjhdhmneknmkaaDecNum
namespace Go.Proofs.Ytfjhdhmneknmkaa
open Go.RowKit

/-- A byte as a value. -/
abbrev bv (x : Nat) : Value := .int .u8 (x : Int)
/-- Block g is a row of just the bytes (as values) L. -/
def Blk8 (w : World) (g : Nat) (L : List Value) : Prop := w.heap[g]? = some (.cells L.toArray 5 (0, 0))
theorem Blk8.lt {w : World} {g : Nat} {L : List Value} (h : Blk8 w g L) : g < w.heap.size := (Array.getElem?_eq_some_iff.1 h).1
theorem Blk8.cell {w : World} {g : Nat} {L : List Value} (h : Blk8 w g L) {j : Nat} {v : Value} (hj : L[j]? = some v) : w.cell? ⟨g, j, none⟩ = some v := by
  rw [cell_of_row w g j _ _ _ h]
  simpa using hj
theorem Blk8.free {w : World} {g : Nat} {L : List Value} (h : Blk8 w g L) (j : Nat) : w.frozen? ⟨g, j, none⟩ = false := by
  have h' : w.heap[g]? = some (.cells L.toArray 5 (0, 0)) := h
  simp [World.frozen?, h']
theorem Blk8.set {w : World} {g : Nat} {L : List Value} (h : Blk8 w g L) (j : Nat) (v : Value) : Blk8 (w.setCell ⟨g, j, none⟩ v) g (L.set j v) := by
  have h' : w.heap[g]? = some (.cells L.toArray 5 (0, 0)) := h
  unfold Blk8
  simp [World.setCell, Array.getElem?_modify, h']
theorem Blk8.keep {S : List Nat} {w w' : World} {g : Nat} {L : List Value} (h : Blk8 w g L) (f : Fr S w w') (hs : g ∉ S) : Blk8 w' g L :=
  (f.block g h.lt hs).trans h
theorem Try.infoB : (Try.prog.info? 5).map (fun i => (i.zero, i.size, i.bytes)) = some (some (.int .u8 0), 1, 1) := by kernel_rfl

/-- Block g: T bytes, the last ones the decimal digits S as text, the others 0. -/
def Fd (w : World) (g T : Nat) (S : List Nat) : Prop := S.length ≤ T ∧ Blk8 w g (List.replicate (T - S.length) (bv 0) ++ S.map fun d => bv (48 + d))
theorem Fd.lt {w : World} {g T : Nat} {S : List Nat} (h : Fd w g T S) : g < w.heap.size := h.2.lt
theorem Fd.free {w : World} {g T : Nat} {S : List Nat} (h : Fd w g T S) (j : Nat) : w.frozen? ⟨g, j, none⟩ = false := h.2.free j
theorem Fd.keep {X : List Nat} {w w' : World} {g T : Nat} {S : List Nat} (h : Fd w g T S) (f : Fr X w w') (hs : g ∉ X) : Fd w' g T S := ⟨h.1, h.2.keep f hs⟩
theorem Fd.zero {w : World} {g T : Nat} {S : List Nat} (h : Fd w g T S) {k : Nat} (hk : k + 1 + S.length = T) : w.cell? ⟨g, k, none⟩ = some (bv 0) := by
  refine h.2.cell ?_
  rw [List.getElem?_append_left (by rw [List.length_replicate]; omega), List.getElem?_replicate, if_pos (by omega)]
theorem Fd.digit {w : World} {g T : Nat} {S : List Nat} (h : Fd w g T S) {j : Nat} (hj : j < S.length) : w.cell? ⟨g, T - S.length + j, none⟩ = some (bv (48 + gd S j)) := by
  refine h.2.cell ?_
  rw [List.getElem?_append_right (by simp)]
  simp [hj, gd_lt hj]
theorem Fd.set {w : World} {g T : Nat} {S : List Nat} (h : Fd w g T S) {k : Nat} (hk : k + 1 + S.length = T) (d : Nat) : Fd (w.setCell ⟨g, k, none⟩ (bv (48 + d))) g T (d :: S) := by
  refine ⟨by simp; omega, ?_⟩
  have h1 := h.2.set k (bv (48 + d))
  have e : T - S.length = k + 1 := by omega
  have e2 : T - (d :: S).length = k := by simp; omega
  rw [e, List.replicate_succ', List.append_assoc, List.set_append_right _ _ (by simp)] at h1
  rw [e2]
  simpa using h1

/-- 'make([]byte, c)'. -/
theorem wpList_mk8 {w : World} {ops : Array Oper} {rest : List Oper} {o : Oper} {a : Act} {Q : Exit → Act → World → Prop}
    (hg : o.guard = none) (x y : Operand) (hop : o.op = Op.makeSlice 79 x y)
    (kl kc : IntKind) (L C : Int) (c : Nat) (hl : a.eval x = .int kl L) (hc : a.eval y = .int kc C) (hL : L = (c : Int)) (hC : C = (c : Int)) (h63 : c ≤ 70368744177664)
    (hK : ∀ w' : World, Fd w' w.heap.size c [] → Fr [] w w' → w'.heap.size = w.heap.size + 1 → wpList Try.prog ops Q rest (a.put o.dst (.slice (some ⟨w.heap.size, 0, none⟩) c c)) w') :
    wpList Try.prog ops Q (o :: rest) a w := by
  obtain ⟨i0, hi, hz0, hz1, hz2⟩ := info_parts Try.infoB
  refine wpList_plain hg fun K hK' => ?_
  have hrun := run_make (P := Try.prog) w 79 5 i0 (.int .u8 0) Try.underlying79 hi hz0 kl kc L C (by omega) (by omega) (by rw [hz2]; omega) (by omega)
  have e : madeCells (Value.int .u8 0).cells (C.toNat * i0.size) = (List.replicate c (bv 0)).toArray := by
    rw [hz1, Nat.mul_one, hC, Int.toNat_natCast]
    apply Array.ext
    · simp [madeCells]
    · intro i h1 h2
      simp [madeCells, Nat.mod_one, Value.cells]
  rw [e, hL, hC, Int.toNat_natCast] at hrun
  subst hL
  subst hC
  unfold Oper.wp
  simp only [execOp, hop, hl, hc, hrun, Result.andThen, Sem.run_bind, Sem.run_pure]
  refine hK' _ _ (hK _ ⟨Nat.zero_le _, ?_⟩ ((Fr.refl _ _).alloc _) (by simp))
  have : List.replicate (c - ([] : List Nat).length) (bv 0) ++ ([] : List Nat).map (fun d => bv (48 + d)) = List.replicate c (bv 0) := by simp
  rw [this]
  exact heap_alloc_new w _

theorem Ow.keep2 {S : List Nat} {w w' : World} {base : Nat} {p : Option Addr} {n c : Nat} {xs : List Nat} (h : Ow w base p n c xs) (f : Fr S w w') (hs : ∀ x, x ∈ pbn p n → x ∉ S) : Ow w' base p n c xs := by
  have h0 := h.sl
  by_cases hx : xs = []
  · subst hx
    exact ⟨⟨h0.len, h0.le, h0.cap, h0.nil, Or.inl rfl, h0.dig⟩, Or.inl rfl⟩
  · obtain ⟨g, L, rfl, h1, hb, hl, ht⟩ := h.own.resolve_left hx
    have hn : n ≠ 0 := fun e => hx (List.eq_nil_of_length_eq_zero (h0.len.trans e))
    have hb' := hb.keep f (hs g (by unfold pbn; rw [if_neg hn]; simp))
    exact ⟨⟨h0.len, h0.le, h0.cap, h0.nil, ht.rd hb', h0.dig⟩, Or.inr ⟨g, L, rfl, h1, hb', hl, ht⟩⟩

/-- A text of decimal digits. -/
def txt (S : List Nat) : ByteArray := ⟨(S.map fun d => UInt8.ofNat (48 + d)).toArray⟩

theorem add_plain (g o j : Nat) : (⟨g, o, none⟩ : Addr).add j = ⟨g, o + j, none⟩ := by
  unfold Addr.add
  split
  · subst_vars; rfl
  · rfl

/-- The end of the text as a string. -/
theorem Fd.string {w : World} {g T n c at' : Nat} {S Z S' : List Nat} (hF : Fd w g T S) (hS : S = Z ++ S') (hd : Dd S') (hat : at' + S'.length = T) (hn : n = S'.length) :
    (convert 79 9 (.slice (some ⟨g, at', none⟩) n c)).run Try.prog w = .ok (.string (txt S')) w := by
  have hl : (S'.map fun d => UInt8.ofNat (48 + d)).length = S'.length := List.length_map _
  have h := run_convert_bytes_back (P := Try.prog) w 79 9 5 ⟨g, at', none⟩ c (S'.map fun d => UInt8.ofNat (48 + d)) Try.underlying79 Try.underlying5 Try.underlying9 (by
    intro j hj
    have hj' : j < S'.length := by rw [← hl]; exact hj
    have hSl : S.length = Z.length + S'.length := by rw [hS, List.length_append]
    have h1 := hF.digit (j := Z.length + j) (by omega)
    have h2 : T - S.length + (Z.length + j) = at' + j := by have := hF.1; omega
    have h3 : gd S (Z.length + j) = S'[j] := by
      rw [hS, gd_append_right (by omega), Nat.add_sub_cancel_left, gd_lt hj']
    have h6 : S'[j] < 10 := hd _ (List.getElem_mem _)
    rw [h2, h3] at h1
    rw [add_plain, h1, List.getElem_map]
    have h7 : (UInt8.ofNat (48 + S'[j])).toNat = 48 + S'[j] := UInt8.toNat_ofNat_of_lt' (by show _ < 256; omega)
    rw [h7])
  rw [hl] at h
  rw [hn]
  exact h

set_option maxRecDepth 100000 in
set_option maxHeartbeats 4000000 in
theorem format_any (p : Option Addr) (n c : Nat) (xs : List Nat) (w : World) (h : Sl w p n c xs) (hn : n ≤ 1048576) :
    Calls Try.prog 59 #[.slice p n c] w fun e w' => e = .returned (.string (txt (fmt (val xs)))) ∧ Fr [] w w' := by
  have hlt := val_lt h.dig
  rw [h.len] at hlt
  go_enter Try.func59, Try.ntmps59
  go_wp2_with fail
  refine (clone_any _ _ _ _ _ h (by omega)).mono ?_
  rintro e w1 ⟨p1, c1, rfl, ho1, hf1⟩
  have hl1 := h.len
  rw [hl1] at ho1
  rw [hl1]
  go_wp2_with fail
  refine (cut_any _ _ _ _ _ ho1.sl).mono ?_
  rintro e w2 ⟨rfl, rfl⟩
  have ho2 := ho1.cut
  have hLn := dg_len_val h.dig
  rw [h.len] at hLn
  have hltL := dg_lt (val xs)
  obtain ⟨L, hL⟩ : ∃ L, L = (dg (val xs)).length := ⟨_, rfl⟩
  rw [← hL] at hltL hLn
  have HL := Lib.hid hL
  clear ho1 h hl1 hL hlt
  have hLL := HL.out
  go_wp2_with (at_make; refine wpList_mk8 rfl _ _ rfl _ _ _ _ (10 * L + 9) rfl rfl (by omega) (by omega) (by omega) ?_)
  intro w3 hfd hf3 hsz3
  have ho3 := ho2.kept hf3
  have hpg : ∀ m, val xs ≠ 0 → w1.heap.size ∉ pbn p1 m := by
    intro m h0
    rcases ho2.own with h1 | ⟨g', L', h1, _, hb, _⟩
    · exact absurd (dg_nil.1 h1) h0
    · subst h1
      have := hb.lt
      unfold pbn
      split
      · simp
      · simp; omega
  have hfw3 : Fr [] w w3 := hf1.trans hf3 (by simp)
  clear ho2 hLL
  have hTL : Hid (10 * (dg (val xs)).length + 9 = 10 * L + 9) := by show _ = _; rw [HL.out]
  have hTb : 10 * (dg (val xs)).length + 9 ≤ 10 * n + 9 := by rw [hTL.out]; omega
  generalize hT : 10 * (dg (val xs)).length + 9 = T at *
  have hg1 : w.heap.size ≤ w1.heap.size := hf1.size
  generalize hg : w1.heap.size = g at *
  clear hT hg
  have HRoom : Hid (∀ s R, R ≠ 0 → val xs = R * 10 ^ s + 0 * s + (val xs - R * 10 ^ s) → R * 10 ^ s ≤ val xs → s + 9 ≤ T) := by
    intro s R hR _ hle
    have h1 : 1 * 10 ^ s ≤ R * 10 ^ s := Nat.mul_le_mul_right _ (by omega)
    have h2 := dec_len (s := s) (v := val xs) (L := L) (by omega) hltL
    rw [hTL.out]
    omega
  go_wp2
  go_loopg [3, 5] (val xs) (fun k s t wr => ∃ (S : List Nat), s = .slice p1 (dg k).length c1 ∧ t = .int .i64 ((T - S.length : Nat) : Int) ∧ Ow wr w.heap.size p1 (dg k).length c1 (dg k) ∧ Dd S ∧ val xs = k * 10 ^ S.length + dvB S ∧ Fd wr g T S ∧ Fr [] w wr)
  case atStart => exact ⟨[], rfl, rfl, ho3, Dd.nil, by simp [dvB], hfd, hfw3⟩
  case round =>
    obtain ⟨S, rfl, rfl, ho, hS, hv, hF, hf⟩ := hrel
    have Hv := Lib.hid hv
    clear ho3 hfd hfw3 hsz3 hf3 hv
    by_cases hk : gk = 0
    · subst hk
      have hz : (dg 0).length = 0 := by rw [dg_zero]; rfl
      rw [hz]
      have hv0 : dvB S = val xs := by have := Hv.out; rw [Nat.zero_mul, Nat.zero_add] at this; exact this.symm
      have Hv0 := Lib.hid hv0
      have hST := hF.1
      clear hv0 ho hz
      go_wp2
      go_loop [5] (fun s => ∃ Z S' : List Nat, S = Z ++ S' ∧ s = .int .i64 ((T - S'.length : Nat) : Int) ∧ dvB S' = val xs ∧ S'.length ≤ T) (fun s => (T - intOf s).toNat)
      case atStart => exact ⟨[], S, rfl, rfl, Hv0.out, hST⟩
      case round =>
        obtain ⟨Z, S', hZS, rfl, hdv, hSl⟩ := hrel
        have HZS := Lib.hid hZS
        have Hdv := Lib.hid hdv
        have hSd : Dd S' := fun d hd => hS d (by rw [hZS]; exact List.mem_append_right _ hd)
        clear hZS hdv
        cases S' with
        | nil =>
          have hx0 : fmt (val xs) = [0] := by
            have := Hdv.out
            rw [dvB] at this
            unfold fmt
            rw [if_pos this.symm]
          have HX := Lib.hid hx0
          clear hx0
          have hT0 : T - ([] : List Nat).length = T := rfl
          rw [hT0]
          clear hT0
          go_wp2
          go_ret
          rw [HX.out]
          exact ⟨rfl, hf⟩
        | cons d S' =>
          have hSt : S.length = Z.length + (S'.length + 1) := by have := congrArg List.length HZS.out; simpa using this
          have hidx : T - S.length + Z.length = T - (d :: S').length := by rw [List.length_cons]; omega
          have hc := hF.digit (j := Z.length) (by omega)
          rw [hidx] at hc
          have hgd : gd S Z.length = d := by
            have : S = Z ++ d :: S' := HZS.out
            rw [this, gd_append_right (Nat.le_refl _), Nat.sub_self]
            rfl
          rw [hgd] at hc
          have hd10 := hSd.head
          obtain ⟨at', hat⟩ : ∃ a, a = T - (d :: S').length := ⟨_, rfl⟩
          rw [← hat] at hc ⊢
          have hat2 : at' + (S'.length + 1) = T := by rw [hat, List.length_cons]; rw [List.length_cons] at hSl; omega
          have HSt := Lib.hid hSt
          clear hSt hidx hgd hat
          by_cases hd0 : d = 0
          · subst hd0
            go_wp2
            go_round
            case rel => exact ⟨Z ++ [0], S', by rw [HZS.out]; simp, congrArg (Value.int .i64) (by omega), by have := Hdv.out; rwa [dvB_zero_cons] at this, by omega⟩
            case measure => simp [intOf]; omega
          · have hne : (((48 + d : Nat) : Int) == 48) = false := beq_eq_false_iff_ne.2 (by omega)
            have hne2 : ((48 + (d : Int)) == 48) = false := beq_eq_false_iff_ne.2 (by omega)
            have hfm : fmt (val xs) = d :: S' := by
              have h1 := Hdv.out
              have h2 := dvB_pos (x := d) (S := S') hd0
              unfold fmt
              rw [if_neg (by omega), ← h1]
              exact dB_of _ hSd (by intro x U e; cases e; exact hd0)
            have HF := Lib.hid hfm
            have hconv := hF.string (n := T - at') (c := T - at') (at' := at') HZS.out hSd (by rw [List.length_cons]; exact hat2) (by rw [List.length_cons]; omega)
            clear hfm hd0
            go_wp2
            go_ret
            rw [HF.out]
            exact ⟨rfl, hf⟩
    · have hlz : (dg gk).length ≠ 0 := fun e => hk (dg_nil.1 (List.eq_nil_of_length_eq_zero e))
      have hle1 : gk ≤ val xs := by
        have h1 : gk * 1 ≤ gk * 10 ^ S.length := Nat.mul_le_mul_left _ (Nat.pow_pos (by decide))
        have := Hv.out
        omega
      have hroom := HRoom.out S.length gk hk (by have := Hv.out; omega) (by have := Hv.out; omega)
      have hkl : (dg gk).length ≤ n := by
        have := dg_len_mono hle1
        rw [← HL.out] at this
        omega
      have hGl : gk % 1000000000 < 1000000000 := Nat.mod_lt _ (by decide)
      have HG := Lib.hid (dec_group Hv.out)
      have hpg' := hpg (dg gk).length (by omega)
      go_wp2_with fail
      refine (divd_any _ _ _ 1000000000 _ _ _ ho (by decide) (by decide) (by omega)).mono ?_
      rw [val_dg]
      rintro e w4 ⟨rfl, Q, hQl, hQv, hoQ, hf4⟩
      have hfw4 : Fr [] w w4 := ho.frame (Nat.le_refl _) hf hf4
      have hF4 := hF.keep hf4 hpg'
      have hkQ := hoQ.cut
      rw [hQv] at hkQ
      have HQv := Lib.hid hQv
      have hsl := hoQ.sl
      have hdec : gk / 1000000000 < gk := Nat.div_lt_self (by omega) (by decide)
      clear hQl hQv hF ho hf hf4 hoQ
      generalize hG : gk % 1000000000 = G at *
      clear hG
      go_wp2_with fail
      refine (cut_any _ _ _ _ _ hsl).mono ?_
      rintro e w5 ⟨rfl, rfl⟩
      rw [HQv.out]
      clear hsl
      generalize hR : gk / 1000000000 = R at *
      have HR := Lib.hid hR
      clear hR
      go_wp2
      go_loopw [5, 6, 24] (fun s t u wr => ∃ (i G' : Nat) (S' : List Nat), i ≤ 9 ∧ s = .int .i64 ((T - S'.length : Nat) : Int) ∧ t = .int .u32 G' ∧ u = .int .i64 ((9 - i : Nat) : Int) ∧ G' < 10 ^ i ∧ S'.length + i = S.length + 9 ∧ Dd S' ∧ val xs = (R * 10 ^ i + G') * 10 ^ S'.length + dvB S' ∧ Fd wr g T S' ∧ Fr [g] w4 wr) (fun _ _ u _ => (9 - intOf u).toNat)
      case atStart => exact ⟨9, G, S, Nat.le_refl _, rfl, rfl, rfl, hGl, rfl, hS, HG.out, hF4, Fr.refl _ _⟩
      case round =>
        obtain ⟨i, G', S', hi9, rfl, rfl, rfl, hG', hlen, hS', hv', hF', hf'⟩ := hrel
        have HGl := Lib.hid hG'
        have HV' := Lib.hid hv'
        have HLen := Lib.hid hlen
        clear hG' hv'
        cases i with
        | zero =>
          have hG0 : G' = 0 := by have := HGl.out; simp at this; exact this
          have hlen' : S'.length = S.length + 9 := by omega
          have hkQ' := hkQ.keep2 hf' (by
            intro x hx1 hx2
            rw [List.mem_singleton] at hx2
            subst hx2
            exact hpg _ (by omega) hx1)
          go_wp2
          go_roundg R
          case rel => exact ⟨S', rfl, rfl, hkQ', hS', by have := HV'.out; rw [hG0, Nat.pow_zero] at this; rw [this]; simp, hF', hfw4.trans hf' (by simp; omega)⟩
          case measure => exact hdec
        | succ i =>
          have hlS : T - S'.length = (T - S'.length - 1) + 1 := by omega
          obtain ⟨k, hkk⟩ : ∃ k, k = T - S'.length - 1 := ⟨_, rfl⟩
          have hk1 : k + 1 + S'.length = T := by omega
          have hc := hF'.zero hk1
          have hfr := hF'.free k
          have hset := Lib.hid (hF'.set hk1 (G' % 10))
          have hstep := Lib.hid (dec_step HV'.out)
          have hG2 : Hid (G' / 10 < 10 ^ i) := by
            show _ < _
            have := HGl.out
            rw [Nat.pow_succ] at this
            omega
          have hGb : G' < 4294967296 := by
            have := HGl.out
            have h9 : (10 : Nat) ^ (i + 1) ≤ 10 ^ 9 := Nat.pow_le_pow_right (by decide) hi9
            omega
          have hidx : ((T - S'.length : Nat) : Int) - 1 = (k : Int) := by omega
          have hidx2 : ((T - (S'.length + 1) : Nat) : Int) = (k : Int) := by omega
          have h9i : (9 - (i + 1) : Nat) < 9 := by omega
          have HLS := Lib.hid hlS
          clear hlS hkk hF'
          go_wp2
          go_roundw
          case rel =>
            have e1 : (G' : Int) / 10 = ((G' / 10 : Nat) : Int) := by omega
            have e2 : 48 + (G' : Int) % 10 = ((48 + G' % 10 : Nat) : Int) := by omega
            have e3 : ((8 - i : Nat) : Int) + 1 = ((9 - i : Nat) : Int) := by omega
            rw [e1, e2, e3]
            exact ⟨i, G' / 10, (G' % 10) :: S', by omega, by rw [List.length_cons, hidx2], rfl, rfl, hG2.out, by rw [List.length_cons]; omega, Dd.cons (by omega) hS', hstep.out, hset.out, hf'.setCell _ _ (by simp)⟩
          case measure => simp [intOf]; omega

end Go.Proofs.Ytfjhdhmneknmkaa
