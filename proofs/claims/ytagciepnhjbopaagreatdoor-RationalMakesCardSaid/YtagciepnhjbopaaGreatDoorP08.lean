/- What the statements of this claim stand on: of Pow, Shift, what they name -/
import Derived.Test.YtagciepnhjbopaaGreatDoorP07

namespace Go.Proofs.YtagciepnhjbopaaGreatDoor
open Go.RowKit

theorem dg_one : dg 1 = [1] := by
  rw [dg_pos (by decide)]
  have : dg (1 / 4294967296) = [] := dg_zero
  rw [this]

theorem madeCells_dv (n : Nat) : madeCells #[Value.int .u32 0] n = ((List.replicate n 0).map dv).toArray := by
  apply Array.ext
  · simp [madeCells]
  · intro i h1 h2
    simp [madeCells, Nat.mod_one]

theorem wpList_mk {w : World} {ops : Array Oper} {rest : List Oper} {o : Oper} {a : Act} {Q : Exit → Act → World → Prop}
    (hg : o.guard = none) (x y : Operand) (hop : o.op = Op.makeSlice 22 x y)
    (kl kc : IntKind) (L C : Int) (l c : Nat) (hl : a.eval x = .int kl L) (hc : a.eval y = .int kc C) (hL : L = (l : Int)) (hC : C = (c : Int)) (_hlc : l ≤ c) (_h63 : c ≤ 70368744177664)
    (hK : wpList Tryz.prog ops Q rest (a.put o.dst (.slice (some ⟨w.heap.size, 0, none⟩) l c)) (w.alloc (.cells ((List.replicate c 0).map dv).toArray 52))) :
    wpList Tryz.prog ops Q (o :: rest) a w := by
  obtain ⟨i0, hi, hz0, hz1, hz2⟩ := info_parts Tryz.infoU
  refine wpList_plain hg fun K hK' => ?_
  have hrun := run_make (P := Tryz.prog) w 22 52 i0 (.int .u32 0) Tryz.underlying22 hi hz0 kl kc L C (by omega) (by omega) (by rw [hz2]; omega) (by omega)
  have e : madeCells (Value.int .u32 0).cells (C.toNat * i0.size) = ((List.replicate c 0).map dv).toArray := by
    rw [hz1, Nat.mul_one, hC, Int.toNat_natCast]
    exact madeCells_dv c
  rw [e, hL, hC, Int.toNat_natCast, Int.toNat_natCast] at hrun
  subst hL
  subst hC
  unfold Oper.wp
  simp only [execOp, hop, hl, hc, hrun, Result.andThen, Sem.run_bind, Sem.run_pure]
  exact hK' _ _ hK

theorem pow_lt {v L e : Nat} (h : v < pB L) (_he : 0 < e) : v ^ e < pB (L * e) := by
  unfold pB at *
  rw [Nat.pow_mul]
  exact Nat.pow_lt_pow_left h (by omega)

theorem pow_len {xs : List Nat} (h : Dg xs) (e : Nat) : (dg (val xs ^ e)).length ≤ xs.length * e + 1 := by
  cases e with
  | zero => rw [Nat.pow_zero, dg_one]; simp
  | succ e =>
    have := dg_len_le (pow_lt (e := e + 1) (val_lt h) (Nat.succ_pos e))
    omega

theorem half_step (n k : Nat) : n / 2 ^ k = 2 * (n / 2 ^ (k + 1)) + n / 2 ^ k % 2 := by
  rw [Nat.pow_succ, ← Nat.div_div_eq_div_mul]
  omega

theorem i64_and1 (n : Nat) (_h : n < 9223372036854775808) : bits .and .i64 (n : Int) 1 = ((n % 2 : Nat) : Int) := by
  have h1 : (BitVec.ofInt 64 (n : Int)).toNat = n := by
    rw [BitVec.ofInt_natCast, BitVec.toNat_ofNat]; exact Nat.mod_eq_of_lt (by omega)
  have h2 : (BitVec.ofInt 64 1).toNat = 1 := by decide
  show IntKind.i64.wrap ((BitVec.ofInt 64 (n : Int) &&& BitVec.ofInt 64 1).toNat : Int) = _
  rw [BitVec.toNat_and, h1, h2, Nat.and_one_is_mod, IntKind.wrap_i64]
  omega

set_option maxRecDepth 100000 in
set_option maxHeartbeats 2000000 in
theorem power_any (p : Option Addr) (n c e : Nat) (xs : List Nat) (w : World) (h : Sl w p n c xs) (hn : n ≤ 1048576) (he : e ≤ 64) :
    Calls Tryz.prog 175 #[.slice p n c, .int .i64 e] w (RetOwn w (dg (val xs ^ e))) := by
  have hone := Ow.made w (base := w.heap.size) [1] (Nat.le_refl _) (by simp) (Dg.one (by decide))
  simp only [List.map_cons, List.map_nil, List.length_cons, List.length_nil] at hone
  have hfo : Fr [] w (w.alloc (.cells #[dv 1] 52)) := (Fr.refl _ _).alloc _
  have hbl := bl_le (x := e) (n := 7) (by omega)
  have hw0 : IntKind.u64.wrap (e : Int) = (e : Int) := wrap_u64_lt (by omega) (by omega)
  have hlen := fun j => pow_len h.dig j
  rw [h.len] at hlen
  go_enter Tryz.func175, Tryz.ntmps175
  go_wp2_with fail
  refine (len_any e _ (by omega)).mono ?_
  rintro e1 w' ⟨rfl, rfl⟩
  go_wp2
  go_loopw [5, 6] (fun s t wr => ∃ (k : Nat) (q : Option Addr) (cq : Nat), k ≤ bl e ∧ s = .slice q (dg (val xs ^ (e / 2 ^ k))).length cq ∧ t = .int .i64 ((k : Int) - 1) ∧ Ow wr w.heap.size q (dg (val xs ^ (e / 2 ^ k))).length cq (dg (val xs ^ (e / 2 ^ k))) ∧ Fr [] w wr) (fun _ t _ => (intOf t + 1).toNat)
  case atStart =>
    have e0 : e / 2 ^ bl e = 0 := Nat.div_eq_of_lt (bl_lt e)
    have e1 : dg (val xs ^ 0) = [1] := by rw [Nat.pow_zero]; exact dg_one
    refine ⟨bl e, some ⟨w.heap.size, 0, none⟩, 1, Nat.le_refl _, ?_, rfl, ?_, hfo⟩
    · rw [e0, e1]; rfl
    · rw [e0, e1]; exact hone
  case round =>
    obtain ⟨k, q, cq, hk, rfl, rfl, ho, hf⟩ := hrel
    clear hone hfo
    cases k with
    | zero =>
      rw [show (((0 : Nat) : Int) - 1) = -1 from rfl]
      have e0 : e / 2 ^ 0 = e := by simp
      rw [e0] at ho ⊢
      have HO := Lib.hid ho
      clear ho e0
      go_wp2
      go_ret
      exact ⟨q, cq, rfl, HO.out, hf⟩
    | succ k =>
      rw [show (((k + 1 : Nat) : Int) - 1) = k from by omega]
      have hhalf := half_step e k
      have hv1 := hlen (e / 2 ^ (k + 1))
      have hle : e / 2 ^ (k + 1) ≤ e := Nat.div_le_self _ _
      generalize hE : e / 2 ^ (k + 1) = E at *
      have hHalf := Lib.hid hhalf
      have hHE := Lib.hid hE
      clear hhalf hE
      have hmul : n * E ≤ 1048576 * 64 := Nat.mul_le_mul hn (by omega)
      go_wp2_with fail
      refine (mul_any _ _ _ _ _ _ _ _ _ ho.sl ho.sl (by omega) (by omega)).mono ?_
      rw [val_dg]
      rintro e1 w1 ⟨q1, c1, rfl, ho1, hf1⟩
      rw [← Nat.pow_add, ← Nat.two_mul] at ho1 ⊢
      have hf2 : Fr [] w w1 := hf.trans hf1 (by simp)
      have ho2 := ho1.mono (b' := w.heap.size) hf.size
      have hv2 := hlen (2 * E)
      have hm2 : n * (2 * E) ≤ 1048576 * 128 := Nat.mul_le_mul hn (by omega)
      clear ho ho1
      generalize hF : e / 2 ^ k = F at *
      have HF := Lib.hid hF
      have hFE := hHalf.out
      have hFl : F ≤ 64 := by rw [← hF]; exact Nat.le_trans (Nat.div_le_self _ _) he
      clear hF
      have hsh : (e : Int) / 2 ^ k = (F : Int) := by rw [← HF.out]; simp
      have hand := i64_and1 F (by omega)
      by_cases hbit : F % 2 = 1
      · rw [hbit] at hand
        have hpw : Hid (val xs ^ (2 * E) * val xs = val xs ^ F) := by
          show _ = _
          rw [← Nat.pow_succ]
          congr 1
          omega
        have h1 := h.kept hf2
        clear hFE hbit
        go_wp2_with fail
        refine (mul_any _ _ _ _ _ _ _ _ _ ho2.sl h1 (by omega) (by omega)).mono ?_
        rw [val_dg, hpw.out]
        rintro e1 w3 ⟨q3, c3, rfl, ho3, hf3⟩
        have ho4 := ho3.mono (b' := w.heap.size) hf2.size
        have hf4 : Fr [] w w3 := hf2.trans hf3 (by simp)
        clear ho3
        go_wp2_with fail
        go_roundw
        case rel => exact ⟨k, q3, c3, by omega, by rw [HF.out], rfl, by rw [HF.out]; exact ho4, hf4⟩
        case measure => simp [intOf]
      · have hb0 : F % 2 = 0 := by omega
        rw [hb0] at hand
        have hpw : 2 * E = F := by omega
        rw [hpw] at ho2 ⊢
        clear hFE hbit hb0 hpw
        go_wp2_with fail
        go_roundw
        case rel => exact ⟨k, q1, c1, by omega, by rw [HF.out], rfl, by rw [HF.out]; exact ho2, hf2⟩
        case measure => simp [intOf]

theorem pow_yes (p : Option Addr) (n c e : Nat) (xs : List Nat) (w : World) (h : Sl w p n c xs) (hn : n ≤ 1048576) (he : e ≤ 64) :
    Calls Tryz.prog 121 #[.slice p n c, .int .i64 e] w fun e1 w' => ∃ q cq, e1 = .returned (.tuple #[.slice q (dg (val xs ^ e)).length cq, .int .i64 0]) ∧ Ow w' w.heap.size q (dg (val xs ^ e)).length cq (dg (val xs ^ e)) ∧ Fr [] w w' := by
  go_enter Tryz.func121, Tryz.ntmps121
  go_wp2_with fail
  refine (power_any _ _ _ e _ _ h hn he).mono ?_
  rintro e1 w1 ⟨q, cq, rfl, ho, hf⟩
  go_wp2_with fail
  go_ret2
  exact ⟨q, cq, rfl, ho, hf⟩

theorem pow_no (p : Option Addr) (n c : Nat) (e : Int) (w : World) (he : e < 0 ∨ 64 < e) :
    Calls Tryz.prog 121 #[.slice p n c, .int .i64 e] w fun e1 w' => e1 = .returned (.tuple #[.slice none 0 0, .int .i64 1]) ∧ w = w' := by
  rcases he with he | he
  · go_enter Tryz.func121, Tryz.ntmps121
    go_wp2
    go_ret2
    exact ⟨rfl, rfl⟩
  · have h0 : ¬ e < 0 := by omega
    go_enter Tryz.func121, Tryz.ntmps121
    go_wp2
    go_ret2
    exact ⟨rfl, rfl⟩

theorem bl_dg {n L : Nat} (h : (dg n).length = L + 1) : bl n = 32 * L + bl (gd (dg n) L) := by
  have h0 := dg_last h
  have h1 := val_take_succ (dg n) L
  rw [List.take_of_length_le (by omega), val_dg] at h1
  have h2 := val_lt ((Dg_dg n).take L)
  rw [List.length_take, Nat.min_eq_left (by omega)] at h2
  have h3 := bl_lt (gd (dg n) L)
  have h4 := bl_ge h0
  have h5 := bl_pos h0
  generalize gd (dg n) L = t at *
  have hp : pB L = 2 ^ (32 * L) := by unfold pB; rw [Nat.pow_mul]
  rw [hp] at h1 h2
  apply bl_eq
  · rw [Nat.pow_add]
    have : 2 ^ (32 * L) * (t + 1) ≤ 2 ^ (32 * L) * 2 ^ bl t := Nat.mul_le_mul_left _ h3
    rw [Nat.mul_add] at this
    omega
  · have e : 32 * L + bl t = 32 * L + (bl t - 1) + 1 := by omega
    rw [e, Nat.pow_succ, Nat.pow_add]
    have : 2 ^ (32 * L) * 2 ^ (bl t - 1) ≤ 2 ^ (32 * L) * t := Nat.mul_le_mul_left _ h4
    omega

set_option maxRecDepth 100000 in
set_option maxHeartbeats 1000000 in
theorem bitLen_any (p : Option Addr) (n c : Nat) (xs : List Nat) (w : World) (h : Sl w p n c xs) (_hn : n ≤ 1099511627776) :
    Calls Tryz.prog 196 #[.slice p n c] w fun e w' => e = .returned (.int .i64 (bl (val xs) : Nat)) ∧ w = w' := by
  have k := h.cut
  have l1 := dg_len_val h.dig
  rw [h.len] at l1
  go_enter Tryz.func196, Tryz.ntmps196
  go_wp2_with fail
  refine (cut_any _ _ _ _ _ h).mono ?_
  rintro e w' ⟨rfl, rfl⟩
  clear h
  by_cases h0 : val xs = 0
  · have hl : (dg (val xs)).length = 0 := by rw [h0, dg_zero]; rfl
    have hb : bl (val xs) = 0 := by rw [h0]; rfl
    have HL := Lib.hid hl
    have HB := Lib.hid hb
    clear hl hb h0 k l1
    rw [HL.out]
    go_wp2_with fail
    go_ret
    rw [HB.out]
    exact ⟨rfl, rfl⟩
  · obtain ⟨L, hL⟩ : ∃ L, (dg (val xs)).length = L + 1 := ⟨(dg (val xs)).length - 1, by have : (dg (val xs)).length ≠ 0 := fun e => h0 (dg_nil.1 (List.eq_nil_of_length_eq_zero e)); omega⟩
    have hb := bl_dg hL
    obtain ⟨b, o, rfl, _, hc⟩ := k.rd.open (by omega)
    have hcl := hc L (by omega)
    have hd := (Dg_dg (val xs)).at L
    have hb32 := bl_le (x := gd (dg (val xs)) L) (n := 32) (by omega)
    clear hc k
    generalize gd (dg (val xs)) L = t at *
    have HB := Lib.hid hb
    have HL := Lib.hid hL
    rw [hL]
    have hLb : L ≤ 1099511627776 := by omega
    clear hL hb h0 l1
    have g1 : (((L + 1 : Nat) : Int) == 0) = false := beq_eq_false_iff_ne.2 (by omega)
    have g2 : ((L : Int) + 1 == 0) = false := beq_eq_false_iff_ne.2 (by omega)
    go_wp2_with fail
    refine (lz32_any t _ hd).mono ?_
    rintro e w' ⟨rfl, rfl⟩
    go_wp2_with fail
    go_ret
    rw [HB.out]
    refine ⟨ret_int ?_, rfl⟩
    show ((L : Int) + 1) * 32 - ((32 - bl t : Nat) : Int) = _
    omega

end Go.Proofs.YtagciepnhjbopaaGreatDoor

namespace Go.Proofs.YtagciepnhjbopaaGreatDoor
open Go.RowKit

theorem val_drop_div {xs : List Nat} (h : Dg xs) (k : Nat) : val (xs.drop k) = val xs / pB k := by
  by_cases hk : k ≤ xs.length
  · have h1 := val_split xs k hk
    have h2 := val_lt (h.take k)
    rw [List.length_take, Nat.min_eq_left hk] at h2
    rw [h1, Nat.add_comm, Nat.mul_add_div (pB_pos k), Nat.div_eq_of_lt h2]
    rfl
  · rw [List.drop_of_length_le (by omega)]
    have h2 := val_lt h
    have h3 := pB_mono (j := xs.length) (k := k) (by omega)
    rw [Nat.div_eq_of_lt (by omega)]
    rfl

theorem pB_two (k : Nat) : pB k = 2 ^ (32 * k) := by unfold pB; rw [Nat.pow_mul]

theorem shr_split (v n : Nat) : v / pB (n / 32) / 2 ^ (n % 32) = v / 2 ^ n := by
  rw [pB_two, Nat.div_div_eq_div_mul, ← Nat.pow_add]
  congr 2
  omega

theorem Sl.drop {w : World} {p : Option Addr} {n c : Nat} {xs : List Nat} (h : Sl w p n c xs) (k : Nat) (_hk : k < n) : ∃ b o, p = some ⟨b, o, none⟩ ∧ Sl w (some ⟨b, o + k, none⟩) (n - k) (c - k) (xs.drop k) := by
  obtain ⟨b, o, rfl, hb, hc⟩ := h.rd.open (by rw [h.len]; omega)
  refine ⟨b, o, rfl, ⟨by rw [List.length_drop, h.len], by have := h.le; omega, by have := h.cap; omega, (by intro e; cases e), Or.inr ⟨b, o + k, rfl, hb, fun j hj => ?_⟩, h.dig.drop k⟩⟩
  rw [List.length_drop] at hj
  rw [gd_drop, Nat.add_assoc]
  exact hc (k + j) (by omega)

set_option maxRecDepth 100000 in
set_option maxHeartbeats 1000000 in
theorem lower_any (p : Option Addr) (n c s : Nat) (xs : List Nat) (w : World) (h : Sl w p n c xs) (_hn : n ≤ 1099511627775) (_hs : s < 18446744073709551616) :
    Calls Tryz.prog 214 #[.slice p n c, .int .u64 s] w (RetOwn w (dg (val xs / 2 ^ s))) := by
  have k := h.cut
  have l1 := dg_len_val h.dig
  rw [h.len] at l1
  go_enter Tryz.func214, Tryz.ntmps214
  go_wp2_with fail
  refine (cut_any _ _ _ _ _ h).mono ?_
  rintro e w' ⟨rfl, rfl⟩
  clear h
  have hv := val_dg (val xs)
  have hd := Dg_dg (val xs)
  have hlt := dg_lt (val xs)
  by_cases hw : (dg (val xs)).length ≤ s / 32
  · have hz : val xs / 2 ^ s = 0 := by
      have h1 := pB_mono hw
      rw [← shr_split, Nat.div_eq_of_lt (show val xs < pB (s / 32) by omega), Nat.zero_div]
    have HZ := Lib.hid hz
    clear hz hv hlt
    generalize (dg (val xs)).length = L at *
    have hwr : IntKind.u64.wrap (L : Int) = (L : Int) := wrap_u64_lt (by omega) (by omega)
    have hdec : decide (L ≤ s / 32) = true := by simpa using hw
    have hdec2 : decide ((L : Int) ≤ (s : Int) / 32) = true := by simp; omega
    go_wp2
    go_ret
    rw [HZ.out, dg_zero]
    exact ⟨none, 0, rfl, Ow.zero _ _, Fr.refl _ _⟩
  · obtain ⟨b, o, rfl, hsl⟩ := k.drop (s / 32) (by omega)
    have hval : val ((dg (val xs)).drop (s / 32)) / 2 ^ (s % 32) = val xs / 2 ^ s := by
      rw [val_drop_div hd, hv, shr_split]
    have HV := Lib.hid hval
    clear hval hv hlt k hd
    generalize (dg (val xs)).drop (s / 32) = Y at *
    generalize (dg (val xs)).length = L at *
    have hwr : IntKind.u64.wrap (L : Int) = (L : Int) := wrap_u64_lt (by omega) (by omega)
    have hdec2 : decide ((L : Int) ≤ (s : Int) / 32) = false := by simp; omega
    have hLn : L ≤ c := by have := hsl.le; omega
    go_wp2_with fail
    rw [show (s : Int) % 32 = ((s % 32 : Nat) : Int) from by omega]
    refine (lowerBits_any _ _ _ (s % 32) _ _ hsl (by omega) (by omega)).mono ?_
    rintro e w1 ⟨g, Z, rfl, h1, h2, h3, h4, h5, hf⟩
    have ho := Ow.of_blk (base := w.heap.size) h2 h1 (by omega) h4
    rw [h3] at ho
    have hvz : Hid (val Z = val xs / 2 ^ s) := h5.trans HV.out
    have HO := Lib.hid ho
    clear ho h3 h5
    go_wp2_with fail
    refine (normal_any _ _ _ _ _ _ HO.out).mono ?_
    rw [hvz.out]
    rintro e w2 ⟨⟨p', c', rfl, ho'⟩, rfl⟩
    go_wp2_with fail
    go_ret
    exact ⟨p', c', rfl, ho', hf⟩

theorem Fr.grown_none {w w' : World} (f : Fr [] w w') : w.grownBy w' none := ⟨f.os, f.tape, f.output, f.size, fun k hk _ => f.block k hk (by simp)⟩

theorem shl_split (v n : Nat) : pB (n / 32) * (v * 2 ^ (n % 32)) = v * 2 ^ n := by
  rw [pB_two, Nat.mul_left_comm, ← Nat.pow_add]
  congr 2
  omega

set_option maxRecDepth 100000 in
set_option maxHeartbeats 1000000 in
theorem raise_any (p : Option Addr) (n c s : Nat) (xs : List Nat) (w : World) (h : Sl w p n c xs) (_hn : n ≤ 1099511627775) (_hs : s < 35184372088832) :
    Calls Tryz.prog 215 #[.slice p n c, .int .u64 s] w (RetOwn w (dg (val xs * 2 ^ s))) := by
  obtain ⟨i0, hi, hz0, hz1, hz2⟩ := info_parts Tryz.infoU
  have k := h.cut
  have l1 := dg_len_val h.dig
  rw [h.len] at l1
  have hv := val_dg (val xs)
  go_enter Tryz.func215, Tryz.ntmps215
  go_wp2_with fail
  refine (cut_any _ _ _ _ _ h).mono ?_
  rintro e w' ⟨rfl, rfl⟩
  clear h
  by_cases h0 : val xs = 0
  · have hl : (dg (val xs)).length = 0 := by rw [h0, dg_zero]; rfl
    have hb : dg (val xs * 2 ^ s) = [] := by rw [h0, Nat.zero_mul, dg_zero]
    have HL := Lib.hid hl
    have HB := Lib.hid hb
    clear hl hb h0 k l1 hv
    rw [HL.out]
    go_wp2_with fail
    go_ret
    rw [HB.out]
    exact ⟨none, 0, rfl, Ow.zero _ _, Fr.refl _ _⟩
  · have hlz : (dg (val xs)).length ≠ 0 := fun e => h0 (dg_nil.1 (List.eq_nil_of_length_eq_zero e))
    have HV := Lib.hid hv
    clear hv h0
    generalize dg (val xs) = X at *
    have g1 : ((X.length : Int) == 0) = false := beq_eq_false_iff_ne.2 (by omega)
    have hw1 : IntKind.i64.wrap ((s : Int) / 32) = (s : Int) / 32 := IntWalk.i64_in _ (by omega)
    go_wp2_with (first
      | (at_make; refine wpList_mk rfl _ _ rfl _ _ _ _ (s / 32) (s / 32 + X.length + 1) rfl rfl (by omega) (by omega) (by omega) (by omega) ?_))
    have hown : (w.alloc (.cells ((List.replicate (s / 32 + X.length + 1) 0).map dv).toArray 52)).ownsRow w.heap.size 52 1 (.slice (some ⟨w.heap.size, 0, none⟩) (s / 32) (s / 32 + X.length + 1)) (s / 32) ((List.replicate (s / 32) 0).map dv) := by
      refine ⟨by simp, Or.inr ⟨w.heap.size, _, _, rfl, Nat.le_refl _, heap_alloc_new w _, by omega, by unfold maxLen; omega, by simp, ?_⟩⟩
      simp
      omega
    have hfa : Fr [] w (w.alloc (.cells ((List.replicate (s / 32 + X.length + 1) 0).map dv).toArray 52)) := (Fr.refl _ _).alloc _
    have hX := k.kept hfa
    have hsz : (w.alloc (.cells ((List.replicate (s / 32 + X.length + 1) 0).map dv).toArray 52)).heap.size = w.heap.size + 1 := by simp
    rw [show Array.replicate (s / 32 + X.length + 1) (dv 0) = ((List.replicate (s / 32 + X.length + 1) 0).map dv).toArray by simp]
    generalize w.alloc (.cells ((List.replicate (s / 32 + X.length + 1) 0).map dv).toArray 52) = w1 at *
    rw [show (s : Int) % 32 = ((s % 32 : Nat) : Int) from by omega]
    refine (raiseBits_any _ _ _ (s % 32) _ _ hX (by omega) (by omega)).mono ?_
    rintro e w2 ⟨g, Z, rfl, h1, h2, h3, h4, h5, hf⟩
    have hown2 := hown.kept hf.grown_none (by simp [Value.ownBlock])
    have hrd : Rd w2 (some ⟨g, 0, none⟩) Z := (Sg.map Z).rd h2
    have hbz : w.heap.size ≤ w2.heap.size := by have := hf.size; omega
    have hvz : Hid (val (List.replicate (s / 32) 0 ++ Z) = val xs * 2 ^ s) := by
      show _ = _
      rw [val_append, val_zeros, List.length_replicate, h5, HV.out, Nat.zero_add, shl_split]
    have HZ := Lib.hid h3
    have hnews := hrd.news
    have hD : Dg (List.replicate (s / 32) 0 ++ Z) := (Dg.zeros _).append h4
    have hfw : Fr [] w w2 := hfa.trans hf (by simp)
    clear hown h3 h5 hrd hX
    go_wp2_with (at_builtin; refine wpList_append_own _ rfl _ _ 22 rfl w.heap.size 52 i0 (.int .u32 0) 1 4 Tryz.underlying22 hi hz0 hz1 hz2 rfl (by decide) _ _ _ rfl hown2 ⟨g, 0, none⟩ (X.length + 1) (X.length + 1) (Z.map dv) rfl (by simp [HZ.out]) (by exact hnews) (by exact dv_oneCell _) (by unfold maxLen; omega) (by omega) (by exact hbz) ?_)
    intro v' w3 hown3 hgrow _hn
    clear _hn
    obtain ⟨p3, c3, rfl, ho⟩ := ow_of_row (ds := List.replicate (s / 32) 0 ++ Z) (by simpa using hown3) hD
    have hl3 : (List.replicate (s / 32) 0 ++ Z).length = s / 32 + (X.length + 1) := by simp [HZ.out]
    have hf3 : Fr [] w w3 := hfw.grown hgrow (by intro k hk hl; simp [Value.ownBlock] at hk; omega)
    rw [hl3] at ho ⊢
    have HO := Lib.hid ho
    clear hown3 hgrow ho hl3
    go_wp2_with fail
    refine (normal_any _ _ _ _ _ _ HO.out).mono ?_
    rw [hvz.out]
    rintro e w4 ⟨⟨p', c', rfl, ho'⟩, rfl⟩
    go_wp2_with fail
    go_ret
    exact ⟨p', c', rfl, ho', hf3⟩

def shiftN (v : Nat) (s : Int) : Nat := if 65536 < s then 0 else if s < 0 then v / 2 ^ (-s).toNat else v * 2 ^ s.toNat

set_option maxRecDepth 100000 in
set_option maxHeartbeats 1000000 in
theorem shift_any (p : Option Addr) (n c : Nat) (s : Int) (xs : List Nat) (w : World) (h : Sl w p n c xs) (hn : n ≤ 1099511627775) (_hs : -9223372036854775808 ≤ s) (_hs2 : s ≤ 9223372036854775807) :
    Calls Tryz.prog 200 #[.slice p n c, .int .i64 s] w (RetOwn w (dg (shiftN (val xs) s))) := by
  by_cases h1 : 65536 < s
  · have e : dg (shiftN (val xs) s) = [] := by rw [shiftN, if_pos h1, dg_zero]
    rw [e]
    clear e
    go_enter Tryz.func200, Tryz.ntmps200
    go_wp2
    go_ret
    exact ⟨none, 0, rfl, Ow.zero _ _, Fr.refl _ _⟩
  · by_cases h2 : s < 0
    · have e : shiftN (val xs) s = val xs / 2 ^ (-s).toNat := by rw [shiftN, if_neg h1, if_pos h2]
      rw [e]
      clear e
      go_enter Tryz.func200, Tryz.ntmps200
      go_wp2_with fail
      have hwr : IntKind.u64.wrap (wrap64 (-s)) = (((-s).toNat : Nat) : Int) := by
        rw [IntKind.wrap_u64]
        unfold wrap64
        omega
      rw [hwr]
      refine (lower_any _ _ _ (-s).toNat _ _ h hn (by omega)).mono ?_
      rintro e w1 ⟨q, cq, rfl, ho, hf⟩
      go_wp2_with fail
      go_ret
      exact ⟨q, cq, rfl, ho, hf⟩
    · have e : shiftN (val xs) s = val xs * 2 ^ s.toNat := by rw [shiftN, if_neg h1, if_neg h2]
      rw [e]
      clear e
      obtain ⟨m, rfl⟩ := Int.eq_ofNat_of_zero_le (show 0 ≤ s by omega)
      rw [Int.toNat_natCast]
      have hw0 : IntKind.u64.wrap (m : Int) = (m : Int) := wrap_u64_lt (by omega) (by omega)
      go_enter Tryz.func200, Tryz.ntmps200
      go_wp2_with fail
      refine (raise_any _ _ _ m _ _ h hn (by omega)).mono ?_
      rintro e w1 ⟨q, cq, rfl, ho, hf⟩
      go_wp2_with fail
      go_ret
      exact ⟨q, cq, rfl, ho, hf⟩

end Go.Proofs.YtagciepnhjbopaaGreatDoor
