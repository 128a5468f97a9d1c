/- What the statements of this claim stand on: of Shift, what they name -/
import Derived.Test.YtagciepnhjbopaaGreatDoorT07

namespace Go.Proofs.YtagciepnhjbopaaGreatDoor
open Go.RowKit

theorem val_drop_div {xs : List Nat} (h : Dg xs) (k : Nat) : val (xs.drop k) = val xs / pB k := by
  by_cases hk : k ≤ xs.length
  · have h1 := val_split xs k hk
    have h2 := val_lt (h.take k)
    rw [List.length_take, Nat.min_eq_left hk] at h2
    rw [h1, Nat.add_comm, Nat.mul_add_div (pB_pos k), Nat.div_eq_of_lt h2]
    rfl
  · rw [List.drop_of_length_le (by omega)]
    have h2 := val_lt h
    have h3 := pB_mono (j := xs.length) (k := k) (by omega)
    rw [Nat.div_eq_of_lt (by omega)]
    rfl

theorem pB_two (k : Nat) : pB k = 2 ^ (32 * k) := by unfold pB; rw [Nat.pow_mul]

theorem shr_split (v n : Nat) : v / pB (n / 32) / 2 ^ (n % 32) = v / 2 ^ n := by
  rw [pB_two, Nat.div_div_eq_div_mul, ← Nat.pow_add]
  congr 2
  omega

theorem Sl.drop {w : World} {p : Option Addr} {n c : Nat} {xs : List Nat} (h : Sl w p n c xs) (k : Nat) (_hk : k < n) : ∃ b o, p = some ⟨b, o, none⟩ ∧ Sl w (some ⟨b, o + k, none⟩) (n - k) (c - k) (xs.drop k) := by
  obtain ⟨b, o, rfl, hb, hc⟩ := h.rd.open (by rw [h.len]; omega)
  refine ⟨b, o, rfl, ⟨by rw [List.length_drop, h.len], by have := h.le; omega, by have := h.cap; omega, (by intro e; cases e), Or.inr ⟨b, o + k, rfl, hb, fun j hj => ?_⟩, h.dig.drop k⟩⟩
  rw [List.length_drop] at hj
  rw [gd_drop, Nat.add_assoc]
  exact hc (k + j) (by omega)

set_option maxRecDepth 100000 in
set_option maxHeartbeats 1000000 in
theorem lower_any (p : Option Addr) (n c s : Nat) (xs : List Nat) (w : World) (h : Sl w p n c xs) (_hn : n ≤ 1099511627775) (_hs : s < 18446744073709551616) :
    Calls Tryz.prog 214 #[.slice p n c, .int .u64 s] w (RetOwn w (dg (val xs / 2 ^ s))) := by
  have k := h.cut
  have l1 := dg_len_val h.dig
  rw [h.len] at l1
  go_enter Tryz.func214, Tryz.ntmps214
  go_wp2_with fail
  refine (cut_any _ _ _ _ _ h).mono ?_
  rintro e w' ⟨rfl, rfl⟩
  clear h
  have hv := val_dg (val xs)
  have hd := Dg_dg (val xs)
  have hlt := dg_lt (val xs)
  by_cases hw : (dg (val xs)).length ≤ s / 32
  · have hz : val xs / 2 ^ s = 0 := by
      have h1 := pB_mono hw
      rw [← shr_split, Nat.div_eq_of_lt (show val xs < pB (s / 32) by omega), Nat.zero_div]
    have HZ := Lib.hid hz
    clear hz hv hlt
    generalize (dg (val xs)).length = L at *
    have hwr : IntKind.u64.wrap (L : Int) = (L : Int) := wrap_u64_lt (by omega) (by omega)
    have hdec : decide (L ≤ s / 32) = true := by simpa using hw
    have hdec2 : decide ((L : Int) ≤ (s : Int) / 32) = true := by simp; omega
    go_wp2
    go_ret
    rw [HZ.out, dg_zero]
    exact ⟨none, 0, rfl, Ow.zero _ _, Fr.refl _ _⟩
  · obtain ⟨b, o, rfl, hsl⟩ := k.drop (s / 32) (by omega)
    have hval : val ((dg (val xs)).drop (s / 32)) / 2 ^ (s % 32) = val xs / 2 ^ s := by
      rw [val_drop_div hd, hv, shr_split]
    have HV := Lib.hid hval
    clear hval hv hlt k hd
    generalize (dg (val xs)).drop (s / 32) = Y at *
    generalize (dg (val xs)).length = L at *
    have hwr : IntKind.u64.wrap (L : Int) = (L : Int) := wrap_u64_lt (by omega) (by omega)
    have hdec2 : decide ((L : Int) ≤ (s : Int) / 32) = false := by simp; omega
    have hLn : L ≤ c := by have := hsl.le; omega
    go_wp2_with fail
    rw [show (s : Int) % 32 = ((s % 32 : Nat) : Int) from by omega]
    refine (lowerBits_any _ _ _ (s % 32) _ _ hsl (by omega) (by omega)).mono ?_
    rintro e w1 ⟨g, Z, rfl, h1, h2, h3, h4, h5, hf⟩
    have ho := Ow.of_blk (base := w.heap.size) h2 h1 (by omega) h4
    rw [h3] at ho
    have hvz : Hid (val Z = val xs / 2 ^ s) := h5.trans HV.out
    have HO := Lib.hid ho
    clear ho h3 h5
    go_wp2_with fail
    refine (normal_any _ _ _ _ _ _ HO.out).mono ?_
    rw [hvz.out]
    rintro e w2 ⟨⟨p', c', rfl, ho'⟩, rfl⟩
    go_wp2_with fail
    go_ret
    exact ⟨p', c', rfl, ho', hf⟩

theorem Fr.grown_none {w w' : World} (f : Fr [] w w') : w.grownBy w' none := ⟨f.os, f.tape, f.output, f.size, fun k hk _ => f.block k hk (by simp)⟩

theorem shl_split (v n : Nat) : pB (n / 32) * (v * 2 ^ (n % 32)) = v * 2 ^ n := by
  rw [pB_two, Nat.mul_left_comm, ← Nat.pow_add]
  congr 2
  omega

set_option maxRecDepth 100000 in
set_option maxHeartbeats 1000000 in
theorem raise_any (p : Option Addr) (n c s : Nat) (xs : List Nat) (w : World) (h : Sl w p n c xs) (_hn : n ≤ 1099511627775) (_hs : s < 35184372088832) :
    Calls Tryz.prog 215 #[.slice p n c, .int .u64 s] w (RetOwn w (dg (val xs * 2 ^ s))) := by
  obtain ⟨i0, hi, hz0, hz1, hz2⟩ := info_parts Tryz.infoU
  have k := h.cut
  have l1 := dg_len_val h.dig
  rw [h.len] at l1
  have hv := val_dg (val xs)
  go_enter Tryz.func215, Tryz.ntmps215
  go_wp2_with fail
  refine (cut_any _ _ _ _ _ h).mono ?_
  rintro e w' ⟨rfl, rfl⟩
  clear h
  by_cases h0 : val xs = 0
  · have hl : (dg (val xs)).length = 0 := by rw [h0, dg_zero]; rfl
    have hb : dg (val xs * 2 ^ s) = [] := by rw [h0, Nat.zero_mul, dg_zero]
    have HL := Lib.hid hl
    have HB := Lib.hid hb
    clear hl hb h0 k l1 hv
    rw [HL.out]
    go_wp2_with fail
    go_ret
    rw [HB.out]
    exact ⟨none, 0, rfl, Ow.zero _ _, Fr.refl _ _⟩
  · have hlz : (dg (val xs)).length ≠ 0 := fun e => h0 (dg_nil.1 (List.eq_nil_of_length_eq_zero e))
    have HV := Lib.hid hv
    clear hv h0
    generalize dg (val xs) = X at *
    have g1 : ((X.length : Int) == 0) = false := beq_eq_false_iff_ne.2 (by omega)
    have hw1 : IntKind.i64.wrap ((s : Int) / 32) = (s : Int) / 32 := IntWalk.i64_in _ (by omega)
    go_wp2_with (first
      | (at_make; refine wpList_mk rfl _ _ rfl _ _ _ _ (s / 32) (s / 32 + X.length + 1) rfl rfl (by omega) (by omega) (by omega) (by omega) ?_))
    have hown : (w.alloc (.cells ((List.replicate (s / 32 + X.length + 1) 0).map dv).toArray 52)).ownsRow w.heap.size 52 1 (.slice (some ⟨w.heap.size, 0, none⟩) (s / 32) (s / 32 + X.length + 1)) (s / 32) ((List.replicate (s / 32) 0).map dv) := by
      refine ⟨by simp, Or.inr ⟨w.heap.size, _, _, rfl, Nat.le_refl _, heap_alloc_new w _, by omega, by unfold maxLen; omega, by simp, ?_⟩⟩
      simp
      omega
    have hfa : Fr [] w (w.alloc (.cells ((List.replicate (s / 32 + X.length + 1) 0).map dv).toArray 52)) := (Fr.refl _ _).alloc _
    have hX := k.kept hfa
    have hsz : (w.alloc (.cells ((List.replicate (s / 32 + X.length + 1) 0).map dv).toArray 52)).heap.size = w.heap.size + 1 := by simp
    rw [show Array.replicate (s / 32 + X.length + 1) (dv 0) = ((List.replicate (s / 32 + X.length + 1) 0).map dv).toArray by simp]
    generalize w.alloc (.cells ((List.replicate (s / 32 + X.length + 1) 0).map dv).toArray 52) = w1 at *
    rw [show (s : Int) % 32 = ((s % 32 : Nat) : Int) from by omega]
    refine (raiseBits_any _ _ _ (s % 32) _ _ hX (by omega) (by omega)).mono ?_
    rintro e w2 ⟨g, Z, rfl, h1, h2, h3, h4, h5, hf⟩
    have hown2 := hown.kept hf.grown_none (by simp [Value.ownBlock])
    have hrd : Rd w2 (some ⟨g, 0, none⟩) Z := (Sg.map Z).rd h2
    have hbz : w.heap.size ≤ w2.heap.size := by have := hf.size; omega
    have hvz : Hid (val (List.replicate (s / 32) 0 ++ Z) = val xs * 2 ^ s) := by
      show _ = _
      rw [val_append, val_zeros, List.length_replicate, h5, HV.out, Nat.zero_add, shl_split]
    have HZ := Lib.hid h3
    have hnews := hrd.news
    have hD : Dg (List.replicate (s / 32) 0 ++ Z) := (Dg.zeros _).append h4
    have hfw : Fr [] w w2 := hfa.trans hf (by simp)
    clear hown h3 h5 hrd hX
    go_wp2_with (at_builtin; refine wpList_append_own _ rfl _ _ 22 rfl w.heap.size 52 i0 (.int .u32 0) 1 4 Tryz.underlying22 hi hz0 hz1 hz2 rfl (by decide) _ _ _ rfl hown2 ⟨g, 0, none⟩ (X.length + 1) (X.length + 1) (Z.map dv) rfl (by simp [HZ.out]) (by exact hnews) (by exact dv_oneCell _) (by unfold maxLen; omega) (by omega) (by exact hbz) ?_)
    intro v' w3 hown3 hgrow _hn
    clear _hn
    obtain ⟨p3, c3, rfl, ho⟩ := ow_of_row (ds := List.replicate (s / 32) 0 ++ Z) (by simpa using hown3) hD
    have hl3 : (List.replicate (s / 32) 0 ++ Z).length = s / 32 + (X.length + 1) := by simp [HZ.out]
    have hf3 : Fr [] w w3 := hfw.grown hgrow (by intro k hk hl; simp [Value.ownBlock] at hk; omega)
    rw [hl3] at ho ⊢
    have HO := Lib.hid ho
    clear hown3 hgrow ho hl3
    go_wp2_with fail
    refine (normal_any _ _ _ _ _ _ HO.out).mono ?_
    rw [hvz.out]
    rintro e w4 ⟨⟨p', c', rfl, ho'⟩, rfl⟩
    go_wp2_with fail
    go_ret
    exact ⟨p', c', rfl, ho', hf3⟩

def shiftN (v : Nat) (s : Int) : Nat := if 65536 < s then 0 else if s < 0 then v / 2 ^ (-s).toNat else v * 2 ^ s.toNat

set_option maxRecDepth 100000 in
set_option maxHeartbeats 1000000 in
theorem shift_any (p : Option Addr) (n c : Nat) (s : Int) (xs : List Nat) (w : World) (h : Sl w p n c xs) (hn : n ≤ 1099511627775) (_hs : -9223372036854775808 ≤ s) (_hs2 : s ≤ 9223372036854775807) :
    Calls Tryz.prog 200 #[.slice p n c, .int .i64 s] w (RetOwn w (dg (shiftN (val xs) s))) := by
  by_cases h1 : 65536 < s
  · have e : dg (shiftN (val xs) s) = [] := by rw [shiftN, if_pos h1, dg_zero]
    rw [e]
    clear e
    go_enter Tryz.func200, Tryz.ntmps200
    go_wp2
    go_ret
    exact ⟨none, 0, rfl, Ow.zero _ _, Fr.refl _ _⟩
  · by_cases h2 : s < 0
    · have e : shiftN (val xs) s = val xs / 2 ^ (-s).toNat := by rw [shiftN, if_neg h1, if_pos h2]
      rw [e]
      clear e
      go_enter Tryz.func200, Tryz.ntmps200
      go_wp2_with fail
      have hwr : IntKind.u64.wrap (wrap64 (-s)) = (((-s).toNat : Nat) : Int) := by
        rw [IntKind.wrap_u64]
        unfold wrap64
        omega
      rw [hwr]
      refine (lower_any _ _ _ (-s).toNat _ _ h hn (by omega)).mono ?_
      rintro e w1 ⟨q, cq, rfl, ho, hf⟩
      go_wp2_with fail
      go_ret
      exact ⟨q, cq, rfl, ho, hf⟩
    · have e : shiftN (val xs) s = val xs * 2 ^ s.toNat := by rw [shiftN, if_neg h1, if_neg h2]
      rw [e]
      clear e
      obtain ⟨m, rfl⟩ := Int.eq_ofNat_of_zero_le (show 0 ≤ s by omega)
      rw [Int.toNat_natCast]
      have hw0 : IntKind.u64.wrap (m : Int) = (m : Int) := wrap_u64_lt (by omega) (by omega)
      go_enter Tryz.func200, Tryz.ntmps200
      go_wp2_with fail
      refine (raise_any _ _ _ m _ _ h hn (by omega)).mono ?_
      rintro e w1 ⟨q, cq, rfl, ho, hf⟩
      go_wp2_with fail
      go_ret
      exact ⟨q, cq, rfl, ho, hf⟩

end Go.Proofs.YtagciepnhjbopaaGreatDoor
