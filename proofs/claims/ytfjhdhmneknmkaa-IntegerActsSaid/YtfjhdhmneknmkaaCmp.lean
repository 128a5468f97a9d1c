/- Same, Digits, Normal, Compare (of numbers, of digit lists). -/
import Derived.Test.YtfjhdhmneknmkaaSmall
import Derived.Deep.QuietTactic
import Derived.BigQuiet
namespace Go.Proofs.Ytfjhdhmneknmkaa
open Go.RowKit

theorem drop_eq_succ {A B : List Nat} {k : Nat} (hl : A.length = B.length) (hk : k < A.length) (h : A.drop (k + 1) = B.drop (k + 1)) (hd : gd A k = gd B k) : A.drop k = B.drop k := by
  rw [List.drop_eq_getElem_cons hk, List.drop_eq_getElem_cons (l := B) (i := k) (by omega), h]
  rw [gd_lt hk, gd_lt (xs := B) (j := k) (by omega)] at hd
  rw [hd]
theorem top_lt {A B : List Nat} {k : Nat} (hA : Dg A) (hl : A.length = B.length) (hk : k < A.length) (h : A.drop (k + 1) = B.drop (k + 1)) (hd : gd A k < gd B k) : val A < val B := by
  rw [val_split A (k + 1) (by omega), val_split B (k + 1) (by omega), h, val_take_succ, val_take_succ]
  have h1 := val_lt (hA.take k)
  rw [List.length_take, Nat.min_eq_left (by omega)] at h1
  have h2 : pB k * (gd A k + 1) ≤ pB k * gd B k := Nat.mul_le_mul_left _ hd
  rw [Nat.mul_add] at h2
  omega

/-- -1, 0 or 1. -/
def cmpI (x y : Int) : Int := if x < y then -1 else if x > y then 1 else 0
theorem cmpI_lt {x y : Int} (h : x < y) : cmpI x y = -1 := by simp [cmpI, h]
theorem cmpI_gt {x y : Int} (h : y < x) : cmpI x y = 1 := by unfold cmpI; rw [if_neg (by omega), if_pos h]
theorem cmpI_eq (x : Int) : cmpI x x = 0 := by unfold cmpI; rw [if_neg (by omega), if_neg (by omega)]

set_option maxRecDepth 100000 in
set_option maxHeartbeats 400000 in
theorem cmpInt_any (x y : Int) (w : World) : Calls Try.prog 101 #[.int .i64 x, .int .i64 y] w fun e w' => e = .returned (.int .i64 (cmpI x y)) ∧ w = w' := by
  by_cases h1 : x < y
  · rw [cmpI_lt h1]
    go_enter Try.func101, Try.ntmps101
    go_wp2
    go_ret
    exact ⟨rfl, rfl⟩
  · by_cases h2 : y < x
    · rw [cmpI_gt h2]
      go_enter Try.func101, Try.ntmps101
      go_wp2
      go_ret
      exact ⟨rfl, rfl⟩
    · obtain rfl : x = y := by omega
      rw [cmpI_eq]
      go_enter Try.func101, Try.ntmps101
      go_wp2
      go_ret
      exact ⟨rfl, rfl⟩

set_option maxRecDepth 100000 in
set_option maxHeartbeats 400000 in
theorem cmpU_any (x y : Int) (w : World) : Calls Try.prog 102 #[.int .u32 x, .int .u32 y] w fun e w' => e = .returned (.int .i64 (cmpI x y)) ∧ w = w' := by
  by_cases h1 : x < y
  · rw [cmpI_lt h1]
    go_enter Try.func102, Try.ntmps102
    go_wp2
    go_ret
    exact ⟨rfl, rfl⟩
  · by_cases h2 : y < x
    · rw [cmpI_gt h2]
      go_enter Try.func102, Try.ntmps102
      go_wp2
      go_ret
      exact ⟨rfl, rfl⟩
    · obtain rfl : x = y := by omega
      rw [cmpI_eq]
      go_enter Try.func102, Try.ntmps102
      go_wp2
      go_ret
      exact ⟨rfl, rfl⟩

/-- Digits: at most ten. -/
theorem digits_yes (p : Option Addr) (n c : Nat) (w : World) (h : n ≤ 10) : Calls Try.prog 9 #[.slice p n c] w fun e w' => e = .returned (.bool true) ∧ w = w' := by
  have hd : decide ((n : Int) ≤ 10) = true := by simp; omega
  go_enter Try.func9, Try.ntmps9
  go_wp2
  go_ret
  exact ⟨rfl, rfl⟩
theorem digits_no (p : Option Addr) (n c : Nat) (w : World) (h : 10 < n) : Calls Try.prog 9 #[.slice p n c] w fun e w' => e = .returned (.bool false) ∧ w = w' := by
  have hd : decide ((n : Int) ≤ 10) = false := by simp; omega
  go_enter Try.func9, Try.ntmps9
  go_wp2
  go_ret
  exact ⟨rfl, rfl⟩

set_option maxRecDepth 100000 in
set_option maxHeartbeats 400000 in
theorem same_any (p q : Option Addr) (n c d : Nat) (xs : List Nat) (w : World) (h1 : Sl w p n c xs) (h2 : Sl w q n d xs) :
    Calls Try.prog 16 #[.slice p n c, .slice q n d] w fun e w' => e = .returned (.bool true) ∧ Fr [] w w' := by
  have hx := h1.len
  have hc := h1.le
  have hm := h1.cap
  have hne : ((n : Int) != n) = false := by simp
  go_enter Try.func16, Try.ntmps16
  go_wp2
  go_loopw [5] (fun s wr => ∃ k : Nat, k ≤ n ∧ s = .int .i64 k ∧ Fr [] w wr) (fun s _ => n - (intOf s).toNat)
  case atStart => exact ⟨0, Nat.zero_le _, rfl, Fr.refl _ _⟩
  case round =>
    obtain ⟨k, hk, rfl, hf⟩ := hrel
    have g1 := (h1.kept hf).rd
    have g2 := (h2.kept hf).rd
    clear h1 h2
    by_cases hlt : k < n
    · obtain ⟨b1, o1, rfl, _, k1⟩ := g1.open (by omega)
      obtain ⟨b2, o2, rfl, _, k2⟩ := g2.open (by omega)
      have c1 := k1 k (by omega)
      have c2 := k2 k (by omega)
      generalize gd xs k = x at *
      have hxx : ((x : Int) != x) = false := by simp
      clear k1 k2
      go_wp2
      go_quiet (fail)
      go_wp2
      go_roundw
      case rel => exact ⟨k + 1, by omega, by go_num, hf.drewN _⟩
      case measure => simp [intOf]; omega
    · go_wp2
      go_ret
      exact ⟨rfl, hf⟩


/-- How the values compare. -/
def cmpN (a b : Nat) : Int := if a < b then -1 else if b < a then 1 else 0
theorem cmpN_len_lt {a b : Nat} (h : (dg a).length < (dg b).length) : cmpN a b = cmpI (dg a).length (dg b).length := by
  have : a < b := by
    by_cases hh : a < b
    · exact hh
    · have := dg_len_mono (m := b) (n := a) (by omega); omega
  rw [cmpI_lt (by omega), cmpN, if_pos this]
theorem cmpN_len_gt {a b : Nat} (h : (dg b).length < (dg a).length) : cmpN a b = cmpI (dg a).length (dg b).length := by
  have : b < a := by
    by_cases hh : b < a
    · exact hh
    · have := dg_len_mono (m := a) (n := b) (by omega); omega
  rw [cmpI_gt (by omega), cmpN, if_neg (by omega), if_pos this]
theorem cmpN_dig_lt {a b k : Nat} (hl : (dg a).length = (dg b).length) (hk : k < (dg a).length) (h : (dg a).drop (k + 1) = (dg b).drop (k + 1)) (hd : gd (dg a) k < gd (dg b) k) : cmpN a b = -1 := by
  have := top_lt (Dg_dg a) hl hk h hd
  rw [val_dg, val_dg] at this
  rw [cmpN, if_pos this]
theorem cmpN_dig_gt {a b k : Nat} (hl : (dg a).length = (dg b).length) (hk : k < (dg a).length) (h : (dg a).drop (k + 1) = (dg b).drop (k + 1)) (hd : gd (dg b) k < gd (dg a) k) : cmpN a b = 1 := by
  have := top_lt (Dg_dg b) hl.symm (by omega) h.symm hd
  rw [val_dg, val_dg] at this
  rw [cmpN, if_neg (by omega), if_pos this]
theorem cmpN_refl (a : Nat) : cmpN a a = 0 := by unfold cmpN; rw [if_neg (by omega), if_neg (by omega)]
theorem cmpN_dig {a b k : Nat} (hl : (dg a).length = (dg b).length) (hk : k < (dg a).length) (h : (dg a).drop (k + 1) = (dg b).drop (k + 1)) (hd : gd (dg a) k ≠ gd (dg b) k) : cmpI (gd (dg a) k) (gd (dg b) k) = cmpN a b := by
  by_cases h1 : gd (dg a) k < gd (dg b) k
  · rw [cmpN_dig_lt hl hk h h1, cmpI_lt (by omega)]
  · rw [cmpN_dig_gt hl hk h (by omega), cmpI_gt (by omega)]

set_option maxRecDepth 100000 in
set_option maxHeartbeats 1000000 in
theorem compare_any (p q : Option Addr) (n c m d : Nat) (xs ys : List Nat) (w : World) (h1 : Sl w p n c xs) (h2 : Sl w q m d ys) :
    Calls Try.prog 70 #[.slice p n c, .slice q m d] w fun e w' => e = .returned (.int .i64 (cmpN (val xs) (val ys))) ∧ Fr [] w w' := by
  have k1 := h1.cut
  have k2 := h2.cut
  go_enter Try.func70, Try.ntmps70
  go_wp2_with fail
  refine (cut_any _ _ _ _ _ h1).mono ?_
  rintro e w' ⟨rfl, rfl⟩
  go_wp2_with fail
  refine (cut_any _ _ _ _ _ h2).mono ?_
  rintro e w' ⟨rfl, rfl⟩
  have hc := k1.le
  have hm := k1.cap
  have L1 : ∀ h : (dg (val xs)).length < (dg (val ys)).length, _ := fun h => cmpN_len_lt h
  have L2 : ∀ h : (dg (val ys)).length < (dg (val xs)).length, _ := fun h => cmpN_len_gt h
  have L3 : ∀ h : (dg (val xs)).length = (dg (val ys)).length, ∀ k, k < (dg (val xs)).length → (dg (val xs)).drop (k + 1) = (dg (val ys)).drop (k + 1) → gd (dg (val xs)) k ≠ gd (dg (val ys)) k → cmpI (gd (dg (val xs)) k) (gd (dg (val ys)) k) = cmpN (val xs) (val ys) := fun h k => cmpN_dig h
  have L4 : dg (val xs) = dg (val ys) → cmpN (val xs) (val ys) = 0 := fun h => by rw [dg_inj h]; exact cmpN_refl _
  clear h1 h2
  generalize dg (val xs) = A at *
  generalize dg (val ys) = B at *
  by_cases hlen : A.length = B.length
  · have H3 := Lib.hid (L3 hlen)
    have H4 := Lib.hid L4
    clear L1 L2 L3 L4
    have hL := Lib.hid hlen
    rw [← hlen] at k2
    rw [← hlen]
    have hne : ((A.length : Int) != A.length) = false := by simp
    clear hlen
    generalize hn : A.length = n' at *
    have hN := Lib.hid hn
    clear hn
    go_wp2
    go_loopw [5] (fun s wr => ∃ k : Nat, k ≤ n' ∧ s = .int .i64 ((k : Int) - 1) ∧ A.drop k = B.drop k ∧ Fr [] w wr) (fun s _ => (intOf s + 1).toNat)
    case atStart => exact ⟨n', Nat.le_refl _, rfl, by rw [List.drop_of_length_le (by rw [hN.out]; exact Nat.le_refl _), List.drop_of_length_le (by rw [← hL.out]; exact Nat.le_refl _)], Fr.refl _ _⟩
    case round =>
      obtain ⟨k, hk, rfl, hdr, hf⟩ := hrel
      have hdr' := Lib.hid hdr
      clear hdr
      have g1 := (k1.kept hf).rd
      have g2 := (k2.kept hf).rd
      cases k with
      | zero =>
        rw [show (((0 : Nat) : Int) - 1) = -1 from rfl]
        go_wp2
        go_ret
        exact ⟨ret_int (H4.out hdr'.out).symm, hf⟩
      | succ k =>
        rw [show (((k + 1 : Nat) : Int) - 1) = k from by omega]
        have e1 := hN.out
        obtain ⟨b1, o1, rfl, _, m1⟩ := g1.open (by omega)
        obtain ⟨b2, o2, rfl, _, m2⟩ := g2.open (by rw [← hL.out]; omega)
        have c1 := m1 k (by omega)
        have c2 := m2 k (by rw [← hL.out]; omega)
        have d1 := k1.dig.at k
        have d2 := k2.dig.at k
        clear m1 m2
        by_cases hd : gd A k = gd B k
        · have hdd := Lib.hid (drop_eq_succ (hN.out.trans hL.out) (by omega) hdr'.out hd)
          rw [hd] at c1
          clear d1 hd e1
          generalize gd B k = x at *
          have hxx : ((x : Int) != x) = false := by simp
          go_wp2
          go_quiet (fail)
          go_wp2
          go_roundw
          case rel => exact ⟨k, by omega, by go_num, hdd.out, hf.drewN _⟩
          case measure => simp [intOf]
        · have hr := Lib.hid (H3.out k (by omega) hdr'.out hd)
          generalize gd A k = x at *
          generalize gd B k = y at *
          have hxy : ((x : Int) != y) = true := by rw [bne_iff_ne]; omega
          clear e1 hd
          go_wp2
          go_quiet (fail)
          have hf2 := hf.drewN nq
          generalize hwq : wr.drewN nq = wq at *
          have c1' : wq.cell? ⟨b1, o1 + k, none⟩ = some (dv x) := by rw [← hwq]; exact c1
          have c2' : wq.cell? ⟨b2, o2 + k, none⟩ = some (dv y) := by rw [← hwq]; exact c2
          clear hwq c1 c2 hf k1 k2 g1 g2
          go_wp2
          go_quiet ((go_at_call 102; exact Calls.quiet_of_same ((cmpU_any _ _ _).mono fun _ _ h => ⟨h.1, h.2.symm⟩)))
          go_wp2
          go_ret
          exact ⟨ret_int hr.out, hf2.drewN _⟩
  · have hL1 := Lib.hid L1
    have hL2 := Lib.hid L2
    have hne : ((A.length : Int) != B.length) = true := by rw [bne_iff_ne]; omega
    have hfin : Hid (cmpI A.length B.length = cmpN (val xs) (val ys)) := by
      by_cases h : A.length < B.length
      · exact (L1 h).symm
      · exact (L2 (by omega)).symm
    clear L1 L2 L3 L4 hL1 hL2
    go_wp2_with fail
    refine (cmpInt_any _ _ _).mono ?_
    rintro e w' ⟨rfl, rfl⟩
    go_wp2_with fail
    go_ret
    exact ⟨ret_int hfin.out, Fr.refl _ _⟩

end Go.Proofs.Ytfjhdhmneknmkaa
