/- Integers: Small of the document. -/
import Derived.Test.YtfjhdhmneknmkaaInt9
namespace Go.Proofs.Ytfjhdhmneknmkaa
open Go.RowKit

theorem shl_or (s x : Nat) (hs : s < 4294967296) (hx : x < 4294967296) : bits .or .u64 ((s : Int) * 4294967296) (x : Int) = ((x + 4294967296 * s : Nat) : Int) := by
  have e : (s : Int) * 4294967296 = ((s * 2 ^ 32 : Nat) : Int) := by omega
  rw [e, bits_or_u64_nat _ _ (by omega) (by omega), or_add s 32 x (by omega)]
  omega
theorem val_drop (xs : List Nat) (k : Nat) (h : k < xs.length) : val (xs.drop k) = gd xs k + 4294967296 * val (xs.drop (k + 1)) := by
  rw [List.drop_eq_getElem_cons h, val, gd_lt h]

set_option maxRecDepth 100000 in
set_option maxHeartbeats 4000000 in
theorem rsmall_i (g s : Bool) (p : Option Addr) (n c : Nat) (xs : List Nat) (w : World) (h1 : Sl w p n c xs) (hn : n ≤ 1048576) (hs : decide (iv g (val xs) < 0) = s) (hl : (dg (val xs)).length ≤ 2) :
    Calls Try.prog 29 #[iw g p n c] w fun e w' => (Fits (iv g (val xs)) ∧ e = .returned (.tuple #[.int .i64 (iv g (val xs)), .bool true]) ∨ ¬ Fits (iv g (val xs)) ∧ e = .returned (.tuple #[.int .i64 0, .bool false])) ∧ Fr [] w w' := by
  have HS := Lib.hid hs
  have hiv := iv_of hs
  have HIV := Lib.hid hiv
  clear hs hiv
  go_enter Try.func29, Try.ntmps29
  go_wp2_with fail
  refine (calls_ri (b := s) (rtrim_any _ _ _ _ _ _ (h1.kept (Fr.new _)) (by omega)) HS.out (iv_abs _ _)).mono ?_
  rintro e w1 ⟨p1, cc1, rfl, o1, ff⟩
  have b0 : Bx w1 w.heap.size 40 #[.bool g, .slice p n c] := (Bx.made _ _ _).kept ff
  have hw := (Fr.new (w := w) _).trans ff (by simp)
  have c0 := b0.cell (j := 0) rfl
  have c1 := b0.cell (j := 1) rfl
  have z0 := b0.free 0
  have z1 := b0.free 1
  go_wp2_with fail
  have hbs := b0.lt
  have hsz := (Fr.new (w := w) (Obj.cells #[.bool g, .slice p n c] 40)).size
  clear c0 c1 z0 z1 ff h1
  replace hw := hw.set2 (b := w.heap.size) (by omega) (.bool s) (.slice p1 (dg (val xs)).length cc1)
  replace o1 := o1.set2 (b := w.heap.size) (by simp) (.bool s) (.slice p1 (dg (val xs)).length cc1)
  replace b0 := b0.set2 (.bool s) (.slice p1 (dg (val xs)).length cc1)
  generalize ((w1.setCell ⟨w.heap.size, 0, none⟩ (.bool s)).setCell ⟨w.heap.size, 1, none⟩ (.slice p1 (dg (val xs)).length cc1)) = W at *
  have c0 := b0.cell (j := 0) rfl
  have c1 := b0.cell (j := 1) rfl
  have hv := val_dg (val xs)
  have hD := Dg_dg (val xs)
  have gr := o1.sl.rd
  have hcc := o1.sl.le
  have hcm := o1.sl.cap
  have hb0 := b0.lt
  clear o1 b0 hn
  have HV := Lib.hid hv
  clear hv
  generalize hA : dg (val xs) = A at *
  clear hA
  generalize hL : A.length = L at *
  have HL := Lib.hid hL
  clear hL
  go_loop [4, 5] (fun u i => ∃ k : Nat, k ≤ L ∧ i = .int .i64 ((k : Int) - 1) ∧ u = .int .u64 (val (A.drop k) : Nat)) (fun _ i => (intOf i + 1).toNat)
  case atStart => exact ⟨L, Nat.le_refl _, rfl, by rw [List.drop_of_length_le (by rw [HL.out]; exact Nat.le_refl _)]; rfl⟩
  case round =>
    obtain ⟨k, hk, rfl, rfl⟩ := hrel
    cases k with
    | zero =>
      rw [show (((0 : Nat) : Int) - 1) = -1 from rfl, List.drop_zero, HV.out]
      have hlim : val xs < 18446744073709551616 := by
        have := val_lt hD
        rw [HV.out, HL.out] at this
        have h2 : pB L ≤ pB 2 := pB_mono hl
        have h3 : pB 2 = 18446744073709551616 := by decide
        omega
      clear gr
      have hpos : s = true → 0 < val xs := by
        intro e
        have h1 := HIV.out
        have h2 := HS.out
        rw [e] at h1 h2
        have h3 := of_decide_eq_true h2
        rw [h1, iv_neg] at h3
        omega
      have hE := HIV.out
      obtain ⟨m, hm⟩ : ∃ m, m = val xs := ⟨_, rfl⟩
      rw [← hm] at hlim hpos hE ⊢
      have HE : Hid (iv g (val xs) = iv s m) := by rw [← hm]; exact hE
      clear hm hE HV HIV HS
      cases s
      · clear hpos
        by_cases hf : m < 9223372036854775808
        · have hd : decide ((m : Int) < 9223372036854775808) = true := decide_eq_true (by omega)
          go_wp2
          go_ret2
          exact ⟨Or.inl ⟨by rw [HE.out]; exact ⟨by rw [iv_pos]; omega, by rw [iv_pos]; omega⟩, by rw [HE.out]; rfl⟩, hw⟩
        · have hd : decide ((m : Int) < 9223372036854775808) = false := decide_eq_false (by omega)
          go_wp2
          go_ret2
          exact ⟨Or.inr ⟨by rw [HE.out]; intro h; have h2 := h.2; rw [iv_pos] at h2; omega, rfl⟩, hw⟩
      · have hm0 := hpos rfl
        clear hpos
        by_cases hf : m ≤ 9223372036854775808
        · have hd : decide ((m : Int) ≤ 9223372036854775808) = true := decide_eq_true (by omega)
          go_wp2
          go_ret2
          exact ⟨Or.inl ⟨by rw [HE.out]; exact ⟨by rw [iv_neg]; omega, by rw [iv_neg]; omega⟩, congrArg (fun z => Ending.returned (.tuple #[.int .i64 z, .bool true])) (by rw [HE.out, iv_neg]; omega)⟩, hw⟩
        · have hd : decide ((m : Int) ≤ 9223372036854775808) = false := decide_eq_false (by omega)
          go_wp2
          go_ret2
          exact ⟨Or.inr ⟨by rw [HE.out]; intro h; have h2 := h.1; rw [iv_neg] at h2; omega, rfl⟩, hw⟩
    | succ k =>
      rw [show (((k + 1 : Nat) : Int) - 1) = k from by omega]
      obtain ⟨b, off, rfl, _, hcell⟩ := gr.open (by rw [HL.out]; omega)
      have hck := hcell k (by rw [HL.out]; omega)
      have hdk := hD.at k
      have hstep := val_drop A k (by rw [HL.out]; omega)
      have hb := val_lt (hD.drop (k + 1))
      rw [List.length_drop, HL.out] at hb
      have hb2 : pB (L - (k + 1)) ≤ pB 1 := pB_mono (by omega)
      rw [pB_one] at hb2
      clear hcell gr
      generalize gd A k = x at *
      generalize val (A.drop (k + 1)) = u at *
      have hu : u < 4294967296 := by omega
      have hor := shl_or u x hu hdk
      have HS := Lib.hid hstep
      clear hstep hb hb2
      go_wp2
      go_round
      case rel => exact ⟨k, by omega, by go_num, congrArg (Value.int .u64) (by rw [HS.out]; omega)⟩
      case measure => simp [intOf]

set_option maxRecDepth 100000 in
set_option maxHeartbeats 4000000 in
theorem rsmall_long (g : Bool) (p : Option Addr) (n c : Nat) (xs : List Nat) (w : World) (h1 : Sl w p n c xs) (hn : n ≤ 1048576) (hl : 2 < (dg (val xs)).length) :
    Calls Try.prog 29 #[iw g p n c] w fun e w' => e = .returned (.tuple #[.int .i64 0, .bool false]) ∧ Fr [] w w' := by
  have hd : decide ((2 : Int) < ((dg (val xs)).length : Int)) = true := decide_eq_true (by omega)
  go_enter Try.func29, Try.ntmps29
  go_wp2_with fail
  refine (calls_ri (rtrim_any _ _ _ _ _ _ (h1.kept (Fr.new _)) (by omega)) rfl (iv_abs _ _)).mono ?_
  rintro e w1 ⟨p1, cc1, rfl, o1, ff⟩
  have b0 : Bx w1 w.heap.size 40 #[.bool g, .slice p n c] := (Bx.made _ _ _).kept ff
  have hw := (Fr.new (w := w) _).trans ff (by simp)
  have c0 := b0.cell (j := 0) rfl
  have c1 := b0.cell (j := 1) rfl
  have z0 := b0.free 0
  have z1 := b0.free 1
  clear o1 ff b0
  go_wp2
  go_ret2
  exact ⟨rfl, hw.set2 (b := w.heap.size) (Nat.le_refl _) _ _⟩
theorem rsmall_v (g : Bool) (p : Option Addr) (n c : Nat) (xs : List Nat) (w : World) (h1 : Sl w p n c xs) (hn : n ≤ 1048576) :
    Calls Try.prog 29 #[iw g p n c] w fun e w' => (Fits (iv g (val xs)) ∧ e = .returned (.tuple #[.int .i64 (iv g (val xs)), .bool true]) ∨ ¬ Fits (iv g (val xs)) ∧ e = .returned (.tuple #[.int .i64 0, .bool false])) ∧ Fr [] w w' := by
  by_cases hl : (dg (val xs)).length ≤ 2
  · exact rsmall_i g _ p n c xs w h1 hn rfl hl
  · refine (rsmall_long g p n c xs w h1 hn (by omega)).mono ?_
    rintro e w' ⟨he, hf⟩
    refine ⟨Or.inr ⟨?_, he⟩, hf⟩
    intro hF
    apply hl
    have h3 := iv_abs g (val xs)
    have h4 : pB 2 = 18446744073709551616 := by decide
    exact dg_len_le (by rw [h4]; unfold Fits at hF; omega)

end Go.Proofs.Ytfjhdhmneknmkaa
