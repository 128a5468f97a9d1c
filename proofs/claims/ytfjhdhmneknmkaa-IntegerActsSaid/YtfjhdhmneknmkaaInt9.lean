/- Integers: Small of the program and of the document. -/
import Derived.Test.YtfjhdhmneknmkaaInt8
namespace Go.Proofs.Ytfjhdhmneknmkaa
open Go.RowKit

theorem or_hi (s x : Nat) (hs : s < 4294967296) (hx : x < 4294967296) : bits .or .u64 (s : Int) ((x : Int) * 4294967296) = ((s + 4294967296 * x : Nat) : Int) := by
  have e : (x : Int) * 4294967296 = ((x * 2 ^ 32 : Nat) : Int) := by omega
  rw [e, bits_or_u64_nat _ _ (by omega) (by omega), Nat.or_comm, or_add x 32 s (by omega)]
  omega
theorem or_lo (x : Nat) (hx : x < 4294967296) : bits .or .u64 0 (x : Int) = (x : Int) := by
  have := bits_or_u64_nat 0 x (by omega) (by omega)
  rw [Nat.zero_or] at this
  exact this
theorem val_lim : val [0, 2147483648] = 9223372036854775808 := by decide
theorem ge_two {xs : List Nat} (k : Nat) (h : k < xs.length) (hn : 2 ≤ k) (hv : val xs ≤ 9223372036854775808) : gd xs k = 0 := by
  by_cases h0 : gd xs k = 0
  · exact h0
  · have h1 := val_split xs (k + 1) (by omega)
    have h2 := val_take_succ xs k
    have h3 : pB 2 ≤ pB k := pB_mono hn
    have h4 : pB 2 = 18446744073709551616 := by decide
    have h5 : pB k * 1 ≤ pB k * gd xs k := Nat.mul_le_mul_left _ (by omega)
    have h6 := Nat.le_add_right (val (xs.take (k + 1))) (pB (k + 1) * val (xs.drop (k + 1)))
    omega
theorem take_two {xs : List Nat} (k : Nat) (h : k ≤ xs.length) (hn : 2 ≤ k) (hv : val xs ≤ 9223372036854775808) : val (xs.take 2) = val (xs.take k) := by
  induction k with
  | zero => omega
  | succ k ih =>
    by_cases e : k + 1 = 2
    · rw [e]
    · rw [val_take_succ xs k, ge_two k (by omega) (by omega) hv, ih (by omega) (by omega)]
      omega
theorem val_head2 {xs : List Nat} {L : Nat} (hL : L = min xs.length 2) (hv : val xs ≤ 9223372036854775808) : val (xs.take L) = val xs := by
  by_cases h : xs.length ≤ 2
  · rw [hL, Nat.min_eq_left h, List.take_length]
  · rw [hL, Nat.min_eq_right (by omega), take_two xs.length (Nat.le_refl _) (by omega) hv, List.take_length]

set_option maxRecDepth 100000 in
set_option maxHeartbeats 2000000 in
theorem ismall_over (g : Bool) (p : Option Addr) (n c : Nat) (xs : List Nat) (w : World) (h1 : Sl w p n c xs) (_hn : n ≤ 1048576) (hv : 9223372036854775808 < val xs) :
    Calls Try.prog 28 #[iw g p n c] w fun e w' => e = .returned (.tuple #[.int .i64 0, .bool false]) ∧ Fr [] w w' := by
  have hc : cmpN (val xs) (val [0, 2147483648]) = 1 := by rw [val_lim]; exact cmpN_gt hv
  have HC := Lib.hid hc
  clear hc hv
  go_enter Try.func28, Try.ntmps28
  go_wp2_with fail
  refine (compare_any _ _ _ _ _ _ _ [0, 2147483648] _ (h1.kept ((Fr.new _).alloc _)) (made2 rfl rfl (by simp) (by decide) (by decide))).mono ?_
  rw [HC.out]
  rintro e w1 ⟨rfl, ff⟩
  go_wp2
  go_ret2
  exact ⟨rfl, ((Fr.new _).alloc _).trans ff (by simp)⟩

set_option maxRecDepth 100000 in
set_option maxHeartbeats 2000000 in
theorem ismall_edge (p : Option Addr) (n c : Nat) (xs : List Nat) (w : World) (h1 : Sl w p n c xs) (_hn : n ≤ 1048576) (hv : val xs = 9223372036854775808) :
    Calls Try.prog 28 #[iw false p n c] w fun e w' => e = .returned (.tuple #[.int .i64 0, .bool false]) ∧ Fr [] w w' := by
  have hc : cmpN (val xs) (val [0, 2147483648]) = 0 := by rw [val_lim]; exact cmpN_eq hv
  have HC := Lib.hid hc
  clear hc hv
  go_enter Try.func28, Try.ntmps28
  go_wp2_with fail
  refine (compare_any _ _ _ _ _ _ _ [0, 2147483648] _ (h1.kept ((Fr.new _).alloc _)) (made2 rfl rfl (by simp) (by decide) (by decide))).mono ?_
  rw [HC.out]
  rintro e w1 ⟨rfl, ff⟩
  have b0 : Bx w1 w.heap.size 40 #[.bool false, .slice p n c] := ((Bx.made _ _ _).kept (Fr.new _)).kept ff
  have c0 := b0.cell (j := 0) rfl
  go_wp2
  go_ret2
  exact ⟨rfl, ((Fr.new _).alloc _).trans ff (by simp)⟩

set_option maxRecDepth 100000 in
set_option maxHeartbeats 4000000 in
theorem ismall_in (g : Bool) (p : Option Addr) (n c : Nat) (xs : List Nat) (w : World) (o : Int) (h1 : Sl w p n c xs) (hn : n ≤ 1048576) (hv : val xs ≤ 9223372036854775808) (hg : g = false → val xs < 9223372036854775808)
    (ho : cmpN (val xs) (val [0, 2147483648]) = o) (ho1 : (o == 1) = false) (ho2 : g = false → (o == 0) = false) :
    Calls Try.prog 28 #[iw g p n c] w fun e w' => e = .returned (.tuple #[.int .i64 (iv g (val xs)), .bool true]) ∧ Fr [] w w' := by
  obtain ⟨L, hL⟩ : ∃ L, L = min xs.length 2 := ⟨_, rfl⟩
  have hvl := val_head2 hL hv
  have hLn : L ≤ n := by rw [← h1.len]; omega
  have hL2 : L ≤ 2 := by omega
  have hmin : L = n ∨ (L = 2 ∧ 2 ≤ n) := by rw [← h1.len]; omega
  have HC := Lib.hid ho
  have HV := Lib.hid hvl
  clear ho hvl hL
  go_enter Try.func28, Try.ntmps28
  go_wp2_with fail
  refine (compare_any _ _ _ _ _ _ _ [0, 2147483648] _ (h1.kept ((Fr.new _).alloc _)) (made2 rfl rfl (by simp) (by decide) (by decide))).mono ?_
  rw [HC.out]
  rintro e w1 ⟨rfl, ff⟩
  have b0 : Bx w1 w.heap.size 40 #[.bool g, .slice p n c] := ((Bx.made _ _ _).kept (Fr.new _)).kept ff
  have hw := ((Fr.new (w := w) _).alloc _).trans ff (by simp)
  have h1' := h1.kept hw
  have c0 := b0.cell (j := 0) rfl
  have c1 := b0.cell (j := 1) rfl
  clear ff b0
  have hmi : min (n : Int) 2 = (L : Int) := by omega
  have hLc : L ≤ c := Nat.le_trans hLn h1.le
  have hx := h1.len
  have gr := h1'.rd
  have gd0 := h1.dig
  clear h1 h1' hn
  have key : ∀ (s : Bool), g = s → (s = false → (o == 0) = false) → True := fun _ _ _ => trivial
  clear key
  by_cases hgo : g = false
  · subst hgo
    have ho3 := ho2 rfl
    have hlt2 := hg rfl
    clear ho2 hg
    go_wp2_with fail
    go_loop [5, 31] (fun s i => ∃ k : Nat, k ≤ L ∧ i = .int .i64 k ∧ s = .int .u64 (val (xs.take k) : Nat)) (fun _ i => L - (intOf i).toNat)
    case atStart => exact ⟨0, Nat.zero_le _, rfl, rfl⟩
    case round =>
      obtain ⟨k, hk, rfl, rfl⟩ := hrel
      have HX := Lib.hid hx
      clear hmi hx hmin
      by_cases hlt : k < L
      · obtain ⟨b, off, rfl, _, hcell⟩ := gr.open (by rw [HX.out]; omega)
        have hck := hcell k (by rw [HX.out]; omega)
        have hdk := gd0.at k
        have hstep := val_take_succ xs k
        clear hcell gr
        generalize gd xs k = x at *
        have hb := val_lt (gd0.take k)
        rw [List.length_take, Nat.min_eq_left (by rw [HX.out]; omega)] at hb
        generalize val (xs.take k) = s at *
        have HS := Lib.hid hstep
        clear hstep
        obtain rfl | rfl : k = 0 ∨ k = 1 := by omega
        · rw [pB_zero] at hb
          obtain rfl : s = 0 := by omega
          rw [Nat.add_zero] at hck
          have hor := or_lo x hdk
          go_wp2
          go_round
          case rel => exact ⟨1, by omega, rfl, congrArg (Value.int .u64) (by rw [HS.out, pB_zero]; omega)⟩
          case measure => simp [intOf]; omega
        · rw [pB_one] at hb
          have hor := or_hi s x hb hdk
          go_wp2
          go_round
          case rel => exact ⟨2, by omega, rfl, congrArg (Value.int .u64) (by rw [HS.out, pB_one]; omega)⟩
          case measure => simp [intOf]; omega
      · obtain rfl : k = L := by omega
        rw [HV.out]
        clear HV
        obtain ⟨m, hm⟩ : ∃ m, m = val xs := ⟨_, rfl⟩
        rw [← hm] at hv ⊢
        rw [← hm] at hlt2
        have HM := Lib.hid hm
        clear hm
        go_wp2
        go_ret2
        exact ⟨congrArg (fun z => Ending.returned (.tuple #[.int .i64 z, .bool true])) (by rw [iv_pos, ← HM.out]), hw⟩
  · obtain rfl : g = true := by simpa using hgo
    clear ho2 hg hgo
    by_cases h0 : o = 0
    case' pos => subst h0
    case' neg => have ho3 : (o == 0) = false := by simpa using h0
    case' neg => clear h0
    all_goals
      go_wp2_with fail
      go_loop [5, 31] (fun s i => ∃ k : Nat, k ≤ L ∧ i = .int .i64 k ∧ s = .int .u64 (val (xs.take k) : Nat)) (fun _ i => L - (intOf i).toNat)
      case atStart => exact ⟨0, Nat.zero_le _, rfl, rfl⟩
      case round =>
        obtain ⟨k, hk, rfl, rfl⟩ := hrel
        have HX := Lib.hid hx
        clear hmi hx hmin
        by_cases hlt : k < L
        · obtain ⟨b, off, rfl, _, hcell⟩ := gr.open (by rw [HX.out]; omega)
          have hck := hcell k (by rw [HX.out]; omega)
          have hdk := gd0.at k
          have hstep := val_take_succ xs k
          clear hcell gr
          generalize gd xs k = x at *
          have hb := val_lt (gd0.take k)
          rw [List.length_take, Nat.min_eq_left (by rw [HX.out]; omega)] at hb
          generalize val (xs.take k) = s at *
          have HS := Lib.hid hstep
          clear hstep
          obtain rfl | rfl : k = 0 ∨ k = 1 := by omega
          · rw [pB_zero] at hb
            obtain rfl : s = 0 := by omega
            rw [Nat.add_zero] at hck
            have hor := or_lo x hdk
            go_wp2
            go_round
            case rel => exact ⟨1, by omega, rfl, congrArg (Value.int .u64) (by rw [HS.out, pB_zero]; omega)⟩
            case measure => simp [intOf]; omega
          · rw [pB_one] at hb
            have hor := or_hi s x hb hdk
            go_wp2
            go_round
            case rel => exact ⟨2, by omega, rfl, congrArg (Value.int .u64) (by rw [HS.out, pB_one]; omega)⟩
            case measure => simp [intOf]; omega
        · obtain rfl : k = L := by omega
          rw [HV.out]
          clear HV
          obtain ⟨m, hm⟩ : ∃ m, m = val xs := ⟨_, rfl⟩
          rw [← hm] at hv ⊢
          skip
          have HM := Lib.hid hm
          clear hm
          go_wp2
          go_ret2
          exact ⟨congrArg (fun z => Ending.returned (.tuple #[.int .i64 z, .bool true])) (by rw [iv_neg, ← HM.out]; first | rfl | (rw [IntKind.wrap_u64]; unfold wrap64; omega)), hw⟩

/-- The range of int. -/
def Fits (z : Int) : Prop := -9223372036854775808 ≤ z ∧ z < 9223372036854775808
theorem ismall_yes (g : Bool) (p : Option Addr) (n c : Nat) (xs : List Nat) (w : World) (h1 : Sl w p n c xs) (hn : n ≤ 1048576) (hf : Fits (iv g (val xs))) :
    Calls Try.prog 28 #[iw g p n c] w fun e w' => e = .returned (.tuple #[.int .i64 (iv g (val xs)), .bool true]) ∧ Fr [] w w' := by
  obtain ⟨h2, h3⟩ := hf
  have ha := iv_abs g (val xs)
  have hg : g = false → val xs < 9223372036854775808 := by rintro rfl; rw [iv_pos] at h3; omega
  have hv : val xs ≤ 9223372036854775808 := by omega
  refine ismall_in g p n c xs w _ h1 hn hv hg rfl ?_ ?_
  · rw [val_lim]
    by_cases e : val xs = 9223372036854775808
    · rw [cmpN_eq e]; rfl
    · rw [cmpN_lt (by omega)]; rfl
  · intro h
    rw [val_lim, cmpN_lt (hg h)]; rfl
theorem ismall_no (g : Bool) (p : Option Addr) (n c : Nat) (xs : List Nat) (w : World) (h1 : Sl w p n c xs) (hn : n ≤ 1048576) (hf : ¬ Fits (iv g (val xs))) :
    Calls Try.prog 28 #[iw g p n c] w fun e w' => e = .returned (.tuple #[.int .i64 0, .bool false]) ∧ Fr [] w w' := by
  by_cases hv : 9223372036854775808 < val xs
  · exact ismall_over g p n c xs w h1 hn hv
  · cases g
    · refine ismall_edge p n c xs w h1 hn ?_
      by_cases e : val xs = 9223372036854775808
      · exact e
      · exact absurd ⟨by rw [iv_pos]; omega, by rw [iv_pos]; omega⟩ hf
    · exact absurd ⟨by rw [iv_neg]; omega, by rw [iv_neg]; omega⟩ hf

end Go.Proofs.Ytfjhdhmneknmkaa
