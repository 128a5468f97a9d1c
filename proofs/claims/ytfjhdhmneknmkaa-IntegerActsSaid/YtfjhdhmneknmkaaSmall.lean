/- The small functions: normal, digit, word, fromWord, Clone, Trim, Normal, Same, Digits, Compare of numbers. -/
import Derived.Test.YtfjhdhmneknmkaaCut
namespace Go.Proofs.Ytfjhdhmneknmkaa
open Go.RowKit

set_option maxRecDepth 100000 in
set_option maxHeartbeats 400000 in
theorem normal_any (p : Option Addr) (n c base : Nat) (xs : List Nat) (w : World) (ho : Ow w base p n c xs) :
    Calls Try.prog 79 #[.slice p n c] w fun e w' => (∃ p' c', e = .returned (.slice p' (dg (val xs)).length c') ∧ Ow w base p' (dg (val xs)).length c' (dg (val xs))) ∧ w = w' := by
  have hs := ho.sl
  have hc := hs.le
  have hm := hs.cap
  have ho' := ho.cut
  have H0 : (dg (val xs)).length = 0 → dg (val xs) = [] := List.eq_nil_of_length_eq_zero
  have hlen := dg_len_val hs.dig
  rw [hs.len] at hlen
  generalize hv : dg (val xs) = ys at *
  have Hv := Lib.hid hv
  clear hv
  go_enter Try.func79, Try.ntmps79
  go_wp2_with fail
  refine (cut_any p n c xs w hs).mono ?_
  rintro e w' ⟨rfl, rfl⟩
  rw [Hv.out]
  by_cases hz : ys.length = 0
  · have := H0 hz
    subst this
    simp only [List.length_nil]
    go_wp2
    go_ret
    exact ⟨⟨none, 0, rfl, Ow.zero _ _⟩, rfl⟩
  · have hz' : ((ys.length : Int) == 0) = false := beq_eq_false_iff_ne.2 (by omega)
    go_wp2
    go_ret
    exact ⟨⟨p, c, rfl, ho'⟩, rfl⟩

theorem ret_int {k : IntKind} {a b : Int} (h : a = b) : Ending.returned (.int k a) = .returned (.int k b) := by rw [h]
theorem ret_bool {a b : Bool} (h : a = b) : Ending.returned (.bool a) = .returned (.bool b) := by rw [h]

set_option maxRecDepth 100000 in
set_option maxHeartbeats 400000 in
theorem digit_any (p : Option Addr) (n c : Nat) (i : Int) (xs : List Nat) (w : World) (hs : Sl w p n c xs) (hc : n ≤ 1099511627776) (h0 : 0 ≤ i) (hi : i ≤ 2199023255552) :
    Calls Try.prog 94 #[.slice p n c, .int .i64 i] w fun e w' => e = .returned (.int .u64 (gd xs i.toNat : Nat)) ∧ w = w' := by
  obtain ⟨k, rfl⟩ := Int.eq_ofNat_of_zero_le h0
  rw [Int.toNat_natCast]
  have hx := hs.len
  by_cases hk : k < n
  · obtain ⟨b, off, rfl, _, hcell⟩ := hs.rd.open (by omega)
    have hck := hcell k (by omega)
    have hd := hs.dig.at k
    generalize gd xs k = x at *
    clear hcell
    go_enter Try.func94, Try.ntmps94
    go_wp2
    go_ret
    exact ⟨rfl, rfl⟩
  · rw [gd_ge (by omega)]
    go_enter Try.func94, Try.ntmps94
    go_wp2
    go_ret
    exact ⟨rfl, rfl⟩

theorem val_two {xs : List Nat} (h : xs.length ≤ 2) : val xs = gd xs 0 + 4294967296 * gd xs 1 := by
  match xs, h with
  | [], _ => rfl
  | [x], _ => simp [val, gd]
  | [x, y], _ => simp [val, gd]

set_option maxRecDepth 100000 in
set_option maxHeartbeats 400000 in
theorem word_any (p : Option Addr) (n c : Nat) (xs : List Nat) (w : World) (hs : Sl w p n c xs) (hc : n ≤ 2) :
    Calls Try.prog 77 #[.slice p n c] w fun e w' => e = .returned (.int .u64 (val xs : Nat)) ∧ w = w' := by
  have d0 := hs.dig.at 0
  have d1 := hs.dig.at 1
  have hl : n ≤ 1099511627776 := by omega
  have hx := hs.len
  go_enter Try.func77, Try.ntmps77
  go_wp2_with fail
  refine (digit_any p n c _ xs w hs hl (by omega) (by omega)).mono ?_
  rintro e w' ⟨rfl, rfl⟩
  go_wp2_with fail
  refine (digit_any p n c _ xs w hs hl (by omega) (by omega)).mono ?_
  rintro e w' ⟨rfl, rfl⟩
  go_wp2_with fail
  go_ret
  refine ⟨ret_int ?_, rfl⟩
  show bits _ _ _ _ = _
  rw [or64i _ _ (gd xs 1) 32 (by omega) (by omega) (by omega) (by omega), val_two (by omega)]
  omega

theorem val_word {x : Nat} : val [x % 4294967296, x / 4294967296] = x := by simp [val]; omega

set_option maxRecDepth 100000 in
set_option maxHeartbeats 400000 in
theorem fromWord_any (x : Nat) (w : World) (hx : x < 18446744073709551616) :
    Calls Try.prog 75 #[.int .u64 x] w (RetOwn w (dg x)) := by
  have ho := Ow.made w (base := w.heap.size) [x % 4294967296, x / 4294967296] (Nat.le_refl _) (by simp) (Dg.cons (by omega) (Dg.one (by omega)))
  simp only [List.map_cons, List.map_nil, List.length_cons, List.length_nil] at ho
  go_enter Try.func75, Try.ntmps75
  go_wp2_with fail
  refine (normal_any _ _ _ _ _ _ ho).mono ?_
  rw [val_word]
  rintro e w' ⟨⟨p', c', rfl, ho'⟩, rfl⟩
  go_wp2_with fail
  go_ret
  exact ⟨p', c', rfl, ho', (Fr.refl _ _).alloc _⟩

set_option maxRecDepth 100000 in
set_option maxHeartbeats 400000 in
theorem clone_any (p : Option Addr) (n c : Nat) (xs : List Nat) (w : World) (hs : Sl w p n c xs) (hb : n ≤ 1099511627776) :
    Calls Try.prog 71 #[.slice p n c] w (RetOwn w xs) := by
  obtain ⟨i0, hi, hz0, hz1, hz2⟩ := info_parts Try.infoU
  rcases hs.src with ⟨rfl, rfl, rfl, rfl⟩ | ⟨a, rfl⟩
  · have heq : ∀ w : World, (binOp .eql 22 (.slice none 0 0) (.slice none 0 0)).run Try.prog w = .ok (.bool true) w := fun w => Lib.run_eql_slice_nil w 22 57 none 0 0 0 0 Try.underlying22
    go_enter Try.func71, Try.ntmps71
    go_wp2
    go_ret
    exact ⟨none, 0, rfl, Ow.zero _ _, Fr.refl _ _⟩
  · have heq : ∀ w : World, (binOp .eql 22 (.slice (some a) n c) (.slice none 0 0)).run Try.prog w = .ok (.bool false) w := fun w => Lib.run_eql_slice_nil w 22 57 (some a) n c 0 0 Try.underlying22
    have hown := World.ownsRow_made (size := 1) (e := 57) w #[] 0 (Nat.le_refl _) (by unfold maxLen; omega) rfl
    have hl := hs.len
    have hrd : Rd (w.alloc (.cells #[] 57)) (some a) xs := hs.rd.kept ((Fr.refl _ _).alloc _)
    go_enter Try.func71, Try.ntmps71
    go_wp2_with (at_builtin; refine wpList_append_own _ rfl _ _ 22 rfl w.heap.size 57 i0 (.int .u32 0) 1 4 Try.underlying22 hi hz0 hz1 hz2 rfl (by decide) _ _ _ rfl hown a n c (xs.map dv) rfl (by simp [hl]) (by exact hrd.news) (by exact dv_oneCell xs) (by unfold maxLen; omega) (by omega) (by simp) ?_)
    intro v' w' hown' hgrow _
    obtain ⟨p, c', rfl, ho⟩ := ow_of_row (by simpa using hown') hs.dig
    go_wp2
    go_ret
    exact ⟨p, c', rfl, ho, ((Fr.refl _ _).alloc _).grown hgrow (by intro k hk; simp [Value.ownBlock] at hk; omega)⟩

set_option maxRecDepth 100000 in
set_option maxHeartbeats 400000 in
theorem trim_any (p : Option Addr) (n c : Nat) (xs : List Nat) (w : World) (hs : Sl w p n c xs) (hb : n ≤ 1099511627776) :
    Calls Try.prog 86 #[.slice p n c] w (RetOwn w (dg (val xs))) := by
  go_enter Try.func86, Try.ntmps86
  go_wp2_with fail
  refine (clone_any _ _ _ _ _ hs hb).mono ?_
  rintro e w1 ⟨p1, c1, rfl, h1, f1⟩
  go_wp2_with fail
  refine (normal_any _ _ _ _ _ _ h1).mono ?_
  rintro e w' ⟨⟨p', c', rfl, ho'⟩, rfl⟩
  go_wp2_with fail
  go_ret
  exact ⟨p', c', rfl, ho', f1⟩

set_option maxRecDepth 100000 in
set_option maxHeartbeats 400000 in
theorem rcut_any (p : Option Addr) (n c : Nat) (xs : List Nat) (w : World) (hs : Sl w p n c xs) (hb : n ≤ 1099511627776) :
    Calls Try.prog 23 #[.slice p n c] w (RetOwn w (dg (val xs))) := by
  obtain ⟨i0, hi, hz0, hz1, hz2⟩ := info_parts Try.infoU
  have hx := hs.len
  have hc := hs.le
  have hm := hs.cap
  have hcut := hs.cut
  have hcl : Hid (cutN xs n = (dg (val xs)).length) := by rw [← hx, cutN_len hs.dig]; exact rfl
  have hml : (dg (val xs)).length ≤ n := by have := dg_len_val hs.dig; omega
  generalize dg (val xs) = ys at *
  go_enter Try.func23, Try.ntmps23
  go_wp2
  go_loop [3] (fun s => ∃ k : Nat, k ≤ n ∧ s = .int .i64 k ∧ cutN xs k = cutN xs n) (fun s => (intOf s).toNat)
  case atStart => exact ⟨n, Nat.le_refl _, rfl, rfl⟩
  case round =>
    obtain ⟨k, hk, rfl, hn0⟩ := hrel
    have hn := Lib.hid hn0
    clear hn0
    have hp := fun h' => Rd.open hs.rd h'
    have fin : k = cutN xs n → Calls Try.prog 0 #[] w (fun _ _ => True) → True := fun _ _ => trivial
    clear fin
    cases k with
    | zero =>
      have hk0 : ys = [] := List.eq_nil_of_length_eq_zero (by rw [← hcl.out, ← hn.out]; rfl)
      subst hk0
      rcases hs.src with ⟨rfl, rfl, rfl, rfl⟩ | ⟨a, rfl⟩
      · go_wp2_with (at_builtin; refine wpList_append_own_none rfl _ _ 22 rfl w.heap.size 57 i0 1 Try.underlying22 hi _ _ _ rfl (row_nil w _) rfl ?_)
        go_wp2
        go_ret
        exact ⟨none, 0, rfl, Ow.zero _ _, Fr.refl _ _⟩
      · go_wp2_with (at_builtin; refine wpList_append_own _ rfl _ _ 22 rfl w.heap.size 57 i0 (.int .u32 0) 1 4 Try.underlying22 hi hz0 hz1 hz2 rfl (by decide) _ _ _ rfl (row_nil w _) a 0 c [] rfl rfl (by simp) (by simp) (by unfold maxLen; omega) (by omega) (by simp) ?_)
        intro v' w' hown' hgrow _hnil
        clear _hnil
        obtain ⟨p, c', rfl, ho⟩ := ow_of_row (by simpa using hown') hcut.dig
        go_wp2
        go_ret
        exact ⟨p, c', rfl, ho, (Fr.refl _ _).grown hgrow (by intro k hk; simp [Value.ownBlock] at hk)⟩
    | succ k =>
      obtain ⟨b, off, rfl, _, hcell⟩ := hp (by omega)
      have hck := hcell k (by omega)
      by_cases hz : gd xs k = 0
      · have hz' := Lib.hid hz
        rw [hz] at hck
        clear hcell hz
        go_wp2
        go_round
        case rel => exact ⟨k, by omega, rfl, by rw [← hn.out, cutN_z hz'.out]⟩
        case measure => simp [intOf]
      · have hk0 : ys.length = k + 1 := by rw [← hcl.out, ← hn.out, cutN_nz hz]
        have hk0' := Lib.hid hk0
        have hnews := hcut.rd.news
        have hcell' : w.cell? { block := b, off := off + k } = some (dv (gd xs k)) := hck
        generalize gd xs k = x at *
        clear hcell hk0
        go_wp2_with (at_builtin; refine wpList_append_own _ rfl _ _ 22 rfl w.heap.size 57 i0 (.int .u32 0) 1 4 Try.underlying22 hi hz0 hz1 hz2 rfl (by decide) _ _ _ rfl (row_nil w _) ⟨b, off, none⟩ (k + 1) c (ys.map dv) rfl (by simp [hk0'.out]) (by exact hnews) (by exact dv_oneCell _) (by unfold maxLen; omega) (by omega) (by simp) ?_)
        intro v' w' hown' hgrow _hnil
        clear _hnil
        obtain ⟨p, c', rfl, ho⟩ := ow_of_row (by simpa using hown') hcut.dig
        go_wp2
        go_ret
        exact ⟨p, c', rfl, ho, (Fr.refl _ _).grown hgrow (by intro k hk; simp [Value.ownBlock] at hk)⟩

end Go.Proofs.Ytfjhdhmneknmkaa
