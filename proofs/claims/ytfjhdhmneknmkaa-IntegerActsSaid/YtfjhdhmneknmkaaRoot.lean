/- newton, above, root, Root. -/
import Derived.Test.YtfjhdhmneknmkaaShift
import Derived.Test.YtfjhdhmneknmkaaRootNum
import Derived.Deep.LoopGhost
namespace Go.Proofs.Ytfjhdhmneknmkaa
open Go.RowKit

set_option maxRecDepth 100000 in
set_option maxHeartbeats 2000000 in
theorem newton_any (p q : Option Addr) (n m c d e : Nat) (xs ys : List Nat) (w : World) (hx : Sl w p n c xs) (hy : Sl w q m d ys) (hn : n ≤ 1048576) (hm : m ≤ 1048576) (he : 1 ≤ e) (he2 : e ≤ 64) (h0 : 1 ≤ val xs) :
    Calls Try.prog 97 #[.slice p n c, .slice q m d, .int .i64 e] w (RetOwn w (dg (nw e (val ys) (val xs)))) := by
  have l1 := dg_len_val hy.dig
  have l2 := pow_len hx.dig (e - 1)
  have l3 := dg_len_val hx.dig
  rw [hy.len] at l1
  rw [hx.len] at l2 l3
  have lmul : n * (e - 1) ≤ 1048576 * 63 := Nat.mul_le_mul hn (by omega)
  have hp0 : val xs ^ (e - 1) ≠ 0 := by have := Nat.pow_pos (n := e - 1) h0; omega
  have e1 : (e : Int) - 1 = ((e - 1 : Nat) : Int) := by omega
  go_enter Try.func97, Try.ntmps97
  go_wp2_with fail
  refine (cut_any _ _ _ _ _ hy).mono ?_
  rintro e2 w' ⟨rfl, rfl⟩
  have ky := hy.cut
  clear hy
  go_wp2_with fail
  refine (power_any _ _ _ (e - 1) _ _ hx hn (by omega)).mono ?_
  rintro e2 w1 ⟨q1, c1, rfl, ho1, hf1⟩
  have ky1 := ky.kept hf1
  have hx1 := hx.kept hf1
  have hpl : (dg (val xs ^ (e - 1))).length ≠ 0 := fun e => hp0 (dg_nil.1 (List.eq_nil_of_length_eq_zero e))
  have htop : gd (dg (val xs ^ (e - 1))) ((dg (val xs ^ (e - 1))).length - 1) ≠ 0 := dg_last (by omega)
  go_wp2_with fail
  refine (divide_any _ _ _ _ _ _ _ _ _ ky1 ho1.sl (by omega) (by omega) (by omega) htop).mono ?_
  rintro e2 w2 ⟨pq, nq, cq, Q, pr, nr, cr, R, rfl, HQ, HR, h1, h2, h3, h4, hf2⟩
  rw [val_dg, val_dg] at h1
  have HV := Lib.hid h1
  have hx2 := hx1.kept hf2
  clear h1 h2 h3 HR htop hpl ky ky1 ho1 hx1
  have hone := Ow.made w2 (base := w2.heap.size) [e - 1] (Nat.le_refl _) (by simp) (Dg.one (by omega))
  simp only [List.map_cons, List.map_nil, List.length_cons, List.length_nil] at hone
  have hfo : Fr [] w2 (w2.alloc (.cells #[dv (e - 1)] 57)) := (Fr.refl _ _).alloc _
  have hw32 : IntKind.u32.wrap ((e - 1 : Nat) : Int) = ((e - 1 : Nat) : Int) := wrap_u32_lt (by omega) (by omega)
  have hx3 := hx2.kept hfo
  have HQ3 := HQ.kept hfo
  go_wp2_with fail
  refine (mul_any _ _ _ _ _ _ _ _ _ hx3 hone.sl (by omega) (by omega)).mono ?_
  rw [val_one]
  rintro e2 w3 ⟨p3, c3, rfl, ho3, hf3⟩
  have HQ4 := HQ3.kept hf3
  have l5 := dg_mul_len (val xs) (e - 1)
  have l6 := dg_len_le (n := e - 1) (k := 1) (by rw [pB_one]; omega)
  clear HQ HQ3 hx2 hx3 hone
  go_wp2_with fail
  refine (add_any _ _ _ _ _ _ _ _ _ ho3.sl HQ4.sl (by omega) (by omega)).mono ?_
  rw [val_dg, HV.out]
  rintro e2 w4 ⟨p4, c4, rfl, ho4, hf4⟩
  have hqv : val ys / val xs ^ (e - 1) ≤ val ys := Nat.div_le_self _ _
  have l7 := dg_add_len (val xs * (e - 1)) (val ys / val xs ^ (e - 1))
  have l8 := dg_len_mono hqv
  have hw64 : IntKind.u32.wrap (e : Int) = (e : Int) := wrap_u32_lt (by omega) (by omega)
  have hsz : w.heap.size ≤ w3.heap.size := by have := hf1.size; have := hf2.size; have := hfo.size; have := hf3.size; omega
  have hfw : Fr [] w w4 := (((hf1.trans hf2 (by simp)).trans hfo (by simp)).trans hf3 (by simp)).trans hf4 (by simp)
  have hnw : Hid ((val xs * (e - 1) + val ys / val xs ^ (e - 1)) / e = nw e (val ys) (val xs)) := by show _ = _; unfold nw; rw [Nat.mul_comm]
  clear HQ4 hqv ho3 hw32
  generalize val xs * (e - 1) + val ys / val xs ^ (e - 1) = S at *
  go_wp2_with fail
  refine (divd_any _ _ _ e _ _ _ ho4 (by omega) (by omega) (by omega)).mono ?_
  rw [val_dg]
  rintro e2 w5 ⟨rfl, D, hDl, hDv, ho5, hf5⟩
  have hf6 : Fr [] w w5 := ho4.frame hsz hfw hf5
  have ho6 := ho5.mono (b' := w.heap.size) hsz
  have hDV : Hid (val D = nw e (val ys) (val xs)) := hDv.trans hnw.out
  clear ho4 ho5 hDl hDv hf5
  go_wp2_with fail
  refine (normal_any _ _ _ _ _ _ ho6).mono ?_
  rw [hDV.out]
  rintro e2 w7 ⟨⟨p7, c7, rfl, ho7⟩, rfl⟩
  go_wp2_with fail
  go_ret
  exact ⟨p7, c7, rfl, ho7, hf6⟩

/-- The contract of root for numbers below V. -/
def RootBelow (V e : Nat) : Prop := ∀ (p : Option Addr) (n c : Nat) (xs : List Nat) (w : World), Sl w p n c xs → n ≤ 131072 → val xs < V →
    Calls Try.prog 63 #[.slice p n c, .int .i64 e] w (RetOwn w (dg (rt e (val xs))))

set_option maxRecDepth 100000 in
set_option maxHeartbeats 2000000 in
theorem above_any (p : Option Addr) (n c e h : Nat) (xs : List Nat) (w : World) (IH : RootBelow (val xs) e) (hx : Sl w p n c xs) (hn : n ≤ 131072) (he : 1 ≤ e) (he2 : e ≤ 64) (hh : h ≤ 4194304) (h0 : 1 ≤ val xs) (h4 : h = 0 → rt e (val xs) < 4) :
    Calls Try.prog 96 #[.slice p n c, .int .i64 e, .int .i64 h] w fun e1 w' => ∃ X, RetOwn w (dg X) e1 w' ∧ rt e (val xs) < X ∧ (dg X).length ≤ n + h / 32 + 4 := by
  by_cases hz : h = 0
  · subst hz
    have h4' := h4 rfl
    have hone := Ow.made w (base := w.heap.size) [4] (Nat.le_refl _) (by simp) (Dg.one (by decide))
    simp only [List.map_cons, List.map_nil, List.length_cons, List.length_nil] at hone
    have hfo : Fr [] w (w.alloc (.cells #[dv 4] 57)) := (Fr.refl _ _).alloc _
    have e4 : dg 4 = [4] := dg_small (by decide) (by decide)
    have HO := Lib.hid hone
    have H4 := Lib.hid h4'
    clear hone h4' h4 IH
    go_enter Try.func96, Try.ntmps96
    go_wp2_with fail
    go_ret
    exact ⟨4, ⟨_, _, by rw [e4]; rfl, by rw [e4]; exact HO.out, hfo⟩, H4.out, by rw [e4]; simp⟩
  · have hp : 2 ^ 1 ≤ 2 ^ (e * h) := Nat.pow_le_pow_right (by decide) (by have : 1 * 1 ≤ e * h := Nat.mul_le_mul he (by omega); omega)
    have hlt : val xs / 2 ^ (e * h) < val xs := Nat.div_lt_self (by omega) (by omega)
    have heh : e * h ≤ 64 * 4194304 := Nat.mul_le_mul he2 hh
    have hsub : val xs / 2 ^ (e * h) ≤ val xs := Nat.div_le_self _ _
    have l0 := dg_len_mono hsub
    have l1 := dg_len_val hx.dig
    rw [hx.len] at l1
    have hab := rt_above (n := e) (v := val xs) (h := h) he
    have hrl := rt_le (n := e) (v := val xs / 2 ^ (e * h)) he
    have HLT := Lib.hid hlt
    have HAB := Lib.hid hab
    have g0 : ((h : Int) == 0) = false := beq_eq_false_iff_ne.2 (by omega)
    have hm1 : (e : Int) * (h : Int) = ((e * h : Nat) : Int) := by simp
    clear hlt hab h4 hsub
    generalize hE : e * h = eh at *
    have HE := Lib.hid hE
    clear hE hp
    have hw1 : IntKind.u64.wrap (eh : Int) = (eh : Int) := wrap_u64_lt (by omega) (by omega)
    have hw2 : IntKind.u64.wrap (h : Int) = (h : Int) := wrap_u64_lt (by omega) (by omega)
    have hw3 : IntKind.i64.wrap (eh : Int) = (eh : Int) := IntWalk.i64_in _ (by omega)
    go_enter Try.func96, Try.ntmps96
    go_wp2_with fail
    refine (lower_any _ _ _ eh _ _ hx (by omega) (by omega)).mono ?_
    rintro e2 w1 ⟨p1, c1, rfl, ho1, hf1⟩
    go_wp2_with fail
    refine (IH _ _ _ _ _ ho1.sl (by omega) (by rw [val_dg]; exact HLT.out)).mono ?_
    rw [val_dg]
    rintro e2 w2 ⟨p2, c2, rfl, ho2, hf2⟩
    have hone := Ow.made w2 (base := w2.heap.size) [1] (Nat.le_refl _) (by simp) (Dg.one (by decide))
    simp only [List.map_cons, List.map_nil, List.length_cons, List.length_nil] at hone
    have hfo : Fr [] w2 (w2.alloc (.cells #[dv 1] 57)) := (Fr.refl _ _).alloc _
    have ho3 := ho2.kept hfo
    have l2 := dg_len_mono hrl
    generalize rt e (val xs / 2 ^ eh) = F at *
    clear ho1 ho2
    go_wp2_with fail
    refine (add_any _ _ _ _ _ _ _ _ _ ho3.sl hone.sl (by omega) (by omega)).mono ?_
    rw [val_dg, val_one]
    rintro e2 w4 ⟨p4, c4, rfl, ho4, hf4⟩
    have l3 := dg_add_len F 1
    have l4 := dg_len_le (n := 1) (k := 1) (by decide)
    clear ho3 hone
    go_wp2_with fail
    refine (raise_any _ _ _ h _ _ ho4.sl (by omega) (by omega)).mono ?_
    rw [val_dg]
    rintro e2 w5 ⟨p5, c5, rfl, ho5, hf5⟩
    have l5 := dg_mul_len (F + 1) (2 ^ h)
    have l6 : (dg (2 ^ h)).length ≤ h / 32 + 1 := by
      apply dg_len_le
      rw [pB_two]
      exact Nat.pow_lt_pow_right (by decide) (by omega)
    have hsz : w.heap.size ≤ w4.heap.size := by have := hf1.size; have := hf2.size; have := hfo.size; have := hf4.size; omega
    have hfw : Fr [] w w5 := (((hf1.trans hf2 (by simp)).trans hfo (by simp)).trans hf4 (by simp)).trans hf5 (by simp)
    have ho6 := ho5.mono (b' := w.heap.size) hsz
    have hl : (dg ((F + 1) * 2 ^ h)).length ≤ n + h / 32 + 4 := by omega
    have HL := Lib.hid hl
    clear l5 l6 hl ho5
    go_wp2_with fail
    go_ret
    exact ⟨(F + 1) * 2 ^ h, ⟨p5, c5, rfl, ho6, hfw⟩, HAB.out, HL.out⟩


set_option maxRecDepth 100000 in
set_option maxHeartbeats 2000000 in
theorem root_below (e : Nat) (he : 1 ≤ e) (he2 : e ≤ 64) : ∀ V, RootBelow V e := by
  intro V
  induction V using Nat.strongRecOn with
  | ind V IH =>
    intro p n c xs w hx hn hV
    have hbit : bl (val xs) ≤ 32 * n := by
      apply bl_le
      have := val_lt hx.dig
      rw [hx.len, pB_two] at this
      exact this
    by_cases hsz : bl (val xs) ≤ e
    · -- the root is 0 or 1
      obtain ⟨mn, hmn⟩ : ∃ mn, mn = min (bl (val xs)) 1 := ⟨_, rfl⟩
      have hr : rt e (val xs) = mn := by
        by_cases h0 : val xs = 0
        · rw [hmn, h0, rt_zero he]; rfl
        · have h1 := bl_pos h0
          have h2 : val xs < 2 ^ e := Nat.lt_of_lt_of_le (bl_lt _) (Nat.pow_le_pow_right (by decide) hsz)
          rw [rt_small he h0 h2, hmn]
          omega
      rw [hr]
      have HM : Hid (min (bl (val xs) : Int) 1 = (mn : Int)) := by show _ = _; omega
      have hm1 : mn ≤ 1 := by omega
      clear hr hmn IH hV
      have hd : decide ((bl (val xs) : Int) ≤ e) = true := by simp; omega
      go_enter Try.func63, Try.ntmps63
      go_wp2_with fail
      refine (bitLen_any _ _ _ _ _ hx (by omega)).mono ?_
      rintro e2 w1 ⟨rfl, rfl⟩
      go_wp2_with fail
      rw [HM.out]
      refine (fromWord_any mn _ (by omega)).mono ?_
      rintro e2 w1 ⟨q1, c1, rfl, ho, hf⟩
      go_wp2_with fail
      go_ret
      exact ⟨q1, c1, rfl, ho, hf⟩
    · have hv0 : 1 ≤ val xs := by
        apply Nat.pos_of_ne_zero
        intro h0
        rw [h0] at hsz
        exact hsz (Nat.zero_le _)
      have hd : decide (bl (val xs) ≤ e) = false := by simpa using hsz
      have hrt1 : 1 ≤ rt e (val xs) := rt_max he (by rw [Nat.one_pow]; exact hv0)
      obtain ⟨h, hh⟩ : ∃ h, h = bl (val xs) / e / 2 := ⟨_, rfl⟩
      have hhl : h ≤ bl (val xs) := by
        rw [hh]
        exact Nat.le_trans (Nat.div_le_self _ _) (Nat.div_le_self _ _)
      have h4 : h = 0 → rt e (val xs) < 4 := by
        intro hz
        apply rt_four he
        have h1 : bl (val xs) / e < 2 := by omega
        rw [Nat.div_lt_iff_lt_mul (by omega)] at h1
        exact Nat.lt_of_lt_of_le (bl_lt _) (Nat.pow_le_pow_right (by decide) (by omega))
      have hcast : (bl (val xs) : Int) / (e : Int) / 2 = (h : Int) := by rw [hh]; omega
      have IH' := Lib.hid (IH _ hV)
      have H4 := Lib.hid h4
      have hbl := hbit
      clear IH hV hh h4 hsz
      go_enter Try.func63, Try.ntmps63
      go_wp2_with fail
      refine (bitLen_any _ _ _ _ _ hx (by omega)).mono ?_
      rintro e2 w1 ⟨rfl, rfl⟩
      go_wp2_with fail
      refine (above_any _ _ _ e h _ _ IH'.out hx hn he he2 (by omega) hv0 H4.out).mono ?_
      rintro e2 w1 ⟨X0, ⟨q0, c0, rfl, ho0, hf0⟩, hX0, hl0⟩
      have Hl0 := Lib.hid hl0
      clear hl0
      go_wp2
      go_loopg [6] X0 (fun k s wr => ∃ (q : Option Addr) (cq : Nat), s = .slice q (dg k).length cq ∧ Ow wr w.heap.size q (dg k).length cq (dg k) ∧ rt e (val xs) ≤ k ∧ 1 ≤ k ∧ k ≤ X0 ∧ Fr [] w wr)
      case atStart => exact ⟨q0, c0, rfl, ho0, Nat.le_of_lt hX0, by omega, Nat.le_refl _, hf0⟩
      case round =>
        obtain ⟨q, cq, rfl, ho, hr1, hk1, hkX, hf⟩ := hrel
        have hxr := hx.kept hf
        have hlk := dg_len_mono hkX
        have hl0 := Hl0.out
        have hge := Lib.hid (nw_ge (n := e) (v := val xs) (X := gk) he hk1)
        have hstop := Lib.hid (nw_stop (n := e) (v := val xs) (X := gk) he hr1)
        clear ho0 hf0 hX0
        go_wp2_with fail
        refine (newton_any _ _ _ _ _ _ e _ _ _ ho.sl hxr (by omega) (by omega) he he2 (by rw [val_dg]; exact hk1)).mono ?_
        rw [val_dg]
        rintro e2 w2 ⟨q2, c2, rfl, ho2, hf2⟩
        have ho' := ho.kept hf2
        have hfw : Fr [] w w2 := hf.trans hf2 (by simp)
        have ho2' := ho2.mono (b' := w.heap.size) hf.size
        clear ho ho2
        generalize nw e (val xs) gk = nx at *
        go_wp2_with fail
        refine (compare_any _ _ _ _ _ _ _ _ _ ho2'.sl ho'.sl).mono ?_
        rw [val_dg, val_dg]
        rintro e2 w3 ⟨rfl, hf3⟩
        have ho3 := ho'.kept hf3
        have ho4 := ho2'.kept hf3
        have hfw3 : Fr [] w w3 := hfw.trans hf3 (by simp)
        by_cases hc : gk ≤ nx
        · have hcc : cmpN nx gk = 0 ∨ cmpN nx gk = 1 := by
            by_cases h2 : gk < nx
            · exact Or.inr (cmpN_gt h2)
            · exact Or.inl (cmpN_eq (by omega))
          have heq := Lib.hid (hstop.out hc)
          have HC := Lib.hid hcc
          clear hcc hc
          rcases HC.out with h5 | h5
          all_goals
            rw [h5]
            clear h5
            go_wp2
            go_ret
            rw [← heq.out]
            exact ⟨q, cq, rfl, ho3, hfw3⟩
        · have h5 := cmpN_lt (a := nx) (b := gk) (by omega)
          rw [h5]
          clear h5
          go_wp2
          go_roundg nx
          case rel => exact ⟨q2, c2, rfl, ho4, hge.out, Nat.le_trans hrt1 hge.out, by omega, hfw3⟩
          case measure => omega


/-- nat.Root, within the range of exponents. -/
theorem root_yes (p : Option Addr) (n c e : Nat) (xs : List Nat) (w : World) (h : Sl w p n c xs) (hn : n ≤ 131072) (he : 1 ≤ e) (he2 : e ≤ 64) :
    Calls Try.prog 14 #[.slice p n c, .int .i64 e] w fun e1 w' => ∃ q cq, e1 = .returned (.tuple #[.slice q (dg (rt e (val xs))).length cq, .int .i64 0]) ∧ Ow w' w.heap.size q (dg (rt e (val xs))).length cq (dg (rt e (val xs))) ∧ Fr [] w w' := by
  have h1 : ¬ (e : Int) < 1 := by omega
  have h2 : ¬ (64 : Int) < e := by omega
  go_enter Try.func14, Try.ntmps14
  go_wp2_with fail
  refine (root_below e he he2 (val xs + 1) _ _ _ _ _ h hn (by omega)).mono ?_
  rintro e1 w1 ⟨q, cq, rfl, ho, hf⟩
  go_wp2_with fail
  go_ret2
  exact ⟨q, cq, rfl, ho, hf⟩
theorem root_no (p : Option Addr) (n c : Nat) (e : Int) (w : World) (he : e < 1 ∨ 64 < e) :
    Calls Try.prog 14 #[.slice p n c, .int .i64 e] w fun e1 w' => e1 = .returned (.tuple #[.slice none 0 0, .int .i64 1]) ∧ w = w' := by
  rcases he with he | he
  · go_enter Try.func14, Try.ntmps14
    go_wp2
    go_ret2
    exact ⟨rfl, rfl⟩
  · have h0 : ¬ e < 1 := by omega
    go_enter Try.func14, Try.ntmps14
    go_wp2
    go_ret2
    exact ⟨rfl, rfl⟩

end Go.Proofs.Ytfjhdhmneknmkaa
