/- divide, DivMod. -/
import Derived.Test.YtfjhdhmneknmkaaDiv3
import Derived.Laws.CopyOwn
namespace Go.Proofs.Ytfjhdhmneknmkaa
open Go.RowKit

theorem Fr.of_below {w w' : World} (h : Below w.heap.size w w') : Fr [] w w' := ⟨h.os, h.tape, h.output, h.size, fun k hk _ => h.block k hk⟩

/-- A normal list. -/
def Nm (B : List Nat) : Prop := B = [] ∨ gd B (B.length - 1) ≠ 0
theorem Nm.dg (n : Nat) : Nm (dg n) := by
  by_cases h : n = 0
  · left; rw [h, dg_zero]
  · right
    have hl : (Go.Proofs.Ytfjhdhmneknmkaa.dg n).length ≠ 0 := fun e => h (dg_nil.1 (List.eq_nil_of_length_eq_zero e))
    exact dg_last (by omega)
theorem Nm.val_ge {B : List Nat} (h : Nm B) (h0 : 0 < B.length) : pB (B.length - 1) ≤ val B := by
  rcases h with rfl | h
  · simp at h0
  · have h1 := val_take_succ B (B.length - 1)
    rw [List.take_of_length_le (by omega)] at h1
    have h2 : pB (B.length - 1) * 1 ≤ pB (B.length - 1) * gd B (B.length - 1) := Nat.mul_le_mul_left _ (by omega)
    omega
theorem Nm.lt_of_len {A B : List Nat} (hA : Dg A) (hB : Nm B) (h : A.length < B.length) : val A < val B := by
  have h1 := val_lt hA
  have h2 := hB.val_ge (by omega)
  have h3 := pB_mono (j := A.length) (k := B.length - 1) (by omega)
  omega

/-- What 'divide' leaves. -/
def DivPost (w : World) (A B : List Nat) (e : Ending) (w' : World) : Prop :=
  ∃ pq nq cq Q pr nr cr R, e = .returned (.tuple #[.slice pq nq cq, .slice pr nr cr]) ∧ Ow w' w.heap.size pq nq cq Q ∧ Ow w' w.heap.size pr nr cr R ∧
    val Q = val A / val B ∧ val R = val A % val B ∧ nr = B.length ∧ nq ≤ A.length ∧ Fr [] w w'

set_option maxRecDepth 100000 in
set_option maxHeartbeats 2000000 in
theorem divide_any (p q : Option Addr) (n m c d : Nat) (A B : List Nat) (w : World) (hA : Sl w p n c A) (hB : Sl w q m d B) (hn : n ≤ 1099511627774) (hm : 1 ≤ m) (hm2 : m ≤ 1099511627774) (hv : gd B (m - 1) ≠ 0) :
    Calls Try.prog 74 #[.slice p n c, .slice q m d] w (DivPost w A B) := by
  obtain ⟨i0, hi, hz0, hz1, hz2⟩ := info_parts Try.infoU
  have hBl := hB.len
  have hAl := hA.len
  have hNm : Nm B := Or.inr (by rw [hBl]; exact hv)
  by_cases h1 : n < m
  · have hlt := hNm.lt_of_len hA.dig (by omega)
    have hAB := Lib.hid hlt
    have HAl := Lib.hid hAl
    have HBl := Lib.hid hBl
    have hsrc := hA.src
    have hd1 : decide (n < m) = true := by simpa using h1
    clear hlt hAl hBl
    go_enter Try.func74, Try.ntmps74
    go_wp2_with (at_make; refine wpList_make_full _ rfl _ _ 22 rfl 0 57 i0 (.int .u32 0) 1 Try.underlying22 hi hz0 hz1 _ _ _ _ m rfl rfl (by omega) (by omega) (by rw [hz2]; omega) (by unfold maxLen; omega) (Nat.zero_le _) ?_)
    intro w3 hown hgrow
    have hb3 := blk_of_made hown
    have hf3 : Fr [] w w3 := (Fr.refl _ _).grown hgrow (by simp)
    clear hown hgrow
    have hA3 := hA.kept hf3
    have D1 : Hid ((A.map dv).length = Nat.min n m) := by show _ = _; rw [List.length_map, HAl.out]; exact (Nat.min_eq_left (by omega)).symm
    have D2 : Hid (0 < (A.map dv).length → some (⟨w.heap.size, 0, none⟩ : Addr) = some ⟨w.heap.size, 0, none⟩ ∧ ∃ ad, p = some ad ∧ ∀ j v, (A.map dv)[j]? = some v → w3.cell? (ad.add j) = some v) := by
      intro h0
      rcases hsrc with ⟨_, _, _, rfl⟩ | ⟨a, rfl⟩
      · simp at h0
      · exact ⟨rfl, a, rfl, hA3.rd.news⟩
    have D3 : Hid (0 + (A.map dv).length ≤ ((List.replicate m 0).map dv).length) := by show _ ≤ _; rw [List.length_map, List.length_map, List.length_replicate, HAl.out]; omega
    go_wp2_with (refine wpList_copy_splice rfl _ _ 22 22 rfl 57 Try.underlying22 (by rw [hi]; simp [hz1]) _ _ _ _ _ _ rfl rfl w.heap.size 0 ((List.replicate m 0).map dv) 57 (by exact hb3) (A.map dv) (by exact D1) (by exact D2) (by exact D3) (by exact dv_oneCell _) w.heap.size w hf3.below (Nat.le_refl _) ?_)
    intro w4 hcp hbel
    have hf4 : Fr [] w w4 := Fr.of_below hbel
    have hR : Blk w4 w.heap.size ((A ++ List.replicate (m - n) 0).map dv) := by
      have h := hcp.out
      have e : splice (List.replicate m (dv 0)) 0 (A.map dv) = (A ++ List.replicate (m - n) 0).map dv := by
        simp [splice, HAl.out]
      rw [e] at h
      exact h
    have hRl : (A ++ List.replicate (m - n) 0).length = m := by simp [HAl.out]; omega
    have hRO := Ow.of_blk (base := w.heap.size) hR (Nat.le_refl _) (by omega) (hA.dig.append (Dg.zeros _))
    rw [hRl] at hRO
    have hRv : val (A ++ List.replicate (m - n) 0) = val A := by rw [val_append, val_zeros]; omega
    have HRO := Lib.hid hRO
    have HRv := Lib.hid hRv
    clear hcp hbel hR hRl hRO hRv D1 D2 D3
    go_wp2
    go_ret2
    exact ⟨none, 0, 0, [], _, m, m, _, rfl, Ow.zero _ _, HRO.out, by rw [Nat.div_eq_of_lt hAB.out]; rfl, by rw [HRv.out, Nat.mod_eq_of_lt hAB.out], HBl.out.symm, Nat.zero_le _, hf4⟩
  · have hd1 : decide (n < m) = false := by simpa using h1
    by_cases h2 : m = 1
    · subst h2
      obtain ⟨b2, o2, rfl, _, r2⟩ := hB.rd.open (by omega)
      have c1 := r2 0 (by omega)
      rw [Nat.add_zero] at c1
      have d1 := hB.dig.at 0
      have hB0 : gd B 0 ≠ 0 := hv
      have hBv : val B = gd B 0 := by rw [val_two (by omega), gd_ge (j := 1) (by omega)]; omega
      have HAl := Lib.hid hAl
      have HBl := Lib.hid hBl
      have HBv := Lib.hid hBv
      clear r2 hAl hBl hBv hv
      generalize hg : gd B 0 = d0 at *
      have HD := Lib.hid hg
      clear hg
      go_enter Try.func74, Try.ntmps74
      go_wp2_with fail
      refine (clone_any _ _ _ _ _ hA (by omega)).mono ?_
      rintro e w3 ⟨p3, c3, rfl, h3, f3⟩
      have c1' : w3.cell? ⟨b2, o2, none⟩ = some (dv d0) := by
        obtain ⟨b, o, e1, e2, _⟩ := hB.rd.open (by have := HBl.out; omega)
        cases e1
        rw [f3.cell (p := ⟨b2, o2, none⟩) e2 (by simp)]
        exact c1
      rw [HAl.out] at h3
      rw [HAl.out]
      go_wp2_with fail
      refine (divd_any _ _ _ d0 _ _ _ h3 (by omega) d1 (by omega)).mono ?_
      rintro e w4 ⟨rfl, Q, hQl, hQv, hQ, f4⟩
      have hf4 : Fr [] w w4 := h3.frame (Nat.le_refl _) f3 f4
      have hmod : val A % d0 < 4294967296 := by have := Nat.mod_lt (val A) (show 0 < d0 by omega); omega
      have hR := Ow.made w4 (base := w.heap.size) [val A % d0] hf4.size (by simp) (Dg.one hmod)
      simp only [List.map_cons, List.map_nil, List.length_cons, List.length_nil] at hR
      have hfa : Fr [] w4 (w4.alloc (.cells #[dv (val A % d0)] 57)) := (Fr.refl _ _).alloc _
      have HQ := Lib.hid (hQ.kept hfa)
      have HR := Lib.hid hR
      have HQv : Hid (val Q = val A / val B) := by show _ = _; rw [hQv, HBv.out]
      have HRv : Hid (val [val A % d0] = val A % val B) := by show _ = _; rw [val_one, HBv.out]
      have hf5 : Fr [] w (w4.alloc (.cells #[dv (val A % d0)] 57)) := hf4.trans hfa (by simp)
      clear hQ hR hQv hQl
      generalize val A % d0 = rr at *
      go_wp2_with fail
      go_ret2
      exact ⟨p3, n, c3, Q, _, 1, 1, [rr], rfl, HQ.out, HR.out, HQv.out, HRv.out, HBl.out.symm, by rw [HAl.out]; exact Nat.le_refl _, hf5⟩
    · obtain ⟨k, rfl⟩ : ∃ k, m = k + 2 := ⟨m - 2, by omega⟩
      have g1 : (((k + 2 : Nat) : Int) == 1) = false := beq_eq_false_iff_ne.2 (by omega)
      have g2 : (((k : Nat) : Int) + 2 == 1) = false := beq_eq_false_iff_ne.2 (by omega)
      have g3 : decide (n < k + 2) = false := hd1
      have HAl := Lib.hid hAl
      have HBl := Lib.hid hBl
      clear hAl hBl
      go_enter Try.func74, Try.ntmps74
      go_wp2_with fail
      refine (divideLong_any p q n k c d A B w hA hB hn (by omega) hv).mono ?_
      rintro e w' ⟨gq, Q, gr, R, rfl, h3, h4, h5, h6, h7, h8, h9, h10, h11, h12, h13⟩
      have HQ := Ow.of_blk h5 h3 (by omega) h9
      have HR := Ow.of_blk h6 h4 (by omega) h10
      rw [h7] at HQ
      rw [h8] at HR
      have H7 := Lib.hid h7
      have H8 := Lib.hid h8
      have H11 := Lib.hid h11
      have H12 := Lib.hid h12
      clear h7 h8 h11 h12
      go_wp2_with fail
      go_ret2
      exact ⟨_, _, _, Q, _, _, _, R, rfl, HQ, HR, H11.out, H12.out, HBl.out.symm, by rw [HAl.out]; omega, h13⟩

theorem ret_tup3 {a a' b b' c c' : Value} (h1 : a = a') (h2 : b = b') (h3 : c = c') : Ending.returned (.tuple #[a, b, c]) = .returned (.tuple #[a', b', c']) := by rw [h1, h2, h3]

/-- nat.DivMod, by a divisor that is not 0. -/
theorem divmod_yes (p q : Option Addr) (n m c d : Nat) (A B : List Nat) (w : World) (hA : Sl w p n c A) (hB : Sl w q m d B) (hn : n ≤ 1099511627774) (hm2 : m ≤ 1099511627774) (hv : val B ≠ 0) :
    Calls Try.prog 24 #[.slice p n c, .slice q m d] w fun e w' => ∃ pq cq pr cr, e = .returned (.tuple #[.slice pq (dg (val A / val B)).length cq, .slice pr (dg (val A % val B)).length cr, .int .i64 0]) ∧
      Ow w' w.heap.size pq (dg (val A / val B)).length cq (dg (val A / val B)) ∧ Ow w' w.heap.size pr (dg (val A % val B)).length cr (dg (val A % val B)) ∧ Fr [] w w' := by
  have kA := hA.cut
  have kB := hB.cut
  have lA := dg_len_val hA.dig
  have lB := dg_len_val hB.dig
  rw [hA.len] at lA
  rw [hB.len] at lB
  have hBn : (dg (val B)).length ≠ 0 := fun e => hv (dg_nil.1 (List.eq_nil_of_length_eq_zero e))
  have hNm : gd (dg (val B)) ((dg (val B)).length - 1) ≠ 0 := dg_last (by omega)
  go_enter Try.func24, Try.ntmps24
  go_wp2_with fail
  refine (cut_any _ _ _ _ _ hA).mono ?_
  rintro e w' ⟨rfl, rfl⟩
  go_wp2_with fail
  refine (cut_any _ _ _ _ _ hB).mono ?_
  rintro e w' ⟨rfl, rfl⟩
  have VA := Lib.hid (val_dg (val A))
  have VB := Lib.hid (val_dg (val B))
  clear hA hB
  generalize dg (val A) = A' at *
  generalize dg (val B) = B' at *
  have g1 : ((B'.length : Int) == 0) = false := beq_eq_false_iff_ne.2 (by omega)
  go_wp2_with fail
  refine (divide_any p q _ _ c d A' B' w kA kB (by omega) (by omega) (by omega) hNm).mono ?_
  rintro e w1 ⟨pq, nq, cq, Q, pr, nr, cr, R, rfl, HQ, HR, h1, h2, h3, h4, hf⟩
  rw [VA.out, VB.out] at h1 h2
  have H1 := Lib.hid h1
  have H2 := Lib.hid h2
  clear h1 h2 h3 h4
  go_wp2_with fail
  refine (normal_any _ _ _ _ _ _ HQ).mono ?_
  rintro e w2 ⟨⟨p', c', rfl, hq'⟩, rfl⟩
  go_wp2_with fail
  refine (normal_any _ _ _ _ _ _ HR).mono ?_
  rintro e w2 ⟨⟨p2, c2, rfl, hr'⟩, rfl⟩
  rw [H1.out] at hq' ⊢
  rw [H2.out] at hr' ⊢
  go_wp2_with fail
  go_ret3
  exact ⟨p', c', p2, c2, rfl, hq', hr', hf⟩

/-- nat.DivMod, by 0. -/
theorem divmod_no (p q : Option Addr) (n m c d : Nat) (A B : List Nat) (w : World) (hA : Sl w p n c A) (hB : Sl w q m d B) (hv : val B = 0) :
    Calls Try.prog 24 #[.slice p n c, .slice q m d] w fun e w' => e = .returned (.tuple #[.slice none 0 0, .slice none 0 0, .int .i64 3]) ∧ w = w' := by
  have hz : (dg (val B)).length = 0 := by rw [hv, dg_zero]; rfl
  have HZ := Lib.hid hz
  clear hz
  go_enter Try.func24, Try.ntmps24
  go_wp2_with fail
  refine (cut_any _ _ _ _ _ hA).mono ?_
  rintro e w' ⟨rfl, rfl⟩
  go_wp2_with fail
  refine (cut_any _ _ _ _ _ hB).mono ?_
  rintro e w' ⟨rfl, rfl⟩
  rw [HZ.out]
  go_wp2_with fail
  go_ret3
  exact ⟨rfl, rfl⟩

end Go.Proofs.Ytfjhdhmneknmkaa
