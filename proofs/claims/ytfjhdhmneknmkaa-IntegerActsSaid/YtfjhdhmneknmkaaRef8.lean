/- The document's own DivMod: by 0, by one digit, of a smaller number. -/
import Derived.Test.YtfjhdhmneknmkaaRef7
namespace Go.Proofs.Ytfjhdhmneknmkaa
open Go.RowKit

set_option maxRecDepth 100000 in
set_option maxHeartbeats 2000000 in
theorem rdivmod_zero (p q : Option Addr) (n c m d : Nat) (xs ys : List Nat) (w : World) (h1 : Sl w p n c xs) (h2 : Sl w q m d ys) (hn : n ≤ 1048576) (hm : m ≤ 1048576) (hv : val ys = 0) :
    Calls Try.prog 78 #[.slice p n c, .slice q m d] w fun e w' => e = .returned (.tuple #[.slice none 0 0, .slice none 0 0, .int .i64 3]) ∧ Fr [] w w' := by
  have hl : (dg (val ys)).length = 0 := by rw [hv, dg_zero]; rfl
  have HL := Lib.hid hl
  clear hl hv
  go_enter Try.func78, Try.ntmps78
  go_wp2_with fail
  refine (rcut_any _ _ _ _ _ h1 (by omega)).mono ?_
  rintro e w1 ⟨p1, c1, rfl, o1, f1⟩
  replace h2 := h2.kept f1
  go_wp2_with fail
  refine (rcut_any _ _ _ _ _ h2 (by omega)).mono ?_
  rintro e w2 ⟨p2, c2, rfl, o2, f2⟩
  rw [HL.out]
  clear o1 o2 h1 h2
  go_wp2
  go_ret3
  exact ⟨rfl, f1.trans f2 (by simp)⟩

set_option maxRecDepth 100000 in
set_option maxHeartbeats 2000000 in
theorem rdivmod_one (p q : Option Addr) (n c m d : Nat) (xs ys : List Nat) (w : World) (h1 : Sl w p n c xs) (h2 : Sl w q m d ys) (hn : n ≤ 1048576) (hm : m ≤ 1048576) (hv : (dg (val ys)).length = 1) :
    Calls Try.prog 78 #[.slice p n c, .slice q m d] w fun e w' => ∃ pq cq pr cr, e = .returned (.tuple #[.slice pq (dg (val xs / val ys)).length cq, .slice pr (dg (val xs % val ys)).length cr, .int .i64 0]) ∧
      Ow w' w.heap.size pq (dg (val xs / val ys)).length cq (dg (val xs / val ys)) ∧ Ow w' w.heap.size pr (dg (val xs % val ys)).length cr (dg (val xs % val ys)) ∧ Fr [] w w' := by
  have hvl := dg_lt (val ys)
  rw [hv, pB_one] at hvl
  have hvn : val ys ≠ 0 := fun e => by rw [e, dg_zero] at hv; cases hv
  have hg : gd (dg (val ys)) 0 = val ys := by
    rw [dg_pos hvn, gd_cons_zero, Nat.mod_eq_of_lt hvl]
  have l1 := dg_len_val h1.dig
  rw [h1.len] at l1
  have HL := Lib.hid hv
  clear hv
  go_enter Try.func78, Try.ntmps78
  go_wp2_with fail
  refine (rcut_any _ _ _ _ _ h1 (by omega)).mono ?_
  rintro e w1 ⟨p1, c1, rfl, o1, f1⟩
  replace h2 := h2.kept f1
  have s1 := o1.sl
  go_wp2_with fail
  refine (rcut_any _ _ _ _ _ h2 (by omega)).mono ?_
  rintro e w2 ⟨p2, c2, rfl, o2, f2⟩
  have s2 := o2.sl
  replace s1 := s1.kept f2
  have hw := f1.trans f2 (by simp)
  rw [HL.out] at s2 ⊢
  obtain ⟨b, off, rfl, _, hcell⟩ := s2.rd.open (by rw [HL.out]; decide)
  have hc0 := hcell 0 (by rw [HL.out]; decide)
  rw [Nat.add_zero] at hc0
  have HG := Lib.hid hg
  rw [hg] at hc0
  clear o1 o2 h1 h2 f1 f2 hcell s2 hg
  go_wp2_with fail
  refine (rsmall_any _ _ _ (val ys) _ _ s1 (by omega) hvl (by omega)).mono ?_
  rw [val_dg]
  rintro e w3 ⟨pq, cq, rfl, oq, f3⟩
  have sq := oq.mono hw.size
  replace hw := hw.trans f3 (by simp)
  have hmod : val xs % val ys < 4294967296 := Nat.lt_trans (Nat.mod_lt _ (by omega)) hvl
  clear s1 oq f3 hc0
  go_wp2_with fail
  refine (rcut_any _ 1 1 [val xs % val ys] _ (made1 rfl rfl hmod) (by decide)).mono ?_
  rw [val_one]
  rintro e w4 ⟨pr, cr, rfl, oR, f4⟩
  have sr := oR.mono (show w.heap.size ≤ (w3.alloc _).heap.size from Nat.le_trans hw.size (Fr.new _).size)
  have f4' := (Fr.new (w := w3) _).trans f4 (by simp)
  replace sq := sq.kept f4'
  go_wp2_with fail
  go_ret3
  exact ⟨pq, cq, pr, cr, rfl, sq, sr, hw.trans f4' (by simp)⟩

set_option maxRecDepth 100000 in
set_option maxHeartbeats 2000000 in
theorem rdivmod_less (p q : Option Addr) (n c m d : Nat) (xs ys : List Nat) (w : World) (h1 : Sl w p n c xs) (h2 : Sl w q m d ys) (hn : n ≤ 1048576) (hm : m ≤ 1048576) (hv : 1 < (dg (val ys)).length) (hlt : val xs < val ys) :
    Calls Try.prog 78 #[.slice p n c, .slice q m d] w fun e w' => ∃ pq cq pr cr, e = .returned (.tuple #[.slice pq (dg (val xs / val ys)).length cq, .slice pr (dg (val xs % val ys)).length cr, .int .i64 0]) ∧
      Ow w' w.heap.size pq (dg (val xs / val ys)).length cq (dg (val xs / val ys)) ∧ Ow w' w.heap.size pr (dg (val xs % val ys)).length cr (dg (val xs % val ys)) ∧ Fr [] w w' := by
  rw [Nat.div_eq_of_lt hlt, Nat.mod_eq_of_lt hlt, dg_zero]
  have l1 := dg_len_val h1.dig
  rw [h1.len] at l1
  have l2 := dg_len_val h2.dig
  rw [h2.len] at l2
  have hcm := Lib.hid (cmpN_lt hlt)
  have hb1 : (((dg (val ys)).length : Int) == 0) = false := beq_eq_false_iff_ne.2 (by omega)
  have hb2 : (((dg (val ys)).length : Int) == 1) = false := beq_eq_false_iff_ne.2 (by omega)
  clear hlt
  go_enter Try.func78, Try.ntmps78
  go_wp2_with fail
  refine (rcut_any _ _ _ _ _ h1 (by omega)).mono ?_
  rintro e w1 ⟨p1, c1, rfl, o1, f1⟩
  replace h2 := h2.kept f1
  have s1 := o1.sl
  go_wp2_with fail
  refine (rcut_any _ _ _ _ _ h2 (by omega)).mono ?_
  rintro e w2 ⟨p2, c2, rfl, o2, f2⟩
  have s2 := o2.sl
  replace s1 := s1.kept f2
  replace o1 := o1.kept f2
  have hw := f1.trans f2 (by simp)
  clear o2 h1 h2 f1 f2
  go_wp2_with fail
  refine (rcompare_any _ _ _ _ _ _ _ _ _ s1 s2 (by omega) (by omega)).mono ?_
  rw [val_dg, val_dg, hcm.out]
  rintro e w3 ⟨rfl, f3⟩
  replace o1 := o1.kept f3
  go_wp2_with fail
  go_ret3
  exact ⟨none, 0, p1, c1, rfl, Ow.zero _ _, o1, hw.trans f3 (by simp)⟩

end Go.Proofs.Ytfjhdhmneknmkaa
