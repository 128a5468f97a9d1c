/- What the statements of this claim stand on: of Ref10, what they name -/
import Derived.Deep.CutBlock
import Derived.Deep.DeepCutAuto
import Derived.Deep.RegionHeld3
import Derived.Test.YtagciepnhjbopaaGreatDoorT12

namespace Go.Proofs.YtagciepnhjbopaaGreatDoor
open Go.RowKit

theorem row_of_ow {w : World} {base n c : Nat} {p : Option Addr} {xs : List Nat} (h : Ow w base p n c xs) (h0 : xs ≠ []) : Rw' w base (.slice p n c) n xs := by
  rcases h.own with h1 | ⟨g, L, rfl, hg, hb, hl, hs⟩
  · exact absurd h1 h0
  · have hn := h.sl.len
    refine ⟨by simpa using hn, Or.inr ⟨g, c, L.toArray, rfl, hg, by simpa [Blk] using hb, h.sl.le, by have := h.sl.cap; simpa [maxLen] using this, by simpa using hl, ?_⟩⟩
    apply List.ext_getElem?
    intro j
    simp only [Nat.mul_one]
    rw [List.getElem?_take]
    by_cases hj : j < n
    · rw [if_pos hj]
      have := hs.2 j (by omega)
      rw [Nat.zero_add] at this
      rw [this, List.getElem?_map, List.getElem?_eq_getElem (by omega), gd_lt (by omega)]
      rfl
    · rw [if_neg hj, List.getElem?_map, List.getElem?_eq_none (by omega)]
      rfl

theorem wpList_app1w {w : World} {ops : Array Oper} {rest : List Oper} {o : Oper} {a : Act} {Q : Exit → Act → World → Prop} (hgd : o.guard = none) (s x : Operand)
    (ho : o.op = .call { callee := .builtin .append, args := #[s, x], argTypes := #[22, 22] }) (base gu n cap : Nat) (xs : List Nat) (hs : a.eval s = .slice (some ⟨gu, 0, none⟩) n cap) (hown : Rw' w base (.slice (some ⟨gu, 0, none⟩) n cap) n xs)
    (g c d : Nat) (hx : a.eval x = .slice (some ⟨g, 0, none⟩) 1 c) (dI : Int) (hc : w.cell? ⟨g, 0, none⟩ = some (.int .u32 dI)) (hd : dI = (d : Nat)) (_hn : n ≤ 1099511627776) (hb : base ≤ w.heap.size)
    (hK : ∀ v' w', Rw' w' base v' (n + 1) (xs ++ [d]) → w.grownBy w' (some gu) → (v'.ownBlock = some gu ∨ v'.ownBlock = some w.heap.size) → wpList Tryz.prog ops Q rest (a.put o.dst v') w') : wpList Tryz.prog ops Q (o :: rest) a w := by
  obtain ⟨i0, hi, hz0, hz1, hz2⟩ := info_parts Tryz.infoU
  have hnews : ∀ j u, ([dv d] : List Value)[j]? = some u → w.cell? ((⟨g, 0, none⟩ : Addr).add j) = some u := by
    intro j u hj
    match j, hj with
    | 0, hj =>
      cases hj
      rw [add_plain, hc, hd]
    | j + 1, hj => simp at hj
  have hone : ∀ u ∈ ([dv d] : List Value), u.oneCell' = true := by intro u hu; rw [List.mem_singleton] at hu; subst hu; rfl
  have h63 : n + 1 ≤ maxLen := by unfold maxLen; omega
  obtain ⟨v', w', hr, h2, h3, _⟩ := run_append_own (P := Tryz.prog) w base 22 o.type 52 i0 (.int .u32 0) 1 4 Tryz.underlying22 hi hz0 hz1 hz2 rfl (by decide) _ _ _ hown ⟨g, 0, none⟩ 1 c [dv d] rfl hnews hone h63 (by omega) hb
  have hwhere : v'.ownBlock = some gu ∨ v'.ownBlock = some w.heap.size := by
    rcases hown.2 with ⟨h0, _⟩ | ⟨g', cap', cur, h0, h4, h5, h6, h7, h8, h9⟩
    · cases h0
    · cases h0
      by_cases hroom : n + 1 ≤ cap
      · have hr2 := run_append_room (P := Tryz.prog) w 22 o.type 52 i0 Tryz.underlying22 hi gu n cap cur h5 ⟨g, 0, none⟩ 1 c [dv d] (by rw [hz1]; rfl) hnews hone hroom (by rw [hz1, h8]; simp; omega)
        rw [hr] at hr2
        cases hr2
        exact Or.inl rfl
      · have holds := hown.cells (g := gu) rfl
        have hr2 := run_append_grow (P := Tryz.prog) w 22 o.type 52 i0 (.int .u32 0) Tryz.underlying22 hi hz0 ⟨gu, 0, none⟩ n cap (xs.map dv) (by rw [hz1]; exact hown.1) holds ⟨g, 0, none⟩ 1 c [dv d] (by rw [hz1]; rfl) hnews (by omega) (by omega) (growslice_fits (by omega) (by rw [hz2]; omega))
        rw [hr] at hr2
        cases hr2
        exact Or.inr rfl
  refine wpList_plain hgd fun K hK' => ?_
  unfold Oper.wp execOp
  simp only [ho, resolve, invoke, builtin, Sem.run_bind, Sem.run_pure, Result.andThen_ok, List.map_toArray, List.map_cons, List.map_nil, hs, hx, hr]
  exact hK' _ _ (hK v' w' (by simpa [Rw'] using h2) h3 hwhere)

theorem and_low (C pr : Nat) (h : C + pr < 18446744073709551616) : bits .and .u64 ((C : Int) + pr) 4294967295 = (((C + pr) % 4294967296 : Nat) : Int) := by
  have e := bits_and_u64_nat (C + pr) 4294967295 h (by decide)
  have e2 : (C + pr) &&& 4294967295 = (C + pr) % 4294967296 := Nat.and_two_pow_sub_one_eq_mod (C + pr) 32
  rw [e2] at e
  rw [← e]
  congr 1

theorem set_mid3 {D Z : List Nat} {k j E : Nat} (hZ : Z.length = j) (hk : k + j < D.length) : (D.take k ++ Z ++ D.drop (k + j)).set (j + k) E = D.take k ++ (Z ++ [E]) ++ D.drop (k + (j + 1)) := by
  have hl : (D.take k ++ Z).length = j + k := by simp [hZ]; omega
  rw [List.set_append_right _ _ (by omega), hl, Nat.sub_self, List.drop_eq_getElem_cons hk, List.set_cons_zero]
  simp [Nat.add_assoc]

theorem row_keep1 {S : List Nat} {w w' : World} {base g n c : Nat} {xs : List Nat} (h : Rw' w base (.slice (some ⟨g, 0, none⟩) n c) n xs) (f : Fr S w w') (hs : g ∉ S) : Rw' w' base (.slice (some ⟨g, 0, none⟩) n c) n xs := by
  refine ⟨h.1, ?_⟩
  rcases h.2 with ⟨h0, _⟩ | ⟨g', cap, cur, h1, h2, h3, h4⟩
  · cases h0
  · cases h1
    have hl : g < w.heap.size := (Array.getElem?_eq_some_iff.1 h3).1
    exact Or.inr ⟨g, c, cur, rfl, h2, (f.block g hl hs).trans h3, h4⟩

theorem set1_frz (w : World) (b j : Nat) (u : Value) : Fr [b] w (w.setCell ⟨b, j, none⟩ u) := (Fr.refl _ _).setCell ⟨b, j, none⟩ _ (fun _ => List.mem_singleton.2 rfl)

theorem shiftN_neg (v s : Nat) : shiftN v (-(s : Int)) = v / 2 ^ s := by
  unfold shiftN
  rw [if_neg (by omega)]
  by_cases h : s = 0
  · subst h; simp
  · rw [if_pos (by omega), Int.neg_neg, Int.toNat_natCast]

theorem shiftN_nat (v : Nat) {s : Nat} (_h : s ≤ 31) : shiftN v (s : Int) = v * 2 ^ s := by
  unfold shiftN
  rw [if_neg (by omega), if_neg (by omega), Int.toNat_natCast]

theorem shifted_len {v m s top : Nat} (hl : (dg v).length = m + 2) (ht : top = gd (dg v) (m + 1)) (h0 : top ≠ 0) (hs : s = 32 - bl top) : (dg (v * 2 ^ s)).length = m + 2 := by
  obtain ⟨h1, h2, _⟩ := by_top hl (Dg_dg v) ht.symm h0 (by rw [ht]; exact (Dg_dg _).at _) hs
  rw [val_dg] at h1 h2
  have h3 := dg_len_le h1
  have h4 := dg_len_lt h2
  omega

theorem shifted_ge (v s : Nat) : (dg v).length ≤ (dg (v * 2 ^ s)).length := by
  apply dg_len_mono
  exact Nat.le_mul_of_pos_right _ (Nat.two_pow_pos s)

theorem shifted_le (v : Nat) {s : Nat} (_h : s ≤ 31) : (dg (v * 2 ^ s)).length ≤ (dg v).length + 1 := by
  have h1 := dg_mul_len v (2 ^ s)
  have h2 : (dg (2 ^ s)).length ≤ 1 := dg_len_le (by rw [pB_one]; exact Nat.pow_lt_pow_right (a := 2) (m := s) (n := 32) (by decide) (by omega))
  omega

set_option maxRecDepth 100000 in
set_option maxHeartbeats 4000000 in
theorem rdivmod_long (p q : Option Addr) (n c m' d m : Nat) (xs ys : List Nat) (w : World) (h1 : Sl w p n c xs) (h2 : Sl w q m' d ys) (_hn : n ≤ 1048575) (_hm : m' ≤ 1048575) (hv : (dg (val ys)).length = m + 2) (hle : val ys ≤ val xs) :
    Calls Tryz.prog 178 #[.slice p n c, .slice q m' d] w fun e w' => ∃ pq cq pr cr, e = .returned (.tuple #[.slice pq (dg (val xs / val ys)).length cq, .slice pr (dg (val xs % val ys)).length cr, .int .i64 0]) ∧
      Ow w' w.heap.size pq (dg (val xs / val ys)).length cq (dg (val xs / val ys)) ∧ Ow w' w.heap.size pr (dg (val xs % val ys)).length cr (dg (val xs % val ys)) ∧ Fr [] w w' := by
  obtain ⟨i0, hi, hz0, hz1, hz2⟩ := info_parts Tryz.infoU
  have l1 := dg_len_val h1.dig
  rw [h1.len] at l1
  have l2 := dg_len_val h2.dig
  rw [h2.len] at l2
  have hnc : decide (cmpN (val xs) (val ys) < 0) = false := by
    by_cases e : val xs = val ys
    · rw [cmpN_eq e]; rfl
    · rw [cmpN_gt (by omega)]; rfl
  have HC := Lib.hid hnc
  have hl0 := dg_len_mono hle
  rw [hv] at l2 hl0
  generalize hn1 : (dg (val xs)).length = N at *
  have HN := Lib.hid hn1
  have HV := Lib.hid hv
  clear hnc hn1
  go_enter Tryz.func178, Tryz.ntmps178
  go_wp2_with fail
  refine (rcut_any _ _ _ _ _ h1 (by omega)).mono ?_
  rintro e w1 ⟨p1, c1, rfl, o1, f1⟩
  replace h2 := h2.kept f1
  go_wp2_with fail
  refine (rcut_any _ _ _ _ _ h2 (by omega)).mono ?_
  rintro e w2 ⟨p2, c2, rfl, o2, f2⟩
  rw [HN.out] at o1 ⊢
  rw [HV.out] at o2 ⊢
  replace o1 := o1.kept f2
  have hw := f1.trans f2 (by simp)
  have hsz1 := f1.size
  have hsz2 := f2.size
  clear f1 f2 h1 h2 hv
  have hb1 : (((m + 2 : Nat) : Int) == 0) = false := beq_eq_false_iff_ne.2 (by omega)
  have hb2 : (((m + 2 : Nat) : Int) == 1) = false := beq_eq_false_iff_ne.2 (by omega)
  go_wp2_with fail
  refine (rcompare_any _ _ _ _ _ _ _ _ _ o1.sl o2.sl (by omega) (by omega)).mono ?_
  rw [val_dg, val_dg]
  rintro e w3 ⟨rfl, f3⟩
  replace o1 := o1.kept f3
  replace o2 := o2.kept f3
  have hsz3 := f3.size
  replace hw := hw.trans f3 (by simp)
  clear f3
  have hyn : dg (val ys) ≠ [] := fun e => by have h := HV.out; rw [e] at h; simp at h
  obtain ⟨g2, L2, rfl, hg2, hB2, hL2, hS2⟩ := o2.own.resolve_left hyn
  have hS2b := hS2.sub (m + 1) 1 (by rw [HV.out]; omega)
  obtain ⟨top, htop⟩ : ∃ top, top = gd (dg (val ys)) (m + 1) := ⟨_, rfl⟩
  have htl : ((dg (val ys)).drop (m + 1)).take 1 = [top] := by
    rw [List.drop_eq_getElem_cons (by rw [HV.out]; omega), List.take_succ_cons, List.take_zero, htop, gd_lt (by rw [HV.out]; omega)]
  have htop0 : top ≠ 0 := by rw [htop]; exact dg_last HV.out
  have htop32 : top < 4294967296 := by rw [htop]; exact (Dg_dg _).at _
  rw [htl, Nat.zero_add] at hS2b
  have S1 : Sl w3 (some ⟨g2, m + 1, none⟩) 1 (c2 - (m + 1)) [top] := ⟨rfl, by have := o2.sl.le; omega, by have := o2.sl.cap; omega, (by intro h; cases h), hS2b.rd hB2, Dg.one htop32⟩
  have hcc2 := o2.sl.le
  have Htop := Lib.hid htop
  clear htl htop hS2b
  have hc := HC.out
  obtain ⟨B, hB⟩ : ∃ B, B = bl top := ⟨_, rfl⟩
  have hB1 : 1 ≤ B := by rw [hB]; exact bl_pos htop0
  have hB3 : B ≤ 32 := by rw [hB]; exact bl_le (n := 32) (by omega)
  have HB := Lib.hid hB
  clear hB
  go_wp2_with fail
  refine (rbitlen_any _ _ _ _ _ S1 (by decide)).mono ?_
  rw [val_one, ← HB.out]
  rintro e w4 ⟨rfl, f4⟩
  have hmod : ((32 : Int) - B) = ((32 - B : Nat) : Int) := by omega
  replace o1 := o1.kept f4
  replace o2 := o2.kept f4
  have hsz4 := f4.size
  replace hw := hw.trans f4 (by simp)
  clear f4 S1 hc hb1 hb2 hB2 hS2 hL2
  go_wp2_with fail
  obtain ⟨s, hs⟩ : ∃ s, s = 32 - B := ⟨_, rfl⟩
  rw [← hs]
  have hs31 : s ≤ 31 := by omega
  have HS : Hid (s = 32 - bl top) := by rw [hs, HB.out]; exact rfl
  clear hmod hs HB hB1 hB3
  refine (rshift_any _ _ _ (s : Int) _ _ o1.sl (by omega) (by omega) (by omega)).mono ?_
  rw [val_dg, shiftN_nat _ hs31]
  rintro e w5 ⟨pu, cu, rfl, ou, f5⟩
  replace o1 := o1.kept f5
  replace o2 := o2.kept f5
  have hsz5 := f5.size
  replace hw := hw.trans f5 (by simp)
  clear f5
  go_wp2_with fail
  refine (rshift_any _ _ _ (s : Int) _ _ o2.sl (by omega) (by omega) (by omega)).mono ?_
  rw [val_dg, shiftN_nat _ hs31]
  rintro e w6 ⟨pv, cv, rfl, ov, f6⟩
  have hune : dg (val xs * 2 ^ s) ≠ [] := fun e => by
    have h := shifted_ge (val xs) s
    rw [e, HN.out] at h
    simp at h
    omega
  have hBu5 : ∃ gu, pu = some ⟨gu, 0, none⟩ ∧ gu < w5.heap.size := by
    obtain ⟨gu, Lu, e, _, hB, _⟩ := ou.own.resolve_left hune
    exact ⟨gu, e, hB.lt⟩
  obtain ⟨gu, rfl, hgus⟩ := hBu5
  replace ou := ou.kept f6
  have hsz6 := f6.size
  replace hw := hw.trans f6 (by simp)
  clear f6 o1 o2
  have hYl2 := shifted_len HV.out Htop.out htop0 HS.out
  have hUl2 := shifted_ge (val xs) s
  rw [HN.out] at hUl2
  have hUle := shifted_le (val xs) hs31
  rw [HN.out] at hUle
  rw [hYl2] at ov ⊢
  generalize hU : (dg (val xs * 2 ^ s)).length = U at *
  have HU := Lib.hid hU
  have HYl := Lib.hid hYl2
  clear hU hYl2
  have hne : dg (val xs * 2 ^ s) ≠ [] := fun e => by have h := HU.out; rw [e] at h; simp at h; omega
  have hyne : dg (val ys * 2 ^ s) ≠ [] := fun e => by have h := HYl.out; rw [e] at h; simp at h
  obtain ⟨gv, Lv, rfl, hgv, hBv, hLv, hSv⟩ := ov.own.resolve_left hyne
  have hgvs := hBv.lt
  have hR := row_of_ow ou hne
  clear ou hne hyne hune
  go_wp2_with (at_builtin; refine wpList_app1w rfl _ _ rfl w4.heap.size gu U cu (dg (val xs * 2 ^ s)) rfl (by exact row_kept hR ((Fr.refl _ _).alloc _)) _ _ 0 rfl _ (by exact blk_cell0' _ _) rfl (by omega) (by simp; omega) ?_)
  intro v7 w7 hR7 hg7 hwh
  have hgub := row_block hR (k := gu) rfl
  have hw7 : Fr [] w w7 := (hw.alloc _).grown hg7 (by intro k hk hl; cases hk; omega)
  have hsz7 := hg7.size
  obtain ⟨g1, c7, rfl⟩ : ∃ g1 c7, v7 = .slice (some ⟨g1, 0, none⟩) (U + 1) c7 := by
    rcases hR7.2 with ⟨rfl, h0⟩ | ⟨g, cap, cur, rfl, _⟩
    · omega
    · exact ⟨_, _, rfl⟩
  have hwh' : g1 = gu ∨ g1 = w6.heap.size + 1 := by simpa [Value.ownBlock] using hwh
  have h1v : g1 ≠ gv := by omega
  have hg1b := row_block hR7 (k := g1) rfl
  have hBv7 : Blk w7 gv Lv := by
    have e := hg7.block gv (by simp; omega) (by simp; omega)
    have e2 : (w6.alloc (.cells #[Value.int .u32 0] 52)).heap[gv]? = w6.heap[gv]? := heap_alloc_old w6 _ hgvs
    exact (e.trans e2).trans hBv
  have hsz7' : w6.heap.size < w7.heap.size := by simp at hsz7; omega
  clear hg7 hwh hwh' hR hsz7 hBv hw ov
  have hUN : decide (((U : Int) + 1) < ((N : Int) + 1)) = false := decide_eq_false (by omega)
  have hUN2 : decide ((U : Int) < (N : Int)) = false := decide_eq_false (by omega)
  go_wp2_with fail
  go_loop [10] (fun z => z = .slice (some ⟨g1, 0, none⟩) (U + 1) c7) (fun _ => 0)
  case atStart => rfl
  case round =>
    subst hrel
    obtain ⟨k0, hk0⟩ : ∃ k0, U + 1 = k0 + (m + 2) := ⟨U + 1 - (m + 2), by omega⟩
    have HK0 := Lib.hid hk0
    clear hk0
    have hmk : (U : Int) + 1 - ((m : Int) + 2) = (k0 : Int) := by have := HK0.out; omega
    have HMK := Lib.hid hmk
    have hk0a : 1 ≤ k0 := by have := HK0.out; omega
    have hk0b : k0 ≤ N := by have := HK0.out; omega
    obtain ⟨t1, t2, t3⟩ := by_top HV.out (Dg_dg _) Htop.out.symm htop0 htop32 HS.out
    rw [val_dg] at t1 t2 t3
    obtain ⟨Z1, hZ1⟩ : ∃ Z1, Z1 = dg (val xs * 2 ^ s) ++ [0] := ⟨_, rfl⟩
    have hZ1v : val Z1 = val xs * 2 ^ s := by rw [hZ1, val_append, val_dg, val_one, Nat.mul_zero, Nat.add_zero]
    have hZ1l : Z1.length = U + 1 := by rw [hZ1, List.length_append, HU.out]; rfl
    have hZ1d : Dg Z1 := by rw [hZ1]; exact (Dg_dg _).append (Dg.one (by decide))
    rw [← hZ1] at hR7
    obtain ⟨Y, hYe⟩ : ∃ Y, Y = dg (val ys * 2 ^ s) := ⟨_, rfl⟩
    rw [← hYe] at hSv
    have hYl2 : Y.length = m + 2 := by rw [hYe]; exact HYl.out
    have hYv : val Y = val ys * 2 ^ s := by rw [hYe, val_dg]
    have hYd : Dg Y := by rw [hYe]; exact Dg_dg _
    have hYt : gd Y (m + 1) ≠ 0 := by rw [hYe]; exact dg_last HYl.out
    have hA2 := dg_lt (val xs)
    rw [HN.out] at hA2
    have hpm : pB (N - k0) * 2 ^ s ≤ val Y := by
      have h1 : pB (N - k0) ≤ pB (m + 1) := pB_mono (by have := HK0.out; omega)
      have h2 := Nat.mul_le_mul_right (2 ^ s) h1
      rw [hYv]
      omega
    have hst : val (Z1.drop k0) < val Y := start_lt (A := dg (val xs)) (by omega) (by rw [val_dg]; exact hZ1v) (by rw [val_dg]; exact hA2) hk0b hpm
    have hVpm : val Y ≤ pB (m + 2) := by rw [hYv]; omega
    have hVp : 0 < val Y := by have := pB_pos (m + 1); rw [hYv]; omega
    have HZ1 := Lib.hid hZ1l
    have HZ1v := Lib.hid hZ1v
    have HYl2 := Lib.hid hYl2
    have HYv := Lib.hid hYv
    have hgv7 : gv < w7.heap.size := hBv7.lt
    have hg17 : g1 < w7.heap.size := by
      rcases hR7.2 with ⟨h0, _⟩ | ⟨g, cap, cur, h0, _, h2, _⟩
      · cases h0
      · cases h0; exact (Array.getElem?_eq_some_iff.1 h2).1
    clear hmk t1 t2 t3 hZ1 hZ1v hZ1l hYe hYl2 hYv hA2 hpm HU HYl hyn hg2 hsz7' HC
    go_wp2_with (at_make; refine wpList_make_full _ rfl _ _ 22 rfl 0 52 i0 (.int .u32 0) 1 Tryz.underlying22 hi hz0 hz1 _ _ _ _ k0 rfl rfl HMK.out HMK.out (by rw [hz2]; omega) (by unfold maxLen; omega) (Nat.zero_le _) ?_)
    intro w8 hown hgrow
    have hb3 := blk_of_made hown
    have hf78 : Fr [] w7 w8 := (Fr.refl _ _).grown hgrow (by simp)
    have hf8 : Fr [] w w8 := hw7.trans hf78 (by simp)
    have hR8 := row_kept hR7 hf78
    have hB8 := hBv7.kept hf78
    clear hown hgrow hR7 hBv7 hUN hUN2 hUl2
    have hg3 : w7.heap.size < w8.heap.size := hb3.lt
    generalize hgq : w7.heap.size = gq at *
    have hwg : w.heap.size ≤ gq := by have := hw7.size; omega
    have hn1 : g1 ≠ gq := by omega
    have hn2 : gv ≠ gq := by omega
    clear hgq hf78 hw7
    go_wp2
    go_loopw [14] (fun z wr => ∃ (k : Nat) (Q D : List Nat), k ≤ k0 ∧ z = .int .i64 ((k : Int) - 1) ∧ Q.length = k0 - k ∧ Dg Q ∧ D.length = U + 1 ∧ Dg D ∧ (∀ j, j < k → gd D j = gd Z1 j) ∧
        val (Z1.drop k) = val Q * val Y + val ((D.drop k).take (m + 2)) ∧ val ((D.drop k).take (m + 2)) < val Y ∧
        Blk wr gq (spl ((List.replicate k0 0).map dv) k Q) ∧ Rw' wr w4.heap.size (.slice (some ⟨g1, 0, none⟩) (U + 1) c7) (U + 1) D ∧ Blk wr gv Lv ∧ Fr [] w wr) (fun z _ => (intOf z + 1).toNat)
    case atStart =>
      have e1 : (Z1.drop k0).take (m + 2) = Z1.drop k0 := by
        rw [List.take_of_length_le]
        have h1 := HZ1.out
        have h2 := HK0.out
        simp
        omega
      exact ⟨k0, [], Z1, Nat.le_refl _, congrArg (Value.int .i64) (by have := HMK.out; omega), by simp, Dg.nil, HZ1.out, hZ1d, fun _ _ => rfl, by rw [e1]; simp [val], by rw [e1]; exact hst, by rw [spl_nil]; exact hb3, hR8, hB8, hf8⟩
    case round =>
      obtain ⟨wo, hwo⟩ : ∃ wo, wo = wr := ⟨_, rfl⟩
      subst hwo
      obtain ⟨k, Q, D, hk, rfl, hQ, hQd, hD, hDd, hDg, hv1, hv2, hB1, hR1, hB3, hf⟩ := hrel
      have HQ := Lib.hid hQ
      have HD := Lib.hid hD
      have HDg := Lib.hid hDg
      have Hv1 := Lib.hid hv1
      have Hv2 := Lib.hid hv2
      clear hQ hD hDg hv1 hv2 hb3 hst hg3 hf8 hR8 hB8
      cases k with
      | zero =>
        rw [show (((0 : Nat) : Int) - 1) = -1 from rfl]
        have hQl : Q.length = k0 := by have := HQ.out; omega
        have hBq : Blk wo gq (Q.map dv) := by
          have h := hB1
          rw [spl_map, hQl] at h
          simpa using h
        have SQ : Sl wo (some ⟨gq, 0, none⟩) k0 k0 Q := by
          have h := (Ow.of_blk (base := 0) hBq (Nat.zero_le _) (by omega) hQd).sl
          rwa [hQl] at h
        obtain ⟨pu, cu2, e, ou⟩ := ow_of_row hR1 hDd
        rw [HD.out] at e ou
        cases e
        have hTd : Dg (D.take (m + 2)) := hDd.take _
        have hUk := HK0.out
        have hTl : (D.take (m + 2)).length = m + 2 := by simp [HD.out]; omega
        have hcu : U + 1 ≤ c7 := ou.sl.le
        have ST : Sl wo (some ⟨g1, 0, none⟩) (m + 2) c7 (D.take (m + 2)) := ⟨hTl, by omega, ou.sl.cap, (by intro h; cases h), ou.sl.rd.take _, hTd⟩
        have hv1 := Hv1.out
        have hv2 := Hv2.out
        rw [List.drop_zero, List.drop_zero, HZ1v.out, HYv.out] at hv1
        rw [List.drop_zero, HYv.out] at hv2
        have hbp : 0 < val ys := by
          apply Nat.pos_of_ne_zero
          intro h0
          rw [HYv.out, h0] at hVp
          omega
        have hfin := long_fin hbp hv1 hv2
        have HF1 : Hid (val Q = val xs / val ys) := hfin.1
        have HF2 : Hid (shiftN (val (D.take (m + 2))) (-(s : Int)) = val xs % val ys) := (shiftN_neg _ s).trans hfin.2
        have hkn : m + 2 ≤ U + 1 := by omega
        clear hv1 hv2 hfin hQl hTl hTd hVp hVpm hUk hB1 hR1 hB3 ou hBq hbp
        go_wp2_with fail
        go_region_with
          (first
          | (go_at_call 150; (with_reducible refine (rcut_any _ _ _ Q _ (SQ.kept (Fr.refl _ _).drew) (by omega)).mono ?_); rintro e w8' ⟨pq, cq, rfl, oq, fq⟩; have STk := (ST.kept (Fr.refl _ _).drew).kept fq; have hsq := fq.size)
          | (go_at_call 177; (with_reducible refine (rshift_any _ _ _ _ (D.take (m + 2)) _ STk (by omega) (by omega) (by omega)).mono ?_); rintro e w9 ⟨pr, cr, rfl, or', fr⟩; have oq2 := oq.kept fr))
        all_goals
          rw [HF1.out] at oq2 ⊢
          rw [HF2.out] at or' ⊢
          have hf9 := (hf.drew.trans fq (by simp)).trans fr (by simp)
          have hs0 := hf.size
          go_wp2
          go_ret3
          exact ⟨pq, cq, pr, cr, rfl, oq2.mono hs0, or'.mono (Nat.le_trans hs0 hsq), hf9⟩
      | succ k =>
        rw [show (((k + 1 : Nat) : Int) - 1) = k from by omega]
        have hUk := HK0.out
        have hkU : k + (m + 2) ≤ U := by omega
        clear hUk
        obtain ⟨P, hP⟩ : ∃ P, P = (D.drop k).take (m + 3) := ⟨_, rfl⟩
        have hDl := HD.out
        have hPl : P.length = m + 3 := by rw [hP]; simp; omega
        have hPd : Dg P := by rw [hP]; exact (hDd.drop _).take _
        have hPt : P.take (m + 2) = (D.drop k).take (m + 2) := by rw [hP, List.take_take]; congr 1; omega
        have hPg : ∀ j, j < m + 3 → gd P j = gd D (k + j) := fun j hj => by rw [hP, gd_take hj, gd_drop]
        have hPval : val P = gd D k + 4294967296 * val ((D.drop (k + 1)).take (m + 2)) := by
          rw [hP, drop_cons_gd (by omega), List.take_succ_cons, val]
        have hPlt : val P < val Y * 4294967296 := by
          have h1 := hDd.at k
          have h2 := Hv2.out
          rw [hPval]
          omega
        have HStep : Hid (∀ t T', t * val Y + T' = val P → val (Z1.drop k) = val (t :: Q) * val Y + T') := fun t T' h => long_step (D := D) (n := m + 2) (by have := HZ1.out; omega) (HDg.out k (by omega)) Hv1.out (by omega) (by rw [h, hP])
        obtain ⟨l, hl, eY⟩ := two_high HYl2.out hYd
        obtain ⟨l', hl', eP⟩ := three_high hPl hPd
        have d0 := hPd.at m
        have d1 := hPd.at (m + 1)
        have d2 := hPd.at (m + 2)
        have e0 := hYd.at m
        have e1 := hYd.at (m + 1)
        obtain ⟨_, e, _, cP2, -, -⟩ := row_at hR1 (k := k + (m + 2)) (by omega)
        cases e
        obtain ⟨_, e, _, cP1, -, -⟩ := row_at hR1 (k := k + (m + 1)) (by omega)
        cases e
        obtain ⟨_, e, _, cP0, -, -⟩ := row_at hR1 (k := k + m) (by omega)
        cases e
        rw [← hPg (m + 2) (by omega)] at cP2
        rw [← hPg (m + 1) (by omega)] at cP1
        rw [← hPg m (by omega)] at cP0
        have cY1 : wo.cell? ⟨gv, m + 1, none⟩ = some (dv (gd Y (m + 1))) := hB3.cell (by have := hSv.2 (m + 1) (by rw [HYl2.out]; omega); rwa [Nat.zero_add] at this)
        have cY0 : wo.cell? ⟨gv, m, none⟩ = some (dv (gd Y m)) := hB3.cell (by have := hSv.2 m (by rw [HYl2.out]; omega); rwa [Nat.zero_add] at this)
        have G : ∀ g : Nat, (g < 4294967296 ∧ val P / val Y ≤ g ∧ g ≤ val P / val Y + 1) → Guess P Y g := fun g h => h
        have HP := Lib.hid hPl
        have HPe := Lib.hid hP
        have HPt := Lib.hid hPt
        have HPlt := Lib.hid hPlt
        have HPg := Lib.hid hPg
        have HPv : Hid (val P = val (P.take (m + 2)) + pB (m + 2) * gd P (m + 2)) := by
          have := val_take_succ P (m + 2)
          rw [List.take_of_length_le (by omega)] at this
          exact this
        have hlt := hPlt
        rw [eP, eY] at hlt G
        clear hP hPl hPt hPg hPval hPlt hDl
        obtain ⟨u0, hu0⟩ : ∃ x, x = gd P m := ⟨_, rfl⟩
        obtain ⟨u1, hu1⟩ : ∃ x, x = gd P (m + 1) := ⟨_, rfl⟩
        obtain ⟨u2, hu2⟩ : ∃ x, x = gd P (m + 2) := ⟨_, rfl⟩
        obtain ⟨v0, hv0⟩ : ∃ x, x = gd Y m := ⟨_, rfl⟩
        obtain ⟨v1, hv1⟩ : ∃ x, x = gd Y (m + 1) := ⟨_, rfl⟩
        obtain ⟨R, hRR⟩ : ∃ x, x = pB m := ⟨_, rfl⟩
        rw [← hu0] at d0 cP0 hlt G eP
        rw [← hu1] at d1 cP1 hlt G eP
        rw [← hu2] at d2 cP2 hlt G eP
        rw [← hv0] at e0 cY0 hlt G eY
        rw [← hv1] at e1 cY1 hlt G eY
        rw [← hRR] at hlt G hl hl'
        have hv1n : v1 ≠ 0 := by rw [hv1]; exact hYt
        have HU2 := Lib.hid hu2
        clear eP eY hu0 hu1 hu2 hv0 hv1 hRR
        have hu := g_top hl e0 hlt
        obtain ⟨t, ht⟩ : ∃ t, t = (((u2 * 4294967296 + u1) * 4294967296 + u0) * R + l') / ((v1 * 4294967296 + v0) * R + l) := ⟨_, rfl⟩
        have ht2 := g_div ht
        have hinit := g_init (H := u2 * 4294967296 + u1) hl' d0 ht2
        have HG : Hid (∀ g : Nat, g < 4294967296 → t ≤ g → g ≤ t + 1 → Guess P Y g) := fun g h1 h2 h3 => G g ⟨h1, by rw [← ht]; exact h2, by rw [← ht]; exact h3⟩
        have hv1' : 1 ≤ v1 := by omega
        have HSt : Hid (∀ q r, q * v1 + r = u2 * 4294967296 + u1 → (4294967296 ≤ q ∨ r * 4294967296 + u0 < q * v0) → t < q) := fun q r h1 h2 => g_step hl' h1 h2 hlt ht2
        have HEnd : Hid (∀ q r, q * v1 + r = u2 * 4294967296 + u1 → q * v0 ≤ r * 4294967296 + u0 → q < 4294967296 → q ≤ t + 1) := fun q r h1 h2 h3 => by rw [ht]; exact g_end hl hv1' h1 h2 h3
        have HBr : Hid (∀ q r, q * v1 + r = u2 * 4294967296 + u1 → 4294967296 ≤ r → q < 4294967296) := fun q r h1 h2 => g_break hu d1 h1 h2
        clear G ht ht2 hlt hl hl'
        have h64 : u2 * 4294967296 + u1 < 18446744073709551616 := by omega
        have hor := or64i ((u2 : Int) * 4294967296) (u1 : Int) u2 32 (by omega) (by omega) (by omega) (by omega)
        have hw1 : IntKind.u64.wrap ((u2 : Int) * 4294967296) = (u2 : Int) * 4294967296 := wrap_u64_lt (by omega) (by omega)
        go_wp2_with fail
        go_quiet (fail)
        go_upto_block 4 with fail
        have hH : ((u2 : Int) * 4294967296 + u1) = ((u2 * 4294967296 + u1 : Nat) : Int) := by omega
        rw [hH]
        clear hH hor hw1
        generalize u2 * 4294967296 + u1 = H at *
        obtain ⟨q0, hq0⟩ : ∃ q0, q0 = H / v1 := ⟨_, rfl⟩
        obtain ⟨r0, hr0⟩ : ∃ r0, r0 = H % v1 := ⟨_, rfl⟩
        have hqr : q0 * v1 + r0 = H := by rw [hq0, hr0, Nat.mul_comm]; exact Nat.div_add_mod _ _
        have hrl : r0 < v1 := by rw [hr0]; exact Nat.mod_lt _ (by omega)
        have htq : t ≤ q0 := by rw [hq0, Nat.le_div_iff_mul_le (by omega)]; exact hinit
        have hql : q0 ≤ H := by rw [hq0]; exact Nat.div_le_self _ _
        have eq1 : ((H : Int) / v1) = (q0 : Int) := by rw [hq0, ← Int.natCast_ediv]
        have eq2 : (H : Int) % v1 = (r0 : Int) := by rw [hr0, ← Int.natCast_emod]
        rw [eq1, eq2]
        have HQR := Lib.hid hqr
        clear eq1 eq2 hq0 hr0 hqr hinit hu cP2 cP1
        have hfq : Fr [] wo (wo.drewN nq) := (Fr.refl _ _).drewN _
        have cPq : (wo.drewN nq).cell? ⟨g1, k + m, none⟩ = some (dv u0) := cP0
        have cYq : (wo.drewN nq).cell? ⟨gv, m, none⟩ = some (dv v0) := cY0
        have cYp : (wo.drewN nq).cell? ⟨gv, m + 1, none⟩ = some (dv v1) := cY1
        clear cP0 cY0 cY1
        have hg1q : g1 < (wo.drewN nq).heap.size := by have := hB1.lt; exact Nat.lt_trans hg17 this
        have hgvq : gv < (wo.drewN nq).heap.size := hB3.lt
        generalize wo.drewN nq = wq at *
        go_cut [16] (fun a wx => ∃ gs : Nat, a = .int .u64 gs ∧ Guess P Y gs ∧ Fr [] wo wx)
        case first =>
          go_wp2_with fail
          go_loopw [16, 17] (fun a b wl => ∃ q r : Nat, a = .int .u64 q ∧ b = .int .u64 r ∧ q * v1 + r = H ∧ r < 4294967296 ∧ t ≤ q ∧ q ≤ H ∧ Fr [] wq wl) (fun a _ _ => (intOf a).toNat)
          case atStart => exact ⟨q0, r0, rfl, rfl, HQR.out, by omega, htq, hql, Fr.refl _ _⟩
          case round =>
            obtain ⟨q, r, rfl, rfl, hqr, hr, htq', hqH, hfl⟩ := hrel
            have cA := (hfl.cell (p := ⟨g1, k + m, none⟩) hg1q (by simp)).trans cPq
            have cB := (hfl.cell (p := ⟨gv, m, none⟩) hgvq (by simp)).trans cYq
            have cC := (hfl.cell (p := ⟨gv, m + 1, none⟩) hgvq (by simp)).trans cYp
            clear htq hql hrl cPq cYq cYp
            have H1 := Lib.hid hqr
            clear hqr HQR
            have hor := or64i ((r : Int) * 4294967296) (u0 : Int) r 32 (by omega) (by omega) (by omega) (by omega)
            have hw1 : IntKind.u64.wrap ((r : Int) * 4294967296) = (r : Int) * 4294967296 := wrap_u64_lt (by omega) (by omega)
            have hfo := hfq.trans hfl (by simp)
            have ib1 : (m : Int) < (m : Int) + 2 := by omega
            have ib2 : IntKind.i64.wrap (m : Int) = m := by rw [IntKind.wrap_i64]; omega
            have ib3 : IntKind.i64.wrap ((k : Int) + m) = (k : Int) + m := by rw [IntKind.wrap_i64]; omega
            have ib4 : IntKind.i64.wrap ((k : Int) + (m + 2)) = (k : Int) + (m + 2) := by rw [IntKind.wrap_i64]; omega
            have ib5 : IntKind.i64.wrap ((k : Int) + (m + 2) - 2) = (k : Int) + m := by rw [IntKind.wrap_i64]; omega
            have ib6 : IntKind.u64.wrap (v0 : Int) = v0 := by rw [IntKind.wrap_u64]; omega
            have ib7 : IntKind.u64.wrap (u0 : Int) = u0 := by rw [IntKind.wrap_u64]; omega
            have ib8 : IntKind.u64.wrap (v1 : Int) = v1 := by rw [IntKind.wrap_u64]; omega
            by_cases hA : 4294967296 ≤ q ∨ r * 4294967296 + u0 < q * v0
            · have hlt := HSt.out q r H1.out hA
              have H2 : Hid ((q - 1) * v1 + (r + v1) = H) := by
                show _ = _
                obtain ⟨q', rfl⟩ : ∃ q', q = q' + 1 := ⟨q - 1, by omega⟩
                rw [← H1.out, Nat.add_sub_cancel, Nat.add_mul]
                omega
              have hr2 : 4294967296 ≤ r + v1 → q - 1 < 4294967296 ∧ q - 1 ≤ t + 1 := fun h => by
                have h1 := HBr.out _ _ H2.out h
                refine ⟨h1, HEnd.out _ _ H2.out ?_ h1⟩
                have h2 : (q - 1) * v0 ≤ 4294967296 * v0 := Nat.mul_le_mul_right _ (by omega)
                omega
              have HR2 := Lib.hid hr2
              clear hr2
              have eq1 : (q : Int) - 1 = ((q - 1 : Nat) : Int) := by omega
              by_cases hB : 4294967296 ≤ q
              case' pos =>
                have g1' : decide ((4294967296 : Int) ≤ (q : Int)) = true := decide_eq_true (by omega)
                have g2' : True := trivial
                have g3' : True := trivial
              case' neg =>
                have g1' : decide ((4294967296 : Int) ≤ (q : Int)) = false := decide_eq_false (by omega)
                have hA' : r * 4294967296 + u0 < q * v0 := by omega
                have hqv := mul_small (show q < 4294967296 by omega) e0
                have g2' : IntKind.u64.wrap ((q : Int) * v0) = (q : Int) * v0 := by rw [← Int.natCast_mul]; exact wrap_u64_lt (by omega) (by omega)
                have g3' : decide ((r : Int) * 4294967296 + u0 < (q : Int) * v0) = true := by rw [← Int.natCast_mul]; simp only [decide_eq_true_eq]; omega
                clear hqv
              all_goals
                clear hA hB eq1
                by_cases hC : 4294967296 ≤ r + v1
                · have hend := HR2.out hC
                  have g4 : decide ((4294967296 : Int) ≤ (r : Int) + v1) = true := decide_eq_true (by omega)
                  have hG := Lib.hid (HG.out (q - 1) hend.1 (by omega) hend.2)
                  go_wp2
                  go_quiet (fail)
                  go_wp2
                  go_meet
                  exact ⟨q - 1, congrArg (Value.int .u64) (by omega), hG.out, hfo.drewN _⟩
                · have g4 : decide ((4294967296 : Int) ≤ (r : Int) + v1) = false := decide_eq_false (by omega)
                  go_wp2
                  go_quiet (fail)
                  go_wp2
                  go_roundw
                  case rel => exact ⟨q - 1, r + v1, congrArg (Value.int .u64) (by omega), rfl, H2.out, by omega, by omega, by omega, hfl.drewN _⟩
                  case measure => simp [intOf]; omega
            · have hqB : q < 4294967296 := by omega
              have hc : q * v0 ≤ r * 4294967296 + u0 := by omega
              have hG := Lib.hid (HG.out q hqB htq' (HEnd.out _ _ H1.out hc hqB))
              have hqv := mul_small hqB e0
              have g1' : decide ((4294967296 : Int) ≤ (q : Int)) = false := decide_eq_false (by omega)
              have g2' : IntKind.u64.wrap ((q : Int) * v0) = (q : Int) * v0 := by rw [← Int.natCast_mul]; exact wrap_u64_lt (by omega) (by omega)
              have g3' : decide ((r : Int) * 4294967296 + u0 < (q : Int) * v0) = false := by rw [← Int.natCast_mul]; simp only [decide_eq_false_iff_not]; omega
              clear hA hqv hc
              go_wp2
              go_quiet (fail)
              go_wp2
              go_meet
              exact ⟨q, rfl, hG.out, hfo.drewN _⟩
        case rest =>
          obtain ⟨gs, rfl, hgs, hfc⟩ := hcut
          have hR2 := row_kept hR1 hfc
          have hB2 := hB1.kept hfc
          have hB4 := hB3.kept hfc
          have hfw := hf.trans hfc (by simp)
          have hgsl := hgs.1
          clear hR1 hB1 hB3 hf hfc hfq cPq cYq cYp HG HSt HEnd HBr HQR hql htq hrl h64 hv1' hv1n hg1q hgvq d0 d1 d2 e0 e1
          go_wp2_with fail
          go_loopw [18, 19, 20] (fun b ca i wl => ∃ (j C bw : Nat) (Z : List Nat), j ≤ m + 2 ∧ i = .int .i64 j ∧ ca = .int .u64 C ∧ b = .int .u64 bw ∧ C < 4294967296 ∧ bw ≤ 1 ∧ Z.length = j ∧ Dg Z ∧ val Z + gs * val (Y.take j) = val (P.take j) + pB j * (C + bw) ∧ Rw' wl w4.heap.size (.slice (some ⟨g1, 0, none⟩) (U + 1) c7) (U + 1) (D.take k ++ Z ++ D.drop (k + j)) ∧ Fr [g1] wc wl) (fun _ _ i _ => m + 2 - (intOf i).toNat)
          case atStart => exact ⟨0, 0, 0, [], Nat.zero_le _, rfl, rfl, rfl, by omega, by omega, rfl, Dg.nil, by simp [val], by simpa using hR2, Fr.refl _ _⟩
          case round =>
            obtain ⟨wl, hwl⟩ : ∃ wl, wl = wr := ⟨_, rfl⟩
            subst hwl
            obtain ⟨j, C, bw, Z, hj, rfl, rfl, rfl, hC, hbw, hZ, hZd, hv, hR, hfl⟩ := hrel
            have HZ := Lib.hid hZ
            have Hv := Lib.hid hv
            clear hZ hv
            by_cases hlt : j < m + 2
            · have hDl := HD.out
              obtain ⟨_, e, _, cu1, zu1, su1⟩ := row_at hR (k := j + k) (by omega)
              cases e
              have hgd : gd (D.take k ++ Z ++ D.drop (k + j)) (j + k) = gd P j := by
                have hl : (D.take k ++ Z).length = k + j := by simp [HZ.out, hDl]; omega
                rw [gd_append_right (by omega), gd_drop, hl, HPg.out j (by omega)]
                congr 1
                omega
              rw [hgd] at cu1
              have cYj : wl.cell? ⟨gv, j, none⟩ = some (dv (gd Y j)) := (hB4.keep hfl (by simpa using Ne.symm h1v)).cell (by have := hSv.2 j (by rw [HYl2.out]; omega); rwa [Nat.zero_add] at this)
              have dY := hYd.at j
              have dP := hPd.at j
              have HT : Hid (∀ E r', E + gs * gd Y j + (C + bw) = gd P j + 4294967296 * r' → val (Z ++ [E]) + gs * val (Y.take (j + 1)) = val (P.take (j + 1)) + pB (j + 1) * r') := fun E r' => subp_step HZ.out Hv.out
              have hbd := mul_small hgsl dY
              clear hgd hDl
              generalize gd Y j = y at *
              generalize gd P j = z at *
              obtain ⟨pr, hpr⟩ : ∃ pr, pr = gs * y := ⟨_, rfl⟩
              have hpr' : (gs : Int) * y = (pr : Int) := by rw [hpr]; simp
              rw [← hpr] at hbd HT
              clear hpr
              obtain ⟨lo, hlo⟩ : ∃ lo, lo = (C + pr) % 4294967296 := ⟨_, rfl⟩
              obtain ⟨C', hC'⟩ : ∃ C', C' = (C + pr) / 4294967296 := ⟨_, rfl⟩
              have hand : bits .and .u64 ((C : Int) + pr) 4294967295 = (lo : Int) := by rw [hlo]; exact and_low C pr (by omega)
              have hcq : ((C : Int) + pr) / 4294967296 = (C' : Int) := by omega
              have hlol : lo < 4294967296 := by omega
              have hC'l : C' < 4294967296 := by omega
              have hCp : C + pr = lo + 4294967296 * C' := by omega
              have HCp := Lib.hid hCp
              clear hlo hC' hCp
              have HSet : Hid (∀ E, Rw' (wl.setCell ⟨g1, j + k, none⟩ (dv E)) w4.heap.size (.slice (some ⟨g1, 0, none⟩) (U + 1) c7) (U + 1) (D.take k ++ (Z ++ [E]) ++ D.drop (k + (j + 1)))) := fun E => by
                rw [← set_mid3 HZ.out (by rw [HD.out]; omega)]
                exact su1 E
              clear su1 hR
              by_cases hlow : z < lo + bw
              case' pos =>
                have g1' : decide ((z : Int) < (lo : Int) + bw) = true := decide_eq_true (by omega)
                obtain ⟨E, hE⟩ : ∃ E, E = z + 4294967296 - (lo + bw) := ⟨_, rfl⟩
                obtain ⟨b', hb'⟩ : ∃ b', b' = 1 := ⟨_, rfl⟩
                have hEq : ((z : Int) + 4294967296 - ((lo : Int) + bw)) % 4294967296 = (E : Int) := by omega
              case' neg =>
                have g1' : decide ((z : Int) < (lo : Int) + bw) = false := decide_eq_false (by omega)
                obtain ⟨E, hE⟩ : ∃ E, E = z - (lo + bw) := ⟨_, rfl⟩
                obtain ⟨b', hb'⟩ : ∃ b', b' = 0 := ⟨_, rfl⟩
                have hEq : IntKind.u64.wrap ((z : Int) - ((lo : Int) + bw)) % 4294967296 = (E : Int) := by rw [IntKind.wrap_u64]; omega
              all_goals
                have hEl : E < 4294967296 := by omega
                have HE := Lib.hid (HT.out E (C' + b') (by have := HCp.out; omega))
                subst hb'
                clear hE hlow
                go_wp2
                go_roundw
                case rel => first | exact ⟨j + 1, C', 1, Z ++ [E], by omega, by go_num, rfl, rfl, hC'l, by omega, by simp [HZ.out], hZd.append (Dg.one hEl), HE.out, HSet.out E, hfl.setCell _ _ (by simp)⟩ | exact ⟨j + 1, C', 0, Z ++ [E], by omega, by go_num, rfl, rfl, hC'l, by omega, by simp [HZ.out], hZd.append (Dg.one hEl), HE.out, HSet.out E, hfl.setCell _ _ (by simp)⟩
                case measure => simp [intOf]; omega
            · obtain rfl : j = m + 2 := by omega
              have hv := Hv.out
              rw [List.take_of_length_le (l := Y) (by rw [HYl2.out]; exact Nat.le_refl _)] at hv
              have hDl := HD.out
              have hFl : (D.take k ++ Z).length = k + (m + 2) := by simp [HZ.out, hDl]; omega
              obtain ⟨_, e, _, cu1, zu1, su1⟩ := row_at hR (k := k + (m + 2)) (by omega)
              cases e
              have hgd : gd (D.take k ++ Z ++ D.drop (k + (m + 2))) (k + (m + 2)) = u2 := by
                rw [gd_append_right (by omega), gd_drop, hFl, HU2.out, HPg.out (m + 2) (by omega)]
                congr 1
                omega
              rw [hgd] at cu1
              have hBl := hB2.keep hfl (by simpa using Ne.symm hn1)
              have hB4l := hB4.keep hfl (by simpa using Ne.symm h1v)
              have hfw2 : Fr [] w wl := hfw.trans hfl (by simp; omega)
              have hwl1 : g1 < wl.heap.size := by have := hBl.lt; omega
              have hzlt := val_lt hZd
              rw [HZ.out] at hzlt
              obtain ⟨r, hr⟩ : ∃ r, r = C + bw := ⟨_, rfl⟩
              have hr' : (C : Int) + bw = (r : Int) := by omega
              rw [← hr] at hv
              have hrl : r ≤ 4294967296 := by omega
              have hu2l : u2 < 4294967296 := by rw [HU2.out]; exact hPd.at _
              have hPv := HPv.out
              rw [← HU2.out] at hPv
              have HSet : Hid (∀ x, Rw' (wl.setCell ⟨g1, k + (m + 2), none⟩ (dv x)) w4.heap.size (.slice (some ⟨g1, 0, none⟩) (U + 1) c7) (U + 1) (D.take k ++ Z ++ x :: D.drop (k + (m + 3)))) := fun x => by
                have h := su1 x
                rwa [List.set_append_right _ _ (by omega), hFl, Nat.sub_self, List.drop_eq_getElem_cons (by omega), List.set_cons_zero] at h
              clear su1 hR hgd hDl hr hB2 hB4 hR2 hfw
              by_cases hU : u2 < r
              · have hg0 : 1 ≤ gs := by
                  apply Nat.pos_of_ne_zero
                  intro h0
                  rw [h0] at hv
                  have h1 : pB (m + 2) * 1 ≤ pB (m + 2) * r := Nat.mul_le_mul_left _ (by omega)
                  omega
                have g1' : decide ((u2 : Int) < (r : Int)) = true := decide_eq_true (by omega)
                obtain ⟨x0, hx⟩ : ∃ x, x = u2 + 4294967296 - r := ⟨_, rfl⟩
                have hxe : ((u2 : Int) + 4294967296 - r) = (x0 : Int) := by omega
                have hx0l : x0 < 4294967296 := by omega
                have hgsi : (gs : Int) - 1 = ((gs - 1 : Nat) : Int) := by omega
                have hcq : wl.cell? ⟨gq, k, none⟩ = some (dv 0) := hBl.cell (by rw [spl_at (by rw [List.length_map, List.length_replicate, HQ.out]; omega), if_pos (by omega), List.getElem?_map, List.getElem?_replicate, if_pos (show k < k0 by omega)]; rfl)
                have hfs : Fr [g1] wl (wl.setCell ⟨g1, k + (m + 2), none⟩ (dv x0)) := (Fr.refl _ _).setCell _ _ (by simp)
                have hBs0 := hBl.keep hfs (by simpa using Ne.symm hn1)
                have hcq0 := (hfs.cell (p := ⟨gq, k, none⟩) hBl.lt (by simpa using Ne.symm hn1)).trans hcq
                have hRs0 := HSet.out x0
                have hB4s0 := hB4l.keep hfs (by simpa using Ne.symm h1v)
                have hfw30 : Fr [] w (wl.setCell ⟨g1, k + (m + 2), none⟩ (dv x0)) := hfw2.trans hfs (by simp; omega)
                have hg1s : g1 < (wl.setCell ⟨g1, k + (m + 2), none⟩ (dv x0)).heap.size := Nat.lt_of_lt_of_le hwl1 hfs.size
                have HHu := Lib.hid hU
                have HHz := Lib.hid hv
                have HHl := Lib.hid hzlt
                have HPv2 := Lib.hid hPv
                clear hx hU hv hPv hzlt hcq hfs hBl hB4l hfw2 HSet hwl1
                go_wp2_with fail
                generalize wl.setCell ⟨g1, k + (m + 2), none⟩ (dv x0) = ws at *
                go_loopw [25, 26] (fun c i w5 => ∃ (j c2 : Nat) (Z2 : List Nat), j ≤ m + 2 ∧ i = .int .i64 j ∧ c = .int .u64 c2 ∧ c2 ≤ 1 ∧ Z2.length = j ∧ Dg Z2 ∧ val Z2 + pB j * c2 = val (Z.take j) + val (Y.take j) ∧ Rw' w5 w4.heap.size (.slice (some ⟨g1, 0, none⟩) (U + 1) c7) (U + 1) (D.take k ++ (Z2 ++ Z.drop j) ++ x0 :: D.drop (k + (m + 3))) ∧ Fr [g1] ws w5) (fun _ i _ => m + 2 - (intOf i).toNat)
                case atStart => exact ⟨0, 0, [], Nat.zero_le _, rfl, rfl, by omega, rfl, Dg.nil, by simp [val], by simpa using hRs0, Fr.refl _ _⟩
                case round =>
                  obtain ⟨j, c2, Z2, hj, rfl, rfl, hc2, hZ2, hZ2d, hv, hR, hfl⟩ := hrel
                  have HZ2 := Lib.hid hZ2
                  have Hv := Lib.hid hv
                  clear hZ2 hv hRs0
                  have hDl := HD.out
                  by_cases hlt : j < m + 2
                  · obtain ⟨_, e, _, cu1, zu1, su1⟩ := row_at hR (k := j + k) (by omega)
                    cases e
                    have hl : (D.take k ++ Z2).length = j + k := by simp [HZ2.out, hDl]; omega
                    have hgd : gd (D.take k ++ (Z2 ++ Z.drop j) ++ x0 :: D.drop (k + (m + 3))) (j + k) = gd Z j := by
                      rw [← List.append_assoc, List.append_assoc, gd_append_right (by omega), hl, Nat.sub_self, gd_append_left (by rw [List.length_drop, HZ.out]; omega), gd_drop, Nat.add_zero]
                    rw [hgd] at cu1
                    have cYj : wr.cell? ⟨gv, j, none⟩ = some (dv (gd Y j)) := (hB4s0.keep hfl (by simpa using Ne.symm h1v)).cell (by have := hSv.2 j (by rw [HYl2.out]; omega); rwa [Nat.zero_add] at this)
                    have dY := hYd.at j
                    have dZ := hZd.at j
                    have HT : Hid (∀ T, T = c2 + (gd Z j + gd Y j) → val (Z2 ++ [T % 4294967296]) + pB (j + 1) * (T / 4294967296) = val (Z.take (j + 1)) + val (Y.take (j + 1))) := fun T => add_step HZ2.out Hv.out
                    clear hgd su1
                    generalize gd Y j = y at *
                    generalize gd Z j = z at *
                    have ib1 : IntKind.u64.wrap (z : Int) = z := by rw [IntKind.wrap_u64]; omega
                    have ib2 : IntKind.u64.wrap (y : Int) = y := by rw [IntKind.wrap_u64]; omega
                    have ib3 : IntKind.u64.wrap ((z : Int) + y) = (z : Int) + y := by rw [IntKind.wrap_u64]; omega
                    have ib4 : IntKind.u64.wrap ((c2 : Int) + ((z : Int) + y)) = (c2 : Int) + ((z : Int) + y) := by rw [IntKind.wrap_u64]; omega
                    have ib5 : IntKind.i64.wrap ((j : Int) + k) = (j : Int) + k := by rw [IntKind.wrap_i64]; omega
                    have ib6 : (0 : Int) ≤ (j : Int) + k := by omega
                    have ib7 : ((j : Int) + k).toNat = j + k := by omega
                    go_wp2_with fail
                    go_quiet (fail)
                    clear ib1 ib2 ib3 ib4 ib5 ib6 ib7
                    have hRq := row_kept hR ((Fr.refl [] wr).drewN nq)
                    have hflq := hfl.drewN nq
                    obtain ⟨_, e, _, cu1, zu1, su1⟩ := row_at hRq (k := j + k) (by omega)
                    cases e
                    have HSet : Hid (∀ E, Rw' ((wr.drewN nq).setCell ⟨g1, j + k, none⟩ (dv E)) w4.heap.size (.slice (some ⟨g1, 0, none⟩) (U + 1) c7) (U + 1) (D.take k ++ ((Z2 ++ [E]) ++ Z.drop (j + 1)) ++ x0 :: D.drop (k + (m + 3)))) := fun E => by
                      have h := su1 E
                      rw [← List.append_assoc, List.append_assoc, List.set_append_right _ _ (by omega), hl, Nat.sub_self, List.drop_eq_getElem_cons (l := Z) (i := j) (by rw [HZ.out]; omega), List.cons_append, List.set_cons_zero] at h
                      simpa using h
                    generalize wr.drewN nq = wq5 at *
                    obtain ⟨E, hE⟩ : ∃ E, E = (c2 + (z + y)) % 4294967296 := ⟨_, rfl⟩
                    obtain ⟨C3, hC3⟩ : ∃ C3, C3 = (c2 + (z + y)) / 4294967296 := ⟨_, rfl⟩
                    have HT2 := HT.out _ rfl
                    rw [← hE, ← hC3] at HT2
                    have HT3 := Lib.hid HT2
                    have hEq : ((c2 : Int) + ((z : Int) + y)) % 4294967296 = (E : Int) := by omega
                    have hCq : ((c2 : Int) + ((z : Int) + y)) / 4294967296 = (C3 : Int) := by omega
                    have hEl : E < 4294967296 := by omega
                    have hC3l : C3 ≤ 1 := by omega
                    clear su1 hR hRq cYj hl hDl hE hC3 HT2 HT
                    go_wp2
                    go_roundw
                    case rel => exact ⟨j + 1, C3, Z2 ++ [E], by omega, by go_num, rfl, hC3l, by simp [HZ2.out], hZ2d.append (Dg.one hEl), HT3.out, HSet.out E, hflq.setCell _ _ (by simp)⟩
                    case measure => simp [intOf]; omega
                  · obtain rfl : j = m + 2 := by omega
                    have hv := Hv.out
                    rw [List.take_of_length_le (l := Y) (by rw [HYl2.out]; exact Nat.le_refl _), List.take_of_length_le (l := Z) (by rw [HZ.out]; exact Nat.le_refl _)] at hv
                    have hzd : Z.drop (m + 2) = [] := List.drop_of_length_le (by rw [HZ.out]; exact Nat.le_refl _)
                    rw [hzd, List.append_nil] at hR
                    have hFl2 : (D.take k ++ Z2).length = k + (m + 2) := by simp [HZ2.out, hDl]; omega
                    obtain ⟨_, e, _, cu1, zu1, su1⟩ := row_at hR (k := k + (m + 2)) (by omega)
                    cases e
                    have hgd : gd (D.take k ++ Z2 ++ x0 :: D.drop (k + (m + 3))) (k + (m + 2)) = x0 := by
                      rw [gd_append_right (by omega), hFl2, Nat.sub_self, gd_cons_zero]
                    rw [hgd] at cu1
                    obtain ⟨x, hX⟩ : ∃ x, x = (x0 + c2) % 4294967296 := ⟨_, rfl⟩
                    have hXe : IntKind.u32.wrap ((x0 : Int) + c2) = (x : Int) := by rw [IntKind.wrap_u32]; omega
                    have hxl : x < 4294967296 := by omega
                    have hzl' := val_lt hZ2d
                    rw [HZ2.out] at hzl'
                    have hfin := long_yes HPv2.out HHz.out HHu.out hgs.2.2 hVpm hVp HHl.out hzl' (by rw [Nat.one_mul]; exact hv)
                    have HNew := Lib.hid (HStep.out (gs - 1) (val Z2) hfin.2.1)
                    have HLt := Lib.hid hfin.2.2
                    have hfs := hfl.trans (set1_frz wr g1 (k + (m + 2)) (dv x)) (by simp)
                    have hRs := su1 x
                    rw [List.set_append_right _ _ (by omega), hFl2, Nat.sub_self, List.set_cons_zero] at hRs
                    have hBs := hBs0.keep hfs (by simpa using Ne.symm hn1)
                    have hB4s := hB4s0.keep hfs (by simpa using Ne.symm h1v)
                    have hcq2 := (hfs.cell (p := ⟨gq, k, none⟩) hBs0.lt (by simpa using Ne.symm hn1)).trans hcq0
                    have hfq2 := hBs.free k
                    have hfw3 := hfw30.trans hfs (by simp; omega)
                    have hgsl2 : gs - 1 < 4294967296 := by omega
                    clear hX hv hzd hgd hzl' hfin hgs hgsi su1 hR hDl hBs0 hB4s0 hcq0 hfw30 hfs
                    go_wp2
                    go_roundw
                    case rel =>
                      refine ⟨k, (gs - 1) :: Q, D.take k ++ Z2 ++ x :: D.drop (k + (m + 3)), by omega, rfl, by simp [HQ.out]; omega, Dg.cons hgsl2 hQd, by simp [HZ2.out, HD.out]; omega, ((hDd.take _).append hZ2d).append (Dg.cons hxl (hDd.drop _)), ?_, ?_, ?_, ?_, row_keep1 hRs ((Fr.refl _ _).setCell ⟨gq, k, none⟩ _ (fun _ => List.mem_singleton.2 rfl)) (by simpa using hn1), hB4s.keep ((Fr.refl _ _).setCell ⟨gq, k, none⟩ _ (fun _ => List.mem_singleton.2 rfl)) (by simpa using hn2), hfw3.setCell _ _ (fun (h : gq < _) => by omega)⟩
                      · intro j hj
                        rw [gd_append_left (by simp [HD.out]; omega), gd_append_left (by simp [HD.out]; omega), gd_take hj, HDg.out j (by omega)]
                      · rw [mid_take (by rw [HD.out]; omega) HZ2.out]; exact HNew.out
                      · rw [mid_take (by rw [HD.out]; omega) HZ2.out]; exact HLt.out
                      · have h := hBs.set k (dv (gs - 1))
                        rwa [spl_down (by rw [List.length_map, List.length_replicate, HQ.out]; omega)] at h
                    case measure => simp [intOf]
              · have hfin := long_no hPv hv hU hgs.2.1 hVpm hVp
                have g1' : decide ((u2 : Int) < (r : Int)) = false := decide_eq_false (by omega)
                obtain ⟨x, hx⟩ : ∃ x, x = u2 - r := ⟨_, rfl⟩
                have hxe : ((u2 : Int) - r) = (x : Int) := by omega
                have hxl : x < 4294967296 := by omega
                have HNew := Lib.hid (HStep.out gs (val Z) hfin.1)
                have HLt := Lib.hid hfin.2
                have hcq : wl.cell? ⟨gq, k, none⟩ = some (dv 0) := hBl.cell (by rw [spl_at (by rw [List.length_map, List.length_replicate, HQ.out]; omega), if_pos (by omega), List.getElem?_map, List.getElem?_replicate, if_pos (show k < k0 by omega)]; rfl)
                have hfs : Fr [g1] wl (wl.setCell ⟨g1, k + (m + 2), none⟩ (dv x)) := (Fr.refl _ _).setCell _ _ (by simp)
                have hcq2 := (hfs.cell (p := ⟨gq, k, none⟩) hBl.lt (by simpa using Ne.symm hn1)).trans hcq
                have hBs := hBl.keep hfs (by simpa using Ne.symm hn1)
                have hfq2 := hBs.free k
                have hRs := HSet.out x
                have hB4s := hB4l.keep hfs (by simpa using Ne.symm h1v)
                have hfw3 : Fr [] w (wl.setCell ⟨g1, k + (m + 2), none⟩ (dv x)) := hfw2.trans hfs (by simp; omega)
                have hg1s : g1 < (wl.setCell ⟨g1, k + (m + 2), none⟩ (dv x)).heap.size := Nat.lt_of_lt_of_le hwl1 hfs.size
                clear hx hU hv hfin hPv hgs hzlt hcq hfs hBl hB4l hfw2
                go_wp2
                go_roundw
                case rel =>
                  refine ⟨k, gs :: Q, D.take k ++ Z ++ x :: D.drop (k + (m + 3)), by omega, rfl, by simp [HQ.out]; omega, Dg.cons hgsl hQd, by simp [HZ.out, HD.out]; omega, ((hDd.take _).append hZd).append (Dg.cons hxl (hDd.drop _)), ?_, ?_, ?_, ?_, row_keep1 hRs ((Fr.refl _ _).setCell ⟨gq, k, none⟩ _ (fun _ => List.mem_singleton.2 rfl)) (by simpa using hn1), hB4s.keep ((Fr.refl _ _).setCell ⟨gq, k, none⟩ _ (fun _ => List.mem_singleton.2 rfl)) (by simpa using hn2), hfw3.setCell _ _ (fun (h : gq < _) => by omega)⟩
                  · intro j hj
                    rw [gd_append_left (by simp [HD.out]; omega), gd_append_left (by simp [HD.out]; omega), gd_take hj, HDg.out j (by omega)]
                  · rw [mid_take (by rw [HD.out]; omega) HZ.out]; exact HNew.out
                  · rw [mid_take (by rw [HD.out]; omega) HZ.out]; exact HLt.out
                  · have h := hBs.set k (dv gs)
                    rwa [spl_down (by rw [List.length_map, List.length_replicate, HQ.out]; omega)] at h
                case measure => simp [intOf]

end Go.Proofs.YtagciepnhjbopaaGreatDoor
