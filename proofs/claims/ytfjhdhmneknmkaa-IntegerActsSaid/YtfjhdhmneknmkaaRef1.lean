/- The document's own Add, Mul and division by a digit: append of one digit to a row of the call's own. -/
import Derived.Test.YtfjhdhmneknmkaaAwake
namespace Go.Proofs.Ytfjhdhmneknmkaa
open Go.RowKit

/-- A row of the call's own: what 'append' leaves, ready to be appended to. -/
abbrev Rw' (w : World) (base : Nat) (v : Value) (n : Nat) (xs : List Nat) : Prop := w.ownsRow base 57 1 v n (xs.map dv)
theorem row_keep {S : List Nat} {w w' : World} {base n : Nat} {v : Value} {xs : List Nat} (h : Rw' w base v n xs) (f : Fr S w w') (hs : ∀ k, base ≤ k → k < w.heap.size → k ∉ S) : Rw' w' base v n xs := by
  refine ⟨h.1, ?_⟩
  rcases h.2 with h0 | ⟨g, cap, cur, h1, h2, h3, h4⟩
  · exact Or.inl h0
  · have hl : g < w.heap.size := (Array.getElem?_eq_some_iff.1 h3).1
    exact Or.inr ⟨g, cap, cur, h1, h2, (f.block g hl (hs g h2 hl)).trans h3, h4⟩
theorem row_kept {w w' : World} {base n : Nat} {v : Value} {xs : List Nat} (h : Rw' w base v n xs) (f : Fr [] w w') : Rw' w' base v n xs := row_keep h f (by simp)
theorem row_block {w : World} {base n k : Nat} {v : Value} {xs : List Nat} (h : Rw' w base v n xs) (hk : v.ownBlock = some k) : base ≤ k := by
  rcases h.2 with ⟨rfl, _⟩ | ⟨g, cap, cur, rfl, h2, _⟩
  · simp [Value.ownBlock] at hk
  · simp [Value.ownBlock] at hk
    omega

/-- 'append(s, d)' to a row of the call's own. -/
theorem wpList_app1 {w : World} {ops : Array Oper} {rest : List Oper} {o : Oper} {a : Act} {Q : Exit → Act → World → Prop} (hgd : o.guard = none) (s x : Operand)
    (ho : o.op = .call { callee := .builtin .append, args := #[s, x], argTypes := #[22, 22] }) (base : Nat) (v : Value) (n : Nat) (xs : List Nat) (hs : a.eval s = v) (hown : Rw' w base v n xs)
    (g c d : Nat) (hx : a.eval x = .slice (some ⟨g, 0, none⟩) 1 c) (dI : Int) (hc : w.cell? ⟨g, 0, none⟩ = some (.int .u32 dI)) (hd : dI = (d : Nat)) (hn : n ≤ 1099511627776) (hb : base ≤ w.heap.size) (w0 : World) (f : Fr [] w0 w) (hb0 : w0.heap.size ≤ base)
    (hK : ∀ v' w', Rw' w' base v' (n + 1) (xs ++ [d]) → Fr [] w0 w' → wpList Try.prog ops Q rest (a.put o.dst v') w') : wpList Try.prog ops Q (o :: rest) a w := by
  obtain ⟨i0, hi, hz0, hz1, hz2⟩ := info_parts Try.infoU
  refine wpList_append_own _ hgd s x 22 ho base 57 i0 (.int .u32 0) 1 4 Try.underlying22 hi hz0 hz1 hz2 rfl (by decide) v n _ hs hown ⟨g, 0, none⟩ 1 c [dv d] hx rfl ?_ (by intro u hu; rw [List.mem_singleton] at hu; subst hu; rfl) (by unfold maxLen; omega) (by omega) hb ?_
  · intro j u hj
    match j, hj with
    | 0, hj =>
      cases hj
      rw [add_plain, hc, hd]
    | j + 1, hj => simp at hj
  · intro v' w' hown' hgrow _
    exact hK v' w' (by simpa [Rw'] using hown') (f.grown hgrow (by intro k hk hl; have := row_block hown hk; omega))

theorem blk_cell0' (w : World) (d : Int) : (w.alloc (.cells #[Value.int .u32 d] 57)).cell? ⟨w.heap.size, 0, none⟩ = some (Value.int .u32 d) := (Blk.made w [Value.int .u32 d]).cell rfl

set_option maxRecDepth 100000 in
set_option maxHeartbeats 2000000 in
theorem radd_any (p q : Option Addr) (n c m d : Nat) (xs ys : List Nat) (w : World) (h1 : Sl w p n c xs) (h2 : Sl w q m d ys) (hn : n ≤ 1099511627774) (hm : m ≤ 1099511627774) :
    Calls Try.prog 64 #[.slice p n c, .slice q m d] w (RetOwn w (dg (val xs + val ys))) := by
  have hx := h1.len
  have hy := h2.len
  obtain ⟨M, hM⟩ : ∃ M, M = max n m := ⟨_, rfl⟩
  have hMn : n ≤ M := by omega
  have hMm : m ≤ M := by omega
  have hM2 : M = n ∨ M = m := by omega
  clear hM
  go_enter Try.func64, Try.ntmps64
  go_wp2
  go_loopw [5, 6, 7] (fun r s t wr => ∃ (k C : Nat) (Z : List Nat), k ≤ M ∧ s = .int .u64 C ∧ t = .int .i64 k ∧ C ≤ 1 ∧ Z.length = k ∧ Dg Z ∧ val Z + pB k * C = val (xs.take k) + val (ys.take k) ∧ Rw' wr w.heap.size r k Z ∧ Fr [] w wr) (fun _ _ t _ => M - (intOf t).toNat)
  case atStart => exact ⟨0, 0, [], Nat.zero_le _, rfl, rfl, by omega, rfl, Dg.nil, rfl, row_nil _ _, Fr.refl _ _⟩
  case round =>
    obtain ⟨k, C, Z, hk, rfl, rfl, hC, hZ, hZd, hv, hR, hf⟩ := hrel
    have HZ := Lib.hid hZ
    have Hv := Lib.hid hv
    clear hZ hv
    have d1 := h1.dig.at k
    have d2 := h2.dig.at k
    by_cases hlt : k < M
    · have HT : Hid (∀ T, T = C + (gd xs k + gd ys k) → val (Z ++ [T % 4294967296]) + pB (k + 1) * (T / 4294967296) = val (xs.take (k + 1)) + val (ys.take (k + 1))) := fun T => add_step HZ.out Hv.out
      have HF : Hid (∀ x y : Nat, gd xs k = x → gd ys k = y → ∀ T, T = C + (x + y) → val (Z ++ [T % 4294967296]) + pB (k + 1) * (T / 4294967296) = val (xs.take (k + 1)) + val (ys.take (k + 1))) := fun x y hx hy T hT => HT.out T (by rw [hx, hy]; exact hT)
      by_cases ha : k < n
      · obtain ⟨b1, o1, rfl, _, m1⟩ := (h1.kept hf).rd.open (by omega)
        have c1 := m1 k (by omega)
        clear m1
        by_cases hb : k < m
        · obtain ⟨b2, o2, rfl, _, m2⟩ := (h2.kept hf).rd.open (by omega)
          have c2 := m2 k (by omega)
          clear m2
          obtain ⟨x, hgx⟩ : ∃ x, x = gd xs k := ⟨_, rfl⟩
          obtain ⟨y, hgy⟩ : ∃ y, y = gd ys k := ⟨_, rfl⟩
          have HF2 := Lib.hid (HF.out x y hgx.symm hgy.symm)
          rw [← hgx] at d1
          rw [← hgy] at d2
          rw [← hgx] at c1
          rw [← hgy] at c2
          clear hgx hgy HF HT
          go_wp2_with (at_builtin; refine wpList_app1 rfl _ _ rfl w.heap.size _ k Z rfl (by exact row_kept hR ((Fr.refl _ _).alloc _)) _ _ ((C + (x + y)) % 4294967296) rfl _ (by exact blk_cell0' _ _) (by omega) (by omega) (by have := hf.size; simp; omega) w (hf.alloc _) (Nat.le_refl _) ?_)
          intro v' w' hR' hf'
          go_wp2
          go_roundw
          case rel =>
            exact ⟨k + 1, _, Z ++ [(C + (x + y)) % 4294967296], by omega, congrArg (Value.int .u64) (by omega), by go_num, by omega, by simp [HZ.out], hZd.append (Dg.one (by omega)), HF2.out _ (by omega), hR', hf'⟩
          case measure => simp [intOf]; omega
        · have g2 : gd ys k = 0 := gd_ge (by omega)
          obtain ⟨x, hgx⟩ : ∃ x, x = gd xs k := ⟨_, rfl⟩
          obtain ⟨y, hgy⟩ : ∃ y, y = gd ys k := ⟨_, rfl⟩
          have HF2 := Lib.hid (HF.out x y hgx.symm hgy.symm)
          rw [← hgx] at d1
          rw [← hgy] at d2
          rw [← hgx] at c1
          rw [g2] at hgy
          subst hgy
          clear hgx  HF HT
          go_wp2_with (at_builtin; refine wpList_app1 rfl _ _ rfl w.heap.size _ k Z rfl (by exact row_kept hR ((Fr.refl _ _).alloc _)) _ _ ((C + x) % 4294967296) rfl _ (by exact blk_cell0' _ _) (by omega) (by omega) (by have := hf.size; simp; omega) w (hf.alloc _) (Nat.le_refl _) ?_)
          intro v' w' hR' hf'
          go_wp2
          go_roundw
          case rel =>
            exact ⟨k + 1, _, Z ++ [(C + x) % 4294967296], by omega, congrArg (Value.int .u64) (by omega), by go_num, by omega, by simp [HZ.out], hZd.append (Dg.one (by omega)), HF2.out _ (by omega), hR', hf'⟩
          case measure => simp [intOf]; omega
      · have g1 : gd xs k = 0 := gd_ge (by omega)
        by_cases hb : k < m
        · obtain ⟨b2, o2, rfl, _, m2⟩ := (h2.kept hf).rd.open (by omega)
          have c2 := m2 k (by omega)
          clear m2
          obtain ⟨x, hgx⟩ : ∃ x, x = gd xs k := ⟨_, rfl⟩
          obtain ⟨y, hgy⟩ : ∃ y, y = gd ys k := ⟨_, rfl⟩
          have HF2 := Lib.hid (HF.out x y hgx.symm hgy.symm)
          rw [← hgx] at d1
          rw [← hgy] at d2
          rw [g1] at hgx
          subst hgx
          rw [← hgy] at c2
          clear  hgy HF HT
          go_wp2_with (at_builtin; refine wpList_app1 rfl _ _ rfl w.heap.size _ k Z rfl (by exact row_kept hR ((Fr.refl _ _).alloc _)) _ _ ((C + y) % 4294967296) rfl _ (by exact blk_cell0' _ _) (by omega) (by omega) (by have := hf.size; simp; omega) w (hf.alloc _) (Nat.le_refl _) ?_)
          intro v' w' hR' hf'
          go_wp2
          go_roundw
          case rel =>
            exact ⟨k + 1, _, Z ++ [(C + y) % 4294967296], by omega, congrArg (Value.int .u64) (by omega), by go_num, by omega, by simp [HZ.out], hZd.append (Dg.one (by omega)), HF2.out _ (by omega), hR', hf'⟩
          case measure => simp [intOf]; omega
        · omega
    · obtain rfl : k = M := by omega
      have hv := Hv.out
      rw [List.take_of_length_le (by omega), List.take_of_length_le (by omega)] at hv
      have hlen : (Z ++ [C]).length = k + 1 := by simp [HZ.out]
      have hval : val (Z ++ [C]) = val xs + val ys := by rw [val_append, val_one, HZ.out, hv]
      have HL := Lib.hid hlen
      have HV := Lib.hid hval
      clear hv hlen hval d1 d2
      go_wp2_with (at_builtin; refine wpList_app1 rfl _ _ rfl w.heap.size _ k Z rfl (by exact row_kept hR ((Fr.refl _ _).alloc _)) _ _ C rfl _ (by exact blk_cell0' _ _) (by omega) (by omega) (by have := hf.size; simp; omega) w (hf.alloc _) (Nat.le_refl _) ?_)
      intro v' w' hR' hf'
      obtain ⟨p', c', rfl, ho⟩ := ow_of_row hR' (hZd.append (Dg.one (by omega)))
      rw [HL.out] at ho ⊢
      go_wp2_with fail
      refine (rcut_any _ _ _ _ _ ho.sl (by omega)).mono ?_
      rw [HV.out]
      rintro e w2 ⟨p2, c2, rfl, ho2, hf2⟩
      go_wp2_with fail
      go_ret
      exact ⟨p2, c2, rfl, ho2.mono hf'.size, hf'.trans hf2 (by simp)⟩

end Go.Proofs.Ytfjhdhmneknmkaa
