/- What the statements of this claim stand on: of DecNum, Fmt, Awake, Ref1, Ref2, Ref3, Ref4, Ref5, what they name -/
import Derived.Deep.LoopGhost
import Derived.Laws.Concat
import Derived.Test.YtagciepnhjbopaaGreatDoorA04
import Derived.Test.YtagciepnhjbopaaGreatDoorA08
import Derived.Test.YtagciepnhjbopaaGreatDoorA09

namespace Go.Proofs.YtagciepnhjbopaaGreatDoor
def Dd (S : List Nat) : Prop := ∀ d, d ∈ S → d < 10

theorem Dd.nil : Dd [] := by intro x h; cases h

theorem Dd.cons {x : Nat} {xs : List Nat} (h : x < 10) (t : Dd xs) : Dd (x :: xs) := by
  intro y hy
  rcases List.mem_cons.1 hy with rfl | hy
  · exact h
  · exact t _ hy

end Go.Proofs.YtagciepnhjbopaaGreatDoor

namespace Go.Proofs.YtagciepnhjbopaaGreatDoor
open Go.RowKit

abbrev bv (x : Nat) : Value := .int .u8 (x : Int)

def Blk8 (w : World) (g : Nat) (L : List Value) : Prop := w.heap[g]? = some (.cells L.toArray 5 (0, 0))

theorem Blk8.lt {w : World} {g : Nat} {L : List Value} (h : Blk8 w g L) : g < w.heap.size := (Array.getElem?_eq_some_iff.1 h).1

theorem Blk8.cell {w : World} {g : Nat} {L : List Value} (h : Blk8 w g L) {j : Nat} {v : Value} (hj : L[j]? = some v) : w.cell? ⟨g, j, none⟩ = some v := by
  rw [cell_of_row w g j _ _ _ h]
  simpa using hj

theorem Blk8.free {w : World} {g : Nat} {L : List Value} (h : Blk8 w g L) (j : Nat) : w.frozen? ⟨g, j, none⟩ = false := by
  have h' : w.heap[g]? = some (.cells L.toArray 5 (0, 0)) := h
  simp [World.frozen?, h']

theorem Blk8.set {w : World} {g : Nat} {L : List Value} (h : Blk8 w g L) (j : Nat) (v : Value) : Blk8 (w.setCell ⟨g, j, none⟩ v) g (L.set j v) := by
  have h' : w.heap[g]? = some (.cells L.toArray 5 (0, 0)) := h
  unfold Blk8
  simp [World.setCell, Array.getElem?_modify, h']

theorem Blk8.keep {S : List Nat} {w w' : World} {g : Nat} {L : List Value} (h : Blk8 w g L) (f : Fr S w w') (hs : g ∉ S) : Blk8 w' g L :=
  (f.block g h.lt hs).trans h

def Fd (w : World) (g T : Nat) (S : List Nat) : Prop := S.length ≤ T ∧ Blk8 w g (List.replicate (T - S.length) (bv 0) ++ S.map fun d => bv (48 + d))

theorem Fd.lt {w : World} {g T : Nat} {S : List Nat} (h : Fd w g T S) : g < w.heap.size := h.2.lt

theorem Fd.free {w : World} {g T : Nat} {S : List Nat} (h : Fd w g T S) (j : Nat) : w.frozen? ⟨g, j, none⟩ = false := h.2.free j

theorem Fd.keep {X : List Nat} {w w' : World} {g T : Nat} {S : List Nat} (h : Fd w g T S) (f : Fr X w w') (hs : g ∉ X) : Fd w' g T S := ⟨h.1, h.2.keep f hs⟩

theorem Fd.zero {w : World} {g T : Nat} {S : List Nat} (h : Fd w g T S) {k : Nat} (_hk : k + 1 + S.length = T) : w.cell? ⟨g, k, none⟩ = some (bv 0) := by
  refine h.2.cell ?_
  rw [List.getElem?_append_left (by rw [List.length_replicate]; omega), List.getElem?_replicate, if_pos (by omega)]

theorem Fd.set {w : World} {g T : Nat} {S : List Nat} (h : Fd w g T S) {k : Nat} (_hk : k + 1 + S.length = T) (d : Nat) : Fd (w.setCell ⟨g, k, none⟩ (bv (48 + d))) g T (d :: S) := by
  refine ⟨by simp; omega, ?_⟩
  have h1 := h.2.set k (bv (48 + d))
  have e : T - S.length = k + 1 := by omega
  have e2 : T - (d :: S).length = k := by simp; omega
  rw [e, List.replicate_succ', List.append_assoc, List.set_append_right _ _ (by simp)] at h1
  rw [e2]
  simpa using h1

theorem Ow.keep2 {S : List Nat} {w w' : World} {base : Nat} {p : Option Addr} {n c : Nat} {xs : List Nat} (h : Ow w base p n c xs) (f : Fr S w w') (hs : ∀ x, x ∈ pbn p n → x ∉ S) : Ow w' base p n c xs := by
  have h0 := h.sl
  by_cases hx : xs = []
  · subst hx
    exact ⟨⟨h0.len, h0.le, h0.cap, h0.nil, Or.inl rfl, h0.dig⟩, Or.inl rfl⟩
  · obtain ⟨g, L, rfl, h1, hb, hl, ht⟩ := h.own.resolve_left hx
    have hn : n ≠ 0 := fun e => hx (List.eq_nil_of_length_eq_zero (h0.len.trans e))
    have hb' := hb.keep f (hs g (by unfold pbn; rw [if_neg hn]; simp))
    exact ⟨⟨h0.len, h0.le, h0.cap, h0.nil, ht.rd hb', h0.dig⟩, Or.inr ⟨g, L, rfl, h1, hb', hl, ht⟩⟩

theorem add_plain (g o j : Nat) : (⟨g, o, none⟩ : Addr).add j = ⟨g, o + j, none⟩ := by
  unfold Addr.add
  split
  · subst_vars; rfl
  · rfl

end Go.Proofs.YtagciepnhjbopaaGreatDoor

namespace Go.Proofs.YtagciepnhjbopaaGreatDoor
open Go.RowKit

theorem made1 {w : World} {g x : Nat} {X : Int} (hX : X = (x : Int)) (hg : g = w.heap.size) (h : x < 4294967296) : Sl (w.alloc (.cells #[.int .u32 X] 52)) (some ⟨g, 0, none⟩) 1 1 [x] := by
  subst hX
  subst hg
  exact (Ow.made w (base := 0) [x] (Nat.zero_le _) (by simp) (Dg.one h)).sl

theorem made2 {w : World} {g x y : Nat} {X Y : Int} (hX : X = (x : Int)) (hY : Y = (y : Int)) (hg : g = w.heap.size) (h : x < 4294967296) (h2 : y < 4294967296) : Sl (w.alloc (.cells #[.int .u32 X, .int .u32 Y] 52)) (some ⟨g, 0, none⟩) 2 2 [x, y] := by
  subst hX
  subst hY
  subst hg
  exact (Ow.made w (base := 0) [x, y] (Nat.zero_le _) (by simp) (Dg.cons h (Dg.one h2))).sl

theorem Fr.new {w : World} (o : Obj) : Fr [] w (w.alloc o) := (Fr.refl _ _).alloc _

end Go.Proofs.YtagciepnhjbopaaGreatDoor

namespace Go.Proofs.YtagciepnhjbopaaGreatDoor
open Go.RowKit

abbrev Rw' (w : World) (base : Nat) (v : Value) (n : Nat) (xs : List Nat) : Prop := w.ownsRow base 52 1 v n (xs.map dv)

theorem row_keep {S : List Nat} {w w' : World} {base n : Nat} {v : Value} {xs : List Nat} (h : Rw' w base v n xs) (f : Fr S w w') (hs : ∀ k, base ≤ k → k < w.heap.size → k ∉ S) : Rw' w' base v n xs := by
  refine ⟨h.1, ?_⟩
  rcases h.2 with h0 | ⟨g, cap, cur, h1, h2, h3, h4⟩
  · exact Or.inl h0
  · have hl : g < w.heap.size := (Array.getElem?_eq_some_iff.1 h3).1
    exact Or.inr ⟨g, cap, cur, h1, h2, (f.block g hl (hs g h2 hl)).trans h3, h4⟩

theorem row_kept {w w' : World} {base n : Nat} {v : Value} {xs : List Nat} (h : Rw' w base v n xs) (f : Fr [] w w') : Rw' w' base v n xs := row_keep h f (by simp)

theorem row_block {w : World} {base n k : Nat} {v : Value} {xs : List Nat} (h : Rw' w base v n xs) (hk : v.ownBlock = some k) : base ≤ k := by
  rcases h.2 with ⟨rfl, _⟩ | ⟨g, cap, cur, rfl, h2, _⟩
  · simp [Value.ownBlock] at hk
  · simp [Value.ownBlock] at hk
    omega

theorem wpList_app1 {w : World} {ops : Array Oper} {rest : List Oper} {o : Oper} {a : Act} {Q : Exit → Act → World → Prop} (hgd : o.guard = none) (s x : Operand)
    (ho : o.op = .call { callee := .builtin .append, args := #[s, x], argTypes := #[22, 22] }) (base : Nat) (v : Value) (n : Nat) (xs : List Nat) (hs : a.eval s = v) (hown : Rw' w base v n xs)
    (g c d : Nat) (hx : a.eval x = .slice (some ⟨g, 0, none⟩) 1 c) (dI : Int) (hc : w.cell? ⟨g, 0, none⟩ = some (.int .u32 dI)) (hd : dI = (d : Nat)) (_hn : n ≤ 1099511627776) (hb : base ≤ w.heap.size) (w0 : World) (f : Fr [] w0 w) (_hb0 : w0.heap.size ≤ base)
    (hK : ∀ v' w', Rw' w' base v' (n + 1) (xs ++ [d]) → Fr [] w0 w' → wpList Tryz.prog ops Q rest (a.put o.dst v') w') : wpList Tryz.prog ops Q (o :: rest) a w := by
  obtain ⟨i0, hi, hz0, hz1, hz2⟩ := info_parts Tryz.infoU
  refine wpList_append_own _ hgd s x 22 ho base 52 i0 (.int .u32 0) 1 4 Tryz.underlying22 hi hz0 hz1 hz2 rfl (by decide) v n _ hs hown ⟨g, 0, none⟩ 1 c [dv d] hx rfl ?_ (by intro u hu; rw [List.mem_singleton] at hu; subst hu; rfl) (by unfold maxLen; omega) (by omega) hb ?_
  · intro j u hj
    match j, hj with
    | 0, hj =>
      cases hj
      rw [add_plain, hc, hd]
    | j + 1, hj => simp at hj
  · intro v' w' hown' hgrow _
    exact hK v' w' (by simpa [Rw'] using hown') (f.grown hgrow (by intro k hk hl; have := row_block hown hk; omega))

theorem blk_cell0' (w : World) (d : Int) : (w.alloc (.cells #[Value.int .u32 d] 52)).cell? ⟨w.heap.size, 0, none⟩ = some (Value.int .u32 d) := (Blk.made w [Value.int .u32 d]).cell rfl

set_option maxRecDepth 100000 in
set_option maxHeartbeats 2000000 in
theorem radd_any (p q : Option Addr) (n c m d : Nat) (xs ys : List Nat) (w : World) (h1 : Sl w p n c xs) (h2 : Sl w q m d ys) (_hn : n ≤ 1099511627774) (_hm : m ≤ 1099511627774) :
    Calls Tryz.prog 167 #[.slice p n c, .slice q m d] w (RetOwn w (dg (val xs + val ys))) := by
  have hx := h1.len
  have hy := h2.len
  obtain ⟨M, hM⟩ : ∃ M, M = max n m := ⟨_, rfl⟩
  have hMn : n ≤ M := by omega
  have hMm : m ≤ M := by omega
  have hM2 : M = n ∨ M = m := by omega
  clear hM
  go_enter Tryz.func167, Tryz.ntmps167
  go_wp2
  go_loopw [5, 6, 7] (fun r s t wr => ∃ (k C : Nat) (Z : List Nat), k ≤ M ∧ s = .int .u64 C ∧ t = .int .i64 k ∧ C ≤ 1 ∧ Z.length = k ∧ Dg Z ∧ val Z + pB k * C = val (xs.take k) + val (ys.take k) ∧ Rw' wr w.heap.size r k Z ∧ Fr [] w wr) (fun _ _ t _ => M - (intOf t).toNat)
  case atStart => exact ⟨0, 0, [], Nat.zero_le _, rfl, rfl, by omega, rfl, Dg.nil, rfl, row_nil _ _, Fr.refl _ _⟩
  case round =>
    obtain ⟨k, C, Z, hk, rfl, rfl, hC, hZ, hZd, hv, hR, hf⟩ := hrel
    have HZ := Lib.hid hZ
    have Hv := Lib.hid hv
    clear hZ hv
    have d1 := h1.dig.at k
    have d2 := h2.dig.at k
    by_cases hlt : k < M
    · have HT : Hid (∀ T, T = C + (gd xs k + gd ys k) → val (Z ++ [T % 4294967296]) + pB (k + 1) * (T / 4294967296) = val (xs.take (k + 1)) + val (ys.take (k + 1))) := fun T => add_step HZ.out Hv.out
      have HF : Hid (∀ x y : Nat, gd xs k = x → gd ys k = y → ∀ T, T = C + (x + y) → val (Z ++ [T % 4294967296]) + pB (k + 1) * (T / 4294967296) = val (xs.take (k + 1)) + val (ys.take (k + 1))) := fun x y hx hy T hT => HT.out T (by rw [hx, hy]; exact hT)
      by_cases ha : k < n
      · obtain ⟨b1, o1, rfl, _, m1⟩ := (h1.kept hf).rd.open (by omega)
        have c1 := m1 k (by omega)
        clear m1
        by_cases hb : k < m
        · obtain ⟨b2, o2, rfl, _, m2⟩ := (h2.kept hf).rd.open (by omega)
          have c2 := m2 k (by omega)
          clear m2
          obtain ⟨x, hgx⟩ : ∃ x, x = gd xs k := ⟨_, rfl⟩
          obtain ⟨y, hgy⟩ : ∃ y, y = gd ys k := ⟨_, rfl⟩
          have HF2 := Lib.hid (HF.out x y hgx.symm hgy.symm)
          rw [← hgx] at d1
          rw [← hgy] at d2
          rw [← hgx] at c1
          rw [← hgy] at c2
          clear hgx hgy HF HT
          go_wp2_with (at_builtin; refine wpList_app1 rfl _ _ rfl w.heap.size _ k Z rfl (by exact row_kept hR ((Fr.refl _ _).alloc _)) _ _ ((C + (x + y)) % 4294967296) rfl _ (by exact blk_cell0' _ _) (by omega) (by omega) (by have := hf.size; simp; omega) w (hf.alloc _) (Nat.le_refl _) ?_)
          intro v' w' hR' hf'
          go_wp2
          go_roundw
          case rel =>
            exact ⟨k + 1, _, Z ++ [(C + (x + y)) % 4294967296], by omega, congrArg (Value.int .u64) (by omega), by go_num, by omega, by simp [HZ.out], hZd.append (Dg.one (by omega)), HF2.out _ (by omega), hR', hf'⟩
          case measure => simp [intOf]; omega
        · have g2 : gd ys k = 0 := gd_ge (by omega)
          obtain ⟨x, hgx⟩ : ∃ x, x = gd xs k := ⟨_, rfl⟩
          obtain ⟨y, hgy⟩ : ∃ y, y = gd ys k := ⟨_, rfl⟩
          have HF2 := Lib.hid (HF.out x y hgx.symm hgy.symm)
          rw [← hgx] at d1
          rw [← hgy] at d2
          rw [← hgx] at c1
          rw [g2] at hgy
          subst hgy
          clear hgx  HF HT
          go_wp2_with (at_builtin; refine wpList_app1 rfl _ _ rfl w.heap.size _ k Z rfl (by exact row_kept hR ((Fr.refl _ _).alloc _)) _ _ ((C + x) % 4294967296) rfl _ (by exact blk_cell0' _ _) (by omega) (by omega) (by have := hf.size; simp; omega) w (hf.alloc _) (Nat.le_refl _) ?_)
          intro v' w' hR' hf'
          go_wp2
          go_roundw
          case rel =>
            exact ⟨k + 1, _, Z ++ [(C + x) % 4294967296], by omega, congrArg (Value.int .u64) (by omega), by go_num, by omega, by simp [HZ.out], hZd.append (Dg.one (by omega)), HF2.out _ (by omega), hR', hf'⟩
          case measure => simp [intOf]; omega
      · have g1 : gd xs k = 0 := gd_ge (by omega)
        by_cases hb : k < m
        · obtain ⟨b2, o2, rfl, _, m2⟩ := (h2.kept hf).rd.open (by omega)
          have c2 := m2 k (by omega)
          clear m2
          obtain ⟨x, hgx⟩ : ∃ x, x = gd xs k := ⟨_, rfl⟩
          obtain ⟨y, hgy⟩ : ∃ y, y = gd ys k := ⟨_, rfl⟩
          have HF2 := Lib.hid (HF.out x y hgx.symm hgy.symm)
          rw [← hgx] at d1
          rw [← hgy] at d2
          rw [g1] at hgx
          subst hgx
          rw [← hgy] at c2
          clear  hgy HF HT
          go_wp2_with (at_builtin; refine wpList_app1 rfl _ _ rfl w.heap.size _ k Z rfl (by exact row_kept hR ((Fr.refl _ _).alloc _)) _ _ ((C + y) % 4294967296) rfl _ (by exact blk_cell0' _ _) (by omega) (by omega) (by have := hf.size; simp; omega) w (hf.alloc _) (Nat.le_refl _) ?_)
          intro v' w' hR' hf'
          go_wp2
          go_roundw
          case rel =>
            exact ⟨k + 1, _, Z ++ [(C + y) % 4294967296], by omega, congrArg (Value.int .u64) (by omega), by go_num, by omega, by simp [HZ.out], hZd.append (Dg.one (by omega)), HF2.out _ (by omega), hR', hf'⟩
          case measure => simp [intOf]; omega
        · omega
    · obtain rfl : k = M := by omega
      have hv := Hv.out
      rw [List.take_of_length_le (by omega), List.take_of_length_le (by omega)] at hv
      have hlen : (Z ++ [C]).length = k + 1 := by simp [HZ.out]
      have hval : val (Z ++ [C]) = val xs + val ys := by rw [val_append, val_one, HZ.out, hv]
      have HL := Lib.hid hlen
      have HV := Lib.hid hval
      clear hv hlen hval d1 d2
      go_wp2_with (at_builtin; refine wpList_app1 rfl _ _ rfl w.heap.size _ k Z rfl (by exact row_kept hR ((Fr.refl _ _).alloc _)) _ _ C rfl _ (by exact blk_cell0' _ _) (by omega) (by omega) (by have := hf.size; simp; omega) w (hf.alloc _) (Nat.le_refl _) ?_)
      intro v' w' hR' hf'
      obtain ⟨p', c', rfl, ho⟩ := ow_of_row hR' (hZd.append (Dg.one (by omega)))
      rw [HL.out] at ho ⊢
      go_wp2_with fail
      refine (rcut_any _ _ _ _ _ ho.sl (by omega)).mono ?_
      rw [HV.out]
      rintro e w2 ⟨p2, c2, rfl, ho2, hf2⟩
      go_wp2_with fail
      go_ret
      exact ⟨p2, c2, rfl, ho2.mono hf'.size, hf'.trans hf2 (by simp)⟩

end Go.Proofs.YtagciepnhjbopaaGreatDoor

namespace Go.Proofs.YtagciepnhjbopaaGreatDoor
open Go.RowKit

set_option maxRecDepth 100000 in
set_option maxHeartbeats 2000000 in
theorem rmul_any (p q : Option Addr) (n c m d : Nat) (xs ys : List Nat) (w : World) (h1 : Sl w p n c xs) (h2 : Sl w q m d ys) (_hn : n ≤ 549755813886) (_hm : m ≤ 549755813886) :
    Calls Tryz.prog 152 #[.slice p n c, .slice q m d] w (RetOwn w (dg (val xs * val ys))) := by
  obtain ⟨i0, hi, hz0, hz1, hz2⟩ := info_parts Tryz.infoU
  have LX := h1.len
  have LY := h2.len
  go_enter Tryz.func152, Tryz.ntmps152
  go_wp2_with (at_make; refine wpList_make_full _ rfl _ _ 22 rfl 0 52 i0 (.int .u32 0) 1 Tryz.underlying22 hi hz0 hz1 _ _ _ _ (n + m + 1) rfl rfl (by simp) (by simp) (by rw [hz2]; omega) (by unfold maxLen; omega) (Nat.zero_le _) ?_)
  intro w0 hown hgrow
  have hB0 := blk_of_made hown
  have hf0 : Fr [] w w0 := (Fr.refl _ _).grown hgrow (by simp)
  clear hown hgrow
  have hg0 := hB0.lt
  generalize hg : w.heap.size = g at *
  have HG := Lib.hid hg
  clear hg
  have hstart : Fb w0 g (n + m + 1) (List.replicate m 0) := by
    unfold Fb
    rw [spl_map]
    have : (List.replicate (n + m + 1) 0).take 0 ++ List.replicate m 0 ++ (List.replicate (n + m + 1) 0).drop (0 + (List.replicate m 0).length) = List.replicate (n + m + 1) 0 := by
      simp [List.replicate_append_replicate]
      omega
    rw [this]
    exact hB0
  go_wp2
  go_loopw [6] (fun t wr => ∃ (k : Nat) (Q : List Nat), k ≤ n ∧ t = .int .i64 k ∧ Q.length = k + m ∧ Dg Q ∧ val Q = val (xs.take k) * val ys ∧ Fb wr g (n + m + 1) Q ∧ Fr [] w wr) (fun t _ => n - (intOf t).toNat)
  case atStart => exact ⟨0, _, Nat.zero_le _, rfl, by simp, Dg.zeros _, by rw [val_zeros]; simp [val], hstart, hf0⟩
  case round =>
    obtain ⟨k, Q, hk, rfl, hQ, hQd, hv, hB, hf⟩ := hrel
    have HQ := Lib.hid hQ
    have Hv := Lib.hid hv
    clear hQ hv hB0 hf0 hstart
    by_cases hlt : k < n
    · obtain ⟨b1, o1, hp, hb1, m1⟩ := h1.rd.open (by omega)
      subst hp
      have d1 := h1.dig.at k
      have HC : Hid (w.cell? ⟨b1, o1 + k, none⟩ = some (dv (gd xs k))) := m1 k (by omega)
      have HT : Hid (∀ (Z : List Nat) (r : Nat), Z.length = m → val Z + pB m * r = val (Q.drop k) + gd xs k * val ys → val (Q.take k ++ Z ++ [r]) = val (xs.take (k + 1)) * val ys) := fun Z r hZ h => mul_step HQ.out hZ Hv.out h
      clear m1
      obtain ⟨x, hgx⟩ : ∃ x, x = gd xs k := ⟨_, rfl⟩
      rw [← hgx] at d1 HC HT
      clear hgx
      obtain ⟨L, hL⟩ : ∃ L, L = spl ((List.replicate (n + m + 1) 0).map dv) 0 Q := ⟨_, rfl⟩
      have hLl : L.length = n + m + 1 := by rw [hL, spl_len (by simp [HQ.out]; omega)]; simp
      have hsg : Sg L k (Q.drop k) := by
        have h1 := (spl_sg (L := (List.replicate (n + m + 1) 0).map dv) (o := 0) (Z := Q) (by simp [HQ.out]; omega)).sub k m (by rw [HQ.out]; exact Nat.le_refl _)
        rw [Nat.zero_add, List.take_of_length_le (by simp [HQ.out])] at h1
        rw [hL]
        exact h1
      have hQK : (Q.drop k).length = m := by simp [HQ.out]
      have hBL : Blk wr g L := by rw [hL]; exact hB
      have HL := Lib.hid hL
      clear hL
      obtain ⟨wo, hwo⟩ : ∃ wo : World, wo = wr := ⟨_, rfl⟩
      subst hwo
      go_wp2
      go_loopw [7, 8] (fun s t wr => ∃ (j C : Nat) (Z : List Nat), j ≤ m ∧ s = .int .u64 C ∧ t = .int .i64 j ∧ C ≤ 4294967295 ∧ Z.length = j ∧ Dg Z ∧ val Z + pB j * C = val ((Q.drop k).take j) + x * val (ys.take j) ∧ Blk wr g (spl L k Z) ∧ Fr [g] wo wr) (fun _ t _ => m - (intOf t).toNat)
      case atStart => exact ⟨0, 0, [], Nat.zero_le _, rfl, rfl, by omega, rfl, Dg.nil, rfl, by rw [spl_nil]; exact hBL, Fr.refl _ _⟩
      case round =>
        obtain ⟨j, C, Z, hj, rfl, rfl, hC, hZ, hZd, hvz, hB2, hf2⟩ := hrel
        have HZ := Lib.hid hZ
        have Hvz := Lib.hid hvz
        have hfw : Fr [] w wr := hf.trans hf2 (by have := HG.out; simp; omega)
        have c0 : wr.cell? ⟨b1, o1 + k, none⟩ = some (dv x) := (hfw.cell (p := ⟨b1, o1 + k, none⟩) hb1 (by simp)).trans HC.out
        clear hZ hvz
        by_cases hlj : j < m
        · obtain ⟨b2, o2, rfl, _, m2⟩ := (h2.kept hfw).rd.open (by omega)
          have c1 := m2 j (by omega)
          have c2 : wr.cell? ⟨g, k + j, none⟩ = some (dv (gd (Q.drop k) j)) := hB2.cell (by rw [spl_at (by rw [HZ.out]; omega), if_neg (by omega), if_neg (by rw [HZ.out]; omega)]; exact hsg.2 j (by omega))
          have c3 := hB2.free (k + j)
          have d2 := h2.dig.at j
          have d3 := (hQd.drop k).at j
          have HT2 : Hid (∀ T, T = C + (x * gd ys j + gd (Q.drop k) j) → _) := fun T => addp_step HZ.out Hvz.out
          have HW := Lib.hid (hB2.set (k + j))
          have HS : Hid (∀ v, (spl L k Z).set (k + j) (dv v) = spl L k (Z ++ [v])) := fun v => by
            have := spl_set (L := L) (o := k) (Z := Z) (by rw [HZ.out]; omega) v
            rwa [HZ.out] at this
          have hbd := mul_small d1 d2
          have hbd' : (x : Int) * (gd ys j : Nat) ≤ 18446744065119617025 := by
            rw [← Int.natCast_mul]; omega
          have hbd0 : (0 : Int) ≤ (x : Int) * (gd ys j : Nat) := by rw [← Int.natCast_mul]; omega
          generalize gd ys j = y at *
          generalize gd (Q.drop k) j = z at *
          clear m2
          go_wp2
          go_quiet (fail)
          go_wp2
          go_roundw
          case rel =>
            have eT : (C : Int) + ((x : Int) * y + z) = ((C + (x * y + z) : Nat) : Int) := by simp
            have eM : ((C : Int) + ((x : Int) * y + z)) % 4294967296 = (((C + (x * y + z)) % 4294967296 : Nat) : Int) := by rw [eT]; omega
            have eD : ((C : Int) + ((x : Int) * y + z)) / 4294967296 = (((C + (x * y + z)) / 4294967296 : Nat) : Int) := by rw [eT]; omega
            rw [eM, eD]
            refine ⟨j + 1, _, Z ++ [(C + (x * y + z)) % 4294967296], by omega, rfl, by go_num, by omega, by simp [HZ.out], hZd.append (Dg.one (by omega)), HT2.out _ rfl, ?_, (hf2.drewN _).setCell _ _ (by simp)⟩
            rw [← HS.out]
            exact HW.out _
          case measure => simp [intOf]; omega
        · obtain rfl : j = m := by omega
          have hv := Hvz.out
          rw [List.take_of_length_le (by omega), List.take_of_length_le (by omega)] at hv
          have hB3 : Fb wr g (n + j + 1) (Q.take k ++ Z) := by
            unfold Fb
            rw [HL.out, spl_spl (by simp [HQ.out]; omega) (by rw [HQ.out, HZ.out]; exact Nat.le_refl _), List.drop_of_length_le (by rw [HQ.out, HZ.out]; exact Nat.le_refl _), List.append_nil] at hB2
            exact hB2
          have hl3 : (Q.take k ++ Z).length = k + j := by simp [HQ.out, HZ.out]
          have c3 := hB3.free (k + j)
          have c4 := hB3.cell (show k + j < n + j + 1 by omega) (by rw [hl3]; exact Nat.le_refl _)
          have HW := Lib.hid (hB3.set (show k + j < n + j + 1 by omega) hl3 C)
          have HV2 := Lib.hid (HT.out Z C HZ.out hv)
          have HL3 := Lib.hid hl3
          have HCe : (C : Int) % 4294967296 = C := by omega
          clear hv hB2 hl3 hsg hBL
          go_wp2
          go_roundw
          case rel =>
            exact ⟨k + 1, Q.take k ++ Z ++ [C], by omega, by go_num, by rw [List.length_append, HL3.out]; simp; omega, ((hQd.take _).append hZd).append (Dg.one (by omega)), HV2.out, HW.out, hfw.setCell _ _ (by have := HG.out; simp; omega)⟩
          case measure => simp [intOf]; omega
    · obtain rfl : k = n := by omega
      have hv := Hv.out
      rw [List.take_of_length_le (by omega)] at hv
      have hB3 := hB.set (show k + m < k + m + 1 by omega) HQ.out 0
      have hlen : (Q ++ [0]).length = k + m + 1 := by simp [HQ.out]
      have hfull : Blk wr g ((Q ++ [0]).map dv) := by
        have hB' := hB
        unfold Fb at hB'
        rw [spl_map] at hB'
        have e : (List.replicate (k + m + 1) 0).take 0 ++ Q ++ (List.replicate (k + m + 1) 0).drop (0 + Q.length) = Q ++ [0] := by
          rw [HQ.out]
          simp
        rw [e] at hB'
        exact hB'
      have HO := Ow.of_blk (base := g) hfull (Nat.le_refl _) (by rw [hlen]; omega) (hQd.append (Dg.one (by omega)))
      have hval : val (Q ++ [0]) = val xs * val ys := by rw [val_append, val_one, hv]; simp
      rw [hlen] at HO
      have HO2 := Lib.hid HO
      have HV2 := Lib.hid hval
      clear HO hval hlen hfull hB3 hv hB
      go_wp2_with fail
      refine (rcut_any _ _ _ _ _ HO2.out.sl (by omega)).mono ?_
      rw [HV2.out]
      rintro e w2 ⟨p2, c2, rfl, ho2, hf2⟩
      go_wp2_with fail
      go_ret
      exact ⟨p2, c2, rfl, ho2.mono hf.size, hf.trans hf2 (by simp)⟩

end Go.Proofs.YtagciepnhjbopaaGreatDoor

namespace Go.Proofs.YtagciepnhjbopaaGreatDoor
open Go.RowKit

set_option maxRecDepth 100000 in
set_option maxHeartbeats 1000000 in
theorem rsmall_any (p : Option Addr) (n c d : Nat) (xs : List Nat) (w : World) (h : Sl w p n c xs) (hd : 0 < d) (_hd2 : d < 4294967296) (_hn : n ≤ 1099511627776) :
    Calls Tryz.prog 184 #[.slice p n c, .int .u32 d] w fun e w' => ∃ q cq, e = .returned (.tuple #[.slice q (dg (val xs / d)).length cq, .int .u32 (val xs % d : Nat)]) ∧
      Ow w' w.heap.size q (dg (val xs / d)).length cq (dg (val xs / d)) ∧ Fr [] w w' := by
  obtain ⟨i0, hi, hz0, hz1, hz2⟩ := info_parts Tryz.infoU
  have hzl := h.len
  have hm63 : n ≤ 9223372036854775807 := by omega
  go_enter Tryz.func184, Tryz.ntmps184
  go_wp2_with (at_make; refine wpList_make_full _ rfl _ _ 22 rfl 0 52 i0 (.int .u32 0) 1 Tryz.underlying22 hi hz0 hz1 _ _ _ _ n rfl rfl (by simp) (by simp) (by rw [hz2]; omega) (by unfold maxLen; omega) (Nat.zero_le _) ?_)
  intro w0 hown hgrow
  have hB0 := blk_of_made hown
  have hf0 : Fr [] w w0 := (Fr.refl _ _).grown hgrow (by simp)
  clear hown hgrow
  generalize hg : w.heap.size = g at *
  have HG := Lib.hid hg
  clear hg
  obtain ⟨L, hL⟩ : ∃ L, L = (List.replicate n 0).map dv := ⟨_, rfl⟩
  rw [← hL] at hB0
  have hLl : L.length = n := by rw [hL]; simp
  clear hL
  go_wp2
  go_loopw [7, 8] (fun s t wr => ∃ (k R : Nat) (Q : List Nat), k ≤ n ∧ s = .int .u64 R ∧ t = .int .i64 ((k : Int) - 1) ∧ R < d ∧ Q.length = n - k ∧ Dg Q ∧ val (xs.drop k) = val Q * d + R ∧ Blk wr g (spl L k Q) ∧ Fr [] w wr) (fun _ t _ => (intOf t + 1).toNat)
  case atStart => exact ⟨n, 0, [], Nat.le_refl _, rfl, rfl, hd, by simp, Dg.nil, by rw [List.drop_of_length_le (by omega)]; simp [val], by rw [spl_nil]; exact hB0, hf0⟩
  case round =>
    obtain ⟨k, R, Q, hk, rfl, rfl, hR, hQ, hQd, hv, hB, hf⟩ := hrel
    have HQ := Lib.hid hQ
    have Hv := Lib.hid hv
    clear hQ hv hB0 hf0
    cases k with
    | zero =>
      rw [show (((0 : Nat) : Int) - 1) = -1 from rfl]
      have hv := Hv.out
      rw [List.drop_zero] at hv
      have e1 : val xs % d = R := by rw [hv, Nat.mul_comm, Nat.mul_add_mod, Nat.mod_eq_of_lt hR]
      have e2 : val Q = val xs / d := by rw [hv, Nat.mul_comm, Nat.mul_add_div hd, Nat.div_eq_of_lt hR]; rfl
      rw [Nat.sub_zero] at HQ
      have hspl : spl L 0 Q = Q.map dv := by
        unfold spl
        rw [HQ.out, List.drop_of_length_le (by omega)]
        simp
      rw [hspl] at hB
      have HO := Ow.of_blk (base := g) hB (Nat.le_refl _) (by rw [HQ.out]; omega) hQd
      rw [HQ.out] at HO
      have HO2 := Lib.hid HO
      have H1 := Lib.hid e1
      have H2 := Lib.hid e2
      have eR : (R : Int) % 4294967296 = R := by omega
      clear hv e1 e2 HO hB hspl
      go_wp2_with fail
      refine (rcut_any _ _ _ _ _ HO2.out.sl (by omega)).mono ?_
      rw [H2.out]
      rintro e w2 ⟨p2, c2, rfl, ho2, hf2⟩
      go_wp2_with fail
      go_ret2
      have hs := hf.size
      have hg := HG.out
      rw [H1.out]
      exact ⟨p2, c2, rfl, ho2.mono (by omega), hf.trans hf2 (by simp)⟩
    | succ k =>
      rw [show (((k + 1 : Nat) : Int) - 1) = k from by omega]
      obtain ⟨b1, o1, rfl, _, m1⟩ := (h.kept hf).rd.open (by omega)
      have c2 := m1 k (by omega)
      have c3 := hB.free k
      have d2 := h.dig.at k
      have HT := Lib.hid (divd_step (show k < xs.length by omega) Hv.out)
      have HD := Lib.hid (div_small hR d2)
      have HW := Lib.hid (hB.set k)
      have HS : Hid (∀ v, (spl L (k + 1) Q).set k (dv v) = spl L k (v :: Q)) := fun v => spl_down (by rw [HQ.out]; omega) v
      have hor := or64i ((R : Int) * 4294967296) (gd xs k : Nat) R 32 (by omega) (by omega) (by omega) (by omega)
      have hw1 : IntKind.u64.wrap ((R : Int) * 4294967296) = (R : Int) * 4294967296 := wrap_u64_lt (by omega) (by omega)
      have c4 : ∃ v, wr.cell? ⟨g, k, none⟩ = some v := ⟨_, hB.cell (by rw [spl_at (by rw [HQ.out]; omega), if_pos (by omega), List.getElem?_eq_getElem (by omega)])⟩
      obtain ⟨v4, c4⟩ := c4
      generalize gd xs k = x at *
      clear m1
      go_wp2
      go_roundw
      case rel =>
        have hD := HD.out
        have e0 : (R : Int) * 4294967296 + x = ((R * 4294967296 + x : Nat) : Int) := by omega
        have e1 : ((R : Int) * 4294967296 + x) / d = (((R * 4294967296 + x) / d : Nat) : Int) := by rw [e0]; exact (Int.natCast_ediv _ _).symm
        have e2 : ((R : Int) * 4294967296 + x) % d = (((R * 4294967296 + x) % d : Nat) : Int) := by rw [e0]; exact (Int.natCast_emod _ _).symm
        have ht := HT.out
        have hml : (R * 4294967296 + x) % d < d := Nat.mod_lt _ hd
        rw [e1, e2]
        clear HT e0 e1 e2 HD
        generalize (R * 4294967296 + x) / d = qq at *
        generalize (R * 4294967296 + x) % d = rr at *
        have e3 : (qq : Int) % 4294967296 = qq := by omega
        rw [e3]
        refine ⟨k, rr, qq :: Q, by omega, rfl, rfl, hml, by simp [HQ.out]; omega, Dg.cons hD hQd, ht, ?_, hf.setCell _ _ (by have := HG.out; simp; omega)⟩
        rw [← HS.out]
        exact HW.out _
      case measure => simp [intOf]

end Go.Proofs.YtagciepnhjbopaaGreatDoor

namespace Go.Proofs.YtagciepnhjbopaaGreatDoor
open Go.RowKit

def nmb (xs : List Nat) : Bool := decide (xs.length = 0 ∨ gd xs (xs.length - 1) ≠ 0)

set_option maxRecDepth 100000 in
set_option maxHeartbeats 400000 in
theorem isnormal_any (p : Option Addr) (n c : Nat) (xs : List Nat) (w : World) (h : Sl w p n c xs) (_hn : n ≤ 1099511627776) :
    Calls Tryz.prog 106 #[.slice p n c] w fun e w' => e = .returned (.bool (nmb xs)) ∧ w = w' := by
  have hx := h.len
  by_cases h0 : n = 0
  · have e : nmb xs = true := decide_eq_true (Or.inl (by omega))
    subst h0
    rw [e]
    go_enter Tryz.func106, Tryz.ntmps106
    go_wp2
    go_ret
    exact ⟨rfl, rfl⟩
  · obtain ⟨b, off, rfl, _, hcell⟩ := h.rd.open (by omega)
    obtain ⟨k, rfl⟩ : ∃ k, n = k + 1 := ⟨n - 1, by omega⟩
    have hck := hcell k (by omega)
    have hd := h.dig.at k
    have he : nmb xs = ((gd xs k : Int) != 0) := by
      unfold nmb
      rw [hx, Nat.add_sub_cancel]
      by_cases hz : gd xs k = 0
      · rw [hz]; simp
      · have : ((gd xs k : Int) != 0) = true := bne_iff_ne.2 (by omega)
        rw [this]
        exact decide_eq_true (Or.inr hz)
    have HE := Lib.hid he
    clear hcell he
    generalize gd xs k = x at *
    go_enter Tryz.func106, Tryz.ntmps106
    go_wp2
    go_ret
    rw [HE.out]
    exact ⟨rfl, rfl⟩

set_option maxRecDepth 100000 in
set_option maxHeartbeats 2000000 in
theorem rcompare_any (p q : Option Addr) (n c m d : Nat) (xs ys : List Nat) (w : World) (h1 : Sl w p n c xs) (h2 : Sl w q m d ys) (hn : n ≤ 1099511627776) (hm : m ≤ 1099511627776) :
    Calls Tryz.prog 168 #[.slice p n c, .slice q m d] w fun e w' => e = .returned (.int .i64 (cmpN (val xs) (val ys))) ∧ Fr [] w w' := by
  have l1 := dg_len_val h1.dig
  have l2 := dg_len_val h2.dig
  rw [h1.len] at l1
  rw [h2.len] at l2
  go_enter Tryz.func168, Tryz.ntmps168
  go_wp2_with fail
  refine (rcut_any _ _ _ _ _ h1 hn).mono ?_
  rintro e w1 ⟨p1, c1, rfl, o1, f1⟩
  replace h2 := h2.kept f1
  have s1 := o1.sl
  clear h1 o1
  go_wp2_with fail
  refine (rcut_any _ _ _ _ _ h2 hm).mono ?_
  rintro e w2 ⟨p2, c2, rfl, o2, f2⟩
  have s2 := o2.sl
  replace s1 := s1.kept f2
  have hw := f1.trans f2 (by simp)
  clear h2 o2 f1 f2
  have L1 : (dg (val xs)).length < (dg (val ys)).length → cmpN (val xs) (val ys) = -1 := fun h => by rw [cmpN_len_lt h]; exact cmpI_lt (by omega)
  have L2 : (dg (val ys)).length < (dg (val xs)).length → cmpN (val xs) (val ys) = 1 := fun h => by rw [cmpN_len_gt h]; exact cmpI_gt (by omega)
  have L3 : (dg (val xs)).length = (dg (val ys)).length → ∀ k, k < (dg (val xs)).length → (dg (val xs)).drop (k + 1) = (dg (val ys)).drop (k + 1) → gd (dg (val xs)) k < gd (dg (val ys)) k → cmpN (val xs) (val ys) = -1 := fun h k => cmpN_dig_lt h
  have L3' : (dg (val xs)).length = (dg (val ys)).length → ∀ k, k < (dg (val xs)).length → (dg (val xs)).drop (k + 1) = (dg (val ys)).drop (k + 1) → gd (dg (val ys)) k < gd (dg (val xs)) k → cmpN (val xs) (val ys) = 1 := fun h k => cmpN_dig_gt h
  have L4 : dg (val xs) = dg (val ys) → cmpN (val xs) (val ys) = 0 := fun h => by rw [dg_inj h]; exact cmpN_refl _
  generalize dg (val xs) = A at *
  generalize dg (val ys) = B at *
  by_cases hlen : A.length = B.length
  · have H3 := Lib.hid (L3 hlen)
    have H3' := Lib.hid (L3' hlen)
    have H4 := Lib.hid L4
    clear L1 L2 L3 L3' L4
    have hL := Lib.hid hlen
    rw [← hlen] at s2
    rw [← hlen]
    have hne : ((A.length : Int) != A.length) = false := by simp
    clear hlen
    generalize hn' : A.length = n' at *
    have hN := Lib.hid hn'
    clear hn'
    go_wp2
    go_loopw [5] (fun s wr => ∃ k : Nat, k ≤ n' ∧ s = .int .i64 ((k : Int) - 1) ∧ A.drop k = B.drop k ∧ Fr [] w2 wr) (fun s _ => (intOf s + 1).toNat)
    case atStart => exact ⟨n', Nat.le_refl _, rfl, by rw [List.drop_of_length_le (by rw [hN.out]; exact Nat.le_refl _), List.drop_of_length_le (by rw [← hL.out]; exact Nat.le_refl _)], Fr.refl _ _⟩
    case round =>
      obtain ⟨k, hk, rfl, hdr, hf⟩ := hrel
      have hdr' := Lib.hid hdr
      clear hdr
      have g1 := (s1.kept hf).rd
      have g2 := (s2.kept hf).rd
      have hwf := hw.trans hf (by simp)
      cases k with
      | zero =>
        rw [show (((0 : Nat) : Int) - 1) = -1 from rfl]
        go_wp2
        go_ret
        exact ⟨ret_int (H4.out hdr'.out).symm, hwf⟩
      | succ k =>
        rw [show (((k + 1 : Nat) : Int) - 1) = k from by omega]
        have e1 := hN.out
        obtain ⟨b1, o1, rfl, _, m1⟩ := g1.open (by omega)
        obtain ⟨b2, o2, rfl, _, m2⟩ := g2.open (by rw [← hL.out]; omega)
        have c1 := m1 k (by omega)
        have c2 := m2 k (by rw [← hL.out]; omega)
        have d1 := s1.dig.at k
        have d2 := s2.dig.at k
        clear m1 m2
        by_cases hlt : gd A k < gd B k
        · have hr := Lib.hid (H3.out k (by omega) hdr'.out hlt)
          generalize gd A k = x at *
          generalize gd B k = y at *
          clear e1
          go_wp2
          go_quiet (fail)
          go_wp2
          go_ret
          exact ⟨ret_int hr.out.symm, hwf.drewN _⟩
        · by_cases hgt : gd B k < gd A k
          · have hr := Lib.hid (H3'.out k (by omega) hdr'.out hgt)
            generalize gd A k = x at *
            generalize gd B k = y at *
            clear e1
            go_wp2
            go_quiet (fail)
            have hf2 := hwf.drewN nq
            generalize hwq : wr.drewN nq = wq at *
            have c1' : wq.cell? ⟨b1, o1 + k, none⟩ = some (dv x) := by rw [← hwq]; exact c1
            have c2' : wq.cell? ⟨b2, o2 + k, none⟩ = some (dv y) := by rw [← hwq]; exact c2
            clear hwq c1 c2 hf s1 s2 g1 g2
            go_wp2
            go_quiet (fail)
            go_wp2
            go_ret
            exact ⟨ret_int hr.out.symm, hf2.drewN _⟩
          · have hd : gd A k = gd B k := by omega
            have hdd := Lib.hid (drop_eq_succ (hN.out.trans hL.out) (by omega) hdr'.out hd)
            rw [hd] at c1
            clear d1 hd e1 hlt hgt
            generalize gd B k = x at *
            go_wp2
            go_quiet (fail)
            have hf2 := hf.drewN nq
            generalize hwq : wr.drewN nq = wq at *
            have c1' : wq.cell? ⟨b1, o1 + k, none⟩ = some (dv x) := by rw [← hwq]; exact c1
            have c2' : wq.cell? ⟨b2, o2 + k, none⟩ = some (dv x) := by rw [← hwq]; exact c2
            clear hwq c1 c2 hf g1 g2
            go_wp2
            go_quiet (fail)
            go_wp2
            go_roundw
            case rel => exact ⟨k, by omega, by go_num, hdd.out, hf2.drewN _⟩
            case measure => simp [intOf]
  · have hne : ((A.length : Int) != B.length) = true := by rw [bne_iff_ne]; omega
    by_cases hlt : A.length < B.length
    · have HR := Lib.hid (L1 hlt)
      clear L1 L2 L3 L3' L4 hlen
      go_wp2
      go_ret
      exact ⟨ret_int HR.out.symm, hw⟩
    · have HR := Lib.hid (L2 (by omega))
      have hdec : decide (A.length < B.length) = false := by simpa using hlt
      clear L1 L2 L3 L3' L4 hlen
      go_wp2
      go_ret
      exact ⟨ret_int HR.out.symm, hw⟩

theorem Ow.put {w : World} {base : Nat} {p : Option Addr} {n c k : Nat} {xs : List Nat} (h : Ow w base p n c xs) (_hk : k < n) :
    ∃ g, p = some ⟨g, 0, none⟩ ∧ base ≤ g ∧ w.cell? ⟨g, k, none⟩ = some (dv (gd xs k)) ∧ w.frozen? ⟨g, k, none⟩ = false ∧ ∀ v, v < 4294967296 → Ow (w.setCell ⟨g, k, none⟩ (dv v)) base p n c (xs.set k v) := by
  have hs := h.sl
  have hl := hs.len
  obtain ⟨g, L, rfl, h1, hb, hL, ht⟩ := h.own.resolve_left (by intro e; subst e; simp at hl; omega)
  have hc := ht.2 k (by omega)
  rw [Nat.zero_add] at hc
  refine ⟨g, rfl, h1, hb.cell hc, hb.free k, fun v hv => ?_⟩
  have hb' := hb.set k (dv v)
  have ht' : Sg (L.set k (dv v)) 0 (xs.set k v) := by
    refine ⟨by have := ht.1; simpa using this, fun j hj => ?_⟩
    rw [List.length_set] at hj
    rw [Nat.zero_add, List.getElem?_set]
    by_cases e : k = j
    · subst e
      rw [if_pos rfl, if_pos (by have := ht.1; omega), gd_set_eq hj]
    · rw [if_neg e, gd_set_ne e]
      have := ht.2 j hj
      rwa [Nat.zero_add] at this
  exact ⟨⟨by rw [List.length_set]; exact hl, hs.le, hs.cap, hs.nil, ht'.rd hb', hs.dig.set hv k⟩, Or.inr ⟨g, _, rfl, h1, hb', by rw [List.length_set]; exact hL, ht'⟩⟩

theorem put_mid {xs Z : List Nat} {k d : Nat} (hZ : Z.length = k) (hk : k < xs.length) : (Z ++ xs.drop k).set k d = (Z ++ [d]) ++ xs.drop (k + 1) := by
  rw [List.set_append_right _ _ (by omega), hZ, Nat.sub_self, List.drop_eq_getElem_cons hk, List.set_cons_zero, List.append_assoc, List.singleton_append]

set_option maxRecDepth 100000 in
set_option maxHeartbeats 4000000 in
theorem rsub_any (p q : Option Addr) (n c m d : Nat) (xs ys : List Nat) (w : World) (h1 : Sl w p n c xs) (h2 : Sl w q m d ys) (hn : n ≤ 1099511627776) (hm : m ≤ 1099511627776) :
    Calls Tryz.prog 169 #[.slice p n c, .slice q m d] w (RetOwn w (dg (val xs - val ys))) := by
  by_cases hlt : val xs < val ys
  · have e0 : val xs - val ys = 0 := by omega
    have hcl := Lib.hid (cmpN_lt hlt)
    rw [e0, dg_zero]
    clear e0 hlt
    go_enter Tryz.func169, Tryz.ntmps169
    go_wp2_with fail
    refine (rcompare_any _ _ _ _ _ _ _ _ _ h1 h2 hn hm).mono ?_
    rw [hcl.out]
    rintro e w1 ⟨rfl, hf1⟩
    go_wp2_with fail
    go_ret
    exact ⟨none, 0, rfl, Ow.zero _ _, hf1⟩
  · have hge : (0 : Int) ≤ cmpN (val xs) (val ys) := by unfold cmpN; rw [if_neg hlt]; split <;> decide
    have l1 := dg_len_val h1.dig
    have l2 := dg_len_val h2.dig
    rw [h1.len] at l1
    rw [h2.len] at l2
    have hmono := dg_len_mono (show val ys ≤ val xs by omega)
    have HE : Hid (∀ Z : List Nat, Dg Z → ∀ C, Z.length = (dg (val xs)).length → val Z + val ((dg (val ys)).take (dg (val xs)).length) = val ((dg (val xs)).take (dg (val xs)).length) + pB (dg (val xs)).length * C → val Z = val xs - val ys) := by
      intro Z hZ C hl he
      rw [List.take_of_length_le hmono, List.take_length, val_dg, val_dg] at he
      have hz := val_lt hZ
      rw [hl] at hz
      have hC0 : C = 0 := by
        apply Nat.eq_zero_of_not_pos
        intro hp
        have h4 : pB (dg (val xs)).length * 1 ≤ pB (dg (val xs)).length * C := Nat.mul_le_mul_left _ hp
        omega
      rw [hC0] at he
      omega
    go_enter Tryz.func169, Tryz.ntmps169
    go_wp2_with fail
    refine (rcompare_any _ _ _ _ _ _ _ _ _ h1 h2 hn hm).mono ?_
    rintro e w1 ⟨rfl, hf1⟩
    replace h1 := h1.kept hf1
    replace h2 := h2.kept hf1
    have hz0 : decide (cmpN (val xs) (val ys) < 0) = false := by simp; omega
    generalize cmpN (val xs) (val ys) = zc at *
    go_wp2_with fail
    refine (rcut_any _ _ _ _ _ h2 hm).mono ?_
    rintro e w2 ⟨p2, c2, rfl, o2, f2⟩
    replace h1 := h1.kept f2
    have s2 := o2.sl
    have hw := hf1.trans f2 (by simp)
    clear h2 o2 hf1 f2
    go_wp2_with fail
    refine (rcut_any _ _ _ _ _ h1 hn).mono ?_
    rintro e w3 ⟨p1, c1, rfl, o1, f1⟩
    have hdA := Dg_dg (val xs)
    have hdB := Dg_dg (val ys)
    clear h1 hlt hge
    generalize dg (val xs) = A at *
    generalize dg (val ys) = B at *
    go_wp2
    go_loopw [6, 7] (fun s t wr => ∃ (k C : Nat) (Z : List Nat), k ≤ A.length ∧ s = .int .u64 C ∧ t = .int .i64 k ∧ C ≤ 1 ∧ Z.length = k ∧ Dg Z ∧ val Z + val (B.take k) = val (A.take k) + pB k * C ∧ Ow wr w2.heap.size p1 A.length c1 (Z ++ A.drop k) ∧ Fr [] w2 wr) (fun _ t _ => A.length - (intOf t).toNat)
    case atStart => exact ⟨0, 0, [], Nat.zero_le _, rfl, rfl, by omega, rfl, Dg.nil, rfl, o1, f1⟩
    case round =>
      obtain ⟨k, C, Z, hk, rfl, rfl, hC, hZ, hZd, hv, hO, hf⟩ := hrel
      have HZ := Lib.hid hZ
      have Hv := Lib.hid hv
      clear hZ hv o1 f1
      by_cases hlk : k < A.length
      · obtain ⟨g, rfl, hg, c1', c3, hset⟩ := hO.put hlk
        have hgx : gd (Z ++ A.drop k) k = gd A k := by rw [gd_append_right (by rw [HZ.out]; exact Nat.le_refl _), gd_drop, HZ.out, Nat.sub_self, Nat.add_zero]
        rw [hgx] at c1'
        have HS : Hid (∀ (I : Int) (v : Nat), I = v → v < 4294967296 → Ow (wr.setCell ⟨g, k, none⟩ (.int .u32 I)) w2.heap.size (some ⟨g, 0, none⟩) A.length c1 ((Z ++ [v]) ++ A.drop (k + 1))) := fun I v hI hv => by
          have := hset v hv
          rw [hI]
          rwa [put_mid HZ.out hlk] at this
        have d1 := hdA.at k
        have d2 := hdB.at k
        have HT : Hid (∀ D C', D + gd B k + C = gd A k + 4294967296 * C' → val (Z ++ [D]) + val (B.take (k + 1)) = val (A.take (k + 1)) + pB (k + 1) * C') := fun D C' => sub_step HZ.out Hv.out
        clear hgx hset hO
        by_cases hkb : k < B.length
        · obtain ⟨b2, o2, rfl, _, m2⟩ := (s2.kept hf).rd.open (by omega)
          have c2' := m2 k hkb
          clear m2
          generalize gd A k = x at *
          generalize gd B k = y at *
          by_cases hxy : x < y + C
          · have hdc : decide ((x : Int) < ((C : Int) + y)) = true := by simp; omega
            have HV2 := Lib.hid (HT.out (x + 4294967296 - (y + C)) 1 (by omega))
            have HXY := Lib.hid hxy
            clear HT hxy
            go_wp2
            go_roundw
            case rel =>
              have hxy := HXY.out
              exact ⟨k + 1, 1, Z ++ [x + 4294967296 - (y + C)], by omega, rfl, by go_num, by omega, by simp [HZ.out], hZd.append (Dg.one (by omega)), HV2.out, HS.out _ _ (by first | omega | (rw [IntKind.wrap_u64]; omega)) (by omega), hf.setCell _ _ (by simp; omega)⟩
            case measure => simp [intOf]; omega
          · have hdc : decide ((x : Int) < ((C : Int) + y)) = false := by simp; omega
            have HV2 := Lib.hid (HT.out (x - (y + C)) 0 (by omega))
            have HXY := Lib.hid hxy
            clear HT hxy
            go_wp2
            go_roundw
            case rel =>
              have hxy := HXY.out
              exact ⟨k + 1, 0, Z ++ [x - (y + C)], by omega, rfl, by go_num, by omega, by simp [HZ.out], hZd.append (Dg.one (by omega)), HV2.out, HS.out _ _ (by first | omega | (rw [IntKind.wrap_u64]; omega)) (by omega), hf.setCell _ _ (by simp; omega)⟩
            case measure => simp [intOf]; omega
        · have hy0 : gd B k = 0 := gd_ge (by omega)
          rw [hy0] at HT
          clear hy0 d2
          generalize gd A k = x at *
          by_cases hxy : x < C
          · have hdc : decide ((x : Int) < (C : Int)) = true := by simp; omega
            have hdc2 : decide (x < C) = true := by simp; omega
            have HV2 := Lib.hid (HT.out (x + 4294967296 - (0 + C)) 1 (by omega))
            have HXY := Lib.hid hxy
            clear HT hxy
            go_wp2
            go_roundw
            case rel =>
              have hxy := HXY.out
              exact ⟨k + 1, 1, Z ++ [x + 4294967296 - (0 + C)], by omega, rfl, by go_num, by omega, by simp [HZ.out], hZd.append (Dg.one (by omega)), HV2.out, HS.out _ _ (by first | omega | (rw [IntKind.wrap_u64]; omega)) (by omega), hf.setCell _ _ (by simp; omega)⟩
            case measure => simp [intOf]; omega
          · have hdc : decide ((x : Int) < (C : Int)) = false := by simp; omega
            have hdc2 : decide (x < C) = false := by simp; omega
            have HV2 := Lib.hid (HT.out (x - (0 + C)) 0 (by omega))
            have HXY := Lib.hid hxy
            clear HT hxy
            go_wp2
            go_roundw
            case rel =>
              have hxy := HXY.out
              exact ⟨k + 1, 0, Z ++ [x - (0 + C)], by omega, rfl, by go_num, by omega, by simp [HZ.out], hZd.append (Dg.one (by omega)), HV2.out, HS.out _ _ (by first | omega | (rw [IntKind.wrap_u64]; omega)) (by omega), hf.setCell _ _ (by simp; omega)⟩
            case measure => simp [intOf]; omega
      · obtain rfl : k = A.length := by omega
        have hval : val Z = val xs - val ys := HE.out Z hZd C HZ.out Hv.out
        rw [List.drop_of_length_le (Nat.le_refl _), List.append_nil] at hO
        have HVZ := Lib.hid hval
        clear hval
        go_wp2_with fail
        refine (rcut_any _ _ _ _ _ hO.sl (by omega)).mono ?_
        rw [HVZ.out]
        rintro e w4 ⟨p4, c4, rfl, o4, f4⟩
        go_wp2_with fail
        go_ret
        have hs1 := hw.size
        have hs2 := hf.size
        exact ⟨p4, c4, rfl, o4.mono (by omega), (hw.trans hf (by simp)).trans f4 (by simp)⟩

end Go.Proofs.YtagciepnhjbopaaGreatDoor

namespace Go.Proofs.YtagciepnhjbopaaGreatDoor
open Go.RowKit

theorem bl_half {x : Nat} (_h : x ≠ 0) : bl x = bl (x / 2) + 1 := by
  by_cases h1 : x = 1
  · rw [h1]; decide
  · have h2 : 2 ^ 1 ≤ x := by simp; omega
    have := bl_shift h2
    simpa using this

theorem bl_top {v : Nat} (h : v ≠ 0) : bl v = bl (gd (dg v) ((dg v).length - 1)) + 32 * ((dg v).length - 1) := by
  have h1 := dg_ge h
  have hl : (dg v).length ≠ 0 := fun e => h (dg_nil.1 (List.eq_nil_of_length_eq_zero e))
  rw [pB_two] at h1
  have h2 := val_drop_div (Dg_dg v) ((dg v).length - 1)
  rw [val_dg, pB_two, drop_cons_gd (by omega), List.drop_of_length_le (by omega), val_one] at h2
  rw [bl_shift h1, h2]

set_option maxRecDepth 100000 in
set_option maxHeartbeats 1000000 in
theorem rbitlen_any (p : Option Addr) (n c : Nat) (xs : List Nat) (w : World) (h : Sl w p n c xs) (hn : n ≤ 1099511627776) :
    Calls Tryz.prog 203 #[.slice p n c] w fun e w' => e = .returned (.int .i64 (bl (val xs) : Nat)) ∧ Fr [] w w' := by
  have l1 := dg_len_val h.dig
  rw [h.len] at l1
  go_enter Tryz.func203, Tryz.ntmps203
  go_wp2_with fail
  refine (rcut_any _ _ _ _ _ h hn).mono ?_
  rintro e w1 ⟨p1, c1, rfl, o1, f1⟩
  have s1 := o1.sl
  clear h o1
  by_cases h0 : val xs = 0
  · have e1 : (dg (val xs)).length = 0 := by rw [h0, dg_zero]; rfl
    have e2 : bl (val xs) = 0 := by rw [h0]; rfl
    have E2 := Lib.hid e2
    rw [e1]
    clear e1 e2 h0 s1
    go_wp2
    go_ret
    rw [E2.out]
    exact ⟨rfl, f1⟩
  · have hlz : (dg (val xs)).length ≠ 0 := fun e => h0 (dg_nil.1 (List.eq_nil_of_length_eq_zero e))
    obtain ⟨L, hL⟩ : ∃ L, (dg (val xs)).length = L + 1 := ⟨(dg (val xs)).length - 1, by omega⟩
    have hb := bl_top h0
    rw [hL, Nat.add_sub_cancel] at hb
    obtain ⟨b, off, rfl, _, hcell⟩ := s1.rd.open (by omega)
    have hck := hcell L (by omega)
    have hd := s1.dig.at L
    rw [hL]
    generalize gd (dg (val xs)) L = top at *
    have HB := Lib.hid hb
    have hbd : L < 1099511627776 := by omega
    clear hcell hb hL s1 h0 hlz l1
    go_wp2
    go_loop [3, 4] (fun s t => ∃ x j : Nat, s = .int .i64 ((32 * L + j : Nat) : Int) ∧ t = .int .u32 x ∧ bl top = bl x + j ∧ x < 4294967296) (fun _ t => (intOf t).toNat)
    case atStart => exact ⟨top, 0, rfl, rfl, rfl, hd⟩
    case round =>
      obtain ⟨x, j, rfl, rfl, hbl, hx⟩ := hrel
      have hj := bl_le (x := top) (n := 32) (by omega)
      have HBl := Lib.hid hbl
      have hj2 : j ≤ 32 := by omega
      clear hbl
      by_cases hz : x = 0
      · have hfin : bl (val xs) = 32 * L + j := by
          have h1 := HBl.out
          have h2 := HB.out
          rw [hz] at h1
          have h3 : bl 0 = 0 := rfl
          omega
        have HF := Lib.hid hfin
        subst hz
        clear hfin
        go_wp2
        go_ret
        rw [HF.out]
        exact ⟨rfl, f1⟩
      · have hpos : 0 < x := by omega
        have hN : Hid (bl top = bl (x / 2) + (j + 1)) := by
          show _ = _
          rw [HBl.out, bl_half hz]
          omega
        clear hz
        go_wp2
        go_round
        case rel => exact ⟨x / 2, j + 1, congrArg (Value.int .i64) (by omega), congrArg (Value.int .u32) (by omega), hN.out, by omega⟩
        case measure => simp [intOf]; omega

end Go.Proofs.YtagciepnhjbopaaGreatDoor
