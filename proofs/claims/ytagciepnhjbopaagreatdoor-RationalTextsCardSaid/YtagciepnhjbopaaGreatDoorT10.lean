/- What the statements of this claim stand on: of DecNum, Fmt, Awake, Ref1, Ref2, what they name -/
import Derived.Deep.LoopGhost
import Derived.Test.YtagciepnhjbopaaGreatDoorT04
import Derived.Test.YtagciepnhjbopaaGreatDoorT08
import Derived.Test.YtagciepnhjbopaaGreatDoorT09

namespace Go.Proofs.YtagciepnhjbopaaGreatDoor
def dvB : List Nat → Nat
  | [] => 0
  | d :: S => d * 10 ^ S.length + dvB S

def Dd (S : List Nat) : Prop := ∀ d, d ∈ S → d < 10

theorem Dd.nil : Dd [] := by intro x h; cases h

theorem Dd.cons {x : Nat} {xs : List Nat} (h : x < 10) (t : Dd xs) : Dd (x :: xs) := by
  intro y hy
  rcases List.mem_cons.1 hy with rfl | hy
  · exact h
  · exact t _ hy

theorem Dd.head {x : Nat} {xs : List Nat} (h : Dd (x :: xs)) : x < 10 := h x (List.mem_cons_self ..)

theorem dvB_snoc (S : List Nat) (d : Nat) : dvB (S ++ [d]) = 10 * dvB S + d := by
  induction S with
  | nil => simp [dvB]
  | cons x S ih =>
    simp only [List.cons_append, dvB, ih, List.length_append, List.length_cons, List.length_nil, Nat.pow_succ]
    grind

def dB (n : Nat) : List Nat := if n = 0 then [] else dB (n / 10) ++ [n % 10]
termination_by n
decreasing_by omega

theorem dB_zero : dB 0 = [] := by unfold dB; rfl

theorem dB_pos {n : Nat} (h : n ≠ 0) : dB n = dB (n / 10) ++ [n % 10] := by rw [dB]; simp [h]

theorem dB_dd (n : Nat) : Dd (dB n) := by
  induction n using Nat.strongRecOn with
  | ind n ih =>
    by_cases h : n = 0
    · subst h; rw [dB_zero]; exact Dd.nil
    · rw [dB_pos h]
      intro y hy
      rcases List.mem_append.1 hy with hy | hy
      · exact ih _ (by omega) y hy
      · simp at hy; omega

theorem dvB_dB (n : Nat) : dvB (dB n) = n := by
  induction n using Nat.strongRecOn with
  | ind n ih =>
    by_cases h : n = 0
    · subst h; rw [dB_zero]; rfl
    · rw [dB_pos h, dvB_snoc, ih _ (by omega)]; omega

theorem dB_step {m d : Nat} (_hd : d < 10) (h : 10 * m + d ≠ 0) : dB (10 * m + d) = dB m ++ [d] := by
  rw [dB_pos h, show (10 * m + d) / 10 = m by omega, show (10 * m + d) % 10 = d by omega]

theorem dvB_pos {x : Nat} {S : List Nat} (_h : x ≠ 0) : dvB (x :: S) ≠ 0 := by
  rw [dvB]
  have : 1 * 1 ≤ x * 10 ^ S.length := Nat.mul_le_mul (by omega) (Nat.pow_pos (by decide))
  omega

theorem dB_of (S : List Nat) : Dd S → (∀ x T, S = x :: T → x ≠ 0) → dB (dvB S) = S := by
  induction hn : S.length using Nat.strongRecOn generalizing S with
  | ind n ih =>
    intro hd hh
    rcases List.eq_nil_or_concat S with rfl | ⟨T, b, rfl⟩
    · rw [dvB, dB_zero]
    · rw [List.concat_eq_append] at *
      have hT : Dd T := fun y hy => hd y (List.mem_append_left _ hy)
      have hb : b < 10 := hd b (List.mem_append_right _ (by simp))
      have hne : dvB (T ++ [b]) ≠ 0 := by
        cases T with
        | nil => exact dvB_pos (hh b [] rfl)
        | cons x T => exact dvB_pos (hh x _ rfl)
      rw [dvB_snoc] at hne ⊢
      rw [dB_step hb hne, ih T.length (by simp at hn; omega) T rfl hT]
      intro x U e
      subst e
      exact hh x (U ++ [b]) rfl

theorem dB_len_pow (n : Nat) : n ≠ 0 → 10 ^ ((dB n).length - 1) ≤ n := by
  induction n using Nat.strongRecOn with
  | ind n ih =>
    intro h
    rw [dB_pos h, List.length_append, List.length_singleton, Nat.add_sub_cancel]
    by_cases h0 : n / 10 = 0
    · rw [h0, dB_zero]
      simp
      omega
    · have h1 := ih (n / 10) (by omega) h0
      have h2 : (dB (n / 10)).length ≠ 0 := by
        rw [dB_pos h0]
        simp
      have h3 : (dB (n / 10)).length = ((dB (n / 10)).length - 1) + 1 := by omega
      rw [h3, Nat.pow_succ]
      omega

theorem dvB_zero_cons (S : List Nat) : dvB (0 :: S) = dvB S := by simp [dvB]

def fmt (n : Nat) : List Nat := if n = 0 then [0] else dB n

theorem dec_len {s v L : Nat} (_h : 10 ^ s ≤ v) (_hv : v < pB L) : s ≤ 10 * L := by
  apply Nat.le_of_not_lt
  intro hh
  have h1 : (10 : Nat) ^ (10 * L) ≤ 10 ^ s := Nat.pow_le_pow_right (by decide) (by omega)
  have h2 : pB L ≤ 10 ^ (10 * L) := by
    unfold pB
    rw [Nat.pow_mul]
    exact Nat.pow_le_pow_left (by decide) L
  omega

theorem dec_step {V R i G l D : Nat} (h : V = (R * 10 ^ (i + 1) + G) * 10 ^ l + D) : V = (R * 10 ^ i + G / 10) * 10 ^ (l + 1) + (G % 10 * 10 ^ l + D) := by
  have hg := Nat.div_add_mod G 10
  rw [h, Nat.pow_succ 10 i, Nat.pow_succ 10 l]
  generalize G / 10 = a at *
  generalize G % 10 = b at *
  subst hg
  grind

theorem dec_group {V v l D : Nat} (h : V = v * 10 ^ l + D) : V = (v / 1000000000 * 10 ^ 9 + v % 1000000000) * 10 ^ l + D := by
  have hg := Nat.div_add_mod v 1000000000
  rw [h, show (10 : Nat) ^ 9 = 1000000000 from rfl, Nat.mul_comm (v / 1000000000), hg]

end Go.Proofs.YtagciepnhjbopaaGreatDoor

namespace Go.Proofs.YtagciepnhjbopaaGreatDoor
open Go.RowKit

abbrev bv (x : Nat) : Value := .int .u8 (x : Int)

def Blk8 (w : World) (g : Nat) (L : List Value) : Prop := w.heap[g]? = some (.cells L.toArray 5 (0, 0))

theorem Blk8.lt {w : World} {g : Nat} {L : List Value} (h : Blk8 w g L) : g < w.heap.size := (Array.getElem?_eq_some_iff.1 h).1

theorem Blk8.cell {w : World} {g : Nat} {L : List Value} (h : Blk8 w g L) {j : Nat} {v : Value} (hj : L[j]? = some v) : w.cell? ⟨g, j, none⟩ = some v := by
  rw [cell_of_row w g j _ _ _ h]
  simpa using hj

theorem Blk8.free {w : World} {g : Nat} {L : List Value} (h : Blk8 w g L) (j : Nat) : w.frozen? ⟨g, j, none⟩ = false := by
  have h' : w.heap[g]? = some (.cells L.toArray 5 (0, 0)) := h
  simp [World.frozen?, h']

theorem Blk8.set {w : World} {g : Nat} {L : List Value} (h : Blk8 w g L) (j : Nat) (v : Value) : Blk8 (w.setCell ⟨g, j, none⟩ v) g (L.set j v) := by
  have h' : w.heap[g]? = some (.cells L.toArray 5 (0, 0)) := h
  unfold Blk8
  simp [World.setCell, Array.getElem?_modify, h']

theorem Blk8.keep {S : List Nat} {w w' : World} {g : Nat} {L : List Value} (h : Blk8 w g L) (f : Fr S w w') (hs : g ∉ S) : Blk8 w' g L :=
  (f.block g h.lt hs).trans h

theorem Tryz.infoB : (Tryz.prog.info? 5).map (fun i => (i.zero, i.size, i.bytes)) = some (some (.int .u8 0), 1, 1) := by kernel_rfl

def Fd (w : World) (g T : Nat) (S : List Nat) : Prop := S.length ≤ T ∧ Blk8 w g (List.replicate (T - S.length) (bv 0) ++ S.map fun d => bv (48 + d))

theorem Fd.lt {w : World} {g T : Nat} {S : List Nat} (h : Fd w g T S) : g < w.heap.size := h.2.lt

theorem Fd.free {w : World} {g T : Nat} {S : List Nat} (h : Fd w g T S) (j : Nat) : w.frozen? ⟨g, j, none⟩ = false := h.2.free j

theorem Fd.keep {X : List Nat} {w w' : World} {g T : Nat} {S : List Nat} (h : Fd w g T S) (f : Fr X w w') (hs : g ∉ X) : Fd w' g T S := ⟨h.1, h.2.keep f hs⟩

theorem Fd.zero {w : World} {g T : Nat} {S : List Nat} (h : Fd w g T S) {k : Nat} (_hk : k + 1 + S.length = T) : w.cell? ⟨g, k, none⟩ = some (bv 0) := by
  refine h.2.cell ?_
  rw [List.getElem?_append_left (by rw [List.length_replicate]; omega), List.getElem?_replicate, if_pos (by omega)]

theorem Fd.digit {w : World} {g T : Nat} {S : List Nat} (h : Fd w g T S) {j : Nat} (hj : j < S.length) : w.cell? ⟨g, T - S.length + j, none⟩ = some (bv (48 + gd S j)) := by
  refine h.2.cell ?_
  rw [List.getElem?_append_right (by simp)]
  simp [hj, gd_lt hj]

theorem Fd.set {w : World} {g T : Nat} {S : List Nat} (h : Fd w g T S) {k : Nat} (_hk : k + 1 + S.length = T) (d : Nat) : Fd (w.setCell ⟨g, k, none⟩ (bv (48 + d))) g T (d :: S) := by
  refine ⟨by simp; omega, ?_⟩
  have h1 := h.2.set k (bv (48 + d))
  have e : T - S.length = k + 1 := by omega
  have e2 : T - (d :: S).length = k := by simp; omega
  rw [e, List.replicate_succ', List.append_assoc, List.set_append_right _ _ (by simp)] at h1
  rw [e2]
  simpa using h1

theorem wpList_mk8 {w : World} {ops : Array Oper} {rest : List Oper} {o : Oper} {a : Act} {Q : Exit → Act → World → Prop}
    (hg : o.guard = none) (x y : Operand) (hop : o.op = Op.makeSlice 141 x y)
    (kl kc : IntKind) (L C : Int) (c : Nat) (hl : a.eval x = .int kl L) (hc : a.eval y = .int kc C) (hL : L = (c : Int)) (hC : C = (c : Int)) (_h63 : c ≤ 70368744177664)
    (hK : ∀ w' : World, Fd w' w.heap.size c [] → Fr [] w w' → w'.heap.size = w.heap.size + 1 → wpList Tryz.prog ops Q rest (a.put o.dst (.slice (some ⟨w.heap.size, 0, none⟩) c c)) w') :
    wpList Tryz.prog ops Q (o :: rest) a w := by
  obtain ⟨i0, hi, hz0, hz1, hz2⟩ := info_parts Tryz.infoB
  refine wpList_plain hg fun K hK' => ?_
  have hrun := run_make (P := Tryz.prog) w 141 5 i0 (.int .u8 0) Tryz.underlying141 hi hz0 kl kc L C (by omega) (by omega) (by rw [hz2]; omega) (by omega)
  have e : madeCells (Value.int .u8 0).cells (C.toNat * i0.size) = (List.replicate c (bv 0)).toArray := by
    rw [hz1, Nat.mul_one, hC, Int.toNat_natCast]
    apply Array.ext
    · simp [madeCells]
    · intro i h1 h2
      simp [madeCells, Nat.mod_one, Value.cells]
  rw [e, hL, hC, Int.toNat_natCast] at hrun
  subst hL
  subst hC
  unfold Oper.wp
  simp only [execOp, hop, hl, hc, hrun, Result.andThen, Sem.run_bind, Sem.run_pure]
  refine hK' _ _ (hK _ ⟨Nat.zero_le _, ?_⟩ ((Fr.refl _ _).alloc _) (by simp))
  have : List.replicate (c - ([] : List Nat).length) (bv 0) ++ ([] : List Nat).map (fun d => bv (48 + d)) = List.replicate c (bv 0) := by simp
  rw [this]
  exact heap_alloc_new w _

theorem Ow.keep2 {S : List Nat} {w w' : World} {base : Nat} {p : Option Addr} {n c : Nat} {xs : List Nat} (h : Ow w base p n c xs) (f : Fr S w w') (hs : ∀ x, x ∈ pbn p n → x ∉ S) : Ow w' base p n c xs := by
  have h0 := h.sl
  by_cases hx : xs = []
  · subst hx
    exact ⟨⟨h0.len, h0.le, h0.cap, h0.nil, Or.inl rfl, h0.dig⟩, Or.inl rfl⟩
  · obtain ⟨g, L, rfl, h1, hb, hl, ht⟩ := h.own.resolve_left hx
    have hn : n ≠ 0 := fun e => hx (List.eq_nil_of_length_eq_zero (h0.len.trans e))
    have hb' := hb.keep f (hs g (by unfold pbn; rw [if_neg hn]; simp))
    exact ⟨⟨h0.len, h0.le, h0.cap, h0.nil, ht.rd hb', h0.dig⟩, Or.inr ⟨g, L, rfl, h1, hb', hl, ht⟩⟩

def txt (S : List Nat) : ByteArray := ⟨(S.map fun d => UInt8.ofNat (48 + d)).toArray⟩

theorem add_plain (g o j : Nat) : (⟨g, o, none⟩ : Addr).add j = ⟨g, o + j, none⟩ := by
  unfold Addr.add
  split
  · subst_vars; rfl
  · rfl

theorem Fd.string {w : World} {g T n c at' : Nat} {S Z S' : List Nat} (hF : Fd w g T S) (hS : S = Z ++ S') (hd : Dd S') (_hat : at' + S'.length = T) (hn : n = S'.length) :
    (convert 141 9 (.slice (some ⟨g, at', none⟩) n c)).run Tryz.prog w = .ok (.string (txt S')) w := by
  have hl : (S'.map fun d => UInt8.ofNat (48 + d)).length = S'.length := List.length_map _
  have h := run_convert_bytes_back (P := Tryz.prog) w 141 9 5 ⟨g, at', none⟩ c (S'.map fun d => UInt8.ofNat (48 + d)) Tryz.underlying141 Tryz.underlying5 Tryz.underlying9 (by
    intro j hj
    have hj' : j < S'.length := by rw [← hl]; exact hj
    have hSl : S.length = Z.length + S'.length := by rw [hS, List.length_append]
    have h1 := hF.digit (j := Z.length + j) (by omega)
    have h2 : T - S.length + (Z.length + j) = at' + j := by have := hF.1; omega
    have h3 : gd S (Z.length + j) = S'[j] := by
      rw [hS, gd_append_right (by omega), Nat.add_sub_cancel_left, gd_lt hj']
    have h6 : S'[j] < 10 := hd _ (List.getElem_mem _)
    rw [h2, h3] at h1
    rw [add_plain, h1, List.getElem_map]
    have h7 : (UInt8.ofNat (48 + S'[j])).toNat = 48 + S'[j] := UInt8.toNat_ofNat_of_lt' (by show _ < 256; omega)
    rw [h7])
  rw [hl] at h
  rw [hn]
  exact h

set_option maxRecDepth 100000 in
set_option maxHeartbeats 4000000 in
theorem format_any (p : Option Addr) (n c : Nat) (xs : List Nat) (w : World) (h : Sl w p n c xs) (_hn : n ≤ 1048576) :
    Calls Tryz.prog 183 #[.slice p n c] w fun e w' => e = .returned (.string (txt (fmt (val xs)))) ∧ Fr [] w w' := by
  have hlt := val_lt h.dig
  rw [h.len] at hlt
  go_enter Tryz.func183, Tryz.ntmps183
  go_wp2_with fail
  refine (clone_any _ _ _ _ _ h (by omega)).mono ?_
  rintro e w1 ⟨p1, c1, rfl, ho1, hf1⟩
  have hl1 := h.len
  rw [hl1] at ho1
  rw [hl1]
  go_wp2_with fail
  refine (cut_any _ _ _ _ _ ho1.sl).mono ?_
  rintro e w2 ⟨rfl, rfl⟩
  have ho2 := ho1.cut
  have hLn := dg_len_val h.dig
  rw [h.len] at hLn
  have hltL := dg_lt (val xs)
  obtain ⟨L, hL⟩ : ∃ L, L = (dg (val xs)).length := ⟨_, rfl⟩
  rw [← hL] at hltL hLn
  have HL := Lib.hid hL
  clear ho1 h hl1 hL hlt
  have hLL := HL.out
  go_wp2_with (at_make; refine wpList_mk8 rfl _ _ rfl _ _ _ _ (10 * L + 9) rfl rfl (by omega) (by omega) (by omega) ?_)
  intro w3 hfd hf3 hsz3
  have ho3 := ho2.kept hf3
  have hpg : ∀ m, val xs ≠ 0 → w1.heap.size ∉ pbn p1 m := by
    intro m h0
    rcases ho2.own with h1 | ⟨g', L', h1, _, hb, _⟩
    · exact absurd (dg_nil.1 h1) h0
    · subst h1
      have := hb.lt
      unfold pbn
      split
      · simp
      · simp; omega
  have hfw3 : Fr [] w w3 := hf1.trans hf3 (by simp)
  clear ho2 hLL
  have hTL : Hid (10 * (dg (val xs)).length + 9 = 10 * L + 9) := by show _ = _; rw [HL.out]
  have hTb : 10 * (dg (val xs)).length + 9 ≤ 10 * n + 9 := by rw [hTL.out]; omega
  generalize hT : 10 * (dg (val xs)).length + 9 = T at *
  have hg1 : w.heap.size ≤ w1.heap.size := hf1.size
  generalize hg : w1.heap.size = g at *
  clear hT hg
  have HRoom : Hid (∀ s R, R ≠ 0 → val xs = R * 10 ^ s + 0 * s + (val xs - R * 10 ^ s) → R * 10 ^ s ≤ val xs → s + 9 ≤ T) := by
    intro s R hR _ hle
    have h1 : 1 * 10 ^ s ≤ R * 10 ^ s := Nat.mul_le_mul_right _ (by omega)
    have h2 := dec_len (s := s) (v := val xs) (L := L) (by omega) hltL
    rw [hTL.out]
    omega
  go_wp2
  go_loopg [3, 5] (val xs) (fun k s t wr => ∃ (S : List Nat), s = .slice p1 (dg k).length c1 ∧ t = .int .i64 ((T - S.length : Nat) : Int) ∧ Ow wr w.heap.size p1 (dg k).length c1 (dg k) ∧ Dd S ∧ val xs = k * 10 ^ S.length + dvB S ∧ Fd wr g T S ∧ Fr [] w wr)
  case atStart => exact ⟨[], rfl, rfl, ho3, Dd.nil, by simp [dvB], hfd, hfw3⟩
  case round =>
    obtain ⟨S, rfl, rfl, ho, hS, hv, hF, hf⟩ := hrel
    have Hv := Lib.hid hv
    clear ho3 hfd hfw3 hsz3 hf3 hv
    by_cases hk : gk = 0
    · subst hk
      have hz : (dg 0).length = 0 := by rw [dg_zero]; rfl
      rw [hz]
      have hv0 : dvB S = val xs := by have := Hv.out; rw [Nat.zero_mul, Nat.zero_add] at this; exact this.symm
      have Hv0 := Lib.hid hv0
      have hST := hF.1
      clear hv0 ho hz
      go_wp2
      go_loop [5] (fun s => ∃ Z S' : List Nat, S = Z ++ S' ∧ s = .int .i64 ((T - S'.length : Nat) : Int) ∧ dvB S' = val xs ∧ S'.length ≤ T) (fun s => (T - intOf s).toNat)
      case atStart => exact ⟨[], S, rfl, rfl, Hv0.out, hST⟩
      case round =>
        obtain ⟨Z, S', hZS, rfl, hdv, hSl⟩ := hrel
        have HZS := Lib.hid hZS
        have Hdv := Lib.hid hdv
        have hSd : Dd S' := fun d hd => hS d (by rw [hZS]; exact List.mem_append_right _ hd)
        clear hZS hdv
        cases S' with
        | nil =>
          have hx0 : fmt (val xs) = [0] := by
            have := Hdv.out
            rw [dvB] at this
            unfold fmt
            rw [if_pos this.symm]
          have HX := Lib.hid hx0
          clear hx0
          have hT0 : T - ([] : List Nat).length = T := rfl
          rw [hT0]
          clear hT0
          go_wp2
          go_ret
          rw [HX.out]
          exact ⟨rfl, hf⟩
        | cons d S' =>
          have hSt : S.length = Z.length + (S'.length + 1) := by have := congrArg List.length HZS.out; simpa using this
          have hidx : T - S.length + Z.length = T - (d :: S').length := by rw [List.length_cons]; omega
          have hc := hF.digit (j := Z.length) (by omega)
          rw [hidx] at hc
          have hgd : gd S Z.length = d := by
            have : S = Z ++ d :: S' := HZS.out
            rw [this, gd_append_right (Nat.le_refl _), Nat.sub_self]
            rfl
          rw [hgd] at hc
          have hd10 := hSd.head
          obtain ⟨at', hat⟩ : ∃ a, a = T - (d :: S').length := ⟨_, rfl⟩
          rw [← hat] at hc ⊢
          have hat2 : at' + (S'.length + 1) = T := by rw [hat, List.length_cons]; rw [List.length_cons] at hSl; omega
          have HSt := Lib.hid hSt
          clear hSt hidx hgd hat
          by_cases hd0 : d = 0
          · subst hd0
            go_wp2
            go_round
            case rel => exact ⟨Z ++ [0], S', by rw [HZS.out]; simp, congrArg (Value.int .i64) (by omega), by have := Hdv.out; rwa [dvB_zero_cons] at this, by omega⟩
            case measure => simp [intOf]; omega
          · have hne : (((48 + d : Nat) : Int) == 48) = false := beq_eq_false_iff_ne.2 (by omega)
            have hne2 : ((48 + (d : Int)) == 48) = false := beq_eq_false_iff_ne.2 (by omega)
            have hfm : fmt (val xs) = d :: S' := by
              have h1 := Hdv.out
              have h2 := dvB_pos (x := d) (S := S') hd0
              unfold fmt
              rw [if_neg (by omega), ← h1]
              exact dB_of _ hSd (by intro x U e; cases e; exact hd0)
            have HF := Lib.hid hfm
            have hconv := hF.string (n := T - at') (c := T - at') (at' := at') HZS.out hSd (by rw [List.length_cons]; exact hat2) (by rw [List.length_cons]; omega)
            clear hfm hd0
            go_wp2
            go_ret
            rw [HF.out]
            exact ⟨rfl, hf⟩
    · have hlz : (dg gk).length ≠ 0 := fun e => hk (dg_nil.1 (List.eq_nil_of_length_eq_zero e))
      have hle1 : gk ≤ val xs := by
        have h1 : gk * 1 ≤ gk * 10 ^ S.length := Nat.mul_le_mul_left _ (Nat.pow_pos (by decide))
        have := Hv.out
        omega
      have hroom := HRoom.out S.length gk hk (by have := Hv.out; omega) (by have := Hv.out; omega)
      have hkl : (dg gk).length ≤ n := by
        have := dg_len_mono hle1
        rw [← HL.out] at this
        omega
      have hGl : gk % 1000000000 < 1000000000 := Nat.mod_lt _ (by decide)
      have HG := Lib.hid (dec_group Hv.out)
      have hpg' := hpg (dg gk).length (by omega)
      go_wp2_with fail
      refine (divd_any _ _ _ 1000000000 _ _ _ ho (by decide) (by decide) (by omega)).mono ?_
      rw [val_dg]
      rintro e w4 ⟨rfl, Q, hQl, hQv, hoQ, hf4⟩
      have hfw4 : Fr [] w w4 := ho.frame (Nat.le_refl _) hf hf4
      have hF4 := hF.keep hf4 hpg'
      have hkQ := hoQ.cut
      rw [hQv] at hkQ
      have HQv := Lib.hid hQv
      have hsl := hoQ.sl
      have hdec : gk / 1000000000 < gk := Nat.div_lt_self (by omega) (by decide)
      clear hQl hQv hF ho hf hf4 hoQ
      generalize hG : gk % 1000000000 = G at *
      clear hG
      go_wp2_with fail
      refine (cut_any _ _ _ _ _ hsl).mono ?_
      rintro e w5 ⟨rfl, rfl⟩
      rw [HQv.out]
      clear hsl
      generalize hR : gk / 1000000000 = R at *
      have HR := Lib.hid hR
      clear hR
      go_wp2
      go_loopw [5, 6, 24] (fun s t u wr => ∃ (i G' : Nat) (S' : List Nat), i ≤ 9 ∧ s = .int .i64 ((T - S'.length : Nat) : Int) ∧ t = .int .u32 G' ∧ u = .int .i64 ((9 - i : Nat) : Int) ∧ G' < 10 ^ i ∧ S'.length + i = S.length + 9 ∧ Dd S' ∧ val xs = (R * 10 ^ i + G') * 10 ^ S'.length + dvB S' ∧ Fd wr g T S' ∧ Fr [g] w4 wr) (fun _ _ u _ => (9 - intOf u).toNat)
      case atStart => exact ⟨9, G, S, Nat.le_refl _, rfl, rfl, rfl, hGl, rfl, hS, HG.out, hF4, Fr.refl _ _⟩
      case round =>
        obtain ⟨i, G', S', hi9, rfl, rfl, rfl, hG', hlen, hS', hv', hF', hf'⟩ := hrel
        have HGl := Lib.hid hG'
        have HV' := Lib.hid hv'
        have HLen := Lib.hid hlen
        clear hG' hv'
        cases i with
        | zero =>
          have hG0 : G' = 0 := by have := HGl.out; simp at this; exact this
          have hlen' : S'.length = S.length + 9 := by omega
          have hkQ' := hkQ.keep2 hf' (by
            intro x hx1 hx2
            rw [List.mem_singleton] at hx2
            subst hx2
            exact hpg _ (by omega) hx1)
          go_wp2
          go_roundg R
          case rel => exact ⟨S', rfl, rfl, hkQ', hS', by have := HV'.out; rw [hG0, Nat.pow_zero] at this; rw [this]; simp, hF', hfw4.trans hf' (by simp; omega)⟩
          case measure => exact hdec
        | succ i =>
          have hlS : T - S'.length = (T - S'.length - 1) + 1 := by omega
          obtain ⟨k, hkk⟩ : ∃ k, k = T - S'.length - 1 := ⟨_, rfl⟩
          have hk1 : k + 1 + S'.length = T := by omega
          have hc := hF'.zero hk1
          have hfr := hF'.free k
          have hset := Lib.hid (hF'.set hk1 (G' % 10))
          have hstep := Lib.hid (dec_step HV'.out)
          have hG2 : Hid (G' / 10 < 10 ^ i) := by
            show _ < _
            have := HGl.out
            rw [Nat.pow_succ] at this
            omega
          have hGb : G' < 4294967296 := by
            have := HGl.out
            have h9 : (10 : Nat) ^ (i + 1) ≤ 10 ^ 9 := Nat.pow_le_pow_right (by decide) hi9
            omega
          have hidx : ((T - S'.length : Nat) : Int) - 1 = (k : Int) := by omega
          have hidx2 : ((T - (S'.length + 1) : Nat) : Int) = (k : Int) := by omega
          have h9i : (9 - (i + 1) : Nat) < 9 := by omega
          have HLS := Lib.hid hlS
          clear hlS hkk hF'
          go_wp2
          go_roundw
          case rel =>
            have e1 : (G' : Int) / 10 = ((G' / 10 : Nat) : Int) := by omega
            have e2 : 48 + (G' : Int) % 10 = ((48 + G' % 10 : Nat) : Int) := by omega
            have e3 : ((8 - i : Nat) : Int) + 1 = ((9 - i : Nat) : Int) := by omega
            rw [e1, e2, e3]
            exact ⟨i, G' / 10, (G' % 10) :: S', by omega, by rw [List.length_cons, hidx2], rfl, rfl, hG2.out, by rw [List.length_cons]; omega, Dd.cons (by omega) hS', hstep.out, hset.out, hf'.setCell _ _ (by simp)⟩
          case measure => simp [intOf]; omega

end Go.Proofs.YtagciepnhjbopaaGreatDoor

namespace Go.Proofs.YtagciepnhjbopaaGreatDoor
open Go.RowKit

theorem made1 {w : World} {g x : Nat} {X : Int} (hX : X = (x : Int)) (hg : g = w.heap.size) (h : x < 4294967296) : Sl (w.alloc (.cells #[.int .u32 X] 52)) (some ⟨g, 0, none⟩) 1 1 [x] := by
  subst hX
  subst hg
  exact (Ow.made w (base := 0) [x] (Nat.zero_le _) (by simp) (Dg.one h)).sl

theorem made2 {w : World} {g x y : Nat} {X Y : Int} (hX : X = (x : Int)) (hY : Y = (y : Int)) (hg : g = w.heap.size) (h : x < 4294967296) (h2 : y < 4294967296) : Sl (w.alloc (.cells #[.int .u32 X, .int .u32 Y] 52)) (some ⟨g, 0, none⟩) 2 2 [x, y] := by
  subst hX
  subst hY
  subst hg
  exact (Ow.made w (base := 0) [x, y] (Nat.zero_le _) (by simp) (Dg.cons h (Dg.one h2))).sl

theorem Fr.new {w : World} (o : Obj) : Fr [] w (w.alloc o) := (Fr.refl _ _).alloc _

end Go.Proofs.YtagciepnhjbopaaGreatDoor

namespace Go.Proofs.YtagciepnhjbopaaGreatDoor
open Go.RowKit

abbrev Rw' (w : World) (base : Nat) (v : Value) (n : Nat) (xs : List Nat) : Prop := w.ownsRow base 52 1 v n (xs.map dv)

theorem row_keep {S : List Nat} {w w' : World} {base n : Nat} {v : Value} {xs : List Nat} (h : Rw' w base v n xs) (f : Fr S w w') (hs : ∀ k, base ≤ k → k < w.heap.size → k ∉ S) : Rw' w' base v n xs := by
  refine ⟨h.1, ?_⟩
  rcases h.2 with h0 | ⟨g, cap, cur, h1, h2, h3, h4⟩
  · exact Or.inl h0
  · have hl : g < w.heap.size := (Array.getElem?_eq_some_iff.1 h3).1
    exact Or.inr ⟨g, cap, cur, h1, h2, (f.block g hl (hs g h2 hl)).trans h3, h4⟩

theorem row_kept {w w' : World} {base n : Nat} {v : Value} {xs : List Nat} (h : Rw' w base v n xs) (f : Fr [] w w') : Rw' w' base v n xs := row_keep h f (by simp)

theorem row_block {w : World} {base n k : Nat} {v : Value} {xs : List Nat} (h : Rw' w base v n xs) (hk : v.ownBlock = some k) : base ≤ k := by
  rcases h.2 with ⟨rfl, _⟩ | ⟨g, cap, cur, rfl, h2, _⟩
  · simp [Value.ownBlock] at hk
  · simp [Value.ownBlock] at hk
    omega

theorem wpList_app1 {w : World} {ops : Array Oper} {rest : List Oper} {o : Oper} {a : Act} {Q : Exit → Act → World → Prop} (hgd : o.guard = none) (s x : Operand)
    (ho : o.op = .call { callee := .builtin .append, args := #[s, x], argTypes := #[22, 22] }) (base : Nat) (v : Value) (n : Nat) (xs : List Nat) (hs : a.eval s = v) (hown : Rw' w base v n xs)
    (g c d : Nat) (hx : a.eval x = .slice (some ⟨g, 0, none⟩) 1 c) (dI : Int) (hc : w.cell? ⟨g, 0, none⟩ = some (.int .u32 dI)) (hd : dI = (d : Nat)) (_hn : n ≤ 1099511627776) (hb : base ≤ w.heap.size) (w0 : World) (f : Fr [] w0 w) (_hb0 : w0.heap.size ≤ base)
    (hK : ∀ v' w', Rw' w' base v' (n + 1) (xs ++ [d]) → Fr [] w0 w' → wpList Tryz.prog ops Q rest (a.put o.dst v') w') : wpList Tryz.prog ops Q (o :: rest) a w := by
  obtain ⟨i0, hi, hz0, hz1, hz2⟩ := info_parts Tryz.infoU
  refine wpList_append_own _ hgd s x 22 ho base 52 i0 (.int .u32 0) 1 4 Tryz.underlying22 hi hz0 hz1 hz2 rfl (by decide) v n _ hs hown ⟨g, 0, none⟩ 1 c [dv d] hx rfl ?_ (by intro u hu; rw [List.mem_singleton] at hu; subst hu; rfl) (by unfold maxLen; omega) (by omega) hb ?_
  · intro j u hj
    match j, hj with
    | 0, hj =>
      cases hj
      rw [add_plain, hc, hd]
    | j + 1, hj => simp at hj
  · intro v' w' hown' hgrow _
    exact hK v' w' (by simpa [Rw'] using hown') (f.grown hgrow (by intro k hk hl; have := row_block hown hk; omega))

theorem blk_cell0' (w : World) (d : Int) : (w.alloc (.cells #[Value.int .u32 d] 52)).cell? ⟨w.heap.size, 0, none⟩ = some (Value.int .u32 d) := (Blk.made w [Value.int .u32 d]).cell rfl

set_option maxRecDepth 100000 in
set_option maxHeartbeats 2000000 in
theorem radd_any (p q : Option Addr) (n c m d : Nat) (xs ys : List Nat) (w : World) (h1 : Sl w p n c xs) (h2 : Sl w q m d ys) (_hn : n ≤ 1099511627774) (_hm : m ≤ 1099511627774) :
    Calls Tryz.prog 167 #[.slice p n c, .slice q m d] w (RetOwn w (dg (val xs + val ys))) := by
  have hx := h1.len
  have hy := h2.len
  obtain ⟨M, hM⟩ : ∃ M, M = max n m := ⟨_, rfl⟩
  have hMn : n ≤ M := by omega
  have hMm : m ≤ M := by omega
  have hM2 : M = n ∨ M = m := by omega
  clear hM
  go_enter Tryz.func167, Tryz.ntmps167
  go_wp2
  go_loopw [5, 6, 7] (fun r s t wr => ∃ (k C : Nat) (Z : List Nat), k ≤ M ∧ s = .int .u64 C ∧ t = .int .i64 k ∧ C ≤ 1 ∧ Z.length = k ∧ Dg Z ∧ val Z + pB k * C = val (xs.take k) + val (ys.take k) ∧ Rw' wr w.heap.size r k Z ∧ Fr [] w wr) (fun _ _ t _ => M - (intOf t).toNat)
  case atStart => exact ⟨0, 0, [], Nat.zero_le _, rfl, rfl, by omega, rfl, Dg.nil, rfl, row_nil _ _, Fr.refl _ _⟩
  case round =>
    obtain ⟨k, C, Z, hk, rfl, rfl, hC, hZ, hZd, hv, hR, hf⟩ := hrel
    have HZ := Lib.hid hZ
    have Hv := Lib.hid hv
    clear hZ hv
    have d1 := h1.dig.at k
    have d2 := h2.dig.at k
    by_cases hlt : k < M
    · have HT : Hid (∀ T, T = C + (gd xs k + gd ys k) → val (Z ++ [T % 4294967296]) + pB (k + 1) * (T / 4294967296) = val (xs.take (k + 1)) + val (ys.take (k + 1))) := fun T => add_step HZ.out Hv.out
      have HF : Hid (∀ x y : Nat, gd xs k = x → gd ys k = y → ∀ T, T = C + (x + y) → val (Z ++ [T % 4294967296]) + pB (k + 1) * (T / 4294967296) = val (xs.take (k + 1)) + val (ys.take (k + 1))) := fun x y hx hy T hT => HT.out T (by rw [hx, hy]; exact hT)
      by_cases ha : k < n
      · obtain ⟨b1, o1, rfl, _, m1⟩ := (h1.kept hf).rd.open (by omega)
        have c1 := m1 k (by omega)
        clear m1
        by_cases hb : k < m
        · obtain ⟨b2, o2, rfl, _, m2⟩ := (h2.kept hf).rd.open (by omega)
          have c2 := m2 k (by omega)
          clear m2
          obtain ⟨x, hgx⟩ : ∃ x, x = gd xs k := ⟨_, rfl⟩
          obtain ⟨y, hgy⟩ : ∃ y, y = gd ys k := ⟨_, rfl⟩
          have HF2 := Lib.hid (HF.out x y hgx.symm hgy.symm)
          rw [← hgx] at d1
          rw [← hgy] at d2
          rw [← hgx] at c1
          rw [← hgy] at c2
          clear hgx hgy HF HT
          go_wp2_with (at_builtin; refine wpList_app1 rfl _ _ rfl w.heap.size _ k Z rfl (by exact row_kept hR ((Fr.refl _ _).alloc _)) _ _ ((C + (x + y)) % 4294967296) rfl _ (by exact blk_cell0' _ _) (by omega) (by omega) (by have := hf.size; simp; omega) w (hf.alloc _) (Nat.le_refl _) ?_)
          intro v' w' hR' hf'
          go_wp2
          go_roundw
          case rel =>
            exact ⟨k + 1, _, Z ++ [(C + (x + y)) % 4294967296], by omega, congrArg (Value.int .u64) (by omega), by go_num, by omega, by simp [HZ.out], hZd.append (Dg.one (by omega)), HF2.out _ (by omega), hR', hf'⟩
          case measure => simp [intOf]; omega
        · have g2 : gd ys k = 0 := gd_ge (by omega)
          obtain ⟨x, hgx⟩ : ∃ x, x = gd xs k := ⟨_, rfl⟩
          obtain ⟨y, hgy⟩ : ∃ y, y = gd ys k := ⟨_, rfl⟩
          have HF2 := Lib.hid (HF.out x y hgx.symm hgy.symm)
          rw [← hgx] at d1
          rw [← hgy] at d2
          rw [← hgx] at c1
          rw [g2] at hgy
          subst hgy
          clear hgx  HF HT
          go_wp2_with (at_builtin; refine wpList_app1 rfl _ _ rfl w.heap.size _ k Z rfl (by exact row_kept hR ((Fr.refl _ _).alloc _)) _ _ ((C + x) % 4294967296) rfl _ (by exact blk_cell0' _ _) (by omega) (by omega) (by have := hf.size; simp; omega) w (hf.alloc _) (Nat.le_refl _) ?_)
          intro v' w' hR' hf'
          go_wp2
          go_roundw
          case rel =>
            exact ⟨k + 1, _, Z ++ [(C + x) % 4294967296], by omega, congrArg (Value.int .u64) (by omega), by go_num, by omega, by simp [HZ.out], hZd.append (Dg.one (by omega)), HF2.out _ (by omega), hR', hf'⟩
          case measure => simp [intOf]; omega
      · have g1 : gd xs k = 0 := gd_ge (by omega)
        by_cases hb : k < m
        · obtain ⟨b2, o2, rfl, _, m2⟩ := (h2.kept hf).rd.open (by omega)
          have c2 := m2 k (by omega)
          clear m2
          obtain ⟨x, hgx⟩ : ∃ x, x = gd xs k := ⟨_, rfl⟩
          obtain ⟨y, hgy⟩ : ∃ y, y = gd ys k := ⟨_, rfl⟩
          have HF2 := Lib.hid (HF.out x y hgx.symm hgy.symm)
          rw [← hgx] at d1
          rw [← hgy] at d2
          rw [g1] at hgx
          subst hgx
          rw [← hgy] at c2
          clear  hgy HF HT
          go_wp2_with (at_builtin; refine wpList_app1 rfl _ _ rfl w.heap.size _ k Z rfl (by exact row_kept hR ((Fr.refl _ _).alloc _)) _ _ ((C + y) % 4294967296) rfl _ (by exact blk_cell0' _ _) (by omega) (by omega) (by have := hf.size; simp; omega) w (hf.alloc _) (Nat.le_refl _) ?_)
          intro v' w' hR' hf'
          go_wp2
          go_roundw
          case rel =>
            exact ⟨k + 1, _, Z ++ [(C + y) % 4294967296], by omega, congrArg (Value.int .u64) (by omega), by go_num, by omega, by simp [HZ.out], hZd.append (Dg.one (by omega)), HF2.out _ (by omega), hR', hf'⟩
          case measure => simp [intOf]; omega
        · omega
    · obtain rfl : k = M := by omega
      have hv := Hv.out
      rw [List.take_of_length_le (by omega), List.take_of_length_le (by omega)] at hv
      have hlen : (Z ++ [C]).length = k + 1 := by simp [HZ.out]
      have hval : val (Z ++ [C]) = val xs + val ys := by rw [val_append, val_one, HZ.out, hv]
      have HL := Lib.hid hlen
      have HV := Lib.hid hval
      clear hv hlen hval d1 d2
      go_wp2_with (at_builtin; refine wpList_app1 rfl _ _ rfl w.heap.size _ k Z rfl (by exact row_kept hR ((Fr.refl _ _).alloc _)) _ _ C rfl _ (by exact blk_cell0' _ _) (by omega) (by omega) (by have := hf.size; simp; omega) w (hf.alloc _) (Nat.le_refl _) ?_)
      intro v' w' hR' hf'
      obtain ⟨p', c', rfl, ho⟩ := ow_of_row hR' (hZd.append (Dg.one (by omega)))
      rw [HL.out] at ho ⊢
      go_wp2_with fail
      refine (rcut_any _ _ _ _ _ ho.sl (by omega)).mono ?_
      rw [HV.out]
      rintro e w2 ⟨p2, c2, rfl, ho2, hf2⟩
      go_wp2_with fail
      go_ret
      exact ⟨p2, c2, rfl, ho2.mono hf'.size, hf'.trans hf2 (by simp)⟩

end Go.Proofs.YtagciepnhjbopaaGreatDoor

namespace Go.Proofs.YtagciepnhjbopaaGreatDoor
open Go.RowKit

set_option maxRecDepth 100000 in
set_option maxHeartbeats 2000000 in
theorem rmul_any (p q : Option Addr) (n c m d : Nat) (xs ys : List Nat) (w : World) (h1 : Sl w p n c xs) (h2 : Sl w q m d ys) (_hn : n ≤ 549755813886) (_hm : m ≤ 549755813886) :
    Calls Tryz.prog 152 #[.slice p n c, .slice q m d] w (RetOwn w (dg (val xs * val ys))) := by
  obtain ⟨i0, hi, hz0, hz1, hz2⟩ := info_parts Tryz.infoU
  have LX := h1.len
  have LY := h2.len
  go_enter Tryz.func152, Tryz.ntmps152
  go_wp2_with (at_make; refine wpList_make_full _ rfl _ _ 22 rfl 0 52 i0 (.int .u32 0) 1 Tryz.underlying22 hi hz0 hz1 _ _ _ _ (n + m + 1) rfl rfl (by simp) (by simp) (by rw [hz2]; omega) (by unfold maxLen; omega) (Nat.zero_le _) ?_)
  intro w0 hown hgrow
  have hB0 := blk_of_made hown
  have hf0 : Fr [] w w0 := (Fr.refl _ _).grown hgrow (by simp)
  clear hown hgrow
  have hg0 := hB0.lt
  generalize hg : w.heap.size = g at *
  have HG := Lib.hid hg
  clear hg
  have hstart : Fb w0 g (n + m + 1) (List.replicate m 0) := by
    unfold Fb
    rw [spl_map]
    have : (List.replicate (n + m + 1) 0).take 0 ++ List.replicate m 0 ++ (List.replicate (n + m + 1) 0).drop (0 + (List.replicate m 0).length) = List.replicate (n + m + 1) 0 := by
      simp [List.replicate_append_replicate]
      omega
    rw [this]
    exact hB0
  go_wp2
  go_loopw [6] (fun t wr => ∃ (k : Nat) (Q : List Nat), k ≤ n ∧ t = .int .i64 k ∧ Q.length = k + m ∧ Dg Q ∧ val Q = val (xs.take k) * val ys ∧ Fb wr g (n + m + 1) Q ∧ Fr [] w wr) (fun t _ => n - (intOf t).toNat)
  case atStart => exact ⟨0, _, Nat.zero_le _, rfl, by simp, Dg.zeros _, by rw [val_zeros]; simp [val], hstart, hf0⟩
  case round =>
    obtain ⟨k, Q, hk, rfl, hQ, hQd, hv, hB, hf⟩ := hrel
    have HQ := Lib.hid hQ
    have Hv := Lib.hid hv
    clear hQ hv hB0 hf0 hstart
    by_cases hlt : k < n
    · obtain ⟨b1, o1, hp, hb1, m1⟩ := h1.rd.open (by omega)
      subst hp
      have d1 := h1.dig.at k
      have HC : Hid (w.cell? ⟨b1, o1 + k, none⟩ = some (dv (gd xs k))) := m1 k (by omega)
      have HT : Hid (∀ (Z : List Nat) (r : Nat), Z.length = m → val Z + pB m * r = val (Q.drop k) + gd xs k * val ys → val (Q.take k ++ Z ++ [r]) = val (xs.take (k + 1)) * val ys) := fun Z r hZ h => mul_step HQ.out hZ Hv.out h
      clear m1
      obtain ⟨x, hgx⟩ : ∃ x, x = gd xs k := ⟨_, rfl⟩
      rw [← hgx] at d1 HC HT
      clear hgx
      obtain ⟨L, hL⟩ : ∃ L, L = spl ((List.replicate (n + m + 1) 0).map dv) 0 Q := ⟨_, rfl⟩
      have hLl : L.length = n + m + 1 := by rw [hL, spl_len (by simp [HQ.out]; omega)]; simp
      have hsg : Sg L k (Q.drop k) := by
        have h1 := (spl_sg (L := (List.replicate (n + m + 1) 0).map dv) (o := 0) (Z := Q) (by simp [HQ.out]; omega)).sub k m (by rw [HQ.out]; exact Nat.le_refl _)
        rw [Nat.zero_add, List.take_of_length_le (by simp [HQ.out])] at h1
        rw [hL]
        exact h1
      have hQK : (Q.drop k).length = m := by simp [HQ.out]
      have hBL : Blk wr g L := by rw [hL]; exact hB
      have HL := Lib.hid hL
      clear hL
      obtain ⟨wo, hwo⟩ : ∃ wo : World, wo = wr := ⟨_, rfl⟩
      subst hwo
      go_wp2
      go_loopw [7, 8] (fun s t wr => ∃ (j C : Nat) (Z : List Nat), j ≤ m ∧ s = .int .u64 C ∧ t = .int .i64 j ∧ C ≤ 4294967295 ∧ Z.length = j ∧ Dg Z ∧ val Z + pB j * C = val ((Q.drop k).take j) + x * val (ys.take j) ∧ Blk wr g (spl L k Z) ∧ Fr [g] wo wr) (fun _ t _ => m - (intOf t).toNat)
      case atStart => exact ⟨0, 0, [], Nat.zero_le _, rfl, rfl, by omega, rfl, Dg.nil, rfl, by rw [spl_nil]; exact hBL, Fr.refl _ _⟩
      case round =>
        obtain ⟨j, C, Z, hj, rfl, rfl, hC, hZ, hZd, hvz, hB2, hf2⟩ := hrel
        have HZ := Lib.hid hZ
        have Hvz := Lib.hid hvz
        have hfw : Fr [] w wr := hf.trans hf2 (by have := HG.out; simp; omega)
        have c0 : wr.cell? ⟨b1, o1 + k, none⟩ = some (dv x) := (hfw.cell (p := ⟨b1, o1 + k, none⟩) hb1 (by simp)).trans HC.out
        clear hZ hvz
        by_cases hlj : j < m
        · obtain ⟨b2, o2, rfl, _, m2⟩ := (h2.kept hfw).rd.open (by omega)
          have c1 := m2 j (by omega)
          have c2 : wr.cell? ⟨g, k + j, none⟩ = some (dv (gd (Q.drop k) j)) := hB2.cell (by rw [spl_at (by rw [HZ.out]; omega), if_neg (by omega), if_neg (by rw [HZ.out]; omega)]; exact hsg.2 j (by omega))
          have c3 := hB2.free (k + j)
          have d2 := h2.dig.at j
          have d3 := (hQd.drop k).at j
          have HT2 : Hid (∀ T, T = C + (x * gd ys j + gd (Q.drop k) j) → _) := fun T => addp_step HZ.out Hvz.out
          have HW := Lib.hid (hB2.set (k + j))
          have HS : Hid (∀ v, (spl L k Z).set (k + j) (dv v) = spl L k (Z ++ [v])) := fun v => by
            have := spl_set (L := L) (o := k) (Z := Z) (by rw [HZ.out]; omega) v
            rwa [HZ.out] at this
          have hbd := mul_small d1 d2
          have hbd' : (x : Int) * (gd ys j : Nat) ≤ 18446744065119617025 := by
            rw [← Int.natCast_mul]; omega
          have hbd0 : (0 : Int) ≤ (x : Int) * (gd ys j : Nat) := by rw [← Int.natCast_mul]; omega
          generalize gd ys j = y at *
          generalize gd (Q.drop k) j = z at *
          clear m2
          go_wp2
          go_quiet (fail)
          go_wp2
          go_roundw
          case rel =>
            have eT : (C : Int) + ((x : Int) * y + z) = ((C + (x * y + z) : Nat) : Int) := by simp
            have eM : ((C : Int) + ((x : Int) * y + z)) % 4294967296 = (((C + (x * y + z)) % 4294967296 : Nat) : Int) := by rw [eT]; omega
            have eD : ((C : Int) + ((x : Int) * y + z)) / 4294967296 = (((C + (x * y + z)) / 4294967296 : Nat) : Int) := by rw [eT]; omega
            rw [eM, eD]
            refine ⟨j + 1, _, Z ++ [(C + (x * y + z)) % 4294967296], by omega, rfl, by go_num, by omega, by simp [HZ.out], hZd.append (Dg.one (by omega)), HT2.out _ rfl, ?_, (hf2.drewN _).setCell _ _ (by simp)⟩
            rw [← HS.out]
            exact HW.out _
          case measure => simp [intOf]; omega
        · obtain rfl : j = m := by omega
          have hv := Hvz.out
          rw [List.take_of_length_le (by omega), List.take_of_length_le (by omega)] at hv
          have hB3 : Fb wr g (n + j + 1) (Q.take k ++ Z) := by
            unfold Fb
            rw [HL.out, spl_spl (by simp [HQ.out]; omega) (by rw [HQ.out, HZ.out]; exact Nat.le_refl _), List.drop_of_length_le (by rw [HQ.out, HZ.out]; exact Nat.le_refl _), List.append_nil] at hB2
            exact hB2
          have hl3 : (Q.take k ++ Z).length = k + j := by simp [HQ.out, HZ.out]
          have c3 := hB3.free (k + j)
          have c4 := hB3.cell (show k + j < n + j + 1 by omega) (by rw [hl3]; exact Nat.le_refl _)
          have HW := Lib.hid (hB3.set (show k + j < n + j + 1 by omega) hl3 C)
          have HV2 := Lib.hid (HT.out Z C HZ.out hv)
          have HL3 := Lib.hid hl3
          have HCe : (C : Int) % 4294967296 = C := by omega
          clear hv hB2 hl3 hsg hBL
          go_wp2
          go_roundw
          case rel =>
            exact ⟨k + 1, Q.take k ++ Z ++ [C], by omega, by go_num, by rw [List.length_append, HL3.out]; simp; omega, ((hQd.take _).append hZd).append (Dg.one (by omega)), HV2.out, HW.out, hfw.setCell _ _ (by have := HG.out; simp; omega)⟩
          case measure => simp [intOf]; omega
    · obtain rfl : k = n := by omega
      have hv := Hv.out
      rw [List.take_of_length_le (by omega)] at hv
      have hB3 := hB.set (show k + m < k + m + 1 by omega) HQ.out 0
      have hlen : (Q ++ [0]).length = k + m + 1 := by simp [HQ.out]
      have hfull : Blk wr g ((Q ++ [0]).map dv) := by
        have hB' := hB
        unfold Fb at hB'
        rw [spl_map] at hB'
        have e : (List.replicate (k + m + 1) 0).take 0 ++ Q ++ (List.replicate (k + m + 1) 0).drop (0 + Q.length) = Q ++ [0] := by
          rw [HQ.out]
          simp
        rw [e] at hB'
        exact hB'
      have HO := Ow.of_blk (base := g) hfull (Nat.le_refl _) (by rw [hlen]; omega) (hQd.append (Dg.one (by omega)))
      have hval : val (Q ++ [0]) = val xs * val ys := by rw [val_append, val_one, hv]; simp
      rw [hlen] at HO
      have HO2 := Lib.hid HO
      have HV2 := Lib.hid hval
      clear HO hval hlen hfull hB3 hv hB
      go_wp2_with fail
      refine (rcut_any _ _ _ _ _ HO2.out.sl (by omega)).mono ?_
      rw [HV2.out]
      rintro e w2 ⟨p2, c2, rfl, ho2, hf2⟩
      go_wp2_with fail
      go_ret
      exact ⟨p2, c2, rfl, ho2.mono hf.size, hf.trans hf2 (by simp)⟩

end Go.Proofs.YtagciepnhjbopaaGreatDoor
