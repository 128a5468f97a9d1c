/- What the statements of this claim stand on: of Spa, Q23, what they name -/
import Derived.Test.YtagciepnhjbopaaGreatDoorS33
import Derived.Test.YtagciepnhjbopaaGreatDoorS39

namespace Go.Proofs.YtagciepnhjbopaaGreatDoor
open Go.RowKit En

def VSl (w : World) (ys : List Nat) (v : Value) : Prop := ∃ (p : Option Addr) (c : Nat), v = .slice p ys.length c ∧ Sl w p ys.length c ys ∧ (c = ys.length ∨ ∃ (g : Nat) (L : List Value), p = some ⟨g, 0, none⟩ ∧ w.heap[g]? = some (Obj.cells (List.toArray L) 52 (0, 0)) ∧ L.length = c ∧ ∀ j, ys.length ≤ j → j < c → L[j]? = some (.int .u32 0))

theorem zero_cells (k : Nat) : Builtin.zeroCells (Value.int .u32 0).cells k = (List.replicate k (Value.int .u32 0)).toArray := by
  unfold Builtin.zeroCells
  apply Array.ext
  · simp [Value.cells]
  · intro i h1 h2
    simp [Value.cells, Nat.mod_one]

theorem wpList_appz {w : World} {ops : Array Oper} {rest : List Oper} {o : Oper} {a : Act} {Q : Exit → Act → World → Prop} (hgd : o.guard = none) (s x : Operand)
    (hop : o.op = Op.call { callee := Callee.builtin Builtin.append, args := #[s, x], argTypes := #[22, 22] }) (hs : a.eval s = .slice none 0 0) (ad : Addr) (c : Nat) (ys : List Nat) (hd : Dg ys) (h0 : 0 < ys.length) (_hb : ys.length ≤ 1099511627776)
    (m : Nat) (hm : m = ys.length) (hx : a.eval x = .slice (some ad) m c) (hc : ∀ j u, (ys.map dv)[j]? = some u → w.cell? (ad.add j) = some u)
    (hK : ∀ v' w', VSl w' ys v' → w.grownBy w' none → wpList Tryz.prog ops Q rest (a.put o.dst v') w') : wpList Tryz.prog ops Q (o :: rest) a w := by
  subst hm
  obtain ⟨i0, hi, hz0, hz1, hz2⟩ := info_parts Tryz.infoU
  refine wpList_plain hgd fun K hK' => ?_
  have hrun := run_append_nil (P := Tryz.prog) w 22 o.type 52 i0 (.int .u32 0) Tryz.underlying22 hi hz0 ad ys.length c (ys.map dv) (by rw [hz1]; simp) hc h0 (by omega) (by rw [hz2]; omega)
  have hge := grownCap_ge w ys.length 0 52
  have hle := grownCap_le_maxLen w ys.length 0 52 (by unfold maxLen; omega)
  have hL : (ys.map dv).toArray ++ Builtin.zeroCells (Value.int .u32 0).cells (grownCap w ys.length 0 52 - ys.length) = (ys.map dv ++ List.replicate (grownCap w ys.length 0 52 - ys.length) (Value.int .u32 0)).toArray := by rw [zero_cells]; simp
  rw [hL] at hrun
  unfold Oper.wp
  simp [execOp, hop, resolve, invoke, builtin, hs, hx, hrun, Result.andThen]
  generalize grownCap w ys.length 0 52 = cap at *
  have hnew : (w.drew.alloc (.cells (ys.map dv ++ List.replicate (cap - ys.length) (Value.int .u32 0)).toArray 52)).heap[w.heap.size]? = some (.cells (ys.map dv ++ List.replicate (cap - ys.length) (Value.int .u32 0)).toArray 52 (0, 0)) := heap_alloc_new w.drew _
  refine hK' _ _ (hK _ _ ⟨some ⟨w.heap.size, 0, none⟩, cap, rfl, ⟨rfl, hge, by unfold maxLen at hle; omega, (fun h => by cases h), Or.inr ⟨w.heap.size, 0, rfl, by simp, fun j hj => ?_⟩, hd⟩, Or.inr ⟨w.heap.size, ys.map dv ++ List.replicate (cap - ys.length) (Value.int .u32 0), rfl, hnew, by simp; omega, fun j h1 h2 => ?_⟩⟩ ⟨rfl, rfl, rfl, by simp, fun k hk _ => heap_alloc_old w.drew _ hk⟩)
  · rw [cell_at hnew, Nat.zero_add, List.getElem?_append_left (by simpa using hj), List.getElem?_map, List.getElem?_eq_getElem hj, gd_lt hj]
    rfl
  · rw [List.getElem?_append_right (by simpa using h1), List.getElem?_replicate, if_pos (by simp; omega)]

set_option maxRecDepth 100000 in
set_option maxHeartbeats 400000 in
theorem rcutS_any (p : Option Addr) (n c : Nat) (xs : List Nat) (w : World) (hs : Sl w p n c xs) (_hb : n ≤ 1099511627776) :
    Calls Tryz.prog 150 #[.slice p n c] w (fun e w' => ∃ u, e = .returned u ∧ VSl w' (dg (val xs)) u ∧ Fr [] w w') := by
  obtain ⟨i0, hi, hz0, hz1, hz2⟩ := info_parts Tryz.infoU
  have hx := hs.len
  have hc := hs.le
  have hm := hs.cap
  have hcut := hs.cut
  have hcl : Hid (cutN xs n = (dg (val xs)).length) := by rw [← hx, cutN_len hs.dig]; exact rfl
  have hml : (dg (val xs)).length ≤ n := by have := dg_len_val hs.dig; omega
  generalize dg (val xs) = ys at *
  go_enter Tryz.func150, Tryz.ntmps150
  go_wp2
  go_loop [3] (fun s => ∃ k : Nat, k ≤ n ∧ s = .int .i64 k ∧ cutN xs k = cutN xs n) (fun s => (intOf s).toNat)
  case atStart => exact ⟨n, Nat.le_refl _, rfl, rfl⟩
  case round =>
    obtain ⟨k, hk, rfl, hn0⟩ := hrel
    have hn := Lib.hid hn0
    clear hn0
    have hp := fun h' => Rd.open hs.rd h'
    have fin : k = cutN xs n → Calls Tryz.prog 0 #[] w (fun _ _ => True) → True := fun _ _ => trivial
    clear fin
    cases k with
    | zero =>
      have hk0 : ys = [] := List.eq_nil_of_length_eq_zero (by rw [← hcl.out, ← hn.out]; rfl)
      subst hk0
      rcases hs.src with ⟨rfl, rfl, rfl, rfl⟩ | ⟨a, rfl⟩
      · go_wp2_with (at_builtin; refine wpList_append_own_none rfl _ _ 22 rfl w.heap.size 52 i0 1 Tryz.underlying22 hi _ _ _ rfl (row_nil w _) rfl ?_)
        go_wp2
        go_ret
        exact ⟨_, rfl, ⟨none, 0, rfl, Sl.zero _, Or.inl rfl⟩, Fr.refl _ _⟩
      · go_wp2_with (at_builtin; refine wpList_append_own _ rfl _ _ 22 rfl w.heap.size 52 i0 (.int .u32 0) 1 4 Tryz.underlying22 hi hz0 hz1 hz2 rfl (by decide) _ _ _ rfl (row_nil w _) a 0 c [] rfl rfl (by simp) (by simp) (by unfold maxLen; omega) (by omega) (by simp) ?_)
        intro v' w' hown' hgrow hnil
        obtain rfl : v' = .slice none 0 0 := by first | exact hnil | exact hnil.2 ⟨rfl, rfl⟩
        clear hown' hnil
        go_wp2
        go_ret
        exact ⟨_, rfl, ⟨none, 0, rfl, Sl.zero _, Or.inl rfl⟩, (Fr.refl _ _).grown hgrow (by intro k hk; simp [Value.ownBlock] at hk)⟩
    | succ k =>
      obtain ⟨b, off, rfl, _, hcell⟩ := hp (by omega)
      have hck := hcell k (by omega)
      by_cases hz : gd xs k = 0
      · have hz' := Lib.hid hz
        rw [hz] at hck
        clear hcell hz
        go_wp2
        go_round
        case rel => exact ⟨k, by omega, rfl, by rw [← hn.out, cutN_z hz'.out]⟩
        case measure => simp [intOf]
      · have hk0 : ys.length = k + 1 := by rw [← hcl.out, ← hn.out, cutN_nz hz]
        have hk0' := Lib.hid hk0
        have hnews := hcut.rd.news
        have hcell' : w.cell? { block := b, off := off + k } = some (dv (gd xs k)) := hck
        generalize gd xs k = x at *
        clear hcell hk0
        go_wp2_with (at_builtin; refine wpList_appz rfl _ _ rfl rfl ⟨b, off, none⟩ c ys hcut.dig (by rw [hk0'.out]; omega) (by omega) (k + 1) hk0'.out.symm rfl (by exact hnews) ?_)
        intro v' w' hv' hgrow
        go_wp2
        go_ret
        exact ⟨_, rfl, hv', (Fr.refl _ _).grown hgrow (by intro k hk; simp [] at hk)⟩

end Go.Proofs.YtagciepnhjbopaaGreatDoor

namespace Go.Proofs.YtagciepnhjbopaaGreatDoor
open Go.RowKit En

theorem rtrimS_c (L x : Nat) (_hL : L ≤ 1048576) : Cp 150 [.n L x] (sv (.sp x)) := by
  refine cp_leaf ⟨_, Tryz.func150, rfl, rfl⟩ fun w vs ht hv => ?_
  obtain ⟨v0, _, rfl, h0, rfl⟩ := hv
  obtain ⟨p, n, c, X, rfl, s, rfl, l⟩ := h0
  refine (rcutS_any p n c X w s (by omega)).mono ?_
  rintro e w' ⟨u, rfl, h, f⟩
  exact ⟨u, rfl, sv_of (x := .sp (val X)) h _, f⟩

abbrev k_rtrimS : List Pa → Option (List Prop × Av)
  | [.n L x] => some ([L ≤ 1048576], sv (.sp x))
  | _ => none

theorem e_rtrimS (args : List Av) (obs : List Prop) (r : Av) : ent [.n] k_rtrimS args = some (obs, r) → (∀ p ∈ obs, p) → Cn 150 args r :=
  ent_ok (fun ps obs r h ho => by
    unfold k_rtrimS at h
    split at h
    · cases h; exact rtrimS_c _ _ (ho _ (by simp))
    · cases h) args obs r

def tZ1 : List Ent := [(150, ent [.n] k_rtrimS)]

theorem tZ1_ok : EntsOk tZ1 := ⟨e_rtrimS, trivial⟩

abbrev spI (g : Bool) (x : Nat) : Av := .val true [.lit (.bool g), .sem (.sp x)]

theorem itrimS_f (n x : Nat) (hn : n ≤ 1048576) : Cn 142 [.val true [.lit (.bool false), .sem (.dig n x)]] (spI false x) :=
  (wk tZ1_ok (ds := []) (fuel := 40) (obs := [n ≤ 1048576]) (r := AV.val (true) [Seg.lit (Value.bool false), Seg.sem (Kn.sp x)]) Tryz.func142 rfl (by kernel_rfl) ⟨hn, trivial⟩)

theorem len_pos {x : Nat} (h : x ≠ 0) : decide (((dg x).length : Int) > 0) = true := by
  rw [decide_eq_true_eq]
  have : dg x ≠ [] := fun e => h (dg_nil_0 e)
  have := List.length_pos_iff.2 this
  omega

theorem itrimS_t (n x : Nat) (hn : n ≤ 1048576) (h : x ≠ 0) : Cn 142 [.val true [.lit (.bool true), .sem (.dig n x)]] (spI true x) :=
  (wk tZ1_ok (ds := [none, none, some true]) (fuel := 40) (obs := [n ≤ 1048576, decide ((↑(List.length (dg x)) : Int) > (0 : Int)) = true]) (r := AV.val (true) [Seg.lit (Value.bool true), Seg.sem (Kn.sp x)]) Tryz.func142 rfl (by kernel_rfl) ⟨hn, len_pos h, trivial⟩)

abbrev k_itrimS : List Av → Option (List Prop × Av)
  | [.val true [.lit (.bool false), .sem (.dig n x)]] => some ([n ≤ 1048576], spI false x)
  | [.val true [.lit (.bool true), .sem (.dig n x)]] => some ([n ≤ 1048576, x ≠ 0], spI true x)
  | _ => none

theorem e_itrimS (args : List Av) (obs : List Prop) (r : Av) (h : k_itrimS args = some (obs, r)) (ho : ∀ p ∈ obs, p) : Cn 142 args r := by
  unfold k_itrimS at h
  split at h
  · cases h; exact itrimS_f _ _ (ho _ (by simp))
  · cases h; exact itrimS_t _ _ (ho _ (by simp)) (ho _ (by simp))
  · cases h

def tZ2 : List Ent := [(142, k_itrimS)]

theorem tZ2_ok : EntsOk tZ2 := ⟨e_itrimS, trivial⟩

theorem fdiv_small {z : Int} (h0 : 0 ≤ z) (_h1 : z < 4294967296) : Int.fdiv z (2 ^ 32) = 0 := by
  rw [Int.fdiv_eq_ediv_of_nonneg _ (by decide)]
  exact Int.ediv_eq_zero_of_lt h0 (by omega)

theorem two_val (z : Int) : val [z.toNat, (0 : Int).toNat] = z.toNat := by simp [val]

theorem two_val' (n : Nat) : val [n, (0 : Int).toNat] = n := by simp [val]

theorem u64_in {n : Int} (_h0 : 0 ≤ n) (_h1 : n ≤ 18446744073709551615) : IntKind.u64.wrap n = n := by rw [IntKind.wrap_u64]; omega

theorem u32_in {n : Int} (_h0 : 0 ≤ n) (_h1 : n ≤ 4294967295) : IntKind.u32.wrap n = n := by rw [IntKind.wrap_u32]; omega

theorem i64_in {n : Int} (_h0 : -9223372036854775808 ≤ n) (_h1 : n ≤ 9223372036854775807) : IntKind.i64.wrap n = n := by rw [IntKind.wrap_i64]; omega

theorem iofS_p (z : Int) (h0 : 0 ≤ z) (_h1 : z ≤ 1000000) : Cn 60 [.val false [.lit (.int .i64 z)]] (spI false z.toNat) := by
  have e1 : IntKind.u32.wrap z = z := u32_in h0 (by omega)
  have e2 : IntKind.u64.wrap z = z := u64_in h0 (by omega)
  have e3 : Int.fdiv z (2 ^ 32) = 0 := fdiv_small h0 (by omega)
  have e4 : IntKind.u32.wrap 0 = 0 := u32_in (Int.le_refl _) (by decide)
  have h := ((wk tZ2_ok (ds := [some false]) (fuel := 40) (obs := [decide (z < (0 : Int)) = false, List.length [IntKind.wrap IntKind.u32 z, IntKind.wrap IntKind.u32 (Int.fdiv (IntKind.wrap IntKind.u64 z) ((2 : Int) ^ 32))] ≤ 1000, (0 : Int) ≤ IntKind.wrap IntKind.u32 z ∧ IntKind.wrap IntKind.u32 z < (4294967296 : Int), (0 : Int) ≤ IntKind.wrap IntKind.u32 (Int.fdiv (IntKind.wrap IntKind.u64 z) ((2 : Int) ^ 32)) ∧ IntKind.wrap IntKind.u32 (Int.fdiv (IntKind.wrap IntKind.u64 z) ((2 : Int) ^ 32)) < (4294967296 : Int), List.length [IntKind.wrap IntKind.u32 z, IntKind.wrap IntKind.u32 (Int.fdiv (IntKind.wrap IntKind.u64 z) ((2 : Int) ^ 32))] ≤ 1048576]) (r := AV.val (true) [Seg.lit (Value.bool false), Seg.sem (Kn.sp (val [Int.toNat (IntKind.wrap IntKind.u32 z), Int.toNat (IntKind.wrap IntKind.u32 (Int.fdiv (IntKind.wrap IntKind.u64 z) ((2 : Int) ^ 32)))]))]) Tryz.func60 rfl (by kernel_rfl) (by simp only [AllP, e1, e2, e3, e4, List.length_cons, List.length_nil, decide_eq_false_iff_not]; (repeat' apply And.intro) <;> first | trivial | omega)) : Cn 60 [.val false [.lit (.int .i64 z)]] _)
  rw [e2, e3, e1, e4, two_val] at h
  exact h

theorem iofS_n (z : Int) (_h0 : z < 0) (_h1 : -1000000 ≤ z) : Cn 60 [.val false [.lit (.int .i64 z)]] (spI true z.natAbs) := by
  have a1 : IntKind.i64.wrap (z + 1) = z + 1 := i64_in (by omega) (by omega)
  have a2 : IntKind.i64.wrap (0 - (z + 1)) = 0 - (z + 1) := i64_in (by omega) (by omega)
  have a3 : IntKind.u64.wrap (0 - (z + 1)) = 0 - (z + 1) := u64_in (by omega) (by omega)
  have a4 : IntKind.u64.wrap (0 - (z + 1) + 1) = 0 - (z + 1) + 1 := u64_in (by omega) (by omega)
  have e1 : IntKind.u32.wrap (0 - (z + 1) + 1) = 0 - (z + 1) + 1 := u32_in (by omega) (by omega)
  have e3 : Int.fdiv (0 - (z + 1) + 1) (2 ^ 32) = 0 := fdiv_small (by omega) (by omega)
  have e4 : IntKind.u32.wrap 0 = 0 := u32_in (Int.le_refl _) (by decide)
  have e5 : (0 - (z + 1) + 1).toNat = z.natAbs := by omega
  have h := ((wk tZ2_ok (ds := [some true]) (fuel := 40) (obs := [decide (z < (0 : Int)) = true, List.length [IntKind.wrap IntKind.u32 (IntKind.wrap IntKind.u64 (IntKind.wrap IntKind.u64 (IntKind.wrap IntKind.i64 ((0 : Int) - IntKind.wrap IntKind.i64 (z + (1 : Int)))) + (1 : Int))), IntKind.wrap IntKind.u32 (Int.fdiv (IntKind.wrap IntKind.u64 (IntKind.wrap IntKind.u64 (IntKind.wrap IntKind.i64 ((0 : Int) - IntKind.wrap IntKind.i64 (z + (1 : Int)))) + (1 : Int))) ((2 : Int) ^ 32))] ≤ 1000, (0 : Int) ≤ IntKind.wrap IntKind.u32 (IntKind.wrap IntKind.u64 (IntKind.wrap IntKind.u64 (IntKind.wrap IntKind.i64 ((0 : Int) - IntKind.wrap IntKind.i64 (z + (1 : Int)))) + (1 : Int))) ∧ IntKind.wrap IntKind.u32 (IntKind.wrap IntKind.u64 (IntKind.wrap IntKind.u64 (IntKind.wrap IntKind.i64 ((0 : Int) - IntKind.wrap IntKind.i64 (z + (1 : Int)))) + (1 : Int))) < (4294967296 : Int), (0 : Int) ≤ IntKind.wrap IntKind.u32 (Int.fdiv (IntKind.wrap IntKind.u64 (IntKind.wrap IntKind.u64 (IntKind.wrap IntKind.i64 ((0 : Int) - IntKind.wrap IntKind.i64 (z + (1 : Int)))) + (1 : Int))) ((2 : Int) ^ 32)) ∧ IntKind.wrap IntKind.u32 (Int.fdiv (IntKind.wrap IntKind.u64 (IntKind.wrap IntKind.u64 (IntKind.wrap IntKind.i64 ((0 : Int) - IntKind.wrap IntKind.i64 (z + (1 : Int)))) + (1 : Int))) ((2 : Int) ^ 32)) < (4294967296 : Int), List.length [IntKind.wrap IntKind.u32 (IntKind.wrap IntKind.u64 (IntKind.wrap IntKind.u64 (IntKind.wrap IntKind.i64 ((0 : Int) - IntKind.wrap IntKind.i64 (z + (1 : Int)))) + (1 : Int))), IntKind.wrap IntKind.u32 (Int.fdiv (IntKind.wrap IntKind.u64 (IntKind.wrap IntKind.u64 (IntKind.wrap IntKind.i64 ((0 : Int) - IntKind.wrap IntKind.i64 (z + (1 : Int)))) + (1 : Int))) ((2 : Int) ^ 32))] ≤ 1048576, val [Int.toNat (IntKind.wrap IntKind.u32 (IntKind.wrap IntKind.u64 (IntKind.wrap IntKind.u64 (IntKind.wrap IntKind.i64 ((0 : Int) - IntKind.wrap IntKind.i64 (z + (1 : Int)))) + (1 : Int)))), Int.toNat (IntKind.wrap IntKind.u32 (Int.fdiv (IntKind.wrap IntKind.u64 (IntKind.wrap IntKind.u64 (IntKind.wrap IntKind.i64 ((0 : Int) - IntKind.wrap IntKind.i64 (z + (1 : Int)))) + (1 : Int))) ((2 : Int) ^ 32)))] ≠ 0]) (r := AV.val (true) [Seg.lit (Value.bool true), Seg.sem (Kn.sp (val [Int.toNat (IntKind.wrap IntKind.u32 (IntKind.wrap IntKind.u64 (IntKind.wrap IntKind.u64 (IntKind.wrap IntKind.i64 ((0 : Int) - IntKind.wrap IntKind.i64 (z + (1 : Int)))) + (1 : Int)))), Int.toNat (IntKind.wrap IntKind.u32 (Int.fdiv (IntKind.wrap IntKind.u64 (IntKind.wrap IntKind.u64 (IntKind.wrap IntKind.i64 ((0 : Int) - IntKind.wrap IntKind.i64 (z + (1 : Int)))) + (1 : Int))) ((2 : Int) ^ 32)))]))]) Tryz.func60 rfl (by kernel_rfl) (by simp only [AllP, a1, a2, a3, a4, e1, e3, e4, List.length_cons, List.length_nil, decide_eq_true_eq, two_val', e5]; (repeat' apply And.intro) <;> first | trivial | omega)) : Cn 60 [.val false [.lit (.int .i64 z)]] _)
  rw [a1, a2, a3, a4, e1, e3, e4, two_val, e5] at h
  exact h

abbrev k_iofS : List Av → Option (List Prop × Av)
  | [.val false [.lit (.int .i64 z)]] => some ([-1000000 ≤ z, z ≤ 1000000], .val true [.lit (.bool (decide (z < 0))), .sem (.sp z.natAbs)])
  | _ => none

theorem e_iofS (args : List Av) (obs : List Prop) (r : Av) (h : k_iofS args = some (obs, r)) (ho : ∀ p ∈ obs, p) : Cn 60 args r := by
  unfold k_iofS at h
  split at h
  · rename_i z
    cases h
    have h1 : -1000000 ≤ z := ho _ (by simp)
    have h2 : z ≤ 1000000 := ho _ (by simp)
    by_cases h0 : z < 0
    · rw [decide_eq_true h0]; exact iofS_n z h0 h1
    · rw [decide_eq_false h0, show z.natAbs = z.toNat by omega]; exact iofS_p z (by omega) h2
  · cases h

abbrev k_pvalidD : List Av → Option (List Prop × Av)
  | [.val true [.lit (.bool g), .sem (.dig n x), .sem (.dig 3 y)]] => some ([n ≤ 65535, y < 18446744073709551616, g = g, x = x], avB false)
  | _ => none

theorem nmb_no {Y : List Nat} (hd : Dg Y) (hl : Y.length = 3) (hy : val Y < 18446744073709551616) : nmb Y = false := by
  match Y, hl with
  | [a, b, c], _ =>
    have h1 : c < 4294967296 := hd c (by simp)
    have h2 : c = 0 := by
      simp only [val] at hy
      omega
    unfold nmb
    rw [decide_eq_false_iff_not]
    rintro (h | h)
    · simp at h
    · exact h h2

theorem e_pvalidD (args : List Av) (obs : List Prop) (r : Av) (h : k_pvalidD args = some (obs, r)) (ho : ∀ p ∈ obs, p) : Cn 19 args r := by
  unfold k_pvalidD at h
  split at h
  case h_2 => cases h
  rename_i g n x y
  cases h
  have h1 : n ≤ 65535 := ho _ (by simp)
  have h2 : y < 18446744073709551616 := ho _ (by simp)
  refine leaf ⟨_, Tryz.func19, rfl, rfl⟩ fun w vs ht hv => ?_
  obtain ⟨v, _, rfl, ⟨cs, ⟨a, b, e1, k1, a', b', rfl, k2, a3, b3, rfl, k3, rfl⟩, k4, -⟩, rfl⟩ := hv
  have k1 : a = [.bool g] := k1
  obtain ⟨⟨l2, -⟩, p, c, X, e2, s, -⟩ := k2
  obtain ⟨⟨l3, -⟩, q, d, Y, e3, t, hy⟩ := k3
  match a', l2, a3, l3 with
  | [v2], _, [v3], _ =>
    have e2 : v2 = _ := e2
    have e3 : v3 = _ := e3
    subst e2; subst e3; subst k1
    rw [k4, e1]
    have hb := nmb_no t.dig t.len (by rw [hy]; exact h2)
    have hv : vq g n X 3 Y = false := by unfold vq; rw [hb]; simp
    refine (valid_any (g := g) s t (by omega) (by omega)).mono fun _ _ h => rb_sv ?_
    rw [hv] at h
    exact h

noncomputable def tSa : List Ent := [(40, ent [.l, .l] k_mmod), (60, k_iofS), (45, ent [.l, .l] k_pfrac), (31, ent [.r, .r] k_padd), (15, ent [] k_awake), (23, ent [.r, .r] k_pcmp), (25, ent [.r] k_ptrim), (18, k_qsame), (19, k_pvalidD)]

theorem tSa_ok : EntsOk tSa := ⟨e_mmod, e_iofS, e_pfrac, e_padd, e_awake, e_pcmp, e_ptrim, e_qsame, e_pvalidD, trivial⟩

theorem iv_absD (z : Int) : iv (decide (z < 0)) z.natAbs = z := by
  unfold iv
  by_cases h : z < 0
  · rw [decide_eq_true h]; simp; omega
  · rw [decide_eq_false h]; simp; omega

theorem cmp_self (r : Rat) : cmpQ r r = 0 := by unfold cmpQ; grind

theorem three_val (x : Nat) : val [x, 0, 0] = x := by simp [val]

theorem rat_scale (a : Int) (B F : Nat) (hF : F ≠ 0) : mkRat (iv (decide (a * (F : Int) < 0)) (a * (F : Int)).natAbs) ((B : Int) * (F : Int)).toNat = Rat.divInt a (B : Int) := by
  rw [iv_absD, ← Int.natCast_mul, Int.toNat_natCast, Rat.mkRat_mul_right hF]
  exact (divInt_pos _).symm

set_option maxRecDepth 100000 in
theorem same_c (n m k : Int) (_hn : -9223372036854775808 ≤ n ∧ n ≤ 9223372036854775807) (_hm : -9223372036854775808 ≤ m ∧ m ≤ 9223372036854775807) (_hk : -9223372036854775808 ≤ k ∧ k ≤ 9223372036854775807) : Cn 9 [.val false [.lit (.int .i64 n)], .val false [.lit (.int .i64 m)], .val false [.lit (.int .i64 k)]] (avB true) := by
  obtain ⟨a, ha⟩ : ∃ a, n % 1000 - 500 = a := ⟨_, rfl⟩
  obtain ⟨B, hb⟩ : ∃ B : Nat, 1 + m % 500 = (B : Int) := ⟨(1 + m % 500).toNat, by omega⟩
  obtain ⟨F, hf⟩ : ∃ F : Nat, 1 + k % 90 = (F : Int) := ⟨(1 + k % 90).toNat, by omega⟩
  have b1 : 1 ≤ B ∧ B ≤ 500 := by omega
  have f1 : 1 ≤ F ∧ F ≤ 90 := by omega
  have a1 : -500 ≤ a ∧ a ≤ 499 := by omega
  have u1 := Int.mul_le_mul_of_nonneg_right (show a ≤ 500 by omega) (show (0 : Int) ≤ F by omega)
  have u2 := Int.mul_le_mul_of_nonneg_right (show -500 ≤ a by omega) (show (0 : Int) ≤ F by omega)
  have u3 := Int.mul_le_mul_of_nonneg_right (show (B : Int) ≤ 500 by omega) (show (0 : Int) ≤ F by omega)
  have u4 := Int.mul_le_mul_of_nonneg_right (show (0 : Int) ≤ B by omega) (show (0 : Int) ≤ F by omega)
  have e1 : IntKind.i64.wrap (n % 1000 - 500) = a := by rw [ha]; exact i64_in (by omega) (by omega)
  have e2 : IntKind.i64.wrap (1 + m % 500) = B := by rw [hb]; exact i64_in (by omega) (by omega)
  have e3 : IntKind.i64.wrap (1 + k % 90) = F := by rw [hf]; exact i64_in (by omega) (by omega)
  have e4 : IntKind.i64.wrap (a * F) = a * F := i64_in (by omega) (by omega)
  have e5 : IntKind.i64.wrap ((B : Int) * F) = (B : Int) * F := i64_in (by omega) (by omega)
  have e6 : IntKind.u32.wrap ((B : Int) * F) = (B : Int) * F := u32_in (by omega) (by omega)
  have l1 : (dg (a * F).natAbs).length ≤ 1 := dg_len_le (k := 1) (by rw [pB_one]; omega)
  have l2 : (dg a.natAbs).length ≤ 1 := dg_len_le (k := 1) (by rw [pB_one]; omega)
  have q0 := nq_dI a (B : Int)
  have l3 : nz a ≤ 1 := l2
  have l4 : nz (B : Int) ≤ 1 := dg_len_le (k := 1) (by rw [pB_one]; omega)
  have q1 := rat_scale a B F (by omega)
  have q2 : mkRat (iv (decide (a < 0)) a.natAbs) 0 = 0 := Rat.mkRat_zero _
  have q3 := cmp_self (Rat.divInt a (B : Int))
  have q4 : val [((B : Int) * F).toNat, 0, 0] = ((B : Int) * F).toNat := three_val _
  exact (wk tSa_ok (ds := [none, none, none, some true, none, none, some true, none, none, none, none, none, none, some true]) (fuel := 40) (obs := [(1 : Int) ≤ (1000 : Int), (1000 : Int) ≤ (1000000 : Int), (-9223372036854775808 : Int) ≤ n, n ≤ (9223372036854775807 : Int), (1 : Int) ≤ (500 : Int), (500 : Int) ≤ (1000000 : Int), (-9223372036854775808 : Int) ≤ m, m ≤ (9223372036854775807 : Int), (1 : Int) ≤ (90 : Int), (90 : Int) ≤ (1000000 : Int), (-9223372036854775808 : Int) ≤ k, k ≤ (9223372036854775807 : Int), (-1000000 : Int) ≤ IntKind.wrap IntKind.i64 (IntKind.wrap IntKind.i64 (n % (1000 : Int) - (500 : Int)) * IntKind.wrap IntKind.i64 ((1 : Int) + k % (90 : Int))), IntKind.wrap IntKind.i64 (IntKind.wrap IntKind.i64 (n % (1000 : Int) - (500 : Int)) * IntKind.wrap IntKind.i64 ((1 : Int) + k % (90 : Int))) ≤ (1000000 : Int), List.length [IntKind.wrap IntKind.u32 (IntKind.wrap IntKind.i64 (IntKind.wrap IntKind.i64 ((1 : Int) + m % (500 : Int)) * IntKind.wrap IntKind.i64 ((1 : Int) + k % (90 : Int)))), (0 : Int), (0 : Int)] ≤ 1000, (0 : Int) ≤ IntKind.wrap IntKind.u32 (IntKind.wrap IntKind.i64 (IntKind.wrap IntKind.i64 ((1 : Int) + m % (500 : Int)) * IntKind.wrap IntKind.i64 ((1 : Int) + k % (90 : Int)))) ∧ IntKind.wrap IntKind.u32 (IntKind.wrap IntKind.i64 (IntKind.wrap IntKind.i64 ((1 : Int) + m % (500 : Int)) * IntKind.wrap IntKind.i64 ((1 : Int) + k % (90 : Int)))) < (4294967296 : Int), (0 : Int) ≤ (0 : Int) ∧ (0 : Int) < (4294967296 : Int), (0 : Int) ≤ (0 : Int) ∧ (0 : Int) < (4294967296 : Int), 1 ≤ 1000, (0 : Int) ≤ (0 : Int) ∧ (0 : Int) < (4294967296 : Int), 0 = 0, List.length (dg (Int.natAbs (IntKind.wrap IntKind.i64 (IntKind.wrap IntKind.i64 (n % (1000 : Int) - (500 : Int)) * IntKind.wrap IntKind.i64 ((1 : Int) + k % (90 : Int)))))) ≤ 1000000, (-9223372036854775808 : Int) ≤ IntKind.wrap IntKind.i64 (n % (1000 : Int) - (500 : Int)), IntKind.wrap IntKind.i64 (n % (1000 : Int) - (500 : Int)) ≤ (9223372036854775807 : Int), (-9223372036854775808 : Int) ≤ IntKind.wrap IntKind.i64 ((1 : Int) + m % (500 : Int)), IntKind.wrap IntKind.i64 ((1 : Int) + m % (500 : Int)) ≤ (9223372036854775807 : Int), (-1000000 : Int) ≤ IntKind.wrap IntKind.i64 (n % (1000 : Int) - (500 : Int)), IntKind.wrap IntKind.i64 (n % (1000 : Int) - (500 : Int)) ≤ (1000000 : Int), List.length (dg (Int.natAbs (IntKind.wrap IntKind.i64 (n % (1000 : Int) - (500 : Int))))) + 0 ≤ 16383, nq (Rat.divInt (IntKind.wrap IntKind.i64 (n % (1000 : Int) - (500 : Int))) (IntKind.wrap IntKind.i64 ((1 : Int) + m % (500 : Int)))) ≤ 16383, List.length (dg (Int.natAbs (IntKind.wrap IntKind.i64 (IntKind.wrap IntKind.i64 (n % (1000 : Int) - (500 : Int)) * IntKind.wrap IntKind.i64 ((1 : Int) + k % (90 : Int)))))) + 1 + List.length [IntKind.wrap IntKind.u32 (IntKind.wrap IntKind.i64 (IntKind.wrap IntKind.i64 ((1 : Int) + m % (500 : Int)) * IntKind.wrap IntKind.i64 ((1 : Int) + k % (90 : Int)))), (0 : Int), (0 : Int)] ≤ 65535, nq (Rat.divInt (IntKind.wrap IntKind.i64 (n % (1000 : Int) - (500 : Int))) (IntKind.wrap IntKind.i64 ((1 : Int) + m % (500 : Int)))) ≤ 65535, (cmpQ (mkRat (iv (decide (IntKind.wrap IntKind.i64 (IntKind.wrap IntKind.i64 (n % (1000 : Int) - (500 : Int)) * IntKind.wrap IntKind.i64 ((1 : Int) + k % (90 : Int))) < (0 : Int))) (Int.natAbs (IntKind.wrap IntKind.i64 (IntKind.wrap IntKind.i64 (n % (1000 : Int) - (500 : Int)) * IntKind.wrap IntKind.i64 ((1 : Int) + k % (90 : Int)))))) (val [Int.toNat (IntKind.wrap IntKind.u32 (IntKind.wrap IntKind.i64 (IntKind.wrap IntKind.i64 ((1 : Int) + m % (500 : Int)) * IntKind.wrap IntKind.i64 ((1 : Int) + k % (90 : Int))))), 0, 0])) (Rat.divInt (IntKind.wrap IntKind.i64 (n % (1000 : Int) - (500 : Int))) (IntKind.wrap IntKind.i64 ((1 : Int) + m % (500 : Int)))) == (0 : Int)) = true, List.length (dg (Int.natAbs (IntKind.wrap IntKind.i64 (IntKind.wrap IntKind.i64 (n % (1000 : Int) - (500 : Int)) * IntKind.wrap IntKind.i64 ((1 : Int) + k % (90 : Int)))))) + 1 + List.length [IntKind.wrap IntKind.u32 (IntKind.wrap IntKind.i64 (IntKind.wrap IntKind.i64 ((1 : Int) + m % (500 : Int)) * IntKind.wrap IntKind.i64 ((1 : Int) + k % (90 : Int)))), (0 : Int), (0 : Int)] ≤ 65535, decide (mkRat (iv (decide (IntKind.wrap IntKind.i64 (IntKind.wrap IntKind.i64 (n % (1000 : Int) - (500 : Int)) * IntKind.wrap IntKind.i64 ((1 : Int) + k % (90 : Int))) < (0 : Int))) (Int.natAbs (IntKind.wrap IntKind.i64 (IntKind.wrap IntKind.i64 (n % (1000 : Int) - (500 : Int)) * IntKind.wrap IntKind.i64 ((1 : Int) + k % (90 : Int)))))) (val [Int.toNat (IntKind.wrap IntKind.u32 (IntKind.wrap IntKind.i64 (IntKind.wrap IntKind.i64 ((1 : Int) + m % (500 : Int)) * IntKind.wrap IntKind.i64 ((1 : Int) + k % (90 : Int))))), 0, 0]) = Rat.divInt (IntKind.wrap IntKind.i64 (n % (1000 : Int) - (500 : Int))) (IntKind.wrap IntKind.i64 ((1 : Int) + m % (500 : Int)))) = true, List.length (dg (Int.natAbs (IntKind.wrap IntKind.i64 (IntKind.wrap IntKind.i64 (n % (1000 : Int) - (500 : Int)) * IntKind.wrap IntKind.i64 ((1 : Int) + k % (90 : Int)))))) + 1 ≤ 65535, val [Int.toNat (IntKind.wrap IntKind.u32 (IntKind.wrap IntKind.i64 (IntKind.wrap IntKind.i64 ((1 : Int) + m % (500 : Int)) * IntKind.wrap IntKind.i64 ((1 : Int) + k % (90 : Int))))), 0, 0] < 18446744073709551616, decide (IntKind.wrap IntKind.i64 (IntKind.wrap IntKind.i64 (n % (1000 : Int) - (500 : Int)) * IntKind.wrap IntKind.i64 ((1 : Int) + k % (90 : Int))) < (0 : Int)) = decide (IntKind.wrap IntKind.i64 (IntKind.wrap IntKind.i64 (n % (1000 : Int) - (500 : Int)) * IntKind.wrap IntKind.i64 ((1 : Int) + k % (90 : Int))) < (0 : Int)), Int.natAbs (IntKind.wrap IntKind.i64 (IntKind.wrap IntKind.i64 (n % (1000 : Int) - (500 : Int)) * IntKind.wrap IntKind.i64 ((1 : Int) + k % (90 : Int)))) = Int.natAbs (IntKind.wrap IntKind.i64 (IntKind.wrap IntKind.i64 (n % (1000 : Int) - (500 : Int)) * IntKind.wrap IntKind.i64 ((1 : Int) + k % (90 : Int)))), decide (mkRat (iv (decide (IntKind.wrap IntKind.i64 (n % (1000 : Int) - (500 : Int)) < (0 : Int))) (Int.natAbs (IntKind.wrap IntKind.i64 (n % (1000 : Int) - (500 : Int))))) 0 + Rat.divInt (IntKind.wrap IntKind.i64 (n % (1000 : Int) - (500 : Int))) (IntKind.wrap IntKind.i64 ((1 : Int) + m % (500 : Int))) = Rat.divInt (IntKind.wrap IntKind.i64 (n % (1000 : Int) - (500 : Int))) (IntKind.wrap IntKind.i64 ((1 : Int) + m % (500 : Int)))) = true]) (r := AV.val false [Seg.lit (Value.bool true)]) Tryz.func9 rfl (by kernel_rfl) (by simp only [AllP, e1, e2, e3, e4, e5, e6, q1, q2, q3, q4, Rat.zero_add, List.length_cons, List.length_nil, decide_true, beq_self_eq_true]; (repeat' apply And.intro) <;> first | exact True.intro | omega))

theorem sameL_any (n m k : Int) (w : World) (ht : Tab w) (hn : -9223372036854775808 ≤ n ∧ n ≤ 9223372036854775807) (hm : -9223372036854775808 ≤ m ∧ m ≤ 9223372036854775807) (hk : -9223372036854775808 ≤ k ∧ k ≤ 9223372036854775807) : Calls Tryz.prog 9 #[.int .i64 n, .int .i64 m, .int .i64 k] w (RB true w) :=
  law_calls (same_c n m k hn hm hk) ht ⟨_, _, rfl, vl_lit _ _, _, _, rfl, vl_lit _ _, _, _, rfl, vl_lit _ _, rfl⟩

end Go.Proofs.YtagciepnhjbopaaGreatDoor
