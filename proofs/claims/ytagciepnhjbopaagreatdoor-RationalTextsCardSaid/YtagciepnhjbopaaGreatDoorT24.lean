/- What the statements of this claim stand on: of RatNum, Rat1, what they name -/
import Derived.Test.YtagciepnhjbopaaGreatDoorT04
import Derived.Test.YtagciepnhjbopaaGreatDoorT14
import Derived.Test.YtagciepnhjbopaaGreatDoorT17
import Derived.Test.YtagciepnhjbopaaGreatDoorT19
import Derived.Test.YtagciepnhjbopaaGreatDoorT22
import Derived.Test.YtagciepnhjbopaaGreatDoorT23

namespace Go.Proofs.YtagciepnhjbopaaGreatDoor
theorem mk_num (z : Int) {d : Nat} (hd : d ≠ 0) : (mkRat z d).num = z / ((Nat.gcd z.natAbs d : Nat) : Int) := by
  rw [Rat.num_mkRat, if_neg hd, Nat.gcd_comm]

theorem mk_den (z : Int) {d : Nat} (hd : d ≠ 0) : (mkRat z d).den = d / Nat.gcd z.natAbs d := by
  rw [Rat.den_mkRat, if_neg hd, Nat.gcd_comm]

theorem mk_num_le (z : Int) (d : Nat) : (mkRat z d).num.natAbs ≤ z.natAbs := by
  by_cases hd : d = 0
  · rw [hd, Rat.mkRat_zero]; exact Nat.zero_le _
  · rw [mk_num z hd]; exact Int.natAbs_ediv_le_natAbs _ _

theorem mk_den_le (z : Int) {d : Nat} (hd : d ≠ 0) : (mkRat z d).den ≤ d := by
  rw [mk_den z hd]; exact Nat.div_le_self _ _

theorem mk_parts (z : Int) {d : Nat} (hd : d ≠ 0) : ∃ m : Nat, m ≠ 0 ∧ z = (mkRat z d).num * (m : Int) ∧ d = (mkRat z d).den * m := by
  obtain ⟨m, h1, h2, h3⟩ := Rat.mkRat_num_den (d := d) (n := z) (n' := (mkRat z d).num) (d' := (mkRat z d).den) (z' := (mkRat z d).den_nz) (c := (mkRat z d).reduced) hd rfl
  exact ⟨m, h1, h2, h3⟩

theorem mk_neg_iff (z : Int) {d : Nat} (hd : d ≠ 0) : decide ((mkRat z d).num < 0) = decide (z < 0) := by
  obtain ⟨m, h1, h2, _⟩ := mk_parts z hd
  have hm : (0 : Int) < (m : Int) := by omega
  generalize (mkRat z d).num = k at *
  apply decide_eq_decide.2
  rw [h2]
  constructor
  · intro h; exact Int.mul_neg_of_neg_of_pos h hm
  · intro h
    apply Int.lt_of_not_ge
    intro hk
    have := Int.mul_nonneg hk (Int.le_of_lt hm)
    omega

theorem mk_zero_iff (z : Int) {d : Nat} (hd : d ≠ 0) : mkRat z d = 0 ↔ z = 0 := by
  constructor
  · intro h
    obtain ⟨m, _, h2, _⟩ := mk_parts z hd
    rw [h] at h2
    rw [h2]
    show (0 : Int) * _ = 0
    rw [Int.zero_mul]
  · rintro rfl
    exact Rat.zero_mkRat d

theorem mk_lt {a b : Int} {c d : Nat} (hc : c ≠ 0) (hd : d ≠ 0) : mkRat a c < mkRat b d ↔ a * (d : Int) < b * (c : Int) := by
  obtain ⟨m, m0, m1, m2⟩ := mk_parts a hc
  obtain ⟨k, k0, k1, k2⟩ := mk_parts b hd
  rw [Rat.lt_iff]
  generalize (mkRat a c).num = p at *
  generalize (mkRat a c).den = q at *
  generalize (mkRat b d).num = r at *
  generalize (mkRat b d).den = s at *
  subst m1 m2 k1 k2
  have hp : (0 : Int) < (m : Int) * (k : Int) := Int.mul_pos (by omega) (by omega)
  have e1 : p * (m : Int) * ((s * k : Nat) : Int) = p * (s : Int) * ((m : Int) * (k : Int)) := by rw [Int.natCast_mul]; grind
  have e2 : r * (k : Int) * ((q * m : Nat) : Int) = r * (q : Int) * ((m : Int) * (k : Int)) := by rw [Int.natCast_mul]; grind
  rw [e1, e2]
  constructor
  · intro h; exact Int.mul_lt_mul_of_pos_right h hp
  · intro h; exact Int.lt_of_mul_lt_mul_right h (Int.le_of_lt hp)

def cmpQ (a b : Rat) : Int := if a < b then -1 else if b < a then 1 else 0

theorem mk_add_same (a b : Int) {d : Nat} (hd : d ≠ 0) : mkRat a d + mkRat b d = mkRat (a + b) d := by
  rw [Rat.mkRat_add_mkRat _ _ hd hd, Rat.mkRat_eq_iff (Nat.mul_ne_zero hd hd) hd, Int.natCast_mul]
  grind

theorem mk_sub (a b : Rat) : a - b = a + -b := Rat.sub_eq_add_neg a b

theorem mk_int (z : Int) : mkRat z 1 = (z : Rat) := by
  rw [Rat.mkRat_one]

theorem divInt_neg (a b : Int) : Rat.divInt (-a) (-b) = Rat.divInt a b := by
  rw [Rat.divInt_eq_div, Rat.divInt_eq_div]
  by_cases h : b = 0
  · rw [h]; simp [Rat.div_def]
  · have : (b : Rat) ≠ 0 := by simpa using h
    simp only [Rat.intCast_neg]
    grind

theorem divInt_pos (a : Int) {d : Nat} : Rat.divInt a (d : Int) = mkRat a d := rfl

theorem div_mk {a b : Int} {c d : Nat} (hc : c ≠ 0) (hd : d ≠ 0) (hb : b ≠ 0) : mkRat a c / mkRat b d = Rat.divInt (a * (d : Int)) ((c : Int) * b) := by
  rw [Rat.divInt_eq_div, Rat.mkRat_eq_div, Rat.mkRat_eq_div]
  simp only [Rat.intCast_mul]
  have h1 : ((c : Int) : Rat) ≠ 0 := by simpa using hc
  have h2 : ((d : Int) : Rat) ≠ 0 := by simpa using hd
  have h3 : (b : Rat) ≠ 0 := by simpa using hb
  have e1 : ((c : Nat) : Rat) = ((c : Int) : Rat) := rfl
  have e2 : ((d : Nat) : Rat) = ((d : Int) : Rat) := rfl
  rw [e1, e2]
  grind

theorem floor_mk (a : Int) {d : Nat} (hd : d ≠ 0) : (mkRat a d).floor = a / (d : Int) := by
  obtain ⟨m, m0, m1, m2⟩ := mk_parts a hd
  have e : (mkRat a d).floor = (mkRat a d).num / ((mkRat a d).den : Int) := by
    unfold Rat.floor
    split
    · next h => rw [h]; simp
    · rfl
  rw [e]
  generalize (mkRat a d).num = p at *
  generalize (mkRat a d).den = q at *
  rw [m1, m2, Int.natCast_mul, Int.mul_ediv_mul_of_pos_left _ _ (by omega)]

end Go.Proofs.YtagciepnhjbopaaGreatDoor

namespace Go.Proofs.YtagciepnhjbopaaGreatDoor
open Go.RowKit

theorem bset2 {w2 : World} {b : Nat} {T : TypeId} {v0 v1 : Value} (h : Bx w2 b T #[v0, v1]) (u0 u1 : Value) : Bx ((w2.setCell ⟨b, 0, none⟩ u0).setCell ⟨b, 1, none⟩ u1) b T #[u0, u1] := by
  have h' : w2.heap[b]? = some (.cells #[v0, v1] T (0, 0)) := h
  unfold Bx
  simp [World.setCell, Array.getElem?_modify, h']

theorem bset2_fr (w2 : World) (b : Nat) (u0 u1 : Value) : Fr [b] w2 ((w2.setCell ⟨b, 0, none⟩ u0).setCell ⟨b, 1, none⟩ u1) := ((Fr.refl _ _).setCell ⟨b, 0, none⟩ _ (fun _ => List.mem_singleton.2 rfl)).setCell ⟨b, 1, none⟩ _ (fun _ => List.mem_singleton.2 rfl)

theorem fin2 {fn : Func} {a : Act} {w w2 : World} {b : Nat} {T : TypeId} {v0 v1 u0 u1 V : Value} {R : Ending → World → Prop} (hr : Bx w2 b T #[v0, v1]) (hw : Fr [] w w2) (_hb : w.heap.size ≤ b) (hd : a.defers = [])
    (hf : ∀ W' : World, W'.cell? ⟨b, 0, none⟩ = some u0 → W'.cell? ⟨b, 1, none⟩ = some u1 → (results fn a.tmps).run Tryz.prog W' = .ok V W') (hR : ∀ W' : World, Fr [b] w2 W' → Fr [] w W' → R (.returned V) W') :
    bodyPost Tryz.prog fn R .ret a ((w2.setCell ⟨b, 0, none⟩ u0).setCell ⟨b, 1, none⟩ u1) := by
  have h2 := bset2 hr u0 u1
  have fb := bset2_fr w2 b u0 u1
  exact bodyPost_ret (hf _ (h2.cell rfl) (h2.cell rfl)) hd (hR _ fb (hw.trans fb (fun x hx hl => by have := List.mem_singleton.1 hx; omega)))

theorem bset4 {w2 : World} {b : Nat} {T : TypeId} {v0 v1 v2 v3 : Value} (h : Bx w2 b T #[v0, v1, v2, v3]) (u0 u1 u2 u3 : Value) : Bx ((((w2.setCell ⟨b, 0, none⟩ u0).setCell ⟨b, 1, none⟩ u1).setCell ⟨b, 2, none⟩ u2).setCell ⟨b, 3, none⟩ u3) b T #[u0, u1, u2, u3] := by
  have h' : w2.heap[b]? = some (.cells #[v0, v1, v2, v3] T (0, 0)) := h
  unfold Bx
  simp [World.setCell, Array.getElem?_modify, h']

theorem bset4_fr (w2 : World) (b : Nat) (u0 u1 u2 u3 : Value) : Fr [b] w2 ((((w2.setCell ⟨b, 0, none⟩ u0).setCell ⟨b, 1, none⟩ u1).setCell ⟨b, 2, none⟩ u2).setCell ⟨b, 3, none⟩ u3) := ((((Fr.refl _ _).setCell ⟨b, 0, none⟩ _ (fun _ => List.mem_singleton.2 rfl)).setCell ⟨b, 1, none⟩ _ (fun _ => List.mem_singleton.2 rfl)).setCell ⟨b, 2, none⟩ _ (fun _ => List.mem_singleton.2 rfl)).setCell ⟨b, 3, none⟩ _ (fun _ => List.mem_singleton.2 rfl)

theorem fin4 {fn : Func} {a : Act} {w w2 : World} {b : Nat} {T : TypeId} {v0 v1 v2 v3 u0 u1 u2 u3 V : Value} {R : Ending → World → Prop} (hr : Bx w2 b T #[v0, v1, v2, v3]) (hw : Fr [] w w2) (_hb : w.heap.size ≤ b) (hd : a.defers = [])
    (hf : ∀ W' : World, W'.cell? ⟨b, 0, none⟩ = some u0 → W'.cell? ⟨b, 1, none⟩ = some u1 → W'.cell? ⟨b, 2, none⟩ = some u2 → W'.cell? ⟨b, 3, none⟩ = some u3 → (results fn a.tmps).run Tryz.prog W' = .ok V W') (hR : ∀ W' : World, Fr [b] w2 W' → Fr [] w W' → R (.returned V) W') :
    bodyPost Tryz.prog fn R .ret a ((((w2.setCell ⟨b, 0, none⟩ u0).setCell ⟨b, 1, none⟩ u1).setCell ⟨b, 2, none⟩ u2).setCell ⟨b, 3, none⟩ u3) := by
  have h2 := bset4 hr u0 u1 u2 u3
  have fb := bset4_fr w2 b u0 u1 u2 u3
  exact bodyPost_ret (hf _ (h2.cell rfl) (h2.cell rfl) (h2.cell rfl) (h2.cell rfl)) hd (hR _ fb (hw.trans fb (fun x hx hl => by have := List.mem_singleton.1 hx; omega)))

abbrev fw (g : Bool) (p : Option Addr) (n c : Nat) (h : Bool) (q : Option Addr) (m d : Nat) : Value := .agg #[.bool g, .slice p n c, .bool h, .slice q m d]

abbrev rw' (g : Bool) (p : Option Addr) (n c : Nat) (q : Option Addr) (m d : Nat) : Value := .agg #[.bool g, .slice p n c, .slice q m d]

theorem Ow.far {w w' : World} {base b : Nat} {p : Option Addr} {n c : Nat} {xs : List Nat} (h : Ow w base p n c xs) (f : Fr [b] w w') (_hb : b < base) : Ow w' base p n c xs :=
  h.keep f (fun k h1 _ h2 => by have := List.mem_singleton.1 h2; omega)

theorem of_one (w : World) : Calls Tryz.prog 124 #[.int .i64 1] w fun e w' => ∃ q d, e = .returned (iw false q 1 d) ∧ Ow w' w.heap.size q 1 d [1] ∧ Fr [] w w' := by
  have h := calls_ri (b := false) (m := 1) (of_any 1 w (by decide) (by decide)) (by decide) (by decide)
  rw [dg_one] at h
  exact h

theorem of_zero (w : World) : Calls Tryz.prog 124 #[.int .i64 0] w fun e w' => ∃ q d, e = .returned (iw false q 0 d) ∧ Ow w' w.heap.size q 0 d [] ∧ Fr [] w w' := by
  have h := calls_ri (b := false) (m := 0) (of_any 0 w (by decide) (by decide)) (by decide) (by decide)
  rw [dg_zero] at h
  exact h

set_option maxRecDepth 100000 in
set_option maxHeartbeats 4000000 in
theorem whole_any (g : Bool) (p : Option Addr) (n c : Nat) (w : World) :
    Calls Tryz.prog 123 #[iw g p n c] w fun e w' => ∃ q d, e = .returned (fw g p n c false q 1 d) ∧ Ow w' w.heap.size q 1 d [1] ∧ Fr [] w w' := by
  go_enter Tryz.func123, Tryz.ntmps123
  go_wp2_with fail
  have hw : Fr [] w ((w.alloc (Obj.cells #[.bool g, .slice p n c] 24)).alloc (Obj.cells #[.bool false, .slice none 0 0, .bool false, .slice none 0 0] 75)) := ((Fr.refl _ _).alloc _).alloc _
  have b0 : Bx ((w.alloc (Obj.cells #[.bool g, .slice p n c] 24)).alloc (Obj.cells #[.bool false, .slice none 0 0, .bool false, .slice none 0 0] 75)) w.heap.size 24 #[.bool g, .slice p n c] := (Bx.made' (by simp) _ _).kept ((Fr.refl _ _).alloc _)
  have r0 : Bx ((w.alloc (Obj.cells #[.bool g, .slice p n c] 24)).alloc (Obj.cells #[.bool false, .slice none 0 0, .bool false, .slice none 0 0] 75)) (w.heap.size + 1) 75 #[.bool false, .slice none 0 0, .bool false, .slice none 0 0] := (Bx.made' (by simp) _ _).kept (Fr.refl _ _)
  generalize ((w.alloc (Obj.cells #[.bool g, .slice p n c] 24)).alloc (Obj.cells #[.bool false, .slice none 0 0, .bool false, .slice none 0 0] 75)) = W at *
  have hbs := r0.lt
  have Hw := hw.drew
  have hu0 := ((Fr.refl [] W).drew).size
  have Nb0 := b0.kept (Fr.refl [] W).drew
  have Nr0 := r0.kept (Fr.refl [] W).drew
  go_region_held3 (fun w' => w'.cell? ⟨w.heap.size, 0, none⟩ = some (.bool g) ∧ w'.cell? ⟨w.heap.size, 1, none⟩ = some (.slice p n c)) (first | exact ⟨Nb0.cell (j := 0) rfl, Nb0.cell (j := 1) rfl⟩ | exact ⟨(Nb0.keep (S := [(w.heap.size + 1)]) (bset4_fr _ (w.heap.size + 1) _ _ _ _) (by simp; try omega)).cell (j := 0) rfl, (Nb0.keep (S := [(w.heap.size + 1)]) (bset4_fr _ (w.heap.size + 1) _ _ _ _) (by simp; try omega)).cell (j := 1) rfl⟩)
    (first
    | (go_at_call 124; (with_reducible refine (of_one _).mono ?_); rintro e U1 ⟨q, d, rfl, o1, ff⟩; have hu1 := ff.size; replace Hw := Hw.trans ff (by simp); replace Nb0 := Nb0.kept ff; replace Nr0 := Nr0.kept ff; clear ff; have m_b0_0 := Nb0.cell (j := 0) rfl; have q_b0_0 := Nb0.free 0; have m_b0_1 := Nb0.cell (j := 1) rfl; have q_b0_1 := Nb0.free 1; have m_r0_0 := Nr0.cell (j := 0) rfl; have q_r0_0 := Nr0.free 0; have m_r0_1 := Nr0.cell (j := 1) rfl; have q_r0_1 := Nr0.free 1; have m_r0_2 := Nr0.cell (j := 2) rfl; have q_r0_2 := Nr0.free 2; have m_r0_3 := Nr0.cell (j := 3) rfl; have q_r0_3 := Nr0.free 3))
  go_wp2_with fail
  exact fin4 Nr0 Hw (by omega) rfl (fun W' c0 c1 c2 c3 => by simp [results, Tryz.results123, go_sem, c0, c1, c2, c3]) (fun W' fb fw => ⟨q, d, rfl, (o1.far fb (by omega)).mono (by omega), fw⟩)

set_option maxRecDepth 100000 in
set_option maxHeartbeats 4000000 in
theorem pow2_any (n : Nat) (w : World) (_hn : n ≤ 65536) :
    Calls Tryz.prog 176 #[.int .i64 n] w fun e w' => ∃ q d, e = .returned (iw false q (dg (2 ^ n)).length d) ∧ Ow w' w.heap.size q (dg (2 ^ n)).length d (dg (2 ^ n)) ∧ Fr [] w w' := by
  have hs : shiftN (val [1]) (n : Int) = 2 ^ n := by rw [val_one]; unfold shiftN; rw [if_neg (by omega), if_neg (by omega)]; simp
  have HS := Lib.hid hs
  clear hs
  go_enter Tryz.func176, Tryz.ntmps176
  go_wp2_with fail
  have hw : Fr [] w ((w.alloc (Obj.cells #[.bool false, .slice none 0 0] 24)).alloc (Obj.cells #[.int .u32 1] 52)) := ((Fr.refl _ _).alloc _).alloc _
  have r0 : Bx ((w.alloc (Obj.cells #[.bool false, .slice none 0 0] 24)).alloc (Obj.cells #[.int .u32 1] 52)) w.heap.size 24 #[.bool false, .slice none 0 0] := (Bx.made' (by simp) _ _).kept ((Fr.refl _ _).alloc _)
  have s0 : Bx ((w.alloc (Obj.cells #[.bool false, .slice none 0 0] 24)).alloc (Obj.cells #[.int .u32 1] 52)) (w.heap.size + 1) 52 #[.int .u32 1] := (Bx.made' (by simp) _ _).kept (Fr.refl _ _)
  generalize ((w.alloc (Obj.cells #[.bool false, .slice none 0 0] 24)).alloc (Obj.cells #[.int .u32 1] 52)) = W at *
  have hbs := s0.lt
  have s1 : Sl W (some ⟨w.heap.size + 1, 0, none⟩) 1 1 [1] := (Ow.of_blk (base := 0) (ds := [1]) s0 (Nat.zero_le _) (by decide) (Dg.one (by decide))).sl
  have c_r0_0 := r0.cell (j := 0) rfl
  have f_r0_0 := r0.free 0
  have c_r0_1 := r0.cell (j := 1) rfl
  have f_r0_1 := r0.free 1
  have c_s0_0 := s0.cell (j := 0) rfl
  have f_s0_0 := s0.free 0
  go_wp2_with fail
  clear c_r0_0 f_r0_0 c_r0_1 f_r0_1 c_s0_0 f_s0_0
  refine (shift_any _ _ _ (n : Int) [1] _ s1 (by decide) (by omega) (by omega)).mono ?_
  rw [HS.out]
  rintro e V1 ⟨q, d, rfl, o1, ff⟩
  have hsz1 := ff.size
  replace hw := hw.trans ff (by simp)
  replace s1 := s1.kept ff
  replace r0 := r0.kept ff
  replace s0 := s0.kept ff
  clear ff
  have c_r0_0 := r0.cell (j := 0) rfl
  have f_r0_0 := r0.free 0
  have c_r0_1 := r0.cell (j := 1) rfl
  have f_r0_1 := r0.free 1
  have c_s0_0 := s0.cell (j := 0) rfl
  have f_s0_0 := s0.free 0
  go_wp2_with fail
  exact fin2 r0 hw (by omega) rfl (fun W' c0 c1 => by simp [results, Tryz.results176, go_sem, c0, c1]) (fun W' fb fw => ⟨q, d, rfl, (o1.far fb (by omega)).mono (by omega), fw⟩)

set_option maxRecDepth 100000 in
set_option maxHeartbeats 4000000 in
theorem lower_rat (g : Bool) (p : Option Addr) (n c k : Nat) (xs : List Nat) (w : World) (h1 : Sl w p n c xs) (_hn : n ≤ 1048576) (_hk : k ≤ 2147483648) :
    Calls Tryz.prog 172 #[iw g p n c, .int .i64 k] w fun e w' => ∃ q d, e = .returned (iw g q (dg (val xs / 2 ^ k)).length d) ∧ Ow w' w.heap.size q (dg (val xs / 2 ^ k)).length d (dg (val xs / 2 ^ k)) ∧ Fr [] w w' := by
  have hs : shiftN (val xs) (-(k : Int)) = val xs / 2 ^ k := shiftN_neg _ k
  have hneg : IntKind.i64.wrap (-(k : Int)) = -(k : Int) := IntWalk.i64_in _ (by omega)
  have HS := Lib.hid hs
  clear hs
  go_enter Tryz.func172, Tryz.ntmps172
  go_wp2_with fail
  have g_h1 := h1
  have hw : Fr [] w ((w.alloc (Obj.cells #[.bool g, .slice p n c] 24)).alloc (Obj.cells #[.bool false, .slice none 0 0] 24)) := ((Fr.refl _ _).alloc _).alloc _
  have b0 : Bx ((w.alloc (Obj.cells #[.bool g, .slice p n c] 24)).alloc (Obj.cells #[.bool false, .slice none 0 0] 24)) w.heap.size 24 #[.bool g, .slice p n c] := (Bx.made' (by simp) _ _).kept ((Fr.refl _ _).alloc _)
  have r0 : Bx ((w.alloc (Obj.cells #[.bool g, .slice p n c] 24)).alloc (Obj.cells #[.bool false, .slice none 0 0] 24)) (w.heap.size + 1) 24 #[.bool false, .slice none 0 0] := (Bx.made' (by simp) _ _).kept (Fr.refl _ _)
  generalize ((w.alloc (Obj.cells #[.bool g, .slice p n c] 24)).alloc (Obj.cells #[.bool false, .slice none 0 0] 24)) = W at *
  have hbs := r0.lt
  replace h1 := h1.kept hw
  have Hw := hw.drew
  have hu0 := ((Fr.refl [] W).drew).size
  have Nh1 := h1.kept (Fr.refl [] W).drew
  have Nb0 := b0.kept (Fr.refl [] W).drew
  have Nr0 := r0.kept (Fr.refl [] W).drew
  go_region_held3 (fun w' => w'.cell? ⟨w.heap.size, 0, none⟩ = some (.bool g) ∧ w'.cell? ⟨w.heap.size, 1, none⟩ = some (.slice p n c)) (first | exact ⟨Nb0.cell (j := 0) rfl, Nb0.cell (j := 1) rfl⟩ | exact ⟨(Nb0.keep (S := [(w.heap.size + 1)]) (bset2_fr _ (w.heap.size + 1) _ _) (by simp; try omega)).cell (j := 0) rfl, (Nb0.keep (S := [(w.heap.size + 1)]) (bset2_fr _ (w.heap.size + 1) _ _) (by simp; try omega)).cell (j := 1) rfl⟩)
    (first
    | (go_at_call 200; (with_reducible refine (shift_any _ _ _ (-(k : Int)) xs _ Nh1 (by omega) (by omega) (by omega)).mono ?_); rw [HS.out]; rintro e U1 ⟨q, d, rfl, o1, ff⟩; have hu1 := ff.size; replace Hw := Hw.trans ff (by simp); replace Nh1 := Nh1.kept ff; replace Nb0 := Nb0.kept ff; replace Nr0 := Nr0.kept ff; clear ff; have m_b0_0 := Nb0.cell (j := 0) rfl; have q_b0_0 := Nb0.free 0; have m_b0_1 := Nb0.cell (j := 1) rfl; have q_b0_1 := Nb0.free 1; have m_r0_0 := Nr0.cell (j := 0) rfl; have q_r0_0 := Nr0.free 0; have m_r0_1 := Nr0.cell (j := 1) rfl; have q_r0_1 := Nr0.free 1))
  go_wp2_with fail
  exact fin2 Nr0 Hw (by omega) rfl (fun W' c0 c1 => by simp [results, Tryz.results172, go_sem, c0, c1]) (fun W' fb fw => ⟨q, d, rfl, (o1.far fb (by omega)).mono (by omega), fw⟩)

end Go.Proofs.YtagciepnhjbopaaGreatDoor
