/- Integers: Parse of the program and of the document. Written by wip/gen/gen_int16.py. -/
import Derived.Test.YtfjhdhmneknmkaaInt15
namespace Go.Proofs.Ytfjhdhmneknmkaa
open Go.RowKit

/-- The end of a call that lays an Int into its result's cells and hands back more besides. -/
theorem fin_gen {fn : Func} {a : Act} {w w2 : World} {b n c : Nat} {v0 v1 V : Value} {g : Bool} {p : Option Addr} {ys : List Nat} {R : Ending → World → Prop} (hr : Bx w2 b 40 #[v0, v1]) (hw : Fr [] w w2) {base : Nat} (hs : Ow w2 base p n c ys) (hb : w.heap.size ≤ b) (hbb : b < base) (hd : a.defers = [])
    (hf : ∀ W' : World, W'.cell? ⟨b, 0, none⟩ = some (.bool g) → W'.cell? ⟨b, 1, none⟩ = some (.slice p n c) → (results fn a.tmps).run Try.prog W' = .ok V W')
    (hR : ∀ W' : World, Ow W' w.heap.size p n c ys → Fr [] w W' → R (.returned V) W') :
    bodyPost Try.prog fn R .ret a ((w2.setCell ⟨b, 0, none⟩ (.bool g)).setCell ⟨b, 1, none⟩ (.slice p n c)) := by
  have h2 := hr.set2 (.bool g) (.slice p n c)
  have f3 := set2_fr w2 b (.bool g) (.slice p n c)
  have f2 := hw.trans f3 (fun x hx hl => by have := List.mem_singleton.1 hx; omega)
  have s2 := (hs.keep f3 (fun k h1 _ h2 => by have := List.mem_singleton.1 h2; omega)).mono (show w.heap.size ≤ base by omega)
  exact bodyPost_ret (hf _ (h2.cell rfl) (h2.cell rfl)) hd (hR _ s2 f2)

set_option maxRecDepth 100000 in
set_option maxHeartbeats 2000000 in
theorem iparse_bad (b : Bool) (s t : ByteArray) (w : World) (hs : s.size ≤ 4096) (ht : t.size ≤ 4096) (hc : ∀ W : World, Calls Try.prog 89 #[.string s, .string { data := #[45] }] W fun e w' => e = .returned (.tuple #[.string t, .bool b]) ∧ Fr [] W w') (hp : pre t = 6) :
    Calls Try.prog 55 #[.string s] w (fun e w' => e = .returned (.tuple #[iw false none 0 0, .int .i64 6]) ∧ Fr [] w w') := by
  have hd : decide ((4096 : Int) < (s.size : Int)) = false := decide_eq_false (by omega)
  have hd2 : decide (4096 < s.size) = false := decide_eq_false (by omega)
  have HP := Lib.hid hp
  clear hp
  go_enter Try.func55, Try.ntmps55
  go_wp2_with fail
  have hw : Fr [] w (w.alloc (Obj.cells #[.bool false, .slice none 0 0] 40)) := (Fr.refl _ _).alloc _
  have r0 : Bx (w.alloc (Obj.cells #[.bool false, .slice none 0 0] 40)) w.heap.size 40 #[.bool false, .slice none 0 0] := (Bx.made' (by simp) _ _).kept (Fr.refl _ _)
  generalize (w.alloc (Obj.cells #[.bool false, .slice none 0 0] 40)) = W at *
  have hbs := r0.lt
  have HC := Lib.hid hc
  clear hc
  have c_r0_0 := r0.cell (j := 0) rfl
  have f_r0_0 := r0.free 0
  have c_r0_1 := r0.cell (j := 1) rfl
  have f_r0_1 := r0.free 1
  go_wp2_with fail
  clear c_r0_0 f_r0_0 c_r0_1 f_r0_1
  refine (HC.out _).mono ?_
  rintro e V1 ⟨rfl, ff⟩
  have hsz1 := ff.size
  replace hw := hw.trans ff (by simp)
  replace r0 := r0.kept ff
  clear ff
  have c_r0_0 := r0.cell (j := 0) rfl
  have f_r0_0 := r0.free 0
  have c_r0_1 := r0.cell (j := 1) rfl
  have f_r0_1 := r0.free 1
  go_wp2_with fail
  clear c_r0_0 f_r0_0 c_r0_1 f_r0_1
  refine (parse_sl t _ ht).mono ?_
  rw [HP.out]
  rintro e V2 ⟨p1, c1, rfl, o1, ff⟩
  have hsz2 := ff.size
  replace hw := hw.trans ff (by simp)
  replace r0 := r0.kept ff
  clear ff
  have c_r0_0 := r0.cell (j := 0) rfl
  have f_r0_0 := r0.free 0
  have c_r0_1 := r0.cell (j := 1) rfl
  have f_r0_1 := r0.free 1
  go_wp2
  exact fin_gen r0 hw (Ow.zero _ (w.heap.size + 1)) (by omega) (by omega) rfl (fun W' c0 c1 => by simp [results, Try.results55, go_sem, c0, c1]) (fun W' h1 h2 => ⟨rfl, h2⟩)

set_option maxRecDepth 100000 in
set_option maxHeartbeats 2000000 in
theorem iparse_zero (s t : ByteArray) (w : World) (hs : s.size ≤ 4096) (ht : t.size ≤ 4096) (hc : ∀ W : World, Calls Try.prog 89 #[.string s, .string { data := #[45] }] W fun e w' => e = .returned (.tuple #[.string t, .bool true]) ∧ Fr [] W w') (hp : pre t = 0) (hl : (prx t).length = 0) :
    Calls Try.prog 55 #[.string s] w (fun e w' => e = .returned (.tuple #[iw false none 0 0, .int .i64 6]) ∧ Fr [] w w') := by
  have hd : decide ((4096 : Int) < (s.size : Int)) = false := decide_eq_false (by omega)
  have hd2 : decide (4096 < s.size) = false := decide_eq_false (by omega)
  have HP := Lib.hid hp
  clear hp
  have hl1 : (((prx t).length : Int) == 0) = true := by rw [hl]; rfl
  clear hl
  go_enter Try.func55, Try.ntmps55
  go_wp2_with fail
  have hw : Fr [] w (w.alloc (Obj.cells #[.bool false, .slice none 0 0] 40)) := (Fr.refl _ _).alloc _
  have r0 : Bx (w.alloc (Obj.cells #[.bool false, .slice none 0 0] 40)) w.heap.size 40 #[.bool false, .slice none 0 0] := (Bx.made' (by simp) _ _).kept (Fr.refl _ _)
  generalize (w.alloc (Obj.cells #[.bool false, .slice none 0 0] 40)) = W at *
  have hbs := r0.lt
  have HC := Lib.hid hc
  clear hc
  have c_r0_0 := r0.cell (j := 0) rfl
  have f_r0_0 := r0.free 0
  have c_r0_1 := r0.cell (j := 1) rfl
  have f_r0_1 := r0.free 1
  go_wp2_with fail
  clear c_r0_0 f_r0_0 c_r0_1 f_r0_1
  refine (HC.out _).mono ?_
  rintro e V1 ⟨rfl, ff⟩
  have hsz1 := ff.size
  replace hw := hw.trans ff (by simp)
  replace r0 := r0.kept ff
  clear ff
  have c_r0_0 := r0.cell (j := 0) rfl
  have f_r0_0 := r0.free 0
  have c_r0_1 := r0.cell (j := 1) rfl
  have f_r0_1 := r0.free 1
  go_wp2_with fail
  clear c_r0_0 f_r0_0 c_r0_1 f_r0_1
  refine (parse_sl t _ ht).mono ?_
  rw [HP.out]
  rintro e V2 ⟨p1, c1, rfl, o1, ff⟩
  have hsz2 := ff.size
  replace hw := hw.trans ff (by simp)
  replace r0 := r0.kept ff
  clear ff
  have c_r0_0 := r0.cell (j := 0) rfl
  have f_r0_0 := r0.free 0
  have c_r0_1 := r0.cell (j := 1) rfl
  have f_r0_1 := r0.free 1
  go_wp2
  exact fin_gen r0 hw (Ow.zero _ (w.heap.size + 1)) (by omega) (by omega) rfl (fun W' c0 c1 => by simp [results, Try.results55, go_sem, c0, c1]) (fun W' h1 h2 => ⟨rfl, h2⟩)

set_option maxRecDepth 100000 in
set_option maxHeartbeats 2000000 in
theorem iparse_pos (s t : ByteArray) (w : World) (hs : s.size ≤ 4096) (ht : t.size ≤ 4096) (hc : ∀ W : World, Calls Try.prog 89 #[.string s, .string { data := #[45] }] W fun e w' => e = .returned (.tuple #[.string t, .bool false]) ∧ Fr [] W w') (hp : pre t = 0) :
    Calls Try.prog 55 #[.string s] w (fun e w' => ∃ p c, e = .returned (.tuple #[iw false p (prx t).length c, .int .i64 0]) ∧ Ow w' w.heap.size p (prx t).length c (prx t) ∧ Fr [] w w') := by
  have hd : decide ((4096 : Int) < (s.size : Int)) = false := decide_eq_false (by omega)
  have hd2 : decide (4096 < s.size) = false := decide_eq_false (by omega)
  have HP := Lib.hid hp
  clear hp
  go_enter Try.func55, Try.ntmps55
  go_wp2_with fail
  have hw : Fr [] w (w.alloc (Obj.cells #[.bool false, .slice none 0 0] 40)) := (Fr.refl _ _).alloc _
  have r0 : Bx (w.alloc (Obj.cells #[.bool false, .slice none 0 0] 40)) w.heap.size 40 #[.bool false, .slice none 0 0] := (Bx.made' (by simp) _ _).kept (Fr.refl _ _)
  generalize (w.alloc (Obj.cells #[.bool false, .slice none 0 0] 40)) = W at *
  have hbs := r0.lt
  have HC := Lib.hid hc
  clear hc
  have c_r0_0 := r0.cell (j := 0) rfl
  have f_r0_0 := r0.free 0
  have c_r0_1 := r0.cell (j := 1) rfl
  have f_r0_1 := r0.free 1
  go_wp2_with fail
  clear c_r0_0 f_r0_0 c_r0_1 f_r0_1
  refine (HC.out _).mono ?_
  rintro e V1 ⟨rfl, ff⟩
  have hsz1 := ff.size
  replace hw := hw.trans ff (by simp)
  replace r0 := r0.kept ff
  clear ff
  have c_r0_0 := r0.cell (j := 0) rfl
  have f_r0_0 := r0.free 0
  have c_r0_1 := r0.cell (j := 1) rfl
  have f_r0_1 := r0.free 1
  go_wp2_with fail
  clear c_r0_0 f_r0_0 c_r0_1 f_r0_1
  refine (parse_sl t _ ht).mono ?_
  rw [HP.out]
  rintro e V2 ⟨p1, c1, rfl, o1, ff⟩
  have hsz2 := ff.size
  replace hw := hw.trans ff (by simp)
  replace r0 := r0.kept ff
  clear ff
  have c_r0_0 := r0.cell (j := 0) rfl
  have f_r0_0 := r0.free 0
  have c_r0_1 := r0.cell (j := 1) rfl
  have f_r0_1 := r0.free 1
  go_wp2_with fail
  clear c_r0_0 f_r0_0 c_r0_1 f_r0_1
  refine (signed_any _ _ _ _ _).mono ?_
  rw [Bool.false_and]
  rintro e V3 ⟨rfl, ff⟩
  have hsz3 := ff.size
  replace hw := hw.trans ff (by simp)
  replace o1 := o1.kept ff
  replace r0 := r0.kept ff
  clear ff
  have c_r0_0 := r0.cell (j := 0) rfl
  have f_r0_0 := r0.free 0
  have c_r0_1 := r0.cell (j := 1) rfl
  have f_r0_1 := r0.free 1
  go_wp2
  exact fin_gen r0 hw o1 (by omega) (by omega) rfl (fun W' c0 c1 => by simp [results, Try.results55, go_sem, c0, c1]) (fun W' h1 h2 => ⟨p1, c1, rfl, h1, h2⟩)

set_option maxRecDepth 100000 in
set_option maxHeartbeats 2000000 in
theorem iparse_neg (s t : ByteArray) (w : World) (hs : s.size ≤ 4096) (ht : t.size ≤ 4096) (hc : ∀ W : World, Calls Try.prog 89 #[.string s, .string { data := #[45] }] W fun e w' => e = .returned (.tuple #[.string t, .bool true]) ∧ Fr [] W w') (hp : pre t = 0) (hl : 0 < (prx t).length) :
    Calls Try.prog 55 #[.string s] w (fun e w' => ∃ p c, e = .returned (.tuple #[iw true p (prx t).length c, .int .i64 0]) ∧ Ow w' w.heap.size p (prx t).length c (prx t) ∧ Fr [] w w') := by
  have hd : decide ((4096 : Int) < (s.size : Int)) = false := decide_eq_false (by omega)
  have hd2 : decide (4096 < s.size) = false := decide_eq_false (by omega)
  have HP := Lib.hid hp
  clear hp
  have hl1 : (((prx t).length : Int) == 0) = false := beq_eq_false_iff_ne.2 (by omega)
  have hl2 : decide (0 < (prx t).length) = true := decide_eq_true hl
  have HL := Lib.hid hl2
  clear hl hl2
  go_enter Try.func55, Try.ntmps55
  go_wp2_with fail
  have hw : Fr [] w (w.alloc (Obj.cells #[.bool false, .slice none 0 0] 40)) := (Fr.refl _ _).alloc _
  have r0 : Bx (w.alloc (Obj.cells #[.bool false, .slice none 0 0] 40)) w.heap.size 40 #[.bool false, .slice none 0 0] := (Bx.made' (by simp) _ _).kept (Fr.refl _ _)
  generalize (w.alloc (Obj.cells #[.bool false, .slice none 0 0] 40)) = W at *
  have hbs := r0.lt
  have HC := Lib.hid hc
  clear hc
  have c_r0_0 := r0.cell (j := 0) rfl
  have f_r0_0 := r0.free 0
  have c_r0_1 := r0.cell (j := 1) rfl
  have f_r0_1 := r0.free 1
  go_wp2_with fail
  clear c_r0_0 f_r0_0 c_r0_1 f_r0_1
  refine (HC.out _).mono ?_
  rintro e V1 ⟨rfl, ff⟩
  have hsz1 := ff.size
  replace hw := hw.trans ff (by simp)
  replace r0 := r0.kept ff
  clear ff
  have c_r0_0 := r0.cell (j := 0) rfl
  have f_r0_0 := r0.free 0
  have c_r0_1 := r0.cell (j := 1) rfl
  have f_r0_1 := r0.free 1
  go_wp2_with fail
  clear c_r0_0 f_r0_0 c_r0_1 f_r0_1
  refine (parse_sl t _ ht).mono ?_
  rw [HP.out]
  rintro e V2 ⟨p1, c1, rfl, o1, ff⟩
  have hsz2 := ff.size
  replace hw := hw.trans ff (by simp)
  replace r0 := r0.kept ff
  clear ff
  have c_r0_0 := r0.cell (j := 0) rfl
  have f_r0_0 := r0.free 0
  have c_r0_1 := r0.cell (j := 1) rfl
  have f_r0_1 := r0.free 1
  go_wp2_with fail
  clear c_r0_0 f_r0_0 c_r0_1 f_r0_1
  refine (signed_any _ _ _ _ _).mono ?_
  rw [Bool.true_and, HL.out]
  rintro e V3 ⟨rfl, ff⟩
  have hsz3 := ff.size
  replace hw := hw.trans ff (by simp)
  replace o1 := o1.kept ff
  replace r0 := r0.kept ff
  clear ff
  have c_r0_0 := r0.cell (j := 0) rfl
  have f_r0_0 := r0.free 0
  have c_r0_1 := r0.cell (j := 1) rfl
  have f_r0_1 := r0.free 1
  go_wp2
  exact fin_gen r0 hw o1 (by omega) (by omega) rfl (fun W' c0 c1 => by simp [results, Try.results55, go_sem, c0, c1]) (fun W' h1 h2 => ⟨p1, c1, rfl, h1, h2⟩)

end Go.Proofs.Ytfjhdhmneknmkaa
