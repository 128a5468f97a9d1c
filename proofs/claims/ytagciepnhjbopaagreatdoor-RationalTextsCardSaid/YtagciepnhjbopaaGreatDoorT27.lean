/- What the statements of this claim stand on: of Int15, Int16, Int17, what they name -/
import Derived.Test.YtagciepnhjbopaaGreatDoorT18
import Derived.Test.YtagciepnhjbopaaGreatDoorT19

namespace Go.Proofs.YtagciepnhjbopaaGreatDoor
open Go.RowKit

theorem minus_ext (b : ByteArray) : (({ data := #[45] } : ByteArray) ++ b).extract 1 (({ data := #[45] } : ByteArray) ++ b).size = b :=
  ByteArray.extract_append_eq_right (a := ({ data := #[45] } : ByteArray)) (b := b) (i := 1) (j := (({ data := #[45] } : ByteArray) ++ b).size) rfl (by rw [ByteArray.size_append])

theorem minus_list (b : ByteArray) : (({ data := #[45] } : ByteArray) ++ b).data.toList = 45 :: b.data.toList := by
  simp [ByteArray.data_append]

theorem head_list (s : ByteArray) (h : 1 ≤ s.size) : (s.extract 0 1).data.toList = [s.data.toList.getD 0 0] := by
  have hl : 0 < s.data.toList.length := by rw [Array.length_toList]; exact h
  rw [ByteArray.data_extract, Array.toList_extract]
  cases hd : s.data.toList with
  | nil => rw [hd] at hl; simp at hl
  | cons x xs => simp [List.extract]

theorem head_iff (s : ByteArray) (h : 1 ≤ s.size) (b : UInt8) : (s.extract 0 1 = { data := #[b] }) ↔ s.data.toList.getD 0 0 = b := by
  have h0 := head_list s h
  constructor
  · intro e
    rw [e] at h0
    simpa using h0.symm
  · intro e
    rw [e] at h0
    have : s.extract 0 1 = ⟨(s.extract 0 1).data⟩ := rfl
    rw [this]
    congr 1
    apply Array.toList_inj.1
    rw [h0]

def isM (s : ByteArray) : Prop := 1 ≤ s.size ∧ by' s 0 = 45

theorem isM_iff (s : ByteArray) (h : 1 ≤ s.size) : isM s ↔ s.extract 0 1 = { data := #[45] } := by
  rw [head_iff s h]
  unfold isM by'
  constructor
  · rintro ⟨_, e⟩
    exact UInt8.toNat_inj.1 e
  · intro e
    exact ⟨h, by rw [e]; rfl⟩

instance (s : ByteArray) : Decidable (isM s) := by unfold isM; infer_instance

theorem isM_test (s : ByteArray) (h : 1 ≤ s.size) : ((s.extract 0 1).toList == [45]) = decide (isM s) := by
  rw [Lib.toList_data, head_list s h]
  by_cases e : s.data.toList.getD 0 0 = 45
  · have hm : isM s := ⟨h, by unfold by'; rw [e]; rfl⟩
    rw [decide_eq_true hm, e]; rfl
  · have hm : ¬ isM s := fun q => e (UInt8.toNat_inj.1 q.2)
    rw [decide_eq_false hm]
    simpa using e

set_option maxRecDepth 100000 in
set_option maxHeartbeats 2000000 in
theorem hasprefix_any (s : ByteArray) (w : World) (_h : s.size ≤ 8192) :
    Calls Tryz.prog 221 #[.string s, .string { data := #[45] }] w fun e w' => e = .returned (.bool (decide (isM s))) ∧ w = w' := by
  by_cases h1 : 1 ≤ s.size
  · have ht := Lib.hid (isM_test s h1)
    go_enter Tryz.func221, Tryz.ntmps221
    go_wp2_with fail
    go_ret
    rw [ht.out]
    exact ⟨rfl, rfl⟩
  · have hf : decide (isM s) = false := decide_eq_false (fun q => h1 q.1)
    rw [hf]
    clear hf
    go_enter Tryz.func221, Tryz.ntmps221
    go_wp2_with fail
    go_ret
    exact ⟨rfl, rfl⟩

end Go.Proofs.YtagciepnhjbopaaGreatDoor

namespace Go.Proofs.YtagciepnhjbopaaGreatDoor
open Go.RowKit

theorem fin_gen {fn : Func} {a : Act} {w w2 : World} {b n c : Nat} {v0 v1 V : Value} {g : Bool} {p : Option Addr} {ys : List Nat} {R : Ending → World → Prop} (hr : Bx w2 b 24 #[v0, v1]) (hw : Fr [] w w2) {base : Nat} (hs : Ow w2 base p n c ys) (_hb : w.heap.size ≤ b) (_hbb : b < base) (hd : a.defers = [])
    (hf : ∀ W' : World, W'.cell? ⟨b, 0, none⟩ = some (.bool g) → W'.cell? ⟨b, 1, none⟩ = some (.slice p n c) → (results fn a.tmps).run Tryz.prog W' = .ok V W')
    (hR : ∀ W' : World, Ow W' w.heap.size p n c ys → Fr [] w W' → R (.returned V) W') :
    bodyPost Tryz.prog fn R .ret a ((w2.setCell ⟨b, 0, none⟩ (.bool g)).setCell ⟨b, 1, none⟩ (.slice p n c)) := by
  have h2 := hr.set2 (.bool g) (.slice p n c)
  have f3 := set2_fr w2 b (.bool g) (.slice p n c)
  have f2 := hw.trans f3 (fun x hx hl => by have := List.mem_singleton.1 hx; omega)
  have s2 := (hs.keep f3 (fun k h1 _ h2 => by have := List.mem_singleton.1 h2; omega)).mono (show w.heap.size ≤ base by omega)
  exact bodyPost_ret (hf _ (h2.cell rfl) (h2.cell rfl)) hd (hR _ s2 f2)

set_option maxRecDepth 100000 in
set_option maxHeartbeats 2000000 in
theorem iparse_bad (b : Bool) (s t : ByteArray) (w : World) (_hs : s.size ≤ 4096) (ht : t.size ≤ 4096) (hc : ∀ W : World, Calls Tryz.prog 180 #[.string s, .string { data := #[45] }] W fun e w' => e = .returned (.tuple #[.string t, .bool b]) ∧ Fr [] W w') (hp : pre t = 6) :
    Calls Tryz.prog 135 #[.string s] w (fun e w' => e = .returned (.tuple #[iw false none 0 0, .int .i64 6]) ∧ Fr [] w w') := by
  have hd : decide ((4096 : Int) < (s.size : Int)) = false := decide_eq_false (by omega)
  have hd2 : decide (4096 < s.size) = false := decide_eq_false (by omega)
  have HP := Lib.hid hp
  clear hp
  go_enter Tryz.func135, Tryz.ntmps135
  go_wp2_with fail
  have hw : Fr [] w (w.alloc (Obj.cells #[.bool false, .slice none 0 0] 24)) := (Fr.refl _ _).alloc _
  have r0 : Bx (w.alloc (Obj.cells #[.bool false, .slice none 0 0] 24)) w.heap.size 24 #[.bool false, .slice none 0 0] := (Bx.made' (by simp) _ _).kept (Fr.refl _ _)
  generalize (w.alloc (Obj.cells #[.bool false, .slice none 0 0] 24)) = W at *
  have hbs := r0.lt
  have HC := Lib.hid hc
  clear hc
  have c_r0_0 := r0.cell (j := 0) rfl
  have f_r0_0 := r0.free 0
  have c_r0_1 := r0.cell (j := 1) rfl
  have f_r0_1 := r0.free 1
  go_wp2_with fail
  clear c_r0_0 f_r0_0 c_r0_1 f_r0_1
  refine (HC.out _).mono ?_
  rintro e V1 ⟨rfl, ff⟩
  have hsz1 := ff.size
  replace hw := hw.trans ff (by simp)
  replace r0 := r0.kept ff
  clear ff
  have c_r0_0 := r0.cell (j := 0) rfl
  have f_r0_0 := r0.free 0
  have c_r0_1 := r0.cell (j := 1) rfl
  have f_r0_1 := r0.free 1
  go_wp2_with fail
  clear c_r0_0 f_r0_0 c_r0_1 f_r0_1
  refine (parse_sl t _ ht).mono ?_
  rw [HP.out]
  rintro e V2 ⟨p1, c1, rfl, o1, ff⟩
  have hsz2 := ff.size
  replace hw := hw.trans ff (by simp)
  replace r0 := r0.kept ff
  clear ff
  have c_r0_0 := r0.cell (j := 0) rfl
  have f_r0_0 := r0.free 0
  have c_r0_1 := r0.cell (j := 1) rfl
  have f_r0_1 := r0.free 1
  go_wp2
  exact fin_gen r0 hw (Ow.zero _ (w.heap.size + 1)) (by omega) (by omega) rfl (fun W' c0 c1 => by simp [results, Tryz.results135, go_sem, c0, c1]) (fun W' h1 h2 => ⟨rfl, h2⟩)

set_option maxRecDepth 100000 in
set_option maxHeartbeats 2000000 in
theorem iparse_zero (s t : ByteArray) (w : World) (_hs : s.size ≤ 4096) (ht : t.size ≤ 4096) (hc : ∀ W : World, Calls Tryz.prog 180 #[.string s, .string { data := #[45] }] W fun e w' => e = .returned (.tuple #[.string t, .bool true]) ∧ Fr [] W w') (hp : pre t = 0) (hl : (prx t).length = 0) :
    Calls Tryz.prog 135 #[.string s] w (fun e w' => e = .returned (.tuple #[iw false none 0 0, .int .i64 6]) ∧ Fr [] w w') := by
  have hd : decide ((4096 : Int) < (s.size : Int)) = false := decide_eq_false (by omega)
  have hd2 : decide (4096 < s.size) = false := decide_eq_false (by omega)
  have HP := Lib.hid hp
  clear hp
  have hl1 : (((prx t).length : Int) == 0) = true := by rw [hl]; rfl
  clear hl
  go_enter Tryz.func135, Tryz.ntmps135
  go_wp2_with fail
  have hw : Fr [] w (w.alloc (Obj.cells #[.bool false, .slice none 0 0] 24)) := (Fr.refl _ _).alloc _
  have r0 : Bx (w.alloc (Obj.cells #[.bool false, .slice none 0 0] 24)) w.heap.size 24 #[.bool false, .slice none 0 0] := (Bx.made' (by simp) _ _).kept (Fr.refl _ _)
  generalize (w.alloc (Obj.cells #[.bool false, .slice none 0 0] 24)) = W at *
  have hbs := r0.lt
  have HC := Lib.hid hc
  clear hc
  have c_r0_0 := r0.cell (j := 0) rfl
  have f_r0_0 := r0.free 0
  have c_r0_1 := r0.cell (j := 1) rfl
  have f_r0_1 := r0.free 1
  go_wp2_with fail
  clear c_r0_0 f_r0_0 c_r0_1 f_r0_1
  refine (HC.out _).mono ?_
  rintro e V1 ⟨rfl, ff⟩
  have hsz1 := ff.size
  replace hw := hw.trans ff (by simp)
  replace r0 := r0.kept ff
  clear ff
  have c_r0_0 := r0.cell (j := 0) rfl
  have f_r0_0 := r0.free 0
  have c_r0_1 := r0.cell (j := 1) rfl
  have f_r0_1 := r0.free 1
  go_wp2_with fail
  clear c_r0_0 f_r0_0 c_r0_1 f_r0_1
  refine (parse_sl t _ ht).mono ?_
  rw [HP.out]
  rintro e V2 ⟨p1, c1, rfl, o1, ff⟩
  have hsz2 := ff.size
  replace hw := hw.trans ff (by simp)
  replace r0 := r0.kept ff
  clear ff
  have c_r0_0 := r0.cell (j := 0) rfl
  have f_r0_0 := r0.free 0
  have c_r0_1 := r0.cell (j := 1) rfl
  have f_r0_1 := r0.free 1
  go_wp2
  exact fin_gen r0 hw (Ow.zero _ (w.heap.size + 1)) (by omega) (by omega) rfl (fun W' c0 c1 => by simp [results, Tryz.results135, go_sem, c0, c1]) (fun W' h1 h2 => ⟨rfl, h2⟩)

set_option maxRecDepth 100000 in
set_option maxHeartbeats 2000000 in
theorem iparse_pos (s t : ByteArray) (w : World) (_hs : s.size ≤ 4096) (ht : t.size ≤ 4096) (hc : ∀ W : World, Calls Tryz.prog 180 #[.string s, .string { data := #[45] }] W fun e w' => e = .returned (.tuple #[.string t, .bool false]) ∧ Fr [] W w') (hp : pre t = 0) :
    Calls Tryz.prog 135 #[.string s] w (fun e w' => ∃ p c, e = .returned (.tuple #[iw false p (prx t).length c, .int .i64 0]) ∧ Ow w' w.heap.size p (prx t).length c (prx t) ∧ Fr [] w w') := by
  have hd : decide ((4096 : Int) < (s.size : Int)) = false := decide_eq_false (by omega)
  have hd2 : decide (4096 < s.size) = false := decide_eq_false (by omega)
  have HP := Lib.hid hp
  clear hp
  go_enter Tryz.func135, Tryz.ntmps135
  go_wp2_with fail
  have hw : Fr [] w (w.alloc (Obj.cells #[.bool false, .slice none 0 0] 24)) := (Fr.refl _ _).alloc _
  have r0 : Bx (w.alloc (Obj.cells #[.bool false, .slice none 0 0] 24)) w.heap.size 24 #[.bool false, .slice none 0 0] := (Bx.made' (by simp) _ _).kept (Fr.refl _ _)
  generalize (w.alloc (Obj.cells #[.bool false, .slice none 0 0] 24)) = W at *
  have hbs := r0.lt
  have HC := Lib.hid hc
  clear hc
  have c_r0_0 := r0.cell (j := 0) rfl
  have f_r0_0 := r0.free 0
  have c_r0_1 := r0.cell (j := 1) rfl
  have f_r0_1 := r0.free 1
  go_wp2_with fail
  clear c_r0_0 f_r0_0 c_r0_1 f_r0_1
  refine (HC.out _).mono ?_
  rintro e V1 ⟨rfl, ff⟩
  have hsz1 := ff.size
  replace hw := hw.trans ff (by simp)
  replace r0 := r0.kept ff
  clear ff
  have c_r0_0 := r0.cell (j := 0) rfl
  have f_r0_0 := r0.free 0
  have c_r0_1 := r0.cell (j := 1) rfl
  have f_r0_1 := r0.free 1
  go_wp2_with fail
  clear c_r0_0 f_r0_0 c_r0_1 f_r0_1
  refine (parse_sl t _ ht).mono ?_
  rw [HP.out]
  rintro e V2 ⟨p1, c1, rfl, o1, ff⟩
  have hsz2 := ff.size
  replace hw := hw.trans ff (by simp)
  replace r0 := r0.kept ff
  clear ff
  have c_r0_0 := r0.cell (j := 0) rfl
  have f_r0_0 := r0.free 0
  have c_r0_1 := r0.cell (j := 1) rfl
  have f_r0_1 := r0.free 1
  go_wp2_with fail
  clear c_r0_0 f_r0_0 c_r0_1 f_r0_1
  refine (signed_any _ _ _ _ _).mono ?_
  rw [Bool.false_and]
  rintro e V3 ⟨rfl, ff⟩
  have hsz3 := ff.size
  replace hw := hw.trans ff (by simp)
  replace o1 := o1.kept ff
  replace r0 := r0.kept ff
  clear ff
  have c_r0_0 := r0.cell (j := 0) rfl
  have f_r0_0 := r0.free 0
  have c_r0_1 := r0.cell (j := 1) rfl
  have f_r0_1 := r0.free 1
  go_wp2
  exact fin_gen r0 hw o1 (by omega) (by omega) rfl (fun W' c0 c1 => by simp [results, Tryz.results135, go_sem, c0, c1]) (fun W' h1 h2 => ⟨p1, c1, rfl, h1, h2⟩)

set_option maxRecDepth 100000 in
set_option maxHeartbeats 2000000 in
theorem iparse_neg (s t : ByteArray) (w : World) (_hs : s.size ≤ 4096) (ht : t.size ≤ 4096) (hc : ∀ W : World, Calls Tryz.prog 180 #[.string s, .string { data := #[45] }] W fun e w' => e = .returned (.tuple #[.string t, .bool true]) ∧ Fr [] W w') (hp : pre t = 0) (hl : 0 < (prx t).length) :
    Calls Tryz.prog 135 #[.string s] w (fun e w' => ∃ p c, e = .returned (.tuple #[iw true p (prx t).length c, .int .i64 0]) ∧ Ow w' w.heap.size p (prx t).length c (prx t) ∧ Fr [] w w') := by
  have hd : decide ((4096 : Int) < (s.size : Int)) = false := decide_eq_false (by omega)
  have hd2 : decide (4096 < s.size) = false := decide_eq_false (by omega)
  have HP := Lib.hid hp
  clear hp
  have hl1 : (((prx t).length : Int) == 0) = false := beq_eq_false_iff_ne.2 (by omega)
  have hl2 : decide (0 < (prx t).length) = true := decide_eq_true hl
  have HL := Lib.hid hl2
  clear hl hl2
  go_enter Tryz.func135, Tryz.ntmps135
  go_wp2_with fail
  have hw : Fr [] w (w.alloc (Obj.cells #[.bool false, .slice none 0 0] 24)) := (Fr.refl _ _).alloc _
  have r0 : Bx (w.alloc (Obj.cells #[.bool false, .slice none 0 0] 24)) w.heap.size 24 #[.bool false, .slice none 0 0] := (Bx.made' (by simp) _ _).kept (Fr.refl _ _)
  generalize (w.alloc (Obj.cells #[.bool false, .slice none 0 0] 24)) = W at *
  have hbs := r0.lt
  have HC := Lib.hid hc
  clear hc
  have c_r0_0 := r0.cell (j := 0) rfl
  have f_r0_0 := r0.free 0
  have c_r0_1 := r0.cell (j := 1) rfl
  have f_r0_1 := r0.free 1
  go_wp2_with fail
  clear c_r0_0 f_r0_0 c_r0_1 f_r0_1
  refine (HC.out _).mono ?_
  rintro e V1 ⟨rfl, ff⟩
  have hsz1 := ff.size
  replace hw := hw.trans ff (by simp)
  replace r0 := r0.kept ff
  clear ff
  have c_r0_0 := r0.cell (j := 0) rfl
  have f_r0_0 := r0.free 0
  have c_r0_1 := r0.cell (j := 1) rfl
  have f_r0_1 := r0.free 1
  go_wp2_with fail
  clear c_r0_0 f_r0_0 c_r0_1 f_r0_1
  refine (parse_sl t _ ht).mono ?_
  rw [HP.out]
  rintro e V2 ⟨p1, c1, rfl, o1, ff⟩
  have hsz2 := ff.size
  replace hw := hw.trans ff (by simp)
  replace r0 := r0.kept ff
  clear ff
  have c_r0_0 := r0.cell (j := 0) rfl
  have f_r0_0 := r0.free 0
  have c_r0_1 := r0.cell (j := 1) rfl
  have f_r0_1 := r0.free 1
  go_wp2_with fail
  clear c_r0_0 f_r0_0 c_r0_1 f_r0_1
  refine (signed_any _ _ _ _ _).mono ?_
  rw [Bool.true_and, HL.out]
  rintro e V3 ⟨rfl, ff⟩
  have hsz3 := ff.size
  replace hw := hw.trans ff (by simp)
  replace o1 := o1.kept ff
  replace r0 := r0.kept ff
  clear ff
  have c_r0_0 := r0.cell (j := 0) rfl
  have f_r0_0 := r0.free 0
  have c_r0_1 := r0.cell (j := 1) rfl
  have f_r0_1 := r0.free 1
  go_wp2
  exact fin_gen r0 hw o1 (by omega) (by omega) rfl (fun W' c0 c1 => by simp [results, Tryz.results135, go_sem, c0, c1]) (fun W' h1 h2 => ⟨p1, c1, rfl, h1, h2⟩)

end Go.Proofs.YtagciepnhjbopaaGreatDoor

namespace Go.Proofs.YtagciepnhjbopaaGreatDoor
open Go.RowKit

def ibody (s : ByteArray) : ByteArray := if isM s then s.extract 1 s.size else s

theorem ibody_yes {s : ByteArray} (h : isM s) : ibody s = s.extract 1 s.size := if_pos h

theorem ibody_no {s : ByteArray} (h : ¬ isM s) : ibody s = s := if_neg h

theorem ibody_size (s : ByteArray) : (ibody s).size ≤ s.size := by
  unfold ibody
  split
  · rw [ByteArray.size_extract]; omega
  · exact Nat.le_refl _

open Classical in

noncomputable def ipe (s : ByteArray) : Int := if pre (ibody s) = 0 ∧ ¬ (isM s ∧ prx (ibody s) = []) then 0 else 6

open Classical in

noncomputable def ips (s : ByteArray) : Bool := if ipe s = 0 then decide (isM s) else false

open Classical in

noncomputable def ipx (s : ByteArray) : List Nat := if ipe s = 0 then prx (ibody s) else []

theorem pre_cases (s : ByteArray) : pre s = 0 ∨ pre s = 6 := by
  unfold pre
  split
  · exact Or.inl rfl
  · exact Or.inr rfl

theorem cutprefix_any (s : ByteArray) (w : World) (_h : s.size ≤ 4096) :
    Calls Tryz.prog 205 #[.string s, .string { data := #[45] }] w fun e w' => e = .returned (.tuple #[.string (ibody s), .bool (decide (isM s))]) ∧ w = w' := by
  by_cases hm : isM s
  · have hd : decide (isM s) = true := decide_eq_true hm
    have h1 := hm.1
    have HB := Lib.hid (ibody_yes hm)
    have HD := Lib.hid hd
    clear hm
    go_enter Tryz.func205, Tryz.ntmps205
    go_wp2_with fail
    refine (hasprefix_any s _ (by omega)).mono ?_
    rw [hd]
    rintro e w' ⟨rfl, rfl⟩
    clear hd
    go_wp2_with fail
    go_ret2
    rw [HB.out, HD.out]
    exact ⟨rfl, rfl⟩
  · have hd : decide (isM s) = false := decide_eq_false hm
    have HB := Lib.hid (ibody_no hm)
    have HD := Lib.hid hd
    clear hm
    go_enter Tryz.func205, Tryz.ntmps205
    go_wp2_with fail
    refine (hasprefix_any s _ (by omega)).mono ?_
    rw [hd]
    rintro e w' ⟨rfl, rfl⟩
    clear hd
    go_wp2_with fail
    go_ret2
    rw [HB.out, HD.out]
    exact ⟨rfl, rfl⟩

theorem scut_any (s : ByteArray) (w : World) (h : s.size ≤ 4096) :
    Calls Tryz.prog 180 #[.string s, .string { data := #[45] }] w fun e w' => e = .returned (.tuple #[.string (ibody s), .bool (decide (isM s))]) ∧ Fr [] w w' := by
  go_enter Tryz.func180, Tryz.ntmps180
  go_wp2_with fail
  refine (cutprefix_any s _ h).mono ?_
  rintro e w' ⟨rfl, rfl⟩
  go_wp2_with fail
  go_ret2
  exact ⟨rfl, Fr.refl _ _⟩

def RetP (w : World) (s : ByteArray) (e : Ending) (w' : World) : Prop :=
  ∃ p c, e = .returned (.tuple #[iw (ips s) p (ipx s).length c, .int .i64 (ipe s)]) ∧ Ow w' w.heap.size p (ipx s).length c (ipx s) ∧ Fr [] w w'

theorem retp_bad {w : World} {s : ByteArray} (h : ipe s = 6) : ∀ e w', e = .returned (.tuple #[iw false none 0 0, .int .i64 6]) ∧ Fr [] w w' → RetP w s e w' := by
  rintro e w' ⟨rfl, hf⟩
  have h1 : ips s = false := by unfold ips; rw [h]; rfl
  have h2 : ipx s = [] := by unfold ipx; rw [h]; rfl
  unfold RetP
  rw [h, h1, h2]
  exact ⟨none, 0, rfl, Ow.zero _ _, hf⟩

theorem retp_good {w : World} {s : ByteArray} (h : ipe s = 0) (b : Bool) (hb : decide (isM s) = b) : ∀ e w', (∃ p c, e = .returned (.tuple #[iw b p (prx (ibody s)).length c, .int .i64 0]) ∧ Ow w' w.heap.size p (prx (ibody s)).length c (prx (ibody s)) ∧ Fr [] w w') → RetP w s e w' := by
  rintro e w' ⟨p, c, rfl, ho, hf⟩
  have h1 : ips s = b := by unfold ips; rw [h, if_pos rfl, hb]
  have h2 : ipx s = prx (ibody s) := by unfold ipx; rw [h, if_pos rfl]
  unfold RetP
  rw [h, h1, h2]
  exact ⟨p, c, rfl, ho, hf⟩

theorem iparse_any (s : ByteArray) (w : World) (h : s.size ≤ 4096) : Calls Tryz.prog 135 #[.string s] w (RetP w s) := by
  have hl := Nat.le_trans (ibody_size s) h
  rcases pre_cases (ibody s) with h0 | h6
  · by_cases hm : isM s
    · have hd : decide (isM s) = true := decide_eq_true hm
      by_cases hx : prx (ibody s) = []
      · have he : ipe s = 6 := if_neg (fun q => q.2 ⟨hm, hx⟩)
        exact (iparse_zero s (ibody s) w h hl (fun W => by rw [← hd]; exact scut_any s W h) h0 (by rw [hx]; rfl)).mono (retp_bad he)
      · have he : ipe s = 0 := if_pos ⟨h0, fun q => hx q.2⟩
        exact (iparse_neg s (ibody s) w h hl (fun W => by rw [← hd]; exact scut_any s W h) h0 (List.length_pos_iff.2 hx)).mono (retp_good he true hd)
    · have hd : decide (isM s) = false := decide_eq_false hm
      have he : ipe s = 0 := if_pos ⟨h0, fun q => hm q.1⟩
      exact (iparse_pos s (ibody s) w h hl (fun W => by rw [← hd]; exact scut_any s W h) h0).mono (retp_good he false hd)
  · have he : ipe s = 6 := if_neg (fun q => by rw [h6] at q; exact absurd q.1 (by decide))
    exact (iparse_bad (decide (isM s)) s (ibody s) w h hl (fun W => scut_any s W h) h6).mono (retp_bad he)

set_option maxRecDepth 100000 in
set_option maxHeartbeats 2000000 in
theorem rparse_mbad (s : ByteArray) (w : World) (hs : s.size ≤ 4096) (hm : isM s) (hp : pre (ibody s) = 6) :
    Calls Tryz.prog 137 #[.string s] w (fun e w' => e = .returned (.tuple #[iw false none 0 0, .int .i64 6]) ∧ Fr [] w w') := by
  have hd : decide ((4096 : Int) < (s.size : Int)) = false := decide_eq_false (by omega)
  have hl := Nat.le_trans (ibody_size s) hs
  have HP := Lib.hid hp
  have h1 := hm.1
  have hby := by'_at s
  have h45 : ((by' s 0 : Int) == 45) = true := beq_iff_eq.2 (by have := hm.2; omega)
  have HB := Lib.hid (ibody_yes hm)
  clear hp hm
  go_enter Tryz.func137, Tryz.ntmps137
  go_wp2_with fail
  have hw : Fr [] w (w.alloc (Obj.cells #[.bool false, .slice none 0 0] 24)) := (Fr.refl _ _).alloc _
  have r0 : Bx (w.alloc (Obj.cells #[.bool false, .slice none 0 0] 24)) w.heap.size 24 #[.bool false, .slice none 0 0] := (Bx.made' (by simp) _ _).kept (Fr.refl _ _)
  generalize (w.alloc (Obj.cells #[.bool false, .slice none 0 0] 24)) = W at *
  have hbs := r0.lt
  have c_r0_0 := r0.cell (j := 0) rfl
  have f_r0_0 := r0.free 0
  have c_r0_1 := r0.cell (j := 1) rfl
  have f_r0_1 := r0.free 1
  go_wp2_with fail
  clear c_r0_0 f_r0_0 c_r0_1 f_r0_1
  rw [← HB.out]
  refine (rparse_sl (ibody s) _ hl).mono ?_
  rw [HP.out]
  rintro e V1 ⟨p1, c1, rfl, o1, ff⟩
  replace hw := hw.trans ff (by simp)
  replace r0 := r0.kept ff
  have hsz1 := ff.size
  clear ff
  have c_r0_0 := r0.cell (j := 0) rfl
  have f_r0_0 := r0.free 0
  have c_r0_1 := r0.cell (j := 1) rfl
  have f_r0_1 := r0.free 1
  go_wp2_with fail
  exact fin_gen r0 hw (Ow.zero _ (w.heap.size + 1)) (by omega) (by omega) rfl (fun W' c0 c1 => by simp [results, Tryz.results137, go_sem, c0, c1]) (fun W' h1 h2 => ⟨rfl, h2⟩)

set_option maxRecDepth 100000 in
set_option maxHeartbeats 2000000 in
theorem rparse_mzero (s : ByteArray) (w : World) (hs : s.size ≤ 4096) (hm : isM s) (hp : pre (ibody s) = 0) (hx : (prx (ibody s)).length = 0) :
    Calls Tryz.prog 137 #[.string s] w (fun e w' => e = .returned (.tuple #[iw false none 0 0, .int .i64 6]) ∧ Fr [] w w') := by
  have hd : decide ((4096 : Int) < (s.size : Int)) = false := decide_eq_false (by omega)
  have hl := Nat.le_trans (ibody_size s) hs
  have HP := Lib.hid hp
  have h1 := hm.1
  have hby := by'_at s
  have h45 : ((by' s 0 : Int) == 45) = true := beq_iff_eq.2 (by have := hm.2; omega)
  have HB := Lib.hid (ibody_yes hm)
  clear hp hm
  have hl1 : (((prx (ibody s)).length : Int) == 0) = true := by rw [hx]; rfl
  clear hx
  go_enter Tryz.func137, Tryz.ntmps137
  go_wp2_with fail
  have hw : Fr [] w (w.alloc (Obj.cells #[.bool false, .slice none 0 0] 24)) := (Fr.refl _ _).alloc _
  have r0 : Bx (w.alloc (Obj.cells #[.bool false, .slice none 0 0] 24)) w.heap.size 24 #[.bool false, .slice none 0 0] := (Bx.made' (by simp) _ _).kept (Fr.refl _ _)
  generalize (w.alloc (Obj.cells #[.bool false, .slice none 0 0] 24)) = W at *
  have hbs := r0.lt
  have c_r0_0 := r0.cell (j := 0) rfl
  have f_r0_0 := r0.free 0
  have c_r0_1 := r0.cell (j := 1) rfl
  have f_r0_1 := r0.free 1
  go_wp2_with fail
  clear c_r0_0 f_r0_0 c_r0_1 f_r0_1
  rw [← HB.out]
  refine (rparse_sl (ibody s) _ hl).mono ?_
  rw [HP.out]
  rintro e V1 ⟨p1, c1, rfl, o1, ff⟩
  replace hw := hw.trans ff (by simp)
  replace r0 := r0.kept ff
  have hsz1 := ff.size
  clear ff
  have c_r0_0 := r0.cell (j := 0) rfl
  have f_r0_0 := r0.free 0
  have c_r0_1 := r0.cell (j := 1) rfl
  have f_r0_1 := r0.free 1
  go_wp2_with fail
  exact fin_gen r0 hw (Ow.zero _ (w.heap.size + 1)) (by omega) (by omega) rfl (fun W' c0 c1 => by simp [results, Tryz.results137, go_sem, c0, c1]) (fun W' h1 h2 => ⟨rfl, h2⟩)

set_option maxRecDepth 100000 in
set_option maxHeartbeats 2000000 in
theorem rparse_mneg (s : ByteArray) (w : World) (hs : s.size ≤ 4096) (hm : isM s) (hp : pre (ibody s) = 0) (_hx : 0 < (prx (ibody s)).length) :
    Calls Tryz.prog 137 #[.string s] w (fun e w' => ∃ p c, e = .returned (.tuple #[iw true p (prx (ibody s)).length c, .int .i64 0]) ∧ Ow w' w.heap.size p (prx (ibody s)).length c (prx (ibody s)) ∧ Fr [] w w') := by
  have hd : decide ((4096 : Int) < (s.size : Int)) = false := decide_eq_false (by omega)
  have hl := Nat.le_trans (ibody_size s) hs
  have HP := Lib.hid hp
  have h1 := hm.1
  have hby := by'_at s
  have h45 : ((by' s 0 : Int) == 45) = true := beq_iff_eq.2 (by have := hm.2; omega)
  have HB := Lib.hid (ibody_yes hm)
  clear hp hm
  have hl1 : (((prx (ibody s)).length : Int) == 0) = false := beq_eq_false_iff_ne.2 (by omega)
  clear _hx
  go_enter Tryz.func137, Tryz.ntmps137
  go_wp2_with fail
  have hw : Fr [] w (w.alloc (Obj.cells #[.bool false, .slice none 0 0] 24)) := (Fr.refl _ _).alloc _
  have r0 : Bx (w.alloc (Obj.cells #[.bool false, .slice none 0 0] 24)) w.heap.size 24 #[.bool false, .slice none 0 0] := (Bx.made' (by simp) _ _).kept (Fr.refl _ _)
  generalize (w.alloc (Obj.cells #[.bool false, .slice none 0 0] 24)) = W at *
  have hbs := r0.lt
  have c_r0_0 := r0.cell (j := 0) rfl
  have f_r0_0 := r0.free 0
  have c_r0_1 := r0.cell (j := 1) rfl
  have f_r0_1 := r0.free 1
  go_wp2_with fail
  clear c_r0_0 f_r0_0 c_r0_1 f_r0_1
  rw [← HB.out]
  refine (rparse_sl (ibody s) _ hl).mono ?_
  rw [HP.out]
  rintro e V1 ⟨p1, c1, rfl, o1, ff⟩
  replace hw := hw.trans ff (by simp)
  replace r0 := r0.kept ff
  have hsz1 := ff.size
  clear ff
  have c_r0_0 := r0.cell (j := 0) rfl
  have f_r0_0 := r0.free 0
  have c_r0_1 := r0.cell (j := 1) rfl
  have f_r0_1 := r0.free 1
  go_wp2_with fail
  exact fin_gen r0 hw o1 (by omega) (by omega) rfl (fun W' c0 c1 => by simp [results, Tryz.results137, go_sem, c0, c1]) (fun W' h1 h2 => ⟨p1, c1, rfl, h1, h2⟩)

set_option maxRecDepth 100000 in
set_option maxHeartbeats 2000000 in
theorem rparse_pbad (s : ByteArray) (w : World) (hs : s.size ≤ 4096) (hm : ¬ isM s) (hp : pre (ibody s) = 6) :
    Calls Tryz.prog 137 #[.string s] w (fun e w' => e = .returned (.tuple #[iw false none 0 0, .int .i64 6]) ∧ Fr [] w w') := by
  have hd : decide ((4096 : Int) < (s.size : Int)) = false := decide_eq_false (by omega)
  have hl := Nat.le_trans (ibody_size s) hs
  have HP := Lib.hid hp
  have HB := Lib.hid (ibody_no hm)
  have hps : decide (0 < s.size) = false ∨ ((by' s 0 : Int) == 45) = false := by
    by_cases q : 0 < s.size
    · exact Or.inr (beq_eq_false_iff_ne.2 (fun e => hm ⟨q, by omega⟩))
    · exact Or.inl (decide_eq_false q)
  by_cases h1 : 1 ≤ s.size
  case' pos => have h45 : ((by' s 0 : Int) == 45) = false := hps.resolve_left (by rw [decide_eq_true (by omega)]; decide)
  case' pos => have hby := by'_at s
  case' neg => have h45 : s.size = 0 := by omega
  case' neg => have hz : decide ((0 : Int) < (s.size : Int)) = false := decide_eq_false (by omega)
  case' neg => clear h45
  all_goals
    clear hp hm hps
    go_enter Tryz.func137, Tryz.ntmps137
    go_wp2_with fail
    have hw : Fr [] w (w.alloc (Obj.cells #[.bool false, .slice none 0 0] 24)) := (Fr.refl _ _).alloc _
    have r0 : Bx (w.alloc (Obj.cells #[.bool false, .slice none 0 0] 24)) w.heap.size 24 #[.bool false, .slice none 0 0] := (Bx.made' (by simp) _ _).kept (Fr.refl _ _)
    generalize (w.alloc (Obj.cells #[.bool false, .slice none 0 0] 24)) = W at *
    have hbs := r0.lt
    have c_r0_0 := r0.cell (j := 0) rfl
    have f_r0_0 := r0.free 0
    have c_r0_1 := r0.cell (j := 1) rfl
    have f_r0_1 := r0.free 1
    go_wp2_with fail
    clear c_r0_0 f_r0_0 c_r0_1 f_r0_1
    rw [HB.out] at HP hl
    refine (rparse_sl s _ hl).mono ?_
    rw [HP.out]
    rintro e V1 ⟨p1, c1, rfl, o1, ff⟩
    replace hw := hw.trans ff (by simp)
    replace r0 := r0.kept ff
    have hsz1 := ff.size
    clear ff
    have c_r0_0 := r0.cell (j := 0) rfl
    have f_r0_0 := r0.free 0
    have c_r0_1 := r0.cell (j := 1) rfl
    have f_r0_1 := r0.free 1
    go_wp2_with fail
    exact fin_gen r0 hw (Ow.zero _ (w.heap.size + 1)) (by omega) (by omega) rfl (fun W' c0 c1 => by simp [results, Tryz.results137, go_sem, c0, c1]) (fun W' h1 h2 => ⟨rfl, h2⟩)

set_option maxRecDepth 100000 in
set_option maxHeartbeats 2000000 in
theorem rparse_ppos (s : ByteArray) (w : World) (hs : s.size ≤ 4096) (hm : ¬ isM s) (hp : pre (ibody s) = 0) :
    Calls Tryz.prog 137 #[.string s] w (fun e w' => ∃ p c, e = .returned (.tuple #[iw false p (prx s).length c, .int .i64 0]) ∧ Ow w' w.heap.size p (prx s).length c (prx s) ∧ Fr [] w w') := by
  have hd : decide ((4096 : Int) < (s.size : Int)) = false := decide_eq_false (by omega)
  have hl := Nat.le_trans (ibody_size s) hs
  have HP := Lib.hid hp
  have HB := Lib.hid (ibody_no hm)
  have hps : decide (0 < s.size) = false ∨ ((by' s 0 : Int) == 45) = false := by
    by_cases q : 0 < s.size
    · exact Or.inr (beq_eq_false_iff_ne.2 (fun e => hm ⟨q, by omega⟩))
    · exact Or.inl (decide_eq_false q)
  by_cases h1 : 1 ≤ s.size
  case' pos => have h45 : ((by' s 0 : Int) == 45) = false := hps.resolve_left (by rw [decide_eq_true (by omega)]; decide)
  case' pos => have hby := by'_at s
  case' neg => have h45 : s.size = 0 := by omega
  case' neg => have hz : decide ((0 : Int) < (s.size : Int)) = false := decide_eq_false (by omega)
  case' neg => clear h45
  all_goals
    clear hp hm hps
    go_enter Tryz.func137, Tryz.ntmps137
    go_wp2_with fail
    have hw : Fr [] w (w.alloc (Obj.cells #[.bool false, .slice none 0 0] 24)) := (Fr.refl _ _).alloc _
    have r0 : Bx (w.alloc (Obj.cells #[.bool false, .slice none 0 0] 24)) w.heap.size 24 #[.bool false, .slice none 0 0] := (Bx.made' (by simp) _ _).kept (Fr.refl _ _)
    generalize (w.alloc (Obj.cells #[.bool false, .slice none 0 0] 24)) = W at *
    have hbs := r0.lt
    have c_r0_0 := r0.cell (j := 0) rfl
    have f_r0_0 := r0.free 0
    have c_r0_1 := r0.cell (j := 1) rfl
    have f_r0_1 := r0.free 1
    go_wp2_with fail
    clear c_r0_0 f_r0_0 c_r0_1 f_r0_1
    rw [HB.out] at HP hl
    refine (rparse_sl s _ hl).mono ?_
    rw [HP.out]
    rintro e V1 ⟨p1, c1, rfl, o1, ff⟩
    replace hw := hw.trans ff (by simp)
    replace r0 := r0.kept ff
    have hsz1 := ff.size
    clear ff
    have c_r0_0 := r0.cell (j := 0) rfl
    have f_r0_0 := r0.free 0
    have c_r0_1 := r0.cell (j := 1) rfl
    have f_r0_1 := r0.free 1
    go_wp2_with fail
    exact fin_gen r0 hw o1 (by omega) (by omega) rfl (fun W' c0 c1 => by simp [results, Tryz.results137, go_sem, c0, c1]) (fun W' h1 h2 => ⟨p1, c1, rfl, h1, h2⟩)

theorem rparseI_any (s : ByteArray) (w : World) (h : s.size ≤ 4096) : Calls Tryz.prog 137 #[.string s] w (RetP w s) := by
  rcases pre_cases (ibody s) with h0 | h6
  · by_cases hm : isM s
    · have hd : decide (isM s) = true := decide_eq_true hm
      by_cases hx : prx (ibody s) = []
      · have he : ipe s = 6 := if_neg (fun q => q.2 ⟨hm, hx⟩)
        exact (rparse_mzero s w h hm h0 (by rw [hx]; rfl)).mono (retp_bad he)
      · have he : ipe s = 0 := if_pos ⟨h0, fun q => hx q.2⟩
        exact (rparse_mneg s w h hm h0 (List.length_pos_iff.2 hx)).mono (retp_good he true hd)
    · have hd : decide (isM s) = false := decide_eq_false hm
      have he : ipe s = 0 := if_pos ⟨h0, fun q => hm q.1⟩
      exact (rparse_ppos s w h hm h0).mono (fun e w' q => retp_good he false hd e w' (by rw [ibody_no hm]; exact q))
  · have he : ipe s = 6 := if_neg (fun q => by rw [h6] at q; exact absurd q.1 (by decide))
    by_cases hm : isM s
    · exact (rparse_mbad s w h hm h6).mono (retp_bad he)
    · exact (rparse_pbad s w h hm h6).mono (retp_bad he)

def itx (s : Bool) (M : Nat) : ByteArray := if s then ({ data := #[45] } : ByteArray) ++ txt (fmt M) else txt (fmt M)

theorem isM_itx (M : Nat) : isM (itx true M) := by
  have hl := minus_list (txt (fmt M))
  refine ⟨?_, ?_⟩
  · show 1 ≤ (({ data := #[45] } : ByteArray) ++ txt (fmt M)).size
    rw [ByteArray.size_append]
    show 1 ≤ 1 + _
    omega
  · unfold by'
    show ((({ data := #[45] } : ByteArray) ++ txt (fmt M)).data.toList.getD 0 0).toNat = 45
    rw [hl]; rfl

theorem isM_fmt (M : Nat) : ¬ isM (itx false M) := by
  intro h
  have h1 := (fmt_good M).2.2 0 h.1
  have h2 : by' (txt (fmt M)) 0 = 45 := h.2
  omega

theorem ibody_itx (s : Bool) (M : Nat) : ibody (itx s M) = txt (fmt M) := by
  cases s
  · exact ibody_no (isM_fmt M)
  · rw [ibody_yes (isM_itx M)]
    exact minus_ext _

theorem ipe_itx {s : Bool} {M : Nat} (h : s = true → M ≠ 0) : ipe (itx s M) = 0 := by
  unfold ipe
  rw [ibody_itx, pre_fmt, prx_fmt]
  refine if_pos ⟨rfl, fun q => ?_⟩
  cases s
  · exact isM_fmt M q.1
  · exact h rfl (dg_nil.1 q.2)

theorem ips_itx {s : Bool} {M : Nat} (h : s = true → M ≠ 0) : ips (itx s M) = s := by
  unfold ips
  rw [ipe_itx h, if_pos rfl]
  cases s
  · exact decide_eq_false (isM_fmt M)
  · exact decide_eq_true (isM_itx M)

theorem ipx_itx {s : Bool} {M : Nat} (h : s = true → M ≠ 0) : ipx (itx s M) = dg M := by
  unfold ipx
  rw [ipe_itx h, if_pos rfl, ibody_itx, prx_fmt]

theorem itx_size (s : Bool) (M : Nat) : (itx s M).size ≤ 1 + (txt (fmt M)).size := by
  cases s
  · show (txt (fmt M)).size ≤ _; omega
  · show (({ data := #[45] } : ByteArray) ++ txt (fmt M)).size ≤ _
    rw [ByteArray.size_append]; exact Nat.le_refl _

theorem iformat_any (s : Bool) (g : Bool) (p : Option Addr) (n c : Nat) (xs : List Nat) (w : World) (h1 : Sl w p n c xs) (hn : n ≤ 1048576) (hb : decide (iv g (val xs) < 0) = s) (hz : (txt (fmt (val xs))).size ≤ 4096) :
    Calls Tryz.prog 139 #[iw g p n c] w (fun e w' => e = .returned (.string (itx s (val xs))) ∧ Fr [] w w') := by
  cases s
  · exact iformat_false g p n c xs w h1 hn hb hz
  · exact iformat_true g p n c xs w h1 hn hb hz

theorem rformatI_any (s : Bool) (g : Bool) (p : Option Addr) (n c : Nat) (xs : List Nat) (w : World) (h1 : Sl w p n c xs) (hn : n ≤ 1048576) (hb : decide (iv g (val xs) < 0) = s) (hz : (txt (fmt (val xs))).size ≤ 4096) :
    Calls Tryz.prog 140 #[iw g p n c] w (fun e w' => e = .returned (.string (itx s (val xs))) ∧ Fr [] w w') := by
  cases s
  · exact rformat_false g p n c xs w h1 hn hb hz
  · exact rformat_true g p n c xs w h1 hn hb hz

end Go.Proofs.YtagciepnhjbopaaGreatDoor
