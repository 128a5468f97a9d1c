/- What the statements of this claim stand on: of CutS, Rat15, what they name -/
import Derived.Laws.Externs
import Derived.Lib.Bytealg
import Derived.Test.YtagciepnhjbopaaGreatDoorT27
import Derived.Test.YtagciepnhjbopaaGreatDoorT29

namespace Go.Proofs.YtagciepnhjbopaaGreatDoor
open Go.RowKit

theorem ixb_run (s : ByteArray) (w : World) : (callFunc 230 #[.string s, .int .u8 47]).run Tryz.prog w = .ok (.value (.int .i64 (Lib.indexByte s.data.toList 47))) w := by
  rw [run_callFunc_extern (fn := Tryz.f230) Tryz.func230 (by kernel_rfl) (by kernel_rfl) (by kernel_rfl) (e := Extern.BytealgIndexByte.indexByte) (by kernel_rfl), Lib.run_indexByteString]
  rfl

set_option maxRecDepth 100000 in
set_option maxHeartbeats 1000000 in
theorem ixbyte_any (s : ByteArray) (w : World) : Calls Tryz.prog 217 #[.string s, .int .u8 47] w fun e w' => e = .returned (.int .i64 (Lib.indexByte s.data.toList 47)) ∧ w = w' := by
  have hr := ixb_run s
  go_enter Tryz.func217, Tryz.ntmps217
  go_wp2
  go_ret
  exact ⟨rfl, rfl⟩

set_option maxRecDepth 100000 in
set_option maxHeartbeats 1000000 in
theorem index_any (s : ByteArray) (w : World) : Calls Tryz.prog 204 #[.string s, .string { data := #[47] }] w fun e w' => e = .returned (.int .i64 (Lib.indexByte s.data.toList 47)) ∧ w = w' := by
  cases hq : (([47] : List UInt8) == s.toList)
  · go_enter Tryz.func204, Tryz.ntmps204
    go_wp2_with fail
    refine (ixbyte_any s _).mono ?_
    rintro e w' ⟨rfl, rfl⟩
    go_wp2
    go_ret
    exact ⟨rfl, rfl⟩
  · have h1 : Lib.indexByte s.data.toList 47 = 0 := by
      rw [Lib.toList_data] at hq
      rw [← eq_of_beq hq]
      decide
    have H1 := Lib.hid h1
    clear h1
    go_enter Tryz.func204, Tryz.ntmps204
    go_wp2_with fail
    rw [H1.out]
    go_ret
    exact ⟨rfl, rfl⟩

set_option maxRecDepth 100000 in
set_option maxHeartbeats 1000000 in
theorem scut_no (s : ByteArray) (w : World) (h : Lib.indexByte s.data.toList 47 = -1) : Calls Tryz.prog 179 #[.string s, .string { data := #[47] }] w fun e w' => e = .returned (.tuple #[.string s, .string { data := #[] }, .bool false]) ∧ Fr [] w w' := by
  go_enter Tryz.func179, Tryz.ntmps179
  go_wp2_with fail
  refine (index_any s _).mono ?_
  rw [h]
  rintro e w' ⟨rfl, rfl⟩
  go_wp2_with fail
  go_ret3
  exact ⟨rfl, Fr.refl _ _⟩

set_option maxRecDepth 100000 in
set_option maxHeartbeats 1000000 in
theorem scut_yes (s : ByteArray) (i : Nat) (w : World) (h : Lib.indexByte s.data.toList 47 = i) (_hi : i + 1 ≤ s.size) (_hs : s.size ≤ 8192) : Calls Tryz.prog 179 #[.string s, .string { data := #[47] }] w fun e w' => e = .returned (.tuple #[.string (s.extract 0 i), .string (s.extract (i + 1) s.size), .bool true]) ∧ Fr [] w w' := by
  have HH := Lib.hid h
  clear h
  have c1 : (0 : Int) ≤ ↑i := by omega
  have c2 : (↑i : Int) ≤ ↑s.size := by omega
  have c3 : (0 : Int) ≤ ↑i + 1 := by omega
  have c4 : (↑i + 1 : Int) ≤ ↑s.size := by omega
  go_enter Tryz.func179, Tryz.ntmps179
  go_wp2_with fail
  refine (index_any s _).mono ?_
  rw [HH.out]
  rintro e w' ⟨rfl, rfl⟩
  go_wp2_with fail
  go_region
  go_wp2
  go_ret3
  exact ⟨rfl, (Fr.refl _ _).drew⟩

set_option maxRecDepth 100000 in
set_option maxHeartbeats 1000000 in
theorem cut_no (s : ByteArray) (w : World) (h : Lib.indexByte s.data.toList 47 = -1) : Calls Tryz.prog 134 #[.string s, .string { data := #[47] }] w fun e w' => e = .returned (.tuple #[.string s, .string { data := #[] }, .bool false]) ∧ Fr [] w w' := by
  go_enter Tryz.func134, Tryz.ntmps134
  go_wp2_with fail
  refine (scut_no s _ h).mono ?_
  rintro e w' ⟨rfl, f⟩
  go_wp2_with fail
  go_ret3
  exact ⟨rfl, f⟩

set_option maxRecDepth 100000 in
set_option maxHeartbeats 1000000 in
theorem cut_yes (s : ByteArray) (i : Nat) (w : World) (h : Lib.indexByte s.data.toList 47 = i) (hi : i + 1 ≤ s.size) (hs : s.size ≤ 8192) : Calls Tryz.prog 134 #[.string s, .string { data := #[47] }] w fun e w' => e = .returned (.tuple #[.string (s.extract 0 i), .string (s.extract (i + 1) s.size), .bool true]) ∧ Fr [] w w' := by
  have HH := Lib.hid h
  clear h
  go_enter Tryz.func134, Tryz.ntmps134
  go_wp2_with fail
  refine (scut_yes s i _ HH.out hi hs).mono ?_
  rintro e w' ⟨rfl, f⟩
  go_wp2_with fail
  go_ret3
  exact ⟨rfl, f⟩

end Go.Proofs.YtagciepnhjbopaaGreatDoor

namespace Go.Proofs.YtagciepnhjbopaaGreatDoor
open Go.RowKit

theorem dg_one_iff {x : Nat} {y : Nat} (h : dg x = [y]) : x = y := by
  have := val_dg x
  rw [h] at this
  rw [← this]
  simp [val]

set_option maxRecDepth 100000 in
set_option maxHeartbeats 1000000 in
theorem isone_v {w : World} {x : Nat} {u : Value} (h : VD w x u) : Calls Tryz.prog 107 #[u] w (RB (decide (x = 1)) w) := by
  obtain ⟨p, c, rfl, s⟩ := h
  by_cases h1 : (dg x).length = 1
  · obtain ⟨y, hy⟩ := List.length_eq_one_iff.1 h1
    have hxy := dg_one_iff hy
    rw [hy] at s ⊢
    obtain ⟨b, off, rfl, _, hcell⟩ := s.rd.open (Nat.succ_pos _)
    have hc0 := hcell 0 (Nat.succ_pos _)
    have hd : decide (x = 1) = ((y : Int) == 1) := by
      rw [hxy]
      by_cases e : y = 1
      · rw [e]; rfl
      · rw [decide_eq_false e]; exact (beq_eq_false_iff_ne.2 (by omega)).symm
    rw [hd]
    obtain ⟨bb, hbb⟩ : ∃ b, ((y : Int) == 1) = b := ⟨_, rfl⟩
    rw [hbb]
    have hlc : (1 : Int) ≤ (c : Int) := by have := s.le; simp at this; omega
    have hx0 : gd [y] 0 = y := rfl
    rw [hx0, Nat.add_zero] at hc0
    clear hd hxy hcell h1 hy s hx0
    go_enter Tryz.func107, Tryz.ntmps107
    go_wp2_with fail
    go_ret
    exact ⟨rfl, Fr.refl _ _⟩
  · have hx : decide (x = 1) = false := decide_eq_false (fun e => h1 (by rw [e, dg_one]; rfl))
    have ht : (((dg x).length : Int) == 1) = false := beq_eq_false_iff_ne.2 (by omega)
    rw [hx]
    clear hx h1 s
    go_enter Tryz.func107, Tryz.ntmps107
    go_wp2_with fail
    go_ret
    exact ⟨rfl, Fr.refl _ _⟩

theorem isone_e {w : World} {x : Nat} {b : Bool} {u : Value} (hb : decide (x = 1) = b) (h : VD w x u) : Calls Tryz.prog 107 #[u] w (RB b w) := hb ▸ isone_v h

theorem ifmt_e {w : World} {z : Int} {s : ByteArray} {u : Value} (hs : itx (decide (z < 0)) z.natAbs = s) (h : VZ w z u) (hz : z.natAbs < pB 10) : Calls Tryz.prog 139 #[u] w (fun e w' => e = .returned (.string s) ∧ Fr [] w w') := by
  obtain ⟨p, c, rfl, l⟩ := h
  subst hs
  have h1 := iformat_any (decide (z < 0)) (decide (z < 0)) p _ c _ w l (by have := dg_len_le hz; omega) (by rw [val_dg, iv_eq rfl rfl]) (by rw [val_dg]; exact fmt_len hz (by decide))
  rw [val_dg] at h1
  exact h1

def qtx (r : Rat) : ByteArray := if r.den = 1 then itx (decide (r.num < 0)) r.num.natAbs else itx (decide (r.num < 0)) r.num.natAbs ++ ({ data := #[47] } : ByteArray) ++ itx false r.den

theorem itx_le (b : Bool) {n : Nat} (h : n < pB 10) : (itx b n).size ≤ 4097 := by
  have := itx_size b n
  have := fmt_len h (by decide)
  omega

end Go.Proofs.YtagciepnhjbopaaGreatDoor
