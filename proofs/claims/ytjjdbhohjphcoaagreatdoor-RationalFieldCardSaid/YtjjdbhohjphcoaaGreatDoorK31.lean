/- What the statements of this claim stand on: of CutS, Rat15, what they name -/
import Derived.Laws.Externs
import Derived.Lib.Bytealg
import Derived.Test.YtjjdbhohjphcoaaGreatDoorK25
import Derived.Test.YtjjdbhohjphcoaaGreatDoorK27

namespace Go.Proofs.YtjjdbhohjphcoaaGreatDoor
open Go.RowKit

theorem ixb_run (s : ByteArray) (w : World) : (callFunc 230 #[.string s, .int .u8 47]).run Tryz.prog w = .ok (.value (.int .i64 (Lib.indexByte s.data.toList 47))) w := by
  rw [run_callFunc_extern (fn := Tryz.f230) Tryz.func230 (by kernel_rfl) (by kernel_rfl) (by kernel_rfl) (e := Extern.BytealgIndexByte.indexByte) (by kernel_rfl), Lib.run_indexByteString]
  rfl

set_option maxRecDepth 100000 in
set_option maxHeartbeats 1000000 in
theorem ixbyte_any (s : ByteArray) (w : World) : Calls Tryz.prog 217 #[.string s, .int .u8 47] w fun e w' => e = .returned (.int .i64 (Lib.indexByte s.data.toList 47)) ∧ w = w' := by
  have hr := ixb_run s
  go_enter Tryz.func217, Tryz.ntmps217
  go_wp2
  go_ret
  exact ⟨rfl, rfl⟩

set_option maxRecDepth 100000 in
set_option maxHeartbeats 1000000 in
theorem index_any (s : ByteArray) (w : World) : Calls Tryz.prog 204 #[.string s, .string { data := #[47] }] w fun e w' => e = .returned (.int .i64 (Lib.indexByte s.data.toList 47)) ∧ w = w' := by
  cases hq : (([47] : List UInt8) == s.toList)
  · go_enter Tryz.func204, Tryz.ntmps204
    go_wp2_with fail
    refine (ixbyte_any s _).mono ?_
    rintro e w' ⟨rfl, rfl⟩
    go_wp2
    go_ret
    exact ⟨rfl, rfl⟩
  · have h1 : Lib.indexByte s.data.toList 47 = 0 := by
      rw [Lib.toList_data] at hq
      rw [← eq_of_beq hq]
      decide
    have H1 := Lib.hid h1
    clear h1
    go_enter Tryz.func204, Tryz.ntmps204
    go_wp2_with fail
    rw [H1.out]
    go_ret
    exact ⟨rfl, rfl⟩

set_option maxRecDepth 100000 in
set_option maxHeartbeats 1000000 in
theorem scut_yes (s : ByteArray) (i : Nat) (w : World) (h : Lib.indexByte s.data.toList 47 = i) (_hi : i + 1 ≤ s.size) (_hs : s.size ≤ 8192) : Calls Tryz.prog 179 #[.string s, .string { data := #[47] }] w fun e w' => e = .returned (.tuple #[.string (s.extract 0 i), .string (s.extract (i + 1) s.size), .bool true]) ∧ Fr [] w w' := by
  have HH := Lib.hid h
  clear h
  have c1 : (0 : Int) ≤ ↑i := by omega
  have c2 : (↑i : Int) ≤ ↑s.size := by omega
  have c3 : (0 : Int) ≤ ↑i + 1 := by omega
  have c4 : (↑i + 1 : Int) ≤ ↑s.size := by omega
  go_enter Tryz.func179, Tryz.ntmps179
  go_wp2_with fail
  refine (index_any s _).mono ?_
  rw [HH.out]
  rintro e w' ⟨rfl, rfl⟩
  go_wp2_with fail
  go_region
  go_wp2
  go_ret3
  exact ⟨rfl, (Fr.refl _ _).drew⟩

set_option maxRecDepth 100000 in
set_option maxHeartbeats 1000000 in
theorem cut_yes (s : ByteArray) (i : Nat) (w : World) (h : Lib.indexByte s.data.toList 47 = i) (hi : i + 1 ≤ s.size) (hs : s.size ≤ 8192) : Calls Tryz.prog 134 #[.string s, .string { data := #[47] }] w fun e w' => e = .returned (.tuple #[.string (s.extract 0 i), .string (s.extract (i + 1) s.size), .bool true]) ∧ Fr [] w w' := by
  have HH := Lib.hid h
  clear h
  go_enter Tryz.func134, Tryz.ntmps134
  go_wp2_with fail
  refine (scut_yes s i _ HH.out hi hs).mono ?_
  rintro e w' ⟨rfl, f⟩
  go_wp2_with fail
  go_ret3
  exact ⟨rfl, f⟩

end Go.Proofs.YtjjdbhohjphcoaaGreatDoor

namespace Go.Proofs.YtjjdbhohjphcoaaGreatDoor
open Go.RowKit

theorem dg_one_iff {x : Nat} {y : Nat} (h : dg x = [y]) : x = y := by
  have := val_dg x
  rw [h] at this
  rw [← this]
  simp [val]

set_option maxRecDepth 100000 in
set_option maxHeartbeats 1000000 in
theorem isone_v {w : World} {x : Nat} {u : Value} (h : VD w x u) : Calls Tryz.prog 107 #[u] w (RB (decide (x = 1)) w) := by
  obtain ⟨p, c, rfl, s⟩ := h
  by_cases h1 : (dg x).length = 1
  · obtain ⟨y, hy⟩ := List.length_eq_one_iff.1 h1
    have hxy := dg_one_iff hy
    rw [hy] at s ⊢
    obtain ⟨b, off, rfl, _, hcell⟩ := s.rd.open (Nat.succ_pos _)
    have hc0 := hcell 0 (Nat.succ_pos _)
    have hd : decide (x = 1) = ((y : Int) == 1) := by
      rw [hxy]
      by_cases e : y = 1
      · rw [e]; rfl
      · rw [decide_eq_false e]; exact (beq_eq_false_iff_ne.2 (by omega)).symm
    rw [hd]
    obtain ⟨bb, hbb⟩ : ∃ b, ((y : Int) == 1) = b := ⟨_, rfl⟩
    rw [hbb]
    have hlc : (1 : Int) ≤ (c : Int) := by have := s.le; simp at this; omega
    have hx0 : gd [y] 0 = y := rfl
    rw [hx0, Nat.add_zero] at hc0
    clear hd hxy hcell h1 hy s hx0
    go_enter Tryz.func107, Tryz.ntmps107
    go_wp2_with fail
    go_ret
    exact ⟨rfl, Fr.refl _ _⟩
  · have hx : decide (x = 1) = false := decide_eq_false (fun e => h1 (by rw [e, dg_one]; rfl))
    have ht : (((dg x).length : Int) == 1) = false := beq_eq_false_iff_ne.2 (by omega)
    rw [hx]
    clear hx h1 s
    go_enter Tryz.func107, Tryz.ntmps107
    go_wp2_with fail
    go_ret
    exact ⟨rfl, Fr.refl _ _⟩

theorem isone_e {w : World} {x : Nat} {b : Bool} {u : Value} (hb : decide (x = 1) = b) (h : VD w x u) : Calls Tryz.prog 107 #[u] w (RB b w) := hb ▸ isone_v h

theorem ifmt_e {w : World} {z : Int} {s : ByteArray} {u : Value} (hs : itx (decide (z < 0)) z.natAbs = s) (h : VZ w z u) (hz : z.natAbs < pB 10) : Calls Tryz.prog 139 #[u] w (fun e w' => e = .returned (.string s) ∧ Fr [] w w') := by
  obtain ⟨p, c, rfl, l⟩ := h
  subst hs
  have h1 := iformat_any (decide (z < 0)) (decide (z < 0)) p _ c _ w l (by have := dg_len_le hz; omega) (by rw [val_dg, iv_eq rfl rfl]) (by rw [val_dg]; exact fmt_len hz (by decide))
  rw [val_dg] at h1
  exact h1

theorem vd_nat' {w : World} {k : Nat} {p : Option Addr} {c : Nat} (s : Sl w p (dg k).length c (dg k)) : VZ w (k : Int) (iw false p (dg k).length c) := by
  refine ⟨p, c, ?_, ?_⟩
  · rw [Int.natAbs_natCast, decide_eq_false (by omega)]
  · rw [Int.natAbs_natCast]; exact s

def qtx (r : Rat) : ByteArray := if r.den = 1 then itx (decide (r.num < 0)) r.num.natAbs else itx (decide (r.num < 0)) r.num.natAbs ++ ({ data := #[47] } : ByteArray) ++ itx false r.den

theorem itx_le (b : Bool) {n : Nat} (h : n < pB 10) : (itx b n).size ≤ 4097 := by
  have := itx_size b n
  have := fmt_len h (by decide)
  omega

theorem itx_nat (n : Nat) : itx (decide ((n : Int) < 0)) (n : Int).natAbs = itx false n := by
  rw [Int.natAbs_natCast, decide_eq_false (by omega)]

set_option maxRecDepth 100000 in
set_option maxHeartbeats 1000000 in
theorem qformat_0 {w : World} {L : Nat} {r : Rat} {va : Value} (ht : Tab w) (h1 : VR w L r va) (_hL : L ≤ 65535) (hn : r.num.natAbs < pB 10) (hdn : r.den < pB 10) (hd : r.den ≠ 1) : Calls Tryz.prog 58 #[va] w (fun e w' => e = .returned (.string (qtx r)) ∧ Fr [] w w') := by
  obtain ⟨sa, hsa⟩ : ∃ s, itx (decide (r.num < 0)) r.num.natAbs = s := ⟨_, rfl⟩
  have hb : decide (r.den = 1) = false := decide_eq_false hd
  obtain ⟨sb, hsb⟩ : ∃ s, itx false r.den = s := ⟨_, rfl⟩
  have hq : qtx r = sa ++ ({ data := #[47] } : ByteArray) ++ sb := by unfold qtx; rw [if_neg hd, hsa, hsb]
  rw [hq]
  have la : sa.size ≤ 4097 := by rw [← hsa]; exact itx_le _ hn
  have lb : sb.size ≤ 4097 := by rw [← hsb]; exact itx_le _ hdn
  have q1 : ¬ 9223372036854775807 < sa.size + 1 := by omega
  have q2 : ¬ 9223372036854775807 < sa.size + 1 + sb.size := by omega
  have hsb2 : itx (decide ((r.den : Int) < 0)) (r.den : Int).natAbs = sb := by rw [itx_nat]; exact hsb
  have Hhsa := Lib.hid hsa; clear hsa
  have Hhb := Lib.hid hb; clear hb
  have Hhn := Lib.hid hn; clear hn
  have Hhdn := Lib.hid hdn; clear hdn
  have Hhsb2 := Lib.hid hsb2; clear hsb2
  clear hq hd hsb
  have o_h1 := h1
  obtain ⟨ga, pa, na, ca, Xa, qa, ma, da, Ya, rfl, -, -, -, -, -⟩ := o_h1
  go_enter Tryz.func58, Tryz.ntmps58
  go_upto_region 1 with fail
  have hw : Fr [] w (w.alloc (Obj.cells #[.bool ga, .slice pa na ca, .slice qa ma da] 26)) := (Fr.refl _ _).alloc _
  have b1 : Bx (w.alloc (Obj.cells #[.bool ga, .slice pa na ca, .slice qa ma da] 26)) w.heap.size 26 #[.bool ga, .slice pa na ca, .slice qa ma da] := (Bx.made' (by simp) _ _).kept (Fr.refl _ _)
  generalize (w.alloc (Obj.cells #[.bool ga, .slice pa na ca, .slice qa ma da] 26)) = W at *
  have hbs := b1.lt
  replace ht := ht.kept hw
  replace h1 := h1.kept hw
  refine wp_region_inv (w0 := W) (by kernel_rfl) [true, false, false, true, false, true, true, true, false, false, false, false, false, false, false, false, false, false, false, false, false, false, false, false, false] []
    [⟨[5], F1 (fun xx _ => xx = .agg #[.bool ga, .slice pa na ca, .slice qa ma da]), .pure⟩,
    ⟨[6], F1 (fun xx ww => VF ww (L + 1) r xx), .pure⟩,
    ⟨[7], F1 (fun xx ww => VL ww r xx), .pure⟩,
    ⟨[], F0, .new 92 4⟩,
    ⟨[7], F0, .store 3 92 cellsOf⟩]
    [[], [0], [0, 1], [], [0, 1, 2, 3]] ?mk1 ?hmk1 (by kernel_rfl)
    ⟨F1.st (st_eq _), F1.st (fun _ _ _ k h => h.kp k), F1.st (fun _ _ _ k h => h.kp k), F0.st, F0.st, trivial⟩ (by simp) (by simp) (n := 5) rfl ⟨⟨⟨⟨⟨trivial, ?s1_0⟩, ?s1_1⟩, ?s1_2⟩, ?s1_3⟩, ?s1_4⟩ ?done1
  case hmk1 => intro v; simp only [mkv, mix, Nat.reduceAdd]; rfl
  case s1_0 =>
    refine stepOk_of _ _ rfl rfl ?_
    intro v W1 f kp ho hd K' hK
    have k0 := (b1.keep f (by simp)).cell (j := 0) rfl
    have k1 := (b1.keep f (by simp)).cell (j := 1) rfl
    have k2 := (b1.keep f (by simp)).cell (j := 2) rfl
    go_simp
    exact hK _ _ (Fr.refl [] _) rfl
  case s1_1 =>
    refine stepOk_of _ _ rfl rfl ?_
    intro v W1 f kp ho hd K' hK
    have e5 : v 5 = .agg #[.bool ga, .slice pa na ca, .slice qa ma da] := (hd 0 (by decide) _ _ rfl rfl).1
    simp only [e5] at hK ⊢
    go_simp
    refine (read_v (h1.kp kp) (by omega)).mono ?_
    rintro e W' ⟨x, rfl, hx, ff⟩
    exact hK x W' ff hx
  case s1_2 =>
    refine stepOk_of _ _ rfl rfl ?_
    intro v W1 f kp ho hd K' hK
    have f6 : VF W1 (L + 1) r (v 6) := (hd 1 (by decide) _ _ rfl rfl).1
    go_simp
    refine (reduce_v (ht.kp kp) f6 (by omega)).mono ?_
    rintro e W' ⟨x, rfl, hx, ff⟩
    exact hK x W' ff hx
  case s1_3 =>
    refine stepOk_of _ _ rfl rfl ?_
    intro v W1 f kp ho hd K' hK
    go_simp
    exact hK _ _ (move_new rfl rfl rfl rfl rfl) trivial
  case s1_4 =>
    refine stepOk_of _ _ rfl rfl ?_
    intro v W1 f kp ho hd K' hK
    obtain ⟨-, A3, e3, -, sb3⟩ := hd 3 (by decide) _ _ rfl rfl
    have f7 : VL W1 r (v 7) := (hd 2 (by decide) _ _ rfl rfl).1
    have o7 := f7
    obtain ⟨p7, c7, q7, d7, e7, s7, t7⟩ := o7
    obtain ⟨zz0, zz1, zz2, zz3, bz⟩ := sb3.open4
    have k0 := bz.cell (j := 0) rfl
    have fr0 := bz.free 0
    have k1 := bz.cell (j := 1) rfl
    have fr1 := bz.free 1
    have k2 := bz.cell (j := 2) rfl
    have fr2 := bz.free 2
    have k3 := bz.cell (j := 3) rfl
    have fr3 := bz.free 3
    simp only [e3, e7] at hK ⊢
    go_simp
    exact hK undef _ (move_store (cs := #[.bool (decide ((r).num < 0)), .slice p7 (dg (r).num.natAbs).length c7, .bool false, .slice q7 (dg (r).den).length d7]) rfl e3 (by simp only [List.map, e7]; rfl) sb3 rfl rfl (((((Fr.refl _ _).put1 0 _).put1 1 _).put1 2 _).put1 3 _) (((((bz.put1 0 _).put1 1 _).put1 2 _).put1 3 _))) trivial
  case done1 =>
    intro v W1 f kp hF hD
    have e5 : v 5 = .agg #[.bool ga, .slice pa na ca, .slice qa ma da] := (hF 0 _ _ rfl rfl).1
    have f6 : VF W1 (L + 1) r (v 6) := (hF 1 _ _ rfl rfl).1
    have f7 : VL W1 r (v 7) := (hF 2 _ _ rfl rfl).1
    have o7 := f7
    obtain ⟨p7, c7, q7, d7, e7, s7, t7⟩ := o7
    rw [e7] at f7
    obtain ⟨-, A3, e3, g3, -⟩ := hF 3 _ _ rfl rfl
    obtain ⟨-, A', eA, b3⟩ := hF 4 _ _ rfl rfl
    rw [e3] at eA; injection eA with eA; injection eA with eA; injection eA with eA; subst eA
    replace b3 : Bx W1 A3 92 #[.bool (decide ((r).num < 0)), .slice p7 (dg (r).num.natAbs).length c7, .bool false, .slice q7 (dg (r).den).length d7] := by simp only [List.map, e7] at b3; exact b3
    clear hF hD
    simp only [e5, e7, e3]
    replace b1 := b1.keep f (by simp)
    replace ht := ht.kp kp
    replace h1 := h1.kp kp
    replace hw := hw.trans (a := w) (b := W) (c := W1) f (by simp)
    have hsz1 := f.size
    clear f kp
    have hlt_b3 := b3.lt
    have iz : VZ W1 r.num (iw (decide (r.num < 0)) p7 (dg r.num.natAbs).length c7) := ⟨p7, c7, rfl, s7⟩
    have id' : VD W1 r.den (.slice q7 (dg r.den).length d7) := ⟨q7, d7, rfl, t7⟩
    have c_b1_0 := b1.cell (j := 0) rfl
    have c_b1_1 := b1.cell (j := 1) rfl
    have c_b1_2 := b1.cell (j := 2) rfl
    have c_b3_0 := b3.cell (j := 0) rfl
    have c_b3_1 := b3.cell (j := 1) rfl
    have c_b3_2 := b3.cell (j := 2) rfl
    have c_b3_3 := b3.cell (j := 3) rfl
    go_upto_region 2 with fail
    clear c_b1_0 c_b1_1 c_b1_2 c_b3_0 c_b3_1 c_b3_2 c_b3_3
    refine wp_region_inv (w0 := W1) (by kernel_rfl) [true, true, false, false, true, true, true, true, true, true, true, true, false, false, false, false, false, false, false, false, false, false, false, false, false] []
      [⟨[8], F1 (fun xx _ => xx = .pointer (some ⟨A3, 0, none⟩)), .pure⟩,
    ⟨[9], F1 (fun xx _ => xx = .pointer (some ⟨A3, 0, none⟩)), .pure⟩,
    ⟨[10], F1 (fun xx _ => xx = .agg #[.bool (decide ((r).num < 0)), .slice p7 (dg (r).num.natAbs).length c7]), .pure⟩,
    ⟨[11], F1 (fun xx _ => xx = .string sa), .pure⟩,
    ⟨[4], F1 (fun xx _ => xx = .string sa), .pure⟩]
      [[], [0], [0, 1], [0, 1, 2], [0, 1, 2, 3]] ?mk2 ?hmk2 (by kernel_rfl)
      ⟨F1.st (st_eq _), F1.st (st_eq _), F1.st (st_eq _), F1.st (st_eq _), F1.st (st_eq _), trivial⟩ (by simp) (by simp) (n := 5) rfl ⟨⟨⟨⟨⟨trivial, ?s2_0⟩, ?s2_1⟩, ?s2_2⟩, ?s2_3⟩, ?s2_4⟩ ?done2
    case hmk2 => intro v; simp only [mkv, mix, Nat.reduceAdd]; rfl
    case s2_0 =>
      refine stepOk_of _ _ rfl rfl ?_
      intro v W2 f kp ho hd K' hK
      go_simp
      exact hK _ _ (Fr.refl [] _) rfl
    case s2_1 =>
      refine stepOk_of _ _ rfl rfl ?_
      intro v W2 f kp ho hd K' hK
      have e8 : v 8 = .pointer (some ⟨A3, 0, none⟩) := (hd 0 (by decide) _ _ rfl rfl).1
      simp only [e8] at hK ⊢
      go_simp
      exact hK _ _ (Fr.refl [] _) rfl
    case s2_2 =>
      refine stepOk_of _ _ rfl rfl ?_
      intro v W2 f kp ho hd K' hK
      have e9 : v 9 = .pointer (some ⟨A3, 0, none⟩) := (hd 1 (by decide) _ _ rfl rfl).1
      have k0 := (b3.keep f (by simp)).cell (j := 0) rfl
      have k1 := (b3.keep f (by simp)).cell (j := 1) rfl
      simp only [e9] at hK ⊢
      go_simp
      exact hK _ _ (Fr.refl [] _) rfl
    case s2_3 =>
      refine stepOk_of _ _ rfl rfl ?_
      intro v W2 f kp ho hd K' hK
      have e10 : v 10 = .agg #[.bool (decide ((r).num < 0)), .slice p7 (dg (r).num.natAbs).length c7] := (hd 2 (by decide) _ _ rfl rfl).1
      simp only [e10] at hK ⊢
      go_simp
      refine (ifmt_e Hhsa.out (iz.kp kp) Hhn.out).mono ?_
      rintro e W' ⟨rfl, ff⟩
      exact hK _ W' ff rfl
    case s2_4 =>
      refine stepOk_of _ _ rfl rfl ?_
      intro v W2 f kp ho hd K' hK
      have e11 : v 11 = .string sa := (hd 3 (by decide) _ _ rfl rfl).1
      simp only [e11] at hK ⊢
      go_simp
      exact hK _ _ (Fr.refl [] _) rfl
    case done2 =>
      intro v W2 f kp hF hD
      have e8 : v 8 = .pointer (some ⟨A3, 0, none⟩) := (hF 0 _ _ rfl rfl).1
      have e9 : v 9 = .pointer (some ⟨A3, 0, none⟩) := (hF 1 _ _ rfl rfl).1
      have e10 : v 10 = .agg #[.bool (decide ((r).num < 0)), .slice p7 (dg (r).num.natAbs).length c7] := (hF 2 _ _ rfl rfl).1
      have e11 : v 11 = .string sa := (hF 3 _ _ rfl rfl).1
      have e4 : v 4 = .string sa := (hF 4 _ _ rfl rfl).1
      clear hF hD
      simp only [e8, e9, e10, e11, e4]
      replace b1 := b1.keep f (by simp)
      replace b3 := b3.keep f (by simp)
      replace ht := ht.kp kp
      replace h1 := h1.kp kp
      replace f6 := f6.kp kp
      replace s7 := s7.kp kp
      replace t7 := t7.kp kp
      replace f7 := f7.kp kp
      replace iz := iz.kp kp
      replace id' := id'.kp kp
      replace hw := hw.trans (a := w) (b := W1) (c := W2) f (by simp)
      have hsz2 := f.size
      clear f kp
      have c_b1_0 := b1.cell (j := 0) rfl
      have c_b1_1 := b1.cell (j := 1) rfl
      have c_b1_2 := b1.cell (j := 2) rfl
      have c_b3_0 := b3.cell (j := 0) rfl
      have c_b3_1 := b3.cell (j := 1) rfl
      have c_b3_2 := b3.cell (j := 2) rfl
      have c_b3_3 := b3.cell (j := 3) rfl
      go_upto_region 3 with fail
      clear c_b1_0 c_b1_1 c_b1_2 c_b3_0 c_b3_1 c_b3_2 c_b3_3
      refine wp_region_inv (w0 := W2) (by kernel_rfl) [true, true, false, false, false, true, true, true, true, true, true, true, true, true, true, true, true, false, false, false, false, false, false, false, false] []
        [⟨[12], F1 (fun xx _ => xx = .pointer (some ⟨A3, 0, none⟩)), .pure⟩,
    ⟨[13], F1 (fun xx _ => xx = .pointer (some ⟨A3, 2, none⟩)), .pure⟩,
    ⟨[14], F1 (fun xx _ => xx = .pointer (some ⟨A3, 3, none⟩)), .pure⟩,
    ⟨[15], F1 (fun xx _ => xx = .slice q7 (dg (r).den).length d7), .pure⟩,
    ⟨[16], F1 (fun xx _ => xx = .bool false), .pure⟩]
        [[], [0], [0, 1], [0, 1, 2], [0, 1, 2, 3]] ?mk3 ?hmk3 (by kernel_rfl)
        ⟨F1.st (st_eq _), F1.st (st_eq _), F1.st (st_eq _), F1.st (st_eq _), F1.st (st_eq _), trivial⟩ (by simp) (by simp) (n := 5) rfl ⟨⟨⟨⟨⟨trivial, ?s3_0⟩, ?s3_1⟩, ?s3_2⟩, ?s3_3⟩, ?s3_4⟩ ?done3
      case hmk3 => intro v; simp only [mkv, mix, Nat.reduceAdd]; rfl
      case s3_0 =>
        refine stepOk_of _ _ rfl rfl ?_
        intro v W3 f kp ho hd K' hK
        go_simp
        exact hK _ _ (Fr.refl [] _) rfl
      case s3_1 =>
        refine stepOk_of _ _ rfl rfl ?_
        intro v W3 f kp ho hd K' hK
        have e12 : v 12 = .pointer (some ⟨A3, 0, none⟩) := (hd 0 (by decide) _ _ rfl rfl).1
        simp only [e12] at hK ⊢
        go_simp
        exact hK _ _ (Fr.refl [] _) rfl
      case s3_2 =>
        refine stepOk_of _ _ rfl rfl ?_
        intro v W3 f kp ho hd K' hK
        have e13 : v 13 = .pointer (some ⟨A3, 2, none⟩) := (hd 1 (by decide) _ _ rfl rfl).1
        simp only [e13] at hK ⊢
        go_simp
        exact hK _ _ (Fr.refl [] _) rfl
      case s3_3 =>
        refine stepOk_of _ _ rfl rfl ?_
        intro v W3 f kp ho hd K' hK
        have e14 : v 14 = .pointer (some ⟨A3, 3, none⟩) := (hd 2 (by decide) _ _ rfl rfl).1
        have k0 := (b3.keep f (by simp)).cell (j := 3) rfl
        simp only [e14] at hK ⊢
        go_simp
        exact hK _ _ (Fr.refl [] _) rfl
      case s3_4 =>
        refine stepOk_of _ _ rfl rfl ?_
        intro v W3 f kp ho hd K' hK
        have e15 : v 15 = .slice q7 (dg (r).den).length d7 := (hd 3 (by decide) _ _ rfl rfl).1
        simp only [e15] at hK ⊢
        go_simp
        refine (isone_e Hhb.out (id'.kp kp)).mono ?_
        rintro e W' ⟨rfl, ff⟩
        exact hK _ W' ff rfl
      case done3 =>
        intro v W3 f kp hF hD
        have e12 : v 12 = .pointer (some ⟨A3, 0, none⟩) := (hF 0 _ _ rfl rfl).1
        have e13 : v 13 = .pointer (some ⟨A3, 2, none⟩) := (hF 1 _ _ rfl rfl).1
        have e14 : v 14 = .pointer (some ⟨A3, 3, none⟩) := (hF 2 _ _ rfl rfl).1
        have e15 : v 15 = .slice q7 (dg (r).den).length d7 := (hF 3 _ _ rfl rfl).1
        have e16 : v 16 = .bool false := (hF 4 _ _ rfl rfl).1
        clear hF hD
        simp only [e12, e13, e14, e15, e16]
        replace b1 := b1.keep f (by simp)
        replace b3 := b3.keep f (by simp)
        replace ht := ht.kp kp
        replace h1 := h1.kp kp
        replace f6 := f6.kp kp
        replace s7 := s7.kp kp
        replace t7 := t7.kp kp
        replace f7 := f7.kp kp
        replace iz := iz.kp kp
        replace id' := id'.kp kp
        replace hw := hw.trans (a := w) (b := W2) (c := W3) f (by simp)
        have hsz3 := f.size
        clear f kp
        have in' : VZ W3 (r.den : Int) (iw false q7 (dg r.den).length d7) := vd_nat' t7
        have c_b1_0 := b1.cell (j := 0) rfl
        have c_b1_1 := b1.cell (j := 1) rfl
        have c_b1_2 := b1.cell (j := 2) rfl
        have c_b3_0 := b3.cell (j := 0) rfl
        have c_b3_1 := b3.cell (j := 1) rfl
        have c_b3_2 := b3.cell (j := 2) rfl
        have c_b3_3 := b3.cell (j := 3) rfl
        go_upto_region 5 with fail
        clear c_b1_0 c_b1_1 c_b1_2 c_b3_0 c_b3_1 c_b3_2 c_b3_3
        refine wp_region_inv (w0 := W3) (by kernel_rfl) [true, true, true, false, false, true, true, true, true, true, true, true, true, true, true, true, true, true, true, true, true, true, true, true, true] []
          [⟨[18], F1 (fun xx _ => xx = .string sa), .pure⟩,
    ⟨[19], F1 (fun xx _ => xx = .string (sa ++ ({ data := #[47] } : ByteArray))), .pure⟩,
    ⟨[20], F1 (fun xx _ => xx = .pointer (some ⟨A3, 0, none⟩)), .pure⟩,
    ⟨[21], F1 (fun xx _ => xx = .pointer (some ⟨A3, 2, none⟩)), .pure⟩,
    ⟨[22], F1 (fun xx _ => xx = .agg #[.bool false, .slice q7 (dg (r).den).length d7]), .pure⟩,
    ⟨[23], F1 (fun xx _ => xx = .string sb), .pure⟩,
    ⟨[24], F1 (fun xx _ => xx = .string (sa ++ ({ data := #[47] } : ByteArray) ++ sb)), .pure⟩,
    ⟨[2], F1 (fun xx _ => xx = .string (sa ++ ({ data := #[47] } : ByteArray) ++ sb)), .pure⟩]
          [[], [0], [], [2], [2, 3], [2, 3, 4], [0, 1, 2, 3, 4, 5], [0, 1, 2, 3, 4, 5, 6]] ?mk4 ?hmk4 (by kernel_rfl)
          ⟨F1.st (st_eq _), F1.st (st_eq _), F1.st (st_eq _), F1.st (st_eq _), F1.st (st_eq _), F1.st (st_eq _), F1.st (st_eq _), F1.st (st_eq _), trivial⟩ (by simp) (by simp) (n := 8) rfl ⟨⟨⟨⟨⟨⟨⟨⟨trivial, ?s4_0⟩, ?s4_1⟩, ?s4_2⟩, ?s4_3⟩, ?s4_4⟩, ?s4_5⟩, ?s4_6⟩, ?s4_7⟩ ?done4
        case hmk4 => intro v; simp only [mkv, mix, Nat.reduceAdd]; rfl
        case s4_0 =>
          refine stepOk_of _ _ rfl rfl ?_
          intro v W4 f kp ho hd K' hK
          go_simp
          exact hK _ _ (Fr.refl [] _) rfl
        case s4_1 =>
          refine stepOk_of _ _ rfl rfl ?_
          intro v W4 f kp ho hd K' hK
          have e18 : v 18 = .string sa := (hd 0 (by decide) _ _ rfl rfl).1
          simp only [e18] at hK ⊢
          go_simp
          exact hK _ _ (Fr.refl [] _) rfl
        case s4_2 =>
          refine stepOk_of _ _ rfl rfl ?_
          intro v W4 f kp ho hd K' hK
          go_simp
          exact hK _ _ (Fr.refl [] _) rfl
        case s4_3 =>
          refine stepOk_of _ _ rfl rfl ?_
          intro v W4 f kp ho hd K' hK
          have e20 : v 20 = .pointer (some ⟨A3, 0, none⟩) := (hd 2 (by decide) _ _ rfl rfl).1
          simp only [e20] at hK ⊢
          go_simp
          exact hK _ _ (Fr.refl [] _) rfl
        case s4_4 =>
          refine stepOk_of _ _ rfl rfl ?_
          intro v W4 f kp ho hd K' hK
          have e21 : v 21 = .pointer (some ⟨A3, 2, none⟩) := (hd 3 (by decide) _ _ rfl rfl).1
          have k0 := (b3.keep f (by simp)).cell (j := 2) rfl
          have k1 := (b3.keep f (by simp)).cell (j := 3) rfl
          simp only [e21] at hK ⊢
          go_simp
          exact hK _ _ (Fr.refl [] _) rfl
        case s4_5 =>
          refine stepOk_of _ _ rfl rfl ?_
          intro v W4 f kp ho hd K' hK
          have e22 : v 22 = .agg #[.bool false, .slice q7 (dg (r).den).length d7] := (hd 4 (by decide) _ _ rfl rfl).1
          simp only [e22] at hK ⊢
          go_simp
          refine (ifmt_e Hhsb2.out (in'.kp kp) (by rw [Int.natAbs_natCast]; exact Hhdn.out)).mono ?_
          rintro e W' ⟨rfl, ff⟩
          exact hK _ W' ff rfl
        case s4_6 =>
          refine stepOk_of _ _ rfl rfl ?_
          intro v W4 f kp ho hd K' hK
          have e19 : v 19 = .string (sa ++ ({ data := #[47] } : ByteArray)) := (hd 1 (by decide) _ _ rfl rfl).1
          have e23 : v 23 = .string sb := (hd 5 (by decide) _ _ rfl rfl).1
          simp only [e19, e23] at hK ⊢
          go_simp
          exact hK _ _ (Fr.refl [] _) rfl
        case s4_7 =>
          refine stepOk_of _ _ rfl rfl ?_
          intro v W4 f kp ho hd K' hK
          have e24 : v 24 = .string (sa ++ ({ data := #[47] } : ByteArray) ++ sb) := (hd 6 (by decide) _ _ rfl rfl).1
          simp only [e24] at hK ⊢
          go_simp
          exact hK _ _ (Fr.refl [] _) rfl
        case done4 =>
          intro v W4 f kp hF hD
          have e18 : v 18 = .string sa := (hF 0 _ _ rfl rfl).1
          have e19 : v 19 = .string (sa ++ ({ data := #[47] } : ByteArray)) := (hF 1 _ _ rfl rfl).1
          have e20 : v 20 = .pointer (some ⟨A3, 0, none⟩) := (hF 2 _ _ rfl rfl).1
          have e21 : v 21 = .pointer (some ⟨A3, 2, none⟩) := (hF 3 _ _ rfl rfl).1
          have e22 : v 22 = .agg #[.bool false, .slice q7 (dg (r).den).length d7] := (hF 4 _ _ rfl rfl).1
          have e23 : v 23 = .string sb := (hF 5 _ _ rfl rfl).1
          have e24 : v 24 = .string (sa ++ ({ data := #[47] } : ByteArray) ++ sb) := (hF 6 _ _ rfl rfl).1
          have e2 : v 2 = .string (sa ++ ({ data := #[47] } : ByteArray) ++ sb) := (hF 7 _ _ rfl rfl).1
          clear hF hD
          simp only [e18, e19, e20, e21, e22, e23, e24, e2]
          replace b1 := b1.keep f (by simp)
          replace b3 := b3.keep f (by simp)
          replace ht := ht.kp kp
          replace h1 := h1.kp kp
          replace f6 := f6.kp kp
          replace s7 := s7.kp kp
          replace t7 := t7.kp kp
          replace f7 := f7.kp kp
          replace iz := iz.kp kp
          replace id' := id'.kp kp
          replace in' := in'.kp kp
          replace hw := hw.trans (a := w) (b := W3) (c := W4) f (by simp)
          have hsz4 := f.size
          clear f kp
          go_wp2_with fail
          exact bodyPost_ret (v := .string (sa ++ ({ data := #[47] } : ByteArray) ++ sb)) (by simp [results, Tryz.results58, go_sem]) rfl ⟨rfl, hw⟩

end Go.Proofs.YtjjdbhohjphcoaaGreatDoor
