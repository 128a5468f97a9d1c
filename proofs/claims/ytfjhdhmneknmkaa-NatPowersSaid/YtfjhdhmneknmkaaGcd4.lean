/- nat.simulate. -/
import Derived.Test.YtfjhdhmneknmkaaGcd3
import Derived.Test.YtfjhdhmneknmkaaGcdWin
import Derived.Outline
namespace Go.Proofs.Ytfjhdhmneknmkaa
open Go.RowKit

theorem window_w (p : Option Addr) (l c n up : Nat) (xs : List Nat) (w : World) (h : Sl w p l c xs) (hl : l ≤ 1099511627776) (hn3 : 3 ≤ n) (hn : n ≤ 1099511627776) (hup : up ≤ 31) (htop : gd xs (n - 1) * 2 ^ up < 4294967296) :
    Calls Try.prog 103 #[.slice p l c, .int .i64 n, .int .i64 up] w fun e w' => e = .returned (.int .u64 (win xs n up : Nat)) ∧ Fr [] w w' := window_any p l c n up xs w h hl hn3 hn hup htop

theorem Bx.set5 {w : World} {b : Nat} {T : TypeId} {v0 v1 v2 v3 v4 : Value} (h : Bx w b T #[v0, v1, v2, v3, v4]) (u0 u1 u2 u3 u4 : Value) : Bx (((((w.setCell ⟨b, 0, none⟩ u0).setCell ⟨b, 1, none⟩ u1).setCell ⟨b, 2, none⟩ u2).setCell ⟨b, 3, none⟩ u3).setCell ⟨b, 4, none⟩ u4) b T #[u0, u1, u2, u3, u4] := by
  have h' : w.heap[b]? = some (.cells #[v0, v1, v2, v3, v4] T (0, 0)) := h
  unfold Bx
  simp [World.setCell, Array.getElem?_modify, h']
theorem set5_fr (w : World) (b : Nat) (u0 u1 u2 u3 u4 : Value) : Fr [b] w (((((w.setCell ⟨b, 0, none⟩ u0).setCell ⟨b, 1, none⟩ u1).setCell ⟨b, 2, none⟩ u2).setCell ⟨b, 3, none⟩ u3).setCell ⟨b, 4, none⟩ u4) :=
  (((set3_fr w b u0 u1 u2).trans ((Fr.refl [b] _).setCell ⟨b, 3, none⟩ _ (fun _ => List.mem_singleton.2 rfl)) (by simp)).trans ((Fr.refl [b] _).setCell ⟨b, 4, none⟩ _ (fun _ => List.mem_singleton.2 rfl)) (by simp))

/-- What 'simulate' returns. -/
def SimPost (w : World) (X Y : Nat) (e : Ending) (w' : World) : Prop :=
  ∃ (u0 u1 v0 v1 : Nat) (odd : Bool), e = .returned (.tuple #[.agg #[.int .u64 (u0 : Nat), .int .u64 (u1 : Nat), .int .u64 (v0 : Nat), .int .u64 (v1 : Nat), .bool odd], .bool ((v0 : Int) != 0)]) ∧ (v0 ≠ 0 → Cof odd u0 u1 v0 v1 X Y) ∧ Fr [] w w'

theorem sim_end {w wr : World} {fn : Func} {a : Act} {X Y u0 u1 v0 v1 : Nat} {odd : Bool} (hbr : Bx wr w.heap.size 65 #[.int .u64 0, .int .u64 0, .int .u64 0, .int .u64 0, .bool false]) (hf : Fr [] w wr) (hd : a.defers = []) (hc : v0 ≠ 0 → Cof odd u0 u1 v0 v1 X Y)
    (hv : ∀ W' : World, W'.cell? ⟨w.heap.size, 0, none⟩ = some (.int .u64 (u0 : Nat)) → W'.cell? ⟨w.heap.size, 1, none⟩ = some (.int .u64 (u1 : Nat)) → W'.cell? ⟨w.heap.size, 2, none⟩ = some (.int .u64 (v0 : Nat)) → W'.cell? ⟨w.heap.size, 3, none⟩ = some (.int .u64 (v1 : Nat)) → W'.cell? ⟨w.heap.size, 4, none⟩ = some (.bool odd) → (results fn a.tmps).run Try.prog W' = .ok (.tuple #[.agg #[.int .u64 (u0 : Nat), .int .u64 (u1 : Nat), .int .u64 (v0 : Nat), .int .u64 (v1 : Nat), .bool odd], .bool ((v0 : Int) != 0)]) W') :
    bodyPost Try.prog fn (SimPost w X Y) .ret a (((((wr.setCell ⟨w.heap.size, 0, none⟩ (.int .u64 (u0 : Nat))).setCell ⟨w.heap.size, 1, none⟩ (.int .u64 (u1 : Nat))).setCell ⟨w.heap.size, 2, none⟩ (.int .u64 (v0 : Nat))).setCell ⟨w.heap.size, 3, none⟩ (.int .u64 (v1 : Nat))).setCell ⟨w.heap.size, 4, none⟩ (.bool odd)).drew := by
  have h5 := hbr.set5 (.int .u64 (u0 : Nat)) (.int .u64 (u1 : Nat)) (.int .u64 (v0 : Nat)) (.int .u64 (v1 : Nat)) (.bool odd)
  have f5 := (hf.trans (set5_fr wr w.heap.size (.int .u64 (u0 : Nat)) (.int .u64 (u1 : Nat)) (.int .u64 (v0 : Nat)) (.int .u64 (v1 : Nat)) (.bool odd)) (fun x hx hl => by have := List.mem_singleton.1 hx; omega)).drew
  have h6 := h5.kept (Fr.refl [] _).drew
  exact bodyPost_ret (hv _ (h6.cell rfl) (h6.cell rfl) (h6.cell rfl) (h6.cell rfl) (h6.cell rfl)) hd ⟨u0, u1, v0, v1, odd, rfl, hc, f5⟩

set_option maxRecDepth 100000 in
set_option maxHeartbeats 4000000 in
theorem simulate_any (p q : Option Addr) (n c d : Nat) (xs ys : List Nat) (w : World) (hx : Sl w p n c xs) (hy : Sl w q n d ys) (hn3 : 3 ≤ n) (hn : n ≤ 1099511627776) (htop : gd xs (n - 1) ≠ 0) (hle : val ys ≤ val xs) :
    Calls Try.prog 72 #[.slice p n c, .slice q n d] w (SimPost w (val xs) (val ys)) := by
  have lx := hx.len
  have ly := hy.len
  obtain ⟨up, hup⟩ : ∃ up, up = 32 - bl (gd xs (n - 1)) := ⟨_, rfl⟩
  have hb := bl_le (x := gd xs (n - 1)) (n := 32) (hx.dig.at _)
  have hb1 := bl_pos htop
  have hup31 : up ≤ 31 := by omega
  have ht1 : gd xs (n - 1) * 2 ^ up < 4294967296 := by
    have h1 := bl_lt (gd xs (n - 1))
    have h2 : (gd xs (n - 1)) * 2 ^ up < 2 ^ bl (gd xs (n - 1)) * 2 ^ up := Nat.mul_lt_mul_of_pos_right h1 (Nat.two_pow_pos _)
    rw [← Nat.pow_add, show bl (gd xs (n - 1)) + up = 32 from by omega] at h2
    exact h2
  have ht2 : gd ys (n - 1) * 2 ^ up < 4294967296 := Nat.lt_of_le_of_lt (Nat.mul_le_mul_right _ (top_le lx ly hx.dig (by omega) hle)) ht1
  have hP := win_lt hx.dig hup31 ht1
  have hP0 := win_pos (up := up) htop
  have hQP := win_le (n := n) (up := up) lx ly hx.dig hn3 hup31 hle
  have HC : Hid (∀ odd u0 u1 v0 v1, Prev (win xs n up) (win ys n up) odd u0 u1 v0 v1 → v0 ≠ 0 → Cof odd u0 u1 v0 v1 (val xs) (val ys)) := by
    intro odd u0 u1 v0 v1 h1 h2
    have h := h1.cof h2 hP (wlo_lt (up := up) hx.dig lx hn3) (wlo_lt (up := up) hy.dig ly hn3)
    rwa [← win_val lx hn3 hup31, ← win_val ly hn3 hup31] at h
  obtain ⟨b, off, rfl, hbl, hcell⟩ := hx.rd.open (by omega)
  have ctop := hcell (n - 1) (by omega)
  have dtop := hx.dig.at (n - 1)
  have t1 : ((n : Int) - 1).toNat = n - 1 := by omega
  have w1 : IntKind.i64.wrap ((n : Int) - 1) = (n : Int) - 1 := IntWalk.i64_in _ (by omega)
  have eup : ((32 - bl (gd xs (n - 1)) : Nat) : Int) = (up : Int) := by rw [hup]
  have EUP := Lib.hid eup
  have Lx := Lib.hid lx
  have Ly := Lib.hid ly
  have HUP := Lib.hid hup
  clear hcell lx ly hup eup hb hb1 htop hle
  go_enter Try.func72, Try.ntmps72
  go_wp2_with fail
  refine (lz32_any _ _ dtop).mono ?_
  rintro e w' ⟨rfl, rfl⟩
  rw [EUP.out]
  go_wp2_with fail
  refine (window_w _ _ _ n up xs _ (hx.kept ((Fr.refl _ _).alloc _)) hn hn3 hn hup31 ht1).mono ?_
  rintro e w2 ⟨rfl, f2⟩
  go_wp2_with fail
  refine (window_w _ _ _ n up ys _ (hy.kept (((Fr.refl [] _).alloc _).trans f2 (by simp))) hn hn3 hn hup31 ht2).mono ?_
  rintro e w3 ⟨rfl, f3⟩
  have fw : Fr [] w w3 := (((Fr.refl [] w).alloc _).trans f2 (by simp)).trans f3 (by simp)
  have fr := f2.trans f3 (by simp)
  generalize win xs n up = P at *
  generalize win ys n up = Q at *
  go_wp2_with fail
  obtain ⟨G, hG⟩ : ∃ G, G = w3.heap.size := ⟨_, rfl⟩
  have hGw : w.heap.size < G := by have := fr.size; simp at this; omega
  have bc : Bx (w3.alloc (Obj.cells #[.int .u64 0, .int .u64 1, .int .u64 0, .int .u64 0, .bool false] 65)) G 65 #[.int .u64 0, .int .u64 1, .int .u64 0, .int .u64 0, .bool false] := Bx.made' hG _ _
  have br : Bx (w3.alloc (Obj.cells #[.int .u64 0, .int .u64 1, .int .u64 0, .int .u64 0, .bool false] 65)) w.heap.size 65 #[.int .u64 0, .int .u64 0, .int .u64 0, .int .u64 0, .bool false] := ((Bx.made w _ _).kept fr).kept ((Fr.refl _ _).alloc _)
  have fw2 : Fr [] w (w3.alloc (Obj.cells #[.int .u64 0, .int .u64 1, .int .u64 0, .int .u64 0, .bool false] 65)) := fw.alloc _
  rw [← hG]
  generalize w3.alloc (Obj.cells #[.int .u64 0, .int .u64 1, .int .u64 0, .int .u64 0, .bool false] 65) = W at *
  have HS := St.start hQP
  clear hG fr f2 f3 fw
  go_loopg [8, 9, 11, 12] Q (fun k s8 s9 s11 s12 wr => ∃ (pp u v u0 u1 v0 v1 : Nat) (odd : Bool), s8 = .int .u64 pp ∧ s9 = .int .u64 k ∧ s11 = .int .u64 u ∧ s12 = .int .u64 v ∧ St P Q odd u1 u v1 v pp k ∧ Prev P Q odd u0 u1 v0 v1 ∧ Bx wr G 65 #[.int .u64 (u0 : Nat), .int .u64 (u1 : Nat), .int .u64 (v0 : Nat), .int .u64 (v1 : Nat), .bool odd] ∧ Bx wr w.heap.size 65 #[.int .u64 0, .int .u64 0, .int .u64 0, .int .u64 0, .bool false] ∧ Fr [] w wr)
  case atStart => exact ⟨P, 0, 1, 0, 1, 0, 0, false, rfl, rfl, rfl, rfl, HS, Or.inl rfl, bc, br, fw2⟩
  case round =>
    obtain ⟨pp, u, v, u0, u1, v0, v1, odd, rfl, rfl, rfl, rfl, hst, hpv, hbc, hbr, hf⟩ := hrel
    clear bc br fw2 HS
    have cc0 := hbc.cell (j := 0) rfl
    have cc1 := hbc.cell (j := 1) rfl
    have cc2 := hbc.cell (j := 2) rfl
    have cc3 := hbc.cell (j := 3) rfl
    have cc4 := hbc.cell (j := 4) rfl
    have z0 := hbc.free 0
    have z1 := hbc.free 1
    have z2 := hbc.free 2
    have z3 := hbc.free 3
    have z4 := hbc.free 4
    have x0 := hst.p_pos hP0
    have x1 := hst.qp
    have x2 := hst.le x0
    have x3 := hst.cd
    have x4 := hst.bd
    have x5 := hst.a_le
    have x6 := hst.d_pos
    have xp : pp ≤ P := by
      have h1 := hst.hp
      have h2 : 1 * pp ≤ v * pp := Nat.mul_le_mul_right _ x6
      omega
    by_cases hq : v ≤ gk
    · have hv : v < 4294967296 := by
        have hs := hst.small hq
        apply Nat.lt_of_not_le
        intro h3
        have := Nat.mul_le_mul h3 h3
        omega
      by_cases hc : v1 + v ≤ pp - gk
      · have g0 : 0 < gk := by omega
        have hst2 := hst.step g0
        have hpv2 := Prev.step hst hq hc
        obtain ⟨T, hT⟩ : ∃ T, T = pp / gk := ⟨_, rfl⟩
        obtain ⟨R, hR⟩ : ∃ R, R = pp % gk := ⟨_, rfl⟩
        rw [← hT, ← hR] at hst2
        have y1 := hst2.le (by omega)
        have y2 := hst2.bd
        have hRl : R < gk := by rw [hR]; exact Nat.mod_lt _ g0
        obtain ⟨m1, hm1⟩ : ∃ m, m = T * u := ⟨_, rfl⟩
        obtain ⟨m2, hm2⟩ : ∃ m, m = T * v := ⟨_, rfl⟩
        rw [← hm1, ← hm2] at hst2 y2
        rw [← hm2] at y1
        have eT : (pp : Int) / (gk : Int) = (T : Int) := by rw [hT]; exact (Int.natCast_ediv _ _).symm
        have eR : Int.tmod (pp : Int) (gk : Int) = (R : Int) := by rw [hR]; rfl
        have e0 : IntKind.u64.wrap (T : Int) = (T : Int) := wrap_u64_lt (by omega) (by rw [hT]; have := Nat.div_le_self pp gk; omega)
        have e1 : IntKind.u64.wrap ((T : Int) * (u : Int)) = (m1 : Int) := by rw [← Int.natCast_mul, ← hm1]; exact wrap_u64_lt (by omega) (by omega)
        have e2 : IntKind.u64.wrap ((T : Int) * (v : Int)) = (m2 : Int) := by rw [← Int.natCast_mul, ← hm2]; exact wrap_u64_lt (by omega) (by omega)
        have ER := Lib.hid eR
        have HT := Lib.hid hT
        have HR := Lib.hid hR
        have HST := Lib.hid hst2
        have HPV := Lib.hid hpv2
        clear eR hT hR hm1 hm2 hst2 hpv2 hst hpv
        go_wp2_with fail
        go_quiet (fail)
        go_wp2_with fail
        go_roundg R
        case rel =>
          refine ⟨gk, u1 + m1, v1 + m2, u1, u, v1, v, !odd, rfl, congrArg (Value.int .u64) (by first | exact ER.out | (rw [HR.out]; rfl)), by go_num, by go_num, HST.out, HPV.out, ?_, ?_, ?_⟩
          · exact (hbc.kept ((Fr.refl [] _).drewN nq)).set5 _ _ _ _ _
          · exact (hbr.kept ((Fr.refl [] _).drewN nq)).keep (S := [G]) (set5_fr _ G _ _ _ _ _) (by simp; omega)
          · exact (hf.drewN nq).trans (T := [G]) (set5_fr _ G _ _ _ _ _) (fun x hx hl => by have := List.mem_singleton.1 hx; omega)
        case measure => exact hRl
      · have br0 := hbr.cell (j := 0) rfl
        have br1 := hbr.cell (j := 1) rfl
        have br2 := hbr.cell (j := 2) rfl
        have br3 := hbr.cell (j := 3) rfl
        have br4 := hbr.cell (j := 4) rfl
        have y0 := hbr.free 0
        have y1 := hbr.free 1
        have y2 := hbr.free 2
        have y3 := hbr.free 3
        have y4 := hbr.free 4
        have HV := Lib.hid (HC.out _ _ _ _ _ hpv)
        clear hst hpv
        go_wp2_with fail
        go_region
        all_goals
          go_wp2
          exact sim_end hbr hf rfl HV.out (fun W' c0 c1 c2 c3 c4 => by simp [results, Try.results72, go_sem, c0, c1, c2, c3, c4])
    · have br0 := hbr.cell (j := 0) rfl
      have br1 := hbr.cell (j := 1) rfl
      have br2 := hbr.cell (j := 2) rfl
      have br3 := hbr.cell (j := 3) rfl
      have br4 := hbr.cell (j := 4) rfl
      have y0 := hbr.free 0
      have y1 := hbr.free 1
      have y2 := hbr.free 2
      have y3 := hbr.free 3
      have y4 := hbr.free 4
      have HV := Lib.hid (HC.out _ _ _ _ _ hpv)
      clear hst hpv
      go_wp2_with fail
      go_region
      all_goals
        go_wp2
        exact sim_end hbr hf rfl HV.out (fun W' c0 c1 c2 c3 c4 => by simp [results, Try.results72, go_sem, c0, c1, c2, c3, c4])

end Go.Proofs.Ytfjhdhmneknmkaa
