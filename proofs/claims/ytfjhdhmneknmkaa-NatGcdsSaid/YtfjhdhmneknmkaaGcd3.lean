/- nat.cofactors.apply. Written by wip/gen/gen_gcd3.py. -/
import Derived.Test.YtfjhdhmneknmkaaGcd2
namespace Go.Proofs.Ytfjhdhmneknmkaa
open Go.RowKit

/-- The difference of two products, as far as the first k digits. -/
structure Df (al ga : Nat) (U V Z : List Nat) (k P M B : Nat) : Prop where
  len : Z.length = k
  dig : Dg Z
  p : P < 4294967296
  m : M < 4294967296
  b : B ≤ 1
  eq : val Z + ga * val (V.take k) + pB k * P = al * val (U.take k) + pB k * (M + B)
theorem Df.start (al ga : Nat) (U V : List Nat) : Df al ga U V [] 0 0 0 0 := ⟨rfl, Dg.nil, by omega, by omega, by omega, by simp [val]⟩
theorem mul_lt32 {a x : Nat} (ha : a < 4294967296) (hx : x < 4294967296) : a * x ≤ 18446744065119617025 := by
  have := Nat.mul_le_mul (show a ≤ 4294967295 by omega) (show x ≤ 4294967295 by omega)
  omega
theorem Df.step {al ga : Nat} {U V Z : List Nat} {k P M B D B' : Nat} (h : Df al ga U V Z k P M B) (ha : al < 4294967296) (hg : ga < 4294967296) (hU : Dg U) (hV : Dg V) (hn : Nx (al * gd U k) (ga * gd V k) P M B D B') :
    Df al ga U V (Z ++ [D]) (k + 1) ((al * gd U k + P) / 4294967296) ((ga * gd V k + M) / 4294967296) B' := by
  have h1 := mul_lt32 ha (hU.at k)
  have h2 := mul_lt32 hg (hV.at k)
  have hp := h.p
  have hm := h.m
  obtain ⟨n1, n2, n3⟩ := hn
  refine ⟨by rw [List.length_append, h.len]; rfl, h.dig.append (Dg.one n1), by omega, by omega, n2, ?_⟩
  have e := diff_step (A := 4294967296) (x := gd U k) (y := gd V k) (plus := al * gd U k + P) (minus := ga * gd V k + M) (G := (al * gd U k + P) % 4294967296) (Pc' := (al * gd U k + P) / 4294967296) (Mc' := (ga * gd V k + M) / 4294967296) (D := D) (Bw' := B') h.eq rfl rfl (by omega) ⟨(ga * gd V k + M) % 4294967296, by omega, n3⟩
  rw [val_append, val_one, h.len, val_take_succ, val_take_succ, pB_succ]
  exact e
theorem Df.fin {al ga n P M B X : Nat} {U V Z : List Nat} (h : Df al ga U V Z n P M B) (hu : U.length = n) (hv : V.length = n) (hX : al * val U = ga * val V + X) (hT : X < pB n) : val Z = X := by
  have e := h.eq
  rw [List.take_of_length_le (by omega), List.take_of_length_le (by omega)] at e
  have hz := val_lt h.dig
  rw [h.len] at hz
  exact diff_end e hX hz hT
/-- A digit of a block of which the first k have been replaced. -/
theorem Blk.behind {w : World} {g : Nat} {L : List Value} {xs Z : List Nat} {k : Nat} (h : Blk w g (spl L 0 Z)) (hs : Sg L 0 xs) (hz : Z.length = k) (hk : k < xs.length) : w.cell? ⟨g, k, none⟩ = some (dv (gd xs k)) := by
  apply h.cell
  have h1 := hs.1
  rw [spl_at (by omega), if_neg (by omega), if_neg (by omega)]
  have := hs.2 k hk
  rwa [Nat.zero_add] at this
theorem Blk.laid {w : World} {g : Nat} {L : List Value} {Z : List Nat} {k : Nat} (h : Blk w g (spl L 0 Z)) (hz : Z.length = k) (hk : k < L.length) (D : Nat) : Blk (w.setCell ⟨g, k, none⟩ (dv D)) g (spl L 0 (Z ++ [D])) := by
  have h1 := h.set k (dv D)
  have e := spl_set (L := L) (o := 0) (Z := Z) (by omega) D
  rw [Nat.zero_add, hz] at e
  rwa [e] at h1

set_option maxRecDepth 100000 in
set_option maxHeartbeats 4000000 in
theorem apply_odd (u0 u1 v0 v1 g1 g2 n c d : Nat) (L1 L2 : List Value) (xs ys : List Nat) (w : World) (h1 : Blk w g1 L1) (s1 : Sg L1 0 xs) (h2 : Blk w g2 L2) (s2 : Sg L2 0 ys) (hne : g1 ≠ g2) (lx : xs.length = n) (ly : ys.length = n) (dx : Dg xs) (dy : Dg ys) (hu0 : u0 < 4294967296) (hu1 : u1 < 4294967296) (hv0 : v0 < 4294967296) (hv1 : v1 < 4294967296) (hn : n ≤ 1099511627776) :
    Calls Try.prog 73 #[.agg #[.int .u64 (u0 : Nat), .int .u64 (u1 : Nat), .int .u64 (v0 : Nat), .int .u64 (v1 : Nat), .bool true], .slice (some ⟨g1, 0, none⟩) n c, .slice (some ⟨g2, 0, none⟩) n d] w fun e w' => e = .returned (.tuple #[]) ∧ ∃ Z1 Z2 P1 M1 B1 P2 M2 B2, Df u0 v0 xs ys Z1 n P1 M1 B1 ∧ Df v1 u1 ys xs Z2 n P2 M2 B2 ∧ Blk w' g1 (spl L1 0 Z1) ∧ Blk w' g2 (spl L2 0 Z2) ∧ Fr [g1, g2] w w' := by
  have hg1 := h1.lt
  have hg2 := h2.lt
  have Lx := Lib.hid lx
  have Ly := Lib.hid ly
  clear lx ly
  go_enter Try.func73, Try.ntmps73
  go_wp2_with fail
  have hw : Fr [] w (((w.alloc (Obj.cells #[.int .u64 (u0 : Nat), .int .u64 (u1 : Nat), .int .u64 (v0 : Nat), .int .u64 (v1 : Nat), .bool true] 65)).alloc (Obj.cells #[.int .u64 0, .int .u64 0, .int .u64 0] 88)).alloc (Obj.cells #[.int .u64 0, .int .u64 0, .int .u64 0] 88)) := (((Fr.refl _ _).alloc _).alloc _).alloc _
  have bc : Bx (((w.alloc (Obj.cells #[.int .u64 (u0 : Nat), .int .u64 (u1 : Nat), .int .u64 (v0 : Nat), .int .u64 (v1 : Nat), .bool true] 65)).alloc (Obj.cells #[.int .u64 0, .int .u64 0, .int .u64 0] 88)).alloc (Obj.cells #[.int .u64 0, .int .u64 0, .int .u64 0] 88)) w.heap.size 65 #[.int .u64 (u0 : Nat), .int .u64 (u1 : Nat), .int .u64 (v0 : Nat), .int .u64 (v1 : Nat), .bool true] := (Bx.made' (by simp) _ _).kept (((Fr.refl _ _).alloc _).alloc _)
  have bf : Bx (((w.alloc (Obj.cells #[.int .u64 (u0 : Nat), .int .u64 (u1 : Nat), .int .u64 (v0 : Nat), .int .u64 (v1 : Nat), .bool true] 65)).alloc (Obj.cells #[.int .u64 0, .int .u64 0, .int .u64 0] 88)).alloc (Obj.cells #[.int .u64 0, .int .u64 0, .int .u64 0] 88)) (w.heap.size + 1) 88 #[.int .u64 0, .int .u64 0, .int .u64 0] := (Bx.made' (by simp) _ _).kept ((Fr.refl _ _).alloc _)
  have bs : Bx (((w.alloc (Obj.cells #[.int .u64 (u0 : Nat), .int .u64 (u1 : Nat), .int .u64 (v0 : Nat), .int .u64 (v1 : Nat), .bool true] 65)).alloc (Obj.cells #[.int .u64 0, .int .u64 0, .int .u64 0] 88)).alloc (Obj.cells #[.int .u64 0, .int .u64 0, .int .u64 0] 88)) (w.heap.size + 2) 88 #[.int .u64 0, .int .u64 0, .int .u64 0] := Bx.made' (by simp) _ _
  generalize (((w.alloc (Obj.cells #[.int .u64 (u0 : Nat), .int .u64 (u1 : Nat), .int .u64 (v0 : Nat), .int .u64 (v1 : Nat), .bool true] 65)).alloc (Obj.cells #[.int .u64 0, .int .u64 0, .int .u64 0] 88)).alloc (Obj.cells #[.int .u64 0, .int .u64 0, .int .u64 0] 88)) = W at *
  have k1 : Blk W g1 (spl L1 0 []) := by rw [spl_nil]; exact h1.kept hw
  have k2 : Blk W g2 (spl L2 0 []) := by rw [spl_nil]; exact h2.kept hw
  have hw' : Fr [g1, g2] w W := hw.mono (by simp)
  go_loopw [13] (fun s wr => ∃ (k : Nat) (Z1 Z2 : List Nat) (P1 M1 B1 P2 M2 B2 : Nat), k ≤ n ∧ s = .int .i64 k ∧ Df u0 v0 xs ys Z1 k P1 M1 B1 ∧ Df v1 u1 ys xs Z2 k P2 M2 B2 ∧ Blk wr g1 (spl L1 0 Z1) ∧ Blk wr g2 (spl L2 0 Z2) ∧ Bx wr w.heap.size 65 #[.int .u64 (u0 : Nat), .int .u64 (u1 : Nat), .int .u64 (v0 : Nat), .int .u64 (v1 : Nat), .bool true] ∧ Bx wr (w.heap.size + 1) 88 #[.int .u64 (P1 : Nat), .int .u64 (M1 : Nat), .int .u64 (B1 : Nat)] ∧ Bx wr (w.heap.size + 2) 88 #[.int .u64 (P2 : Nat), .int .u64 (M2 : Nat), .int .u64 (B2 : Nat)] ∧ Fr [g1, g2] w wr) (fun s _ => n - (intOf s).toNat)
  case atStart => exact ⟨0, [], [], 0, 0, 0, 0, 0, 0, Nat.zero_le _, rfl, Df.start _ _ _ _, Df.start _ _ _ _, k1, k2, bc, bf, bs, hw'⟩
  case round =>
    obtain ⟨k, Z1, Z2, P1, M1, B1, P2, M2, B2, hk, rfl, D1, D2, k1', k2', bc', bf', bs', hf⟩ := hrel
    clear k1 k2 bc bf bs
    by_cases hlt : k < n
    · have cx := k1'.behind s1 D1.len (by rw [Lx.out]; exact hlt)
      have cy := k2'.behind s2 D2.len (by rw [Ly.out]; exact hlt)
      have fx := k1'.free k
      have fy := k2'.free k
      have hl1 : k < L1.length := by have := s1.1; rw [Lx.out] at this; omega
      have hl2 : k < L2.length := by have := s2.1; rw [Ly.out] at this; omega
      have S1 := Lib.hid (fun D B' (q : Nx (u0 * gd xs k) (v0 * gd ys k) P1 M1 B1 D B') => D1.step hu0 hv0 dx dy q)
      have S2 := Lib.hid (fun D B' (q : Nx (v1 * gd ys k) (u1 * gd xs k) P2 M2 B2 D B') => D2.step hv1 hu1 dy dx q)
      have LK1 := Lib.hid (fun w' (q : Blk w' g1 (spl L1 0 Z1)) D => q.laid D1.len hl1 D)
      have LK2 := Lib.hid (fun w' (q : Blk w' g2 (spl L2 0 Z2)) D => q.laid D2.len hl2 D)
      have LC1 := Lib.hid (fun w' (q : Blk w' g1 (spl L1 0 Z1)) => q.behind s1 D1.len (by rw [Lx.out]; exact hlt))
      have LC2 := Lib.hid (fun w' (q : Blk w' g2 (spl L2 0 Z2)) => q.behind s2 D2.len (by rw [Ly.out]; exact hlt))
      have hxk := dx.at k
      have hyk := dy.at k
      have q1 := D1.p
      have q2 := D1.m
      have q3 := D1.b
      have q4 := D2.p
      have q5 := D2.m
      have q6 := D2.b
      generalize gd xs k = x at *
      generalize gd ys k = y at *
      obtain ⟨m1, hm1⟩ : ∃ m, m = u0 * x := ⟨_, rfl⟩
      have l1 := mul_lt32 hu0 hxk
      rw [← hm1] at l1
      have E1 : IntKind.u64.wrap ((u0 : Int) * (x : Int)) = (m1 : Int) := by rw [← Int.natCast_mul, ← hm1]; exact wrap_u64_lt (by omega) (by omega)
      have H1 := Lib.hid hm1
      clear hm1
      obtain ⟨m2, hm2⟩ : ∃ m, m = v0 * y := ⟨_, rfl⟩
      have l2 := mul_lt32 hv0 hyk
      rw [← hm2] at l2
      have E2 : IntKind.u64.wrap ((v0 : Int) * (y : Int)) = (m2 : Int) := by rw [← Int.natCast_mul, ← hm2]; exact wrap_u64_lt (by omega) (by omega)
      have H2 := Lib.hid hm2
      clear hm2
      obtain ⟨m3, hm3⟩ : ∃ m, m = v1 * y := ⟨_, rfl⟩
      have l3 := mul_lt32 hv1 hyk
      rw [← hm3] at l3
      have E3 : IntKind.u64.wrap ((v1 : Int) * (y : Int)) = (m3 : Int) := by rw [← Int.natCast_mul, ← hm3]; exact wrap_u64_lt (by omega) (by omega)
      have H3 := Lib.hid hm3
      clear hm3
      obtain ⟨m4, hm4⟩ : ∃ m, m = u1 * x := ⟨_, rfl⟩
      have l4 := mul_lt32 hu1 hxk
      rw [← hm4] at l4
      have E4 : IntKind.u64.wrap ((u1 : Int) * (x : Int)) = (m4 : Int) := by rw [← Int.natCast_mul, ← hm4]; exact wrap_u64_lt (by omega) (by omega)
      have H4 := Lib.hid hm4
      clear hm4
      have cc0 := bc'.cell (j := 0) rfl
      have cc1 := bc'.cell (j := 1) rfl
      have cc2 := bc'.cell (j := 2) rfl
      have cc3 := bc'.cell (j := 3) rfl
      have cc4 := bc'.cell (j := 4) rfl
      clear D1 D2 h1 h2 hw hw'
      go_wp2_with fail
      go_quiet (fail)
      go_wp2_with fail
      refine (next_any (w.heap.size + 1) m1 m2 P1 M1 B1 _ (bf'.kept ((Fr.refl _ _).drewN _)) (by omega) (by omega) q3).mono ?_
      rintro e w1 ⟨d1, e1, rfl, n1, bf1, f1⟩
      have F1 : Fr [w.heap.size + 1] wr w1 := ((Fr.refl [w.heap.size + 1] _).drewN _).trans f1 (by simp)
      have k1a := k1'.keep F1 (by simp; omega)
      have k2a := k2'.keep F1 (by simp; omega)
      have bca := bc'.keep F1 (by simp)
      have bsa := bs'.keep F1 (by simp)
      have fa := k1a.free k
      have ca := LC1.out _ k1a
      have K1 := Lib.hid (LK1.out _ k1a d1)
      have F2 : Fr [g1] w1 (w1.setCell ⟨g1, k, none⟩ (dv d1)) := (Fr.refl _ _).setCell _ _ (by simp)
      have k2b := k2a.keep F2 (by simp; omega)
      have bcb := bca.keep F2 (by simp; omega)
      have bfb := bf1.keep F2 (by simp; omega)
      have bsb := bsa.keep F2 (by simp; omega)
      have N1 := Lib.hid (S1.out _ _ (by rw [H1.out, H2.out] at n1; exact n1))
      clear cc0 cc1 cc2 cc3 cc4 cx cy fx fy k1' k2' bc' bf' bs'
      have cc0 := bcb.cell (j := 0) rfl
      have cc1 := bcb.cell (j := 1) rfl
      have cc2 := bcb.cell (j := 2) rfl
      have cc3 := bcb.cell (j := 3) rfl
      go_wp2_with fail
      generalize hw2 : w1.setCell ⟨g1, k, none⟩ (dv d1) = w2 at *
      clear hw2
      refine (next_any (w.heap.size + 2) m3 m4 P2 M2 B2 _ bsb (by omega) (by omega) q6).mono ?_
      rintro e w3 ⟨d2, e2, rfl, n2, bs1, f3⟩
      have fb := (k2b.keep f3 (by simp; omega)).free k
      have cb := LC2.out _ (k2b.keep f3 (by simp; omega))
      have K2 := Lib.hid (LK2.out _ (k2b.keep f3 (by simp; omega)) d2)
      have F4 : Fr [g2] w3 (w3.setCell ⟨g2, k, none⟩ (dv d2)) := (Fr.refl _ _).setCell _ _ (by simp)
      have K1' := Lib.hid ((K1.out.keep f3 (by simp; omega)).keep F4 (by simp; omega))
      have bcd := (bcb.keep f3 (by simp)).keep F4 (by simp; omega)
      have bfd := (bfb.keep f3 (by simp)).keep F4 (by simp; omega)
      have bsd := bs1.keep F4 (by simp; omega)
      have N2 := Lib.hid (S2.out _ _ (by rw [H3.out, H4.out] at n2; exact n2))
      have FF : Fr [g1, g2] w (w3.setCell ⟨g2, k, none⟩ (dv d2)) := by
        have a1 := hf.trans F1 (T := [w.heap.size + 1]) (by intro x hx hl; simp at hx; omega)
        have a2 := a1.trans F2 (by simp)
        have a3 := a2.trans f3 (by intro x hx hl; simp at hx; omega)
        exact a3.trans F4 (by simp)
      clear cc0 cc1 cc2 cc3
      go_wp2_with fail
      go_roundw
      case rel =>
        rw [H1.out, H2.out] at bfd
        rw [H3.out, H4.out] at bsd
        exact ⟨k + 1, Z1 ++ [d1], Z2 ++ [d2], _, _, e1, _, _, e2, by omega, by go_num, N1.out, N2.out, K1'.out, K2.out, bcd, bfd, bsd, FF⟩
      case measure => simp [intOf]; omega
    · obtain rfl : k = n := by omega
      go_wp2_with fail
      go_end0
      exact ⟨rfl, Z1, Z2, _, _, _, _, _, _, D1, D2, k1', k2', hf⟩

set_option maxRecDepth 100000 in
set_option maxHeartbeats 4000000 in
theorem apply_even (u0 u1 v0 v1 g1 g2 n c d : Nat) (L1 L2 : List Value) (xs ys : List Nat) (w : World) (h1 : Blk w g1 L1) (s1 : Sg L1 0 xs) (h2 : Blk w g2 L2) (s2 : Sg L2 0 ys) (hne : g1 ≠ g2) (lx : xs.length = n) (ly : ys.length = n) (dx : Dg xs) (dy : Dg ys) (hu0 : u0 < 4294967296) (hu1 : u1 < 4294967296) (hv0 : v0 < 4294967296) (hv1 : v1 < 4294967296) (hn : n ≤ 1099511627776) :
    Calls Try.prog 73 #[.agg #[.int .u64 (u0 : Nat), .int .u64 (u1 : Nat), .int .u64 (v0 : Nat), .int .u64 (v1 : Nat), .bool false], .slice (some ⟨g1, 0, none⟩) n c, .slice (some ⟨g2, 0, none⟩) n d] w fun e w' => e = .returned (.tuple #[]) ∧ ∃ Z1 Z2 P1 M1 B1 P2 M2 B2, Df v0 u0 ys xs Z1 n P1 M1 B1 ∧ Df u1 v1 xs ys Z2 n P2 M2 B2 ∧ Blk w' g1 (spl L1 0 Z1) ∧ Blk w' g2 (spl L2 0 Z2) ∧ Fr [g1, g2] w w' := by
  have hg1 := h1.lt
  have hg2 := h2.lt
  have Lx := Lib.hid lx
  have Ly := Lib.hid ly
  clear lx ly
  go_enter Try.func73, Try.ntmps73
  go_wp2_with fail
  have hw : Fr [] w (((w.alloc (Obj.cells #[.int .u64 (u0 : Nat), .int .u64 (u1 : Nat), .int .u64 (v0 : Nat), .int .u64 (v1 : Nat), .bool false] 65)).alloc (Obj.cells #[.int .u64 0, .int .u64 0, .int .u64 0] 88)).alloc (Obj.cells #[.int .u64 0, .int .u64 0, .int .u64 0] 88)) := (((Fr.refl _ _).alloc _).alloc _).alloc _
  have bc : Bx (((w.alloc (Obj.cells #[.int .u64 (u0 : Nat), .int .u64 (u1 : Nat), .int .u64 (v0 : Nat), .int .u64 (v1 : Nat), .bool false] 65)).alloc (Obj.cells #[.int .u64 0, .int .u64 0, .int .u64 0] 88)).alloc (Obj.cells #[.int .u64 0, .int .u64 0, .int .u64 0] 88)) w.heap.size 65 #[.int .u64 (u0 : Nat), .int .u64 (u1 : Nat), .int .u64 (v0 : Nat), .int .u64 (v1 : Nat), .bool false] := (Bx.made' (by simp) _ _).kept (((Fr.refl _ _).alloc _).alloc _)
  have bf : Bx (((w.alloc (Obj.cells #[.int .u64 (u0 : Nat), .int .u64 (u1 : Nat), .int .u64 (v0 : Nat), .int .u64 (v1 : Nat), .bool false] 65)).alloc (Obj.cells #[.int .u64 0, .int .u64 0, .int .u64 0] 88)).alloc (Obj.cells #[.int .u64 0, .int .u64 0, .int .u64 0] 88)) (w.heap.size + 1) 88 #[.int .u64 0, .int .u64 0, .int .u64 0] := (Bx.made' (by simp) _ _).kept ((Fr.refl _ _).alloc _)
  have bs : Bx (((w.alloc (Obj.cells #[.int .u64 (u0 : Nat), .int .u64 (u1 : Nat), .int .u64 (v0 : Nat), .int .u64 (v1 : Nat), .bool false] 65)).alloc (Obj.cells #[.int .u64 0, .int .u64 0, .int .u64 0] 88)).alloc (Obj.cells #[.int .u64 0, .int .u64 0, .int .u64 0] 88)) (w.heap.size + 2) 88 #[.int .u64 0, .int .u64 0, .int .u64 0] := Bx.made' (by simp) _ _
  generalize (((w.alloc (Obj.cells #[.int .u64 (u0 : Nat), .int .u64 (u1 : Nat), .int .u64 (v0 : Nat), .int .u64 (v1 : Nat), .bool false] 65)).alloc (Obj.cells #[.int .u64 0, .int .u64 0, .int .u64 0] 88)).alloc (Obj.cells #[.int .u64 0, .int .u64 0, .int .u64 0] 88)) = W at *
  have k1 : Blk W g1 (spl L1 0 []) := by rw [spl_nil]; exact h1.kept hw
  have k2 : Blk W g2 (spl L2 0 []) := by rw [spl_nil]; exact h2.kept hw
  have hw' : Fr [g1, g2] w W := hw.mono (by simp)
  go_loopw [13] (fun s wr => ∃ (k : Nat) (Z1 Z2 : List Nat) (P1 M1 B1 P2 M2 B2 : Nat), k ≤ n ∧ s = .int .i64 k ∧ Df v0 u0 ys xs Z1 k P1 M1 B1 ∧ Df u1 v1 xs ys Z2 k P2 M2 B2 ∧ Blk wr g1 (spl L1 0 Z1) ∧ Blk wr g2 (spl L2 0 Z2) ∧ Bx wr w.heap.size 65 #[.int .u64 (u0 : Nat), .int .u64 (u1 : Nat), .int .u64 (v0 : Nat), .int .u64 (v1 : Nat), .bool false] ∧ Bx wr (w.heap.size + 1) 88 #[.int .u64 (P1 : Nat), .int .u64 (M1 : Nat), .int .u64 (B1 : Nat)] ∧ Bx wr (w.heap.size + 2) 88 #[.int .u64 (P2 : Nat), .int .u64 (M2 : Nat), .int .u64 (B2 : Nat)] ∧ Fr [g1, g2] w wr) (fun s _ => n - (intOf s).toNat)
  case atStart => exact ⟨0, [], [], 0, 0, 0, 0, 0, 0, Nat.zero_le _, rfl, Df.start _ _ _ _, Df.start _ _ _ _, k1, k2, bc, bf, bs, hw'⟩
  case round =>
    obtain ⟨k, Z1, Z2, P1, M1, B1, P2, M2, B2, hk, rfl, D1, D2, k1', k2', bc', bf', bs', hf⟩ := hrel
    clear k1 k2 bc bf bs
    by_cases hlt : k < n
    · have cx := k1'.behind s1 D1.len (by rw [Lx.out]; exact hlt)
      have cy := k2'.behind s2 D2.len (by rw [Ly.out]; exact hlt)
      have fx := k1'.free k
      have fy := k2'.free k
      have hl1 : k < L1.length := by have := s1.1; rw [Lx.out] at this; omega
      have hl2 : k < L2.length := by have := s2.1; rw [Ly.out] at this; omega
      have S1 := Lib.hid (fun D B' (q : Nx (v0 * gd ys k) (u0 * gd xs k) P1 M1 B1 D B') => D1.step hv0 hu0 dy dx q)
      have S2 := Lib.hid (fun D B' (q : Nx (u1 * gd xs k) (v1 * gd ys k) P2 M2 B2 D B') => D2.step hu1 hv1 dx dy q)
      have LK1 := Lib.hid (fun w' (q : Blk w' g1 (spl L1 0 Z1)) D => q.laid D1.len hl1 D)
      have LK2 := Lib.hid (fun w' (q : Blk w' g2 (spl L2 0 Z2)) D => q.laid D2.len hl2 D)
      have LC1 := Lib.hid (fun w' (q : Blk w' g1 (spl L1 0 Z1)) => q.behind s1 D1.len (by rw [Lx.out]; exact hlt))
      have LC2 := Lib.hid (fun w' (q : Blk w' g2 (spl L2 0 Z2)) => q.behind s2 D2.len (by rw [Ly.out]; exact hlt))
      have hxk := dx.at k
      have hyk := dy.at k
      have q1 := D1.p
      have q2 := D1.m
      have q3 := D1.b
      have q4 := D2.p
      have q5 := D2.m
      have q6 := D2.b
      generalize gd xs k = x at *
      generalize gd ys k = y at *
      obtain ⟨m1, hm1⟩ : ∃ m, m = v0 * y := ⟨_, rfl⟩
      have l1 := mul_lt32 hv0 hyk
      rw [← hm1] at l1
      have E1 : IntKind.u64.wrap ((v0 : Int) * (y : Int)) = (m1 : Int) := by rw [← Int.natCast_mul, ← hm1]; exact wrap_u64_lt (by omega) (by omega)
      have H1 := Lib.hid hm1
      clear hm1
      obtain ⟨m2, hm2⟩ : ∃ m, m = u0 * x := ⟨_, rfl⟩
      have l2 := mul_lt32 hu0 hxk
      rw [← hm2] at l2
      have E2 : IntKind.u64.wrap ((u0 : Int) * (x : Int)) = (m2 : Int) := by rw [← Int.natCast_mul, ← hm2]; exact wrap_u64_lt (by omega) (by omega)
      have H2 := Lib.hid hm2
      clear hm2
      obtain ⟨m3, hm3⟩ : ∃ m, m = u1 * x := ⟨_, rfl⟩
      have l3 := mul_lt32 hu1 hxk
      rw [← hm3] at l3
      have E3 : IntKind.u64.wrap ((u1 : Int) * (x : Int)) = (m3 : Int) := by rw [← Int.natCast_mul, ← hm3]; exact wrap_u64_lt (by omega) (by omega)
      have H3 := Lib.hid hm3
      clear hm3
      obtain ⟨m4, hm4⟩ : ∃ m, m = v1 * y := ⟨_, rfl⟩
      have l4 := mul_lt32 hv1 hyk
      rw [← hm4] at l4
      have E4 : IntKind.u64.wrap ((v1 : Int) * (y : Int)) = (m4 : Int) := by rw [← Int.natCast_mul, ← hm4]; exact wrap_u64_lt (by omega) (by omega)
      have H4 := Lib.hid hm4
      clear hm4
      have cc0 := bc'.cell (j := 0) rfl
      have cc1 := bc'.cell (j := 1) rfl
      have cc2 := bc'.cell (j := 2) rfl
      have cc3 := bc'.cell (j := 3) rfl
      have cc4 := bc'.cell (j := 4) rfl
      clear D1 D2 h1 h2 hw hw'
      go_wp2_with fail
      go_quiet (fail)
      go_wp2_with fail
      refine (next_any (w.heap.size + 1) m1 m2 P1 M1 B1 _ (bf'.kept ((Fr.refl _ _).drewN _)) (by omega) (by omega) q3).mono ?_
      rintro e w1 ⟨d1, e1, rfl, n1, bf1, f1⟩
      have F1 : Fr [w.heap.size + 1] wr w1 := ((Fr.refl [w.heap.size + 1] _).drewN _).trans f1 (by simp)
      have k1a := k1'.keep F1 (by simp; omega)
      have k2a := k2'.keep F1 (by simp; omega)
      have bca := bc'.keep F1 (by simp)
      have bsa := bs'.keep F1 (by simp)
      have fa := k1a.free k
      have ca := LC1.out _ k1a
      have K1 := Lib.hid (LK1.out _ k1a d1)
      have F2 : Fr [g1] w1 (w1.setCell ⟨g1, k, none⟩ (dv d1)) := (Fr.refl _ _).setCell _ _ (by simp)
      have k2b := k2a.keep F2 (by simp; omega)
      have bcb := bca.keep F2 (by simp; omega)
      have bfb := bf1.keep F2 (by simp; omega)
      have bsb := bsa.keep F2 (by simp; omega)
      have N1 := Lib.hid (S1.out _ _ (by rw [H1.out, H2.out] at n1; exact n1))
      clear cc0 cc1 cc2 cc3 cc4 cx cy fx fy k1' k2' bc' bf' bs'
      have cc0 := bcb.cell (j := 0) rfl
      have cc1 := bcb.cell (j := 1) rfl
      have cc2 := bcb.cell (j := 2) rfl
      have cc3 := bcb.cell (j := 3) rfl
      go_wp2_with fail
      generalize hw2 : w1.setCell ⟨g1, k, none⟩ (dv d1) = w2 at *
      clear hw2
      refine (next_any (w.heap.size + 2) m3 m4 P2 M2 B2 _ bsb (by omega) (by omega) q6).mono ?_
      rintro e w3 ⟨d2, e2, rfl, n2, bs1, f3⟩
      have fb := (k2b.keep f3 (by simp; omega)).free k
      have cb := LC2.out _ (k2b.keep f3 (by simp; omega))
      have K2 := Lib.hid (LK2.out _ (k2b.keep f3 (by simp; omega)) d2)
      have F4 : Fr [g2] w3 (w3.setCell ⟨g2, k, none⟩ (dv d2)) := (Fr.refl _ _).setCell _ _ (by simp)
      have K1' := Lib.hid ((K1.out.keep f3 (by simp; omega)).keep F4 (by simp; omega))
      have bcd := (bcb.keep f3 (by simp)).keep F4 (by simp; omega)
      have bfd := (bfb.keep f3 (by simp)).keep F4 (by simp; omega)
      have bsd := bs1.keep F4 (by simp; omega)
      have N2 := Lib.hid (S2.out _ _ (by rw [H3.out, H4.out] at n2; exact n2))
      have FF : Fr [g1, g2] w (w3.setCell ⟨g2, k, none⟩ (dv d2)) := by
        have a1 := hf.trans F1 (T := [w.heap.size + 1]) (by intro x hx hl; simp at hx; omega)
        have a2 := a1.trans F2 (by simp)
        have a3 := a2.trans f3 (by intro x hx hl; simp at hx; omega)
        exact a3.trans F4 (by simp)
      clear cc0 cc1 cc2 cc3
      go_wp2_with fail
      go_roundw
      case rel =>
        rw [H1.out, H2.out] at bfd
        rw [H3.out, H4.out] at bsd
        exact ⟨k + 1, Z1 ++ [d1], Z2 ++ [d2], _, _, e1, _, _, e2, by omega, by go_num, N1.out, N2.out, K1'.out, K2.out, bcd, bfd, bsd, FF⟩
      case measure => simp [intOf]; omega
    · obtain rfl : k = n := by omega
      go_wp2_with fail
      go_end0
      exact ⟨rfl, Z1, Z2, _, _, _, _, _, _, D1, D2, k1', k2', hf⟩

end Go.Proofs.Ytfjhdhmneknmkaa
