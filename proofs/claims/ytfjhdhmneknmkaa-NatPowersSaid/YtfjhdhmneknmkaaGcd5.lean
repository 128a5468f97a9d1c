/- nat.Gcd. Written by wip/gen/gen_gcd5.py. -/
import Derived.Test.YtfjhdhmneknmkaaGcd4
import Derived.Deep.RegionWith
import Derived.Laws.CopyOwn
import Derived.Deep.DeepCutAuto
namespace Go.Proofs.Ytfjhdhmneknmkaa
open Go.RowKit

theorem Ow.pbn_lt {w : World} {base : Nat} {p : Option Addr} {n c : Nat} {xs : List Nat} (h : Ow w base p n c xs) : ∀ x, x ∈ pbn p n → x < w.heap.size := by
  intro x hx
  unfold pbn at hx
  split at hx
  · simp at hx
  · rcases h.own with rfl | ⟨g, L, rfl, h1, h2, _⟩
    · have := h.sl.len; simp at this; omega
    · simp at hx; rw [hx]; exact h2.lt
theorem Sl.take {w : World} {p : Option Addr} {n c : Nat} {xs : List Nat} (h : Sl w p n c xs) {k : Nat} (hk : k ≤ n) : Sl w p k c (xs.take k) :=
  ⟨by rw [List.length_take, h.len]; omega, by have := h.le; omega, h.cap, h.nil, h.rd.take k, h.dig.take k⟩
theorem Ow.take {w : World} {base : Nat} {p : Option Addr} {n c : Nat} {xs : List Nat} (h : Ow w base p n c xs) {k : Nat} (hk : k ≤ n) : Ow w base p k c (xs.take k) := by
  refine ⟨h.sl.take hk, ?_⟩
  rcases h.own with rfl | ⟨g, L, rfl, h1, hb, hl, ht⟩
  · exact Or.inl (by simp)
  · exact Or.inr ⟨g, L, rfl, h1, hb, hl, ht.take k (by rw [h.sl.len]; exact hk)⟩
/-- The blocks of two slices are different ones. -/
def Apart (p q : Option Addr) (n : Nat) : Prop := ∀ x, x ∈ pbn p n → x ∉ pbn q n
theorem pbn_sub {p : Option Addr} {n k : Nat} (h : n ≠ 0) : ∀ x, x ∈ pbn p k → x ∈ pbn p n := by
  intro x hx
  unfold pbn at hx ⊢
  rw [if_neg h]
  split at hx
  · simp at hx
  · exact hx
theorem Apart.sub {p q : Option Addr} {n k : Nat} (h : Apart p q n) (h0 : n ≠ 0) : Apart p q k := fun x hx hy => h x (pbn_sub h0 x hx) (pbn_sub h0 x hy)

theorem run_mk (n : Nat) (hn : n ≤ 1099511627776) (w : World) : (Instr.makeSlice 22 (.int .i64 (n : Int)) (.int .i64 (n : Int))).run Try.prog w = .ok (.slice (some ⟨w.heap.size, 0, none⟩) n n) (w.alloc (.cells (Array.replicate n (dv 0)) 57)) := by
  obtain ⟨i0, hi, hz0, hz1, hz2⟩ := info_parts Try.infoU
  have hr := run_make (P := Try.prog) w 22 57 i0 (.int .u32 0) Try.underlying22 hi hz0 .i64 .i64 n n (by omega) (Int.le_refl _) (by rw [hz2]; omega) (by omega)
  have e : madeCells (Value.int .u32 0).cells ((n : Int).toNat * i0.size) = Array.replicate n (dv 0) := by
    rw [hz1, Nat.mul_one, Int.toNat_natCast]
    apply Array.ext
    · simp [madeCells]
    · intro i h1 h2
      simp [madeCells, Nat.mod_one, Value.cells]
  rw [e, Int.toNat_natCast] at hr
  exact hr

theorem Blk.zeros (w : World) (n : Nat) : Blk (w.alloc (.cells (Array.replicate n (dv 0)) 57)) w.heap.size ((List.replicate n 0).map dv) := by
  have h := Blk.made w (List.replicate n (dv 0))
  rw [List.map_replicate]
  simpa using h

/-- 'copy' of digits into the head of a row of digits. -/
theorem wpList_copyD {w : World} {ops : Array Oper} {rest : List Oper} {o : Oper} {a : Act} {Q : Exit → Act → World → Prop} (hgd : o.guard = none) (x y : Operand)
    (ho : o.op = .call { callee := .builtin .copy, args := #[x, y], argTypes := #[22, 22] }) (g n cp m sc : Nat) (sp : Option Addr) (V Z : List Nat)
    (hd : a.eval x = .slice (some ⟨g, 0, none⟩) n cp) (hs : a.eval y = .slice sp m sc) (hV : Sl w sp m sc V) (hz : Blk w g (Z.map dv)) (hzl : Z.length = n) (hle : m ≤ n)
    (h : ∀ w', Hid (Blk w' g ((V ++ Z.drop m).map dv)) → Fr [g] w w' → wpList Try.prog ops Q rest (a.put o.dst (goInt m)) w') : wpList Try.prog ops Q (o :: rest) a w := by
  obtain ⟨i0, hi, hz0, hz1, hz2⟩ := info_parts Try.infoU
  have hsz : (Try.prog.info? 57).map (·.size) = some 1 := by rw [hi]; simp [hz1]
  have hl := hV.len
  rcases hV.src with ⟨rfl, rfl, rfl, rfl⟩ | ⟨ad, rfl⟩
  · refine wpList_copy_nothing hgd x y _ _ ho 57 Try.underlying22 hsz _ _ _ _ _ _ hd hs (Nat.zero_min _) ?_
    exact h w (show Blk _ _ _ by simpa using hz) (Fr.refl _ _)
  · have e : ((Z.map dv).toArray.toList.take 0 ++ (V.map dv ++ (Z.map dv).toArray.toList.drop (0 + (V.map dv).length))) = (V ++ Z.drop m).map dv := by
      simp [hl]
    refine wpList_copy_own hgd x y _ _ ho 57 Try.underlying22 hsz g 0 n cp ad m sc hd hs (Z.map dv).toArray 57 hz (V.map dv) (by rw [List.length_map, hl]; exact (Nat.min_eq_left hle).symm) hV.rd.news (by simp; omega) (dv_oneCell _) ?_
    rw [e, List.length_map, hl]
    refine h _ ?_ ⟨rfl, rfl, rfl, by simp [World.setRow], fun k hk hn => setRow_other w g k _ (by simpa using hn)⟩
    have hz' : w.heap[g]? = some (.cells (Z.map dv).toArray 57 (0, 0)) := hz
    show Blk _ _ _
    unfold Blk
    simp [World.setRow, Array.getElem?_modify, hz']

/-- What 'apply' leaves. -/
def ApPost (w : World) (base : Nat) (p q : Option Addr) (n c d X Y : Nat) (e : Ending) (w' : World) : Prop :=
  e = .returned (.tuple #[]) ∧ ∃ (X' Y' : Nat) (Z1 Z2 : List Nat), val Z1 = X' ∧ val Z2 = Y' ∧ Ow w' base p n c Z1 ∧ Ow w' base q n d Z2 ∧ Y' ≤ X' ∧ X' + Y' < X + Y ∧ X' ≤ X ∧ Nat.gcd X' Y' = Nat.gcd X Y ∧ Fr (pbn p n ++ pbn q n) w w'

theorem spl_own {w : World} {base g n c : Nat} {L : List Value} {Z : List Nat} (hb : Blk w g (spl L 0 Z)) (hg : base ≤ g) (hl : L.length = c) (hz : Z.length = n) (hn : n ≤ c) (hc : c ≤ 9223372036854775807) (hd : Dg Z) : Ow w base (some ⟨g, 0, none⟩) n c Z := by
  have hle : 0 + Z.length ≤ L.length := by omega
  have hs := spl_sg hle
  exact ⟨⟨hz, hn, hc, (by intro h; cases h), hs.rd hb, hd⟩, Or.inr ⟨g, _, rfl, hg, hb, by rw [spl_len hle, hl], hs⟩⟩

theorem apply_any (odd : Bool) (u0 u1 v0 v1 base : Nat) (p q : Option Addr) (n c d : Nat) (xs ys : List Nat) (w : World) (hx : Ow w base p n c xs) (hy : Ow w base q n d ys) (ha : Apart p q n) (hc : Cof odd u0 u1 v0 v1 (val xs) (val ys)) (hY : 0 < val ys) (hn0 : 0 < n) (hn : n ≤ 1099511627776) (hxy : val ys ≤ val xs) :
    Calls Try.prog 73 #[.agg #[.int .u64 (u0 : Nat), .int .u64 (u1 : Nat), .int .u64 (v0 : Nat), .int .u64 (v1 : Nat), .bool odd], .slice p n c, .slice q n d] w (ApPost w base p q n c d (val xs) (val ys)) := by
  obtain ⟨X', Y', ho, he, h1, h2, h3, h4⟩ := hc.down hY
  have lx := hx.sl.len
  have ly := hy.sl.len
  obtain ⟨g1, L1, rfl, b1, k1, l1, s1⟩ := hx.own.resolve_left (fun e => by rw [e] at lx; simp at lx; omega)
  obtain ⟨g2, L2, rfl, b2, k2, l2, s2⟩ := hy.own.resolve_left (fun e => by rw [e] at ly; simp at ly; omega)
  have hp1 : pbn (some ⟨g1, 0, none⟩) n = [g1] := by unfold pbn; rw [if_neg (by omega)]; rfl
  have hp2 : pbn (some ⟨g2, 0, none⟩) n = [g2] := by unfold pbn; rw [if_neg (by omega)]; rfl
  have hne : g1 ≠ g2 := by
    have := ha g1 (by rw [hp1]; simp)
    rw [hp2] at this
    simpa using this
  have vx := val_lt hx.sl.dig
  rw [lx] at vx
  cases odd
  · refine (apply_even u0 u1 v0 v1 g1 g2 n c d L1 L2 xs ys w k1 s1 k2 s2 hne lx ly hx.sl.dig hy.sl.dig hc.b0 hc.b1 hc.b2 hc.b3 hn).mono ?_
    rintro e w' ⟨rfl, Z1, Z2, P1, M1, B1, P2, M2, B2, D1, D2, j1, j2, f⟩
    obtain ⟨e1, e2⟩ := he rfl
    have z1 := D1.fin ly lx e1 (by omega)
    have z2 := D2.fin lx ly e2 (by omega)
    exact ⟨rfl, X', Y', Z1, Z2, z1, z2, spl_own j1 b1 l1 D1.len hx.sl.le hx.sl.cap D1.dig, spl_own j2 b2 l2 D2.len hy.sl.le hy.sl.cap D2.dig, h1, h3, h2, h4, by rw [hp1, hp2]; exact f⟩
  · refine (apply_odd u0 u1 v0 v1 g1 g2 n c d L1 L2 xs ys w k1 s1 k2 s2 hne lx ly hx.sl.dig hy.sl.dig hc.b0 hc.b1 hc.b2 hc.b3 hn).mono ?_
    rintro e w' ⟨rfl, Z1, Z2, P1, M1, B1, P2, M2, B2, D1, D2, j1, j2, f⟩
    obtain ⟨e1, e2⟩ := ho rfl
    have z1 := D1.fin lx ly e1 (by omega)
    have z2 := D2.fin ly lx e2 (by omega)
    exact ⟨rfl, X', Y', Z1, Z2, z1, z2, spl_own j1 b1 l1 D1.len hx.sl.le hx.sl.cap D1.dig, spl_own j2 b2 l2 D2.len hy.sl.le hy.sl.cap D2.dig, h1, h3, h2, h4, by rw [hp1, hp2]; exact f⟩

theorem gcd_lt64 {X Y : Nat} (hX : X < 18446744073709551616) (h : Y ≤ X) : Nat.gcd X Y < 18446744073709551616 := by
  by_cases h0 : X = 0
  · have : Y = 0 := by omega
    rw [h0, this]; decide
  · exact Nat.lt_of_le_of_lt (Nat.gcd_le_left Y (by omega)) hX
theorem gcd_mod (X Y : Nat) : Nat.gcd Y (X % Y) = Nat.gcd X Y := by rw [Nat.gcd_comm Y, ← Nat.gcd_rec, Nat.gcd_comm]

set_option maxRecDepth 100000 in
set_option maxHeartbeats 4000000 in
theorem gcd_ge (p q : Option Addr) (n m c d : Nat) (xs ys : List Nat) (w : World) (hA : Sl w p n c xs) (hB : Sl w q m d ys) (hn : n ≤ 1099511627774) (_hm : m ≤ 1099511627774) (hlt : ¬ val xs < val ys) :
    Calls Try.prog 21 #[.slice p n c, .slice q m d] w (RetOwn w (dg (Nat.gcd (val xs) (val ys)))) := by
  obtain ⟨i0, hi, hz0, hz1, hz2⟩ := info_parts Try.infoU
  have kA := hA.cut
  have kB := hB.cut
  have lA := dg_len_val hA.dig
  have lB := dg_len_val hB.dig
  rw [hA.len] at lA
  rw [hB.len] at lB
  have HLT := Lib.hid hlt
  have HC : Hid (cmpN (val xs) (val ys) = 0 ∨ cmpN (val xs) (val ys) = 1) := by
    by_cases h : val ys < val xs
    · exact Or.inr (cmpN_gt h)
    · exact Or.inl (cmpN_eq (by omega))
  go_enter Try.func21, Try.ntmps21
  go_wp2_with fail
  refine (cut_any _ _ _ _ _ hA).mono ?_
  rintro e w' ⟨rfl, rfl⟩
  go_wp2_with fail
  refine (cut_any _ _ _ _ _ hB).mono ?_
  rintro e w' ⟨rfl, rfl⟩
  clear hlt
  go_wp2_with fail
  refine (compare_any _ _ _ _ _ _ _ _ _ kA kB).mono ?_
  rw [val_dg, val_dg]
  rintro e w1 ⟨rfl, f1⟩
  have hd1 : decide (cmpN (val xs) (val ys) < 0) = false := by rcases HC.out with h | h <;> rw [h] <;> rfl
  have kU := kA.kept f1
  have kV := kB.kept f1
  have hls : (dg (val ys)).length ≤ (dg (val xs)).length := dg_len_mono (by have := HLT.out; omega)
  clear hA hB kA kB
  go_upto_region 4 with fail
  go_cut [5, 6] (fun s5 s6 wx => ∃ (px : Option Addr) (cx gy : Nat), s5 = .slice px (dg (val xs)).length cx ∧ s6 = .slice (some ⟨gy, 0, none⟩) (dg (val xs)).length (dg (val xs)).length ∧ Ow wx w1.heap.size px (dg (val xs)).length cx (dg (val xs)) ∧ Blk wx gy ((List.replicate (dg (val xs)).length 0).map dv) ∧ w1.heap.size ≤ gy ∧ gy ∉ pbn px (dg (val xs)).length ∧ Fr [] w1 wx)
  case first =>
    have HW := (Fr.refl [] w1).drew
    have hmk := run_mk (dg (val xs)).length (by omega)
    go_region_with (first
      | (go_at_call 71; (with_reducible refine (clone_any p _ c (dg (val xs)) _ (kU.kept HW) (by omega)).mono ?_); rintro e U1 ⟨px, cx, rfl, ox, ff⟩; replace HW := HW.trans ff (by simp))
      | (go_at_call 71; (with_reducible refine (clone_any p _ c (dg (val xs)) _ (kU.kept ((Fr.refl [] w1).alloc _).drew) (by omega)).mono ?_); rintro e U1 ⟨px, cx, rfl, ox, ff⟩; have HW2 := (((Fr.refl [] w1).alloc _).drew).trans ff (by simp); have hz := (Blk.zeros w1 (dg (val xs)).length).kept ((Fr.refl [] _).drew.trans ff (by simp))))
    · go_wp2_with fail
      go_meet
      exact ⟨px, cx, U1.heap.size, rfl, rfl, (ox.kept ((Fr.refl [] _).alloc _)).mono (b' := w1.heap.size) (Nat.le_refl _), Blk.zeros _ _, HW.size, fun hm => Nat.lt_irrefl _ (ox.pbn_lt _ hm), HW.alloc _⟩
    · go_wp2_with fail
      go_meet
      exact ⟨px, cx, w1.heap.size, rfl, rfl, ox.mono (by simp), hz, Nat.le_refl _, fun hm => by have := ox.pbn_ge _ hm; simp at this; omega, HW2⟩
  case rest =>
    obtain ⟨px, cx, gy, rfl, rfl, hox, hby, hgy, hap, fx⟩ := hcut
    have kV2 := kV.kept fx
    go_wp2_with (refine wpList_copyD rfl _ _ rfl gy _ _ _ _ _ (dg (val ys)) (List.replicate (dg (val xs)).length 0) rfl rfl kV2 hby (by simp) hls ?_)
    intro w4 hb4 f4
    have hsz := f1.size
    obtain ⟨YL0, hYL0⟩ : ∃ Z, Z = dg (val ys) ++ (List.replicate (dg (val xs)).length 0).drop (dg (val ys)).length := ⟨_, rfl⟩
    have hb5 : Blk w4 gy (YL0.map dv) := by rw [hYL0]; simpa using hb4.out
    have oyl : YL0.length = (dg (val xs)).length := by rw [hYL0]; simp; omega
    have oyv : val YL0 = val ys := by rw [hYL0, val_append, val_dg, List.drop_replicate, val_zeros]; rfl
    have oyd : Dg YL0 := by rw [hYL0]; exact kV.dig.append ((Dg.zeros _).drop _)
    have oy0 := Ow.of_blk (base := w.heap.size) hb5 (by omega) (by omega) oyd
    rw [oyl] at oy0
    have ox0 := (hox.keep2 f4 (fun x hx hy => by have := List.mem_singleton.1 hy; rw [this] at hx; exact hap hx)).mono (b' := w.heap.size) (by omega)
    have ap0 : Apart px (some ⟨gy, 0, none⟩) (dg (val xs)).length := by
      intro x hx hy
      unfold pbn at hy
      split at hy
      · simp at hy
      · simp at hy; rw [hy] at hx; exact hap hx
    have fw4 : Fr [] w w4 := (f1.trans fx (by simp)).trans f4 (by intro x hx hl; have := List.mem_singleton.1 hx; omega)
    have hle0 : val ys ≤ val xs := by have := HLT.out; omega
    have OYV := Lib.hid oyv
    have HBN := Lib.hid (show (dg (val xs)).length ≤ 1099511627774 by omega)
    clear hb4 hb5 hYL0 oyd f4 hox hby hgy hap fx kV2 kU kV oyl oyv f1 hls lA lB
    go_wp2_with fail
    go_loopg [5, 6] (val xs + val ys) (fun k s5 s6 wr => ∃ (X Y : Nat) (px : Option Addr) (cx : Nat) (py : Option Addr) (cy : Nat) (YL : List Nat), s5 = .slice px (dg X).length cx ∧ s6 = .slice py (dg X).length cy ∧ Ow wr w.heap.size px (dg X).length cx (dg X) ∧ Ow wr w.heap.size py (dg X).length cy YL ∧ val YL = Y ∧ Apart px py (dg X).length ∧ Y ≤ X ∧ X + Y = k ∧ Nat.gcd X Y = Nat.gcd (val xs) (val ys) ∧ X ≤ val xs ∧ Fr [] w wr)
    case atStart => exact ⟨val xs, val ys, px, cx, some ⟨gy, 0, none⟩, _, YL0, rfl, rfl, ox0, oy0, OYV.out, ap0, hle0, rfl, rfl, Nat.le_refl _, fw4⟩
    case round =>
      clear ox0 oy0 ap0 fw4 hle0
      obtain ⟨X, Y, px, cx, py, cy, YL, rfl, rfl, ox, oy, hyl, hap, hyx, hk, hgcd, hxu, hf⟩ := hrel
      have hlx : (dg X).length ≤ 1099511627774 := Nat.le_trans (dg_len_mono hxu) HBN.out
      have HYL := Lib.hid hyl
      have HK := Lib.hid hk
      have HGC := Lib.hid hgcd
      clear hyl hk hgcd
      by_cases h3 : 2 < (dg X).length
      · go_wp2_with fail
        refine (cut_any _ _ _ YL _ oy.sl).mono ?_
        rintro e w' ⟨rfl, rfl⟩
        rw [HYL.out]
        by_cases hY : Y = 0
        · subst hY
          have hz : (dg 0).length = 0 := by rw [dg_zero]; rfl
          have HE : Hid (Nat.gcd (val xs) (val ys) = X) := by show _ = _; rw [← HGC.out, Nat.gcd_zero_right]
          rw [hz]
          clear hz
          go_wp2_with fail
          go_ret
          rw [HE.out]
          exact ⟨px, cx, rfl, ox, hf⟩
        · have hYp : 0 < (dg Y).length := Nat.pos_of_ne_zero (fun e => hY (dg_nil.1 (List.eq_nil_of_length_eq_zero e)))
          have htop : gd (dg X) ((dg X).length - 1) ≠ 0 := dg_last (by omega)
          have hly := dg_len_mono hyx
          go_wp2_with fail
          refine (simulate_any px py _ cx cy (dg X) YL _ ox.sl oy.sl (by omega) (by omega) htop (by rw [val_dg, HYL.out]; exact hyx)).mono ?_
          rw [val_dg, HYL.out]
          rintro e w2 ⟨u0, u1, v0, v1, odd, rfl, hcof, f2⟩
          by_cases hv : v0 = 0
          · have hv0 : ((v0 : Int) != 0) = false := by rw [hv]; rfl
            rw [hv0]
            have HC2 := Lib.hid hcof
            clear hv hv0 hcof
            go_wp2_with fail
            have fA : Fr [] wr (w2.alloc (Obj.cells #[.int .u64 (u0 : Nat), .int .u64 (u1 : Nat), .int .u64 (v0 : Nat), .int .u64 (v1 : Nat), .bool odd] 65)) := f2.alloc _
            have oxA := ox.kept fA
            have oyA := oy.kept fA
            generalize w2.alloc (Obj.cells #[.int .u64 (u0 : Nat), .int .u64 (u1 : Nat), .int .u64 (v0 : Nat), .int .u64 (v1 : Nat), .bool odd] 65) = z3 at *
            clear f2
            refine (cut_any _ _ _ YL _ oyA.sl).mono ?_
            rintro e w' ⟨rfl, rfl⟩
            have oyB := oyA.cut
            rw [HYL.out] at oyB ⊢
            go_wp2_with fail
            refine (divide_any px py _ _ cx cy (dg X) (dg Y) _ oxA.sl oyB.sl (by omega) (by omega) (by omega) (dg_last (by omega))).mono ?_
            rintro e z4 ⟨pq, nq, cq, Qd, pr, nr, cr, R, rfl, oq, or', e1, e2, e3, e4, f4⟩
            obtain rfl := e3
            rw [val_dg, val_dg] at e2
            have hrl := or'.sl.le
            have hsz1 := fA.size
            have hsz2 := hf.size
            have E2 := Lib.hid e2
            have hap2 : Apart py pr (dg Y).length := fun x h1 h2 => by
              have := oyB.pbn_lt x h1
              have := or'.pbn_ge x h2
              omega
            clear e1 e2 e4 oq
            go_wp2_with fail
            go_roundg (Y + X % Y)
            case rel => exact ⟨Y, X % Y, py, cy, pr, cr, R, rfl, rfl, oyB.kept f4, or'.mono (by omega), E2.out, hap2, Nat.le_of_lt (Nat.mod_lt _ (by omega)), rfl, by rw [gcd_mod]; exact HGC.out, by omega, (hf.trans fA (by simp)).trans f4 (by simp)⟩
            case measure =>
              have := Nat.mod_lt X (show 0 < Y by omega)
              have := HK.out
              omega
          · have hv0 : ((v0 : Int) != 0) = true := bne_iff_ne.2 (by omega)
            rw [hv0]
            have HC2 := Lib.hid (hcof hv)
            clear hv hv0 hcof
            go_wp2_with fail
            have fA : Fr [] wr (w2.alloc (Obj.cells #[.int .u64 (u0 : Nat), .int .u64 (u1 : Nat), .int .u64 (v0 : Nat), .int .u64 (v1 : Nat), .bool odd] 65)) := f2.alloc _
            have oxA := ox.kept fA
            have oyA := oy.kept fA
            generalize w2.alloc (Obj.cells #[.int .u64 (u0 : Nat), .int .u64 (u1 : Nat), .int .u64 (v0 : Nat), .int .u64 (v1 : Nat), .bool odd] 65) = z3 at *
            clear f2
            refine (apply_any odd u0 u1 v0 v1 w.heap.size px py _ cx cy (dg X) YL _ oxA oyA hap (by rw [val_dg, HYL.out]; exact HC2.out) (by rw [HYL.out]; omega) (by omega) (by omega) (by rw [val_dg, HYL.out]; exact hyx)).mono ?_
            rw [val_dg, HYL.out]
            rintro e z4 ⟨rfl, X', Y', Z1, Z2, hz1, hz2, o1, o2, g1, g2, g3, g4, f4⟩
            have oxC := o1.cut
            rw [hz1] at oxC
            have hl2 := dg_len_mono g3
            have hcy := o2.sl.le
            have HZ1 := Lib.hid hz1
            have HZ2 := Lib.hid hz2
            have G4 := Lib.hid g4
            have ff : Fr [] w z4 := (hf.trans fA (by simp)).trans f4 (fun x hx hl => by
              rcases List.mem_append.1 hx with h | h
              · have := oxA.pbn_ge x h; omega
              · have := oyA.pbn_ge x h; omega)
            clear hz1 hz2 g4
            go_wp2_with fail
            refine (cut_any px _ cx Z1 _ o1.sl).mono ?_
            rintro e w' ⟨rfl, rfl⟩
            rw [HZ1.out]
            go_wp2_with fail
            go_roundg (X' + Y')
            case rel => exact ⟨X', Y', px, cx, py, cy, Z2.take (dg X').length, rfl, rfl, oxC, o2.take hl2, by rw [val_take_all (by rw [HZ2.out]; exact Nat.lt_of_le_of_lt g1 (dg_lt _))]; exact HZ2.out, hap.sub (by omega), g1, rfl, by rw [G4.out]; exact HGC.out, by omega, ff⟩
            case measure =>
              have := HK.out
              omega
      · have hx64 : X < 18446744073709551616 := Nat.lt_of_lt_of_le (dg_lt X) (pB_mono (k := 2) (by omega))
        go_wp2_with fail
        refine (word_any px _ cx (dg X) _ ox.sl (by omega)).mono ?_
        rintro e w' ⟨rfl, rfl⟩
        rw [val_dg]
        go_wp2_with fail
        refine (word_any py _ cy YL _ oy.sl (by omega)).mono ?_
        rintro e w' ⟨rfl, rfl⟩
        rw [HYL.out]
        go_wp2_with fail
        refine (gcdWords_any X Y _ hx64 (by omega)).mono ?_
        rintro e z2 ⟨rfl, f2⟩
        go_wp2_with fail
        refine (fromWord_any (Nat.gcd X Y) _ (gcd_lt64 hx64 hyx)).mono ?_
        rintro e z3 ⟨pr, cr, rfl, o3, f3⟩
        rw [HGC.out] at o3 ⊢
        have hsz3 := hf.size
        have hsz4 := f2.size
        go_wp2_with fail
        go_ret
        exact ⟨pr, cr, rfl, o3.mono (by omega), (hf.trans f2 (by simp)).trans f3 (by simp)⟩

set_option maxRecDepth 100000 in
set_option maxHeartbeats 4000000 in
theorem gcd_lt (p q : Option Addr) (n m c d : Nat) (xs ys : List Nat) (w : World) (hA : Sl w p n c xs) (hB : Sl w q m d ys) (_hn : n ≤ 1099511627774) (hm : m ≤ 1099511627774) (hlt : val xs < val ys) :
    Calls Try.prog 21 #[.slice p n c, .slice q m d] w (RetOwn w (dg (Nat.gcd (val xs) (val ys)))) := by
  obtain ⟨i0, hi, hz0, hz1, hz2⟩ := info_parts Try.infoU
  have kA := hA.cut
  have kB := hB.cut
  have lA := dg_len_val hA.dig
  have lB := dg_len_val hB.dig
  rw [hA.len] at lA
  rw [hB.len] at lB
  have HLT := Lib.hid hlt
  have HC := Lib.hid (cmpN_lt hlt)
  go_enter Try.func21, Try.ntmps21
  go_wp2_with fail
  refine (cut_any _ _ _ _ _ hA).mono ?_
  rintro e w' ⟨rfl, rfl⟩
  go_wp2_with fail
  refine (cut_any _ _ _ _ _ hB).mono ?_
  rintro e w' ⟨rfl, rfl⟩
  clear hlt
  go_wp2_with fail
  refine (compare_any _ _ _ _ _ _ _ _ _ kA kB).mono ?_
  rw [val_dg, val_dg]
  rintro e w1 ⟨rfl, f1⟩
  rw [HC.out]
  have kU := kB.kept f1
  have kV := kA.kept f1
  have hls : (dg (val xs)).length ≤ (dg (val ys)).length := dg_len_mono (by have := HLT.out; omega)
  clear hA hB kA kB
  go_upto_region 4 with fail
  go_cut [5, 6] (fun s5 s6 wx => ∃ (px : Option Addr) (cx gy : Nat), s5 = .slice px (dg (val ys)).length cx ∧ s6 = .slice (some ⟨gy, 0, none⟩) (dg (val ys)).length (dg (val ys)).length ∧ Ow wx w1.heap.size px (dg (val ys)).length cx (dg (val ys)) ∧ Blk wx gy ((List.replicate (dg (val ys)).length 0).map dv) ∧ w1.heap.size ≤ gy ∧ gy ∉ pbn px (dg (val ys)).length ∧ Fr [] w1 wx)
  case first =>
    have HW := (Fr.refl [] w1).drew
    have hmk := run_mk (dg (val ys)).length (by omega)
    go_region_with (first
      | (go_at_call 71; (with_reducible refine (clone_any q _ d (dg (val ys)) _ (kU.kept HW) (by omega)).mono ?_); rintro e U1 ⟨px, cx, rfl, ox, ff⟩; replace HW := HW.trans ff (by simp))
      | (go_at_call 71; (with_reducible refine (clone_any q _ d (dg (val ys)) _ (kU.kept ((Fr.refl [] w1).alloc _).drew) (by omega)).mono ?_); rintro e U1 ⟨px, cx, rfl, ox, ff⟩; have HW2 := (((Fr.refl [] w1).alloc _).drew).trans ff (by simp); have hz := (Blk.zeros w1 (dg (val ys)).length).kept ((Fr.refl [] _).drew.trans ff (by simp))))
    · go_wp2_with fail
      go_meet
      exact ⟨px, cx, U1.heap.size, rfl, rfl, (ox.kept ((Fr.refl [] _).alloc _)).mono (b' := w1.heap.size) (Nat.le_refl _), Blk.zeros _ _, HW.size, fun hm => Nat.lt_irrefl _ (ox.pbn_lt _ hm), HW.alloc _⟩
    · go_wp2_with fail
      go_meet
      exact ⟨px, cx, w1.heap.size, rfl, rfl, ox.mono (by simp), hz, Nat.le_refl _, fun hm => by have := ox.pbn_ge _ hm; simp at this; omega, HW2⟩
  case rest =>
    obtain ⟨px, cx, gy, rfl, rfl, hox, hby, hgy, hap, fx⟩ := hcut
    have kV2 := kV.kept fx
    go_wp2_with (refine wpList_copyD rfl _ _ rfl gy _ _ _ _ _ (dg (val xs)) (List.replicate (dg (val ys)).length 0) rfl rfl kV2 hby (by simp) hls ?_)
    intro w4 hb4 f4
    have hsz := f1.size
    obtain ⟨YL0, hYL0⟩ : ∃ Z, Z = dg (val xs) ++ (List.replicate (dg (val ys)).length 0).drop (dg (val xs)).length := ⟨_, rfl⟩
    have hb5 : Blk w4 gy (YL0.map dv) := by rw [hYL0]; simpa using hb4.out
    have oyl : YL0.length = (dg (val ys)).length := by rw [hYL0]; simp; omega
    have oyv : val YL0 = val xs := by rw [hYL0, val_append, val_dg, List.drop_replicate, val_zeros]; rfl
    have oyd : Dg YL0 := by rw [hYL0]; exact kV.dig.append ((Dg.zeros _).drop _)
    have oy0 := Ow.of_blk (base := w.heap.size) hb5 (by omega) (by omega) oyd
    rw [oyl] at oy0
    have ox0 := (hox.keep2 f4 (fun x hx hy => by have := List.mem_singleton.1 hy; rw [this] at hx; exact hap hx)).mono (b' := w.heap.size) (by omega)
    have ap0 : Apart px (some ⟨gy, 0, none⟩) (dg (val ys)).length := by
      intro x hx hy
      unfold pbn at hy
      split at hy
      · simp at hy
      · simp at hy; rw [hy] at hx; exact hap hx
    have fw4 : Fr [] w w4 := (f1.trans fx (by simp)).trans f4 (by intro x hx hl; have := List.mem_singleton.1 hx; omega)
    have hle0 : val xs ≤ val ys := by have := HLT.out; omega
    have OYV := Lib.hid oyv
    have HBN := Lib.hid (show (dg (val ys)).length ≤ 1099511627774 by omega)
    clear hb4 hb5 hYL0 oyd f4 hox hby hgy hap fx kV2 kU kV oyl oyv f1 hls lA lB
    go_wp2_with fail
    go_loopg [5, 6] (val ys + val xs) (fun k s5 s6 wr => ∃ (X Y : Nat) (px : Option Addr) (cx : Nat) (py : Option Addr) (cy : Nat) (YL : List Nat), s5 = .slice px (dg X).length cx ∧ s6 = .slice py (dg X).length cy ∧ Ow wr w.heap.size px (dg X).length cx (dg X) ∧ Ow wr w.heap.size py (dg X).length cy YL ∧ val YL = Y ∧ Apart px py (dg X).length ∧ Y ≤ X ∧ X + Y = k ∧ Nat.gcd X Y = Nat.gcd (val xs) (val ys) ∧ X ≤ val ys ∧ Fr [] w wr)
    case atStart => exact ⟨val ys, val xs, px, cx, some ⟨gy, 0, none⟩, _, YL0, rfl, rfl, ox0, oy0, OYV.out, ap0, hle0, rfl, Nat.gcd_comm _ _, Nat.le_refl _, fw4⟩
    case round =>
      clear ox0 oy0 ap0 fw4 hle0
      obtain ⟨X, Y, px, cx, py, cy, YL, rfl, rfl, ox, oy, hyl, hap, hyx, hk, hgcd, hxu, hf⟩ := hrel
      have hlx : (dg X).length ≤ 1099511627774 := Nat.le_trans (dg_len_mono hxu) HBN.out
      have HYL := Lib.hid hyl
      have HK := Lib.hid hk
      have HGC := Lib.hid hgcd
      clear hyl hk hgcd
      by_cases h3 : 2 < (dg X).length
      · go_wp2_with fail
        refine (cut_any _ _ _ YL _ oy.sl).mono ?_
        rintro e w' ⟨rfl, rfl⟩
        rw [HYL.out]
        by_cases hY : Y = 0
        · subst hY
          have hz : (dg 0).length = 0 := by rw [dg_zero]; rfl
          have HE : Hid (Nat.gcd (val xs) (val ys) = X) := by show _ = _; rw [← HGC.out, Nat.gcd_zero_right]
          rw [hz]
          clear hz
          go_wp2_with fail
          go_ret
          rw [HE.out]
          exact ⟨px, cx, rfl, ox, hf⟩
        · have hYp : 0 < (dg Y).length := Nat.pos_of_ne_zero (fun e => hY (dg_nil.1 (List.eq_nil_of_length_eq_zero e)))
          have htop : gd (dg X) ((dg X).length - 1) ≠ 0 := dg_last (by omega)
          have hly := dg_len_mono hyx
          go_wp2_with fail
          refine (simulate_any px py _ cx cy (dg X) YL _ ox.sl oy.sl (by omega) (by omega) htop (by rw [val_dg, HYL.out]; exact hyx)).mono ?_
          rw [val_dg, HYL.out]
          rintro e w2 ⟨u0, u1, v0, v1, odd, rfl, hcof, f2⟩
          by_cases hv : v0 = 0
          · have hv0 : ((v0 : Int) != 0) = false := by rw [hv]; rfl
            rw [hv0]
            have HC2 := Lib.hid hcof
            clear hv hv0 hcof
            go_wp2_with fail
            have fA : Fr [] wr (w2.alloc (Obj.cells #[.int .u64 (u0 : Nat), .int .u64 (u1 : Nat), .int .u64 (v0 : Nat), .int .u64 (v1 : Nat), .bool odd] 65)) := f2.alloc _
            have oxA := ox.kept fA
            have oyA := oy.kept fA
            generalize w2.alloc (Obj.cells #[.int .u64 (u0 : Nat), .int .u64 (u1 : Nat), .int .u64 (v0 : Nat), .int .u64 (v1 : Nat), .bool odd] 65) = z3 at *
            clear f2
            refine (cut_any _ _ _ YL _ oyA.sl).mono ?_
            rintro e w' ⟨rfl, rfl⟩
            have oyB := oyA.cut
            rw [HYL.out] at oyB ⊢
            go_wp2_with fail
            refine (divide_any px py _ _ cx cy (dg X) (dg Y) _ oxA.sl oyB.sl (by omega) (by omega) (by omega) (dg_last (by omega))).mono ?_
            rintro e z4 ⟨pq, nq, cq, Qd, pr, nr, cr, R, rfl, oq, or', e1, e2, e3, e4, f4⟩
            obtain rfl := e3
            rw [val_dg, val_dg] at e2
            have hrl := or'.sl.le
            have hsz1 := fA.size
            have hsz2 := hf.size
            have E2 := Lib.hid e2
            have hap2 : Apart py pr (dg Y).length := fun x h1 h2 => by
              have := oyB.pbn_lt x h1
              have := or'.pbn_ge x h2
              omega
            clear e1 e2 e4 oq
            go_wp2_with fail
            go_roundg (Y + X % Y)
            case rel => exact ⟨Y, X % Y, py, cy, pr, cr, R, rfl, rfl, oyB.kept f4, or'.mono (by omega), E2.out, hap2, Nat.le_of_lt (Nat.mod_lt _ (by omega)), rfl, by rw [gcd_mod]; exact HGC.out, by omega, (hf.trans fA (by simp)).trans f4 (by simp)⟩
            case measure =>
              have := Nat.mod_lt X (show 0 < Y by omega)
              have := HK.out
              omega
          · have hv0 : ((v0 : Int) != 0) = true := bne_iff_ne.2 (by omega)
            rw [hv0]
            have HC2 := Lib.hid (hcof hv)
            clear hv hv0 hcof
            go_wp2_with fail
            have fA : Fr [] wr (w2.alloc (Obj.cells #[.int .u64 (u0 : Nat), .int .u64 (u1 : Nat), .int .u64 (v0 : Nat), .int .u64 (v1 : Nat), .bool odd] 65)) := f2.alloc _
            have oxA := ox.kept fA
            have oyA := oy.kept fA
            generalize w2.alloc (Obj.cells #[.int .u64 (u0 : Nat), .int .u64 (u1 : Nat), .int .u64 (v0 : Nat), .int .u64 (v1 : Nat), .bool odd] 65) = z3 at *
            clear f2
            refine (apply_any odd u0 u1 v0 v1 w.heap.size px py _ cx cy (dg X) YL _ oxA oyA hap (by rw [val_dg, HYL.out]; exact HC2.out) (by rw [HYL.out]; omega) (by omega) (by omega) (by rw [val_dg, HYL.out]; exact hyx)).mono ?_
            rw [val_dg, HYL.out]
            rintro e z4 ⟨rfl, X', Y', Z1, Z2, hz1, hz2, o1, o2, g1, g2, g3, g4, f4⟩
            have oxC := o1.cut
            rw [hz1] at oxC
            have hl2 := dg_len_mono g3
            have hcy := o2.sl.le
            have HZ1 := Lib.hid hz1
            have HZ2 := Lib.hid hz2
            have G4 := Lib.hid g4
            have ff : Fr [] w z4 := (hf.trans fA (by simp)).trans f4 (fun x hx hl => by
              rcases List.mem_append.1 hx with h | h
              · have := oxA.pbn_ge x h; omega
              · have := oyA.pbn_ge x h; omega)
            clear hz1 hz2 g4
            go_wp2_with fail
            refine (cut_any px _ cx Z1 _ o1.sl).mono ?_
            rintro e w' ⟨rfl, rfl⟩
            rw [HZ1.out]
            go_wp2_with fail
            go_roundg (X' + Y')
            case rel => exact ⟨X', Y', px, cx, py, cy, Z2.take (dg X').length, rfl, rfl, oxC, o2.take hl2, by rw [val_take_all (by rw [HZ2.out]; exact Nat.lt_of_le_of_lt g1 (dg_lt _))]; exact HZ2.out, hap.sub (by omega), g1, rfl, by rw [G4.out]; exact HGC.out, by omega, ff⟩
            case measure =>
              have := HK.out
              omega
      · have hx64 : X < 18446744073709551616 := Nat.lt_of_lt_of_le (dg_lt X) (pB_mono (k := 2) (by omega))
        go_wp2_with fail
        refine (word_any px _ cx (dg X) _ ox.sl (by omega)).mono ?_
        rintro e w' ⟨rfl, rfl⟩
        rw [val_dg]
        go_wp2_with fail
        refine (word_any py _ cy YL _ oy.sl (by omega)).mono ?_
        rintro e w' ⟨rfl, rfl⟩
        rw [HYL.out]
        go_wp2_with fail
        refine (gcdWords_any X Y _ hx64 (by omega)).mono ?_
        rintro e z2 ⟨rfl, f2⟩
        go_wp2_with fail
        refine (fromWord_any (Nat.gcd X Y) _ (gcd_lt64 hx64 hyx)).mono ?_
        rintro e z3 ⟨pr, cr, rfl, o3, f3⟩
        rw [HGC.out] at o3 ⊢
        have hsz3 := hf.size
        have hsz4 := f2.size
        go_wp2_with fail
        go_ret
        exact ⟨pr, cr, rfl, o3.mono (by omega), (hf.trans f2 (by simp)).trans f3 (by simp)⟩

/-- nat.Gcd. -/
theorem gcd_any (p q : Option Addr) (n m c d : Nat) (xs ys : List Nat) (w : World) (hA : Sl w p n c xs) (hB : Sl w q m d ys) (hn : n ≤ 1099511627774) (hm : m ≤ 1099511627774) :
    Calls Try.prog 21 #[.slice p n c, .slice q m d] w (RetOwn w (dg (Nat.gcd (val xs) (val ys)))) := by
  by_cases h : val xs < val ys
  · exact gcd_lt p q n m c d xs ys w hA hB hn hm h
  · exact gcd_ge p q n m c d xs ys w hA hB hn hm h

end Go.Proofs.Ytfjhdhmneknmkaa
