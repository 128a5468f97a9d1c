/- scaleAndAdd and nat.Parse. -/
import Derived.Test.YtfjhdhmneknmkaaRef3
namespace Go.Proofs.Ytfjhdhmneknmkaa
open Go.RowKit

/-- A digit of a row of the call's own is read and written. -/
theorem row_at {w : World} {base n c k : Nat} {p : Option Addr} {xs : List Nat} (h : Rw' w base (.slice p n c) n xs) (hk : k < n) :
    ∃ g, p = some ⟨g, 0, none⟩ ∧ base ≤ g ∧ w.cell? ⟨g, k, none⟩ = some (dv (gd xs k)) ∧ w.frozen? ⟨g, k, none⟩ = false ∧ ∀ d, Rw' (w.setCell ⟨g, k, none⟩ (dv d)) base (.slice p n c) n (xs.set k d) := by
  have hl : xs.length = n := by simpa using h.1
  rcases h.2 with ⟨h0, h1⟩ | ⟨g, cap, cur, h0, h1, h2, h3, h4, h5, h6⟩
  · omega
  · cases h0
    have hb : Blk w g cur.toList := by simpa [Blk] using h2
    rw [Nat.mul_one] at h5 h6
    have hcur : cur.toList[k]? = some (dv (gd xs k)) := by
      have e : (cur.toList.take n)[k]? = (xs.map dv)[k]? := by rw [h6]
      rw [List.getElem?_take, if_pos hk, List.getElem?_map, List.getElem?_eq_getElem (l := xs) (by omega)] at e
      rw [e, gd_lt (by omega)]
      rfl
    refine ⟨g, rfl, h1, hb.cell hcur, hb.free k, fun d => ⟨by simpa using hl, Or.inr ⟨g, c, (cur.toList.set k (dv d)).toArray, rfl, h1, hb.set k (dv d), h3, h4, by simpa using h5, ?_⟩⟩⟩
    rw [Nat.mul_one, List.toList_toArray, List.take_set, h6, List.map_set]

/-- One step of a product by a digit and a sum. -/
theorem scale_step {xs Z : List Nat} {s a k C T : Nat} (hZ : Z.length = k) (h : val Z + pB k * C = a + s * val (xs.take k)) (hT : T = C + gd xs k * s) :
    val (Z ++ [T % 4294967296]) + pB (k + 1) * (T / 4294967296) = a + s * val (xs.take (k + 1)) := by
  rw [val_append, val_one, hZ, val_take_succ, pB_succ]
  have e1 : pB k * (T % 4294967296) + 4294967296 * pB k * (T / 4294967296) = pB k * T := by
    have : T = T % 4294967296 + 4294967296 * (T / 4294967296) := by omega
    conv => rhs; rw [this, Nat.mul_add]
    rw [Nat.mul_comm 4294967296 (pB k), Nat.mul_assoc]
  have e2 : pB k * T = pB k * C + s * (pB k * gd xs k) := by
    rw [hT, Nat.mul_add]
    grind
  rw [Nat.mul_add]
  omega
theorem set_mid {xs Z : List Nat} {k d : Nat} (hZ : Z.length = k) (hk : k < xs.length) : (Z ++ xs.drop k).set k d = (Z ++ [d]) ++ xs.drop (k + 1) := by
  rw [List.set_append_right _ _ (by omega), hZ, Nat.sub_self, List.drop_eq_getElem_cons hk, List.set_cons_zero, List.append_assoc, List.singleton_append]

set_option maxRecDepth 100000 in
set_option maxHeartbeats 1000000 in
theorem scale_any (base n s a : Nat) (v : Value) (xs : List Nat) (w w0 : World) (h : Rw' w base v n xs) (hx : Dg xs) (hs : s ≤ 1000000000) (ha : a < 4294967296) (hn : n ≤ 1048576) (f : Fr [] w0 w) (hb0 : w0.heap.size ≤ base) (hb : base ≤ w.heap.size) :
    Calls Try.prog 108 #[v, .int .u32 s, .int .u32 a] w fun e w' => ∃ v' ys, e = .returned v' ∧ Rw' w' base v' ys.length ys ∧ Dg ys ∧ val ys = a + s * val xs ∧ ys.length ≤ n + 1 ∧ Fr [] w0 w' := by
  have hxl : xs.length = n := by simpa using h.1
  obtain ⟨p, c, rfl⟩ : ∃ p c, v = .slice p n c := by
    rcases h.2 with ⟨h0, h1⟩ | ⟨g, cap, cur, h0, _⟩
    · exact ⟨none, 0, by rw [h0, h1]⟩
    · exact ⟨_, _, h0⟩
  go_enter Try.func108, Try.ntmps108
  go_wp2
  go_loopw [7, 14] (fun r t wr => ∃ (k C : Nat) (Z : List Nat), k ≤ n ∧ r = .int .u64 C ∧ t = .int .i64 k ∧ C ≤ 4294967295 ∧ Z.length = k ∧ Dg Z ∧ val Z + pB k * C = a + s * val (xs.take k) ∧ Rw' wr base (.slice p n c) n (Z ++ xs.drop k) ∧ Fr [] w0 wr ∧ base ≤ wr.heap.size) (fun _ t _ => n - (intOf t).toNat)
  case atStart => exact ⟨0, a, [], Nat.zero_le _, rfl, rfl, by omega, rfl, Dg.nil, by simp [val, pB_zero], by simpa using h, f, hb⟩
  case round =>
    obtain ⟨k, C, Z, hk, rfl, rfl, hC, hZ, hZd, hv, hR, hf, hbs⟩ := hrel
    have HZ := Lib.hid hZ
    have Hv := Lib.hid hv
    clear hZ hv h f
    by_cases hlt : k < n
    · obtain ⟨g, rfl, hg, c1, c3, hset⟩ := row_at hR hlt
      have hgx : gd (Z ++ xs.drop k) k = gd xs k := by rw [gd_append_right (by rw [HZ.out]; exact Nat.le_refl _), gd_drop, HZ.out, Nat.sub_self, Nat.add_zero]
      rw [hgx] at c1
      have d1 := hx.at k
      have HT : Hid (∀ T, T = C + gd xs k * s → _) := fun T => scale_step HZ.out Hv.out
      have HS : Hid (∀ d, Rw' (wr.setCell ⟨g, k, none⟩ (dv d)) base (.slice (some ⟨g, 0, none⟩) n c) n ((Z ++ [d]) ++ xs.drop (k + 1))) := fun d => by
        have := hset d
        rwa [set_mid HZ.out (by omega)] at this
      have hbd := mul_small d1 (show s < 4294967296 by omega)
      have hbd2 : gd xs k * s ≤ 4294967295 * 1000000000 := Nat.mul_le_mul (by omega) hs
      have hbd' : (gd xs k : Int) * (s : Int) ≤ 4294967295000000000 := by rw [← Int.natCast_mul]; omega
      have hbd0 : (0 : Int) ≤ (gd xs k : Int) * (s : Int) := by rw [← Int.natCast_mul]; omega
      clear hset hgx hR
      generalize gd xs k = x at *
      go_wp2
      go_roundw
      case rel =>
        have eT : (C : Int) + (x : Int) * s = ((C + x * s : Nat) : Int) := by simp
        have eM : ((C : Int) + (x : Int) * s) % 4294967296 = (((C + x * s) % 4294967296 : Nat) : Int) := by rw [eT]; omega
        have eD : ((C : Int) + (x : Int) * s) / 4294967296 = (((C + x * s) / 4294967296 : Nat) : Int) := by rw [eT]; omega
        rw [eM, eD]
        refine ⟨k + 1, _, Z ++ [(C + x * s) % 4294967296], by omega, rfl, by go_num, by omega, by simp [HZ.out], hZd.append (Dg.one (by omega)), HT.out _ rfl, HS.out _, hf.setCell _ _ (by simp; omega), by simpa [World.setCell] using hbs⟩
      case measure => simp [intOf]; omega
    · obtain rfl : k = n := by omega
      rw [List.drop_of_length_le (by omega), List.append_nil] at hR
      have hv := Hv.out
      rw [List.take_of_length_le (by omega)] at hv
      by_cases hC0 : C = 0
      · subst hC0
        rw [Nat.mul_zero, Nat.add_zero] at hv
        have hv2 := Lib.hid hv
        have hR2 : Rw' wr base (.slice p k c) Z.length Z := by rw [HZ.out]; exact hR
        clear hv
        go_wp2
        go_ret
        exact ⟨_, Z, rfl, hR2, hZd, hv2.out, by rw [HZ.out]; omega, hf⟩
      · have hval : val (Z ++ [C]) = a + s * val xs := by rw [val_append, val_one, HZ.out, hv]
        have HV := Lib.hid hval
        have hne : ((C : Int) == 0) = false := beq_eq_false_iff_ne.2 (by omega)
        clear hv hval hC0
        go_wp2_with (at_builtin; refine wpList_app1 rfl _ _ rfl base _ k Z rfl (by exact row_kept hR ((Fr.refl _ _).alloc _)) _ _ C rfl _ (by exact blk_cell0' _ _) (by omega) (by omega) (by simp; omega) w0 (hf.alloc _) hb0 ?_)
        intro v' w' hR' hf'
        have hR2 : Rw' w' base v' (Z ++ [C]).length (Z ++ [C]) := by rw [List.length_append, List.length_singleton, HZ.out]; exact hR'
        go_wp2
        go_ret
        exact ⟨v', Z ++ [C], rfl, hR2, hZd.append (Dg.one (by omega)), HV.out, by simp [HZ.out], hf'⟩

end Go.Proofs.Ytfjhdhmneknmkaa
