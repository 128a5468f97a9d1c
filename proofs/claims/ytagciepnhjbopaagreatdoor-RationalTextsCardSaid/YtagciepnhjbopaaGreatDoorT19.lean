/- What the statements of this claim stand on: of Open, IntOpen, what they name -/
import Derived.Lib.SmallJoins
import Derived.ProofKit
import Derived.Test.YtagciepnhjbopaaGreatDoorT04
import Derived.Test.YtagciepnhjbopaaGreatDoorT18

namespace Go.Proofs.YtagciepnhjbopaaGreatDoor
open Go.ChangeShapes Go.WideShapes Go.ChangeAt Go.RowKit

theorem Tryz.own : ownKnob Tryz.prog.godebug = none := by kernel_rfl

theorem Tryz.laidOut : laidOutB Tryz.prog = true := by kernel_rfl

theorem Tryz.cellsU : Tryz.prog.cellsOf 52 = 1 := by kernel_rfl

theorem view_digits {H : Type} {enc : TypeId × Value → H} {W : World} {a0 : Option Addr} {len cap : Nat} {d : DataW H} {p : List MemPlace}
    (h : DataW.Trod enc Tryz.prog W 0 (fun _ => true) true 22 (Value.slice a0 len cap) d p) : ∃ xs, Sl W a0 len cap xs := by
  obtain ⟨fuel, hf⟩ := h
  rcases open_ints Tryz.underlying22 Tryz.underlying52 Tryz.cellsU hf with ⟨hcs, _⟩ | ⟨a, len', cap', zs, hcs, _, hl, hm, hz, _, hcell, hwz⟩
  · simp [Value.cells] at hcs
    obtain ⟨rfl, rfl, rfl⟩ := hcs
    exact ⟨[], Sl.zero W⟩
  · simp [Value.cells] at hcs
    obtain ⟨rfl, rfl, rfl⟩ := hcs
    simp only [if_true] at hz
    have hlen : ((zs.take len).map Int.toNat).length = len := by simp; omega
    have hw : ∀ j (hj : j < zs.length), 0 ≤ zs[j] ∧ zs[j] < 4294967296 := fun j hj => by
      have := hwz _ (List.getElem_mem hj)
      simp [Lit.wf, IntKind.min, IntKind.max, IntKind.signed, IntKind.bits] at this
      omega
    refine ⟨(zs.take len).map Int.toNat, hlen, hl, by simpa [maxLen] using hm, (fun h => by cases h), ?_, ?_⟩
    · by_cases h0 : len = 0
      · left; exact List.eq_nil_of_length_eq_zero (by rw [hlen, h0])
      · right
        obtain ⟨b, o, s⟩ := a
        have hc0 := hcell 0 (by omega)
        have hs : s = none := by simpa [Addr.add] using World.cell?_spot hc0
        subst hs
        have hb : b < W.heap.size := by simpa [Addr.add] using World.block_lt_of_cell? W _ hc0
        refine ⟨b, o, rfl, hb, fun j hj => ?_⟩
        rw [hlen] at hj
        have hj2 : j < zs.length := by omega
        have h1 := hcell j hj2
        have ea : (⟨b, o, none⟩ : Addr).add j = ⟨b, o + j, none⟩ := by
          unfold Addr.add
          split
          · subst_vars; rfl
          · rfl
        rw [ea] at h1
        rw [h1]
        have h2 := hw j hj2
        have h3 : gd ((zs.take len).map Int.toNat) j = zs[j].toNat := by rw [gd_lt (by rw [hlen]; exact hj)]; simp
        rw [h3]
        have h4 : zs.getD j 0 = zs[j] := by simp [hj2]
        have h5 : ((zs[j].toNat : Nat) : Int) = zs[j] := Int.toNat_of_nonneg h2.1
        rw [h4]
        show some (Value.int .u32 zs[j]) = some (Value.int .u32 ((zs[j].toNat : Nat) : Int))
        rw [h5]
    · intro x hx
      obtain ⟨z, hz1, rfl⟩ := List.mem_map.1 hx
      obtain ⟨j, hj, rfl⟩ := List.getElem_of_mem (List.mem_of_mem_take hz1)
      have := hw j hj
      omega

end Go.Proofs.YtagciepnhjbopaaGreatDoor

namespace Go.Proofs.YtagciepnhjbopaaGreatDoor
open Go.Joins Go.ChangeShapes Go.WideShapes Go.ChangeAt Go.RowKit Go.Deep

set_option maxRecDepth 100000 in
theorem Tryz.cellsI : Tryz.prog.cellsOf 24 = 2 := by kernel_rfl

set_option maxRecDepth 100000 in
theorem view_slice {H : Type} {enc : TypeId × Value → H} {W : World} {fuel : Nat} {v : Value} {y : DataW H × List MemPlace}
    (hf : DataW.trod enc Tryz.prog W 0 (fun _ => true) true fuel 22 [v] = some y) : ∃ a0 len cap xs, v = .slice a0 len cap ∧ Sl W a0 len cap xs := by
  rcases open_ints Tryz.underlying22 Tryz.underlying52 Tryz.cellsU hf with ⟨hcs, _⟩ | ⟨a, len', cap', zs, hcs, _, hl, hm, hz, _, hcell, hwz⟩
  · simp at hcs
    exact ⟨none, 0, 0, [], hcs, Sl.zero W⟩
  · simp at hcs
    subst hcs
    refine ⟨some a, len', cap', ?_⟩
    exact (view_digits (enc := enc) (d := y.1) (p := y.2) ⟨fuel, by simpa [Value.cells] using hf⟩).imp fun xs h => ⟨rfl, h⟩

theorem len_add (x y : Int) : (dg (x + y).natAbs).length ≤ (dg x.natAbs).length + (dg y.natAbs).length + 1 :=
  Nat.le_trans (dg_len_mono (Int.natAbs_add_le x y)) (dg_add_len _ _)

theorem len_mul (x y : Int) : (dg (x * y).natAbs).length ≤ (dg x.natAbs).length + (dg y.natAbs).length := by
  rw [Int.natAbs_mul]; exact dg_mul_len _ _

theorem len_neg (x : Int) : (dg (-x).natAbs).length = (dg x.natAbs).length := by rw [Int.natAbs_neg]

theorem calls_rj {P : Program} {f : FuncId} {vs : Array Value} {w : World} {z v : Int} {b : Bool} {m : Nat} (h : Calls P f vs w (RetI w z)) (e : z = v) (hb : decide (v < 0) = b) (hm : v.natAbs = m) :
    Calls P f vs w fun e w' => ∃ p c, e = .returned (iw b p (dg m).length c) ∧ Ow w' w.heap.size p (dg m).length c (dg m) ∧ Fr [] w w' := by
  subst e
  exact calls_ri h hb hm

end Go.Proofs.YtagciepnhjbopaaGreatDoor
