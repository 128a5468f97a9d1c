/- What an argument of type []uint32 reads as; what holds of the arguments behind a call. -/
import Derived.Test.YtfjhdhmneknmkaaBase
import Derived.ProofKit
namespace Go.Proofs.Ytfjhdhmneknmkaa
open Go.ChangeShapes Go.WideShapes Go.ChangeAt Go.RowKit

theorem Try.own : ownKnob Try.prog.godebug = none := by kernel_rfl
theorem Try.laidOut : laidOutB Try.prog = true := by kernel_rfl
theorem Try.cellsU : Try.prog.cellsOf 57 = 1 := by kernel_rfl

theorem view_digits {H : Type} {enc : TypeId × Value → H} {W : World} {a0 : Option Addr} {len cap : Nat} {d : DataW H} {p : List MemPlace}
    (h : DataW.Trod enc Try.prog W 0 (fun _ => true) true 22 (Value.slice a0 len cap) d p) : ∃ xs, Sl W a0 len cap xs := by
  obtain ⟨fuel, hf⟩ := h
  rcases open_ints Try.underlying22 Try.underlying57 Try.cellsU hf with ⟨hcs, _⟩ | ⟨a, len', cap', zs, hcs, _, hl, hm, hz, _, hcell, hwz⟩
  · simp [Value.cells] at hcs
    obtain ⟨rfl, rfl, rfl⟩ := hcs
    exact ⟨[], Sl.zero W⟩
  · simp [Value.cells] at hcs
    obtain ⟨rfl, rfl, rfl⟩ := hcs
    simp only [if_true] at hz
    have hlen : ((zs.take len).map Int.toNat).length = len := by simp; omega
    have hw : ∀ j (hj : j < zs.length), 0 ≤ zs[j] ∧ zs[j] < 4294967296 := fun j hj => by
      have := hwz _ (List.getElem_mem hj)
      simp [Lit.wf, IntKind.min, IntKind.max, IntKind.signed, IntKind.bits] at this
      omega
    refine ⟨(zs.take len).map Int.toNat, hlen, hl, by simpa [maxLen] using hm, (fun h => by cases h), ?_, ?_⟩
    · by_cases h0 : len = 0
      · left; exact List.eq_nil_of_length_eq_zero (by rw [hlen, h0])
      · right
        obtain ⟨b, o, s⟩ := a
        have hc0 := hcell 0 (by omega)
        have hs : s = none := by simpa [Addr.add] using World.cell?_spot hc0
        subst hs
        have hb : b < W.heap.size := by simpa [Addr.add] using World.block_lt_of_cell? W _ hc0
        refine ⟨b, o, rfl, hb, fun j hj => ?_⟩
        rw [hlen] at hj
        have hj2 : j < zs.length := by omega
        have h1 := hcell j hj2
        have ea : (⟨b, o, none⟩ : Addr).add j = ⟨b, o + j, none⟩ := by
          unfold Addr.add
          split
          · subst_vars; rfl
          · rfl
        rw [ea] at h1
        rw [h1]
        have h2 := hw j hj2
        have h3 : gd ((zs.take len).map Int.toNat) j = zs[j].toNat := by rw [gd_lt (by rw [hlen]; exact hj)]; simp
        rw [h3]
        have h4 : zs.getD j 0 = zs[j] := by simp [hj2]
        have h5 : ((zs[j].toNat : Nat) : Int) = zs[j] := Int.toNat_of_nonneg h2.1
        rw [h4]
        show some (Value.int .u32 zs[j]) = some (Value.int .u32 ((zs[j].toNat : Nat) : Int))
        rw [h5]
    · intro x hx
      obtain ⟨z, hz1, rfl⟩ := List.mem_map.1 hx
      obtain ⟨j, hj, rfl⟩ := List.getElem_of_mem (List.mem_of_mem_take hz1)
      have := hw j hj
      omega

theorem stays {H : Type} {enc : TypeId × Value → H} {W W' : World} {v : Value} {d : DataW H} {ps : List MemPlace} (h : DataW.Trod enc Try.prog W 0 (fun _ => true) true 22 v d ps) (hb : Below W.heap.size W W') (hlt : ∀ x ∈ ps, x.block < W.heap.size) :
    DataW.Trod enc Try.prog W' 0 (fun b => decide (b < W.heap.size)) true 22 v d ps :=
  Below.trod Try.laidOut (by kernel_rfl) (of_decide_eq_true (by kernel_rfl)) h hb hlt

end Go.Proofs.Ytfjhdhmneknmkaa
