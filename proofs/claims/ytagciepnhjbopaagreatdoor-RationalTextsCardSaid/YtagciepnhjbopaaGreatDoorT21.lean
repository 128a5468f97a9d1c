/- What the statements of this claim stand on: of Ref11, what they name -/
import Derived.Test.YtagciepnhjbopaaGreatDoorT20

namespace Go.Proofs.YtagciepnhjbopaaGreatDoor
open Go.RowKit

theorem rdivmod_yes (p q : Option Addr) (n c m d : Nat) (xs ys : List Nat) (w : World) (h1 : Sl w p n c xs) (h2 : Sl w q m d ys) (hn : n ≤ 1048575) (hm : m ≤ 1048575) (hv : val ys ≠ 0) :
    Calls Tryz.prog 178 #[.slice p n c, .slice q m d] w fun e w' => ∃ pq cq pr cr, e = .returned (.tuple #[.slice pq (dg (val xs / val ys)).length cq, .slice pr (dg (val xs % val ys)).length cr, .int .i64 0]) ∧
      Ow w' w.heap.size pq (dg (val xs / val ys)).length cq (dg (val xs / val ys)) ∧ Ow w' w.heap.size pr (dg (val xs % val ys)).length cr (dg (val xs % val ys)) ∧ Fr [] w w' := by
  have hl : (dg (val ys)).length ≠ 0 := fun e => hv (dg_nil.1 (List.eq_nil_of_length_eq_zero e))
  by_cases h : (dg (val ys)).length = 1
  · exact rdivmod_one p q n c m d xs ys w h1 h2 (by omega) (by omega) h
  · by_cases hlt : val xs < val ys
    · exact rdivmod_less p q n c m d xs ys w h1 h2 (by omega) (by omega) (by omega) hlt
    · obtain ⟨k, hk⟩ : ∃ k, (dg (val ys)).length = k + 2 := ⟨(dg (val ys)).length - 2, by omega⟩
      exact rdivmod_long p q n c m d k xs ys w h1 h2 hn hm hk (by omega)

end Go.Proofs.YtagciepnhjbopaaGreatDoor
