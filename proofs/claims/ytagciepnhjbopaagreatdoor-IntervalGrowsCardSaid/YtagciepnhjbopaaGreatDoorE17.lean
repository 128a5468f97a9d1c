/- What the statements of this claim stand on: of Txt2, Txt4, Int13, what they name -/
import Derived.ChangeMaps5
import Derived.Deep.RegionWith
import Derived.WalkMore
import Derived.Test.YtagciepnhjbopaaGreatDoorE11
import Derived.Test.YtagciepnhjbopaaGreatDoorE16

namespace Go.Proofs.YtagciepnhjbopaaGreatDoor
open Go.RowKit

def by' (s : ByteArray) (k : Nat) : Nat := (s.data.toList.getD k 0).toNat

def Good (s : ByteArray) : Prop := s.size ≠ 0 ∧ (by' s 0 = 48 → s.size = 1) ∧ ∀ j, j < s.size → 48 ≤ by' s j ∧ by' s j ≤ 57

end Go.Proofs.YtagciepnhjbopaaGreatDoor

namespace Go.Proofs.YtagciepnhjbopaaGreatDoor
open Go.RowKit

open Classical in

open Classical in

noncomputable def pre (s : ByteArray) : Int := if Good s then 0 else 6

end Go.Proofs.YtagciepnhjbopaaGreatDoor

namespace Go.Proofs.YtagciepnhjbopaaGreatDoor
open Go.RowKit

theorem calls_rd {P : Program} {f : FuncId} {vs : Array Value} {w : World} {z y : Int} (h : Calls P f vs w (RetD w z y)) {b b' : Bool} {m m' : Nat} (hb : decide (z < 0) = b) (hm : z.natAbs = m) (hb' : decide (y < 0) = b') (hm' : y.natAbs = m') :
    Calls P f vs w fun e w' => ∃ p c p' c', e = .returned (.tuple #[iw b p (dg m).length c, iw b' p' (dg m').length c', .int .i64 0]) ∧ Ow w' w.heap.size p (dg m).length c (dg m) ∧ Ow w' w.heap.size p' (dg m').length c' (dg m') ∧ Fr [] w w' := by
  subst hb
  subst hm
  subst hb'
  subst hm'
  exact h

end Go.Proofs.YtagciepnhjbopaaGreatDoor
