/- What the statements of this claim stand on: of Open, IntOpen, what they name -/
import Derived.Lib.SmallJoins
import Derived.ProofKit
import Derived.Test.YtagciepnhjbopaaGreatDoorS04
import Derived.Test.YtagciepnhjbopaaGreatDoorS18

namespace Go.Proofs.YtagciepnhjbopaaGreatDoor
open Go.ChangeShapes Go.WideShapes Go.ChangeAt Go.RowKit

theorem Tryz.own : ownKnob Tryz.prog.godebug = none := by kernel_rfl

end Go.Proofs.YtagciepnhjbopaaGreatDoor

namespace Go.Proofs.YtagciepnhjbopaaGreatDoor
open Go.Joins Go.ChangeShapes Go.WideShapes Go.ChangeAt Go.RowKit Go.Deep

theorem len_add (x y : Int) : (dg (x + y).natAbs).length ≤ (dg x.natAbs).length + (dg y.natAbs).length + 1 :=
  Nat.le_trans (dg_len_mono (Int.natAbs_add_le x y)) (dg_add_len _ _)

theorem len_mul (x y : Int) : (dg (x * y).natAbs).length ≤ (dg x.natAbs).length + (dg y.natAbs).length := by
  rw [Int.natAbs_mul]; exact dg_mul_len _ _

theorem len_neg (x : Int) : (dg (-x).natAbs).length = (dg x.natAbs).length := by rw [Int.natAbs_neg]

theorem calls_rj {P : Program} {f : FuncId} {vs : Array Value} {w : World} {z v : Int} {b : Bool} {m : Nat} (h : Calls P f vs w (RetI w z)) (e : z = v) (hb : decide (v < 0) = b) (hm : v.natAbs = m) :
    Calls P f vs w fun e w' => ∃ p c, e = .returned (iw b p (dg m).length c) ∧ Ow w' w.heap.size p (dg m).length c (dg m) ∧ Fr [] w w' := by
  subst e
  exact calls_ri h hb hm

end Go.Proofs.YtagciepnhjbopaaGreatDoor
