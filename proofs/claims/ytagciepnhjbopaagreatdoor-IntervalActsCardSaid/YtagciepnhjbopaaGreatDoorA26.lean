/- What the statements of this claim stand on: of Int15, what they name -/
import Derived.Test.YtagciepnhjbopaaGreatDoorA17
import Derived.Test.YtagciepnhjbopaaGreatDoorA18

namespace Go.Proofs.YtagciepnhjbopaaGreatDoor
open Go.RowKit

def isM (s : ByteArray) : Prop := 1 ≤ s.size ∧ by' s 0 = 45

instance (s : ByteArray) : Decidable (isM s) := by unfold isM; infer_instance

end Go.Proofs.YtagciepnhjbopaaGreatDoor
