/- What the statements of this claim stand on: of RootNum, what they name -/
import Derived.Test.YtagciepnhjbopaaGreatDoorT04

namespace Go.Proofs.YtagciepnhjbopaaGreatDoor
theorem dg_add_len (a b : Nat) : (dg (a + b)).length ≤ (dg a).length + (dg b).length + 1 := by
  apply dg_len_le
  have h1 := dg_lt a
  have h2 := dg_lt b
  have h3 := pB_mono (show (dg a).length ≤ (dg a).length + (dg b).length by omega)
  have h4 := pB_mono (show (dg b).length ≤ (dg a).length + (dg b).length by omega)
  rw [pB_succ]
  omega

theorem dg_mul_len (a b : Nat) : (dg (a * b)).length ≤ (dg a).length + (dg b).length := by
  by_cases ha : a = 0
  · subst ha; rw [Nat.zero_mul, dg_zero]; simp
  · apply dg_len_le
    rw [pB_add]
    exact Nat.mul_lt_mul_of_lt_of_le (dg_lt a) (Nat.le_of_lt (dg_lt b)) (pB_pos _)

end Go.Proofs.YtagciepnhjbopaaGreatDoor
