/-
  Cut.
-/
import Derived.Test.YtblhkhgcaheplaaGreatDoorDW9
namespace Go.Proofs.YtblhkhgcaheplaaGreatDoor.Dk
open Go.RowKit
set_option maxRecDepth 100000

theorem min_max_cases (k : Int) (l : Nat) : ∃ m : Nat, (min (max k 0) (l : Int)).toNat = m ∧ m ≤ l ∧ (m : Int) = min (max k 0) (l : Int) := ⟨_, rfl, by omega, by omega⟩

end Go.Proofs.YtblhkhgcaheplaaGreatDoor.Dk
