/-
  What a slice of numbers holds.
-/
import Derived.Test.YtpeioecpilmpiaaGreatDoorSM
import Derived.Laws.RangeAny
import Derived.WalkSmall
namespace Go.Proofs.YtpeioecpilmpiaaGreatDoor.Si
open Go.RowKit
theorem below_iter (w : World) (s : ByteArray) (p : Nat) : Below w.heap.size w (w.iter s p) := (Below.refl _ _).alloc (Nat.le_refl _) _

/-- What a slice of numbers that came in holds. -/
structure Nums (B : Nat) (v : Value) (z : List Int) (w : World) : Prop where
  is : (z = [] ∧ ∃ a c, v = .slice a 0 c) ∨ ∃ g o c, v = .slice (some ⟨g, o, none⟩) z.length c ∧ g < B ∧ ∀ j, j < z.length → w.cell? ⟨g, o + j, none⟩ = some (.int .i64 (z.getD j 0))

theorem Nums.later {B : Nat} {v : Value} {z : List Int} {w u : World} (h : Nums B v z w) (hb : Below B w u) : Nums B v z u := by
  rcases h.is with h | ⟨g, o, c, h1, h2, h3⟩
  · exact ⟨.inl h⟩
  · exact ⟨.inr ⟨g, o, c, h1, h2, fun j hj => by rw [hb.cell (by exact h2)]; exact h3 j hj⟩⟩

end Go.Proofs.YtpeioecpilmpiaaGreatDoor.Si
