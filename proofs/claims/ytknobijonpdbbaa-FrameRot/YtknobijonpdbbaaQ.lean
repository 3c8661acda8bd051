/-
  A region whose order is left open, whose operations only read and whose callees may make memory of their own: one walk, in the order of the text, serves every order.
-/
import Derived.WalkKit
import Derived.BigQuiet
namespace Go.Proofs.Ytknobijonpdbbaa
open Go.RowKit

/-- A world that has come of w: what lay in w is as it was. -/
structure Later (w : World) where
  u : World
  bel : Below w.heap.size w u

theorem later_some (w : World) : Nonempty (Later w) := ⟨⟨w, Below.refl _ _⟩⟩

theorem wp_region_later {P : Program} {id : Nat} {Q : Exit → Act → World → Prop} {a : Act} {w : World} {l : List Oper} (hm : P.follows .mixedOrders = true) (hB : Region.lexB .any l.toArray = true)
    (h : wpQuiet P l.toArray (fun w' => ∃ q : Later w, w' = q.u) (fun a' => ∀ w', (∃ q : Later w, w' = q.u) → Q .normal a' w') l a) : (Code.region id l.toArray true).wp P Q a w :=
  wp_region_quiet (C := fun w' => ∃ q : Later w, w' = q.u) hm hB ⟨⟨_, (Below.refl _ _).drew⟩, rfl⟩ (by simpa using h)

theorem calls_later {P : Program} {f : FuncId} {args : Array Value} {w : World} {q : Later w} {v : Value} (h : Calls P f args q.u fun e w' => e = .returned v ∧ Below q.u.heap.size q.u w') :
    Calls P f args q.u fun e w' => e = .returned v ∧ ∃ p : Later w, w' = p.u :=
  h.mono fun _ w' ⟨he, hb⟩ => ⟨he, ⟨w', q.bel.trans (hb.mono q.bel.size)⟩, rfl⟩
end Go.Proofs.Ytknobijonpdbbaa
