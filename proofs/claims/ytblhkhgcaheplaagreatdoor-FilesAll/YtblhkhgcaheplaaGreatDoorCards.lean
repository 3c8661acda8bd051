/-
  DERIVED. GIVEN WITH THE SEED: THE CARDS: each row of YtblhkhgcaheplaaGreatDoorRows.lean that lists a variable, with what it lists TIED to the program's text (the seventh form; the later family's looks); each row that meets fmt, with fmt's text TOLD by the authors' own Lean function (tested against real Go, not proved from fmt's source: count such statements apart). THE CARD IS WHAT COUNTS. Prove the row's statement (the work); the ties are given (YtblhkhgcaheplaaGreatDoorTie.lean); close each card by the builder's one call (the guide's Derived/Test/ToyasCard.lean, 'card_holds'). Laid BY PROGRAM, IN A SANDBOX (cutbox-door.mjs). By AI agents, Wed Nov 11 2026. No macro, syntax, notation, axiom, sorry.
-/
import Derived.Test.YtblhkhgcaheplaaGreatDoorRows
import GoSem.ClaimSeven
namespace Go.Proofs.YtblhkhgcaheplaaGreatDoor
namespace Rows

/-- THE TIED CARD OF 'conciergelaw08.FilesAll'. -/
def filesAllCard : Claim7 := { stood := { row := filesAllRow, standIns := [], harness := (true, "f325fb15039ef091ba6637dbd0ac84463a9f5d30f7f982b7ce2fbf4237890ca6"), looks := true }, kinds := [], alts := [], laidByText := true, laidKinds := [.data, .data, .data, .sentinel, .sentinel], laidTests := true, laidLooks := .later }
def FilesAllCardSaid : Prop := Claim7.holds Tryz.pinned (.plain (OpenSpec.ofChange filesAllSpec)) filesAllCard

/-- THE SECOND FORM's CARD OF 'conciergelaw08.FilesAll'. -/
def filesAllUptoCard : Claim7 := { stood := { row := filesAllUptoRow, standIns := [], harness := (true, "f325fb15039ef091ba6637dbd0ac84463a9f5d30f7f982b7ce2fbf4237890ca6"), looks := true }, kinds := [], alts := [], laidByText := true, laidKinds := [.data, .data, .data, .sentinel, .sentinel], laidTests := true, laidLooks := .later }
def FilesAllUptoCardSaid : Prop := Claim7.holds Tryz.pinned (.plain (OpenSpec.upto filesAllSpec)) filesAllUptoCard
end Rows
end Go.Proofs.YtblhkhgcaheplaaGreatDoor
