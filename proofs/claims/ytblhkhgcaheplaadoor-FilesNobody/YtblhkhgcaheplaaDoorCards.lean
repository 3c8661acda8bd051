/-
  DERIVED. GIVEN WITH THE SEED: THE CARDS: each row of YtblhkhgcaheplaaDoorRows.lean that lists a variable, with what it lists TIED to the program's text (the seventh form; the later family's looks); each row that meets fmt, with fmt's text TOLD by the authors' own Lean function (tested against real Go, not proved from fmt's source: count such statements apart). THE CARD IS WHAT COUNTS. Prove the row's statement (the work); the ties are given (YtblhkhgcaheplaaDoorTie.lean); close each card by the builder's one call (the guide's Derived/Test/ToyasCard.lean, 'card_holds'). Laid BY PROGRAM, IN A SANDBOX (cutbox-door.mjs). By AI agents, Wed Nov 11 2026. No macro, syntax, notation, axiom, sorry.
-/
import Derived.Test.YtblhkhgcaheplaaDoorRows
import GoSem.ClaimSeven
namespace Go.Proofs.YtblhkhgcaheplaaDoor
namespace Rows

/-- THE TIED CARD OF 'conciergelaw08.FilesNames'. -/
def filesNamesCard : Claim7 := { stood := { row := filesNamesRow, standIns := [], harness := (true, "163b2aa49faeff518a390d9774b489d14a758cfe76fe145c6894006df27dc68d"), looks := true }, kinds := [], alts := [], laidByText := true, laidKinds := [.data, .data, .data, .sentinel, .sentinel], laidTests := true, laidLooks := .later }
def FilesNamesCardSaid : Prop := Claim7.holds Tryd.pinned (.plain (OpenSpec.ofChange filesNamesSpec)) filesNamesCard

/-- THE TIED CARD OF 'conciergelaw08.FilesNobody'. -/
def filesNobodyCard : Claim7 := { stood := { row := filesNobodyRow, standIns := [], harness := (true, "163b2aa49faeff518a390d9774b489d14a758cfe76fe145c6894006df27dc68d"), looks := true }, kinds := [], alts := [], laidByText := true, laidKinds := [.data, .data, .data, .sentinel, .sentinel], laidTests := true, laidLooks := .later }
def FilesNobodyCardSaid : Prop := Claim7.holds Tryd.pinned (.plain (OpenSpec.ofChange filesNobodySpec)) filesNobodyCard

/-- THE SECOND FORM's CARD OF 'conciergelaw08.FilesNames'. -/
def filesNamesUptoCard : Claim7 := { stood := { row := filesNamesUptoRow, standIns := [], harness := (true, "163b2aa49faeff518a390d9774b489d14a758cfe76fe145c6894006df27dc68d"), looks := true }, kinds := [], alts := [], laidByText := true, laidKinds := [.data, .data, .data, .sentinel, .sentinel], laidTests := true, laidLooks := .later }
def FilesNamesUptoCardSaid : Prop := Claim7.holds Tryd.pinned (.plain (OpenSpec.upto filesNamesSpec)) filesNamesUptoCard

/-- THE SECOND FORM's CARD OF 'conciergelaw08.FilesNobody'. -/
def filesNobodyUptoCard : Claim7 := { stood := { row := filesNobodyUptoRow, standIns := [], harness := (true, "163b2aa49faeff518a390d9774b489d14a758cfe76fe145c6894006df27dc68d"), looks := true }, kinds := [], alts := [], laidByText := true, laidKinds := [.data, .data, .data, .sentinel, .sentinel], laidTests := true, laidLooks := .later }
def FilesNobodyUptoCardSaid : Prop := Claim7.holds Tryd.pinned (.plain (OpenSpec.upto filesNobodySpec)) filesNobodyUptoCard
end Rows
end Go.Proofs.YtblhkhgcaheplaaDoor
