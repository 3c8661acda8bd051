/-
  DERIVED. GIVEN WITH THE SEED: THE CARDS: each row of YtajjcfacbnicnaaGreatDoorRows.lean that lists a variable, with what it lists TIED to the program's text (the seventh form; the later family's looks); each row that meets fmt, with fmt's text TOLD by the authors' own Lean function (tested against real Go, not proved from fmt's source: count such statements apart). THE CARD IS WHAT COUNTS. Prove the row's statement (the work); the ties are given (YtajjcfacbnicnaaGreatDoorTie.lean); close each card by the builder's one call (the guide's Derived/Test/ToyasCard.lean, 'card_holds'). Laid BY PROGRAM, IN A SANDBOX (cutbox-door.mjs). By AI agents, Wed Nov 11 2026. No macro, syntax, notation, axiom, sorry.
-/
import Derived.Test.YtajjcfacbnicnaaGreatDoorRows
import GoSem.ClaimSeven
namespace Go.Proofs.YtajjcfacbnicnaaGreatDoor
namespace Rows

/-- THE TIED CARD OF 'conciergelaw11.SeglogRuns'. -/
def seglogRunsCard : Claim7 := { stood := { row := seglogRunsRow, standIns := [], harness := (true, "09caeaa348e92a4c3eb7732b429f91c7013b9e2d4c23cbec9bc4ac7ce5c0a200"), looks := true }, kinds := [], alts := [], laidByText := true, laidKinds := [.data, .data, .data, .sentinel, .sentinel], laidTests := true, laidLooks := .later }
def SeglogRunsCardSaid : Prop := Claim7.holds Tryz.pinned (.plain (OpenSpec.ofChange seglogRunsSpec)) seglogRunsCard

/-- THE TIED CARD OF 'conciergelaw11.SeglogKeeps'. -/
def seglogKeepsCard : Claim7 := { stood := { row := seglogKeepsRow, standIns := [], harness := (true, "09caeaa348e92a4c3eb7732b429f91c7013b9e2d4c23cbec9bc4ac7ce5c0a200"), looks := true }, kinds := [], alts := [], laidByText := true, laidKinds := [.data, .data, .data, .sentinel, .sentinel], laidTests := true, laidLooks := .later }
def SeglogKeepsCardSaid : Prop := Claim7.holds Tryz.pinned (.plain (OpenSpec.ofChange seglogKeepsSpec)) seglogKeepsCard

/-- THE TIED CARD OF 'conciergelaw11.SeglogRot'. -/
def seglogRotCard : Claim7 := { stood := { row := seglogRotRow, standIns := [], harness := (true, "09caeaa348e92a4c3eb7732b429f91c7013b9e2d4c23cbec9bc4ac7ce5c0a200"), looks := true }, kinds := [], alts := [], laidByText := true, laidKinds := [.data, .data, .data, .sentinel, .sentinel], laidTests := true, laidLooks := .later }
def SeglogRotCardSaid : Prop := Claim7.holds Tryz.pinned (.plain (OpenSpec.ofChange seglogRotSpec)) seglogRotCard

/-- THE TIED CARD OF 'conciergelaw11.SeglogAny'. -/
def seglogAnyCard : Claim7 := { stood := { row := seglogAnyRow, standIns := [], harness := (true, "09caeaa348e92a4c3eb7732b429f91c7013b9e2d4c23cbec9bc4ac7ce5c0a200"), looks := true }, kinds := [], alts := [], laidByText := true, laidKinds := [.data, .data, .data, .sentinel, .sentinel], laidTests := true, laidLooks := .later }
def SeglogAnyCardSaid : Prop := Claim7.holds Tryz.pinned (.plain (OpenSpec.ofChange seglogAnySpec)) seglogAnyCard

/-- THE SECOND FORM's CARD OF 'conciergelaw11.SeglogRuns'. -/
def seglogRunsUptoCard : Claim7 := { stood := { row := seglogRunsUptoRow, standIns := [], harness := (true, "09caeaa348e92a4c3eb7732b429f91c7013b9e2d4c23cbec9bc4ac7ce5c0a200"), looks := true }, kinds := [], alts := [], laidByText := true, laidKinds := [.data, .data, .data, .sentinel, .sentinel], laidTests := true, laidLooks := .later }
def SeglogRunsUptoCardSaid : Prop := Claim7.holds Tryz.pinned (.plain (OpenSpec.upto seglogRunsSpec)) seglogRunsUptoCard

/-- THE SECOND FORM's CARD OF 'conciergelaw11.SeglogKeeps'. -/
def seglogKeepsUptoCard : Claim7 := { stood := { row := seglogKeepsUptoRow, standIns := [], harness := (true, "09caeaa348e92a4c3eb7732b429f91c7013b9e2d4c23cbec9bc4ac7ce5c0a200"), looks := true }, kinds := [], alts := [], laidByText := true, laidKinds := [.data, .data, .data, .sentinel, .sentinel], laidTests := true, laidLooks := .later }
def SeglogKeepsUptoCardSaid : Prop := Claim7.holds Tryz.pinned (.plain (OpenSpec.upto seglogKeepsSpec)) seglogKeepsUptoCard

/-- THE SECOND FORM's CARD OF 'conciergelaw11.SeglogRot'. -/
def seglogRotUptoCard : Claim7 := { stood := { row := seglogRotUptoRow, standIns := [], harness := (true, "09caeaa348e92a4c3eb7732b429f91c7013b9e2d4c23cbec9bc4ac7ce5c0a200"), looks := true }, kinds := [], alts := [], laidByText := true, laidKinds := [.data, .data, .data, .sentinel, .sentinel], laidTests := true, laidLooks := .later }
def SeglogRotUptoCardSaid : Prop := Claim7.holds Tryz.pinned (.plain (OpenSpec.upto seglogRotSpec)) seglogRotUptoCard

/-- THE SECOND FORM's CARD OF 'conciergelaw11.SeglogAny'. -/
def seglogAnyUptoCard : Claim7 := { stood := { row := seglogAnyUptoRow, standIns := [], harness := (true, "09caeaa348e92a4c3eb7732b429f91c7013b9e2d4c23cbec9bc4ac7ce5c0a200"), looks := true }, kinds := [], alts := [], laidByText := true, laidKinds := [.data, .data, .data, .sentinel, .sentinel], laidTests := true, laidLooks := .later }
def SeglogAnyUptoCardSaid : Prop := Claim7.holds Tryz.pinned (.plain (OpenSpec.upto seglogAnySpec)) seglogAnyUptoCard
end Rows
end Go.Proofs.YtajjcfacbnicnaaGreatDoor
