/-
  DERIVED. GIVEN WITH THE SEED: THE CARDS: each row of YtkkacngildnlkaaDoorRows.lean that lists a variable, with what it lists TIED to the program's text (the seventh form; the later family's looks); each row that meets fmt, with fmt's text TOLD by the authors' own Lean function (tested against real Go, not proved from fmt's source: count such statements apart). THE CARD IS WHAT COUNTS. Prove the row's statement (the work); the ties are given (YtkkacngildnlkaaDoorTie.lean); close each card by the builder's one call (the guide's Derived/Test/ToyasCard.lean, 'card_holds'). Laid BY PROGRAM, IN A SANDBOX (cutbox-door.mjs). By AI agents, Wed Nov 11 2026. No macro, syntax, notation, axiom, sorry.
-/
import Derived.Test.YtkkacngildnlkaaDoorRows
import GoSem.ClaimSeven
namespace Go.Proofs.YtkkacngildnlkaaDoor
namespace Rows

/-- THE TIED CARD OF 'conciergelaw03.ShaTexts'. -/
def shaTextsCard : Claim7 := { stood := { row := shaTextsRow, standIns := [], harness := (true, "006818d8534aa499fb2aeba6ec53f3e4ac15862d3f2079fa821f5042570c362f"), looks := false }, kinds := [], alts := [], laidByText := true, laidKinds := [.data], laidTests := true, laidLooks := .later }
def ShaTextsCardSaid : Prop := Claim7.holds Tryd.pinned (.plain (OpenSpec.ofChange shaTextsSpec)) shaTextsCard

/-- THE TIED CARD OF 'conciergelaw03.ShaParts'. -/
def shaPartsCard : Claim7 := { stood := { row := shaPartsRow, standIns := [], harness := (true, "006818d8534aa499fb2aeba6ec53f3e4ac15862d3f2079fa821f5042570c362f"), looks := false }, kinds := [], alts := [], laidByText := true, laidKinds := [.data], laidTests := true, laidLooks := .later }
def ShaPartsCardSaid : Prop := Claim7.holds Tryd.pinned (.plain (OpenSpec.ofChange shaPartsSpec)) shaPartsCard

/-- THE TIED CARD OF 'conciergelaw03.ShaUnlike'. -/
def shaUnlikeCard : Claim7 := { stood := { row := shaUnlikeRow, standIns := [], harness := (true, "006818d8534aa499fb2aeba6ec53f3e4ac15862d3f2079fa821f5042570c362f"), looks := false }, kinds := [], alts := [], laidByText := true, laidKinds := [.data], laidTests := true, laidLooks := .later }
def ShaUnlikeCardSaid : Prop := Claim7.holds Tryd.pinned (.plain (OpenSpec.ofChange shaUnlikeSpec)) shaUnlikeCard

/-- THE SECOND FORM's CARD OF 'conciergelaw03.ShaTexts'. -/
def shaTextsUptoCard : Claim7 := { stood := { row := shaTextsUptoRow, standIns := [], harness := (true, "006818d8534aa499fb2aeba6ec53f3e4ac15862d3f2079fa821f5042570c362f"), looks := false }, kinds := [], alts := [], laidByText := true, laidKinds := [.data], laidTests := true, laidLooks := .later }
def ShaTextsUptoCardSaid : Prop := Claim7.holds Tryd.pinned (.plain (OpenSpec.upto shaTextsSpec)) shaTextsUptoCard

/-- THE SECOND FORM's CARD OF 'conciergelaw03.ShaParts'. -/
def shaPartsUptoCard : Claim7 := { stood := { row := shaPartsUptoRow, standIns := [], harness := (true, "006818d8534aa499fb2aeba6ec53f3e4ac15862d3f2079fa821f5042570c362f"), looks := false }, kinds := [], alts := [], laidByText := true, laidKinds := [.data], laidTests := true, laidLooks := .later }
def ShaPartsUptoCardSaid : Prop := Claim7.holds Tryd.pinned (.plain (OpenSpec.upto shaPartsSpec)) shaPartsUptoCard

/-- THE SECOND FORM's CARD OF 'conciergelaw03.ShaUnlike'. -/
def shaUnlikeUptoCard : Claim7 := { stood := { row := shaUnlikeUptoRow, standIns := [], harness := (true, "006818d8534aa499fb2aeba6ec53f3e4ac15862d3f2079fa821f5042570c362f"), looks := false }, kinds := [], alts := [], laidByText := true, laidKinds := [.data], laidTests := true, laidLooks := .later }
def ShaUnlikeUptoCardSaid : Prop := Claim7.holds Tryd.pinned (.plain (OpenSpec.upto shaUnlikeSpec)) shaUnlikeUptoCard
end Rows
end Go.Proofs.YtkkacngildnlkaaDoor
