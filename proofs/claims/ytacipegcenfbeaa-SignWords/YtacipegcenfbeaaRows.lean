/-
  No cell of these rows narrows 'for every input' (looked for: loops, veiled, ifaces, maps, wideKeys, modest, calm, conditions, laid).
  DERIVED. THE GIVEN ROWS OF THIS SEAT. 3 by the template 'for every input the law returns true; each argument reads behind the call as it read before'; 0 by the template 'total and deterministic' (their statements: YtacipegcenfbeaaTotals.lean).
  GIVEN WITH THE SEED: the statements are not yours to turn. If you find one false, say at which input.
  Laid BY PROGRAM, IN A SANDBOX (cutbox-rows.mjs): the forced cells as the released guide's own fill.sh prints them over the translation 72441c3dd308a398… (all of the seat's roots in one cut). By AI agents, Wed Nov 11 2026. No macro, syntax, notation, axiom, sorry.
-/
import Derived.Test.YtacipegcenfbeaaChecked
import GoSem.Claim
import GoSem.ClaimJoined
import GoSem.ClaimMapViews
import Derived.JoinedTies
import Derived.KernelRfl
namespace Go.Proofs.Ytacipegcenfbeaa
/- THE CELL 'sum', in the pinned program and in every row, IS THE sha256 OF THE DUMP (.gsa) THAT YtacipegcenfbeaaProg.lean LOADS. Nothing in Lean hashes anything: it is a label: what it is worth is what the hold of that sum in a sandbox is worth. -/
noncomputable def Try.pinned : Pinned := { name := "ytacipegcenfbeaa", sum := "72441c3dd308a39887fcf12306d1c3f4b4fd8bb61e67a546616b6a80ca0b6be9", checked := Try.checked }
namespace Rows
def none {H : Type} : Left H := { results := [], args := [] }

/-- 'conciergelaw04.SignSorts': WHATEVER THE INPUT: true; the input reads as it did. -/
def signSortsSpec : ChangeSpec := { name := "signSorts", fn := fun _ => fun
  | [d] => { results := [.lit (.bool true)], args := [d] }
  | _ => none }
def signSortsRow : OpenClaim := { program := "ytacipegcenfbeaa", sum := "72441c3dd308a39887fcf12306d1c3f4b4fd8bb61e67a546616b6a80ca0b6be9", func := "concierge/conciergelaw04.SignSorts", spec := "signSorts", inPlace := ["internal/abi.NoEscape"], apart := false }
def SignSortsSaid : Prop := signSortsRow.holds Try.pinned (OpenSpec.ofChange signSortsSpec)

/-- ITS FALSE NEIGHBOUR: 'it returns false'. Refute it at one input. -/
def signSortsWrong : ChangeSpec := { name := "signSorts", fn := fun _ => fun
  | [d] => { results := [.lit (.bool false)], args := [d] }
  | _ => none }
def SignSortsWrongFalsely : Prop := signSortsRow.holds Try.pinned (OpenSpec.ofChange signSortsWrong)

/-- 'conciergelaw04.SignTexts': WHATEVER THE INPUT: true; the input reads as it did. -/
def signTextsSpec : ChangeSpec := { name := "signTexts", fn := fun _ => fun
  | [d1, d2] => { results := [.lit (.bool true)], args := [d1, d2] }
  | _ => none }
def signTextsRow : OpenClaim := { program := "ytacipegcenfbeaa", sum := "72441c3dd308a39887fcf12306d1c3f4b4fd8bb61e67a546616b6a80ca0b6be9", func := "concierge/conciergelaw04.SignTexts", spec := "signTexts", inPlace := ["internal/abi.NoEscape"], apart := false }
def SignTextsSaid : Prop := signTextsRow.holds Try.pinned (OpenSpec.ofChange signTextsSpec)

/-- ITS FALSE NEIGHBOUR: 'it returns false'. Refute it at one input. -/
def signTextsWrong : ChangeSpec := { name := "signTexts", fn := fun _ => fun
  | [d1, d2] => { results := [.lit (.bool false)], args := [d1, d2] }
  | _ => none }
def SignTextsWrongFalsely : Prop := signTextsRow.holds Try.pinned (OpenSpec.ofChange signTextsWrong)

/-- 'conciergelaw04.SignWords': WHATEVER THE INPUT: true; the input reads as it did. -/
def signWordsSpec : ChangeSpec := { name := "signWords", fn := fun _ => fun
  | [d1, d2, d3] => { results := [.lit (.bool true)], args := [d1, d2, d3] }
  | _ => none }
def signWordsRow : OpenClaim := { program := "ytacipegcenfbeaa", sum := "72441c3dd308a39887fcf12306d1c3f4b4fd8bb61e67a546616b6a80ca0b6be9", func := "concierge/conciergelaw04.SignWords", spec := "signWords", inPlace := ["internal/abi.NoEscape"], apart := false }
def SignWordsSaid : Prop := signWordsRow.holds Try.pinned (OpenSpec.ofChange signWordsSpec)

/-- ITS FALSE NEIGHBOUR: 'it returns false'. Refute it at one input. -/
def signWordsWrong : ChangeSpec := { name := "signWords", fn := fun _ => fun
  | [d1, d2, d3] => { results := [.lit (.bool false)], args := [d1, d2, d3] }
  | _ => none }
def SignWordsWrongFalsely : Prop := signWordsRow.holds Try.pinned (OpenSpec.ofChange signWordsWrong)

/- THE SECOND FORM. 'bulk': how many values and letters a reading holds, each counted each time it is reached (what is shared counts as often as it is met; a slice's spare places count too). A statement '..UptoSaid' is the law's where the arguments, and the package variables that the reading takes, are together of bulk at most 1048576: NARROWER than '..Said'. Prove '..Said' where nothing that the law and all that it calls make is longer than what came in: it says more and counts as full. Else prove '..UptoSaid'. A law counts once. -/
mutual
def uptoBulk {H : Type} : DataW H → Nat
  | .lit (.string bytes) => bytes.length + 1
  | .lit _ => 1
  | .nil => 1
  | .ptr d => uptoBulk d + 1
  | .slice elems spare => uptoBulkAll elems + uptoBulkAll spare + 1
  | .agg parts => uptoBulkAll parts + 1
  | .iface _ d => uptoBulk d + 1
  | .map entries => uptoBulkEntries entries + 1
  | .held _ => 1
def uptoBulkAll {H : Type} : List (DataW H) → Nat
  | [] => 0
  | d :: r => uptoBulk d + uptoBulkAll r
def uptoBulkEntries {H : Type} : List (Lit × DataW H) → Nat
  | [] => 0
  | x :: r => uptoBulkEntry x + uptoBulkEntries r
def uptoBulkEntry {H : Type} : Lit × DataW H → Nat
  | (.string bytes, d) => bytes.length + uptoBulk d + 1
  | (_, d) => uptoBulk d + 1
 end
def uptoSmall : (H : Type) → List (DataW H) → Bool := fun _ ds => decide (uptoBulkAll ds ≤ 1048576)
def OpenSpec.upto (s : _root_.Go.ChangeSpec) : _root_.Go.OpenSpec := { _root_.Go.OpenSpec.ofChange s with cond := some uptoSmall }

/-- 'conciergelaw04.SignSorts', WHERE WHAT IT READS IS OF BULK AT MOST 1048576: true; the input reads as it did. -/
def signSortsUptoRow : OpenClaim := { program := "ytacipegcenfbeaa", sum := "72441c3dd308a39887fcf12306d1c3f4b4fd8bb61e67a546616b6a80ca0b6be9", func := "concierge/conciergelaw04.SignSorts", spec := "signSorts", inPlace := ["internal/abi.NoEscape"], apart := false, narrowed := true }
def SignSortsUptoSaid : Prop := signSortsUptoRow.holds Try.pinned (OpenSpec.upto signSortsSpec)

/-- 'conciergelaw04.SignTexts', WHERE WHAT IT READS IS OF BULK AT MOST 1048576: true; the input reads as it did. -/
def signTextsUptoRow : OpenClaim := { program := "ytacipegcenfbeaa", sum := "72441c3dd308a39887fcf12306d1c3f4b4fd8bb61e67a546616b6a80ca0b6be9", func := "concierge/conciergelaw04.SignTexts", spec := "signTexts", inPlace := ["internal/abi.NoEscape"], apart := false, narrowed := true }
def SignTextsUptoSaid : Prop := signTextsUptoRow.holds Try.pinned (OpenSpec.upto signTextsSpec)

/-- 'conciergelaw04.SignWords', WHERE WHAT IT READS IS OF BULK AT MOST 1048576: true; the input reads as it did. -/
def signWordsUptoRow : OpenClaim := { program := "ytacipegcenfbeaa", sum := "72441c3dd308a39887fcf12306d1c3f4b4fd8bb61e67a546616b6a80ca0b6be9", func := "concierge/conciergelaw04.SignWords", spec := "signWords", inPlace := ["internal/abi.NoEscape"], apart := false, narrowed := true }
def SignWordsUptoSaid : Prop := signWordsUptoRow.holds Try.pinned (OpenSpec.upto signWordsSpec)

end Rows
end Go.Proofs.Ytacipegcenfbeaa
