/-
  No cell of these rows narrows 'for every input' (looked for: loops, veiled, ifaces, maps, wideKeys, modest, calm, conditions, laid).
  DERIVED. THE GIVEN ROWS OF THIS SEAT. 3 by the template 'for every input the law returns true; each argument reads behind the call as it read before'; 0 by the template 'total and deterministic' (their statements: YtnmamaeoghgegaaTotals.lean).
  GIVEN WITH THE SEED: the statements are not yours to turn. If you find one false, say at which input.
  Laid BY PROGRAM, IN A SANDBOX (cutbox-rows.mjs): the forced cells as the released guide's own fill.sh prints them over the translation 7ddd8174e08ef402… (all of the seat's roots in one cut). By AI agents, Wed Nov 11 2026. No macro, syntax, notation, axiom, sorry.
-/
import Derived.Test.YtnmamaeoghgegaaChecked
import GoSem.Claim
import GoSem.ClaimJoined
import GoSem.ClaimMapViews
import Derived.JoinedTies
import Derived.KernelRfl
namespace Go.Proofs.Ytnmamaeoghgegaa
/- THE CELL 'sum', in the pinned program and in every row, IS THE sha256 OF THE DUMP (.gsa) THAT YtnmamaeoghgegaaProg.lean LOADS. Nothing in Lean hashes anything: it is a label: what it is worth is what the hold of that sum in a sandbox is worth. -/
noncomputable def Try.pinned : Pinned := { name := "ytnmamaeoghgegaa", sum := "7ddd8174e08ef40238e5cb48c133804d19a755b18e8a7d9c3e613d9c21ceba4c", checked := Try.checked }
namespace Rows
def none {H : Type} : Left H := { results := [], args := [] }

/-- 'conciergelaw12.ManifestForms': WHATEVER THE INPUT: true; the input reads as it did. -/
def manifestFormsSpec : ChangeSpec := { name := "manifestForms", fn := fun _ => fun
  | [d] => { results := [.lit (.bool true)], args := [d] }
  | _ => none }
def manifestFormsRow : OpenClaim := { program := "ytnmamaeoghgegaa", sum := "7ddd8174e08ef40238e5cb48c133804d19a755b18e8a7d9c3e613d9c21ceba4c", func := "concierge/conciergelaw12.ManifestForms", spec := "manifestForms", inPlace := ["internal/bytealg.abigen_runtime_cmpstring", "slices.overlaps[concierge/disk.file]"], unfollowed := true, recurses := true, apart := false }
def ManifestFormsSaid : Prop := manifestFormsRow.holds Try.pinned (OpenSpec.ofChange manifestFormsSpec)

/-- ITS FALSE NEIGHBOUR: 'it returns false'. Refute it at one input. -/
def manifestFormsWrong : ChangeSpec := { name := "manifestForms", fn := fun _ => fun
  | [d] => { results := [.lit (.bool false)], args := [d] }
  | _ => none }
def ManifestFormsWrongFalsely : Prop := manifestFormsRow.holds Try.pinned (OpenSpec.ofChange manifestFormsWrong)

/-- 'conciergelaw12.ManifestReads': WHATEVER THE INPUT: true; the input reads as it did. -/
def manifestReadsSpec : ChangeSpec := { name := "manifestReads", fn := fun _ => fun
  | [d] => { results := [.lit (.bool true)], args := [d] }
  | _ => none }
def manifestReadsRow : OpenClaim := { program := "ytnmamaeoghgegaa", sum := "7ddd8174e08ef40238e5cb48c133804d19a755b18e8a7d9c3e613d9c21ceba4c", func := "concierge/conciergelaw12.ManifestReads", spec := "manifestReads", inPlace := ["internal/bytealg.abigen_runtime_cmpstring", "slices.overlaps[concierge/disk.file]"], unfollowed := true, recurses := true, apart := false }
def ManifestReadsSaid : Prop := manifestReadsRow.holds Try.pinned (OpenSpec.ofChange manifestReadsSpec)

/-- ITS FALSE NEIGHBOUR: 'it returns false'. Refute it at one input. -/
def manifestReadsWrong : ChangeSpec := { name := "manifestReads", fn := fun _ => fun
  | [d] => { results := [.lit (.bool false)], args := [d] }
  | _ => none }
def ManifestReadsWrongFalsely : Prop := manifestReadsRow.holds Try.pinned (OpenSpec.ofChange manifestReadsWrong)

/-- 'conciergelaw12.ManifestRuns': WHATEVER THE INPUT: true; the input reads as it did. -/
def manifestRunsSpec : ChangeSpec := { name := "manifestRuns", fn := fun _ => fun
  | [d] => { results := [.lit (.bool true)], args := [d] }
  | _ => none }
def manifestRunsRow : OpenClaim := { program := "ytnmamaeoghgegaa", sum := "7ddd8174e08ef40238e5cb48c133804d19a755b18e8a7d9c3e613d9c21ceba4c", func := "concierge/conciergelaw12.ManifestRuns", spec := "manifestRuns", inPlace := ["internal/bytealg.abigen_runtime_cmpstring", "slices.overlaps[concierge/disk.file]"], unfollowed := true, recurses := true, apart := false }
def ManifestRunsSaid : Prop := manifestRunsRow.holds Try.pinned (OpenSpec.ofChange manifestRunsSpec)

/-- ITS FALSE NEIGHBOUR: 'it returns false'. Refute it at one input. -/
def manifestRunsWrong : ChangeSpec := { name := "manifestRuns", fn := fun _ => fun
  | [d] => { results := [.lit (.bool false)], args := [d] }
  | _ => none }
def ManifestRunsWrongFalsely : Prop := manifestRunsRow.holds Try.pinned (OpenSpec.ofChange manifestRunsWrong)

/- THE SECOND FORM. 'bulk': how many values and letters a reading holds, each counted each time it is reached (what is shared counts as often as it is met; a slice's spare places count too). A statement '..UptoSaid' is the law's where the arguments, and the package variables that the reading takes, are together of bulk at most 1048576: NARROWER than '..Said'. Prove '..Said' where nothing that the law and all that it calls make is longer than what came in: it says more and counts as full. Else prove '..UptoSaid'. A law counts once. -/
mutual
def uptoBulk {H : Type} : DataW H → Nat
  | .lit (.string bytes) => bytes.length + 1
  | .lit _ => 1
  | .nil => 1
  | .ptr d => uptoBulk d + 1
  | .slice elems spare => uptoBulkAll elems + uptoBulkAll spare + 1
  | .agg parts => uptoBulkAll parts + 1
  | .iface _ d => uptoBulk d + 1
  | .map entries => uptoBulkEntries entries + 1
  | .held _ => 1
def uptoBulkAll {H : Type} : List (DataW H) → Nat
  | [] => 0
  | d :: r => uptoBulk d + uptoBulkAll r
def uptoBulkEntries {H : Type} : List (Lit × DataW H) → Nat
  | [] => 0
  | x :: r => uptoBulkEntry x + uptoBulkEntries r
def uptoBulkEntry {H : Type} : Lit × DataW H → Nat
  | (.string bytes, d) => bytes.length + uptoBulk d + 1
  | (_, d) => uptoBulk d + 1
 end
def uptoSmall : (H : Type) → List (DataW H) → Bool := fun _ ds => decide (uptoBulkAll ds ≤ 1048576)
def OpenSpec.upto (s : _root_.Go.ChangeSpec) : _root_.Go.OpenSpec := { _root_.Go.OpenSpec.ofChange s with cond := some uptoSmall }

/-- 'conciergelaw12.ManifestForms', WHERE WHAT IT READS IS OF BULK AT MOST 1048576: true; the input reads as it did. -/
def manifestFormsUptoRow : OpenClaim := { program := "ytnmamaeoghgegaa", sum := "7ddd8174e08ef40238e5cb48c133804d19a755b18e8a7d9c3e613d9c21ceba4c", func := "concierge/conciergelaw12.ManifestForms", spec := "manifestForms", inPlace := ["internal/bytealg.abigen_runtime_cmpstring", "slices.overlaps[concierge/disk.file]"], unfollowed := true, recurses := true, apart := false, narrowed := true }
def ManifestFormsUptoSaid : Prop := manifestFormsUptoRow.holds Try.pinned (OpenSpec.upto manifestFormsSpec)

/-- 'conciergelaw12.ManifestReads', WHERE WHAT IT READS IS OF BULK AT MOST 1048576: true; the input reads as it did. -/
def manifestReadsUptoRow : OpenClaim := { program := "ytnmamaeoghgegaa", sum := "7ddd8174e08ef40238e5cb48c133804d19a755b18e8a7d9c3e613d9c21ceba4c", func := "concierge/conciergelaw12.ManifestReads", spec := "manifestReads", inPlace := ["internal/bytealg.abigen_runtime_cmpstring", "slices.overlaps[concierge/disk.file]"], unfollowed := true, recurses := true, apart := false, narrowed := true }
def ManifestReadsUptoSaid : Prop := manifestReadsUptoRow.holds Try.pinned (OpenSpec.upto manifestReadsSpec)

/-- 'conciergelaw12.ManifestRuns', WHERE WHAT IT READS IS OF BULK AT MOST 1048576: true; the input reads as it did. -/
def manifestRunsUptoRow : OpenClaim := { program := "ytnmamaeoghgegaa", sum := "7ddd8174e08ef40238e5cb48c133804d19a755b18e8a7d9c3e613d9c21ceba4c", func := "concierge/conciergelaw12.ManifestRuns", spec := "manifestRuns", inPlace := ["internal/bytealg.abigen_runtime_cmpstring", "slices.overlaps[concierge/disk.file]"], unfollowed := true, recurses := true, apart := false, narrowed := true }
def ManifestRunsUptoSaid : Prop := manifestRunsUptoRow.holds Try.pinned (OpenSpec.upto manifestRunsSpec)

end Rows
end Go.Proofs.Ytnmamaeoghgegaa
