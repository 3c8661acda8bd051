/-
  The listed tables: what the condition gives; the world that meets it.
-/
import Derived.Test.YtkijglkjpgjdaaaDoorC17
import Derived.ProofKit
import Derived.OpenShut
import Derived.Stop.Joined
import Derived.Lib.LaidTab
import Derived.Lay
import Derived.MakeChecks
namespace Go.Proofs.YtkijglkjpgjdaaaDoor
open Go.ChangeShapes Go.WideShapes Go.ChangeAt Go.RowKit

theorem own : ownKnob Tryd.prog.godebug = none := by kernel_rfl
theorem gK : Tryd.prog.globalNamed "concierge/sha.constants" = some 4 := by kernel_rfl
theorem tK : (Tryd.prog.globals[4]?).map (·.type) = some 76 := by kernel_rfl
theorem cells74 : Tryd.prog.cellsOf 74 = 1 := by kernel_rfl
theorem cells76 : Tryd.prog.cellsOf 76 = 64 := by kernel_rfl

def laid4 : List (String × DataW Unit) := [("concierge/sha.constants", Rows.laid_concierge_sha_constants), ("unicode/utf8.acceptRanges", Rows.laid_unicode_utf8_acceptRanges), ("unicode.CaseRanges", Rows.laid_unicode_CaseRanges), ("unicode/utf8.first", Rows.laid_unicode_utf8_first)]

def KI : List Int := Ha.Sh.K.map fun x : Nat => (x : Int)
theorem data_is : (Rows.laid_concierge_sha_constants : DataW Unit) = Lib.tabData .u32 KI := by kernel_rfl

theorem plain4 : ∀ W, laidMetH Tryd.prog laid4 W ↔ laidMet Tryd.prog laid4 W := fun W => by
  rw [MakeChecks.laidMetH_plain _ _ _ (by kernel_rfl)]

theorem tab_of_laid {W : World} (h : laidMetH Tryd.prog laid4 W) : Ha.Tab W := by
  rw [plain4] at h
  unfold laid4 at h
  rw [data_is] at h
  have hT := Lib.tabIs_of_head gK tK Tryd.underlying76 Tryd.underlying74 cells74 cells76 h
  intro i hi
  have hl : i < KI.length := hi
  have := hT.cell gK i hl
  rw [this]
  have e : KI.getD i 0 = ((Ha.Sh.K.getD i 0 : Nat) : Int) := by
    have hk : i < Ha.Sh.K.length := hi
    simp [KI, List.getD, hk]
  rw [e]

/-- The world in which the listed variables are laid meets the condition. -/
theorem door_met (os : Os) (args : Array Value) : laidMetH Tryd.prog laid4 ((World.laidAll Tryd.prog os laid4).forCall (fun _ _ => 0) ⟨#[], args, []⟩).memory := by
  rw [plain4]
  exact laidMet_laidAll _ (by kernel_rfl) (by kernel_rfl)

theorem cells9 : Tryd.prog.cellsOf 9 = 1 := by kernel_rfl
theorem laidOut : laidOutB Tryd.prog = true := by kernel_rfl
end Go.Proofs.YtkijglkjpgjdaaaDoor
