/-
  The listed table: what the condition gives; the world that meets it.
-/
import Derived.Test.YtkkacngildnlkaaDoorW5
import Derived.ProofKit
import Derived.LaidMore
import Derived.OpenShut
import Derived.Stop.Joined
import Derived.Lib.LaidTab
namespace Go.Proofs.YtkkacngildnlkaaDoor
open Go.ChangeShapes Go.WideShapes Go.ChangeAt Go.RowKit

theorem own : ownKnob Tryd.prog.godebug = none := by kernel_rfl
theorem gK : Tryd.prog.globalNamed "concierge/sha.constants" = some 0 := by kernel_rfl
theorem tK : (Tryd.prog.globals[0]?).map (·.type) = some 25 := by kernel_rfl
theorem cells23 : Tryd.prog.cellsOf 23 = 1 := by kernel_rfl
theorem cells25 : Tryd.prog.cellsOf 25 = 64 := by kernel_rfl

def laid1 : List (String × DataW Unit) := [("concierge/sha.constants", Rows.laid_concierge_sha_constants)]

def KI : List Int := Sh.K.map fun x : Nat => (x : Int)
theorem data_is : (Rows.laid_concierge_sha_constants : DataW Unit) = Lib.tabData .u32 KI := by kernel_rfl

theorem tab_of_laid {W : World} (h : laidMetH Tryd.prog laid1 W) : Tab W := by
  rw [MakeChecks.laidMetH_plain _ _ _ (by kernel_rfl)] at h
  unfold laid1 at h
  rw [data_is] at h
  have hT := Lib.tabIs_of_head gK tK Tryd.underlying25 Tryd.underlying23 cells23 cells25 h
  intro i hi
  have hl : i < KI.length := hi
  have := hT.cell gK i hl
  rw [this]
  have e : KI.getD i 0 = ((Sh.K.getD i 0 : Nat) : Int) := by
    have hk : i < Sh.K.length := hi
    simp [KI, List.getD, hk]
  rw [e]

/-- The heap that the variables' own initialisers leave meets the condition. -/
theorem door_met (os : Os) (args : Array Value) : laidMetH Tryd.prog laid1 ((World.doorLaid Tryd.prog 400 os).forCall (fun _ _ => 0) ⟨#[], args, []⟩).memory :=
  laidMetH_of_parts3 (fuel := 8) (laidMet_of_run' 8 (by kernel_rfl) (by kernel_rfl)) (by kernel_rfl) (by kernel_rfl)
end Go.Proofs.YtkkacngildnlkaaDoor
