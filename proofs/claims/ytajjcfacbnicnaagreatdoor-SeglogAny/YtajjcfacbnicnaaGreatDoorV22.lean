/-
  YtajjcfacbnicnaaGreatDoor: the texts FZ, one behind the other.
-/
import Derived.Test.YtajjcfacbnicnaaGreatDoorV18
import Derived.ProofKit
import Derived.OpenShut
import Derived.Stop.Joined
import Derived.Lib.LaidTab
import Derived.Lib.LaidU8
import Derived.Lay
import Derived.MakeChecks
/-
  The listed variables: what the condition gives; the world that meets it.
-/
namespace Go.Proofs.YtajjcfacbnicnaaGreatDoor
open Go.ChangeShapes Go.WideShapes Go.ChangeAt Go.RowKit
set_option maxRecDepth 100000

theorem own : ownKnob Tryz.prog.godebug = none := by kernel_rfl
theorem gES : Tryz.prog.globalNamed "strconv.ErrSyntax" = some 2 := by kernel_rfl
theorem gER : Tryz.prog.globalNamed "strconv.ErrRange" = some 3 := by kernel_rfl
theorem tPow : (Tryz.prog.globals[1]?).map (·.type) = some 176 := by kernel_rfl
theorem tES : (Tryz.prog.globals[2]?).map (·.type) = some 135 := by kernel_rfl
theorem tER : (Tryz.prog.globals[3]?).map (·.type) = some 135 := by kernel_rfl
theorem cells88 : Tryz.prog.cellsOf 156 = 1 := by kernel_rfl
theorem cells132 : Tryz.prog.cellsOf 176 = 20 := by kernel_rfl

def laid5 : List (String × DataW Unit) := [("math/bits.deBruijn32tab", Rows.laid_math_bits_deBruijn32tab), ("math/bits.deBruijn64tab", Rows.laid_math_bits_deBruijn64tab), ("internal/strconv.uint64pow10", Rows.laid_internal_strconv_uint64pow10), ("strconv.ErrRange", Rows.laid_strconv_ErrRange), ("strconv.ErrSyntax", Rows.laid_strconv_ErrSyntax)]

theorem data_is : (Rows.laid_internal_strconv_uint64pow10 : DataW Unit) = Lib.tabData .u64 Lib.pow10Tab := by kernel_rfl

theorem plain5 : ∀ W, laidMetH Tryz.prog laid5 W ↔ laidMet Tryz.prog laid5 W := fun W => by
  rw [MakeChecks.laidMetH_plain _ _ _ (by kernel_rfl)]

set_option maxRecDepth 100000 in
theorem vars_of_laid {W : World} (h : laidMetH Tryz.prog laid5 W) : Vars W := by
  rw [plain5] at h
  refine ⟨?_, ?_, ?_⟩
  · obtain ⟨g, t, cs, fuel, p, hg, ht, hv, hd⟩ := Lib.laidMet.reads h (n := "internal/strconv.uint64pow10") (d := Rows.laid_internal_strconv_uint64pow10) (by simp [laid5])
    obtain rfl := Option.some.inj (gPow.symm.trans hg)
    obtain rfl := Option.some.inj (tPow.symm.trans ht)
    rw [data_is] at hd
    generalize Lib.pow10Tab = zs at *
    have e := Lib.cells_of_tab Tryz.underlying176 Tryz.underlying156 cells88 cells132 hd
    unfold Lib.TabIs
    rw [hv]
    exact congrArg some (Array.toList_inj.1 (by rw [e]))
  · obtain ⟨g, t, cs, fuel, p, hg, ht, hv, hd⟩ := Lib.laidMet.reads h (n := "strconv.ErrSyntax") (d := Rows.laid_strconv_ErrSyntax) (by simp [laid5])
    obtain rfl := Option.some.inj (gES.symm.trans hg)
    obtain rfl := Option.some.inj (tES.symm.trans ht)
    obtain ⟨f1, u, v, e, _, _⟩ := iface_of_trod Tryz.underlying135 hd
    refine ⟨u, v, ?_⟩
    have hc := World.var?_cell gES hv 0
    rw [hc]
    have : cs = #[.iface u v] := by cases cs; simp_all
    rw [this]
    rfl
  · obtain ⟨g, t, cs, fuel, p, hg, ht, hv, hd⟩ := Lib.laidMet.reads h (n := "strconv.ErrRange") (d := Rows.laid_strconv_ErrRange) (by simp [laid5])
    obtain rfl := Option.some.inj (gER.symm.trans hg)
    obtain rfl := Option.some.inj (tER.symm.trans ht)
    obtain ⟨f1, u, v, e, _, _⟩ := iface_of_trod Tryz.underlying135 hd
    refine ⟨u, v, ?_⟩
    have hc := World.var?_cell gER hv 0
    rw [hc]
    have : cs = #[.iface u v] := by cases cs; simp_all
    rw [this]
    rfl

/-- The world in which the listed variables are laid meets the condition. -/
theorem door_met (os : Os) (args : Array Value) : laidMetH Tryz.prog laid5 ((World.laidAll Tryz.prog os laid5).forCall (fun _ _ => 0) ⟨#[], args, []⟩).memory := by
  rw [plain5]
  exact laidMet_laidAll _ (by kernel_rfl) (by kernel_rfl)

theorem laidOut : laidOutB Tryz.prog = true := by kernel_rfl
end Go.Proofs.YtajjcfacbnicnaaGreatDoor
