/-
  The listed variables: what the condition gives; the world that meets it.
-/
import Derived.Test.YtpeioecpilmpiaaGreatDoorQ2
import Derived.ProofKit
import Derived.OpenShut
import Derived.Stop.Joined
import Derived.Lib.LaidTab
import Derived.Lib.LaidU8
import Derived.Lay
import Derived.MakeChecks
import Derived.WalkKit
import Derived.WalkSpells
import Derived.WalkLawsBesides
import Derived.Deep.LoopGhost
import Derived.Laws.Externs
import Derived.Below
import Derived.BigQuiet
import Derived.Deep.RegionWith
import Derived.OwnWalk
import Derived.Maps.AppendAt
import Derived.WalkSmall
namespace Go.Proofs.YtpeioecpilmpiaaGreatDoor
open Go.ChangeShapes Go.WideShapes Go.ChangeAt Go.RowKit
theorem own : ownKnob Tryz.prog.godebug = none := by kernel_rfl
theorem gTZ : Tryz.prog.globalNamed "math/bits.deBruijn64tab" = some 7 := by kernel_rfl
theorem tPow : (Tryz.prog.globals[3]?).map (·.type) = some 137 := by kernel_rfl
theorem tTZ : (Tryz.prog.globals[7]?).map (·.type) = some 157 := by kernel_rfl
theorem cells104 : Tryz.prog.cellsOf 104 = 1 := by kernel_rfl
theorem cells137 : Tryz.prog.cellsOf 137 = 20 := by kernel_rfl
theorem cells5 : Tryz.prog.cellsOf 5 = 1 := by kernel_rfl
theorem cells157 : Tryz.prog.cellsOf 157 = 64 := by kernel_rfl

def laid7 : List (String × DataW Unit) := [("math/bits.deBruijn32tab", Rows.laid_math_bits_deBruijn32tab), ("math/bits.deBruijn64tab", Rows.laid_math_bits_deBruijn64tab), ("internal/strconv.uint64pow10", Rows.laid_internal_strconv_uint64pow10), ("unicode/utf8.acceptRanges", Rows.laid_unicode_utf8_acceptRanges), ("strconv.ErrRange", Rows.laid_strconv_ErrRange), ("strconv.ErrSyntax", Rows.laid_strconv_ErrSyntax), ("unicode/utf8.first", Rows.laid_unicode_utf8_first)]

theorem pow_data : (Rows.laid_internal_strconv_uint64pow10 : DataW Unit) = Lib.tabData .u64 Lib.pow10Tab := by kernel_rfl
def tzTab : List Int := [0, 1, 56, 2, 57, 49, 28, 3, 61, 58, 42, 50, 38, 29, 17, 4, 62, 47, 59, 36, 45, 43, 51, 22, 53, 39, 33, 30, 24, 18, 12, 5, 63, 55, 48, 27, 60, 41, 37, 16, 46, 35, 44, 21, 52, 32, 23, 11, 54, 26, 40, 15, 34, 20, 31, 10, 25, 14, 19, 9, 13, 8, 7, 6]
theorem tz_data : (Rows.laid_math_bits_deBruijn64tab : DataW Unit) = Lib.tabData .u8 tzTab := by kernel_rfl
theorem acc_data : (Rows.laid_unicode_utf8_acceptRanges : DataW Unit) = Lib.acceptData := by kernel_rfl
theorem first_data : Rows.laid_unicode_utf8_first = Lib.firstData := by kernel_rfl

theorem plain7 : ∀ W, laidMetH Tryz.prog laid7 W ↔ laidMet Tryz.prog laid7 W := fun W => by
  rw [MakeChecks.laidMetH_plain _ _ _ (by kernel_rfl)]

theorem pow_of {W : World} {l : List (String × DataW Unit)} (h : laidMet Tryz.prog l W) (hm : ("internal/strconv.uint64pow10", (Rows.laid_internal_strconv_uint64pow10 : DataW Unit)) ∈ l) : Pow W := by
  obtain ⟨g, t, cs, fuel, p, hg, ht, hv, hd⟩ := Lib.laidMet.reads h (n := "internal/strconv.uint64pow10") (d := Rows.laid_internal_strconv_uint64pow10) hm
  obtain rfl := Option.some.inj (gPow.symm.trans hg)
  obtain rfl := Option.some.inj (tPow.symm.trans ht)
  rw [pow_data] at hd
  unfold Pow
  generalize Lib.pow10Tab = zs at *
  have e := Lib.cells_of_tab Tryz.underlying137 Tryz.underlying104 cells104 cells137 hd
  unfold Lib.TabIs
  rw [hv]
  exact congrArg some (Array.toList_inj.1 (by rw [e]))

theorem tz_of {W : World} {l : List (String × DataW Unit)} (h : laidMet Tryz.prog l W) (hm : ("math/bits.deBruijn64tab", (Rows.laid_math_bits_deBruijn64tab : DataW Unit)) ∈ l) : TZ W := by
  obtain ⟨g, t, cs, fuel, p, hg, ht, hv, hd⟩ := Lib.laidMet.reads h (n := "math/bits.deBruijn64tab") (d := Rows.laid_math_bits_deBruijn64tab) hm
  obtain rfl := Option.some.inj (gTZ.symm.trans hg)
  obtain rfl := Option.some.inj (tTZ.symm.trans ht)
  rw [tz_data] at hd
  have e := Lib.cells_of_tab Tryz.underlying157 Tryz.underlying5 cells5 cells157 hd
  unfold TZ
  rw [World.var?_cell gTZ hv, ← Array.getElem?_toList, e]
  rfl

theorem gF : Tryz.prog.globalNamed "unicode/utf8.first" = some 0 := by kernel_rfl
theorem gA : Tryz.prog.globalNamed "unicode/utf8.acceptRanges" = some 1 := by kernel_rfl
theorem tF : (Tryz.prog.globals[0]?).map (·.type) = some 86 := by kernel_rfl
theorem tA : (Tryz.prog.globals[1]?).map (·.type) = some 89 := by kernel_rfl
theorem cells86 : Tryz.prog.cellsOf 86 = 256 := by kernel_rfl
theorem cells88 : Tryz.prog.cellsOf 88 = 2 := by kernel_rfl

theorem first_of {W : World} (h : Lib.VarReads Tryz.prog W "unicode/utf8.first" Lib.firstData) : ∀ c, c < 256 → W.cell? ⟨0, c, none⟩ = some (.int .u8 (Lib.firstT c)) := fun c hc => by
  obtain ⟨g, t, cs, fuel, p, hg, ht, hv, hd⟩ := h
  obtain rfl := Option.some.inj (gF.symm.trans hg)
  obtain rfl := Option.some.inj (tF.symm.trans ht)
  have e := Lib.cells_of_tab Tryz.underlying86 Tryz.underlying5 cells5 cells86 hd
  rw [World.var?_cell gF hv c, ← Array.getElem?_toList, e]
  simp [Lib.firstTab, hc]
theorem acc_of {W : World} (h : Lib.VarReads Tryz.prog W "unicode/utf8.acceptRanges" Lib.acceptData) : ∀ i, i < 16 → W.cell? ⟨1, 2 * i, none⟩ = some (.int .u8 (Lib.accLo i)) ∧ W.cell? ⟨1, 2 * i + 1, none⟩ = some (.int .u8 (Lib.accHi i)) := fun i hi => by
  obtain ⟨g, t, cs, fuel, p, hg, ht, hv, hd⟩ := h
  obtain rfl := Option.some.inj (gA.symm.trans hg)
  obtain rfl := Option.some.inj (tA.symm.trans ht)
  obtain ⟨f1, d, q, h1, h2⟩ := Lib.array_elem Tryz.underlying89 hd i hi
  simp only [List.getElem?_map, List.getElem?_range hi, Option.map_some, Option.some.injEq] at h1
  subst h1
  rw [cells88] at h2
  have e := Lib.ints_of_struct Tryz.underlying88 (fun j f hj => by
    match j, hj with
    | 0, hj => simp at hj; subst hj; exact ⟨Tryz.underlying5, rfl, cells5⟩
    | 1, hj => simp at hj; subst hj; exact ⟨Tryz.underlying5, rfl, cells5⟩
    | j + 2, hj => simp at hj) (by rw [cells88]; rfl) h2
  have e0 := congrArg (fun l => l[0]?) e
  have e1 := congrArg (fun l => l[1]?) e
  simp only [List.getElem?_take, List.getElem?_drop] at e0 e1
  refine ⟨?_, ?_⟩
  · rw [World.var?_cell gA hv (2 * i), ← Array.getElem?_toList]
    simpa [Nat.mul_comm] using e0
  · rw [World.var?_cell gA hv (2 * i + 1), ← Array.getElem?_toList]
    simpa [Nat.mul_comm] using e1

set_option maxRecDepth 100000 in
theorem vars_of_laid {W : World} (h : laidMetH Tryz.prog laid7 W) : Vars W := by
  rw [plain7] at h
  refine ⟨pow_of h (by simp [laid7]), tz_of h (by simp [laid7]), ?_⟩
  have h3 := Lib.laidMet.reads h (n := "unicode/utf8.first") (d := Rows.laid_unicode_utf8_first) (by simp [laid7])
  have h4 := Lib.laidMet.reads h (n := "unicode/utf8.acceptRanges") (d := Rows.laid_unicode_utf8_acceptRanges) (by simp [laid7])
  rw [first_data] at h3
  rw [acc_data] at h4
  exact ⟨first_of h3, acc_of h4⟩

/-- The world in which the listed variables are laid meets the condition. -/
theorem door_met (os : Os) (args : Array Value) : laidMetH Tryz.prog laid7 ((World.laidAll Tryz.prog os laid7).forCall (fun _ _ => 0) ⟨#[], args, []⟩).memory := by
  rw [plain7]
  exact laidMet_laidAll _ (by kernel_rfl) (by kernel_rfl)

theorem laidOut : laidOutB Tryz.prog = true := by kernel_rfl
end Go.Proofs.YtpeioecpilmpiaaGreatDoor
