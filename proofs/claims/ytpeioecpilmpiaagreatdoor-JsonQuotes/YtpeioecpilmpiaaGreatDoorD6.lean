/-
  The document's own bytes of a sign.
-/
import Derived.Test.YtpeioecpilmpiaaGreatDoorD5
import Derived.Test.YtpeioecpilmpiaaGreatDoorSF2
import Derived.Laws.BytesArg
import Derived.WalkKit
import Derived.WalkSpells
import Derived.WalkLawsBesides
import Derived.Deep.LoopGhost
import Derived.Laws.Externs
import Derived.Below
import Derived.BigQuiet
import Derived.Deep.RegionWith
import Derived.OwnWalk
import Derived.Maps.AppendAt
import Derived.WalkSmall
namespace Go.Proofs.YtpeioecpilmpiaaGreatDoor
open Go.RowKit
theorem dconv (w : World) (l : List Int) :
    (convert 92 9 (.slice (some ⟨w.heap.size, 0, none⟩) l.length l.length)).run Tryz.prog (w.alloc (.cells (l.map (Value.int .u8)).toArray 5)) =
      .ok (.string (strOfNums l)) (w.alloc (.cells (l.map (Value.int .u8)).toArray 5)) := by
  refine run_convert_bytes_arg _ 92 5 Tryz.underlying92 Tryz.underlying5 w.heap.size 0 l.length l.length _ rfl (fun i hi => ?_) 9 Tryz.underlying9
  have h1 := heap_alloc_new w (.cells (l.map (Value.int .u8)).toArray 5)
  rw [Lib.cell_of_heap h1]
  simp [List.getElem?_eq_getElem hi]

theorem strOf_rune (n : Int) : strOfNums (Lib.encodeRuneZ n) = ⟨(Lib.encodeRune n).toArray⟩ := rfl

theorem dbytes_one (n : Nat) (w : World) (h' : n < 128) :
    Calls Tryz.prog 77 #[.int .i64 (n : Int)] w fun e w' => e = .returned (.string ⟨(Lib.encodeRune n).toArray⟩) ∧ Below w.heap.size w w' := by
  have d0 : decide ((n : Int) < 128) = true := by simp; omega
  have hc := dconv w [(n : Int)]
  rw [← Lib.encodeRuneZ_one (by omega) (by omega), strOf_rune, Lib.encodeRuneZ_one (by omega) (by omega)] at hc
  simp only [List.length_cons, List.length_nil, Nat.zero_add, List.map_cons, List.map_nil] at hc
  go_enter Tryz.func77, Tryz.ntmps77
  go_wp2
  go_ret
  exact ⟨rfl, (Below.refl _ _).alloc (Nat.le_refl _) _⟩

theorem dbytes_two (n : Nat) (w : World) (h : 128 ≤ n) (h' : n < 2048) :
    Calls Tryz.prog 77 #[.int .i64 (n : Int)] w fun e w' => e = .returned (.string ⟨(Lib.encodeRune n).toArray⟩) ∧ Below w.heap.size w w' := by
  have d0 : decide ((n : Int) < 128) = false := by simp; omega
  have d1 : decide ((n : Int) < 2048) = true := by simp; omega
  have hc := dconv w [192 + (n : Int) / 64, 128 + (n : Int) % 64]
  rw [← Lib.encodeRuneZ_two (by omega) (by omega), strOf_rune, Lib.encodeRuneZ_two (by omega) (by omega)] at hc
  simp only [List.length_cons, List.length_nil, Nat.zero_add, Nat.reduceAdd, List.map_cons, List.map_nil] at hc
  go_enter Tryz.func77, Tryz.ntmps77
  go_wp2
  go_ret
  exact ⟨rfl, (Below.refl _ _).alloc (Nat.le_refl _) _⟩

theorem dbytes_three (n : Nat) (w : World) (h : 2048 ≤ n) (h' : n < 65536) (hs : n < 55296 ∨ 57343 < n) :
    Calls Tryz.prog 77 #[.int .i64 (n : Int)] w fun e w' => e = .returned (.string ⟨(Lib.encodeRune n).toArray⟩) ∧ Below w.heap.size w w' := by
  have d0 : decide ((n : Int) < 128) = false := by simp; omega
  have d1 : decide ((n : Int) < 2048) = false := by simp; omega
  have d2 : decide ((n : Int) < 65536) = true := by simp; omega
  have hc := dconv w [224 + (n : Int) / 4096, 128 + (n : Int) / 64 % 64, 128 + (n : Int) % 64]
  rw [← Lib.encodeRuneZ_three (by omega), strOf_rune, Lib.encodeRuneZ_three (by omega)] at hc
  simp only [List.length_cons, List.length_nil, Nat.zero_add, Nat.reduceAdd, List.map_cons, List.map_nil] at hc
  go_enter Tryz.func77, Tryz.ntmps77
  go_wp2
  go_ret
  exact ⟨rfl, (Below.refl _ _).alloc (Nat.le_refl _) _⟩

theorem dbytes_four (n : Nat) (w : World) (h : 65536 ≤ n) (h' : n ≤ 1114111) :
    Calls Tryz.prog 77 #[.int .i64 (n : Int)] w fun e w' => e = .returned (.string ⟨(Lib.encodeRune n).toArray⟩) ∧ Below w.heap.size w w' := by
  have d0 : decide ((n : Int) < 128) = false := by simp; omega
  have d1 : decide ((n : Int) < 2048) = false := by simp; omega
  have d2 : decide ((n : Int) < 65536) = false := by simp; omega
  have hc := dconv w [240 + (n : Int) / 262144, 128 + (n : Int) / 4096 % 64, 128 + (n : Int) / 64 % 64, 128 + (n : Int) % 64]
  rw [← Lib.encodeRuneZ_four (by omega) (by omega), strOf_rune, Lib.encodeRuneZ_four (by omega) (by omega)] at hc
  simp only [List.length_cons, List.length_nil, Nat.zero_add, Nat.reduceAdd, List.map_cons, List.map_nil] at hc
  go_enter Tryz.func77, Tryz.ntmps77
  go_wp2
  go_ret
  exact ⟨rfl, (Below.refl _ _).alloc (Nat.le_refl _) _⟩

theorem dbytes_any (n : Nat) (w : World) (h : n < 55296 ∨ (57343 < n ∧ n ≤ 1114111)) :
    Calls Tryz.prog 77 #[.int .i64 (n : Int)] w fun e w' => e = .returned (.string ⟨(Lib.encodeRune n).toArray⟩) ∧ Below w.heap.size w w' := by
  by_cases h1 : n < 128
  · exact dbytes_one n w h1
  by_cases h2 : n < 2048
  · exact dbytes_two n w (by omega) h2
  by_cases h3 : n < 65536
  · exact dbytes_three n w (by omega) h3 (by omega)
  · exact dbytes_four n w (by omega) (by omega)

theorem denc_len (n : Int) : (Lib.encodeRune n).length ≤ 4 := by
  have := (Lib.runeCells_le n).2
  rw [Lib.runeCells_length] at this
  exact this
end Go.Proofs.YtpeioecpilmpiaaGreatDoor
