/-
  The same texts.
-/
import Derived.Test.YtajjcfacbnicnaaGreatDoorUB1
import Derived.Test.YtajjcfacbnicnaaGreatDoorU26
import Derived.Test.YtajjcfacbnicnaaGreatDoorU27
import Derived.WalkKit
import Derived.WalkSpells
import Derived.WalkLawsBesides
import Derived.Deep.LoopGhost
import Derived.Laws.Externs
import Derived.Below
import Derived.BigQuiet
import Derived.Deep.RegionWith
import Derived.OwnWalk
import Derived.Maps.AppendAt
import Derived.WalkSmall
namespace Go.Proofs.YtajjcfacbnicnaaGreatDoor
open Go.RowKit
set_option maxRecDepth 100000
set_option maxHeartbeats 1600000 in
theorem same_yes (v1 v2 : Value) (l : List ByteArray) (w : World) (h1 : Fm.Strs w.heap.size v1 l w) (h2 : Fm.Strs w.heap.size v2 l w) (hl : l.length ≤ 1000000) :
    Calls Tryz.prog 19 #[v1, v2] w fun e w' => e = .returned (.bool true) ∧ Below w.heap.size w w' := by
  obtain ⟨a1, c1, rfl, hc1⟩ := h1
  obtain ⟨a2, c2, rfl, hc2⟩ := h2
  go_enter Tryz.func19, Tryz.ntmps19
  go_wp2
  go_loopg [13, 5] l.length (fun gh s13 _ wr => ∃ k : Nat, l.length - k ≤ gh ∧ k ≤ l.length ∧ s13 = .int .i64 (k : Int) ∧ Below w.heap.size w wr)
  case atStart => exact ⟨0, by omega, by omega, rfl, Below.refl _ _⟩
  case round =>
    obtain ⟨k, hgh, hk, rfl, hbw⟩ := hrel
    by_cases hp : k < l.length
    · obtain ⟨g1, o1, rfl, hg1, hcell1⟩ := hc1 k hp
      obtain ⟨g2, o2, rfl, hg2, hcell2⟩ := hc2 k hp
      rw [← hbw.cell (by exact hg1)] at hcell1
      rw [← hbw.cell (by exact hg2)] at hcell2
      have dk : decide (k < l.length) = true := by simpa using hp
      generalize l.getD k ⟨#[]⟩ = X at *
      clear hc1 hc2
      go_wp2
      go_quiet (fail)
      go_wp2
      go_roundg (l.length - (k + 1))
      case measure => omega
      case rel => exact ⟨k + 1, Nat.le_refl _, by omega, by go_num, hbw.trans ((drewN_below _ _).mono hbw.size)⟩
    · obtain rfl : k = l.length := by omega
      have dk : decide (l.length < l.length) = false := by simp
      clear hc1 hc2
      go_wp2
      go_ret
      exact ⟨rfl, hbw⟩
/-- A row that is owned, as texts. -/
theorem Fm.Strs.of_row {w : World} {base : Nat} {v : Value} {l : List ByteArray} (h : w.ownsRow base 9 1 v l.length (Fm.cellsS l)) : Fm.Strs w.heap.size v l w := Fm.Strs.of_own h
/-- The first so many texts. -/
theorem strs_take {B : Nat} {a : Option Addr} {n c : Nat} {l : List ByteArray} {w : World} (h : Fm.Strs B (.slice a n c) l w) {k : Nat} (hk : k ≤ l.length) (c' : Nat) : Fm.Strs B (.slice a k c') (l.take k) w := by
  obtain ⟨a', c2, e, hc⟩ := h
  injection e with e1 e2 e3
  subst e1
  have hl : (l.take k).length = k := by rw [List.length_take]; omega
  refine ⟨a, c', by rw [hl], fun j hj => ?_⟩
  rw [hl] at hj
  obtain ⟨g, o, h1, h2, h3⟩ := hc j (by omega)
  refine ⟨g, o, h1, h2, ?_⟩
  rw [h3, List.getD_eq_getElem?_getD, List.getD_eq_getElem?_getD, List.getElem?_take, if_pos hj]
end Go.Proofs.YtajjcfacbnicnaaGreatDoor
