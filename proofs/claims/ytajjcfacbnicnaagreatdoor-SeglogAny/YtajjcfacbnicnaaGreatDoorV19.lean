/-
  YtajjcfacbnicnaaGreatDoor: the texts H1, one behind the other.
-/
import Derived.Test.YtajjcfacbnicnaaGreatDoorV18
import Derived.Sort.OwnSortedInts
/-
  slices.Sort over a list of the call's own.
-/
namespace Go.Proofs.YtajjcfacbnicnaaGreatDoor
open Go.RowKit Go.Shelf
set_option maxRecDepth 100000

theorem len0 (w : World) : Calls Tryz.prog 117 #[.int .u64 0] w fun e w' => e = .returned (.int .i64 0) ∧ w' = w := by
  have k := Any.bits_Len64 { lays171 with } 0 w (by omega) (by omega)
  go_enter Tryz.func117, Tryz.ntmps117
  go_wp2_with (go_at_call 140; refine k.mono ?_; rintro e w' ⟨rfl, rfl⟩)
  go_ret
  exact ⟨rfl, rfl⟩

theorem insertion_nil (w : World) : Calls Tryz.prog 131 #[.slice none 0 0, .int .i64 0, .int .i64 0] w fun e w' => e = .returned (.tuple #[]) ∧ w' = w := by
  go_enter Tryz.func131, Tryz.ntmps131
  go_wp2
  go_loopg [6] 1 (fun gh v wr => v = .int .i64 1 ∧ wr = w)
  case atStart => exact ⟨by simp, rfl⟩
  case round =>
    obtain ⟨rfl, rfl⟩ := hrel
    go_wp2
    go_end0
    exact ⟨rfl, rfl⟩

set_option maxRecDepth 100000 in
set_option maxHeartbeats 1600000 in
theorem pdq_nil (w : World) : Calls Tryz.prog 116 #[.slice none 0 0, .int .i64 0, .int .i64 0, .int .i64 0] w fun e w' => e = .returned (.tuple #[]) ∧ w' = w := by
  have k := insertion_nil w
  go_enter Tryz.func116, Tryz.ntmps116
  go_wp2
  go_loopg [1, 2] 1 (fun gh v1 v2 wr => v1 = .int .i64 0 ∧ v2 = .int .i64 0 ∧ wr = w)
  case atStart => exact ⟨rfl, rfl, rfl⟩
  case round =>
    obtain ⟨rfl, rfl, rfl⟩ := hrel
    go_wp2_with (go_at_call 131; refine k.mono ?_; rintro e w' ⟨rfl, rfl⟩)
    try simp only [Exit.inBlock, Exit.then]
    refine bodyPost_ret (results_none rfl _ _ _) rfl ?_
    exact ⟨rfl, rfl⟩

theorem sort_nil (w : World) : Calls Tryz.prog 102 #[.slice none 0 0] w fun e w' => e = .returned (.tuple #[]) ∧ w' = w := by
  have k := pdq_nil w
  have k2 := len0 w
  go_enter Tryz.func102, Tryz.ntmps102
  go_wp2_with (first
    | (go_at_call 117; refine k2.mono ?_; rintro e w' ⟨rfl, rfl⟩)
    | (go_at_call 116; refine k.mono ?_; rintro e w' ⟨rfl, rfl⟩))
  go_end0
  exact ⟨rfl, rfl⟩


def icells (l : List Int) : List Value := l.map (Value.int .i64)
def sortI (l : List Int) : List Int := l.mergeSort fun x y => decide (x ≤ y)

theorem sort_any {w : World} {B : Nat} {v : Value} {l : List Int} (h : w.ownsRow B 3 1 v l.length (icells l)) (hl : l.length ≤ 1000) :
    Calls Tryz.prog 102 #[v] w fun e w' => e = .returned (.tuple #[]) ∧ w'.ownsRow B 3 1 v l.length (icells (sortI l)) ∧ w.grownBy w' v.ownBlock := by
  rcases h.2 with ⟨rfl, h0⟩ | ⟨g, cap, cur, rfl, hg, hh, h3, h4, h5, h6⟩
  · have : l = [] := List.eq_nil_of_length_eq_zero h0
    subst this
    refine (sort_nil w).mono ?_
    rintro e w' ⟨rfl, rfl⟩
    exact ⟨rfl, by rw [show sortI [] = [] by simp [sortI]]; exact h, ⟨rfl, rfl, rfl, Nat.le_refl _, fun _ _ _ => rfl⟩⟩
  · rw [Nat.mul_one] at h6
    have hH := Go.holds_of_blockI hh h6
    have hlt : g < w.heap.size := (Array.getElem?_eq_some_iff.1 hh).1
    refine (Any.slices_Sort_int lays189 g 0 cap l w hH hlt (by omega)).mono ?_
    rintro e w' ⟨rfl, n, os, rfl⟩
    have hsl : (sortI l).length = l.length := by simp [sortI]
    refine ⟨rfl, ?_, Go.grownBy_sortedI _⟩
    have := Go.ownsRow_sortedI (n := n) (os := os) hsl hg hh h3 h4 h5
    exact this
end Go.Proofs.YtajjcfacbnicnaaGreatDoor
