/-
  The walk of PackBack where there are no items, or too many.
-/
import Derived.Test.YtlajableceaoaaaB3
namespace Go.Proofs.Ytlajableceaoaaa
open Go.RowKit

theorem back_long (a : Option Addr) (len cap : Nat) (w : World) (hlen : 40 < len) :
    Calls Try.prog 3 #[.slice a len cap] w fun e w' => e = .returned (.bool true) ∧ Below w.heap.size w w' := by
  have k0 := awake_any w
  go_enter Try.func3, Try.ntmps3
  go_wp2_with (go_at_call 6; refine k0.mono ?_; rintro e w1 ⟨rfl, hb1⟩)
  go_ret
  exact ⟨rfl, hb1⟩

set_option maxHeartbeats 1600000 in
set_option maxRecDepth 1000000 in
theorem back_none (a : Option Addr) (cap : Nat) (w : World) :
    Calls Try.prog 3 #[.slice a 0 cap] w fun e w' => e = .returned (.bool true) ∧ Below w.heap.size w w' := by
  have k0 := awake_any w
  go_enter Try.func3, Try.ntmps3
  go_wp2_with (go_at_call 6; refine k0.mono ?_; rintro e w1 ⟨rfl, hb1⟩)
  have hn := hb1.size
  have hB : Below w.heap.size w (w1.alloc (.cells #[.string ⟨#[]⟩, .bool false] 25)) := hb1.alloc hn _
  have hp0 : At (w1.alloc (.cells #[.string ⟨#[]⟩, .bool false] 25)) w1.heap.size 25 ⟨#[]⟩ false := heap_alloc_new w1 _
  have k12 := ok_yes _ _ _ hp0.c1
  have k13 := string_yes _ _ _ hp0.c0 hp0.c1
  have k14 := open_any ⟨#[]⟩ (w1.alloc (.cells #[.string ⟨#[]⟩, .bool false] 25))
  have e1 : (w1.alloc (.cells #[.string ⟨#[]⟩, .bool false] 25)).heap.size = w1.heap.size + 1 := by simp
  rw [e1] at k14
  have hn2 : Aside (w.heap.size ≤ w1.heap.size + 1) := Nat.le_succ_of_le hn
  have X : Aside (Below w.heap.size w (w1.alloc (.cells #[.string ⟨#[]⟩, .bool false] 25))) := hB
  clear hB hp0 hb1 k0 hn e1
  refine wp_loop_rounds 1 ?_
  rw [rounds_succ]
  go_wp2_with (first
    | (go_at_call 12; refine k12.mono ?_; rintro e u1 ⟨rfl, rfl⟩)
    | (go_at_call 13; refine k13.mono ?_; rintro e u2 ⟨rfl, rfl⟩)
    | (go_at_call 14; refine k14.mono ?_; rintro e u3 ⟨rfl, ha3, hb3⟩; have k19 := done_at _ _ _ _ ha3))
  refine wp_loop_rounds 1 ?_
  rw [rounds_succ]
  go_wp2_with (go_at_call 19; refine k19.mono ?_; rintro e u4 ⟨rfl, rfl⟩)
  go_ret
  exact ⟨rfl, X.out.trans (hb3.mono hn2.out)⟩
end Go.Proofs.Ytlajableceaoaaa
