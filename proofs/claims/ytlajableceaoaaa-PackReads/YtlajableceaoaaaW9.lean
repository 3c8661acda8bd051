/-
  The first few calls of each statement answer true.
-/
import Derived.Test.YtlajableceaoaaaW8
namespace Go.Proofs.Ytlajableceaoaaa
open Go.RowKit

set_option maxHeartbeats 800000 in
theorem awake_any (w : World) : Calls Try.prog 6 #[] w fun e w' => e = .returned (.bool true) ∧ Below w.heap.size w w' := by
  have h0 : At (w.alloc (.cells #[.string ⟨#[]⟩, .bool false] 25)) w.heap.size 25 ⟨#[]⟩ false := heap_alloc_new w _
  have k1 := aw1 w.heap.size _ h0
  go_enter Try.func6, Try.ntmps6
  go_wp2_with (first
    | (go_at_call 7; refine k1.mono ?_; rintro e w1 ⟨rfl, ha1, hu1⟩; have k2 := aw2 _ w1 ha1)
    | (go_at_call 9; refine k2.mono ?_; rintro e w2 ⟨rfl, ha2, hu2⟩; have k3 := string_yes _ _ w2 ha2.c0 ha2.c1)
    | (go_at_call 13; refine k3.mono ?_; rintro e w3 ⟨rfl, rfl⟩; have k4 := open_any ⟨#[130, 44, 2, 97, 98]⟩ w3)
    | (go_at_call 14; refine k4.mono ?_; rintro e w4 ⟨rfl, ha4, hb4⟩; have k5 := aw3 _ w4 ha4)
    | (go_at_call 15; refine k5.mono ?_; rintro e w5 ⟨rfl, ha5, hu5⟩; have k6 := aw4 _ w5 ha5)
    | (go_at_call 16; refine k6.mono ?_; rintro e w6 ⟨rfl, ha6, hu6⟩; have k7 := done_at _ _ _ w6 ha6)
    | (go_at_call 19; refine k7.mono ?_; rintro e w7 ⟨rfl, rfl⟩))
  go_ret
  refine ⟨by rfl, ?_⟩
  have b0 : Below w.heap.size w (w.alloc (.cells #[.string ⟨#[]⟩, .bool false] 25)) := (Below.refl _ _).alloc (Nat.le_refl _) _
  have b1 := b0.trans (hu1.below (Nat.le_refl _) b0.size)
  have b2 := b1.trans (hu2.below (Nat.le_refl _) b1.size)
  have b4 := b2.trans (hb4.mono b2.size)
  have b5 := b4.trans (hu5.below b2.size b4.size)
  exact b5.trans (hu6.below b2.size b5.size)
end Go.Proofs.Ytlajableceaoaaa
