/-
  The document's Make.
-/
import Derived.Test.YtknobijonpdbbaaF3
namespace Go.Proofs.Ytknobijonpdbbaa
open Go.RowKit
theorem refHead_nums (n : Nat) (h : n < 65536) : strOfNums [(n : Int) / 256 % 256, (n : Int) % 256] = bs (Fr.two n) := by
  rw [← two_nums]
  congr 2
  omega

theorem four_bs (s : ByteArray) (w : World) (hs : s.size ≤ 1000000) :
    Calls Try.prog 22 #[.string s] w fun e w' => e = .returned (.string (bs (Fr.four s.data.toList))) ∧ Below w.heap.size w w' := four_any s w hs

set_option maxHeartbeats 800000 in
theorem refMake_any (s : ByteArray) (w : World) (hs : s.size ≤ 2000) :
    Calls Try.prog 15 #[.string s] w fun e w' => e = .returned (.string (bs (Fr.mk s.data.toList))) ∧ Below w.heap.size w w' := by
  have hc := conv2 w ((s.size : Int) / 256) ((s.size : Int) % 256)
  rw [two_nums] at hc
  have k1 : Aside (∀ u : World, _) := fun u : World => four_bs (bs (Fr.two s.size)) u (by rw [bs_size]; show 2 ≤ 1000000; decide)
  have k2 : Aside (∀ u : World, _) := fun u : World => four_bs s u (by omega)
  have ef : bs (Fr.mk s.data.toList) = bs (Fr.two s.size) ++ bs (Fr.four (bs (Fr.two s.size)).data.toList) ++ s ++ bs (Fr.four s.data.toList) := by
    apply list_ext
    simp only [list_app, bs_list]
    unfold Fr.mk Fr.sl
    rw [list_len]
    simp
  rw [ef]
  clear ef
  have z1 : (bs (Fr.two s.size)).size = 2 := by rw [bs_size]; rfl
  have z2 : (bs (Fr.four (bs (Fr.two s.size)).data.toList)).size = 4 := by rw [bs_size]; rfl
  have z3 : (bs (Fr.four s.data.toList)).size = 4 := by rw [bs_size]; rfl
  have T : Aside True := trivial
  generalize bs (Fr.four (bs (Fr.two s.size)).data.toList) = B at *
  generalize bs (Fr.two s.size) = A at *
  generalize bs (Fr.four s.data.toList) = C at *
  go_enter Try.func15, Try.ntmps15
  go_wp2_with (first
    | (clear T; go_at_call 22; refine (k1.out _).mono ?_; rintro e w1 ⟨rfl, hb1⟩)
    | (go_at_call 22; refine (k2.out _).mono ?_; rintro e w2 ⟨rfl, hb2⟩))
  go_ret
  have b1 := (Below.refl w.heap.size w).alloc (Nat.le_refl _) (.cells #[.int .u8 ((s.size : Int) / 256), .int .u8 ((s.size : Int) % 256)] 5)
  have b2 := b1.trans (hb1.mono b1.size)
  exact ⟨rfl, b2.trans (hb2.mono b2.size)⟩
end Go.Proofs.Ytknobijonpdbbaa
