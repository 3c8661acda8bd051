/-
  awake: what the statements ask first.
-/
import Derived.Test.YtkijglkjpgjdaaaDoorC15
import Derived.Test.YtkijglkjpgjdaaaDoorC16
namespace Go.Proofs.YtkijglkjpgjdaaaDoor
open Go.RowKit

theorem path_ab : pathO ⟨#[47, 97, 47, 47, 98, 47, 46, 46, 47, 99, 37, 50, 102, 100]⟩ = some [47, 97, 47, 99, 37, 50, 70, 100] := by decide +kernel
theorem meth_post : Cn.meth [112, 111, 115, 116] = some [80, 79, 83, 84] := by decide +kernel
theorem key_a1 : key ⟨#[97, 45, 49]⟩ = true := by decide +kernel

set_option maxHeartbeats 1600000 in
theorem awake_any (w : World) (hT : Ha.Tab w) : Calls Tryd.prog 7 #[] w fun e w' => e = .returned (.bool true) ∧ Below w.heap.size w w' := by
  have k1 := path_any ⟨#[47, 97, 47, 47, 98, 47, 46, 46, 47, 99, 37, 50, 102, 100]⟩ w
  rw [path_ab] at k1
  have k2 : Aside (∀ u : World, Calls Tryd.prog 10 #[.string ⟨#[112, 111, 115, 116]⟩] u fun e w' => e = .returned (opt (some [80, 79, 83, 84])) ∧ Below u.heap.size u w') := fun u => by
    have := method_any ⟨#[112, 111, 115, 116]⟩ u (by decide)
    rw [meth_post] at this
    exact this
  have k3 : Aside (∀ u : World, Calls Tryd.prog 12 #[.string ⟨#[97, 45, 49]⟩] u fun e w' => e = .returned (.bool true) ∧ Below u.heap.size u w') := fun u => by
    have := key_any ⟨#[97, 45, 49]⟩ u
    rw [key_a1] at this
    exact this
  have hz := print_size ⟨#[97]⟩ ⟨#[98]⟩ ⟨#[99]⟩
  have k4 : Aside (∀ u : World, Ha.Tab u → Calls Tryd.prog 14 #[.string ⟨#[97]⟩, .string ⟨#[98]⟩, .string ⟨#[99]⟩] u fun e w' => e = .returned (.string (print ⟨#[97]⟩ ⟨#[98]⟩ ⟨#[99]⟩)) ∧ Below u.heap.size u w') := fun u hu => print_any _ _ _ u hu (by decide) (by decide) (by decide)
  generalize print ⟨#[97]⟩ ⟨#[98]⟩ ⟨#[99]⟩ = D at *
  have HT : Aside (Ha.Tab w) := hT
  clear hT
  go_enter Tryd.func7, Tryd.ntmps7
  go_wp2_with (first
    | (go_at_call 8; refine k1.mono ?_; rintro e w1 ⟨rfl, hb1⟩; simp only [opt])
    | (go_at_call 10; refine (k2.out _).mono ?_; rintro e w2 ⟨rfl, hb2⟩; simp only [opt])
    | (go_at_call 12; refine (k3.out _).mono ?_; rintro e w3 ⟨rfl, hb3⟩; have B := hb1.trans (hb2.mono hb1.size); have B3 := B.trans (hb3.mono B.size); clear hb1 hb2 B hb3)
    | (go_at_call 14; refine (k4.out _ (HT.out.later B3)).mono ?_; rintro e w4 ⟨rfl, hb4⟩))
  go_ret
  exact ⟨rfl, B3.trans (hb4.mono B3.size)⟩
end Go.Proofs.YtkijglkjpgjdaaaDoor
