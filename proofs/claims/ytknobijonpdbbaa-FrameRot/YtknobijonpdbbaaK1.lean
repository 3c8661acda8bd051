/-
  The state's step, and the sum of what comes behind a sum, as the program has them.
-/
import Derived.Test.YtknobijonpdbbaaRows
import Derived.Test.YtknobijonpdbbaaFMath
import Derived.WalkKit
import Derived.WalkSpells
import Derived.WalkLawsBesides
import Derived.Outline
import Derived.BigRegion
import Derived.Deep.LoopGhost
import Derived.BigQuiet
namespace Go.Proofs.Ytknobijonpdbbaa
open Go.RowKit

theorem wraps_u32 (n : Int) (h₀ : 0 ≤ n) (h₁ : n < 2 ^ 32) : IntKind.u32.wrap n = n := by
  rw [IntKind.wrap_u32]
  omega

theorem xor32 (a b : Nat) (ha : a < 4294967296) (hb : b < 4294967296) : bits BinOp.xor IntKind.u32 (a : Int) (b : Int) = ((a ^^^ b : Nat) : Int) := by
  have hx : a ^^^ b < 2 ^ 32 := Nat.xor_lt_two_pow (by omega) (by omega)
  have h1 : (BitVec.ofInt 32 (a : Int)).toNat = a := by
    rw [BitVec.ofInt_natCast, BitVec.toNat_ofNat]; exact Nat.mod_eq_of_lt (by omega)
  have h2 : (BitVec.ofInt 32 (b : Int)).toNat = b := by
    rw [BitVec.ofInt_natCast, BitVec.toNat_ofNat]; exact Nat.mod_eq_of_lt (by omega)
  show IntKind.u32.wrap ((BitVec.ofInt 32 (a : Int) ^^^ BitVec.ofInt 32 (b : Int)).toNat : Int) = _
  rw [BitVec.toNat_xor, h1, h2, IntKind.wrap_u32]
  omega

theorem and1_32 (a : Nat) (ha : a < 4294967296) : bits BinOp.and IntKind.u32 (a : Int) 1 = ((a % 2 : Nat) : Int) := by
  have e := bits_mask .u32 32 (by decide) wraps_u32 1 (by decide) (a : Int) (by omega) (by omega)
  simpa using e

set_option maxHeartbeats 1600000 in
set_option maxRecDepth 100000 in
theorem step_any (x : Nat) (w : World) (hx : x < 4294967296) :
    Calls Try.prog 27 #[.int .u32 (x : Int)] w fun e w' => e = .returned (.int .u32 (Cr.gn 8 x : Nat)) ∧ w' = w := by
  go_enter Try.func27, Try.ntmps27
  go_wp2
  go_loopg [0, 4] 8 (fun gh s0 s4 wr => ∃ k y : Nat, 8 - k ≤ gh ∧ k ≤ 8 ∧ s0 = .int .u32 (y : Int) ∧ s4 = .int .i64 (k : Int) ∧ y < 4294967296 ∧ Cr.gn (8 - k) y = Cr.gn 8 x ∧ wr = w)
  case atStart => exact ⟨0, x, by omega, by omega, rfl, rfl, hx, rfl, rfl⟩
  case round =>
    obtain ⟨k, y, hgh, hk, rfl, rfl, hy, hg, rfl⟩ := hrel
    have HG : Aside (Cr.gn (8 - k) y = Cr.gn 8 x) := hg
    clear hg
    by_cases hlt : k < 8
    · have d1 : decide ((k : Int) < 8) = true := by simp; omega
      have ha := and1_32 y hy
      have hgs : Aside (Cr.gn (8 - (k + 1)) (Cr.g y) = Cr.gn 8 x) := by
        have := HG.out
        rw [show 8 - k = (8 - (k + 1)) + 1 by omega] at this
        exact this
      by_cases h1 : y % 2 = 1
      · have d2 : (bits BinOp.and IntKind.u32 (y : Int) 1 == 1) = true := by rw [ha]; simp; omega
        have hxo : bits BinOp.xor IntKind.u32 ((y : Int) / 2) 3988292384 = ((Cr.g y : Nat) : Int) := by
          have := xor32 (y / 2) 3988292384 (by omega) (by decide)
          unfold Cr.g
          rw [if_pos h1]
          simpa using this
        clear ha
        go_wp2_with fail
        go_roundg (8 - (k + 1))
        case measure => omega
        case rel => exact ⟨k + 1, Cr.g y, Nat.le_refl _, by omega, by go_num, by go_num, Cr.g_lt hy, hgs.out, rfl⟩
      · have d2 : (bits BinOp.and IntKind.u32 (y : Int) 1 == 1) = false := by rw [ha]; simp; omega
        have e0 : Cr.g y = y / 2 := by unfold Cr.g; rw [if_neg h1]
        clear ha
        go_wp2_with fail
        go_roundg (8 - (k + 1))
        case measure => omega
        case rel => exact ⟨k + 1, Cr.g y, Nat.le_refl _, by omega, by rw [e0]; go_num, by go_num, Cr.g_lt hy, hgs.out, rfl⟩
    · obtain rfl : k = 8 := by omega
      go_wp2
      go_ret
      exact ⟨by have := HG.out; simp [Cr.gn] at this; simp [Cr.gn, this], rfl⟩
end Go.Proofs.Ytknobijonpdbbaa
