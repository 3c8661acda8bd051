/-
  The sum of what comes behind a sum; the sum of a text.
-/
import Derived.Test.YtknobijonpdbbaaK1
namespace Go.Proofs.Ytknobijonpdbbaa
open Go.RowKit

theorem take_snoc (s : ByteArray) (k : Nat) (h : k < s.size) : s.data.toList.take (k + 1) = s.data.toList.take k ++ [s[k]] := by
  have hk : k < s.data.toList.length := by simpa using h
  rw [List.take_succ_eq_append_getElem hk]
  simp
  rfl

theorem not32 (x : Nat) (hx : x < 4294967296) : bits BinOp.xor IntKind.u32 IntKind.u32.max (x : Int) = ((4294967295 - x : Nat) : Int) := by
  have h := xor32 4294967295 x (by decide) hx
  have e : 4294967295 ^^^ x = 4294967295 - x := by
    have := BitVec.toNat_not (x := BitVec.ofNat 32 x)
    rw [← BitVec.xor_allOnes, BitVec.toNat_xor] at this
    simp at this
    rw [Nat.mod_eq_of_lt (by omega)] at this
    rw [Nat.xor_comm]
    exact this
  rw [← e, ← h]
  rfl

set_option maxHeartbeats 1600000 in
set_option maxRecDepth 100000 in
theorem next_any (x : Nat) (s : ByteArray) (w : World) (hx : x < 4294967296) (hs : s.size ≤ 1000000) :
    Calls Try.prog 26 #[.int .u32 (x : Int), .string s] w fun e w' => e = .returned (.int .u32 ((4294967295 - Cr.st (4294967295 - x) s.data.toList : Nat) : Int)) ∧ w' = w := by
  have hn := not32 x hx
  go_enter Try.func26, Try.ntmps26
  go_wp2
  go_loopg [5, 11] s.size (fun gh s5 s11 wr => ∃ k y : Nat, s.size - k ≤ gh ∧ k ≤ s.size ∧ s5 = .int .u32 (y : Int) ∧ s11 = .int .i64 (k : Int) ∧ y < 4294967296 ∧ y = Cr.st (4294967295 - x) (s.data.toList.take k) ∧ wr = w)
  case atStart => exact ⟨0, 4294967295 - x, by omega, by omega, rfl, rfl, by omega, rfl, rfl⟩
  case round =>
    obtain ⟨k, y, hgh, hk, rfl, rfl, hy, hg, rfl⟩ := hrel
    have HG : Aside (y = Cr.st (4294967295 - x) (s.data.toList.take k)) := hg
    clear hg
    by_cases hlt : k < s.size
    · have hxo : bits BinOp.xor IntKind.u32 (y : Int) ((s[k].toNat : Int) % 4294967296) = ((y ^^^ s[k].toNat : Nat) : Int) := by
        have := Cr.byte_lt s[k]
        rw [Int.emod_eq_of_lt (by omega) (by omega)]
        exact xor32 y s[k].toNat hy (Cr.byte_lt _)
      have hst := step_any (y ^^^ s[k].toNat) wr (Cr.xor_lt hy (Cr.byte_lt _))
      have R : Aside (Cr.gn 8 (y ^^^ s[k].toNat) = Cr.st (4294967295 - x) (s.data.toList.take (k + 1))) := by
        have h0 := HG.out
        show _ = _
        rw [take_snoc s k hlt, Cr.st_snoc, ← h0]
      have hl : Cr.gn 8 (y ^^^ s[k].toNat) < 4294967296 := Cr.gn_lt _ (Cr.xor_lt hy (Cr.byte_lt _))
      go_wp2_with (go_at_call 27; refine hst.mono ?_; rintro e w1 ⟨rfl, rfl⟩)
      go_roundg (s.size - (k + 1))
      case measure => omega
      case rel => exact ⟨k + 1, Cr.gn 8 (y ^^^ s[k].toNat), Nat.le_refl _, by omega, rfl, by go_num, hl, R.out, rfl⟩
    · obtain rfl : k = s.size := by omega
      have hm := not32 y hy
      go_wp2
      go_ret
      have h0 := HG.out
      rw [List.take_of_length_le (by simp)] at h0
      exact ⟨by rw [h0]; rfl, rfl⟩

theorem of_any (s : ByteArray) (w : World) (hs : s.size ≤ 1000000) :
    Calls Try.prog 24 #[.string s] w fun e w' => e = .returned (.int .u32 (Cr.sum s.data.toList : Nat)) ∧ w' = w := by
  have h := next_any 0 s w (by decide) hs
  go_enter Try.func24, Try.ntmps24
  go_wp2_with (go_at_call 26; refine h.mono ?_; rintro e w1 ⟨rfl, rfl⟩)
  go_ret
  exact ⟨rfl, rfl⟩
end Go.Proofs.Ytknobijonpdbbaa
