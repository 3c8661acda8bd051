/-
  The document's own sum, and its sealed text: the same as the program's.
-/
import Derived.Test.YtknobijonpdbbaaK3
namespace Go.Proofs.Ytknobijonpdbbaa
open Go.RowKit

/-- What the document's loop has behind k bits of a byte. -/
theorem rb_all (x b k y : Nat) (h : Cr.gn k (x ^^^ b) = (y ^^^ b / 2 ^ k)) : Cr.gn (k + 1) (x ^^^ b) = (Cr.rb y (b / 2 ^ k) ^^^ b / 2 ^ (k + 1)) := by
  rw [Cr.gn_succ, h, Cr.rb_step, Nat.div_div_eq_div_mul, ← Nat.pow_succ]

theorem ref_bit (b z j : Nat) : bits BinOp.xor IntKind.u32 (((b : Int) / 2 ^ j).tmod 2) ((z : Int) % 2) = (((b / 2 ^ j) % 2 ^^^ z % 2 : Nat) : Int) := by
  have h := xor32 ((b / 2 ^ j) % 2) (z % 2) (by omega) (by omega)
  rw [← h]
  have e : ((b : Int) / 2 ^ j) = ((b / 2 ^ j : Nat) : Int) := by simp
  rw [e, Int.tmod_eq_emod_of_nonneg (Int.natCast_nonneg _)]
  simp

set_option maxHeartbeats 1600000 in
set_option maxRecDepth 100000 in
theorem refOf_any (s : ByteArray) (w : World) (hs : s.size ≤ 1000000) :
    Calls Try.prog 25 #[.string s] w fun e w' => e = .returned (.int .u32 (Cr.sum s.data.toList : Nat)) ∧ w' = w := by
  go_enter Try.func25, Try.ntmps25
  go_wp2
  go_loopg [3, 4] s.size (fun gh s3 s4 wr => ∃ k y : Nat, s.size - k ≤ gh ∧ k ≤ s.size ∧ s3 = .int .u32 (y : Int) ∧ s4 = .int .i64 (k : Int) ∧ y < 4294967296 ∧ y = Cr.st 4294967295 (s.data.toList.take k) ∧ wr = w)
  case atStart => exact ⟨0, 4294967295, by omega, by omega, rfl, rfl, by omega, rfl, rfl⟩
  case round =>
    obtain ⟨k, y, hgh, hk, rfl, rfl, hy, hg, rfl⟩ := hrel
    have HG : Aside (y = Cr.st 4294967295 (s.data.toList.take k)) := hg
    clear hg
    by_cases hlt : k < s.size
    · have R : Aside (Cr.gn 8 (y ^^^ s[k].toNat) = Cr.st 4294967295 (s.data.toList.take (k + 1))) := by
        have h0 := HG.out
        show _ = _
        rw [take_snoc s k hlt, Cr.st_snoc, ← h0]
      have hb8 := s[k].toNat_lt
      go_wp2
      go_loopg [3, 5] 8 (fun g2 s3 s5 wr2 => ∃ j z : Nat, 8 - j ≤ g2 ∧ j ≤ 8 ∧ s3 = .int .u32 (z : Int) ∧ s5 = .int .i64 (j : Int) ∧ z < 4294967296 ∧ Cr.gn j (y ^^^ s[k].toNat) = (z ^^^ s[k].toNat / 2 ^ j) ∧ wr2 = wr)
      case atStart => exact ⟨0, y, by omega, by omega, rfl, rfl, hy, by simp [Cr.gn], rfl⟩
      case round =>
        obtain ⟨j, z, hg2, hj, rfl, rfl, hz, hgz, rfl⟩ := hrel
        have HZ : Aside (Cr.gn j (y ^^^ s[k].toNat) = (z ^^^ s[k].toNat / 2 ^ j)) := hgz
        clear hgz
        by_cases hjl : j < 8
        · have d1 : decide ((j : Int) < 8) = true := by simp; omega
          have hr := ref_bit s[k].toNat z j
          have hnx := rb_all y s[k].toNat j z HZ.out
          by_cases h1 : ((s[k].toNat / 2 ^ j) % 2 ^^^ z % 2) = 1
          · have d2 : (bits BinOp.xor IntKind.u32 (((s[k].toNat : Int) / 2 ^ j).tmod 2) ((z : Int) % 2) == 1) = true := by rw [hr, h1]; rfl
            have hxo : bits BinOp.xor IntKind.u32 ((z : Int) / 2) 3988292384 = ((Cr.rb z (s[k].toNat / 2 ^ j) : Nat) : Int) := by
              have := xor32 (z / 2) 3988292384 (by omega) (by decide)
              unfold Cr.rb
              rw [if_pos h1]
              simpa using this
            have HN : Aside (Cr.gn (j + 1) (y ^^^ s[k].toNat) = (Cr.rb z (s[k].toNat / 2 ^ j) ^^^ s[k].toNat / 2 ^ (j + 1))) := hnx
            clear hr hnx h1
            go_wp2_with fail
            go_roundg (8 - (j + 1))
            case measure => omega
            case rel => exact ⟨j + 1, Cr.rb z (s[k].toNat / 2 ^ j), Nat.le_refl _, by omega, by go_num, by go_num, Cr.rb_lt _ hz, HN.out, rfl⟩
          · have d2 : (bits BinOp.xor IntKind.u32 (((s[k].toNat : Int) / 2 ^ j).tmod 2) ((z : Int) % 2) == 1) = false := by
              rw [hr, beq_eq_false_iff_ne]
              omega
            have e0 : Cr.rb z (s[k].toNat / 2 ^ j) = z / 2 := by unfold Cr.rb; rw [if_neg h1]
            rw [e0] at hnx
            have HN : Aside (Cr.gn (j + 1) (y ^^^ s[k].toNat) = (z / 2 ^^^ s[k].toNat / 2 ^ (j + 1))) := hnx
            clear hr hnx h1 e0
            go_wp2_with fail
            go_roundg (8 - (j + 1))
            case measure => omega
            case rel => exact ⟨j + 1, z / 2, Nat.le_refl _, by omega, by go_num, by go_num, by omega, HN.out, rfl⟩
        · obtain rfl : j = 8 := by omega
          have e8 : z = Cr.st 4294967295 (s.data.toList.take (k + 1)) := by
            rw [← R.out, HZ.out, Nat.div_eq_of_lt hb8, Nat.xor_zero]
          have HE : Aside (z = Cr.st 4294967295 (s.data.toList.take (k + 1))) := e8
          clear e8 R HZ
          go_wp2
          go_roundg (s.size - (k + 1))
          case measure => omega
          case rel => exact ⟨k + 1, z, Nat.le_refl _, by omega, rfl, by go_num, hz, HE.out, rfl⟩
    · obtain rfl : k = s.size := by omega
      go_wp2
      go_ret
      have h0 := HG.out
      rw [List.take_of_length_le (by simp)] at h0
      exact ⟨by unfold Cr.sum; rw [← h0]; refine congrArg Ending.returned ?_; go_num, rfl⟩

theorem four_any (s : ByteArray) (w : World) (hs : s.size ≤ 1000000) :
    Calls Try.prog 22 #[.string s] w fun e w' => e = .returned (.string (sb (Cr.sum s.data.toList))) ∧ Below w.heap.size w w' := by
  have h1 := refOf_any s w hs
  have hc := conv4 w ((Cr.sum s.data.toList : Int) / 16777216) ((Cr.sum s.data.toList : Int) / 65536 % 256) ((Cr.sum s.data.toList : Int) / 256 % 256) ((Cr.sum s.data.toList : Int) % 256)
  rw [sb_nums] at hc
  have hl := Cr.sum_lt s.data.toList
  go_enter Try.func22, Try.ntmps22
  go_wp2_with (go_at_call 25; refine h1.mono ?_; rintro e w1 ⟨rfl, rfl⟩)
  go_ret
  exact ⟨rfl, (Below.refl _ _).alloc (Nat.le_refl _) _⟩
end Go.Proofs.Ytknobijonpdbbaa
