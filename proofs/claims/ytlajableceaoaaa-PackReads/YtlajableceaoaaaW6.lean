/-
  The program's reader of a number's bytes.
-/
import Derived.Test.YtlajableceaoaaaW4
import Derived.Test.YtlajableceaoaaaMath2
namespace Go.Proofs.Ytlajableceaoaaa
open Go.RowKit

theorem u8and127 (x : Int) (h₀ : 0 ≤ x) (h₁ : x < 256) : bits BinOp.and IntKind.u8 x 127 = x % 128 := by
  have e := bits_mask .u8 8 (by decide) wraps_u8 7 (by decide) x h₀ (by omega)
  simpa using e

theorem i64join (x y : Int) (h₀ : 0 ≤ x) (h₁ : x ≤ 36028797018963968) (h₂ : 0 ≤ y) (h₃ : y < 128) : bits BinOp.or IntKind.i64 (x * 128) y = x * 128 + y :=
  bits_join .i64 63 (by decide) wraps_i64 7 (x * 128) y (by omega) (by omega) (by omega) (by omega) (by omega) (by omega)

theorem drop_cons (s : ByteArray) (k : Nat) (h : k < s.size) : s.data.toList.drop k = s[k] :: s.data.toList.drop (k + 1) := by
  rw [List.drop_eq_getElem_cons (by simpa using h)]
  rfl

theorem scan_a (s : ByteArray) (k m : Nat) (h : k < s.size) (h1 : 36028797018963968 < m) : Pk.scan (s.data.toList.drop k) m k = (0, 0) := by
  rw [drop_cons s k h, Pk.scan, if_pos h1]
theorem scan_b (s : ByteArray) (k m : Nat) (h : k < s.size) (h1 : m ≤ 36028797018963968) (h2 : 4611686018427387904 < (m : Int) * 128 + (s[k].toNat : Int) % 128) : Pk.scan (s.data.toList.drop k) m k = (0, 0) := by
  rw [drop_cons s k h, Pk.scan, if_neg (by omega), if_pos (by omega)]
theorem scan_c (s : ByteArray) (k m : Nat) (h : k < s.size) (h1 : m ≤ 36028797018963968) (h2 : (m : Int) * 128 + (s[k].toNat : Int) % 128 ≤ 4611686018427387904) (h3 : (s[k].toNat : Int) < 128) :
    Pk.scan (s.data.toList.drop k) m k = (m * 128 + s[k].toNat % 128, k + 1) := by
  rw [drop_cons s k h, Pk.scan, if_neg (by omega), if_neg (by omega), if_pos (by omega)]
theorem scan_d (s : ByteArray) (k m : Nat) (h : k < s.size) (h1 : m ≤ 36028797018963968) (h2 : (m : Int) * 128 + (s[k].toNat : Int) % 128 ≤ 4611686018427387904) (h3 : 128 ≤ (s[k].toNat : Int)) :
    Pk.scan (s.data.toList.drop k) m k = Pk.scan (s.data.toList.drop (k + 1)) (m * 128 + s[k].toNat % 128) (k + 1) := by
  rw [drop_cons s k h, Pk.scan, if_neg (by omega), if_neg (by omega), if_neg (by omega)]

theorem ret2_int {a b c d : Int} (h : a = c) (h' : b = d) : Ending.returned (.tuple #[.int .i64 a, .int .i64 b]) = .returned (.tuple #[.int .i64 c, .int .i64 d]) := by rw [h, h']

set_option maxHeartbeats 1600000 in
set_option maxRecDepth 100000 in
theorem headNum_core (s : ByteArray) (w : World) (hs : s.size ≤ 1000000) (hp : 0 < s.size) (he : s.toList.isEmpty = false) (hne : (((s[0]'hp).toNat : Int) == 128) = false) (p : Nat × Nat) (HP : Hid (p = Pk.scan s.data.toList 0 0)) :
    Calls Try.prog 26 #[.string s] w fun e w' => e = .returned (.tuple #[.int .i64 (p.1 : Int), .int .i64 (p.2 : Int)]) ∧ w' = w := by
  go_enter Try.func26, Try.ntmps26
  go_wp2
  go_loop [2, 14] (fun n i => ∃ k m : Nat, k ≤ s.size ∧ i = .int .i64 (k : Int) ∧ n = .int .i64 (m : Int) ∧ m ≤ 4611686018427387904 ∧ p = Pk.scan (s.data.toList.drop k) m k) (fun _ i => s.size - (intOf i).toNat)
  case atStart => exact ⟨0, 0, by omega, rfl, rfl, by omega, HP.out⟩
  case round =>
    obtain ⟨k, m, hk, rfl, rfl, hm, hpk⟩ := hrel
    have HK : Hid (p = Pk.scan (s.data.toList.drop k) m k) := hpk
    clear hpk
    by_cases hlt : k < s.size
    · by_cases h1 : 36028797018963968 < m
      · go_wp2
        go_ret2
        have hp0 := HK.out.trans (scan_a s k m hlt h1)
        exact ⟨ret2_int (by rw [hp0]; rfl) (by rw [hp0]; rfl), rfl⟩
      · have e1 := u8and127 (s[k].toNat : Int) (by omega) (by have := s[k].toNat_lt; omega)
        have e2 := i64join (m : Int) ((s[k].toNat : Int) % 128) (by omega) (by omega) (by omega) (by omega)
        go_wp2
        · go_ret2
          have hp0 := HK.out.trans (scan_b s k m hlt (by omega) (by assumption))
          exact ⟨ret2_int (by rw [hp0]; rfl) (by rw [hp0]; rfl), rfl⟩
        · go_ret2
          have hp0 := HK.out.trans (scan_c s k m hlt (by omega) (by assumption) (by assumption))
          exact ⟨ret2_int (by rw [hp0]; simp) (by rw [hp0]; simp), rfl⟩
        · go_round
          case rel =>
            have hp0 := HK.out.trans (scan_d s k m hlt (by omega) (by assumption) (by assumption))
            exact ⟨k + 1, m * 128 + s[k].toNat % 128, by omega, by go_num, by go_num, by omega, hp0⟩
          case measure => simp [intOf]; omega
    · go_wp2
      go_ret2
      have hp0 := HK.out
      rw [List.drop_eq_nil_of_le (by simp; omega), Pk.scan] at hp0
      exact ⟨ret2_int (by rw [hp0]; rfl) (by rw [hp0]; rfl), rfl⟩

set_option maxHeartbeats 1600000 in
set_option maxRecDepth 100000 in
theorem headNum_empty (w : World) :
    Calls Try.prog 26 #[.string ⟨#[]⟩] w fun e w' => e = .returned (.tuple #[.int .i64 0, .int .i64 0]) ∧ w' = w := by
  go_enter Try.func26, Try.ntmps26
  go_wp2
  refine wp_loop_rounds 1 ?_
  rw [rounds_succ]
  go_wp2
  go_ret2
  exact ⟨rfl, rfl⟩

set_option maxHeartbeats 1600000 in
set_option maxRecDepth 100000 in
theorem headNum_128 (s : ByteArray) (w : World) (hp : 0 < s.size) (he : s.toList.isEmpty = false) (hne : (((s[0]'hp).toNat : Int) == 128) = true) :
    Calls Try.prog 26 #[.string s] w fun e w' => e = .returned (.tuple #[.int .i64 0, .int .i64 0]) ∧ w' = w := by
  go_enter Try.func26, Try.ntmps26
  go_wp2
  go_ret2
  exact ⟨rfl, rfl⟩

theorem headNum_any (s : ByteArray) (w : World) (hs : s.size ≤ 1000000) (p : Nat × Nat) (HP : Hid (p = Pk.headB s.data.toList)) :
    Calls Try.prog 26 #[.string s] w fun e w' => e = .returned (.tuple #[.int .i64 (p.1 : Int), .int .i64 (p.2 : Int)]) ∧ w' = w := by
  rcases Nat.eq_zero_or_pos s.size with h0 | hp
  · obtain rfl : s = ⟨#[]⟩ := by
      cases s with
      | mk d => exact congrArg ByteArray.mk (Array.eq_empty_of_size_eq_zero h0)
    obtain rfl : p = (0, 0) := HP.out
    exact headNum_empty w
  · have e0 : s.data.toList = s[0] :: s.data.toList.drop 1 := by simpa using drop_cons s 0 hp
    have he : s.toList.isEmpty = false := by rw [ByteArray.toList_eq, e0]; rfl
    by_cases h128 : s[0] = 128
    · obtain rfl : p = (0, 0) := by rw [HP.out, e0, Pk.headB, h128]; rfl
      exact headNum_128 s w hp he (by rw [h128]; rfl)
    · refine headNum_core s w hs hp he ?_ p ?_
      · rw [beq_eq_false_iff_ne]
        intro h
        apply h128
        rw [← UInt8.toNat_inj]
        exact Int.ofNat.inj h
      · show p = _
        rw [HP.out, Pk.headB, if_neg]
        rw [e0]
        simpa using h128
end Go.Proofs.Ytlajableceaoaaa
