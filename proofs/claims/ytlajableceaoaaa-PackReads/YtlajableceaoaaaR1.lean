/-
  The document's reader of a number's bytes, walked.
-/
import Derived.Test.YtlajableceaoaaaB2
import Derived.Test.YtlajableceaoaaaMath3
import Derived.Test.YtlajableceaoaaaB4
import Derived.Test.YtlajableceaoaaaQ
import Derived.BigQuiet
namespace Go.Proofs.Ytlajableceaoaaa
open Go.RowKit

theorem below_drewN {w : World} (n : Nat) : Below w.heap.size w (w.drewN n) := ⟨rfl, rfl, rfl, Nat.le_refl _, fun _ _ => rfl⟩

set_option maxHeartbeats 1600000 in
set_option maxRecDepth 100000 in
theorem first_core (s : ByteArray) (w : World) (hs : s.size ≤ 1000000) (p : Nat × Nat) (HP : Hid (p = Pk.fscan s.data.toList s.data.toList 0 0)) :
    Calls Try.prog 22 #[.string s] w fun e w' => e = .returned (.tuple #[.int .i64 (p.1 : Int), .int .i64 (p.2 : Int)]) ∧ Below w.heap.size w w' := by
  go_enter Try.func22, Try.ntmps22
  go_wp2
  go_loopg [4, 5] s.size (fun gh v4 v5 wr => ∃ k m : Nat, s.size - k ≤ gh ∧ k ≤ s.size ∧ k ≤ 9 ∧ v5 = .int .i64 (k : Int) ∧ v4 = .int .i64 (m : Int) ∧ m < 128 ^ k ∧ p = Pk.fscan s.data.toList (s.data.toList.drop k) m k ∧ wr = w)
  case atStart => exact ⟨0, 0, by omega, by omega, by omega, rfl, rfl, by decide, HP.out, rfl⟩
  case round =>
    obtain ⟨k, m, hgh, hk, hk9, rfl, rfl, hm, hpk, rfl⟩ := hrel
    have HK : Hid (p = Pk.fscan s.data.toList (s.data.toList.drop k) m k ∧ m < 128 ^ k) := ⟨hpk, hm⟩
    clear hpk hm
    by_cases hlt : k < s.size
    · have d1 : decide ((k : Int) < (s.size : Int)) = true := by simpa using hlt
      by_cases h9 : k < 9
      · have d2 : decide ((k : Int) < 9) = true := by simp; omega
        have hm63 : m < 72057594037927936 := by
          have h1 := HK.out.2
          have h2 := Nat.pow_le_pow_right (n := 128) (by omega) (show k ≤ 8 by omega)
          rw [Pk.pow8] at h2
          omega
        have hcl := s[k].toNat_lt
        by_cases hc : (s[k].toNat : Int) < 128
        · by_cases h62 : 4611686018427387904 < m * 128 + s[k].toNat % 128
          · have d3 : decide (4611686018427387904 < (m : Int) * 128 + (s[k].toNat : Int) % 128) = true := by simp; omega
            go_wp2_with fail
            go_quiet (fail)
            go_wp2
            go_ret2
            have hp0 := HK.out.1
            rw [drop_cons s k hlt, Pk.fscan, if_neg (by omega), if_pos (by omega), if_pos h62] at hp0
            exact ⟨ret2_int (by rw [hp0]; rfl) (by rw [hp0]; rfl), below_drewN _⟩
          · have d3 : decide (4611686018427387904 < (m : Int) * 128 + (s[k].toNat : Int) % 128) = false := by simp; omega
            have d4 : decide ((m : Int) * 128 + (s[k].toNat : Int) % 128 < 0) = false := by simp; omega
            have K8 : Aside (∀ u, Calls Try.prog 8 #[.int .i64 ((m : Int) * 128 + (s[k].toNat : Int) % 128)] u fun e w' => e = .returned (.string ⟨(Pk.numB (m * 128 + s[k].toNat % 128)).toArray⟩) ∧ Below u.heap.size u w') := fun u => by
              have q := refNum_any (m * 128 + s[k].toNat % 128) u (by omega)
              simpa using q
            have ext : (s.extract 0 (k + 1)).toList = s.data.toList.take (k + 1) := by
              rw [ByteArray.toList_eq, ByteArray.data_extract]
              simp
            have hpd := HK.out.1
            rw [drop_cons s k hlt, Pk.fscan, if_neg (by omega), if_pos (by omega), if_neg h62] at hpd
            by_cases heq : Pk.numB (m * 128 + s[k].toNat % 128) = s.data.toList.take (k + 1)
            · have be : (Pk.numB (m * 128 + s[k].toNat % 128) == (s.extract 0 (k + 1)).toList) = true := by
                rw [ext, heq]
                exact beq_self_eq_true _
              rw [if_pos heq] at hpd
              have HD : Hid (p = (m * 128 + s[k].toNat % 128, k + 1)) := hpd
              clear hpd heq ext
              go_wp2_with fail
              have hne := later_some wr
              refine wp_region_later (by kernel_rfl) (by kernel_rfl) ?_
              repeat (go_big_quiet_step ((go_at_call 8; exact calls_later (K8.out _))))
              refine wpQuiet_nil ?_
              rintro _ ⟨q, rfl⟩
              have hq := q.bel
              clear hne
              go_wp2
              go_ret2
              exact ⟨ret2_int (by rw [HD.out]; simp) (by rw [HD.out]; simp), hq⟩
            · have be : (Pk.numB (m * 128 + s[k].toNat % 128) == (s.extract 0 (k + 1)).toList) = false := by
                rw [ext, beq_eq_false_iff_ne]
                exact heq
              rw [if_neg heq] at hpd
              have HD : Hid (p = (0, 0)) := hpd
              clear hpd heq ext
              go_wp2_with fail
              have hne := later_some wr
              refine wp_region_later (by kernel_rfl) (by kernel_rfl) ?_
              repeat (go_big_quiet_step ((go_at_call 8; exact calls_later (K8.out _))))
              refine wpQuiet_nil ?_
              rintro _ ⟨q, rfl⟩
              have hq := q.bel
              clear hne
              go_wp2
              go_ret2
              exact ⟨ret2_int (by rw [HD.out]; rfl) (by rw [HD.out]; rfl), hq⟩
        · have hpd := HK.out.1
          rw [drop_cons s k hlt, Pk.fscan, if_neg (by omega), if_neg (by omega)] at hpd
          have HD : Hid (p = Pk.fscan s.data.toList (s.data.toList.drop (k + 1)) (m * 128 + s[k].toNat % 128) (k + 1)) := hpd
          clear hpd
          go_wp2
          go_roundg (s.size - (k + 1))
          case measure => omega
          case rel => exact ⟨k + 1, m * 128 + s[k].toNat % 128, Nat.le_refl _, by omega, by omega, by go_num, by go_num, by have := HK.out.2; rw [Nat.pow_succ]; omega, HD.out, rfl⟩
      · have d2 : decide ((k : Int) < 9) = false := by simp; omega
        go_wp2
        go_ret2
        have hp0 := HK.out.1
        rw [drop_cons s k hlt, Pk.fscan, if_pos (by omega)] at hp0
        exact ⟨ret2_int (by rw [hp0]; rfl) (by rw [hp0]; rfl), Below.refl _ _⟩
    · have d1 : decide ((k : Int) < (s.size : Int)) = false := by simp; omega
      go_wp2
      go_ret2
      have hp0 := HK.out.1
      rw [List.drop_eq_nil_of_le (by simp; omega), Pk.fscan] at hp0
      exact ⟨ret2_int (by rw [hp0]; rfl) (by rw [hp0]; rfl), Below.refl _ _⟩
theorem first_any (s : ByteArray) (w : World) (hs : s.size ≤ 1000000) (p : Nat × Nat) (HP : Hid (p = Pk.headB s.data.toList)) :
    Calls Try.prog 22 #[.string s] w fun e w' => e = .returned (.tuple #[.int .i64 (p.1 : Int), .int .i64 (p.2 : Int)]) ∧ Below w.heap.size w w' :=
  first_core s w hs p (show p = _ by rw [Pk.first_head]; exact HP.out)
end Go.Proofs.Ytlajableceaoaaa
