/-
  A part's form, as the document writes it.
-/
import Derived.Test.YtkijglkjpgjdaaaDoorC12
namespace Go.Proofs.YtkijglkjpgjdaaaDoor
open Go.RowKit

theorem refHex_any (n : Nat) (w : World) (hn : n < 16) :
    Calls Tryd.prog 41 #[.int .i64 (n : Int)] w fun e w' => e = .returned (.string ⟨#[Cn.hexC n]⟩) ∧ Below w.heap.size w w' := by
  have hcv := Pa.conv_one
  by_cases h : n < 10
  · have d1 : decide ((n : Int) < 10) = true := by simp; omega
    have e : Aside (Cn.hexC n = UInt8.ofNat (48 + n)) := by show _ = _; unfold Cn.hexC; rw [if_pos h]
    go_enter Tryd.func41, Tryd.ntmps41
    go_wp2
    go_ret
    exact ⟨by rw [e.out]; simp, (Below.refl _ _).alloc (Nat.le_refl _) _⟩
  · have d1 : decide ((n : Int) < 10) = false := by simp; omega
    have e : Aside (Cn.hexC n = UInt8.ofNat (55 + n)) := by show _ = _; unfold Cn.hexC; rw [if_neg h]
    go_enter Tryd.func41, Tryd.ntmps41
    go_wp2
    go_ret
    exact ⟨by rw [e.out, show 55 + n = 65 + n - 10 by omega]; rfl, (Below.refl _ _).alloc (Nat.le_refl _) _⟩

theorem plain_ways (n : Nat) : n < 45 ∨ n = 45 ∨ n = 46 ∨ n = 47 ∨ (48 ≤ n ∧ n < 58) ∨ (58 ≤ n ∧ n < 65) ∨ (65 ≤ n ∧ n < 91) ∨ (91 ≤ n ∧ n < 95) ∨ n = 95 ∨ n = 96 ∨ (97 ≤ n ∧ n < 123) ∨ (123 ≤ n ∧ n < 126) ∨ n = 126 ∨ 127 ≤ n := by omega

theorem plain_is (b : UInt8) (n : Nat) (h : b.toNat = n) : Cn.plain b = ((decide (n = 45) || decide (n = 46) || decide (n = 95) || decide (n = 126)) || (((decide (65 ≤ n) && decide (n ≤ 90)) || (decide (97 ≤ n) && decide (n ≤ 122))) || (decide (48 ≤ n) && decide (n ≤ 57)))) := by
  subst h
  rfl

/-- What holds at each round's head. -/
def WRel (s : ByteArray) (w : World) (s3 s4 : Value) (wr : World) (k : Nat) : Prop :=
  ∃ L : List UInt8, s3 = .string ⟨L.toArray⟩ ∧ s4 = .int .i64 (k : Int) ∧ k ≤ s.size ∧ L.length ≤ 3 * k ∧ Below w.heap.size w wr ∧ L ++ Cn.writeP (s.data.toList.drop k) = Cn.writeP s.data.toList

set_option maxHeartbeats 4000000 in
set_option maxRecDepth 1000000 in
theorem refWrite_any (s : ByteArray) (w : World) (hs : s.size ≤ 100000) :
    Calls Tryd.prog 23 #[.string s] w fun e w' => e = .returned (.string ⟨(Cn.writeP s.data.toList).toArray⟩) ∧ Below w.heap.size w w' := by
  have kh : Aside (∀ (n : Nat) (u : World), n < 16 → Calls Tryd.prog 41 #[.int .i64 (n : Int)] u fun e w' => e = .returned (.string ⟨#[Cn.hexC n]⟩) ∧ Below u.heap.size u w') := fun n u h => refHex_any n u h
  go_enter Tryd.func23, Tryd.ntmps23
  go_wp2
  go_loopg [3, 4] s.size (fun gh s3 s4 wr => ∃ k : Nat, s.size - k ≤ gh ∧ WRel s w s3 s4 wr k)
  case atStart => exact ⟨0, by omega, [], rfl, rfl, by omega, by simp, Below.refl _ _, rfl⟩
  case round =>
    obtain ⟨k, hgh, L, rfl, rfl, hk, hL, hbw, hr⟩ := hrel
    have hsz := hbw.size
    have hmz := mk_size L
    by_cases hp : k < s.size
    · rw [byte_at s k hp, writeP_cons, ← List.append_assoc] at hr
      have dk : decide (k < s.size) = true := by simpa using hp
      have x0 := index_str s k hp (k : Int) rfl
      have hb := s[k].toNat_lt
      cases hc : Cn.plain s[k] with
      | true =>
        have A : Aside (L ++ [s[k]] ++ Cn.writeP (s.data.toList.drop (k + 1)) = Cn.writeP s.data.toList ∧ (ByteArray.mk L.toArray) ++ s.extract k (k + 1) = ⟨(L ++ [s[k]]).toArray⟩) := by
          refine ⟨?_, by rw [cut_one s k hp]; exact grow_one L _⟩
          rw [← hr]
          show _ = L ++ Cn.writeB s[k] ++ _
          unfold Cn.writeB
          rw [hc]
          rfl
        have hq := Si.cut_size s k (k + 1) hp
        obtain ⟨n, hn⟩ : ∃ n, s[k].toNat = n := ⟨_, rfl⟩
        rw [plain_is s[k] n hn] at hc
        rw [hn] at x0 hb
        clear hr
        rcases plain_ways n with h | h | h | h | h | h | h | h | h | h | h | h | h | h
        all_goals first
          | (exfalso; simp at hc; omega)
          | skip
        all_goals clear hc
        all_goals first | (have d1 : decide (65 ≤ (n : Int)) = true := by simp; omega) | (have d1 : decide (65 ≤ (n : Int)) = false := by simp; omega)
        all_goals first | (have d2 : decide ((n : Int) ≤ 90) = true := by simp; omega) | (have d2 : decide ((n : Int) ≤ 90) = false := by simp; omega)
        all_goals first | (have d3 : decide (97 ≤ (n : Int)) = true := by simp; omega) | (have d3 : decide (97 ≤ (n : Int)) = false := by simp; omega)
        all_goals first | (have d4 : decide ((n : Int) ≤ 122) = true := by simp; omega) | (have d4 : decide ((n : Int) ≤ 122) = false := by simp; omega)
        all_goals first | (have d5 : decide (48 ≤ (n : Int)) = true := by simp; omega) | (have d5 : decide (48 ≤ (n : Int)) = false := by simp; omega)
        all_goals first | (have d6 : decide ((n : Int) ≤ 57) = true := by simp; omega) | (have d6 : decide ((n : Int) ≤ 57) = false := by simp; omega)
        all_goals first | (have q1 : ((n : Int) == 45) = true := by simp; omega) | (have q1 : ((n : Int) == 45) = false := by simp; omega)
        all_goals first | (have q2 : ((n : Int) == 46) = true := by simp; omega) | (have q2 : ((n : Int) == 46) = false := by simp; omega)
        all_goals first | (have q3 : ((n : Int) == 95) = true := by simp; omega) | (have q3 : ((n : Int) == 95) = false := by simp; omega)
        all_goals first | (have q4 : ((n : Int) == 126) = true := by simp; omega) | (have q4 : ((n : Int) == 126) = false := by simp; omega)
        all_goals clear h
        all_goals
          go_wp2
          go_roundg (s.size - (k + 1))
          case measure => omega
          case rel => exact ⟨k + 1, Nat.le_refl _, L ++ [s[k]], by rw [← A.out.2], by go_num, by omega, by simp; omega, hbw, A.out.1⟩
      | false =>
        have hw3 : Cn.writeB s[k] = [37, Cn.hexC (s[k].toNat / 16), Cn.hexC (s[k].toNat % 16)] := by
          unfold Cn.writeB
          rw [hc]
          rfl
        rw [hw3] at hr
        have hg3 : (((ByteArray.mk L.toArray) ++ ⟨#[37]⟩) ++ ⟨#[Cn.hexC (s[k].toNat / 16)]⟩) ++ ⟨#[Cn.hexC (s[k].toNat % 16)]⟩ = ⟨(L ++ [37, Cn.hexC (s[k].toNat / 16), Cn.hexC (s[k].toNat % 16)]).toArray⟩ := by
          rw [grow_one, grow_one, grow_one]
          simp
        obtain ⟨n, hn⟩ : ∃ n, s[k].toNat = n := ⟨_, rfl⟩
        rw [plain_is s[k] n hn] at hc
        rw [hn] at x0 hb hr hg3
        obtain ⟨p, hpp⟩ : ∃ p, p = n / 16 := ⟨_, rfl⟩
        obtain ⟨q, hqq⟩ : ∃ q, q = n % 16 := ⟨_, rfl⟩
        have e1 : (n : Int) / 16 = (p : Int) := by omega
        have e2 : (n : Int) % 16 = (q : Int) := by omega
        have ka : Aside (∀ u : World, _) := fun u => kh.out p u (by omega)
        have kb : Aside (∀ u : World, _) := fun u => kh.out q u (by omega)
        rw [← hpp, ← hqq] at hr hg3
        have A : Aside (L ++ [37, Cn.hexC p, Cn.hexC q] ++ Cn.writeP (s.data.toList.drop (k + 1)) = Cn.writeP s.data.toList ∧ (((ByteArray.mk L.toArray) ++ ⟨#[37]⟩) ++ ⟨#[Cn.hexC p]⟩) ++ ⟨#[Cn.hexC q]⟩ = ⟨(L ++ [37, Cn.hexC p, Cn.hexC q]).toArray⟩) := ⟨hr, hg3⟩
        clear hr hg3 hw3 hpp hqq kh
        generalize Cn.hexC p = cp at *
        generalize Cn.hexC q = cq at *
        rcases plain_ways n with h | h | h | h | h | h | h | h | h | h | h | h | h | h
        all_goals first
          | (exfalso; simp at hc; omega)
          | skip
        all_goals clear hc
        all_goals first | (have d1 : decide (65 ≤ (n : Int)) = true := by simp; omega) | (have d1 : decide (65 ≤ (n : Int)) = false := by simp; omega)
        all_goals first | (have d2 : decide ((n : Int) ≤ 90) = true := by simp; omega) | (have d2 : decide ((n : Int) ≤ 90) = false := by simp; omega)
        all_goals first | (have d3 : decide (97 ≤ (n : Int)) = true := by simp; omega) | (have d3 : decide (97 ≤ (n : Int)) = false := by simp; omega)
        all_goals first | (have d4 : decide ((n : Int) ≤ 122) = true := by simp; omega) | (have d4 : decide ((n : Int) ≤ 122) = false := by simp; omega)
        all_goals first | (have d5 : decide (48 ≤ (n : Int)) = true := by simp; omega) | (have d5 : decide (48 ≤ (n : Int)) = false := by simp; omega)
        all_goals first | (have d6 : decide ((n : Int) ≤ 57) = true := by simp; omega) | (have d6 : decide ((n : Int) ≤ 57) = false := by simp; omega)
        all_goals first | (have q1 : ((n : Int) == 45) = true := by simp; omega) | (have q1 : ((n : Int) == 45) = false := by simp; omega)
        all_goals first | (have q2 : ((n : Int) == 46) = true := by simp; omega) | (have q2 : ((n : Int) == 46) = false := by simp; omega)
        all_goals first | (have q3 : ((n : Int) == 95) = true := by simp; omega) | (have q3 : ((n : Int) == 95) = false := by simp; omega)
        all_goals first | (have q4 : ((n : Int) == 126) = true := by simp; omega) | (have q4 : ((n : Int) == 126) = false := by simp; omega)
        all_goals clear h
        all_goals
          go_wp2_with (go_at_call 41; first | (refine (ka.out _).mono ?_; rintro e w1 ⟨rfl, hb1⟩; clear ka) | (refine (kb.out _).mono ?_; rintro e w2 ⟨rfl, hb2⟩))
          go_roundg (s.size - (k + 1))
          case measure => omega
          case rel =>
            have b1 := hbw.trans (hb1.mono hsz)
            exact ⟨k + 1, Nat.le_refl _, L ++ [37, cp, cq], by rw [← A.out.2], by go_num, by omega, by simp; omega, b1.trans (hb2.mono b1.size), A.out.1⟩
    · obtain rfl : k = s.size := by omega
      have hd : s.data.toList.drop s.size = [] := List.drop_eq_nil_of_le (Nat.le_refl _)
      rw [hd] at hr
      have hr2 : L = Cn.writeP s.data.toList := by rw [← hr]; show L = L ++ []; rw [List.append_nil]
      have dk : decide (s.size < s.size) = false := by simp
      have A : Aside (L = Cn.writeP s.data.toList) := hr2
      clear hr hd hr2
      go_wp2
      go_ret
      exact ⟨by rw [A.out]; rfl, hbw⟩
end Go.Proofs.YtkijglkjpgjdaaaDoor
