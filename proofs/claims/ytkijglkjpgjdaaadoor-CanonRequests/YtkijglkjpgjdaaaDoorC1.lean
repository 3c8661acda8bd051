/-
  Single bytes and signs: letters, digits, what stands as it is, what a digit stands for; as the program and the document tell them.
-/
import Derived.Test.YtkijglkjpgjdaaaDoorCMath
import Derived.Test.YtkijglkjpgjdaaaDoorSA1
import Derived.WalkKit
import Derived.WalkSpells
import Derived.WalkLawsBesides
import Derived.Outline
import Derived.BigRegion
import Derived.Deep.LoopGhost
import Derived.BigQuiet
namespace Go.Proofs.YtkijglkjpgjdaaaDoor
open Go.RowKit

theorem tell (a b : Bool) (w : World) (h : a = true ↔ b = true) : (Ending.returned (.bool a) = Ending.returned (.bool b)) ∧ w = w := by
  have e : a = b := Bool.eq_iff_iff.2 h
  rw [e]
  exact ⟨rfl, rfl⟩

theorem ret_int {a b : Int} (h : a = b) : Ending.returned (.int .i64 a) = Ending.returned (.int .i64 b) := by rw [h]

theorem isLetter_any (b : UInt8) (w : World) :
    Calls Tryd.prog 24 #[.int .u8 (b.toNat : Int)] w fun e w' => e = .returned (.bool (Cn.letter b)) ∧ w' = w := by
  have hb := b.toNat_lt
  obtain ⟨n, hn⟩ : ∃ n, n = b.toNat := ⟨_, rfl⟩
  unfold Cn.letter
  rw [← hn] at hb ⊢
  go_enter Tryd.func24, Tryd.ntmps24
  go_wp2
  all_goals (go_ret; refine tell _ _ _ ?_; simp <;> omega)

theorem isDigit_any (b : UInt8) (w : World) :
    Calls Tryd.prog 85 #[.int .u8 (b.toNat : Int)] w fun e w' => e = .returned (.bool (Cn.digit b)) ∧ w' = w := by
  have hb := b.toNat_lt
  obtain ⟨n, hn⟩ : ∃ n, n = b.toNat := ⟨_, rfl⟩
  unfold Cn.digit
  rw [← hn] at hb ⊢
  go_enter Tryd.func85, Tryd.ntmps85
  go_wp2
  all_goals (go_ret; refine tell _ _ _ ?_; simp <;> omega)

theorem isPlain_any (b : UInt8) (w : World) :
    Calls Tryd.prog 64 #[.int .u8 (b.toNat : Int)] w fun e w' => e = .returned (.bool (Cn.plain b)) ∧ w' = w := by
  have hb := b.toNat_lt
  have k1 := isLetter_any b
  have k2 := isDigit_any b
  unfold Cn.plain
  generalize Cn.letter b = L at *
  generalize Cn.digit b = D at *
  generalize b.toNat = n at *
  go_enter Tryd.func64, Tryd.ntmps64
  go_wp2_with (first
    | (go_at_call 24; refine (k1 _).mono ?_; rintro e w1 ⟨rfl, rfl⟩)
    | (go_at_call 85; refine (k2 _).mono ?_; rintro e w1 ⟨rfl, rfl⟩))
  all_goals (go_ret; refine tell _ _ _ ?_; clear k1 k2; simp_all <;> omega)

theorem hexValue_any (b : UInt8) (w : World) :
    Calls Tryd.prog 84 #[.int .u8 (b.toNat : Int)] w fun e w' => e = .returned (.int .i64 (Cn.hexV b)) ∧ w' = w := by
  have hb := b.toNat_lt
  have k2 := isDigit_any b
  unfold Cn.hexV
  unfold Cn.digit at k2
  generalize b.toNat = n at *
  by_cases h1 : 48 ≤ n ∧ n ≤ 57
  · rw [if_pos h1]
    rw [show (decide (48 ≤ n) && decide (n ≤ 57)) = true by simp; omega] at k2
    go_enter Tryd.func84, Tryd.ntmps84
    go_wp2_with (go_at_call 85; refine (k2 _).mono ?_; rintro e w1 ⟨rfl, rfl⟩)
    go_ret
    exact ⟨ret_int (by omega), rfl⟩
  · rw [if_neg h1]
    rw [show (decide (48 ≤ n) && decide (n ≤ 57)) = false by simp; omega] at k2
    by_cases h2 : 65 ≤ n ∧ n ≤ 70
    · rw [if_pos h2]
      have d1 : decide (65 ≤ (n : Int)) = true := by simp; omega
      have d2 : decide ((n : Int) ≤ 70) = true := by simp; omega
      go_enter Tryd.func84, Tryd.ntmps84
      go_wp2_with (go_at_call 85; refine (k2 _).mono ?_; rintro e w1 ⟨rfl, rfl⟩)
      go_ret
      exact ⟨ret_int (by omega), rfl⟩
    · rw [if_neg h2]
      by_cases h3 : 97 ≤ n ∧ n ≤ 102
      · rw [if_pos h3]
        go_enter Tryd.func84, Tryd.ntmps84
        go_wp2_with (go_at_call 85; refine (k2 _).mono ?_; rintro e w1 ⟨rfl, rfl⟩)
        all_goals first
          | (exfalso; simp_all <;> omega)
          | (go_ret; exact ⟨ret_int (by omega), rfl⟩)
      · rw [if_neg h3]
        go_enter Tryd.func84, Tryd.ntmps84
        go_wp2_with (go_at_call 85; refine (k2 _).mono ?_; rintro e w1 ⟨rfl, rfl⟩)
        all_goals first
          | (exfalso; simp_all <;> omega)
          | (go_ret; exact ⟨rfl, rfl⟩)

theorem digitRef_any (b : UInt8) (w : World) :
    Calls Tryd.prog 39 #[.int .u8 (b.toNat : Int)] w fun e w' => e = .returned (.int .i64 (Cn.hexV b)) ∧ w' = w := by
  have hb := b.toNat_lt
  unfold Cn.hexV
  generalize b.toNat = n at *
  go_enter Tryd.func39, Tryd.ntmps39
  go_wp2
  all_goals (go_ret; refine ⟨ret_int ?_, rfl⟩; repeat' split)
  all_goals (simp_all <;> omega)

theorem within_any (n m : Int) (w : World) :
    Calls Tryd.prog 60 #[.int .i64 n, .int .i64 m] w fun e w' => e = .returned (.bool (decide (0 ≤ n) && decide (n ≤ m))) ∧ w' = w := by
  go_enter Tryd.func60, Tryd.ntmps60
  go_wp2
  all_goals (go_ret; simp_all <;> omega)

/-- May a key have it? -/
def keySign (r : Int) : Bool := decide (r = 45) || decide (r = 95) || decide (r = 46) || decide (Si.sort r = 2) || decide (Si.sort r = 3)

theorem isKeySign_any (r : Int) (w : World) :
    Calls Tryd.prog 26 #[.int .i32 r] w fun e w' => e = .returned (.bool (keySign r)) ∧ w' = w := by
  have k1 := Si.sort_any r
  unfold keySign
  generalize Si.sort r = z at *
  go_enter Tryd.func26, Tryd.ntmps26
  go_wp2_with (go_at_call 48; refine (k1 _).mono ?_; rintro e w1 ⟨rfl, rfl⟩)
  all_goals (go_ret; refine tell _ _ _ ?_; clear k1; simp_all)
end Go.Proofs.YtkijglkjpgjdaaaDoor
