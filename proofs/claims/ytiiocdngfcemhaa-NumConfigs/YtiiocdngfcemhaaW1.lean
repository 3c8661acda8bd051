/-
  Contracts of num's calls on plain numbers, and of the document's.
-/
import Derived.Test.YtiiocdngfcemhaaRows
import Derived.WalkKit
import Derived.WalkSpells
import Derived.WalkLawsBesides
namespace Go.Proofs.Ytiiocdngfcemhaa
open Go.RowKit

/-- Brought between two numbers. -/
def bd (n lo hi : Int) : Int := if n < lo then lo else if hi < n then hi else n

theorem refBring_any (n lo hi : Int) (w : World) :
    Calls Try.prog 17 #[.int .i64 n, .int .i64 lo, .int .i64 hi] w fun e w' => e = .returned (.int .i64 (bd n lo hi)) ∧ w' = w := by
  unfold bd
  by_cases h1 : n < lo
  · go_enter Try.func17, Try.ntmps17
    go_wp2
    go_ret
    exact ⟨rfl, rfl⟩
  · by_cases h2 : hi < n
    · go_enter Try.func17, Try.ntmps17
      go_wp2
      go_ret
      exact ⟨rfl, rfl⟩
    · go_enter Try.func17, Try.ntmps17
      go_wp2
      go_ret
      exact ⟨rfl, rfl⟩

theorem bring_any (n lo hi : Int) (w : World) (h : lo ≤ hi) :
    Calls Try.prog 19 #[.int .i64 n, .int .i64 lo, .int .i64 hi] w fun e w' => e = .returned (.int .i64 (bd n lo hi)) ∧ w' = w := by
  unfold bd
  by_cases h1 : n < lo
  · go_enter Try.func19, Try.ntmps19
    go_wp2
    go_ret
    exact ⟨rfl, rfl⟩
  · by_cases h2 : hi < n
    · go_enter Try.func19, Try.ntmps19
      go_wp2
      go_ret
      exact ⟨rfl, rfl⟩
    · go_enter Try.func19, Try.ntmps19
      go_wp2
      go_ret
      exact ⟨rfl, rfl⟩

/-- Brought to a time, to a number. -/
def tm (n : Int) : Int := bd n 0 1099511627776
def nm (n : Int) : Int := bd n 0 1073741824

theorem tm_le (n : Int) : 0 ≤ tm n ∧ tm n ≤ 1099511627776 := by
  unfold tm bd
  split
  · omega
  · split <;> omega
theorem nm_le (n : Int) : 0 ≤ nm n ∧ nm n ≤ 1073741824 := by
  unfold nm bd
  split
  · omega
  · split <;> omega
theorem tm_same {n : Int} (h0 : 0 ≤ n) (h1 : n ≤ 1099511627776) : tm n = n := by
  unfold tm bd
  rw [if_neg (by omega), if_neg (by omega)]
theorem nm_same {n : Int} (h0 : 0 ≤ n) (h1 : n ≤ 1073741824) : nm n = n := by
  unfold nm bd
  rw [if_neg (by omega), if_neg (by omega)]
theorem tm_far {n : Int} (h1 : 1099511627776 ≤ n) : tm n = 1099511627776 := by
  unfold tm bd
  rw [if_neg (by omega)]
  split <;> omega

theorem refTime_any (n : Int) (w : World) :
    Calls Try.prog 7 #[.int .i64 n] w fun e w' => e = .returned (.int .i64 (tm n)) ∧ w' = w := by
  go_enter Try.func7, Try.ntmps7
  go_wp2_with (go_at_call 17; refine (refBring_any _ _ _ _).mono ?_; rintro e w1 ⟨rfl, rfl⟩)
  go_ret
  exact ⟨rfl, rfl⟩

theorem refNumber_any (n : Int) (w : World) :
    Calls Try.prog 10 #[.int .i64 n] w fun e w' => e = .returned (.int .i64 (nm n)) ∧ w' = w := by
  go_enter Try.func10, Try.ntmps10
  go_wp2_with (go_at_call 17; refine (refBring_any _ _ _ _).mono ?_; rintro e w1 ⟨rfl, rfl⟩)
  go_ret
  exact ⟨rfl, rfl⟩

theorem time_any (n : Int) (w : World) :
    Calls Try.prog 9 #[.int .i64 n] w fun e w' => e = .returned (.int .i64 (tm n)) ∧ w' = w := by
  go_enter Try.func9, Try.ntmps9
  go_wp2_with (go_at_call 19; refine (bring_any _ _ _ _ (by decide)).mono ?_; rintro e w1 ⟨rfl, rfl⟩)
  go_ret
  exact ⟨rfl, rfl⟩

theorem number_any (n : Int) (w : World) :
    Calls Try.prog 18 #[.int .i64 n] w fun e w' => e = .returned (.int .i64 (nm n)) ∧ w' = w := by
  go_enter Try.func18, Try.ntmps18
  go_wp2_with (go_at_call 19; refine (bring_any _ _ _ _ (by decide)).mono ?_; rintro e w1 ⟨rfl, rfl⟩)
  go_ret
  exact ⟨rfl, rfl⟩

theorem wraps_i64 (n : Int) (h₀ : -9223372036854775808 ≤ n) (h₁ : n < 9223372036854775808) : IntKind.i64.wrap n = n := by
  rw [IntKind.wrap_i64]
  omega

/-- The time that is a span behind a time. -/
def plus (a b : Int) : Int := tm (tm a + nm b)
/-- How long it is from one time until another. -/
def left (a b : Int) : Int := if tm b - tm a < 0 then 0 else tm b - tm a

theorem plus_any (a b : Int) (w : World) :
    Calls Try.prog 8 #[.int .i64 a, .int .i64 b] w fun e w' => e = .returned (.int .i64 (plus a b)) ∧ w' = w := by
  have h1 := tm_le a
  have h2 := nm_le b
  have hw : IntKind.i64.wrap (tm a + nm b) = tm a + nm b := wraps_i64 _ (by omega) (by omega)
  unfold plus
  go_enter Try.func8, Try.ntmps8
  go_wp2_with (first
    | (go_at_call 9; refine (time_any _ _).mono ?_; rintro e w1 ⟨rfl, rfl⟩)
    | (go_at_call 18; refine (number_any _ _).mono ?_; rintro e w1 ⟨rfl, rfl⟩))
  go_ret
  exact ⟨by first | rfl | rw [hw], rfl⟩

theorem left_any (a b : Int) (w : World) :
    Calls Try.prog 11 #[.int .i64 a, .int .i64 b] w fun e w' => e = .returned (.int .i64 (left a b)) ∧ w' = w := by
  have h1 := tm_le a
  have h2 := tm_le b
  have hw : IntKind.i64.wrap (tm b - tm a) = tm b - tm a := wraps_i64 _ (by omega) (by omega)
  unfold left
  by_cases h : tm b - tm a < 0
  · rw [if_pos h]
    go_enter Try.func11, Try.ntmps11
    go_wp2_with (go_at_call 9; refine (time_any _ _).mono ?_; rintro e w1 ⟨rfl, rfl⟩)
    go_ret
    exact ⟨rfl, rfl⟩
  · rw [if_neg h]
    go_enter Try.func11, Try.ntmps11
    go_wp2_with (go_at_call 9; refine (time_any _ _).mono ?_; rintro e w1 ⟨rfl, rfl⟩)
    go_ret
    exact ⟨rfl, rfl⟩

theorem past_any (a b : Int) (w : World) :
    Calls Try.prog 12 #[.int .i64 a, .int .i64 b] w fun e w' => e = .returned (.bool (decide (tm b ≤ tm a))) ∧ w' = w := by
  go_enter Try.func12, Try.ntmps12
  go_wp2_with (go_at_call 9; refine (time_any _ _).mono ?_; rintro e w1 ⟨rfl, rfl⟩)
  go_ret
  exact ⟨rfl, rfl⟩

theorem next_any (n : Int) (w : World) :
    Calls Try.prog 13 #[.int .i64 n] w fun e w' => e = .returned (if 1073741824 ≤ n then .tuple #[.int .i64 0, .int .i64 10] else if n < 0 then .tuple #[.int .i64 0, .int .i64 1] else .tuple #[.int .i64 (n + 1), .int .i64 0]) ∧ w' = w := by
  by_cases h1 : 1073741824 ≤ n
  · rw [if_pos h1]
    go_enter Try.func13, Try.ntmps13
    go_wp2
    go_ret2
    exact ⟨rfl, rfl⟩
  · rw [if_neg h1]
    by_cases h2 : n < 0
    · rw [if_pos h2]
      go_enter Try.func13, Try.ntmps13
      go_wp2
      go_ret2
      exact ⟨rfl, rfl⟩
    · rw [if_neg h2]
      have hw : IntKind.i64.wrap (n + 1) = n + 1 := wraps_i64 _ (by omega) (by omega)
      go_enter Try.func13, Try.ntmps13
      go_wp2
      go_ret2
      exact ⟨rfl, rfl⟩
end Go.Proofs.Ytiiocdngfcemhaa
