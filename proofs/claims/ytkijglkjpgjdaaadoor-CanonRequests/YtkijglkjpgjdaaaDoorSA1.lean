/-
  The sort of a sign: of any number, as the program tells it, and as the document does: the same.
-/
import Derived.Test.YtkijglkjpgjdaaaDoorSV
import Derived.WalkKit
import Derived.WalkSpells
import Derived.WalkLawsBesides
import Derived.Outline
import Derived.BigRegion
import Derived.Deep.LoopGhost
import Derived.BigQuiet
namespace Go.Proofs.YtkijglkjpgjdaaaDoor.Si
open Go.RowKit

/-- Controls, blanks, digits, letters. -/
def ctl (r : Int) : Prop := r < 32 ∨ (127 ≤ r ∧ r ≤ 159) ∨ r = 65533 ∨ 1114111 < r ∨ (55296 ≤ r ∧ r ≤ 57343)
def blk (r : Int) : Prop := r = 32 ∨ r = 160 ∨ (8192 ≤ r ∧ r ≤ 8202) ∨ r = 12288
def dig (r : Int) : Prop := 48 ≤ r ∧ r ≤ 57
def ltr (r : Int) : Prop := (65 ≤ r ∧ r ≤ 90) ∨ (97 ≤ r ∧ r ≤ 122) ∨ (192 ≤ r ∧ r ≤ 591 ∧ r ≠ 215 ∧ r ≠ 247) ∨ (913 ≤ r ∧ r ≤ 969 ∧ r ≠ 930)
instance (r : Int) : Decidable (ctl r) := by unfold ctl; infer_instance
instance (r : Int) : Decidable (blk r) := by unfold blk; infer_instance
instance (r : Int) : Decidable (dig r) := by unfold dig; infer_instance
instance (r : Int) : Decidable (ltr r) := by unfold ltr; infer_instance

/-- The sort of any number. -/
def sort (r : Int) : Int := if ctl r then 0 else if blk r then 1 else if dig r then 2 else if ltr r then 3 else 4

theorem tells (a : Bool) (p : Prop) [Decidable p] (w : World) (h : a = true ↔ p) : (Ending.returned (.bool a) = Ending.returned (.bool (decide p))) ∧ w = w := by
  have e : a = decide p := by
    rw [Bool.eq_iff_iff, h, decide_eq_true_eq]
  rw [e]
  exact ⟨rfl, rfl⟩

theorem within_any (r a b : Int) (w : World) :
    Calls Tryd.prog 74 #[.int .i32 r, .int .i32 a, .int .i32 b] w fun e w' => e = .returned (.bool (decide (a ≤ r) && decide (r ≤ b))) ∧ w' = w := by
  go_enter Tryd.func74, Tryd.ntmps74
  go_wp2
  all_goals (go_ret; simp_all <;> omega)

theorem isBlank_any (r : Int) (w : World) :
    Calls Tryd.prog 73 #[.int .i32 r] w fun e w' => e = .returned (.bool (decide (blk r))) ∧ w' = w := by
  have k := within_any r 8192 8202
  go_enter Tryd.func73, Tryd.ntmps73
  go_wp2_with (go_at_call 74; refine (k _).mono ?_; rintro e w1 ⟨rfl, rfl⟩)
  all_goals (go_ret; refine tells _ _ _ ?_; simp [blk] <;> omega)

theorem isControl_any (r : Int) (w : World) :
    Calls Tryd.prog 72 #[.int .i32 r] w fun e w' => e = .returned (.bool (decide (ctl r))) ∧ w' = w := by
  have k := within_any r 127 159
  have k2 := validRune_call r
  go_enter Tryd.func72, Tryd.ntmps72
  go_wp2_with (first
    | (go_at_call 74; refine (k _).mono ?_; rintro e w1 ⟨rfl, rfl⟩)
    | (go_at_call 91; refine (k2 _).mono ?_; rintro e w1 ⟨rfl, rfl⟩))
  all_goals (go_ret; refine tells _ _ _ ?_; simp [ctl, Lib.validRune] <;> omega)

theorem isLetter_any (r : Int) (w : World) :
    Calls Tryd.prog 75 #[.int .i32 r] w fun e w' => e = .returned (.bool (decide (ltr r))) ∧ w' = w := by
  have k := within_any r
  go_enter Tryd.func75, Tryd.ntmps75
  go_wp2_with (go_at_call 74; refine (k _ _ _).mono ?_; rintro e w1 ⟨rfl, rfl⟩)
  all_goals (go_ret; refine tells _ _ _ ?_; clear k; try simp only [beq_iff_eq, beq_eq_false_iff_ne] at *; simp [ltr] <;> omega)

theorem sort_any (r : Int) (w : World) :
    Calls Tryd.prog 48 #[.int .i32 r] w fun e w' => e = .returned (.int .i64 (sort r)) ∧ w' = w := by
  have k1 := isControl_any r
  have k2 := isBlank_any r
  have k3 := within_any r 48 57
  have k4 := isLetter_any r
  go_enter Tryd.func48, Tryd.ntmps48
  go_wp2_with (first
    | (go_at_call 72; refine (k1 _).mono ?_; rintro e w1 ⟨rfl, rfl⟩)
    | (go_at_call 73; refine (k2 _).mono ?_; rintro e w1 ⟨rfl, rfl⟩)
    | (go_at_call 74; refine (k3 _).mono ?_; rintro e w1 ⟨rfl, rfl⟩)
    | (go_at_call 75; refine (k4 _).mono ?_; rintro e w1 ⟨rfl, rfl⟩))
  all_goals (go_ret; refine ⟨?_, rfl⟩; simp_all [sort, dig])
  all_goals omega

theorem sort_ways (r : Int) : r < 32 ∨ r = 32 ∨ (33 ≤ r ∧ r < 48) ∨ (48 ≤ r ∧ r < 58) ∨ (58 ≤ r ∧ r < 65) ∨ (65 ≤ r ∧ r < 91) ∨ (91 ≤ r ∧ r < 97) ∨ (97 ≤ r ∧ r < 123) ∨ (123 ≤ r ∧ r < 127) ∨ (127 ≤ r ∧ r < 160) ∨ r = 160 ∨ (161 ≤ r ∧ r < 192) ∨ (192 ≤ r ∧ r < 215) ∨ r = 215 ∨ (216 ≤ r ∧ r < 247) ∨ r = 247 ∨ (248 ≤ r ∧ r < 592) ∨ (592 ≤ r ∧ r < 913) ∨ (913 ≤ r ∧ r < 930) ∨ r = 930 ∨ (931 ≤ r ∧ r < 970) ∨ (970 ≤ r ∧ r < 8192) ∨ (8192 ≤ r ∧ r < 8203) ∨ (8203 ≤ r ∧ r < 12288) ∨ r = 12288 ∨ (12289 ≤ r ∧ r < 55296) ∨ (55296 ≤ r ∧ r < 57344) ∨ (57344 ≤ r ∧ r < 65533) ∨ r = 65533 ∨ (65534 ≤ r ∧ r < 1114112) ∨ 1114112 ≤ r := by omega

set_option maxHeartbeats 4000000 in
theorem refSort_any (r : Int) (w : World) :
    Calls Tryd.prog 28 #[.int .i64 r] w fun e w' => e = .returned (.int .i64 (sort r)) ∧ w' = w := by
  rcases sort_ways r with h | h | h | h | h | h | h | h | h | h | h | h | h | h | h | h | h | h | h | h | h | h | h | h | h | h | h | h | h | h | h
  all_goals first | (have d0 : decide (r < 32) = true := by simp; omega) | (have d0 : decide (r < 32) = false := by simp; omega)
  all_goals first | (have d1 : decide (127 ≤ r) = true := by simp; omega) | (have d1 : decide (127 ≤ r) = false := by simp; omega)
  all_goals first | (have d2 : decide (r ≤ 159) = true := by simp; omega) | (have d2 : decide (r ≤ 159) = false := by simp; omega)
  all_goals first | (have d3 : decide (1114111 < r) = true := by simp; omega) | (have d3 : decide (1114111 < r) = false := by simp; omega)
  all_goals first | (have d4 : decide (55296 ≤ r) = true := by simp; omega) | (have d4 : decide (55296 ≤ r) = false := by simp; omega)
  all_goals first | (have d5 : decide (r ≤ 57343) = true := by simp; omega) | (have d5 : decide (r ≤ 57343) = false := by simp; omega)
  all_goals first | (have d6 : decide (8192 ≤ r) = true := by simp; omega) | (have d6 : decide (8192 ≤ r) = false := by simp; omega)
  all_goals first | (have d7 : decide (r ≤ 8202) = true := by simp; omega) | (have d7 : decide (r ≤ 8202) = false := by simp; omega)
  all_goals first | (have d8 : decide (48 ≤ r) = true := by simp; omega) | (have d8 : decide (48 ≤ r) = false := by simp; omega)
  all_goals first | (have d9 : decide (r ≤ 57) = true := by simp; omega) | (have d9 : decide (r ≤ 57) = false := by simp; omega)
  all_goals first | (have d10 : decide (65 ≤ r) = true := by simp; omega) | (have d10 : decide (65 ≤ r) = false := by simp; omega)
  all_goals first | (have d11 : decide (r ≤ 90) = true := by simp; omega) | (have d11 : decide (r ≤ 90) = false := by simp; omega)
  all_goals first | (have d12 : decide (97 ≤ r) = true := by simp; omega) | (have d12 : decide (97 ≤ r) = false := by simp; omega)
  all_goals first | (have d13 : decide (r ≤ 122) = true := by simp; omega) | (have d13 : decide (r ≤ 122) = false := by simp; omega)
  all_goals first | (have d14 : decide (192 ≤ r) = true := by simp; omega) | (have d14 : decide (192 ≤ r) = false := by simp; omega)
  all_goals first | (have d15 : decide (r ≤ 591) = true := by simp; omega) | (have d15 : decide (r ≤ 591) = false := by simp; omega)
  all_goals first | (have d16 : decide (913 ≤ r) = true := by simp; omega) | (have d16 : decide (913 ≤ r) = false := by simp; omega)
  all_goals first | (have d17 : decide (r ≤ 969) = true := by simp; omega) | (have d17 : decide (r ≤ 969) = false := by simp; omega)
  all_goals first | (have q0 : (r == 65533) = true := by simp; omega) | (have q0 : (r == 65533) = false := by simp; omega)
  all_goals first | (have q1 : (r == 32) = true := by simp; omega) | (have q1 : (r == 32) = false := by simp; omega)
  all_goals first | (have q2 : (r == 160) = true := by simp; omega) | (have q2 : (r == 160) = false := by simp; omega)
  all_goals first | (have q3 : (r == 12288) = true := by simp; omega) | (have q3 : (r == 12288) = false := by simp; omega)
  all_goals first | (have q4 : (r == 215) = true := by simp; omega) | (have q4 : (r == 215) = false := by simp; omega)
  all_goals first | (have q5 : (r == 247) = true := by simp; omega) | (have q5 : (r == 247) = false := by simp; omega)
  all_goals first | (have q6 : (r == 930) = true := by simp; omega) | (have q6 : (r == 930) = false := by simp; omega)
  all_goals first | (have p0 : (r != 215) = true := by simp; omega) | (have p0 : (r != 215) = false := by simp; omega)
  all_goals first | (have p1 : (r != 247) = true := by simp; omega) | (have p1 : (r != 247) = false := by simp; omega)
  all_goals first | (have p2 : (r != 930) = true := by simp; omega) | (have p2 : (r != 930) = false := by simp; omega)
  all_goals (first | (have hz : sort r = 0 := by unfold sort; rw [if_pos (by unfold ctl; omega)]) | (have hz : sort r = 1 := by unfold sort; rw [if_neg (by unfold ctl; omega), if_pos (by unfold blk; omega)]) | (have hz : sort r = 2 := by unfold sort; rw [if_neg (by unfold ctl; omega), if_neg (by unfold blk; omega), if_pos (by unfold dig; omega)]) | (have hz : sort r = 3 := by unfold sort; rw [if_neg (by unfold ctl; omega), if_neg (by unfold blk; omega), if_neg (by unfold dig; omega), if_pos (by unfold ltr; omega)]) | (have hz : sort r = 4 := by unfold sort; rw [if_neg (by unfold ctl; omega), if_neg (by unfold blk; omega), if_neg (by unfold dig; omega), if_neg (by unfold ltr; omega)]))
  all_goals (rw [hz]; clear hz h)
  all_goals (go_enter Tryd.func28, Tryd.ntmps28; go_wp2; go_ret; exact ⟨rfl, rfl⟩)
end Go.Proofs.YtkijglkjpgjdaaaDoor.Si
