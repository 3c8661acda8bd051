/-
  NumTimes: for any two numbers the law answers true, and the arguments read as before. No condition.
-/
import Derived.Test.YtiiocdngfcemhaaW3
import Derived.ProofKit
import Derived.OpenShut
import Derived.ChangeOld
import Derived.Below
namespace Go.Proofs.Ytiiocdngfcemhaa
open Go.ChangeShapes Go.WideShapes Go.ChangeAt Go.RowKit

theorem plus_le (a b : Int) : tm a ≤ plus a b ∧ plus a b ≤ 1099511627776 := by
  have h1 := tm_le a
  have h2 := nm_le b
  unfold plus
  refine ⟨?_, (tm_le _).2⟩
  by_cases h : tm a + nm b ≤ 1099511627776
  · rw [tm_same (n := tm a + nm b) (by omega) h]
    omega
  · rw [tm_far (n := tm a + nm b) (by omega)]
    omega

theorem there (a b : Int) (h : tm b - tm a ≤ 1073741824) : tm b ≤ tm (plus a (left a b)) := by
  have h1 := tm_le a
  have h2 := tm_le b
  have h3 := plus_le a (left a b)
  rw [tm_same (by omega) h3.2]
  by_cases hl : tm b - tm a < 0
  · omega
  · have hn : left a b = tm b - tm a := by unfold left; rw [if_neg hl]
    have h4 : nm (left a b) = tm b - tm a := by rw [hn]; exact nm_same (by omega) h
    unfold plus
    rw [h4, tm_same (n := tm a + (tm b - tm a)) (by omega) (by omega)]
    omega

set_option maxHeartbeats 1600000 in
set_option maxRecDepth 100000 in
theorem times_any (a b : Int) (w : World) : Calls Try.prog 3 #[.int .i64 a, .int .i64 b] w fun e w' => e = .returned (.bool true) ∧ Below w.heap.size w w' := by
  have k0 := awake_any w
  have h1 := tm_le a
  have h2 := tm_le b
  have h3 := nm_le b
  have hp := plus_le a b
  have hw : IntKind.i64.wrap (tm a + nm b) = tm a + nm b := wraps_i64 _ (by omega) (by omega)
  have hv : IntKind.i64.wrap (tm b - tm a) = tm b - tm a := wraps_i64 _ (by omega) (by omega)
  have g1 : decide (tm a ≤ plus a b) = true := decide_eq_true hp.1
  have g2 : decide (plus a b ≤ 1099511627776) = true := decide_eq_true hp.2
  have ep : tm (tm a + nm b) = plus a b := rfl
  have l0 : left a b = if tm b - tm a < 0 then 0 else tm b - tm a := rfl
  have hT : tm b - tm a ≤ 1073741824 → decide (tm b ≤ tm (plus a (left a b))) = true := fun h => decide_eq_true (there a b h)
  clear h3
  by_cases c1 : tm b - tm a < 0
  · rw [if_pos c1] at l0
    have d1 : decide (1073741824 < tm b - tm a) = false := decide_eq_false (by omega)
    have hT' := hT (by omega)
    rw [l0] at hT'
    clear hT
    go_enter Try.func3, Try.ntmps3
    go_wp2_with (first
      | (go_at_call 6; refine k0.mono ?_; rintro e w1 ⟨rfl, hb1⟩)
      | (go_at_call 7; refine (refTime_any _ _).mono ?_; rintro e w1 ⟨rfl, rfl⟩)
      | (go_at_call 8; refine (plus_any _ _ _).mono ?_; rintro e w1 ⟨rfl, rfl⟩)
      | (go_at_call 9; refine (time_any _ _).mono ?_; rintro e w1 ⟨rfl, rfl⟩)
      | (go_at_call 10; refine (refNumber_any _ _).mono ?_; rintro e w1 ⟨rfl, rfl⟩)
      | (go_at_call 11; refine (left_any _ _ _).mono ?_; rintro e w1 ⟨rfl, rfl⟩)
      | (go_at_call 12; refine (past_any _ _ _).mono ?_; rintro e w1 ⟨rfl, rfl⟩))
    go_ret
    exact ⟨rfl, hb1⟩
  · rw [if_neg c1] at l0
    by_cases c2 : 1073741824 < tm b - tm a
    · have d1 : decide (1073741824 < tm b - tm a) = true := decide_eq_true c2
      clear hT
      go_enter Try.func3, Try.ntmps3
      go_wp2_with (first
        | (go_at_call 6; refine k0.mono ?_; rintro e w1 ⟨rfl, hb1⟩)
        | (go_at_call 7; refine (refTime_any _ _).mono ?_; rintro e w1 ⟨rfl, rfl⟩)
        | (go_at_call 8; refine (plus_any _ _ _).mono ?_; rintro e w1 ⟨rfl, rfl⟩)
        | (go_at_call 9; refine (time_any _ _).mono ?_; rintro e w1 ⟨rfl, rfl⟩)
        | (go_at_call 10; refine (refNumber_any _ _).mono ?_; rintro e w1 ⟨rfl, rfl⟩)
        | (go_at_call 11; refine (left_any _ _ _).mono ?_; rintro e w1 ⟨rfl, rfl⟩)
        | (go_at_call 12; refine (past_any _ _ _).mono ?_; rintro e w1 ⟨rfl, rfl⟩))
      go_ret
      exact ⟨rfl, hb1⟩
    · have d1 : decide (1073741824 < tm b - tm a) = false := decide_eq_false c2
      have hT' := hT (by omega)
      rw [l0] at hT'
      clear hT
      go_enter Try.func3, Try.ntmps3
      go_wp2_with (first
        | (go_at_call 6; refine k0.mono ?_; rintro e w1 ⟨rfl, hb1⟩)
        | (go_at_call 7; refine (refTime_any _ _).mono ?_; rintro e w1 ⟨rfl, rfl⟩)
        | (go_at_call 8; refine (plus_any _ _ _).mono ?_; rintro e w1 ⟨rfl, rfl⟩)
        | (go_at_call 9; refine (time_any _ _).mono ?_; rintro e w1 ⟨rfl, rfl⟩)
        | (go_at_call 10; refine (refNumber_any _ _).mono ?_; rintro e w1 ⟨rfl, rfl⟩)
        | (go_at_call 11; refine (left_any _ _ _).mono ?_; rintro e w1 ⟨rfl, rfl⟩)
        | (go_at_call 12; refine (past_any _ _ _).mono ?_; rintro e w1 ⟨rfl, rfl⟩))
      go_ret
      exact ⟨rfl, hb1⟩

theorem own : ownKnob Try.prog.godebug = none := by kernel_rfl

set_option maxRecDepth 100000 in
theorem numTimes_lifted (os : Os) (started : os.Started) (H : Type) (enc : TypeId × Value → H) :
    ReturnsInHanded {} Try.checked os 3 .any (Rows.numTimesSpec.pre6 enc Try.prog Try.f3 Rows.numTimesRow.domain false) (Rows.numTimesSpec.post enc Try.prog Try.f3 false true false false) := by
  refine returnsInHanded_of_change (C := Try.checked) own started (by kernel_rfl) Try.func3
    (ChangeSpec.witness6 (enc := enc) (C := Try.checked) false ⟨#[], #[.int .i64 0, .int .i64 0], []⟩ 8 (by kernel_rfl) (by kernel_rfl) (by kernel_rfl) (by kernel_rfl)) ?_
  intro W base args ds gs before hval0 hW _ _
  have hval : ∀ (j : Nat) t v, Try.f3.params[j]? = some t → args[j]? = some v → Value.okWide Try.prog W .any base t v := hval0
  have hW' := hW
  obtain ⟨p, q, hA0, hV, rfl, hfz, hnd⟩ := hW
  have hA : DataW.TrodAll enc Try.prog W 0 (fun _ => true) true Try.f3.params.toList args.toList ds p := hA0
  rw [Try.params3] at hA hval
  obtain ⟨v0, vs0, d0, ds0, p0, q0, hargs, rfl, rfl, h0, r0⟩ := trodAll_cons hA
  obtain ⟨v1, vs1, d1, ds1, p1, q1, rfl, rfl, rfl, h1, r1⟩ := trodAll_cons r0
  obtain ⟨rfl, rfl, rfl⟩ := trodAll_nil r1
  obtain rfl : args = #[v0, v1] := by cases args; simp_all
  obtain ⟨rfl, rfl⟩ := trodVars_none hV
  obtain ⟨a0, rfl, rfl, rfl, w0⟩ := open_int Try.underlying3 (hval 0 3 v0 rfl rfl) h0
  obtain ⟨a1, rfl, rfl, rfl, w1⟩ := open_int Try.underlying3 (hval 1 3 v1 rfl rfl) h1
  clear hA0 hval0
  refine (times_any a0 a1 W).mono fun e W' ⟨he, bel⟩ => ?_
  subst he
  exact ⟨_, rfl, _, _, _, [], _, [], hW', trodAll_mk1 (shut_bool Try.underlying4 _), trodAll_cons_mk (shut_int Try.underlying3 w0) (trodAll_cons_mk (shut_int Try.underlying3 w1) trodAll_mk0), rfl, bel.frame _, fun h => by cases h⟩

theorem numTimes_holds : Rows.NumTimesSaid :=
  OpenClaim.holds_of_wide 3 Try.f3 rfl rfl rfl rfl rfl rfl rfl ⟨rfl, rfl, rfl, rfl, rfl⟩ rfl rfl rfl rfl rfl (by kernel_rfl) Try.func3 (by kernel_rfl)
    (of_decide_eq_true (by kernel_rfl)) (by unfold Func.isWrapper; first | (rw [if_pos (by decide +kernel)]; kernel_rfl) | (rw [if_neg (by decide +kernel)]; exact ⟨rfl, rfl⟩))
    (fun os started H enc _ => numTimes_lifted os started H enc)
#print axioms numTimes_holds
end Go.Proofs.Ytiiocdngfcemhaa
