/-
  NumNext: for any three numbers the law answers true, and the arguments read as before. No condition.
-/
import Derived.Test.YtiiocdngfcemhaaT1
namespace Go.Proofs.Ytiiocdngfcemhaa
open Go.ChangeShapes Go.WideShapes Go.ChangeAt Go.RowKit

set_option maxHeartbeats 1600000 in
set_option maxRecDepth 100000 in
theorem nexts_any (n b o : Int) (w : World) : Calls Try.prog 4 #[.int .i64 n, .int .i64 b, .int .i64 o] w fun e w' => e = .returned (.bool true) ∧ Below w.heap.size w w' := by
  have k0 := awake_any w
  have m1 := mul_le n b
  have hw : IntKind.i64.wrap (nm n * nm b) = nm n * nm b := wraps_i64 _ (by omega) (by omega)
  obtain ⟨D, hD, h1, hs⟩ : ∃ D, D = (if nm o < 1 then 1 else nm o) ∧ 1 ≤ D ∧ sc n b o = nm ((nm n * nm b).tdiv D) := ⟨_, rfl, by split <;> omega, by unfold sc; rw [pos_is]⟩
  have h3 := tdiv_le m1.1 m1.2 h1
  have hq : IntKind.i64.wrap ((nm n * nm b).tdiv D) = (nm n * nm b).tdiv D := wraps_i64 _ (by omega) (by omega)
  have hz : (D == 0) = false := by simp; omega
  have hz' : ¬ D = 0 := by omega
  clear h3 m1
  have kn0 := next_any n
  by_cases n1 : 1073741824 ≤ n
  · have kn : Aside (∀ u : World, Calls Try.prog 13 #[.int .i64 n] u fun e w' => e = .returned (.tuple #[.int .i64 0, .int .i64 10]) ∧ w' = u) := fun u => by
      have := kn0 u
      rw [if_pos n1] at this
      exact this
    clear kn0
    have n2 : decide (n < 0) = false := decide_eq_false (by omega)
    have n3 : decide (1073741824 ≤ n) = true := decide_eq_true n1
    by_cases c : nm o < 1
    · rw [if_pos c] at hD
      subst hD
      go_enter Try.func4, Try.ntmps4
      go_wp2_with (first
        | (go_at_call 6; refine k0.mono ?_; rintro e w1 ⟨rfl, hb1⟩)
        | (go_at_call 13; refine (kn.out _).mono ?_; rintro e w1 ⟨rfl, rfl⟩)
        | (go_at_call 14; refine (scale_any _ _ _ _).mono ?_; rintro e w1 ⟨rfl, rfl⟩)
        | (go_at_call 10; refine (refNumber_any _ _).mono ?_; rintro e w1 ⟨rfl, rfl⟩))
      go_ret
      exact ⟨rfl, hb1⟩
    · rw [if_neg c] at hD
      subst hD
      go_enter Try.func4, Try.ntmps4
      go_wp2_with (first
        | (go_at_call 6; refine k0.mono ?_; rintro e w1 ⟨rfl, hb1⟩)
        | (go_at_call 13; refine (kn.out _).mono ?_; rintro e w1 ⟨rfl, rfl⟩)
        | (go_at_call 14; refine (scale_any _ _ _ _).mono ?_; rintro e w1 ⟨rfl, rfl⟩)
        | (go_at_call 10; refine (refNumber_any _ _).mono ?_; rintro e w1 ⟨rfl, rfl⟩))
      go_ret
      exact ⟨rfl, hb1⟩
  · by_cases n2 : n < 0
    · have kn : Aside (∀ u : World, Calls Try.prog 13 #[.int .i64 n] u fun e w' => e = .returned (.tuple #[.int .i64 0, .int .i64 1]) ∧ w' = u) := fun u => by
        have := kn0 u
        rw [if_neg n1, if_pos n2] at this
        exact this
      clear kn0
      have n2' : decide (n < 0) = true := decide_eq_true n2
      have n3 : decide (1073741824 ≤ n) = false := decide_eq_false n1
      by_cases c : nm o < 1
      · rw [if_pos c] at hD
        subst hD
        go_enter Try.func4, Try.ntmps4
        go_wp2_with (first
          | (go_at_call 6; refine k0.mono ?_; rintro e w1 ⟨rfl, hb1⟩)
          | (go_at_call 13; refine (kn.out _).mono ?_; rintro e w1 ⟨rfl, rfl⟩)
          | (go_at_call 14; refine (scale_any _ _ _ _).mono ?_; rintro e w1 ⟨rfl, rfl⟩)
          | (go_at_call 10; refine (refNumber_any _ _).mono ?_; rintro e w1 ⟨rfl, rfl⟩))
        go_ret
        exact ⟨rfl, hb1⟩
      · rw [if_neg c] at hD
        subst hD
        go_enter Try.func4, Try.ntmps4
        go_wp2_with (first
          | (go_at_call 6; refine k0.mono ?_; rintro e w1 ⟨rfl, hb1⟩)
          | (go_at_call 13; refine (kn.out _).mono ?_; rintro e w1 ⟨rfl, rfl⟩)
          | (go_at_call 14; refine (scale_any _ _ _ _).mono ?_; rintro e w1 ⟨rfl, rfl⟩)
          | (go_at_call 10; refine (refNumber_any _ _).mono ?_; rintro e w1 ⟨rfl, rfl⟩))
        go_ret
        exact ⟨rfl, hb1⟩
    · have kn : Aside (∀ u : World, Calls Try.prog 13 #[.int .i64 n] u fun e w' => e = .returned (.tuple #[.int .i64 (n + 1), .int .i64 0]) ∧ w' = u) := fun u => by
        have := kn0 u
        rw [if_neg n1, if_neg n2] at this
        exact this
      clear kn0
      have n2' : decide (n < 0) = false := decide_eq_false n2
      have n3 : decide (1073741824 ≤ n) = false := decide_eq_false n1
      have n4 : decide (0 ≤ n) = true := decide_eq_true (by omega)
      have n5 : decide (n < 1073741824) = true := decide_eq_true (by omega)
      have n6 : IntKind.i64.wrap (n + 1) = n + 1 := wraps_i64 _ (by omega) (by omega)
      by_cases c : nm o < 1
      · rw [if_pos c] at hD
        subst hD
        go_enter Try.func4, Try.ntmps4
        go_wp2_with (first
          | (go_at_call 6; refine k0.mono ?_; rintro e w1 ⟨rfl, hb1⟩)
          | (go_at_call 13; refine (kn.out _).mono ?_; rintro e w1 ⟨rfl, rfl⟩)
          | (go_at_call 14; refine (scale_any _ _ _ _).mono ?_; rintro e w1 ⟨rfl, rfl⟩)
          | (go_at_call 10; refine (refNumber_any _ _).mono ?_; rintro e w1 ⟨rfl, rfl⟩))
        go_ret
        exact ⟨rfl, hb1⟩
      · rw [if_neg c] at hD
        subst hD
        go_enter Try.func4, Try.ntmps4
        go_wp2_with (first
          | (go_at_call 6; refine k0.mono ?_; rintro e w1 ⟨rfl, hb1⟩)
          | (go_at_call 13; refine (kn.out _).mono ?_; rintro e w1 ⟨rfl, rfl⟩)
          | (go_at_call 14; refine (scale_any _ _ _ _).mono ?_; rintro e w1 ⟨rfl, rfl⟩)
          | (go_at_call 10; refine (refNumber_any _ _).mono ?_; rintro e w1 ⟨rfl, rfl⟩))
        go_ret
        exact ⟨rfl, hb1⟩

set_option maxRecDepth 100000 in
theorem numNext_lifted (os : Os) (started : os.Started) (H : Type) (enc : TypeId × Value → H) :
    ReturnsInHanded {} Try.checked os 4 .any (Rows.numNextSpec.pre6 enc Try.prog Try.f4 Rows.numNextRow.domain false) (Rows.numNextSpec.post enc Try.prog Try.f4 false true false false) := by
  refine returnsInHanded_of_change (C := Try.checked) own started (by kernel_rfl) Try.func4
    (ChangeSpec.witness6 (enc := enc) (C := Try.checked) false ⟨#[], #[.int .i64 0, .int .i64 0, .int .i64 0], []⟩ 8 (by kernel_rfl) (by kernel_rfl) (by kernel_rfl) (by kernel_rfl)) ?_
  intro W base args ds gs before hval0 hW _ _
  have hval : ∀ (j : Nat) t v, Try.f4.params[j]? = some t → args[j]? = some v → Value.okWide Try.prog W .any base t v := hval0
  have hW' := hW
  obtain ⟨p, q, hA0, hV, rfl, hfz, hnd⟩ := hW
  have hA : DataW.TrodAll enc Try.prog W 0 (fun _ => true) true Try.f4.params.toList args.toList ds p := hA0
  rw [Try.params4] at hA hval
  obtain ⟨v0, vs0, d0, ds0, p0, q0, hargs, rfl, rfl, h0, r0⟩ := trodAll_cons hA
  obtain ⟨v1, vs1, d1, ds1, p1, q1, rfl, rfl, rfl, h1, r1⟩ := trodAll_cons r0
  obtain ⟨v2, vs2, d2, ds2, p2, q2, rfl, rfl, rfl, h2, r2⟩ := trodAll_cons r1
  obtain ⟨rfl, rfl, rfl⟩ := trodAll_nil r2
  obtain rfl : args = #[v0, v1, v2] := by cases args; simp_all
  obtain ⟨rfl, rfl⟩ := trodVars_none hV
  obtain ⟨a0, rfl, rfl, rfl, w0⟩ := open_int Try.underlying3 (hval 0 3 v0 rfl rfl) h0
  obtain ⟨a1, rfl, rfl, rfl, w1⟩ := open_int Try.underlying3 (hval 1 3 v1 rfl rfl) h1
  obtain ⟨a2, rfl, rfl, rfl, w2⟩ := open_int Try.underlying3 (hval 2 3 v2 rfl rfl) h2
  clear hA0 hval0
  refine (nexts_any a0 a1 a2 W).mono fun e W' ⟨he, bel⟩ => ?_
  subst he
  exact ⟨_, rfl, _, _, _, [], _, [], hW', trodAll_mk1 (shut_bool Try.underlying4 _), trodAll_cons_mk (shut_int Try.underlying3 w0) (trodAll_cons_mk (shut_int Try.underlying3 w1) (trodAll_cons_mk (shut_int Try.underlying3 w2) trodAll_mk0)), rfl, bel.frame _, fun h => by cases h⟩

theorem numNext_holds : Rows.NumNextSaid :=
  OpenClaim.holds_of_wide 4 Try.f4 rfl rfl rfl rfl rfl rfl rfl ⟨rfl, rfl, rfl, rfl, rfl⟩ rfl rfl rfl rfl rfl (by kernel_rfl) Try.func4 (by kernel_rfl)
    (of_decide_eq_true (by kernel_rfl)) (by unfold Func.isWrapper; first | (rw [if_pos (by decide +kernel)]; kernel_rfl) | (rw [if_neg (by decide +kernel)]; exact ⟨rfl, rfl⟩))
    (fun os started H enc _ => numNext_lifted os started H enc)
#print axioms numNext_holds
end Go.Proofs.Ytiiocdngfcemhaa
