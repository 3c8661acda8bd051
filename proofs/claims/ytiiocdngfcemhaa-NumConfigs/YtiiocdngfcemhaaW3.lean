/-
  Parts of numbers; what each law asks first.
-/
import Derived.Test.YtiiocdngfcemhaaW2
import Derived.Deep.LoopGhost
import Derived.Deep.RegionWith
namespace Go.Proofs.Ytiiocdngfcemhaa
open Go.RowKit

theorem pos_le (n : Int) : 1 ≤ bd n 1 1073741824 ∧ bd n 1 1073741824 ≤ 1073741824 := by
  unfold bd
  split
  · omega
  · split <;> omega
theorem pos_is (n : Int) : bd n 1 1073741824 = if nm n < 1 then 1 else nm n := by
  unfold nm bd
  repeat' split
  all_goals omega

theorem mul_le (a b : Int) : 0 ≤ nm a * nm b ∧ nm a * nm b ≤ 1152921504606846976 := by
  obtain ⟨h1, h2⟩ := nm_le a
  obtain ⟨h3, h4⟩ := nm_le b
  refine ⟨Int.mul_nonneg h1 h3, ?_⟩
  have := Int.mul_le_mul h2 h4 h3 (by decide)
  simpa using this

/-- A part of a number. -/
def sc (n b o : Int) : Int := nm ((nm n * nm b).tdiv (bd o 1 1073741824))

theorem tdiv_le {a b : Int} (h0 : 0 ≤ a) (h1 : a ≤ 1152921504606846976) (h2 : 1 ≤ b) : 0 ≤ a.tdiv b ∧ a.tdiv b ≤ 1152921504606846976 := by
  rw [Int.tdiv_eq_ediv_of_nonneg h0]
  refine ⟨Int.ediv_nonneg h0 (by omega), Int.le_trans (Int.ediv_le_self _ h0) h1⟩

theorem scale_any (n b o : Int) (w : World) :
    Calls Try.prog 14 #[.int .i64 n, .int .i64 b, .int .i64 o] w fun e w' => e = .returned (.int .i64 (sc n b o)) ∧ w' = w := by
  have h1 := mul_le n b
  have h2 := pos_le o
  have h3 := tdiv_le h1.1 h1.2 h2.1
  have hw : IntKind.i64.wrap (nm n * nm b) = nm n * nm b := wraps_i64 _ (by omega) (by omega)
  have hq : IntKind.i64.wrap ((nm n * nm b).tdiv (bd o 1 1073741824)) = (nm n * nm b).tdiv (bd o 1 1073741824) := wraps_i64 _ (by omega) (by omega)
  have hz : (bd o 1 1073741824 == 0) = false := by simp; omega
  have hz' : ¬ bd o 1 1073741824 = 0 := by omega
  unfold sc
  go_enter Try.func14, Try.ntmps14
  go_wp2_with (first
    | (go_at_call 18; refine (number_any _ _).mono ?_; rintro e w1 ⟨rfl, rfl⟩)
    | (go_at_call 19; refine (bring_any _ _ _ _ (by decide)).mono ?_; rintro e w1 ⟨rfl, rfl⟩))
  go_ret
  exact ⟨rfl, rfl⟩

theorem field_one (u : World) : (Instr.field 32 (.agg #[.int .i64 1, .int .i64 1, .int .i64 1, .int .i64 1, .int .i64 500, .int .i64 1000]) 0).run Try.prog u = .ok (.int .i64 1) u := by kernel_rfl

set_option maxHeartbeats 1600000 in
set_option maxRecDepth 100000 in
theorem awake_any (w : World) :
    Calls Try.prog 6 #[] w fun e w' => e = .returned (.bool true) ∧ Below w.heap.size w w' := by
  have k1 : Aside (∀ u : World, Calls Try.prog 13 #[.int .i64 4] u fun e w' => e = .returned (.tuple #[.int .i64 5, .int .i64 0]) ∧ w' = u) := fun u => next_any 4 u
  have p1 : Aside (∀ u : World, Calls Try.prog 8 #[.int .i64 1099511627776, .int .i64 5] u fun e w' => e = .returned (.int .i64 1099511627776) ∧ w' = u) := fun u => plus_any 1099511627776 5 u
  have p2 : Aside (∀ u : World, Calls Try.prog 8 #[.int .i64 2, .int .i64 3] u fun e w' => e = .returned (.int .i64 5) ∧ w' = u) := fun u => plus_any 2 3 u
  have kc : Aside (∀ u : World, Calls Try.prog 15 #[.agg #[.int .i64 0, .int .i64 0, .int .i64 0, .int .i64 0, .int .i64 0, .int .i64 0]] u fun e w' => e = .returned (.agg #[.int .i64 1, .int .i64 1, .int .i64 1, .int .i64 1, .int .i64 500, .int .i64 1000]) ∧ Below u.heap.size u w') := fun u => config_any zeroC u
  have hf := field_one
  go_enter Try.func6, Try.ntmps6
  go_wp2_with (first
    | (go_at_call 13; refine (k1.out _).mono ?_; rintro e w1 ⟨rfl, rfl⟩)
    | (go_at_call_of 8 (Value.int .i64 2); refine (p2.out _).mono ?_; rintro e w1 ⟨rfl, rfl⟩)
    | (go_at_call 8; refine (p1.out _).mono ?_; rintro e w1 ⟨rfl, rfl⟩)
    | (go_at_call 15; refine (kc.out _).mono ?_; rintro e w1 ⟨rfl, hb1⟩))
  go_ret
  exact ⟨rfl, hb1⟩
end Go.Proofs.Ytiiocdngfcemhaa
