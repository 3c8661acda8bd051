/-
  Nobody's disk has no numbered files.
-/
import Derived.Test.YtblhkhgcaheplaaDoorF4
namespace Go.Proofs.YtblhkhgcaheplaaDoor
open Go.RowKit Go.Shelf

theorem len0 (w : World) : Calls Tryd.prog 28 #[.int .u64 0] w fun e w' => e = .returned (.int .i64 0) ∧ w' = w := by
  have k := Any.bits_Len64 { lays171 with } 0 w (by omega) (by omega)
  go_enter Tryd.func28, Tryd.ntmps28
  go_wp2_with (go_at_call 49; refine k.mono ?_; rintro e w' ⟨rfl, rfl⟩)
  go_ret
  exact ⟨rfl, rfl⟩

theorem insertion_nil (w : World) : Calls Tryd.prog 39 #[.slice none 0 0, .int .i64 0, .int .i64 0] w fun e w' => e = .returned (.tuple #[]) ∧ w' = w := by
  go_enter Tryd.func39, Tryd.ntmps39
  go_wp2
  go_loopg [6] 1 (fun gh v wr => v = .int .i64 1 ∧ wr = w)
  case atStart => exact ⟨by simp, rfl⟩
  case round =>
    obtain ⟨rfl, rfl⟩ := hrel
    go_wp2
    go_end0
    exact ⟨rfl, rfl⟩

set_option maxRecDepth 100000 in
set_option maxHeartbeats 1600000 in
theorem pdq_nil (w : World) : Calls Tryd.prog 27 #[.slice none 0 0, .int .i64 0, .int .i64 0, .int .i64 0] w fun e w' => e = .returned (.tuple #[]) ∧ w' = w := by
  have k := insertion_nil w
  go_enter Tryd.func27, Tryd.ntmps27
  go_wp2
  go_loopg [1, 2] 1 (fun gh v1 v2 wr => v1 = .int .i64 0 ∧ v2 = .int .i64 0 ∧ wr = w)
  case atStart => exact ⟨rfl, rfl, rfl⟩
  case round =>
    obtain ⟨rfl, rfl, rfl⟩ := hrel
    go_wp2_with (go_at_call 39; refine k.mono ?_; rintro e w' ⟨rfl, rfl⟩)
    try simp only [Exit.inBlock, Exit.then]
    refine bodyPost_ret (results_none rfl _ _ _) rfl ?_
    exact ⟨rfl, rfl⟩

theorem sort_nil (w : World) : Calls Tryd.prog 20 #[.slice none 0 0] w fun e w' => e = .returned (.tuple #[]) ∧ w' = w := by
  have k := pdq_nil w
  have k2 := len0 w
  go_enter Tryd.func20, Tryd.ntmps20
  go_wp2_with (first
    | (go_at_call 28; refine k2.mono ?_; rintro e w' ⟨rfl, rfl⟩)
    | (go_at_call 27; refine k.mono ?_; rintro e w' ⟨rfl, rfl⟩))
  go_end0
  exact ⟨rfl, rfl⟩

theorem names_nil (w : World) : Calls Tryd.prog 19 #[.pointer none] w fun e w' => e = .returned (.slice none 0 0) ∧ w' = w := by
  go_enter Tryd.func19, Tryd.ntmps19
  go_wp2
  go_ret
  exact ⟨rfl, rfl⟩

theorem all_nil (s : ByteArray) (w : World) : Calls Tryd.prog 10 #[.pointer none, .string s] w fun e w' => e = .returned (.slice none 0 0) ∧ w' = w := by
  have k := names_nil w
  have k2 := sort_nil w
  go_enter Tryd.func10, Tryd.ntmps10
  go_wp2_with (go_at_call 19; refine k.mono ?_; rintro e w' ⟨rfl, rfl⟩)
  go_loopg [5, 13] 1 (fun gh v5 v13 wr => v5 = .slice none 0 0 ∧ v13 = .int .i64 0 ∧ wr = w')
  case atStart => exact ⟨rfl, rfl, rfl⟩
  case round =>
    obtain ⟨rfl, rfl, rfl⟩ := hrel
    go_wp2_with (go_at_call 20; refine k2.mono ?_; rintro e w' ⟨rfl, rfl⟩)
    go_ret
    exact ⟨rfl, rfl⟩

theorem last_nil (s : ByteArray) (w : World) : Calls Tryd.prog 11 #[.pointer none, .string s] w fun e w' => e = .returned (.int .i64 0) ∧ w' = w := by
  have k := all_nil s w
  go_enter Tryd.func11, Tryd.ntmps11
  go_wp2_with (go_at_call 10; refine k.mono ?_; rintro e w' ⟨rfl, rfl⟩)
  go_ret
  exact ⟨rfl, rfl⟩

theorem size_nil (s : ByteArray) (w : World) : Calls Tryd.prog 12 #[.pointer none, .string s] w fun e w' => e = .returned (.int .i64 0) ∧ w' = w := by
  have k := all_nil s w
  go_enter Tryd.func12, Tryd.ntmps12
  go_wp2_with (go_at_call 10; refine k.mono ?_; rintro e w' ⟨rfl, rfl⟩)
  go_loopg [5, 14] 1 (fun gh v5 v13 wr => v5 = .int .i64 0 ∧ v13 = .int .i64 0 ∧ wr = w')
  case atStart => exact ⟨rfl, rfl, rfl⟩
  case round =>
    obtain ⟨rfl, rfl, rfl⟩ := hrel
    go_wp2
    go_ret
    exact ⟨rfl, rfl⟩

theorem clear_nil (s : ByteArray) (n : Int) (w : World) : Calls Tryd.prog 13 #[.pointer none, .string s, .int .i64 n] w fun e w' => e = .returned (.int .i64 0) ∧ w' = w := by
  have k := all_nil s w
  go_enter Tryd.func13, Tryd.ntmps13
  go_wp2_with (go_at_call 10; refine k.mono ?_; rintro e w' ⟨rfl, rfl⟩)
  go_loopg [7, 14] 1 (fun gh v5 v13 wr => v5 = .int .i64 0 ∧ v13 = .int .i64 0 ∧ wr = w')
  case atStart => exact ⟨rfl, rfl, rfl⟩
  case round =>
    obtain ⟨rfl, rfl, rfl⟩ := hrel
    go_wp2
    go_ret
    exact ⟨rfl, rfl⟩

theorem nobody_any (s : ByteArray) (n : Int) (w : World) (hv : Vars w) :
    Calls Tryd.prog 4 #[.string s, .int .i64 n] w fun e w' => e = .returned (.bool true) ∧ Below w.heap.size w w' := by
  have k0 := awake_any w hv
  have K1 : Aside (∀ u, Calls Tryd.prog 10 #[.pointer none, .string s] u fun e w' => e = .returned (.slice none 0 0) ∧ w' = u) := all_nil s
  have K2 : Aside (∀ u, Calls Tryd.prog 11 #[.pointer none, .string s] u fun e w' => e = .returned (.int .i64 0) ∧ w' = u) := last_nil s
  have K3 : Aside (∀ u, Calls Tryd.prog 12 #[.pointer none, .string s] u fun e w' => e = .returned (.int .i64 0) ∧ w' = u) := size_nil s
  have K4 : Aside (∀ u, Calls Tryd.prog 13 #[.pointer none, .string s, .int .i64 n] u fun e w' => e = .returned (.int .i64 0) ∧ w' = u) := clear_nil s n
  by_cases h1 : 30 < s.size
  · have d1 : decide (30 < (s.size : Int)) = true := by simp; omega
    go_enter Tryd.func4, Tryd.ntmps4
    go_wp2_with (go_at_call 5; refine k0.mono ?_; rintro e w1 ⟨rfl, hb1⟩)
    go_ret
    exact ⟨rfl, hb1⟩
  · have d1 : decide (30 < (s.size : Int)) = false := by simp; omega
    go_enter Tryd.func4, Tryd.ntmps4
    go_wp2_with (first
      | (go_at_call 5; refine k0.mono ?_; rintro e w1 ⟨rfl, hb1⟩)
      | (go_at_call 10; refine (K1.out _).mono ?_; rintro e w2 ⟨rfl, rfl⟩)
      | (go_at_call 11; refine (K2.out _).mono ?_; rintro e w3 ⟨rfl, rfl⟩)
      | (go_at_call 12; refine (K3.out _).mono ?_; rintro e w4 ⟨rfl, rfl⟩)
      | (go_at_call 13; refine (K4.out _).mono ?_; rintro e w5 ⟨rfl, rfl⟩))
    go_ret
    exact ⟨rfl, hb1⟩
end Go.Proofs.YtblhkhgcaheplaaDoor
