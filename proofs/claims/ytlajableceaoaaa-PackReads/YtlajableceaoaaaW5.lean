/-
  What the methods of an Opener answer and what they do to its two cells.
-/
import Derived.Test.YtlajableceaoaaaW4
import Derived.Test.YtlajableceaoaaaMath2
namespace Go.Proofs.Ytlajableceaoaaa
open Go.RowKit

theorem oOk_at (b : Nat) (s : ByteArray) (bad : Bool) (w : World) (h : At w b 45 s bad) :
    Calls Try.prog 18 #[.pointer (some ⟨b, 0, none⟩)] w fun e w' => e = .returned (.bool (!bad)) ∧ w' = w := by
  have c1 := h.c1
  clear h
  go_enter Try.func18, Try.ntmps18
  go_wp2
  go_ret
  exact ⟨rfl, rfl⟩

theorem oOk_nil (w : World) :
    Calls Try.prog 18 #[.pointer none] w fun e w' => e = .returned (.bool false) ∧ w' = w := by
  go_enter Try.func18, Try.ntmps18
  go_wp2
  go_ret
  exact ⟨rfl, rfl⟩

theorem oNum_nil (n : Int) (w : World) :
    Calls Try.prog 15 #[.pointer none, .int .i64 n] w fun e w' => e = .returned (.int .i64 0) ∧ w' = w := by
  go_enter Try.func15, Try.ntmps15
  go_wp2_with (go_at_call 18; refine (oOk_nil _).mono ?_; rintro e w1 ⟨rfl, rfl⟩)
  go_ret
  exact ⟨rfl, rfl⟩

theorem left_nil (w : World) :
    Calls Try.prog 23 #[.pointer none] w fun e w' => e = .returned (.int .i64 0) ∧ w' = w := by
  go_enter Try.func23, Try.ntmps23
  go_wp2_with (go_at_call 18; refine (oOk_nil _).mono ?_; rintro e w1 ⟨rfl, rfl⟩)
  go_ret
  exact ⟨rfl, rfl⟩

theorem left_at (b : Nat) (s : ByteArray) (bad : Bool) (w : World) (h : At w b 45 s bad) :
    Calls Try.prog 23 #[.pointer (some ⟨b, 0, none⟩)] w fun e w' => e = .returned (.int .i64 (if bad then 0 else (s.size : Int))) ∧ w' = w := by
  have c0 := h.c0
  have ho := oOk_at b s bad w h
  clear h
  cases bad
  · go_enter Try.func23, Try.ntmps23
    go_wp2_with (go_at_call 18; refine ho.mono ?_; rintro e w1 ⟨rfl, rfl⟩)
    go_ret
    exact ⟨rfl, rfl⟩
  · go_enter Try.func23, Try.ntmps23
    go_wp2_with (go_at_call 18; refine ho.mono ?_; rintro e w1 ⟨rfl, rfl⟩)
    go_ret
    exact ⟨rfl, rfl⟩

theorem done_at (b : Nat) (s : ByteArray) (bad : Bool) (w : World) (h : At w b 45 s bad) :
    Calls Try.prog 19 #[.pointer (some ⟨b, 0, none⟩)] w fun e w' => e = .returned (.bool (!bad && s.toList.isEmpty)) ∧ w' = w := by
  have c0 := h.c0
  have ho := oOk_at b s bad w h
  clear h
  cases bad
  · go_enter Try.func19, Try.ntmps19
    go_wp2_with (go_at_call 18; refine ho.mono ?_; rintro e w1 ⟨rfl, rfl⟩)
    go_ret
    exact ⟨rfl, rfl⟩
  · go_enter Try.func19, Try.ntmps19
    go_wp2_with (go_at_call 18; refine ho.mono ?_; rintro e w1 ⟨rfl, rfl⟩)
    go_ret
    exact ⟨rfl, rfl⟩

theorem spoil_at (b : Nat) (s : ByteArray) (bad : Bool) (w : World) (h : At w b 45 s bad) :
    Calls Try.prog 27 #[.pointer (some ⟨b, 0, none⟩)] w fun e w' => e = .returned (.tuple #[]) ∧ At w' b 45 ⟨#[]⟩ true ∧ Upd b w w' := by
  have f0 := h.f 0
  have f1 := h.f 1
  have c0 := h.c0
  have c1 := h.c1
  have A : Aside (At w b 45 s bad) := h
  clear h
  go_enter Try.func27, Try.ntmps27
  go_wp2
  go_end0
  exact ⟨rfl, (A.out.set0 _).set1 _, (Upd.set _ _ _ _).trans (Upd.set _ _ _ _)⟩

theorem open_any (s : ByteArray) (w : World) :
    Calls Try.prog 14 #[.string s] w fun e w' => e = .returned (.pointer (some ⟨w.heap.size, 0, none⟩)) ∧ At w' w.heap.size 45 s false ∧ Below w.heap.size w w' := by
  go_enter Try.func14, Try.ntmps14
  go_wp2
  go_ret
  exact ⟨rfl, heap_alloc_new w _, (Below.refl _ _).alloc (Nat.le_refl _) _⟩
end Go.Proofs.Ytlajableceaoaaa
