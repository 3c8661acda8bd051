/-
  The walk of PackNumbers: whatever two numbers are given, it answers true.
-/
import Derived.Test.YtlajableceaoaaaW9
namespace Go.Proofs.Ytlajableceaoaaa
open Go.RowKit

theorem num_new (b n : Nat) (x : ByteArray) (w : World) (h : At w b 25 ⟨#[]⟩ false) (hn : n ≤ 4611686018427387904) (HX : Hid (x = ⟨(Pk.numB n).toArray⟩)) :
    Calls Try.prog 7 #[.pointer (some ⟨b, 0, none⟩), .int .i64 (n : Int)] w fun e w' => e = .returned (.pointer (some ⟨b, 0, none⟩)) ∧ At w' b 25 x false ∧ Upd b w w' := by
  have k := num_at b n ⟨#[]⟩ w h hn (by decide)
  have e : (⟨#[]⟩ : ByteArray) ++ ⟨(Pk.numB n).toArray⟩ = x := by
    rw [HX.out]
    exact ByteArray.empty_append
  rw [e] at k
  exact k

set_option maxHeartbeats 1600000 in
set_option maxRecDepth 100000 in
/-- One of the two may not be. -/
theorem numbers_out (a b : Int) (w : World) (h : a < 0 ∨ b < 0 ∨ 4611686018427387904 < a ∨ 4611686018427387904 < b) :
    Calls Try.prog 5 #[.int .i64 a, .int .i64 b] w fun e w' => e = .returned (.bool true) ∧ Below w.heap.size w w' := by
  have k0 := awake_any w
  by_cases h1 : a < 0
  · go_enter Try.func5, Try.ntmps5
    go_wp2_with (go_at_call 6; refine k0.mono ?_; rintro e w1 ⟨rfl, hb1⟩)
    go_ret
    exact ⟨rfl, hb1⟩
  · by_cases h2 : b < 0
    · go_enter Try.func5, Try.ntmps5
      go_wp2_with (go_at_call 6; refine k0.mono ?_; rintro e w1 ⟨rfl, hb1⟩)
      go_ret
      exact ⟨rfl, hb1⟩
    · by_cases h3 : 4611686018427387904 < a
      · go_enter Try.func5, Try.ntmps5
        go_wp2_with (go_at_call 6; refine k0.mono ?_; rintro e w1 ⟨rfl, hb1⟩)
        go_ret
        exact ⟨rfl, hb1⟩
      · have h4 : 4611686018427387904 < b := by omega
        go_enter Try.func5, Try.ntmps5
        go_wp2_with (go_at_call 6; refine k0.mono ?_; rintro e w1 ⟨rfl, hb1⟩)
        go_ret
        exact ⟨rfl, hb1⟩

set_option maxHeartbeats 400000 in
set_option maxRecDepth 100000 in
theorem numbers_in (a b : Nat) (A B : Int) (hA : A = (a : Int)) (hBb : B = (b : Int)) (w : World) (ha : a ≤ 4611686018427387904) (hb : b ≤ 4611686018427387904) (x y : ByteArray) (HX : Hid (x = ⟨(Pk.numB a).toArray⟩)) (HY : Hid (y = ⟨(Pk.numB b).toArray⟩))
    (hx1 : decide ((1 : Int) ≤ (x.size : Int)) = true) (hx9 : decide ((x.size : Int) ≤ 9) = true) (same less : Bool) (h1 : (x.toList == y.toList) = same) (h2 : (A == B) = same)
    (other : Bool) (h3 : ((x.size : Int) != (y.size : Int)) = other) (h4 : other = false → Op.bytesLess x.toList y.toList = less) (h5 : decide (A < B) = less)
    (more : Bool) (h6 : decide (B < A) = more) (h7 : more = false → x.size ≤ y.size) :
    Calls Try.prog 5 #[.int .i64 A, .int .i64 B] w fun e w' => e = .returned (.bool true) ∧ Below w.heap.size w w' := by
  have k0 := awake_any w
  have hA0 : decide (A < 0) = false := by simp; omega
  have hB0 : decide (B < 0) = false := by simp; omega
  have hA1 : decide (4611686018427387904 < A) = false := by simp; omega
  have hB1 : decide (4611686018427387904 < B) = false := by simp; omega
  have knum : ∀ (N : Nat) (u : World), At u N 25 ⟨#[]⟩ false → Calls Try.prog 7 #[.pointer (some ⟨N, 0, none⟩), .int .i64 A] u fun e w' => e = .returned (.pointer (some ⟨N, 0, none⟩)) ∧ At w' N 25 x false ∧ Upd N u w' := fun N u h => by
    rw [hA]
    exact num_new N a x u h ha HX
  have knum2 : ∀ (N : Nat) (u : World), At u N 25 ⟨#[]⟩ false → Calls Try.prog 7 #[.pointer (some ⟨N, 0, none⟩), .int .i64 B] u fun e w' => e = .returned (.pointer (some ⟨N, 0, none⟩)) ∧ At w' N 25 y false ∧ Upd N u w' := fun N u h => by
    rw [hBb]
    exact num_new N b y u h hb HY
  have KN := (show Aside _ from And.intro knum knum2)
  clear HX HY hA hBb knum knum2 ha hb
  go_enter Try.func5, Try.ntmps5
  simp only [List.append_eq, List.cons_append, List.nil_append]
  go_wp2_with (go_at_call 6; refine k0.mono ?_; rintro e w1 ⟨rfl, hb1⟩)
  have hn := hb1.size
  have hp0 : At ((w1.alloc (.cells #[.string ⟨#[]⟩, .bool false] 25)).alloc (.cells #[.string ⟨#[]⟩, .bool false] 25)) w1.heap.size 25 ⟨#[]⟩ false := by
    unfold At
    rw [Below.heap_alloc _ _ _ (by simp)]
    exact heap_alloc_new w1 _
  have hq0 : At ((w1.alloc (.cells #[.string ⟨#[]⟩, .bool false] 25)).alloc (.cells #[.string ⟨#[]⟩, .bool false] 25)) (w1.heap.size + 1) 25 ⟨#[]⟩ false := by
    unfold At
    have := heap_alloc_new (w1.alloc (.cells #[.string ⟨#[]⟩, .bool false] 25)) (.cells #[.string ⟨#[]⟩, .bool false] 25)
    simpa using this
  have hB : Below w.heap.size w ((w1.alloc (.cells #[.string ⟨#[]⟩, .bool false] 25)).alloc (.cells #[.string ⟨#[]⟩, .bool false] 25)) := (hb1.alloc hn _).alloc (by simp; omega) _
  have k1 := KN.out.1 w1.heap.size _ hp0
  refine k1.mono ?_
  rintro e w2 ⟨rfl, ha2, hu2⟩
  have hq2 := hq0.upd hu2 (by omega)
  have hB2 := hB.trans (hu2.below hn hB.size)
  have k2 := string_yes _ _ w2 ha2.c0 ha2.c1
  have k3 := KN.out.2 (w1.heap.size + 1) w2 hq2
  have X : Aside (Below w.heap.size w w2 ∧ w.heap.size ≤ w1.heap.size) := ⟨hB2, hn⟩
  clear hp0 hq0 hB k1 ha2 hu2 hq2 hB2 hb1 KN
  go_wp2_with (go_at_call 13; refine k2.mono ?_; rintro e w3 ⟨rfl, rfl⟩)
  refine k3.mono ?_
  rintro e w4 ⟨rfl, ha4, hu4⟩
  have k4 := string_yes _ _ w4 ha4.c0 ha4.c1
  have hB4 : Below w.heap.size w w4 := X.out.1.trans (hu4.below (by have := X.out.2; omega) X.out.1.size)
  clear ha4 hu4 X k2 k3
  have fin : ∀ v u, v = Value.bool true → u = w4 → (Ending.returned v = .returned (.bool true) ∧ Below w.heap.size w u) := fun v u hv hu => by rw [hv, hu]; exact ⟨rfl, hB4⟩
  have F := (show Aside _ from fin)
  clear fin hB4
  cases other
  · have h4' := h4 rfl
    clear h4
    cases more
    · have h7' := h7 rfl
      clear h7
      go_wp2_with (first
        | (go_at_call 13; refine k4.mono ?_; rintro e w5 ⟨rfl, rfl⟩)
        | (go_at_call 7; refine (num_nil _ _).mono ?_; rintro e w5 ⟨rfl, rfl⟩)
        | (go_at_call 12; refine (ok_nil _).mono ?_; rintro e w5 ⟨rfl, rfl⟩)
        | (go_at_call 18; refine (oOk_nil _).mono ?_; rintro e w5 ⟨rfl, rfl⟩)
        | (go_at_call 15; refine (oNum_nil _ _).mono ?_; rintro e w5 ⟨rfl, rfl⟩)
        | (go_at_call 23; refine (left_nil _).mono ?_; rintro e w5 ⟨rfl, rfl⟩))
      go_ret
      exact F.out _ _ rfl rfl
    · clear h7
      go_wp2_with (first
        | (go_at_call 13; refine k4.mono ?_; rintro e w5 ⟨rfl, rfl⟩)
        | (go_at_call 7; refine (num_nil _ _).mono ?_; rintro e w5 ⟨rfl, rfl⟩)
        | (go_at_call 12; refine (ok_nil _).mono ?_; rintro e w5 ⟨rfl, rfl⟩)
        | (go_at_call 18; refine (oOk_nil _).mono ?_; rintro e w5 ⟨rfl, rfl⟩)
        | (go_at_call 15; refine (oNum_nil _ _).mono ?_; rintro e w5 ⟨rfl, rfl⟩)
        | (go_at_call 23; refine (left_nil _).mono ?_; rintro e w5 ⟨rfl, rfl⟩))
      go_ret
      exact F.out _ _ rfl rfl
  · clear h4
    cases more
    · have h7' := h7 rfl
      clear h7
      go_wp2_with (first
        | (go_at_call 13; refine k4.mono ?_; rintro e w5 ⟨rfl, rfl⟩)
        | (go_at_call 7; refine (num_nil _ _).mono ?_; rintro e w5 ⟨rfl, rfl⟩)
        | (go_at_call 12; refine (ok_nil _).mono ?_; rintro e w5 ⟨rfl, rfl⟩)
        | (go_at_call 18; refine (oOk_nil _).mono ?_; rintro e w5 ⟨rfl, rfl⟩)
        | (go_at_call 15; refine (oNum_nil _ _).mono ?_; rintro e w5 ⟨rfl, rfl⟩)
        | (go_at_call 23; refine (left_nil _).mono ?_; rintro e w5 ⟨rfl, rfl⟩))
      go_ret
      exact F.out _ _ rfl rfl
    · clear h7
      go_wp2_with (first
        | (go_at_call 13; refine k4.mono ?_; rintro e w5 ⟨rfl, rfl⟩)
        | (go_at_call 7; refine (num_nil _ _).mono ?_; rintro e w5 ⟨rfl, rfl⟩)
        | (go_at_call 12; refine (ok_nil _).mono ?_; rintro e w5 ⟨rfl, rfl⟩)
        | (go_at_call 18; refine (oOk_nil _).mono ?_; rintro e w5 ⟨rfl, rfl⟩)
        | (go_at_call 15; refine (oNum_nil _ _).mono ?_; rintro e w5 ⟨rfl, rfl⟩)
        | (go_at_call 23; refine (left_nil _).mono ?_; rintro e w5 ⟨rfl, rfl⟩))
      go_ret
      exact F.out _ _ rfl rfl
end Go.Proofs.Ytlajableceaoaaa
