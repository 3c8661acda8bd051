/-
  What goes over a text sign by sign and makes nothing: how many signs, what is cut, which sign is the first, whether a text may be, whether all are of some sorts.
-/
import Derived.Test.YtacipegcenfbeaaM
import Derived.Laws.RangeAny
import Derived.WalkSmall
namespace Go.Proofs.Ytacipegcenfbeaa
open Go.RowKit

theorem below_iter (w : World) (s : ByteArray) (p : Nat) : Below w.heap.size w (w.iter s p) := (Below.refl _ _).alloc (Nat.le_refl _) _

set_option maxHeartbeats 1600000 in
theorem count_any (s : ByteArray) (w : World) (hs : s.size ≤ 1000000) :
    Calls Try.prog 13 #[.string s] w fun e w' => e = .returned (.int .i64 (Sg.len s : Nat)) ∧ Below w.heap.size w w' := by
  go_enter Try.func13, Try.ntmps13
  go_wp2
  go_loopg [3] s.size (fun gh s3 wr => ∃ p k : Nat, s.size - p ≤ gh ∧ s3 = .int .i64 (k : Int) ∧ k + (Sg.fr s p).length = Sg.len s ∧ wr = w.iter s p)
  case atStart => exact ⟨0, 0, by omega, rfl, by simp [Sg.len], rfl⟩
  case round =>
    obtain ⟨p, k, hgh, rfl, hk, rfl⟩ := hrel
    by_cases hp : p < s.size
    · have hnx : ∀ ty, (Instr.next (.pointer (some ⟨w.heap.size, 0, none⟩)) true ty).run Try.prog (w.iter s p) = _ := fun ty => run_next_any w s p ty hp
      have h1 := Sg.wd_pos s p
      have h2 : Aside (k + 1 + (Sg.fr s (p + Sg.wd s p)).length = Sg.len s) := by
        rw [Sg.fr_step s p hp] at hk
        simp at hk
        show _ = _
        omega
      have h3 := Sg.len_size s
      have h4 : k ≤ 1000000 := by omega
      clear hk
      go_wp2
      go_roundg (s.size - (p + Sg.wd s p))
      case measure => omega
      case rel => exact ⟨p + Sg.wd s p, k + 1, Nat.le_refl _, by go_num, h2.out, rfl⟩
    · have hnx : ∀ ty, (Instr.next (.pointer (some ⟨w.heap.size, 0, none⟩)) true ty).run Try.prog (w.iter s p) = _ := fun ty => run_next_end w s p ty hp
      have h2 : k = Sg.len s := by
        rw [Sg.fr_end s p hp] at hk
        simpa using hk
      clear hk
      go_wp2
      go_ret
      exact ⟨by rw [← h2]; rfl, below_iter w s p⟩

set_option maxHeartbeats 1600000 in
theorem cut_any (s : ByteArray) (n : Int) (w : World) (hs : s.size ≤ 1000000) (hn : n ≤ 9223372036854775807) (hn2 : -9223372036854775808 ≤ n) :
    Calls Try.prog 14 #[.string s, .int .i64 n] w fun e w' => e = .returned (.string (Sg.cut s n)) ∧ Below w.heap.size w w' := by
  go_enter Try.func14, Try.ntmps14
  go_wp2
  go_loopg [1] s.size (fun gh s1 wr => ∃ k : Nat, s.size - Sg.pa s k ≤ gh ∧ k ≤ Sg.len s ∧ s1 = .int .i64 (n - k) ∧ (k = 0 ∨ (k : Int) ≤ n) ∧ wr = w.iter s (Sg.pa s k))
  case atStart => exact ⟨0, by simp [Sg.pa], by omega, by simp, by omega, rfl⟩
  case round =>
    obtain ⟨k, hgh, hk, rfl, hkn, rfl⟩ := hrel
    by_cases hp : k < Sg.len s
    · have hlt := Sg.pa_lt s k hp
      have hnx : ∀ ty, (Instr.next (.pointer (some ⟨w.heap.size, 0, none⟩)) true ty).run Try.prog (w.iter s (Sg.pa s k)) = _ := fun ty => run_next_any w s (Sg.pa s k) ty hlt
      have h1 := Sg.wd_pos s (Sg.pa s k)
      by_cases hc : n - k < 1
      · have d1 : decide (n - (k : Int) < 1) = true := by simp; omega
        have e : Aside (Sg.cut s n = s.extract 0 (Sg.pa s k)) := by
          have : n.toNat = k := by omega
          show _ = _
          unfold Sg.cut
          rw [if_pos (by omega), this]
        go_wp2
        go_ret
        exact ⟨by rw [e.out]; rfl, below_iter w s _⟩
      · have d1 : decide (n - (k : Int) < 1) = false := by simp; omega
        go_wp2
        go_roundg (s.size - Sg.pa s (k + 1))
        case measure => show s.size - (Sg.pa s k + Sg.wd s (Sg.pa s k)) < _; omega
        case rel => exact ⟨k + 1, Nat.le_refl _, by omega, by go_num, by omega, rfl⟩
    · obtain rfl : k = Sg.len s := by omega
      have hnx : ∀ ty, (Instr.next (.pointer (some ⟨w.heap.size, 0, none⟩)) true ty).run Try.prog (w.iter s (Sg.pa s (Sg.len s))) = _ := fun ty => run_next_end w s _ ty (by rw [Sg.pa_end]; omega)
      have e : Aside (Sg.cut s n = s) := by
        show _ = _
        unfold Sg.cut
        split
        · rename_i hc
          have h0 : Sg.len s = 0 := by omega
          have h1 := Sg.len_zero s h0
          apply ByteArray.ext
          rw [ByteArray.data_extract]
          have : s.data.size = 0 := h1
          simp [Array.eq_empty_of_size_eq_zero this]
        · rfl
      go_wp2
      go_ret
      exact ⟨by rw [e.out]; rfl, below_iter w s _⟩

set_option maxHeartbeats 1600000 in
theorem find_any (s : ByteArray) (r : Int) (w : World) (hs : s.size ≤ 1000000) :
    Calls Try.prog 20 #[.string s, .int .i32 r] w fun e w' => e = .returned (.int .i64 (Sg.ff r 0 (Sg.fr s 0))) ∧ Below w.heap.size w w' := by
  go_enter Try.func20, Try.ntmps20
  go_wp2
  go_loopg [5] s.size (fun gh s5 wr => ∃ k : Nat, s.size - Sg.pa s k ≤ gh ∧ k ≤ Sg.len s ∧ s5 = .int .i64 (k : Int) ∧ Sg.ff r k (Sg.fr s (Sg.pa s k)) = Sg.ff r 0 (Sg.fr s 0) ∧ wr = w.iter s (Sg.pa s k))
  case atStart => exact ⟨0, by simp [Sg.pa], by omega, by simp, rfl, rfl⟩
  case round =>
    obtain ⟨k, hgh, hk, rfl, hf, rfl⟩ := hrel
    by_cases hp : k < Sg.len s
    · have hlt := Sg.pa_lt s k hp
      have hnx : ∀ ty, (Instr.next (.pointer (some ⟨w.heap.size, 0, none⟩)) true ty).run Try.prog (w.iter s (Sg.pa s k)) = _ := fun ty => run_next_any w s (Sg.pa s k) ty hlt
      have h1 := Sg.wd_pos s (Sg.pa s k)
      have h3 := Sg.len_size s
      rw [Sg.fr_step s _ hlt] at hf
      by_cases hc : (Sg.rn s (Sg.pa s k) : Int) = r
      · have d1 : (((Utf8.decode s (Sg.pa s k)).1 : Int) == r) = true := by rw [beq_iff_eq]; exact hc
        have e : Aside (Sg.ff r 0 (Sg.fr s 0) = (k : Int)) := by
          show _ = _
          rw [← hf]
          simp [Sg.ff, hc]
        clear hf hc
        go_wp2_with fail
        go_ret
        exact ⟨by rw [e.out]; rfl, below_iter w s _⟩
      · have d1 : (((Utf8.decode s (Sg.pa s k)).1 : Int) == r) = false := by rw [beq_eq_false_iff_ne]; exact hc
        have e : Aside (Sg.ff r (k + 1) (Sg.fr s (Sg.pa s (k + 1))) = Sg.ff r 0 (Sg.fr s 0)) := by
          show _ = _
          rw [← hf]
          simp [Sg.ff, hc, Sg.pa]
        clear hf hc
        go_wp2_with fail
        go_roundg (s.size - Sg.pa s (k + 1))
        case measure => show s.size - (Sg.pa s k + Sg.wd s (Sg.pa s k)) < _; omega
        case rel => exact ⟨k + 1, Nat.le_refl _, by omega, by go_num, e.out, rfl⟩
    · obtain rfl : k = Sg.len s := by omega
      have hnx : ∀ ty, (Instr.next (.pointer (some ⟨w.heap.size, 0, none⟩)) true ty).run Try.prog (w.iter s (Sg.pa s (Sg.len s))) = _ := fun ty => run_next_end w s _ ty (by rw [Sg.pa_end]; omega)
      have e : Aside (Sg.ff r 0 (Sg.fr s 0) = -1) := by
        show _ = _
        rw [← hf, Sg.fr_end s _ (by rw [Sg.pa_end]; omega)]
        rfl
      clear hf
      go_wp2
      go_ret
      exact ⟨by rw [e.out]; rfl, below_iter w s _⟩

/-- May it be? -/
def right (s : ByteArray) (n : Int) : Bool := decide (1 ≤ s.size) && decide ((s.size : Int) ≤ n) && Sg.calm s 0

theorem toList_empty {s : ByteArray} (h : s.size = 0) : (s.toList == []) = true := by
  have : s.data = #[] := Array.eq_empty_of_size_eq_zero h
  rw [ByteArray.toList_eq, this]
  rfl

theorem toList_some {s : ByteArray} (h : 1 ≤ s.size) : (s.toList == []) = false := by
  rw [ByteArray.toList_eq, beq_eq_false_iff_ne]
  intro he
  have : s.data.size = 0 := by rw [← Array.length_toList, he]; rfl
  have h2 : s.data.size = s.size := rfl
  omega

set_option maxHeartbeats 1600000 in
theorem right_any (s : ByteArray) (n : Int) (w : World) (hs : s.size ≤ 1000000) :
    Calls Try.prog 11 #[.string s, .int .i64 n] w fun e w' => e = .returned (.bool (right s n)) ∧ Below w.heap.size w w' := by
  by_cases h0 : 1 ≤ s.size
  · have d0 := toList_some h0
    by_cases h1 : (s.size : Int) ≤ n
    · have d1 : decide (n < (s.size : Int)) = false := by simp; omega
      have er : right s n = Sg.calm s 0 := by simp [right, h0, h1]
      rw [er]
      go_enter Try.func11, Try.ntmps11
      go_wp2
      go_loopg [] s.size (fun gh wr => ∃ k : Nat, s.size - Sg.pa s k ≤ gh ∧ k ≤ Sg.len s ∧ Sg.calm s (Sg.pa s k) = Sg.calm s 0 ∧ wr = w.iter s (Sg.pa s k))
      case atStart => exact ⟨0, by simp [Sg.pa], by omega, rfl, rfl⟩
      case round =>
        obtain ⟨k, hgh, hk, hf, rfl⟩ := hrel
        by_cases hp : k < Sg.len s
        · have hlt := Sg.pa_lt s k hp
          have hnx : ∀ ty, (Instr.next (.pointer (some ⟨w.heap.size, 0, none⟩)) true ty).run Try.prog (w.iter s (Sg.pa s k)) = _ := fun ty => run_next_any w s (Sg.pa s k) ty hlt
          have h1 := Sg.wd_pos s (Sg.pa s k)
          have ks := sort_any ((Utf8.decode s (Sg.pa s k)).1 : Int)
          have hstep : Sg.calm s (Sg.pa s k) = (sort (Sg.rn s (Sg.pa s k) : Int) != 0 && Sg.calm s (Sg.pa s (k + 1))) := by
            show (Sg.fr s (Sg.pa s k)).all _ = _
            rw [Sg.fr_step s _ hlt]
            rfl
          by_cases hc : sort (Sg.rn s (Sg.pa s k) : Int) = 0
          · have d2 : (sort ((Utf8.decode s (Sg.pa s k)).1 : Int) == 0) = true := by rw [beq_iff_eq]; exact hc
            have e : Aside (Sg.calm s 0 = false) := by
              show _ = _
              rw [← hf, hstep, hc]
              rfl
            clear hf hc hstep
            go_wp2_with (go_at_call 7; refine (ks _).mono ?_; rintro e w1 ⟨rfl, rfl⟩)
            go_ret
            exact ⟨by rw [e.out]; rfl, below_iter w s _⟩
          · have d2 : (sort ((Utf8.decode s (Sg.pa s k)).1 : Int) == 0) = false := by rw [beq_eq_false_iff_ne]; exact hc
            have e : Aside (Sg.calm s (Sg.pa s (k + 1)) = Sg.calm s 0) := by
              show _ = _
              rw [← hf, hstep, show (sort (Sg.rn s (Sg.pa s k) : Int) != 0) = true by simpa using hc, Bool.true_and]
            clear hf hc hstep
            go_wp2_with (go_at_call 7; refine (ks _).mono ?_; rintro e w1 ⟨rfl, rfl⟩)
            go_roundg (s.size - Sg.pa s (k + 1))
            case measure => show s.size - (Sg.pa s k + Sg.wd s (Sg.pa s k)) < _; omega
            case rel => exact ⟨k + 1, Nat.le_refl _, by omega, e.out, rfl⟩
        · obtain rfl : k = Sg.len s := by omega
          have hnx : ∀ ty, (Instr.next (.pointer (some ⟨w.heap.size, 0, none⟩)) true ty).run Try.prog (w.iter s (Sg.pa s (Sg.len s))) = _ := fun ty => run_next_end w s _ ty (by rw [Sg.pa_end]; omega)
          have e : Aside (Sg.calm s 0 = true) := by
            show _ = _
            rw [← hf]
            unfold Sg.calm
            rw [Sg.fr_end s _ (by rw [Sg.pa_end]; omega)]
            rfl
          clear hf
          go_wp2
          go_ret
          exact ⟨by rw [e.out]; rfl, below_iter w s _⟩
    · have d1 : decide (n < (s.size : Int)) = true := by simp; omega
      have er : right s n = false := by simp [right, h1]
      rw [er]
      go_enter Try.func11, Try.ntmps11
      go_wp2
      go_ret
      exact ⟨rfl, Below.refl _ _⟩
  · have d0 := toList_empty (show s.size = 0 by omega)
    have er : right s n = false := by simp [right, h0]
    rw [er]
    go_enter Try.func11, Try.ntmps11
    go_wp2
    go_ret
    exact ⟨rfl, Below.refl _ _⟩

/-- What a slice of numbers that came in holds. -/
structure Nums (B : Nat) (v : Value) (z : List Int) (w : World) : Prop where
  is : (z = [] ∧ ∃ a c, v = .slice a 0 c) ∨ ∃ g o c, v = .slice (some ⟨g, o, none⟩) z.length c ∧ g < B ∧ ∀ j, j < z.length → w.cell? ⟨g, o + j, none⟩ = some (.int .i64 (z.getD j 0))

theorem Nums.later {B : Nat} {v : Value} {z : List Int} {w u : World} (h : Nums B v z w) (hb : Below B w u) : Nums B v z u := by
  rcases h.is with h | ⟨g, o, c, h1, h2, h3⟩
  · exact ⟨.inl h⟩
  · exact ⟨.inr ⟨g, o, c, h1, h2, fun j hj => by rw [hb.cell (by exact h2)]; exact h3 j hj⟩⟩

theorem Nums.contains {B : Nat} {v : Value} {z : List Int} {w : World} (h : Nums B v z w) (hz : z.length ≤ 1000) (x : Int) :
    Calls Try.prog 32 #[v, .int .i64 x] w fun e w' => e = .returned (.bool (z.contains x)) ∧ w' = w := by
  rcases h.is with ⟨rfl, a, c, rfl⟩ | ⟨g, o, c, rfl, h2, h3⟩
  · exact contains_none a c x w
  · have := contains_call g o z.length c z x w (Nat.le_refl _) (by omega) h3
    rw [List.take_length] at this
    exact this

set_option maxHeartbeats 1600000 in
theorem only_any (s : ByteArray) (v : Value) (z : List Int) (w : World) (hs : s.size ≤ 1000000) (hz : z.length ≤ 1000) (hv : Nums w.heap.size v z w) :
    Calls Try.prog 21 #[.string s, v] w fun e w' => e = .returned (.bool (Sg.onl z (Sg.fr s 0))) ∧ Below w.heap.size w w' := by
  go_enter Try.func21, Try.ntmps21
  go_wp2
  go_loopg [] s.size (fun gh wr => ∃ k : Nat, s.size - Sg.pa s k ≤ gh ∧ k ≤ Sg.len s ∧ Sg.onl z (Sg.fr s (Sg.pa s k)) = Sg.onl z (Sg.fr s 0) ∧ wr = w.iter s (Sg.pa s k))
  case atStart => exact ⟨0, by simp [Sg.pa], by omega, rfl, rfl⟩
  case round =>
    obtain ⟨k, hgh, hk, hf, rfl⟩ := hrel
    by_cases hp : k < Sg.len s
    · have hlt := Sg.pa_lt s k hp
      have hnx : ∀ ty, (Instr.next (.pointer (some ⟨w.heap.size, 0, none⟩)) true ty).run Try.prog (w.iter s (Sg.pa s k)) = _ := fun ty => run_next_any w s (Sg.pa s k) ty hlt
      have h1 := Sg.wd_pos s (Sg.pa s k)
      have ks := sort_any ((Utf8.decode s (Sg.pa s k)).1 : Int)
      have kc := (hv.later (below_iter w s (Sg.pa s k + (Utf8.decode s (Sg.pa s k)).2))).contains hz (sort ((Utf8.decode s (Sg.pa s k)).1 : Int))
      have hstep : Sg.onl z (Sg.fr s (Sg.pa s k)) = (z.contains (sort (Sg.rn s (Sg.pa s k) : Int)) && Sg.onl z (Sg.fr s (Sg.pa s (k + 1)))) := by
        rw [Sg.fr_step s _ hlt]
        rfl
      by_cases hc : z.contains (sort (Sg.rn s (Sg.pa s k) : Int)) = true
      · have e : Aside (Sg.onl z (Sg.fr s (Sg.pa s (k + 1))) = Sg.onl z (Sg.fr s 0)) := by
          show _ = _
          rw [← hf, hstep, hc, Bool.true_and]
        have hc2 : z.contains (sort ((Utf8.decode s (Sg.pa s k)).1 : Int)) = true := hc
        rw [hc2] at kc
        clear hf hc hstep hc2
        go_wp2_with (first
          | (go_at_call 7; refine (ks _).mono ?_; rintro e w1 ⟨rfl, rfl⟩)
          | (go_at_call 32; refine kc.mono ?_; rintro e w1 ⟨rfl, rfl⟩))
        go_roundg (s.size - Sg.pa s (k + 1))
        case measure => show s.size - (Sg.pa s k + Sg.wd s (Sg.pa s k)) < _; omega
        case rel => exact ⟨k + 1, Nat.le_refl _, by omega, e.out, rfl⟩
      · have hc : z.contains (sort (Sg.rn s (Sg.pa s k) : Int)) = false := by simpa using hc
        have e : Aside (Sg.onl z (Sg.fr s 0) = false) := by
          show _ = _
          rw [← hf, hstep, hc]
          rfl
        have hc2 : z.contains (sort ((Utf8.decode s (Sg.pa s k)).1 : Int)) = false := hc
        rw [hc2] at kc
        clear hf hc hstep hc2
        go_wp2_with (first
          | (go_at_call 7; refine (ks _).mono ?_; rintro e w1 ⟨rfl, rfl⟩)
          | (go_at_call 32; refine kc.mono ?_; rintro e w1 ⟨rfl, rfl⟩))
        go_ret
        exact ⟨by rw [e.out]; rfl, below_iter w s _⟩
    · obtain rfl : k = Sg.len s := by omega
      have hnx : ∀ ty, (Instr.next (.pointer (some ⟨w.heap.size, 0, none⟩)) true ty).run Try.prog (w.iter s (Sg.pa s (Sg.len s))) = _ := fun ty => run_next_end w s _ ty (by rw [Sg.pa_end]; omega)
      have e : Aside (Sg.onl z (Sg.fr s 0) = true) := by
        show _ = _
        rw [← hf, Sg.fr_end s _ (by rw [Sg.pa_end]; omega)]
        rfl
      clear hf
      go_wp2
      go_ret
      exact ⟨by rw [e.out]; rfl, below_iter w s _⟩
end Go.Proofs.Ytacipegcenfbeaa
