/-
  What goes over a text sign by sign and makes nothing: how many signs, what is cut, which sign is the first, whether a text may be, whether all are of some sorts.
-/
import Derived.Test.YtkijglkjpgjdaaaDoorSM
import Derived.Laws.RangeAny
import Derived.WalkSmall
namespace Go.Proofs.YtkijglkjpgjdaaaDoor.Si
open Go.RowKit

theorem below_iter (w : World) (s : ByteArray) (p : Nat) : Below w.heap.size w (w.iter s p) := (Below.refl _ _).alloc (Nat.le_refl _) _

/-- May it be? -/
def right (s : ByteArray) (n : Int) : Bool := decide (1 ≤ s.size) && decide ((s.size : Int) ≤ n) && Sg.calm s 0

theorem toList_empty {s : ByteArray} (h : s.size = 0) : (s.toList == []) = true := by
  have : s.data = #[] := Array.eq_empty_of_size_eq_zero h
  rw [ByteArray.toList_eq, this]
  rfl

theorem toList_some {s : ByteArray} (h : 1 ≤ s.size) : (s.toList == []) = false := by
  rw [ByteArray.toList_eq, beq_eq_false_iff_ne]
  intro he
  have : s.data.size = 0 := by rw [← Array.length_toList, he]; rfl
  have h2 : s.data.size = s.size := rfl
  omega

set_option maxHeartbeats 1600000 in
theorem right_any (s : ByteArray) (n : Int) (w : World) (hs : s.size ≤ 1000000) :
    Calls Tryd.prog 63 #[.string s, .int .i64 n] w fun e w' => e = .returned (.bool (right s n)) ∧ Below w.heap.size w w' := by
  by_cases h0 : 1 ≤ s.size
  · have d0 := toList_some h0
    by_cases h1 : (s.size : Int) ≤ n
    · have d1 : decide (n < (s.size : Int)) = false := by simp; omega
      have er : right s n = Sg.calm s 0 := by simp [right, h0, h1]
      rw [er]
      go_enter Tryd.func63, Tryd.ntmps63
      go_wp2
      go_loopg [] s.size (fun gh wr => ∃ k : Nat, s.size - Sg.pa s k ≤ gh ∧ k ≤ Sg.len s ∧ Sg.calm s (Sg.pa s k) = Sg.calm s 0 ∧ wr = w.iter s (Sg.pa s k))
      case atStart => exact ⟨0, by simp [Sg.pa], by omega, rfl, rfl⟩
      case round =>
        obtain ⟨k, hgh, hk, hf, rfl⟩ := hrel
        by_cases hp : k < Sg.len s
        · have hlt := Sg.pa_lt s k hp
          have hnx : ∀ ty, (Instr.next (.pointer (some ⟨w.heap.size, 0, none⟩)) true ty).run Tryd.prog (w.iter s (Sg.pa s k)) = _ := fun ty => run_next_any w s (Sg.pa s k) ty hlt
          have h1 := Sg.wd_pos s (Sg.pa s k)
          have ks := sort_any ((Utf8.decode s (Sg.pa s k)).1 : Int)
          have hstep : Sg.calm s (Sg.pa s k) = (sort (Sg.rn s (Sg.pa s k) : Int) != 0 && Sg.calm s (Sg.pa s (k + 1))) := by
            show (Sg.fr s (Sg.pa s k)).all _ = _
            rw [Sg.fr_step s _ hlt]
            rfl
          by_cases hc : sort (Sg.rn s (Sg.pa s k) : Int) = 0
          · have d2 : (sort ((Utf8.decode s (Sg.pa s k)).1 : Int) == 0) = true := by rw [beq_iff_eq]; exact hc
            have e : Aside (Sg.calm s 0 = false) := by
              show _ = _
              rw [← hf, hstep, hc]
              rfl
            clear hf hc hstep
            go_wp2_with (go_at_call 48; refine (ks _).mono ?_; rintro e w1 ⟨rfl, rfl⟩)
            go_ret
            exact ⟨by rw [e.out]; rfl, below_iter w s _⟩
          · have d2 : (sort ((Utf8.decode s (Sg.pa s k)).1 : Int) == 0) = false := by rw [beq_eq_false_iff_ne]; exact hc
            have e : Aside (Sg.calm s (Sg.pa s (k + 1)) = Sg.calm s 0) := by
              show _ = _
              rw [← hf, hstep, show (sort (Sg.rn s (Sg.pa s k) : Int) != 0) = true by simpa using hc, Bool.true_and]
            clear hf hc hstep
            go_wp2_with (go_at_call 48; refine (ks _).mono ?_; rintro e w1 ⟨rfl, rfl⟩)
            go_roundg (s.size - Sg.pa s (k + 1))
            case measure => show s.size - (Sg.pa s k + Sg.wd s (Sg.pa s k)) < _; omega
            case rel => exact ⟨k + 1, Nat.le_refl _, by omega, e.out, rfl⟩
        · obtain rfl : k = Sg.len s := by omega
          have hnx : ∀ ty, (Instr.next (.pointer (some ⟨w.heap.size, 0, none⟩)) true ty).run Tryd.prog (w.iter s (Sg.pa s (Sg.len s))) = _ := fun ty => run_next_end w s _ ty (by rw [Sg.pa_end]; omega)
          have e : Aside (Sg.calm s 0 = true) := by
            show _ = _
            rw [← hf]
            unfold Sg.calm
            rw [Sg.fr_end s _ (by rw [Sg.pa_end]; omega)]
            rfl
          clear hf
          go_wp2
          go_ret
          exact ⟨by rw [e.out]; rfl, below_iter w s _⟩
    · have d1 : decide (n < (s.size : Int)) = true := by simp; omega
      have er : right s n = false := by simp [right, h1]
      rw [er]
      go_enter Tryd.func63, Tryd.ntmps63
      go_wp2
      go_ret
      exact ⟨rfl, Below.refl _ _⟩
  · have d0 := toList_empty (show s.size = 0 by omega)
    have er : right s n = false := by simp [right, h0]
    rw [er]
    go_enter Tryd.func63, Tryd.ntmps63
    go_wp2
    go_ret
    exact ⟨rfl, Below.refl _ _⟩

/-- What a slice of numbers that came in holds. -/
structure Nums (B : Nat) (v : Value) (z : List Int) (w : World) : Prop where
  is : (z = [] ∧ ∃ a c, v = .slice a 0 c) ∨ ∃ g o c, v = .slice (some ⟨g, o, none⟩) z.length c ∧ g < B ∧ ∀ j, j < z.length → w.cell? ⟨g, o + j, none⟩ = some (.int .i64 (z.getD j 0))

theorem Nums.later {B : Nat} {v : Value} {z : List Int} {w u : World} (h : Nums B v z w) (hb : Below B w u) : Nums B v z u := by
  rcases h.is with h | ⟨g, o, c, h1, h2, h3⟩
  · exact ⟨.inl h⟩
  · exact ⟨.inr ⟨g, o, c, h1, h2, fun j hj => by rw [hb.cell (by exact h2)]; exact h3 j hj⟩⟩

end Go.Proofs.YtkijglkjpgjdaaaDoor.Si
