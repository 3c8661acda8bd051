/-
  Whether a text may be, and its words, as the document tells them.
-/
import Derived.Test.YtkijglkjpgjdaaaDoorSF2
namespace Go.Proofs.YtkijglkjpgjdaaaDoor.Si
open Go.RowKit

/-- Texts as cells. -/
def cellsS (l : List ByteArray) : List Value := l.map Value.string
theorem cellsS_snoc (l : List ByteArray) (x : ByteArray) : cellsS l ++ [.string x] = cellsS (l ++ [x]) := by
  simp [cellsS]

/-- What a slice of texts holds. -/
def Strs (B : Nat) (v : Value) (l : List ByteArray) (w : World) : Prop :=
  ∃ a c, v = .slice a l.length c ∧ ∀ j, j < l.length → ∃ g o, a = some ⟨g, o, none⟩ ∧ g < B ∧ w.cell? ⟨g, o + j, none⟩ = some (.string (l.getD j ⟨#[]⟩))

theorem Strs.of_own {w : World} {base : Nat} {v : Value} {l : List ByteArray} (h : w.ownsRow base 9 1 v l.length (cellsS l)) : Strs w.heap.size v l w := by
  rcases h.2 with ⟨rfl, h0⟩ | ⟨g, cap, cur, rfl, hg, hh, _⟩
  · have : l = [] := List.eq_nil_of_length_eq_zero h0
    subst this
    exact ⟨none, 0, rfl, fun j hj => absurd hj (by simp)⟩
  · refine ⟨_, cap, rfl, fun j hj => ⟨g, 0, rfl, (Array.getElem?_eq_some_iff.1 hh).1, ?_⟩⟩
    rw [Nat.zero_add, h.cellAt j (by omega)]
    simp [cellsS, List.getD, List.getElem?_eq_getElem hj]

theorem Strs.later {B : Nat} {v : Value} {l : List ByteArray} {w u : World} (h : Strs B v l w) (hb : Below B w u) : Strs B v l u := by
  obtain ⟨a, c, h1, h2⟩ := h
  refine ⟨a, c, h1, fun j hj => ?_⟩
  obtain ⟨g, o, h3, h4, h5⟩ := h2 j hj
  exact ⟨g, o, h3, h4, by rw [hb.cell (by exact h4)]; exact h5⟩

theorem zs_at {s : ByteArray} {k : Nat} (h : k < Sg.len s) : (zs (Sg.sigs s)).getD k 0 = ((Sg.rn s (Sg.pa s k) : Nat) : Int) := by
  simp [zs, List.getD, Sg.sigs_at s k h]

set_option maxHeartbeats 1600000 in
set_option maxRecDepth 1000000 in
theorem refRight_any (s : ByteArray) (n : Int) (w : World) (hs : s.size ≤ 200000) :
    Calls Tryd.prog 40 #[.string s, .int .i64 n] w fun e w' => e = .returned (.bool (right s n)) ∧ Below w.heap.size w w' := by
  by_cases h0 : 1 ≤ s.size
  · have d0 : decide ((s.size : Int) < 1) = false := by simp; omega
    by_cases h1 : (s.size : Int) ≤ n
    · have d1 : decide (n < (s.size : Int)) = false := by simp; omega
      have er : right s n = Sg.calm s 0 := by simp [right, h0, h1]
      rw [er]
      have kS := signs_any s w hs
      go_enter Tryd.func40, Tryd.ntmps40
      go_wp2_with (go_at_call 27; refine kS.mono ?_; rintro e w1 ⟨v1, v2, rfl, hn1, hn2, hb1⟩)
      clear kS
      have hls := Sg.len_size s
      obtain ⟨a, c, rfl, hc⟩ := hn1.form
      rw [zs_length, Sg.sigs_length] at *
      go_loopg [7] (Sg.len s) (fun gh s7 wr => ∃ k : Nat, Sg.len s - k ≤ gh ∧ k ≤ Sg.len s ∧ s7 = .int .i64 (k : Int) ∧ Sg.calm s (Sg.pa s k) = Sg.calm s 0 ∧ wr = w1)
      case atStart => exact ⟨0, by omega, by omega, rfl, rfl, rfl⟩
      case round =>
        obtain ⟨k, hgh, hk, rfl, hf, rfl⟩ := hrel
        by_cases hp : k < Sg.len s
        · obtain ⟨g, o, rfl, hg, hcell⟩ := hc k hp
          rw [zs_at hp] at hcell
          have dk : decide (k < Sg.len s) = true := by simpa using hp
          have hlt := Sg.pa_lt s k hp
          have ks := refSort_any ((Sg.rn s (Sg.pa s k) : Nat) : Int)
          have hstep : Sg.calm s (Sg.pa s k) = (sort (Sg.rn s (Sg.pa s k) : Int) != 0 && Sg.calm s (Sg.pa s (k + 1))) := by
            show (Sg.fr s (Sg.pa s k)).all _ = _
            rw [Sg.fr_step s _ hlt]
            rfl
          by_cases hz : sort (Sg.rn s (Sg.pa s k) : Int) = 0
          · have d2 : (sort ((Sg.rn s (Sg.pa s k) : Nat) : Int) == 0) = true := by rw [beq_iff_eq]; exact hz
            have e : Aside (Sg.calm s 0 = false) := by
              show _ = _
              rw [← hf, hstep, hz]
              rfl
            clear hf hz hstep hc
            go_wp2_with (go_at_call 28; refine (ks _).mono ?_; rintro e w2 ⟨rfl, rfl⟩)
            go_ret
            exact ⟨by rw [e.out]; rfl, hb1⟩
          · have d2 : (sort ((Sg.rn s (Sg.pa s k) : Nat) : Int) == 0) = false := by rw [beq_eq_false_iff_ne]; exact hz
            have e : Aside (Sg.calm s (Sg.pa s (k + 1)) = Sg.calm s 0) := by
              show _ = _
              rw [← hf, hstep, show (sort (Sg.rn s (Sg.pa s k) : Int) != 0) = true by simpa using hz, Bool.true_and]
            clear hf hz hstep hc
            go_wp2_with (go_at_call 28; refine (ks _).mono ?_; rintro e w2 ⟨rfl, rfl⟩)
            go_roundg (Sg.len s - (k + 1))
            case measure => omega
            case rel => exact ⟨k + 1, Nat.le_refl _, by omega, by go_num, e.out, rfl⟩
        · obtain rfl : k = Sg.len s := by omega
          have dk : decide (Sg.len s < Sg.len s) = false := by simp
          have e : Aside (Sg.calm s 0 = true) := by
            show _ = _
            rw [← hf]
            unfold Sg.calm
            rw [Sg.fr_end s _ (by rw [Sg.pa_end]; omega)]
            rfl
          clear hf
          go_wp2
          go_ret
          exact ⟨by rw [e.out]; rfl, hb1⟩
    · have d1 : decide (n < (s.size : Int)) = true := by simp; omega
      have er : right s n = false := by simp [right, h1]
      rw [er]
      go_enter Tryd.func40, Tryd.ntmps40
      go_wp2
      go_ret
      exact ⟨rfl, Below.refl _ _⟩
  · have d0 : decide ((s.size : Int) < 1) = true := by simp; omega
    have er : right s n = false := by simp [right, h0]
    rw [er]
    go_enter Tryd.func40, Tryd.ntmps40
    go_wp2
    go_ret
    exact ⟨rfl, Below.refl _ _⟩

theorem cut_none (s : ByteArray) (p : Nat) : s.extract p p = ⟨#[]⟩ := by
  apply ByteArray.ext
  simp

theorem cut_size (s : ByteArray) (a p : Nat) (h : p ≤ s.size) : (s.extract a p).size = p - a := by
  simp
  omega

theorem toList_ne_some {s : ByteArray} (h : 1 ≤ s.size) : s.toList.isEmpty = false := by
  have := toList_some h
  simpa using this
theorem toList_ne_empty {s : ByteArray} (h : s.size = 0) : s.toList.isEmpty = true := by
  have := toList_empty h
  simpa using this

end Go.Proofs.YtkijglkjpgjdaaaDoor.Si
