/-
  Whether a text may be, and its words, as the document tells them.
-/
import Derived.Test.YtacipegcenfbeaaF3
namespace Go.Proofs.Ytacipegcenfbeaa
open Go.RowKit

/-- What a slice of texts holds. -/
def Strs (B : Nat) (v : Value) (l : List ByteArray) (w : World) : Prop :=
  ∃ a c, v = .slice a l.length c ∧ ∀ j, j < l.length → ∃ g o, a = some ⟨g, o, none⟩ ∧ g < B ∧ w.cell? ⟨g, o + j, none⟩ = some (.string (l.getD j ⟨#[]⟩))

theorem Strs.of_own {w : World} {base : Nat} {v : Value} {l : List ByteArray} (h : w.ownsRow base 9 1 v l.length (cellsS l)) : Strs w.heap.size v l w := by
  rcases h.2 with ⟨rfl, h0⟩ | ⟨g, cap, cur, rfl, hg, hh, _⟩
  · have : l = [] := List.eq_nil_of_length_eq_zero h0
    subst this
    exact ⟨none, 0, rfl, fun j hj => absurd hj (by simp)⟩
  · refine ⟨_, cap, rfl, fun j hj => ⟨g, 0, rfl, (Array.getElem?_eq_some_iff.1 hh).1, ?_⟩⟩
    rw [Nat.zero_add, h.cellAt j (by omega)]
    simp [cellsS, List.getD, List.getElem?_eq_getElem hj]

theorem Strs.later {B : Nat} {v : Value} {l : List ByteArray} {w u : World} (h : Strs B v l w) (hb : Below B w u) : Strs B v l u := by
  obtain ⟨a, c, h1, h2⟩ := h
  refine ⟨a, c, h1, fun j hj => ?_⟩
  obtain ⟨g, o, h3, h4, h5⟩ := h2 j hj
  exact ⟨g, o, h3, h4, by rw [hb.cell (by exact h4)]; exact h5⟩

set_option maxHeartbeats 1600000 in
set_option maxRecDepth 1000000 in
theorem refRight_any (s : ByteArray) (n : Int) (w : World) (hs : s.size ≤ 200000) :
    Calls Try.prog 12 #[.string s, .int .i64 n] w fun e w' => e = .returned (.bool (right s n)) ∧ Below w.heap.size w w' := by
  by_cases h0 : 1 ≤ s.size
  · have d0 : decide ((s.size : Int) < 1) = false := by simp; omega
    by_cases h1 : (s.size : Int) ≤ n
    · have d1 : decide (n < (s.size : Int)) = false := by simp; omega
      have er : right s n = Sg.calm s 0 := by simp [right, h0, h1]
      rw [er]
      have kS := signs_any s w hs
      go_enter Try.func12, Try.ntmps12
      go_wp2_with (go_at_call 9; refine kS.mono ?_; rintro e w1 ⟨v1, v2, rfl, hn1, hn2, hb1⟩)
      clear kS
      have hls := Sg.len_size s
      obtain ⟨a, c, rfl, hc⟩ := hn1.form
      rw [zs_length, Sg.sigs_length] at *
      go_loopg [7] (Sg.len s) (fun gh s7 wr => ∃ k : Nat, Sg.len s - k ≤ gh ∧ k ≤ Sg.len s ∧ s7 = .int .i64 (k : Int) ∧ Sg.calm s (Sg.pa s k) = Sg.calm s 0 ∧ wr = w1)
      case atStart => exact ⟨0, by omega, by omega, rfl, rfl, rfl⟩
      case round =>
        obtain ⟨k, hgh, hk, rfl, hf, rfl⟩ := hrel
        by_cases hp : k < Sg.len s
        · obtain ⟨g, o, rfl, hg, hcell⟩ := hc k hp
          rw [zs_at hp] at hcell
          have dk : decide (k < Sg.len s) = true := by simpa using hp
          have hlt := Sg.pa_lt s k hp
          have ks := refSort_any ((Sg.rn s (Sg.pa s k) : Nat) : Int)
          have hstep : Sg.calm s (Sg.pa s k) = (sort (Sg.rn s (Sg.pa s k) : Int) != 0 && Sg.calm s (Sg.pa s (k + 1))) := by
            show (Sg.fr s (Sg.pa s k)).all _ = _
            rw [Sg.fr_step s _ hlt]
            rfl
          by_cases hz : sort (Sg.rn s (Sg.pa s k) : Int) = 0
          · have d2 : (sort ((Sg.rn s (Sg.pa s k) : Nat) : Int) == 0) = true := by rw [beq_iff_eq]; exact hz
            have e : Aside (Sg.calm s 0 = false) := by
              show _ = _
              rw [← hf, hstep, hz]
              rfl
            clear hf hz hstep hc
            go_wp2_with (go_at_call 8; refine (ks _).mono ?_; rintro e w2 ⟨rfl, rfl⟩)
            go_ret
            exact ⟨by rw [e.out]; rfl, hb1⟩
          · have d2 : (sort ((Sg.rn s (Sg.pa s k) : Nat) : Int) == 0) = false := by rw [beq_eq_false_iff_ne]; exact hz
            have e : Aside (Sg.calm s (Sg.pa s (k + 1)) = Sg.calm s 0) := by
              show _ = _
              rw [← hf, hstep, show (sort (Sg.rn s (Sg.pa s k) : Int) != 0) = true by simpa using hz, Bool.true_and]
            clear hf hz hstep hc
            go_wp2_with (go_at_call 8; refine (ks _).mono ?_; rintro e w2 ⟨rfl, rfl⟩)
            go_roundg (Sg.len s - (k + 1))
            case measure => omega
            case rel => exact ⟨k + 1, Nat.le_refl _, by omega, by go_num, e.out, rfl⟩
        · obtain rfl : k = Sg.len s := by omega
          have dk : decide (Sg.len s < Sg.len s) = false := by simp
          have e : Aside (Sg.calm s 0 = true) := by
            show _ = _
            rw [← hf]
            unfold Sg.calm
            rw [Sg.fr_end s _ (by rw [Sg.pa_end]; omega)]
            rfl
          clear hf
          go_wp2
          go_ret
          exact ⟨by rw [e.out]; rfl, hb1⟩
    · have d1 : decide (n < (s.size : Int)) = true := by simp; omega
      have er : right s n = false := by simp [right, h1]
      rw [er]
      go_enter Try.func12, Try.ntmps12
      go_wp2
      go_ret
      exact ⟨rfl, Below.refl _ _⟩
  · have d0 : decide ((s.size : Int) < 1) = true := by simp; omega
    have er : right s n = false := by simp [right, h0]
    rw [er]
    go_enter Try.func12, Try.ntmps12
    go_wp2
    go_ret
    exact ⟨rfl, Below.refl _ _⟩

theorem cut_none (s : ByteArray) (p : Nat) : s.extract p p = ⟨#[]⟩ := by
  apply ByteArray.ext
  simp

theorem cut_size (s : ByteArray) (a p : Nat) (h : p ≤ s.size) : (s.extract a p).size = p - a := by
  simp
  omega

theorem toList_ne_some {s : ByteArray} (h : 1 ≤ s.size) : s.toList.isEmpty = false := by
  have := toList_some h
  simpa using this
theorem toList_ne_empty {s : ByteArray} (h : s.size = 0) : s.toList.isEmpty = true := by
  have := toList_empty h
  simpa using this

/-- What holds at each round's head. -/
def XRel (s : ByteArray) (w1 : World) (v s6 s7 : Value) (wr : World) (k : Nat) : Prop :=
  ∃ (st : Nat) (L : List ByteArray), s6 = .string (s.extract st (Sg.pa s k)) ∧ s7 = .int .i64 (k : Int) ∧ wr.ownsRow w1.heap.size 9 1 v L.length (cellsS L) ∧ Below w1.heap.size w1 wr ∧
    L ++ Sg.wf s st (Sg.fr s (Sg.pa s k)) = Sg.words s ∧ st ≤ Sg.pa s k ∧ L.length ≤ k ∧ k ≤ Sg.len s

set_option maxHeartbeats 1600000 in
set_option maxRecDepth 1000000 in
theorem refWords_any (s : ByteArray) (w : World) (hs : s.size ≤ 200000) :
    Calls Try.prog 19 #[.string s] w fun e w' => ∃ v, e = .returned v ∧ Strs w'.heap.size v (Sg.words s) w' ∧ Below w.heap.size w w' := by
  obtain ⟨i0, hi, hz0, hz1, hz2⟩ := info_parts info9
  have kS := signs_any s w hs
  go_enter Try.func19, Try.ntmps19
  go_wp2_with (go_at_call 9; refine kS.mono ?_; rintro e w1 ⟨v1, v2, rfl, hn1, hn2, hb1⟩)
  clear kS
  have hls := Sg.len_size s
  obtain ⟨a, c, rfl, hc⟩ := hn1.form
  obtain ⟨a2, c2, rfl, hc2⟩ := hn2.form
  rw [zs_length, Sg.sigs_length] at *
  rw [zs_length, Sg.ats_length] at *
  go_loopg [3, 6, 7] (Sg.len s) (fun gh v s6 s7 wr => ∃ k : Nat, Sg.len s - k ≤ gh ∧ XRel s w1 v s6 s7 wr k)
  case atStart => exact ⟨0, by omega, 0, [], by rw [show Sg.pa s 0 = 0 from rfl, cut_none], rfl, World.ownsRow_nil _ _ _ _, Below.refl _ _, rfl, by omega, by simp, by omega⟩
  case round =>
    obtain ⟨k, hgh, st, L, rfl, rfl, hown, hbw, hl, hst, hLk, hk⟩ := hrel
    by_cases hp : k < Sg.len s
    · obtain ⟨g, o, rfl, hg, hcell⟩ := hc k hp
      obtain ⟨g2, o2, rfl, hg2, hcell2⟩ := hc2 k hp
      rw [zs_at hp, ← hbw.cell (by exact hg)] at hcell
      rw [za_at hp, ← hbw.cell (by exact hg2)] at hcell2
      have dk : decide (k < Sg.len s) = true := by simpa using hp
      have hlt := Sg.pa_lt s k hp
      have hwl := Sg.wd_le s (Sg.pa s k) hlt
      have ks := refSort_any ((Sg.rn s (Sg.pa s k) : Nat) : Int)
      have hsz := hbw.size
      have z1 := cut_size s st (Sg.pa s k) (by omega)
      by_cases hb : sort ((Sg.rn s (Sg.pa s k) : Nat) : Int) = 1
      · have d1 : (sort ((Sg.rn s (Sg.pa s k) : Nat) : Int) == 1) = true := by rw [beq_iff_eq]; exact hb
        rw [wf_blank s st _ hlt hb] at hl
        by_cases hsl : st < Sg.pa s k
        · have d2 : (s.extract st (Sg.pa s k)).toList.isEmpty = false := toList_ne_some (by omega)
          rw [if_pos hsl, ← List.append_assoc] at hl
          have hA : Aside (L ++ [s.extract st (Sg.pa s k)] ++ Sg.wf s (Sg.pa s (k + 1)) (Sg.fr s (Sg.pa s (k + 1))) = Sg.words s) := hl
          clear hl hb hc hc2 hcell2
          go_wp2_with (first
            | (go_at_call 8; refine (ks _).mono ?_; rintro e w2 ⟨rfl, rfl⟩)
            | (at_builtin; refine wpList_append_own _ rfl (.tmp 28) (.tmp 30) 34 rfl w1.heap.size 9 i0 (.string ⟨#[]⟩) 1 16 Try.underlying34 hi hz0 hz1 hz2 rfl (by decide) _ _ _ rfl (hown.alloc _) ⟨_, 0, none⟩ 1 1 [.string (s.extract st (Sg.pa s k))] rfl rfl ?c1 ?c2 ?c3 ?c4 ?c5 ?_))
          case c1 => exact (cell_one_new _ _ _)
          case c2 => intro u hu; simp at hu; subst hu; rfl
          case c3 => unfold maxLen; omega
          case c4 => omega
          case c5 => simp; omega
          intro v' w3 hown' hgrow _
          go_wp2
          go_roundg (Sg.len s - (k + 1))
          case measure => omega
          case rel =>
            refine ⟨k + 1, Nat.le_refl _, Sg.pa s (k + 1), L ++ [s.extract st (Sg.pa s k)], by rw [cut_none], by go_num, ?_, ?_, hA.out, by omega, by simp; omega, by omega⟩
            · rw [← cellsS_snoc, List.length_append]; exact hown'
            · exact ((hbw.alloc (by omega) _).grown hgrow (by simp; omega) (fun j hj => (hown.lt j hj).1))
        · have d2 : (s.extract st (Sg.pa s k)).toList.isEmpty = true := toList_ne_empty (by omega)
          rw [if_neg hsl, List.nil_append] at hl
          have hA : Aside (L ++ Sg.wf s (Sg.pa s (k + 1)) (Sg.fr s (Sg.pa s (k + 1))) = Sg.words s) := hl
          clear hl hb hc hc2 hcell2
          go_wp2_with (go_at_call 8; refine (ks _).mono ?_; rintro e w2 ⟨rfl, rfl⟩)
          go_roundg (Sg.len s - (k + 1))
          case measure => omega
          case rel => exact ⟨k + 1, Nat.le_refl _, Sg.pa s (k + 1), L, by rw [cut_none], by go_num, hown, hbw, hA.out, by omega, by omega, by omega⟩
      · have d1 : (sort ((Sg.rn s (Sg.pa s k) : Nat) : Int) == 1) = false := by rw [beq_eq_false_iff_ne]; exact hb
        rw [wf_other s st _ hlt hb] at hl
        have hA : Aside (L ++ Sg.wf s st (Sg.fr s (Sg.pa s (k + 1))) = Sg.words s) := hl
        have hq : Sg.pa s k < Sg.pa s (k + 1) := by
          have := Sg.wd_pos s (Sg.pa s k)
          show _ < Sg.pa s k + _
          omega
        have hqs : Sg.pa s (k + 1) ≤ s.size := hwl
        have z2 := cut_size s (Sg.pa s k) (Sg.pa s (k + 1)) hqs
        by_cases hm : k + 1 < Sg.len s
        · obtain ⟨g3, o3, e3, hg3, hcell3⟩ := hc2 (k + 1) hm
          rw [za_at hm, ← hbw.cell (by exact hg3)] at hcell3
          simp only [Option.some.injEq, Addr.mk.injEq] at e3
          obtain ⟨rfl, rfl, _⟩ := e3
          have dm : decide (k + 1 < Sg.len s) = true := by simpa using hm
          clear hl hb hc hc2
          go_wp2_with (go_at_call 8; refine (ks _).mono ?_; rintro e w2 ⟨rfl, rfl⟩)
          go_roundg (Sg.len s - (k + 1))
          case measure => omega
          case rel => exact ⟨k + 1, Nat.le_refl _, st, L, by rw [Nat.max_eq_right (by omega)], by go_num, hown, hbw, hA.out, by omega, by omega, by omega⟩
        · have hpe : Sg.pa s (k + 1) = s.size := by
            rw [show k + 1 = Sg.len s by omega]
            exact Sg.pa_end s
          have dm : decide (k + 1 < Sg.len s) = false := by simpa using hm
          rw [hpe] at z2
          clear hl hb hc hc2
          go_wp2_with (go_at_call 8; refine (ks _).mono ?_; rintro e w2 ⟨rfl, rfl⟩)
          go_roundg (Sg.len s - (k + 1))
          case measure => omega
          case rel => exact ⟨k + 1, Nat.le_refl _, st, L, by rw [hpe, Nat.max_eq_right (by omega)], by go_num, hown, hbw, hA.out, by omega, by omega, by omega⟩
    · obtain rfl : k = Sg.len s := by omega
      have dk : decide (Sg.len s < Sg.len s) = false := by simp
      have hsz := hbw.size
      rw [Sg.fr_end s _ (by rw [Sg.pa_end]; omega)] at hl
      rw [Sg.pa_end] at hst ⊢
      clear hc hc2 hn1 hn2
      have z1 := cut_size s st s.size (Nat.le_refl _)
      by_cases hse : st < s.size
      · have d2 : (s.extract st s.size).toList.isEmpty = false := toList_ne_some (by omega)
        have hA : Aside (L ++ [s.extract st s.size] = Sg.words s) := by
          show _ = _
          simpa [Sg.wf, hse] using hl
        clear hl
        go_wp2_with (at_builtin; go_must (refine wpList_append_own _ rfl (.tmp 55) (.tmp 57) 34 rfl w1.heap.size 9 i0 (.string ⟨#[]⟩) 1 16 Try.underlying34 hi hz0 hz1 hz2 rfl (by decide) _ _ _ rfl (hown.alloc _) ⟨_, 0, none⟩ 1 1 [.string (s.extract st s.size)] rfl rfl ?c1 ?c2 ?c3 ?c4 ?c5 ?_))
        case c1 => exact (cell_one_new _ _ _)
        case c2 => intro u hu; simp at hu; subst hu; rfl
        case c3 => unfold maxLen; omega
        case c4 => omega
        case c5 => simp; omega
        intro v' w3 hown' hgrow _
        go_wp2
        go_ret
        have hb3 := (hbw.alloc (by omega) (.cells #[.string (s.extract st s.size)] 9)).grown hgrow (by simp; omega) (fun j hj => (hown.lt j hj).1)
        refine ⟨_, rfl, Strs.of_own (base := w1.heap.size) ?_, hb1.trans (hb3.mono hb1.size)⟩
        rw [← hA.out, ← cellsS_snoc, List.length_append]
        exact hown'
      · have d2 : (s.extract st s.size).toList.isEmpty = true := toList_ne_empty (by omega)
        have hA : Aside (L = Sg.words s) := by
          show _ = _
          simpa [Sg.wf, hse] using hl
        clear hl
        go_wp2
        go_ret
        refine ⟨_, rfl, Strs.of_own (base := w1.heap.size) ?_, hb1.trans (hbw.mono hb1.size)⟩
        rw [← hA.out]
        exact hown
end Go.Proofs.Ytacipegcenfbeaa
