/-
  Size, First.
-/
import Derived.Test.YtknobijonpdbbaaF2
import Derived.OwnWalk
namespace Go.Proofs.Ytknobijonpdbbaa
open Go.RowKit
theorem asd {p : Prop} (h : p) : Aside p := h
theorem size_any (n : Int) (w : World) :
    Calls Try.prog 11 #[.int .i64 n] w fun e w' => e = .returned (.int .i64 (if n < 0 ∨ 2000 < n then 0 else n + 10)) ∧ w' = w := by
  by_cases h0 : n < 0
  · have d0 : decide (n < 0) = true := by simpa using h0
    rw [if_pos (.inl h0)]
    go_enter Try.func11, Try.ntmps11
    go_wp2
    go_ret
    exact ⟨rfl, rfl⟩
  · have d0 : decide (n < 0) = false := by simpa using h0
    by_cases h1 : 2000 < n
    · have d1 : decide (2000 < n) = true := by simpa using h1
      rw [if_pos (.inr h1)]
      go_enter Try.func11, Try.ntmps11
      go_wp2
      go_ret
      exact ⟨rfl, rfl⟩
    · have d1 : decide (2000 < n) = false := by simpa using h1
      rw [if_neg (by omega)]
      go_enter Try.func11, Try.ntmps11
      go_wp2
      go_ret
      exact ⟨by refine congrArg Ending.returned ?_; go_num, rfl⟩

theorem first_told (l : List UInt8) : Fr.first l = if (told l).2 ≠ 0 then ([], 0, (told l).2) else if l.length < (told l).1 + 10 then ([], 0, 3) else if Fr.sl ((l.drop 6).take (told l).1) ≠ (l.drop 6).take ((told l).1 + 4) then ([], 0, 4) else ((l.drop 6).take (told l).1, (told l).1 + 10, 0) := by
  unfold Fr.first told
  by_cases h1 : l.length < 6
  · simp [h1]
  · by_cases h2 : Fr.sl (l.take 2) ≠ l.take 6
    · simp [h1, h2]
    · by_cases h3 : 2000 < Fr.cnt l
      · rw [if_neg h1, if_neg h2, if_pos h3, if_neg h1, if_neg h2, if_pos h3]
        simp
      · rw [if_neg h1, if_neg h2, if_neg h3, if_neg h1, if_neg h2, if_neg h3]
        simp
theorem told_le (l : List UInt8) : (told l).1 ≤ 2000 := by
  unfold told
  repeat' split
  all_goals simp
  omega

/-- What First answers. -/
def fst3 (l : List UInt8) : Value := .tuple #[.string (bs (Fr.first l).1), .int .i64 ((Fr.first l).2.1 : Nat), .int .i64 ((Fr.first l).2.2 : Nat)]

theorem size_told (c : Nat) (w : World) (hc : c ≤ 2000) : Calls Try.prog 11 #[.int .i64 (c : Int)] w fun e w' => e = .returned (.int .i64 ((c + 10 : Nat) : Int)) ∧ w' = w := by
  have := size_any (c : Int) w
  rw [if_neg (by omega)] at this
  exact this

set_option maxHeartbeats 800000 in
theorem first_any (s : ByteArray) (w : World) (hs : s.size ≤ 1000000) :
    Calls Try.prog 14 #[.string s] w fun e w' => e = .returned (fst3 s.data.toList) ∧ Below w.heap.size w w' := by
  unfold fst3
  rw [first_told, list_len]
  have K := told_any s w hs
  have hc := told_le s.data.toList
  generalize told s.data.toList = ct at *
  obtain ⟨c, f⟩ := ct
  simp only at hc K ⊢
  by_cases h1 : f = 0
  · subst h1
    have T : Aside _ := fun w1 => size_told c w1 hc
    rw [if_neg (by simp)]
    by_cases h2 : s.size < c + 10
    · rw [if_pos h2]
      have d2 : decide ((s.size : Int) < ((c + 10 : Nat) : Int)) = true := by simp; omega
      generalize c + 10 = z at *
      go_enter Try.func14, Try.ntmps14
      go_wp2_with (first
        | (go_at_call 20; refine K.mono ?_; rintro e w1 ⟨rfl, hb1⟩; clear K)
        | (go_at_call 11; refine (T.out _).mono ?_; rintro e w2 ⟨rfl, rfl⟩))
      go_ret3
      exact ⟨rfl, hb1⟩
    · rw [if_neg h2]
      have d2 : decide ((s.size : Int) < ((c + 10 : Nat) : Int)) = false := by simp; omega
      have zc : (s.extract 6 (c + 10)).size = c + 4 := by simp; omega
      have lc : (s.extract 6 (c + 10)).data.toList = (s.data.toList.drop 6).take (c + 4) := by
        rw [list_cut, List.drop_take]
        congr 1
      have lb : ((s.extract 6 (c + 10)).extract 0 c).data.toList = (s.data.toList.drop 6).take c := by
        rw [list_cut, lc, List.drop_zero, List.take_take]
        congr 1
        omega
      have ko : ∀ u : World, _ := fun u : World => open_list (s.extract 6 (c + 10)) u (by omega) (by omega)
      simp only [zc, lc, Nat.add_sub_cancel, List.take_take, show min c (c + 4) = c by omega] at ko
      rw [← lb]
      by_cases h3 : Fr.sl ((s.extract 6 (c + 10)).extract 0 c).data.toList = (s.data.toList.drop 6).take (c + 4)
      · have h3' := h3
        rw [lb] at h3'
        simp only [if_pos h3', decide_eq_true h3'] at ko
        rw [if_neg (by simpa using h3)]
        simp only [bs_data]
        have KO := asd ko
        clear ko h3 h3' lb lc zc
        generalize (s.extract 6 (c + 10)).extract 0 c = b at *
        have hz : 6 ≤ c + 10 := by omega
        have hz2 : c + 10 ≤ s.size := by omega
        generalize c + 10 = z at *
        go_enter Try.func14, Try.ntmps14
        go_wp2_with (first
          | (go_at_call 20; refine K.mono ?_; rintro e w1 ⟨rfl, hb1⟩; clear K)
          | (go_at_call 11; refine (T.out _).mono ?_; rintro e w2 ⟨rfl, rfl⟩)
          | (go_at_call 21; refine (KO.out _).mono ?_; rintro e w3 ⟨rfl, hb3⟩))
        go_ret3
        exact ⟨rfl, hb1.trans (hb3.mono hb1.size)⟩
      · have h3' := h3
        rw [lb] at h3'
        simp only [if_neg h3', decide_eq_false h3'] at ko
        rw [if_pos (by simpa using h3)]
        have KO := asd ko
        clear ko h3 h3' lb lc zc
        have hz : 6 ≤ c + 10 := by omega
        have hz2 : c + 10 ≤ s.size := by omega
        generalize c + 10 = z at *
        go_enter Try.func14, Try.ntmps14
        go_wp2_with (first
          | (go_at_call 20; refine K.mono ?_; rintro e w1 ⟨rfl, hb1⟩; clear K)
          | (go_at_call 11; refine (T.out _).mono ?_; rintro e w2 ⟨rfl, rfl⟩)
          | (go_at_call 21; refine (KO.out _).mono ?_; rintro e w3 ⟨rfl, hb3⟩))
        go_ret3
        exact ⟨rfl, hb1.trans (hb3.mono hb1.size)⟩
  · rw [if_pos h1]
    have d1 : ((f : Int) != 0) = true := by simp; omega
    have d2 : ¬ ((f : Int) = 0) := by omega
    go_enter Try.func14, Try.ntmps14
    go_wp2_with (go_at_call 20; refine K.mono ?_; rintro e w1 ⟨rfl, hb1⟩; clear K)
    go_ret3
    exact ⟨rfl, hb1⟩
end Go.Proofs.Ytknobijonpdbbaa
