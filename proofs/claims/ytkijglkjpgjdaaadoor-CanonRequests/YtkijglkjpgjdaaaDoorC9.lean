/-
  Which of a path's parts are left, as the program goes through them.
-/
import Derived.Test.YtkijglkjpgjdaaaDoorC8
namespace Go.Proofs.YtkijglkjpgjdaaaDoor
open Go.RowKit

theorem txt_eq (p q : List UInt8) : ((txt p).toList == q) = decide (p = q) := by
  rw [Bool.eq_iff_iff, beq_iff_eq, decide_eq_true_eq, ByteArray.toList_eq]
  rfl

theorem strs_cell {B : Nat} {v : Value} {l : List (List UInt8)} {w : World} (h : Si.Strs B v (l.map txt) w) : ∃ a c, v = .slice a l.length c ∧ ∀ j (hj : j < l.length), ∃ g o, a = some ⟨g, o, none⟩ ∧ g < B ∧ w.cell? ⟨g, o + j, none⟩ = some (.string (txt l[j])) := by
  obtain ⟨a, c, h1, h2⟩ := h
  rw [List.length_map] at h1 h2
  refine ⟨a, c, h1, fun j hj => ?_⟩
  obtain ⟨g, o, h3, h4, h5⟩ := h2 j hj
  refine ⟨g, o, h3, h4, ?_⟩
  rw [h5]
  simp [List.getD, hj]

theorem own_form {w : World} {base : Nat} {v : Value} {L : List (List UInt8)} (h : w.ownsRow base 9 1 v L.length (cellsT L)) : ∃ a c, v = .slice a L.length c ∧ L.length ≤ c ∧ (0 < L.length → ∃ g, a = some ⟨g, 0, none⟩) := by
  rcases h.2 with ⟨rfl, h0⟩ | ⟨g, cap, cur, rfl, hg, hh, hn, _⟩
  · exact ⟨none, 0, by rw [h0], by omega, fun h => by omega⟩
  · exact ⟨_, cap, rfl, hn, fun _ => ⟨g, rfl⟩⟩

theorem own_pop {w : World} {base g c : Nat} {L : List (List UInt8)} (hL : 0 < L.length) (h : w.ownsRow base 9 1 (.slice (some ⟨g, 0, none⟩) L.length c) L.length (cellsT L)) : w.ownsRow base 9 1 (.slice (some ⟨g, 0, none⟩) (L.length - 1) c) L.dropLast.length (cellsT L.dropLast) := by
  have hne : L ≠ [] := by intro e; rw [e] at hL; simp at hL
  have e1 : cellsT L = cellsT L.dropLast ++ [.string ⟨(L.getLast hne).toArray⟩] := by
    rw [cellsT_snoc, List.dropLast_concat_getLast]
  have e2 : L.length = (L.length - 1) + 1 := by omega
  rw [List.length_dropLast]
  rw [e1] at h
  refine ownsRow_pop (last := [.string ⟨(L.getLast hne).toArray⟩]) (by rw [cellsT_len, List.length_dropLast]; omega) ?_
  rw [← e2]
  exact h

theorem walk_next {l : List (List UInt8)} {p : List UInt8} {l' : List (List UInt8)} (t : List (List UInt8)) (h : Cn.step l p = some l') : Cn.walk l (p :: t) = Cn.walk l' t := by rw [Cn.walk, h]
theorem walk_stop {l : List (List UInt8)} {p : List UInt8} (t : List (List UInt8)) (h : Cn.step l p = none) : Cn.walk l (p :: t) = none := by rw [Cn.walk, h]

/-- What holds at each round's head. -/
def KRel (ps : List (List UInt8)) (w : World) (v s9 : Value) (wr : World) (k : Nat) : Prop :=
  ∃ L : List (List UInt8), s9 = .int .i64 (k : Int) ∧ k ≤ ps.length ∧ L.length ≤ k ∧ wr.ownsRow w.heap.size 9 1 v L.length (cellsT L) ∧ Below w.heap.size w wr ∧ Cn.walk L (ps.drop k) = Cn.walk [] ps

set_option maxHeartbeats 1600000 in
set_option maxRecDepth 1000000 in
theorem walk_any (v : Value) (ps : List (List UInt8)) (w : World) (hv : Si.Strs w.heap.size v (ps.map txt) w) (hn : ps.length ≤ 200001) :
    Calls Tryd.prog 20 #[v] w fun e w' => ListOf (Cn.walk [] ps) e w w' := by
  obtain ⟨i0, hi, hz0, hz1, hz2⟩ := info_parts info9
  obtain ⟨a, c, rfl, hc⟩ := strs_cell hv
  have HC : Aside (∀ j (hj : j < ps.length), ∃ g o, a = some ⟨g, o, none⟩ ∧ g < w.heap.size ∧ w.cell? ⟨g, o + j, none⟩ = some (.string (txt ps[j]))) := hc
  clear hc hv
  go_enter Tryd.func20, Tryd.ntmps20
  go_wp2
  go_loopg [4, 9] ps.length (fun gh v s9 wr => ∃ k : Nat, ps.length - k ≤ gh ∧ KRel ps w v s9 wr k)
  case atStart => exact ⟨0, by omega, [], rfl, by omega, by simp, World.ownsRow_nil _ _ _ _, Below.refl _ _, rfl⟩
  case round =>
    obtain ⟨k, hgh, L, rfl, hk, hL, hown, hbw, hr⟩ := hrel
    have hsz := hbw.size
    by_cases hp : k < ps.length
    · obtain ⟨g, o, rfl, hg, hcl⟩ := HC.out k hp
      have hcell := (hbw.cell (p := ⟨g, o + k, none⟩) hg).trans hcl
      rw [List.drop_eq_getElem_cons hp] at hr
      have dk : decide (k < ps.length) = true := by simpa using hp
      generalize ps[k] = p at hr hcell hcl
      clear hcl
      by_cases h1 : p = [] ∨ p = [46]
      · rw [walk_next _ (show Cn.step L p = some L by unfold Cn.step; rw [if_pos h1])] at hr
        have A : Aside (Cn.walk L (ps.drop (k + 1)) = Cn.walk [] ps) := hr
        clear hr
        by_cases h2 : p = []
        · have t1 : ((txt p).toList == []) = true := by rw [txt_eq]; simpa using h2
          clear h1 h2
          generalize txt p = P at *
          go_wp2
          go_roundg (ps.length - (k + 1))
          case measure => omega
          case rel => exact ⟨k + 1, Nat.le_refl _, L, by go_num, by omega, by omega, hown, hbw, A.out⟩
        · have t1 : ((txt p).toList == []) = false := by rw [txt_eq]; simpa using h2
          have t2 : ((txt p).toList == [46]) = true := by rw [txt_eq]; rcases h1 with h | h; exact absurd h h2; simpa using h
          clear h1 h2
          generalize txt p = P at *
          go_wp2
          go_roundg (ps.length - (k + 1))
          case measure => omega
          case rel => exact ⟨k + 1, Nat.le_refl _, L, by go_num, by omega, by omega, hown, hbw, A.out⟩
      · have t1 : ((txt p).toList == []) = false := by rw [txt_eq]; simp; exact fun h => h1 (.inl h)
        have t2 : ((txt p).toList == [46]) = false := by rw [txt_eq]; simp; exact fun h => h1 (.inr h)
        by_cases h3 : p = [46, 46]
        · have t3 : ((txt p).toList == [46, 46]) = true := by rw [txt_eq]; simpa using h3
          obtain ⟨a2, c2, rfl, hc2, hsome⟩ := own_form hown
          by_cases h4 : L = []
          · subst h4
            have A : Aside (Cn.walk [] ps = none) := by
              show _ = _
              rw [← hr, walk_stop _ (show Cn.step [] p = none by unfold Cn.step; rw [if_neg h1, if_pos h3, if_pos rfl])]
            clear hr h1 h3
            generalize txt p = P at *
            go_wp2
            go_ret2
            exact ⟨⟨_, by rw [A.out]; rfl, fun L hL => (by rw [A.out] at hL; cases hL)⟩, hbw⟩
          · have hl : 0 < L.length := by
              cases L with
              | nil => exact absurd rfl h4
              | cons x y => simp
            obtain ⟨gg, rfl⟩ := hsome hl
            rw [walk_next _ (show Cn.step L p = some L.dropLast by unfold Cn.step; rw [if_neg h1, if_pos h3, if_neg h4])] at hr
            have A : Aside (Cn.walk L.dropLast (ps.drop (k + 1)) = Cn.walk [] ps) := hr
            have hpop := own_pop hl hown
            have d5 : ((L.length : Int) == 0) = false := by rw [beq_eq_false_iff_ne]; omega
            have d6 : ((L.length : Int) - 1).toNat = L.length - 1 := by omega
            clear hr h1 h3 h4
            generalize txt p = P at *
            go_wp2
            go_roundg (ps.length - (k + 1))
            case measure => omega
            case rel => exact ⟨k + 1, Nat.le_refl _, L.dropLast, by go_num, by omega, by rw [List.length_dropLast]; omega, hpop, hbw, A.out⟩
        · have t3 : ((txt p).toList == [46, 46]) = false := by rw [txt_eq]; simpa using h3
          rw [walk_next _ (show Cn.step L p = some (L ++ [p]) by unfold Cn.step; rw [if_neg h1, if_neg h3])] at hr
          have A : Aside (Cn.walk (L ++ [p]) (ps.drop (k + 1)) = Cn.walk [] ps ∧ cellsT L ++ [.string (txt p)] = cellsT (L ++ [p])) := ⟨hr, cellsT_snoc L p⟩
          clear hr h1 h3
          generalize txt p = P at *
          go_wp2_with (at_builtin; refine wpList_append_own _ rfl (.tmp 14) (.tmp 16) 34 rfl w.heap.size 9 i0 (.string ByteArray.empty) 1 16 Tryd.underlying34 hi hz0 hz1 hz2 rfl (by decide) _ _ _ rfl (hown.alloc _) ⟨_, 0, none⟩ 1 1 [.string P] rfl rfl ?c1 ?c2 ?c3 ?c4 ?c5 ?_)
          case c1 => exact (cell_one_new _ _ _)
          case c2 => intro u hu; simp at hu; subst hu; rfl
          case c3 => unfold maxLen; omega
          case c4 => omega
          case c5 => simp; omega
          intro v' w3 hown' hgrow _
          have E : Aside (w3.ownsRow w.heap.size 9 1 v' (L ++ [p]).length (cellsT (L ++ [p])) ∧ Below w.heap.size w w3) := by
            refine ⟨?_, (hbw.alloc hsz _).grown hgrow (by rw [size_alloc]; omega) (fun g hg => (hown.lt g hg).1)⟩
            rw [← A.out.2, List.length_append]
            exact hown'
          clear hown' hgrow hown
          go_wp2
          go_roundg (ps.length - (k + 1))
          case measure => omega
          case rel => exact ⟨k + 1, Nat.le_refl _, L ++ [p], by go_num, by omega, by simp; omega, E.out.1, E.out.2, A.out.1⟩
    · obtain rfl : k = ps.length := by omega
      have hd : ps.drop ps.length = [] := List.drop_eq_nil_of_le (Nat.le_refl _)
      rw [hd] at hr
      have dk : decide (ps.length < ps.length) = false := by simp
      have A : Aside (Cn.walk [] ps = some L) := hr.symm
      clear hr hd
      go_wp2
      go_ret2
      exact ⟨⟨_, by rw [A.out]; rfl, fun L' hL' => (by rw [A.out] at hL'; cases hL'; exact strs_own hown)⟩, hbw⟩
end Go.Proofs.YtkijglkjpgjdaaaDoor
