/-
  A path's parts, one behind the other, as the document goes through them.
-/
import Derived.Test.YtkijglkjpgjdaaaDoorC13
namespace Go.Proofs.YtkijglkjpgjdaaaDoor
open Go.RowKit

/-- The parts from a place on. -/
def rem (s : ByteArray) (a : Nat) : List (List UInt8) := if a ≤ s.size then Cn.sp (s.data.toList.drop a) else []

/-- What the parts come to. -/
def tot (s : ByteArray) : Option (List (List UInt8)) := Cn.both goodP [] (rem s 1)

theorem cut_list (s : ByteArray) (a e : Nat) : (s.extract a e).data.toList = (s.data.toList.drop a).take (e - a) := Lib.extract_data s a e

theorem rem_last (s : ByteArray) (a : Nat) (ha : a ≤ s.size) (h : ∀ b ∈ (s.extract a s.size).data.toList, b ≠ 47) : rem s a = (s.extract a s.size).data.toList :: rem s (s.size + 1) := by
  have hl : s.data.toList.length = s.size := rfl
  have e : (s.extract a s.size).data.toList = s.data.toList.drop a := by
    rw [cut_list, List.take_of_length_le (by rw [List.length_drop]; omega)]
  rw [e] at h ⊢
  unfold rem
  rw [if_pos ha, if_neg (by omega), Cn.sp_none _ h]

theorem rem_next (s : ByteArray) (a e : Nat) (ha : a ≤ e) (he : e < s.size) (hs : s[e] = 47) (h : ∀ b ∈ (s.extract a e).data.toList, b ≠ 47) : rem s a = (s.extract a e).data.toList :: rem s (e + 1) := by
  have hl : s.data.toList.length = s.size := rfl
  have e1 : s.data.toList.drop a = (s.extract a e).data.toList ++ 47 :: s.data.toList.drop (e + 1) := by
    rw [cut_list, ← hs, ← byte_at s e he]
    conv => lhs; rw [← List.take_append_drop (e - a) (s.data.toList.drop a)]
    rw [List.drop_drop, show a + (e - a) = e by omega]
  unfold rem
  rw [if_pos (by omega), if_pos (by omega), e1, Cn.sp_join _ _ h]

theorem cut_more (s : ByteArray) (a e : Nat) (ha : a ≤ e) (he : e < s.size) (hs : s[e] ≠ 47) (h : ∀ b ∈ (s.extract a e).data.toList, b ≠ 47) : ∀ b ∈ (s.extract a (e + 1)).data.toList, b ≠ 47 := by
  have hl : s.data.toList.length = s.size := rfl
  have e1 : (s.extract a (e + 1)).data.toList = (s.extract a e).data.toList ++ [s[e]] := by
    rw [cut_list, cut_list, show e + 1 - a = (e - a) + 1 by omega, List.take_succ_eq_append_getElem (by rw [List.length_drop]; omega)]
    congr 2
    rw [List.getElem_drop]
    have : a + (e - a) = e := by omega
    simp only [this]
    rfl
  rw [e1]
  intro b hb
  rcases List.mem_append.1 hb with hb | hb
  · exact h b hb
  · simp at hb
    subst hb
    exact hs

theorem cut_empty (s : ByteArray) (a : Nat) : ∀ b ∈ (s.extract a a).data.toList, b ≠ 47 := by
  rw [cut_list, Nat.sub_self]
  simp

theorem first_byte (s : ByteArray) (h1 : 1 ≤ s.size) : Lib.hasPrefix s.data.toList [47] = decide (s[0] = 47) := by
  have := byte_at s 0 h1
  rw [List.drop_zero] at this
  rw [this]
  have e : ∀ (x : UInt8) (t : List UInt8), Lib.hasPrefix (x :: t) [47] = decide (x = 47) := by
    intro x t
    rw [Bool.eq_iff_iff]
    simp [Lib.hasPrefix, List.isPrefixOf]
    exact eq_comm
  exact e _ _

theorem path_empty (s : ByteArray) (h : s.size = 0) : pathO s = none := by
  refine path_other s ?_
  have hl : s.data.toList.length = s.size := rfl
  have : s.data.toList = [] := List.eq_nil_of_length_eq_zero (by omega)
  rw [this]
  rfl

theorem path_tot (s : ByteArray) (h1 : 1 ≤ s.size) (h0 : s[0] = 47) (h60 : s.size ≤ 60) : (tot s = none → pathO s = none) ∧ ∀ l, tot s = some l → pathO s = if (Cn.form l).length ≤ 60 then some (Cn.form l) else none := by
  have hp : Lib.hasPrefix s.data.toList [47] = true := by rw [first_byte s h1, h0]; rfl
  have e := path_is s hp h60
  have hl : s.data.toList.length = s.size := rfl
  have e2 : (s.extract 1 s.size).data.toList = s.data.toList.drop 1 := by
    rw [cut_list, List.take_of_length_le (by rw [List.length_drop]; omega)]
  have e3 : tot s = (Cn.all goodP (Cn.sp (s.extract 1 s.size).data.toList)).bind (Cn.walk []) := by
    unfold tot rem
    rw [if_pos h1, Cn.both_is, e2]
  rw [← e3] at e
  refine ⟨fun h => ?_, fun l h => ?_⟩
  · rw [e, h]
  · rw [e, h]

theorem both_none {l t : List (List UInt8)} {r : List UInt8} (h : Cn.rd goodP r = none) : Cn.both goodP l (r :: t) = none := by rw [Cn.both, h]
theorem both_stop {l t : List (List UInt8)} {r p : List UInt8} (h : Cn.rd goodP r = some p) (hs : Cn.step l p = none) : Cn.both goodP l (r :: t) = none := by
  rw [Cn.both, h]
  dsimp only
  rw [hs]
theorem both_next {l l' t : List (List UInt8)} {r p : List UInt8} (h : Cn.rd goodP r = some p) (hs : Cn.step l p = some l') : Cn.both goodP l (r :: t) = Cn.both goodP l' t := by
  rw [Cn.both, h]
  dsimp only
  rw [hs]

theorem rd_len {r p : List UInt8} (h : Cn.rd goodP r = some p) : p.length ≤ r.length := by
  unfold Cn.rd at h
  cases hb : Cn.readB r with
  | none => rw [hb] at h; cases h
  | some q =>
    rw [hb] at h
    simp at h
    obtain ⟨_, rfl⟩ := h
    exact Cn.readB_len _ _ _ (Nat.le_refl _) hb
end Go.Proofs.YtkijglkjpgjdaaaDoor
