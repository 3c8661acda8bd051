/-
  The numbers of a word's files, rising, and what stands at each.
-/
import Derived.Test.YtblhkhgcaheplaaGreatDoorH6
namespace Go.Proofs.YtblhkhgcaheplaaGreatDoor
open Go.RowKit
set_option maxRecDepth 100000

/-- What the law's map has: the number of each name of the word, and its place. -/
def pairOf (s : ByteArray) (x : ByteArray × Nat) : List (Int × Nat) := if 0 < nR s x.1 then [((nR s x.1 : Int), x.2)] else []
def hasP (s : ByteArray) (M : List (ByteArray × Nat)) : List (Int × Nat) := M.flatMap (pairOf s)

theorem nP_is (s t : ByteArray) : nP s t = ((nR s t : Int), decide (0 < nR s t)) := Fi.num_both _ _
theorem one_is (s : ByteArray) (x : ByteArray × Nat) : one s x.1 = (pairOf s x).map Prod.fst := by
  unfold one pairOf
  rw [nP_is]
  by_cases h : 0 < nR s x.1 <;> simp [h]
theorem nums_keys (s : ByteArray) : ∀ M : List (ByteArray × Nat), numsOf s (M.map Prod.fst) = (hasP s M).map Prod.fst
  | [] => rfl
  | x :: r => by
    have ih := nums_keys s r
    unfold numsOf hasP at ih ⊢
    rw [List.map_cons, List.flatMap_cons, List.flatMap_cons, List.map_append, ih, one_is]

/-- A number tells the name. -/
theorem name_of {s t : ByteArray} (h : 0 < nR s t) : nmB s (nR s t : Int) = t := by
  cases hr : Fi.rd 0 (t.data.toList.drop (s.size + 1)) with
  | none =>
    rw [nR_none hr] at h
    omega
  | some v =>
    rw [nR_some hr] at h ⊢
    by_cases hq : t = ⟨#[]⟩ ∨ nmB s (v : Int) ≠ t
    · rw [if_pos hq] at h
      omega
    · rw [if_neg hq]
      apply Classical.byContradiction
      intro hc
      exact hq (Or.inr hc)

theorem mem_hasP {s : ByteArray} {M : List (ByteArray × Nat)} {n : Int} {i : Nat} : (n, i) ∈ hasP s M ↔ ∃ x ∈ M, 0 < nR s x.1 ∧ n = (nR s x.1 : Int) ∧ i = x.2 := by
  unfold hasP
  rw [List.mem_flatMap]
  constructor
  · rintro ⟨x, hx, h⟩
    unfold pairOf at h
    split at h
    · rename_i hp
      have := List.mem_singleton.1 h
      simp only [Prod.mk.injEq] at this
      exact ⟨x, hx, hp, this.1, this.2⟩
    · cases h
  · rintro ⟨x, hx, hp, rfl, rfl⟩
    refine ⟨x, hx, ?_⟩
    unfold pairOf
    rw [if_pos hp]
    exact List.mem_singleton.2 rfl

theorem keys_nodup {s : ByteArray} : ∀ {M : List (ByteArray × Nat)}, (M.map Prod.fst).Nodup → ((hasP s M).map Prod.fst).Nodup
  | [], _ => List.nodup_nil
  | x :: r, h => by
    rw [List.map_cons, List.nodup_cons] at h
    have ih := keys_nodup (s := s) h.2
    have e : hasP s (x :: r) = pairOf s x ++ hasP s r := rfl
    rw [e, List.map_append]
    unfold pairOf
    by_cases hp : 0 < nR s x.1
    · rw [if_pos hp]
      refine List.nodup_append.2 ⟨by simp, ih, ?_⟩
      rintro a ha c hc rfl
      have ha' : a = (nR s x.1 : Int) := by simpa using ha
      obtain ⟨y, hy, hya⟩ := List.mem_map.1 hc
      obtain ⟨z, hz, hzp, hzn, _⟩ := mem_hasP.1 (show (y.1, y.2) ∈ hasP s r from hy)
      have h1 : nR s z.1 = nR s x.1 := by
        have : (nR s z.1 : Int) = (nR s x.1 : Int) := by rw [← hzn, hya, ha']
        omega
      have h2 : z.1 = x.1 := by rw [← name_of hzp, h1, name_of hp]
      exact h.1 (h2 ▸ List.mem_map.2 ⟨z, hz, rfl⟩)
    · rw [if_neg hp]
      exact ih

theorem nums_perm {s : ByteArray} {l l' : List ByteArray} (h : l.Perm l') : (numsOf s l).Perm (numsOf s l') := h.flatMap_right _

theorem sortI_perm (l : List Int) : (sortI l).Perm l := List.mergeSort_perm _ _
theorem all_perm {s : ByteArray} {st : Dk.St} {M : List (ByteArray × Nat)} (h : Has st M) : (allOf s st.names).Perm ((hasP s M).map Prod.fst) := by
  unfold allOf
  refine (sortI_perm _).trans ?_
  rw [← nums_keys]
  exact nums_perm h.names

theorem sortI_sorted (l : List Int) : (sortI l).Pairwise (· ≤ ·) := by
  have := List.pairwise_mergeSort (le := fun x y : Int => decide (x ≤ y)) (fun a b c h1 h2 => by simp at h1 h2 ⊢; omega) (fun a b => by simp; omega) l
  exact this.imp fun h => by simpa using h
theorem all_rise {s : ByteArray} {st : Dk.St} {M : List (ByteArray × Nat)} (h : Has st M) : (allOf s st.names).Pairwise (· < ·) := by
  have h1 : (allOf s st.names).Pairwise (· ≤ ·) := sortI_sorted _
  have h2 : (allOf s st.names).Nodup := ((all_perm h).nodup_iff).2 (keys_nodup h.nodup)
  exact (h1.and h2).imp fun ⟨a, b⟩ => by omega
theorem all_pos {s : ByteArray} {st : Dk.St} {M : List (ByteArray × Nat)} (h : Has st M) {n : Int} (hn : n ∈ allOf s st.names) : ∃ x ∈ M, 0 < nR s x.1 ∧ n = (nR s x.1 : Int) := by
  obtain ⟨y, hy, rfl⟩ := List.mem_map.1 ((all_perm h).mem_iff.1 hn)
  obtain ⟨x, hx, a, b, _⟩ := mem_hasP.1 (show (y.1, y.2) ∈ hasP s M from hy)
  exact ⟨x, hx, a, b⟩

theorem rise_mem_eq {l l' : List Int} (h : l.Pairwise (· < ·)) (h' : l'.Pairwise (· < ·)) (e : ∀ n, n ∈ l ↔ n ∈ l') : l = l' := by
  induction l generalizing l' with
  | nil =>
    cases l' with
    | nil => rfl
    | cons a r => exact absurd ((e a).2 List.mem_cons_self) (by simp)
  | cons a r ih =>
    cases l' with
    | nil => exact absurd ((e a).1 List.mem_cons_self) (by simp)
    | cons c q =>
      rw [List.pairwise_cons] at h h'
      have hac : a = c := by
        have h1 := (e a).1 List.mem_cons_self
        have h2 := (e c).2 List.mem_cons_self
        rcases List.mem_cons.1 h1 with h1 | h1
        · exact h1
        · rcases List.mem_cons.1 h2 with h2 | h2
          · exact h2.symm
          · have := h'.1 a h1
            have := h.1 c h2
            omega
      subst hac
      congr 1
      refine ih h.2 h'.2 fun n => ?_
      constructor
      · intro hn
        rcases List.mem_cons.1 ((e n).1 (List.mem_cons_of_mem _ hn)) with rfl | hq
        · exact absurd (h.1 n hn) (by omega)
        · exact hq
      · intro hn
        rcases List.mem_cons.1 ((e n).2 (List.mem_cons_of_mem _ hn)) with rfl | hq
        · exact absurd (h'.1 n hn) (by omega)
        · exact hq

/-- How many are below a number: just the first ones. -/
theorem rise_below {l : List Int} (h : l.Pairwise (· < ·)) (m : Int) : (∀ k, k < l.countP (fun n => decide (n < m)) → l.getD k 0 < m) ∧ (l.countP (fun n => decide (n < m)) = l.length ∨ m ≤ l.getD (l.countP fun n => decide (n < m)) 0) := by
  induction l with
  | nil => exact ⟨fun k hk => (by simp at hk), .inl rfl⟩
  | cons a r ih =>
    rw [List.pairwise_cons] at h
    have ih := ih h.2
    by_cases ha : a < m
    · rw [List.countP_cons, decide_eq_true ha]
      simp only [if_true]
      refine ⟨fun k hk => ?_, ?_⟩
      · cases k with
        | zero => simpa using ha
        | succ k =>
          have := ih.1 k (by omega)
          simpa using this
      · rcases ih.2 with e | e
        · exact .inl (by rw [e, List.length_cons])
        · refine .inr ?_
          simpa using e
    · have hr : r.countP (fun n => decide (n < m)) = 0 := by
        rw [List.countP_eq_zero]
        intro n hn
        have := h.1 n hn
        simp; omega
      rw [List.countP_cons, hr, decide_eq_false ha]
      exact ⟨fun k hk => (by simp at hk), .inr (by simp; omega)⟩
end Go.Proofs.YtblhkhgcaheplaaGreatDoor
