/-
  What the second loop of the law on all files of a word reckons, and what is left behind Clear.
-/
import Derived.Test.YtblhkhgcaheplaaGreatDoorH8
namespace Go.Proofs.YtblhkhgcaheplaaGreatDoor
open Go.RowKit
set_option maxRecDepth 100000

theorem nR_le {s t : ByteArray} (h : 0 < nR s t) : nR s t ≤ 99999 := by
  have hn := name_of h
  by_cases hq : Fi.wd s.data.toList = true ∧ 1 ≤ (nR s t : Int) ∧ (nR s t : Int) ≤ 99999
  · omega
  · rw [nmB_none hq] at hn
    subst hn
    cases hr : Fi.rd 0 ((ByteArray.mk #[]).data.toList.drop (s.size + 1)) with
    | none =>
      rw [nR_none hr] at h
      omega
    | some v =>
      rw [nR_some hr, if_pos (Or.inl rfl)] at h
      omega

theorem mem_all {s : ByteArray} {st : Dk.St} {M : List (ByteArray × Nat)} (h : Has st M) {n : Int} : n ∈ allOf s st.names ↔ ∃ x ∈ M, 0 < nR s x.1 ∧ n = (nR s x.1 : Int) := by
  constructor
  · exact fun hn => all_pos h hn
  · rintro ⟨x, hx, hp, e⟩
    exact (all_perm h).mem_iff.2 (List.mem_map.2 ⟨(n, x.2), mem_hasP.2 ⟨x, hx, hp, e, rfl⟩, rfl⟩)

/-- One number more, in the second loop. -/
theorem second {s : ByteArray} {st : Dk.St} {M : List (ByteArray × Nat)} (h : Has st M) {k : Nat} (hk : k < (allOf s st.names).length) : ∃ i : Nat, ((allOf s st.names).getD k 0, i) ∈ hasP s M ∧ (Dk.opRead st (nmB s ((allOf s st.names).getD k 0))).1.size = i ∧ i ≤ 100 ∧ lastOf ((allOf s st.names).take k) < (allOf s st.names).getD k 0 ∧ 1 ≤ (allOf s st.names).getD k 0 ∧ (allOf s st.names).getD k 0 ≤ 99999 ∧ lastOf ((allOf s st.names).take (k + 1)) = (allOf s st.names).getD k 0 := by
  have hge : (allOf s st.names).getD k 0 = (allOf s st.names)[k] := by simp [List.getD, List.getElem?_eq_getElem hk]
  obtain ⟨x, hx, hp, e⟩ := all_pos (n := (allOf s st.names)[k]) h (List.getElem_mem hk)
  have hle := nR_le hp
  refine ⟨x.2, mem_hasP.2 ⟨x, hx, hp, hge.trans e, rfl⟩, ?_, h.small x hx, ?_, by omega, by omega, ?_⟩
  · rw [hge, e, name_of hp]
    exact h.read hx
  · unfold lastOf
    have hl : ((allOf s st.names).take k).length = k := by simp; omega
    rw [hl]
    cases k with
    | zero => simp [List.getD] at hge ⊢; omega
    | succ k =>
      have hk' : k < (allOf s st.names).length := by omega
      have h4 := List.pairwise_iff_getElem.1 (all_rise (s := s) h) k (k + 1) hk' hk (by omega)
      have : ((allOf s st.names).take (k + 1)).getD (k + 1 - 1) 0 = (allOf s st.names)[k] := by
        simp [List.getD, List.getElem?_eq_getElem hk']
      rw [this, hge]
      exact h4
  · unfold lastOf
    have hl : ((allOf s st.names).take (k + 1)).length = k + 1 := by simp; omega
    rw [hl]
    simp [List.getD]

theorem count_next (l : List Int) (m : Int) {k : Nat} (hk : k < l.length) : (l.take (k + 1)).countP (fun n => decide (n < m)) = (l.take k).countP (fun n => decide (n < m)) + if l.getD k 0 < m then 1 else 0 := by
  have : l.take (k + 1) = l.take k ++ [l.getD k 0] := by
    rw [List.take_add_one]
    simp [List.getD, List.getElem?_eq_getElem hk]
  rw [this, List.countP_append]
  congr 1
  simp [List.countP_cons]

theorem all_len {s : ByteArray} {st : Dk.St} {M : List (ByteArray × Nat)} (h : Has st M) : (allOf s st.names).length = (hasP s M).length := by
  rw [(all_perm h).length_eq, List.length_map]

theorem pairs_len (s : ByteArray) : ∀ M : List (ByteArray × Nat), (hasP s M).length ≤ M.length
  | [] => Nat.le_refl _
  | x :: r => by
    have ih := pairs_len s r
    unfold hasP at ih ⊢
    rw [List.flatMap_cons, List.length_append, List.length_cons]
    have : (pairOf s x).length ≤ 1 := by unfold pairOf; split <;> simp
    omega

/-- What is left. -/
theorem left {s : ByteArray} {st : Dk.St} {M : List (ByteArray × Nat)} (h : Has st M) {k : Nat} (hk : k ≤ (allOf s st.names).length) : allOf s (goneAt st s (allOf s st.names) k).names = (allOf s st.names).drop k ∧ (goneAt st s (allOf s st.names) k).names.length + k = M.length ∧ (∀ n ∈ (goneAt st s (allOf s st.names) k).names, n.size ≤ 1000) ∧ Dk.Ok (goneAt st s (allOf s st.names) k) ∧ (∀ j, j < k → (Dk.opRemove (goneAt st s (allOf s st.names) j) (nmB s ((allOf s st.names).getD j 0))).1 = 0) := by
  obtain ⟨M', h', hl, hm, ha⟩ := gone_has h s k hk
  refine ⟨rise_mem_eq (all_rise h') ((all_rise (s := s) h).sublist (List.drop_sublist _ _)) fun n => ?_, ?_, fun n hn => ?_, h'.ok, ha⟩
  · rw [mem_all h']
    constructor
    · rintro ⟨x, hx, hp, e⟩
      obtain ⟨h1, h2⟩ := (hm x).1 hx
      obtain ⟨j, hj, hje⟩ := List.getElem_of_mem ((mem_all (s := s) h).2 ⟨x, h1, hp, e⟩)
      by_cases hjk : j < k
      · refine absurd ?_ (h2 j hjk)
        rw [show (allOf s st.names).getD j 0 = (allOf s st.names)[j] by simp [List.getD, List.getElem?_eq_getElem hj], hje, e, name_of hp]
      · refine List.mem_iff_getElem?.2 ⟨j - k, ?_⟩
        rw [List.getElem?_drop, show k + (j - k) = j by omega, List.getElem?_eq_getElem hj, hje]
    · intro hn
      obtain ⟨j, hj⟩ := List.mem_iff_getElem?.1 hn
      rw [List.getElem?_drop] at hj
      obtain ⟨hlt, hje⟩ := List.getElem?_eq_some_iff.1 hj
      obtain ⟨x, hx, hp, e⟩ := all_pos (s := s) h (hje ▸ List.getElem_mem hlt)
      refine ⟨x, (hm x).2 ⟨hx, fun i hi ei => ?_⟩, hp, e⟩
      have hil : i < (allOf s st.names).length := by omega
      obtain ⟨y, hy, hyp, hyn⟩ := all_pos (n := (allOf s st.names)[i]) h (List.getElem_mem hil)
      rw [show (allOf s st.names).getD i 0 = (allOf s st.names)[i] by simp [List.getD, List.getElem?_eq_getElem hil], hyn, name_of hyp] at ei
      have h4 := List.pairwise_iff_getElem.1 (all_rise (s := s) h) i (k + j) hil hlt (by omega)
      rw [hyn, hje, e, ei] at h4
      omega
  · rw [h'.names.length_eq, List.length_map]
    exact hl
  · obtain ⟨x, hx, rfl⟩ := List.mem_map.1 (h'.names.mem_iff.1 hn)
    have := h'.short x hx
    omega

theorem left_head {s : ByteArray} {st : Dk.St} {M : List (ByteArray × Nat)} (h : Has st M) (m : Int) (hne : ¬ ((allOf s st.names).drop ((allOf s st.names).countP fun n => decide (n < m))).length = 0) : m ≤ ((allOf s st.names).drop ((allOf s st.names).countP fun n => decide (n < m))).getD 0 0 := by
  rcases (rise_below (all_rise (s := s) h) m).2 with e | e
  · rw [List.length_drop] at hne
    omega
  · simpa [List.getD, List.getElem?_drop] using e
end Go.Proofs.YtblhkhgcaheplaaGreatDoor
