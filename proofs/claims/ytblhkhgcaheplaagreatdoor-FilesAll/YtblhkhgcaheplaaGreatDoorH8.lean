/-
  Size, and Clear, of what is on the disk.
-/
import Derived.Test.YtblhkhgcaheplaaGreatDoorH7
namespace Go.Proofs.YtblhkhgcaheplaaGreatDoor
open Go.RowKit
set_option maxRecDepth 100000

theorem Has.file {st : Dk.St} {M : List (ByteArray × Nat)} (h : Has st M) {x : ByteArray × Nat} (hx : x ∈ M) : ∃ f ∈ st.files, f.name = x.1 ∧ f.bytes.length = x.2 ∧ st.files[Dk.place st.names x.1]? = some f ∧ Dk.has st.names x.1 = true := by
  obtain ⟨f, hf, e⟩ := List.mem_map.1 (h.perm.mem_iff.2 hx)
  have e1 : f.name = x.1 := congrArg Prod.fst e
  have e2 : f.bytes.length = x.2 := congrArg Prod.snd e
  have hm : x.1 ∈ st.names := e1 ▸ List.mem_map.2 ⟨f, hf, rfl⟩
  have hh := Dk.has_iff.2 hm
  obtain ⟨f', hf', hn', hm'⟩ := Dk.has_get h.ok.rising hh
  have : f' = f := by
    obtain ⟨i, hi, rfl⟩ := List.getElem_of_mem hf
    obtain ⟨j, hj, rfl⟩ := List.getElem_of_mem hm'
    have hnd : st.names.Nodup := h.ok.rising.nodup
    have h1 : st.names[i]'(by simpa [Dk.St.names] using hi) = x.1 := by simp [Dk.St.names]; exact e1
    have h2 : st.names[j]'(by simpa [Dk.St.names] using hj) = x.1 := by simp [Dk.St.names]; exact hn'
    have hpw := List.pairwise_iff_getElem.1 hnd
    have : j = i := by
      rcases Nat.lt_trichotomy i j with h3 | h3 | h3
      · exact absurd (h1.trans h2.symm) (hpw i j (by simpa [Dk.St.names] using hi) (by simpa [Dk.St.names] using hj) h3)
      · exact h3.symm
      · exact absurd (h2.trans h1.symm) (hpw j i (by simpa [Dk.St.names] using hj) (by simpa [Dk.St.names] using hi) h3)
    subst this
    rfl
  subst this
  exact ⟨f', hf, e1, e2, hf', hh⟩

theorem Has.read {st : Dk.St} {M : List (ByteArray × Nat)} (h : Has st M) {x : ByteArray × Nat} (hx : x ∈ M) : (Dk.opRead st x.1).1.size = x.2 := by
  obtain ⟨f, _, _, e2, hg, hh⟩ := h.file hx
  unfold Dk.opRead Dk.St.bytesOf
  rw [hh, hg]
  simp only [if_true]
  rw [size_mk]
  exact e2

theorem Has.read_le {st : Dk.St} {M : List (ByteArray × Nat)} (h : Has st M) (n : ByteArray) : (Dk.opRead st n).1.size ≤ 60000 := by
  cases hh : Dk.has st.names n with
  | false =>
    unfold Dk.opRead
    rw [hh]
    simp only [Bool.false_eq_true, if_false]
    exact Nat.zero_le _
  | true =>
    have hm := (h.names.mem_iff).1 (Dk.has_iff.1 hh)
    obtain ⟨x, hx, rfl⟩ := List.mem_map.1 hm
    rw [h.read hx]
    have := h.small x hx
    omega

/-- A file goes. -/
theorem Has.remove {st : Dk.St} {M : List (ByteArray × Nat)} (h : Has st M) {x : ByteArray × Nat} (hx : x ∈ M) : (Dk.opRemove st x.1).1 = 0 ∧ ∃ M', Has (Dk.opRemove st x.1).2 M' ∧ M.Perm (x :: M') := by
  obtain ⟨f, hf, e1, e2, hg, hh⟩ := h.file hx
  have hok := h.ok.opRemove x.1
  unfold Dk.opRemove at hok ⊢
  rw [h.power, h.spent, hh] at hok ⊢
  simp only [if_true] at hok ⊢
  refine ⟨trivial, lens (st.drop (Dk.place st.names x.1)), ?_⟩
  have hd : st.drop (Dk.place st.names x.1) = { st with files := st.files.eraseIdx (Dk.place st.names x.1), pieces := Dk.keepOf f.name st.pieces } := by
    unfold Dk.St.drop
    rw [hg]
  have hlt : Dk.place st.names x.1 < st.files.length := (List.getElem?_eq_some_iff.1 hg).1
  have hp : (lens st).Perm (x :: lens (st.drop (Dk.place st.names x.1))) := by
    have e : st.files.Perm (f :: st.files.eraseIdx (Dk.place st.names x.1)) := by
      have h1 : st.files[Dk.place st.names x.1] = f := by
        have := hg
        rw [List.getElem?_eq_getElem hlt] at this
        exact Option.some.inj this
      have e2 : st.files = st.files.take (Dk.place st.names x.1) ++ f :: st.files.drop (Dk.place st.names x.1 + 1) := by
        conv => lhs; rw [← List.take_append_drop (Dk.place st.names x.1) st.files]
        rw [List.drop_eq_getElem_cons hlt, h1]
      rw [List.eraseIdx_eq_take_drop_succ]
      conv => lhs; rw [e2]
      exact List.perm_middle
    have := e.map fun f : Dk.F => (f.name, f.bytes.length)
    rw [List.map_cons, show (f.name, f.bytes.length) = x from Prod.ext e1 e2] at this
    rw [hd]
    exact this
  have hMp : M.Perm (x :: lens (st.drop (Dk.place st.names x.1))) := h.perm.symm.trans hp
  refine ⟨⟨hok, List.Perm.refl _, by rw [hd]; exact h.down, by rw [hd]; exact h.fused, fun y hy => ?_, fun y hy => ?_⟩, hMp⟩
  · exact h.short y (hMp.mem_iff.2 (List.mem_cons_of_mem _ hy))
  · exact h.small y (hMp.mem_iff.2 (List.mem_cons_of_mem _ hy))

/-- The first k of the word's files are gone. -/
theorem gone_has {st : Dk.St} {M : List (ByteArray × Nat)} (h : Has st M) (s : ByteArray) : ∀ k, k ≤ (allOf s st.names).length → ∃ M', Has (goneAt st s (allOf s st.names) k) M' ∧ M'.length + k = M.length ∧ (∀ y, y ∈ M' ↔ y ∈ M ∧ ∀ j, j < k → ¬ y.1 = nmB s ((allOf s st.names).getD j 0)) ∧ ∀ j, j < k → (Dk.opRemove (goneAt st s (allOf s st.names) j) (nmB s ((allOf s st.names).getD j 0))).1 = 0
  | 0, _ => ⟨M, h, rfl, fun y => ⟨fun hy => ⟨hy, fun j hj => (by omega)⟩, fun hy => hy.1⟩, fun j hj => (by omega)⟩
  | k + 1, hk => by
    obtain ⟨M', h', hl, hm, ha⟩ := gone_has h s k (by omega)
    have hlt : k < (allOf s st.names).length := by omega
    have hge : (allOf s st.names).getD k 0 = (allOf s st.names)[k] := by simp [List.getD, List.getElem?_eq_getElem hlt]
    obtain ⟨x, hx, hxp, hxn⟩ := all_pos (n := (allOf s st.names)[k]) h (List.getElem_mem hlt)
    have hname : nmB s ((allOf s st.names).getD k 0) = x.1 := by rw [hge, hxn]; exact name_of hxp
    have hx' : x ∈ M' := (hm x).2 ⟨hx, fun j hj e => by
      have hjl : j < (allOf s st.names).length := by omega
      obtain ⟨y, hy, hyp, hyn⟩ := all_pos (n := (allOf s st.names)[j]) h (List.getElem_mem hjl)
      have hgj : (allOf s st.names).getD j 0 = (allOf s st.names)[j] := by simp [List.getD, List.getElem?_eq_getElem hjl]
      have h1 : nmB s ((allOf s st.names).getD j 0) = y.1 := by rw [hgj, hyn]; exact name_of hyp
      have h2 : y.1 = x.1 := by rw [← h1]; exact e.symm
      have h3 : (allOf s st.names)[j] = (allOf s st.names)[k] := by rw [hxn, hyn, h2]
      have h4 := List.pairwise_iff_getElem.1 (all_rise (s := s) h) j k hjl hlt hj
      omega⟩
    obtain ⟨a1, M2, h2, hp⟩ := h'.remove hx'
    have hnd := h'.nodup
    rw [((hp.map Prod.fst).nodup_iff), List.map_cons, List.nodup_cons] at hnd
    refine ⟨M2, ?_, ?_, fun y => ?_, fun j hj => ?_⟩
    · show Has (Dk.opRemove (goneAt st s (allOf s st.names) k) (nmB s ((allOf s st.names).getD k 0))).2 M2
      rw [hname]
      exact h2
    · have := hp.length_eq
      simp at this
      omega
    · constructor
      · intro hy
        have h3 := (hm y).1 (hp.mem_iff.2 (List.mem_cons_of_mem _ hy))
        refine ⟨h3.1, fun j hj e => ?_⟩
        by_cases ej : j = k
        · subst ej
          rw [hname] at e
          exact hnd.1 (e ▸ List.mem_map.2 ⟨y, hy, rfl⟩)
        · exact h3.2 j (by omega) e
      · rintro ⟨hy, hall⟩
        have h3 : y ∈ M' := (hm y).2 ⟨hy, fun j hj => hall j (by omega)⟩
        rcases List.mem_cons.1 (hp.mem_iff.1 h3) with e | e
        · exact absurd (by rw [hname, e]) (hall k (by omega))
        · exact e
    · by_cases ej : j = k
      · subst ej
        rw [hname]
        exact a1
      · exact ha j (by omega)
end Go.Proofs.YtblhkhgcaheplaaGreatDoor
