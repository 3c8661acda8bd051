/-
  What is on the disk behind the law's first loop, as plain data; what All, Size and Clear make of it.
-/
import Derived.Test.YtblhkhgcaheplaaGreatDoorH5
import Derived.Test.YtblhkhgcaheplaaGreatDoorDX12
namespace Go.Proofs.YtblhkhgcaheplaaGreatDoor
open Go.RowKit
set_option maxRecDepth 100000

/-- Files, by name and length. -/
def lens (st : Dk.St) : List (ByteArray × Nat) := st.files.map fun f => (f.name, f.bytes.length)
/-- A disk with power, and its files are M, in some order. -/
structure Has (st : Dk.St) (M : List (ByteArray × Nat)) : Prop where
  ok : Dk.Ok st
  perm : (lens st).Perm M
  down : st.down = false
  fused : st.fused = false
  short : ∀ x ∈ M, x.1.size ≤ 30
  small : ∀ x ∈ M, x.2 ≤ 100

theorem Has.power {st : Dk.St} {M : List (ByteArray × Nat)} (h : Has st M) : st.power = true := by
  unfold Dk.St.power
  rw [h.down, h.fused]
  rfl
theorem Has.spent {st : Dk.St} {M : List (ByteArray × Nat)} (h : Has st M) : st.spent = st := by
  unfold Dk.St.spent
  rw [h.power, h.fused]
  obtain ⟨a, b, c, d, e, f⟩ := st
  have hf : f = false := h.down
  have hd : d = false := h.fused
  subst hf hd
  rfl
theorem names_lens (st : Dk.St) : st.names = (lens st).map Prod.fst := by
  unfold Dk.St.names lens
  rw [List.map_map]
  rfl
theorem Has.names {st : Dk.St} {M : List (ByteArray × Nat)} (h : Has st M) : st.names.Perm (M.map Prod.fst) := by
  rw [names_lens]
  exact h.perm.map _
theorem Has.nodup {st : Dk.St} {M : List (ByteArray × Nat)} (h : Has st M) : (M.map Prod.fst).Nodup := (h.names.nodup_iff).1 h.ok.rising.nodup

theorem has_perm {l l' : List ByteArray} (h : l.Perm l') (t : ByteArray) : Dk.has l t = Dk.has l' t := by
  rw [Bool.eq_iff_iff, Dk.has_iff, Dk.has_iff]
  exact h.mem_iff

def zeros (k : Nat) : ByteArray := ⟨(List.replicate k 0).toArray⟩
theorem zeros_size (k : Nat) : (zeros k).size = k := by simp [zeros, ByteArray.size]

/-- Append of a name that isn't there. -/
theorem Has.append {st : Dk.St} {M : List (ByteArray × Nat)} (h : Has st M) {t : ByteArray} {k : Nat} (hn : Dk.has (M.map Prod.fst) t = false) (ht : t.size ≤ 30) (hk : k ≤ 100) :
    ((Dk.opAppend st t (zeros k)).1 = 0 → Has (Dk.opAppend st t (zeros k)).2 (M ++ [(t, k)])) ∧ ((Dk.opAppend st t (zeros k)).1 ≠ 0 → (Dk.opAppend st t (zeros k)).2 = st) := by
  have hns : Dk.has st.names t = false := (has_perm h.names t).trans hn
  have hok := h.ok.opAppend t (zeros k)
  unfold Dk.opAppend at hok ⊢
  rw [h.power, h.spent] at hok ⊢
  simp only [if_true] at hok ⊢
  cases hm : Dk.mayBe t with
  | false => exact ⟨fun e => (by cases e), fun _ => rfl⟩
  | true =>
    rw [hm] at hok
    simp only [if_true] at hok ⊢
    cases hf : st.full t (zeros k) with
    | true => exact ⟨fun e => (by cases e), fun _ => rfl⟩
    | false =>
      rw [hf] at hok
      simp only [Bool.false_eq_true, if_false] at hok ⊢
      refine ⟨fun _ => ?_, fun e => absurd rfl e⟩
      have hmk : (st.make t) = { st with files := st.files.take (Dk.place st.names t) ++ ⟨t, [], 0⟩ :: st.files.drop (Dk.place st.names t) } := by
        unfold Dk.St.make
        rw [hns]
        rfl
      have hpl : Dk.place st.names t ≤ st.files.length := by have := Dk.place_le st.names t; simpa [Dk.St.names] using this
      have hget : (st.make t).files[Dk.place st.names t]? = some ⟨t, [], 0⟩ := by
        rw [hmk]
        show (st.files.take (Dk.place st.names t) ++ _)[Dk.place st.names t]? = _
        rw [List.getElem?_append_right (by rw [List.length_take]; omega), List.length_take, Nat.min_eq_left hpl, Nat.sub_self]
        rfl
      have hperm : ∀ x : Dk.F, ((st.files.take (Dk.place st.names t) ++ x :: st.files.drop (Dk.place st.names t)).map fun f => (f.name, f.bytes.length)).Perm (M ++ [(x.name, x.bytes.length)]) := fun x => by
        have e : (st.files.take (Dk.place st.names t) ++ x :: st.files.drop (Dk.place st.names t)).Perm (x :: st.files) := by
          have := List.perm_middle (a := x) (l₁ := st.files.take (Dk.place st.names t)) (l₂ := st.files.drop (Dk.place st.names t))
          rwa [List.take_append_drop] at this
        refine (e.map _).trans ?_
        rw [List.map_cons]
        refine List.Perm.trans (List.Perm.cons _ h.perm) ?_
        exact (List.perm_append_singleton _ _).symm
      refine ⟨hok, ?_, ?_, ?_, fun x hx => ?_, fun x hx => ?_⟩
      · by_cases h0 : (zeros k).size = 0
        · rw [if_pos h0, hmk]
          have hk0 : k = 0 := by rw [zeros_size] at h0; exact h0
          subst hk0
          exact hperm ⟨t, [], 0⟩
        · rw [if_neg h0]
          unfold Dk.St.more
          rw [hget]
          have e : (st.make t).files.set (Dk.place st.names t) ⟨t, [] ++ (zeros k).data.toList, 0⟩ = st.files.take (Dk.place st.names t) ++ ⟨t, [] ++ (zeros k).data.toList, 0⟩ :: st.files.drop (Dk.place st.names t) := by
            rw [hmk]
            show (st.files.take (Dk.place st.names t) ++ (⟨t, [], 0⟩ : Dk.F) :: st.files.drop (Dk.place st.names t)).set (Dk.place st.names t) _ = _
            rw [List.set_append_right _ _ (by rw [List.length_take]; omega), List.length_take, Nat.min_eq_left hpl, Nat.sub_self]
            rfl
          show (((st.make t).files.set (Dk.place st.names t) ⟨t, [] ++ (zeros k).data.toList, 0⟩).map _).Perm _
          rw [e]
          have := hperm ⟨t, [] ++ (zeros k).data.toList, 0⟩
          have hl : ([] ++ (zeros k).data.toList).length = k := by simp [zeros]
          rw [hl] at this
          exact this
      · split
        · rw [hmk]; exact h.down
        · unfold Dk.St.more
          rw [hget, hmk]
          exact h.down
      · split
        · rw [hmk]; exact h.fused
        · unfold Dk.St.more
          rw [hget, hmk]
          exact h.fused
      · rcases List.mem_append.1 hx with hx | hx
        · exact h.short x hx
        · obtain rfl := List.mem_singleton.1 hx
          exact ht
      · rcases List.mem_append.1 hx with hx | hx
        · exact h.small x hx
        · obtain rfl := List.mem_singleton.1 hx
          exact hk
end Go.Proofs.YtblhkhgcaheplaaGreatDoor
