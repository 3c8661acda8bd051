/-
  One step of reading, as a plain function; both the Opener and the functions of PackReads take it.
-/
import Derived.Test.YtlajableceaoaaaR2
namespace Go.Proofs.Ytlajableceaoaaa
open Go.RowKit

/-- Reading a number: the number, what is left, is it bad? -/
def numC (S : ByteArray) (bad : Bool) (most : Int) : Int × ByteArray × Bool :=
  if bad = true ∨ (Pk.headB S.data.toList).2 = 0 ∨ most < ((Pk.headB S.data.toList).1 : Int) then (0, S, true) else ((Pk.headB S.data.toList).1, S.extract (Pk.headB S.data.toList).2 S.size, false)

/-- Reading bytes. -/
def rawC (S : ByteArray) (bad : Bool) (n : Int) : ByteArray × ByteArray × Bool :=
  if bad = true ∨ (S.size : Int) < n then (⟨#[]⟩, S, true) else (S.extract 0 n.toNat, S.extract n.toNat S.size, false)

/-- What isn't OK has nothing left. -/
def norm (S : ByteArray) (bad : Bool) : ByteArray := if bad then ⟨#[]⟩ else S

theorem size_ext (S : ByteArray) (a : Nat) : (S.extract a S.size).size ≤ S.size := by
  rw [ByteArray.size_extract]
  omega

theorem numC_size {S : ByteArray} {bad : Bool} {most r : Int} {S1 : ByteArray} {b1 : Bool} (h : numC S bad most = (r, S1, b1)) : S1.size ≤ S.size := by
  unfold numC at h
  by_cases hc : bad = true ∨ (Pk.headB S.data.toList).2 = 0 ∨ most < ((Pk.headB S.data.toList).1 : Int)
  · rw [if_pos hc] at h
    simp only [Prod.mk.injEq] at h
    rw [← h.2.1]
    exact Nat.le_refl _
  · rw [if_neg hc] at h
    simp only [Prod.mk.injEq] at h
    rw [← h.2.1]
    exact size_ext _ _
theorem rawC_size {S : ByteArray} {bad : Bool} {n : Int} {t S1 : ByteArray} {b1 : Bool} (h : rawC S bad n = (t, S1, b1)) : S1.size ≤ S.size := by
  unfold rawC at h
  by_cases hc : bad = true ∨ (S.size : Int) < n
  · rw [if_pos hc] at h
    simp only [Prod.mk.injEq] at h
    rw [← h.2.1]
    exact Nat.le_refl _
  · rw [if_neg hc] at h
    simp only [Prod.mk.injEq] at h
    rw [← h.2.1]
    exact size_ext _ _

theorem closNum (sb bb : Nat) (most r : Int) (S S1 : ByteArray) (bad b1 : Bool) (w : World) (hS : Box w sb 9 (.string S)) (hb : Box w bb 4 (.bool bad)) (hne : sb ≠ bb) (hs : S.size ≤ 1000000) (h : numC S bad most = (r, S1, b1)) :
    Calls Try.prog 21 #[.int .i64 most, .pointer (some ⟨sb, 0, none⟩), .pointer (some ⟨bb, 0, none⟩)] w fun e w' =>
      e = .returned (.int .i64 r) ∧ Box w' sb 9 (.string S1) ∧ Box w' bb 4 (.bool b1) ∧ Upd2 sb bb w w' := by
  unfold numC at h
  by_cases hc : bad = true ∨ (Pk.headB S.data.toList).2 = 0 ∨ most < ((Pk.headB S.data.toList).1 : Int)
  · rw [if_pos hc] at h
    simp only [Prod.mk.injEq] at h
    obtain ⟨rfl, rfl, rfl⟩ := h
    exact num_no sb bb most S bad w hS hb hne hs _ rfl hc
  · rw [if_neg hc] at h
    simp only [Prod.mk.injEq] at h
    obtain ⟨rfl, rfl, rfl⟩ := h
    obtain rfl : bad = false := by
      cases bad
      · rfl
      · exact absurd (Or.inl rfl) hc
    exact num_yes sb bb most S w hS hb hne hs _ rfl (by omega) (by omega)

theorem closRaw (sb bb : Nat) (n : Int) (S S1 t : ByteArray) (bad b1 : Bool) (w : World) (hS : Box w sb 9 (.string S)) (hb : Box w bb 4 (.bool bad)) (hne : sb ≠ bb) (hn : 0 ≤ n) (h : rawC S bad n = (t, S1, b1)) :
    Calls Try.prog 20 #[.int .i64 n, .pointer (some ⟨bb, 0, none⟩), .pointer (some ⟨sb, 0, none⟩)] w fun e w' =>
      e = .returned (.string t) ∧ Box w' sb 9 (.string S1) ∧ Box w' bb 4 (.bool b1) ∧ Upd2 sb bb w w' := by
  unfold rawC at h
  by_cases hc : bad = true ∨ (S.size : Int) < n
  · rw [if_pos hc] at h
    simp only [Prod.mk.injEq] at h
    obtain ⟨rfl, rfl, rfl⟩ := h
    exact raw_no sb bb n S bad w hS hb hne hc
  · rw [if_neg hc] at h
    simp only [Prod.mk.injEq] at h
    obtain ⟨rfl, rfl, rfl⟩ := h
    obtain rfl : bad = false := by
      cases bad
      · rfl
      · exact absurd (Or.inl rfl) hc
    obtain ⟨k, rfl⟩ := Int.eq_ofNat_of_zero_le hn
    rw [Int.toNat_natCast]
    exact raw_yes sb bb k S w hS hb hne (by omega)

theorem openNum (b : Nat) (most r : Int) (S S1 : ByteArray) (bad b1 : Bool) (w : World) (hA : At w b 45 S bad) (hbad : bad = true → S = ⟨#[]⟩) (hs : S.size ≤ 1000000) (h : numC S bad most = (r, S1, b1)) :
    Calls Try.prog 15 #[.pointer (some ⟨b, 0, none⟩), .int .i64 most] w fun e w' => e = .returned (.int .i64 r) ∧ At w' b 45 (norm S1 b1) b1 ∧ Upd b w w' := by
  unfold numC at h
  by_cases hc : bad = true ∨ (Pk.headB S.data.toList).2 = 0 ∨ most < ((Pk.headB S.data.toList).1 : Int)
  · rw [if_pos hc] at h
    simp only [Prod.mk.injEq] at h
    obtain ⟨rfl, rfl, rfl⟩ := h
    cases bad
    · refine oNum_no b S most w hA hs _ rfl ?_
      rcases hc with h | h
      · cases h
      · exact h
    · obtain rfl := hbad rfl
      refine (oNum_bad b _ most w hA).mono ?_
      rintro e w' ⟨rfl, rfl⟩
      exact ⟨rfl, hA, Upd.refl _ _⟩
  · rw [if_neg hc] at h
    simp only [Prod.mk.injEq] at h
    obtain ⟨rfl, rfl, rfl⟩ := h
    obtain rfl : bad = false := by
      cases bad
      · rfl
      · exact absurd (Or.inl rfl) hc
    exact oNum_yes b S most w hA hs _ rfl (by omega) (by omega)

theorem openText (b : Nat) (most r : Int) (S S1 S2 t : ByteArray) (bad b1 b2 : Bool) (w : World) (hA : At w b 45 S bad) (hbad : bad = true → S = ⟨#[]⟩) (hs : S.size ≤ 1000000) (h : numC S bad most = (r, S1, b1)) (h' : rawC S1 b1 r = (t, S2, b2)) :
    Calls Try.prog 16 #[.pointer (some ⟨b, 0, none⟩), .int .i64 most] w fun e w' => e = .returned (.string t) ∧ At w' b 45 (norm S2 b2) b2 ∧ Upd b w w' := by
  unfold numC at h
  by_cases hc : bad = true ∨ (Pk.headB S.data.toList).2 = 0 ∨ most < ((Pk.headB S.data.toList).1 : Int)
  · rw [if_pos hc] at h
    simp only [Prod.mk.injEq] at h
    obtain ⟨rfl, rfl, rfl⟩ := h
    unfold rawC at h'
    rw [if_pos (Or.inl rfl)] at h'
    simp only [Prod.mk.injEq] at h'
    obtain ⟨rfl, rfl, rfl⟩ := h'
    cases bad
    · refine oText_no b S most w hA hs _ rfl ?_
      rcases hc with h | h
      · cases h
      · exact h
    · obtain rfl := hbad rfl
      refine (oText_bad b _ most w hA).mono ?_
      rintro e w' ⟨rfl, rfl⟩
      exact ⟨rfl, hA, Upd.refl _ _⟩
  · rw [if_neg hc] at h
    simp only [Prod.mk.injEq] at h
    obtain ⟨rfl, rfl, rfl⟩ := h
    obtain rfl : bad = false := by
      cases bad
      · rfl
      · exact absurd (Or.inl rfl) hc
    unfold rawC at h'
    by_cases hc2 : false = true ∨ ((S.extract (Pk.headB S.data.toList).2 S.size).size : Int) < ((Pk.headB S.data.toList).1 : Int)
    · rw [if_pos hc2] at h'
      simp only [Prod.mk.injEq] at h'
      obtain ⟨rfl, rfl, rfl⟩ := h'
      refine oText_short b S most w hA hs _ rfl (by omega) (by omega) ?_
      rcases hc2 with h | h
      · cases h
      · omega
    · rw [if_neg hc2, Int.toNat_natCast] at h'
      simp only [Prod.mk.injEq] at h'
      obtain ⟨rfl, rfl, rfl⟩ := h'
      exact oText_yes b S most w hA hs _ rfl (by omega) (by omega) _ rfl (by omega)

theorem extract_all (S : ByteArray) : S.extract 0 S.size = S := by
  apply ByteArray.ext
  rw [ByteArray.data_extract]
  exact Array.extract_size
theorem extract_none (S : ByteArray) : S.extract 0 0 = ⟨#[]⟩ := by
  apply ByteArray.ext
  rw [ByteArray.data_extract]
  simp

theorem openRaw (b : Nat) (n : Int) (S S2 t : ByteArray) (bad b2 : Bool) (w : World) (hA : At w b 45 S bad) (hbad : bad = true → S = ⟨#[]⟩) (hs : S.size ≤ 1000000) (h' : rawC S bad (max n 0) = (t, S2, b2)) :
    Calls Try.prog 17 #[.pointer (some ⟨b, 0, none⟩), .int .i64 n] w fun e w' => e = .returned (.string t) ∧ At w' b 45 (norm S2 b2) b2 ∧ Upd b w w' := by
  unfold rawC at h'
  by_cases hc : bad = true ∨ (S.size : Int) < max n 0
  · rw [if_pos hc] at h'
    simp only [Prod.mk.injEq] at h'
    obtain ⟨rfl, rfl, rfl⟩ := h'
    cases bad
    · have hlt : (S.size : Int) < n := by
        rcases hc with h | h
        · cases h
        · omega
      exact oRaw_no b S n w hA (by omega) hlt
    · obtain rfl := hbad rfl
      refine (oRaw_bad b _ n w hA).mono ?_
      rintro e w' ⟨rfl, rfl⟩
      exact ⟨rfl, hA, Upd.refl _ _⟩
  · rw [if_neg hc] at h'
    simp only [Prod.mk.injEq] at h'
    obtain ⟨rfl, rfl, rfl⟩ := h'
    obtain rfl : bad = false := by
      cases bad
      · rfl
      · exact absurd (Or.inl rfl) hc
    by_cases hn : n < 0
    · rw [show max n 0 = 0 by omega, Int.toNat_zero, extract_none, extract_all]
      refine (oRaw_neg b S n w hA hn).mono ?_
      rintro e w' ⟨rfl, rfl⟩
      exact ⟨rfl, hA, Upd.refl _ _⟩
    · obtain ⟨k, rfl⟩ := Int.eq_ofNat_of_zero_le (show 0 ≤ n by omega)
      rw [show max (k : Int) 0 = k by omega, Int.toNat_natCast]
      exact oRaw_yes b k S w hA (by omega) hs
end Go.Proofs.Ytlajableceaoaaa
