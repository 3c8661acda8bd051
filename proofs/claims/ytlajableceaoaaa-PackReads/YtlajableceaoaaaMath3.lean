/-
  Plain mathematics: the document's reader of a number answers for any bytes as the program's reader does.
-/
import Derived.Test.YtlajableceaoaaaMath2
namespace Go.Proofs.Ytlajableceaoaaa.Pk

/-- The document's reader of s, from the k-th byte on, m being read. -/
def fscan (s : List UInt8) : List UInt8 → Nat → Nat → Nat × Nat
  | [], _, _ => (0, 0)
  | c :: t, m, k =>
    if 9 ≤ k then (0, 0)
    else if c.toNat < 128 then
      if 4611686018427387904 < m * 128 + c.toNat % 128 then (0, 0)
      else if numB (m * 128 + c.toNat % 128) = s.take (k + 1) then (m * 128 + c.toNat % 128, k + 1) else (0, 0)
    else fscan s t (m * 128 + c.toNat % 128) (k + 1)

theorem fscan_big (s : List UInt8) : ∀ (t : List UInt8) (m k : Nat), 36028797018963968 < m → fscan s t m k = (0, 0)
  | [], _, _, _ => rfl
  | c :: t, m, k, h => by
    rw [fscan]
    by_cases h9 : 9 ≤ k
    · rw [if_pos h9]
    · rw [if_neg h9]
      by_cases hc : c.toNat < 128
      · rw [if_pos hc, if_pos (by omega)]
      · rw [if_neg hc]
        exact fscan_big s t _ _ (by omega)

theorem scan_big (c : UInt8) (t : List UInt8) (m k : Nat) (h : 36028797018963968 < m) : scan (c :: t) m k = (0, 0) := by
  rw [scan, if_pos h]

/-- What has been read is a number's beginning. -/
def Began (pre : List UInt8) (m k : Nat) : Prop := pre.length = k ∧ ((k = 0 ∧ m = 0) ∨ (hi k m = pre ∧ m ≠ 0 ∧ m < 128 ^ k))

theorem numB_end {pre : List UInt8} {m k : Nat} (h : Began pre m k) (hk : k < 9) (c : UInt8) (hc : c.toNat < 128) : numB (m * 128 + c.toNat % 128) = pre ++ [c] := by
  unfold numB
  have e1 : (m * 128 + c.toNat % 128) / 128 = m := by omega
  have e2 : (m * 128 + c.toNat % 128) % 128 = c.toNat := by omega
  rw [e1, e2]
  congr 1
  · rcases h.2 with ⟨h1, h2⟩ | ⟨h1, h2, h3⟩
    · rw [h2, hi_zero]
      have := h.1
      rw [h1] at this
      exact (List.length_eq_zero_iff.1 this).symm
    · rw [← h1]
      refine hi_room 9 k m ?_ h3
      exact Nat.lt_of_lt_of_le h3 (Nat.pow_le_pow_right (by omega) (by omega))
  · simp

theorem began_step {pre : List UInt8} {m k : Nat} (h : Began pre m k) (c : UInt8) (hc : 128 ≤ c.toNat) (h0 : k = 0 → c ≠ 128) : Began (pre ++ [c]) (m * 128 + c.toNat % 128) (k + 1) := by
  have hl := c.toNat_lt
  refine ⟨by rw [List.length_append, h.1]; rfl, Or.inr ?_⟩
  rcases h.2 with ⟨h1, h2⟩ | ⟨h1, h2, h3⟩
  · subst h1 h2
    have hp : pre = [] := List.length_eq_zero_iff.1 h.1
    have h1 : c.toNat ≠ 128 := fun e => h0 rfl (by rw [← UInt8.toNat_inj]; exact e)
    rw [hp, hi_one 0 c hc (h0 rfl)]
    refine ⟨rfl, by omega, ?_⟩
    simp
    omega
  · rw [hi_snoc k m h2 c hc, h1]
    refine ⟨rfl, by omega, ?_⟩
    rw [Nat.pow_succ]
    omega

theorem began_big {pre : List UInt8} {m k : Nat} (h : Began pre m k) (hk : 9 ≤ k) : 36028797018963968 < m := by
  rcases h.2 with ⟨h1, _⟩ | ⟨h1, h2, h3⟩
  · omega
  · obtain ⟨_, _, a⟩ := hi_spec k m h3 h2
    rw [h1, h.1] at a
    have := Nat.pow_le_pow_right (n := 128) (by omega) (show 8 ≤ k - 1 by omega)
    rw [pow8] at this
    omega

theorem fscan_scan (s : List UInt8) (hs : s.head? ≠ some 128) : ∀ (t pre : List UInt8) (m k : Nat), Began pre m k → s = pre ++ t → fscan s t m k = scan t m k
  | [], _, _, _, _, _ => rfl
  | c :: t, pre, m, k, hb, he => by
    by_cases hbig : 36028797018963968 < m
    · rw [fscan_big s _ _ _ hbig, scan_big c t m k hbig]
    · have h9 : ¬ 9 ≤ k := fun h => hbig (began_big hb h)
      have hcl := c.toNat_lt
      rw [fscan, scan, if_neg h9, if_neg hbig]
      by_cases hc : c.toNat < 128
      · rw [if_pos hc, if_pos hc]
        have ht : s.take (k + 1) = pre ++ [c] := by
          rw [he, ← hb.1, List.take_append, List.take_of_length_le (by omega)]
          simp
        rw [ht, numB_end hb (by omega) c hc, if_pos rfl]
      · rw [if_neg hc, if_neg hc]
        by_cases h62 : 4611686018427387904 < m * 128 + c.toNat % 128
        · rw [if_pos h62, fscan_big s t _ _ (by omega)]
        · rw [if_neg h62]
          refine fscan_scan s hs t (pre ++ [c]) _ _ (began_step hb c (by omega) ?_) (by rw [he]; simp)
          intro hk
          subst hk
          have hp : pre = [] := List.length_eq_zero_iff.1 hb.1
          rw [he, hp] at hs
          simpa using hs

theorem numB_head {n : Nat} (hn : n ≤ 4611686018427387904) (h : (numB n).head? = some 128) : False := by
  have := headB_numB n [] hn
  rw [List.append_nil] at this
  unfold headB at this
  rw [if_pos h] at this
  have hl := numB_len hn
  simp at this
  rw [← this.2] at hl
  simp at hl

theorem fscan_128 (s : List UInt8) (hs : s.head? = some 128) : ∀ (t : List UInt8) (m k : Nat), fscan s t m k = (0, 0)
  | [], _, _ => rfl
  | c :: t, m, k => by
    rw [fscan]
    by_cases h9 : 9 ≤ k
    · rw [if_pos h9]
    · rw [if_neg h9]
      by_cases hc : c.toNat < 128
      · rw [if_pos hc]
        by_cases h62 : 4611686018427387904 < m * 128 + c.toNat % 128
        · rw [if_pos h62]
        · rw [if_neg h62, if_neg]
          intro e
          refine numB_head (n := m * 128 + c.toNat % 128) (by omega) ?_
          rw [e]
          cases s with
          | nil => simp at hs
          | cons a s => simpa using hs
      · rw [if_neg hc]
        exact fscan_128 s hs t _ _

/-- The two readers answer alike. -/
theorem first_head (s : List UInt8) : fscan s s 0 0 = headB s := by
  unfold headB
  by_cases h : s.head? = some 128
  · rw [if_pos h]
    exact fscan_128 s h s 0 0
  · rw [if_neg h]
    exact fscan_scan s h s [] 0 0 ⟨rfl, Or.inl ⟨rfl, rfl⟩⟩ rfl
end Go.Proofs.Ytlajableceaoaaa.Pk
