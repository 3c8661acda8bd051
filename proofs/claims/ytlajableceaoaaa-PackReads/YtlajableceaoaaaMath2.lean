/-
  Plain mathematics of reading a number's bytes: what the program's reader and the document's reader answer for any bytes.
-/
import Derived.Test.YtlajableceaoaaaMath
namespace Go.Proofs.Ytlajableceaoaaa.Pk

/-- The program's reader, from the k-th byte on, m being read. -/
def scan : List UInt8 → Nat → Nat → Nat × Nat
  | [], _, _ => (0, 0)
  | c :: t, m, k =>
    if 36028797018963968 < m then (0, 0)
    else if 4611686018427387904 < m * 128 + c.toNat % 128 then (0, 0)
    else if c.toNat < 128 then (m * 128 + c.toNat % 128, k + 1)
    else scan t (m * 128 + c.toNat % 128) (k + 1)

/-- The program's reader. -/
def headB (s : List UInt8) : Nat × Nat := if s.head? = some 128 then (0, 0) else scan s 0 0

/-- What has been read: bytes with their highest bit set, of the value m. -/
theorem hi_snoc : ∀ (f m : Nat), m ≠ 0 → ∀ c : UInt8, 128 ≤ c.toNat → hi (f + 1) (m * 128 + c.toNat % 128) = hi f m ++ [c] := by
  intro f m hm c hc
  have hlt := c.toNat_lt
  rw [hi_step f _ (by omega)]
  have e1 : (m * 128 + c.toNat % 128) / 128 = m := by omega
  have e2 : (m * 128 + c.toNat % 128) % 128 + 128 = c.toNat := by omega
  rw [e1, e2]
  simp

theorem hi_one (f : Nat) (c : UInt8) (hc : 128 ≤ c.toNat) (h0 : c ≠ 128) : hi (f + 1) (0 * 128 + c.toNat % 128) = [c] := by
  have hlt := c.toNat_lt
  have h1 : c.toNat ≠ 128 := fun h => h0 (by rw [← UInt8.toNat_inj]; exact h)
  rw [hi_step f _ (by omega)]
  have e1 : (0 * 128 + c.toNat % 128) / 128 = 0 := by omega
  have e2 : (0 * 128 + c.toNat % 128) % 128 + 128 = c.toNat := by omega
  rw [e1, e2, hi_zero]
  simp

/-- More room gives the same bytes. -/
theorem hi_room : ∀ (f g m : Nat), m < 128 ^ f → m < 128 ^ g → hi f m = hi g m
  | 0, g, m, h, _ => by
    simp at h
    rw [h, hi_zero, hi_zero]
  | f + 1, 0, m, _, h => by
    simp at h
    rw [h, hi_zero, hi_zero]
  | f + 1, g + 1, m, hf, hg => by
    by_cases hz : m = 0
    · rw [hz, hi_zero, hi_zero]
    · rw [hi_step f m hz, hi_step g m hz, hi_room f g _ (div_lt_pow hf) (div_lt_pow hg)]

/-- Reading goes over the bytes of a number ahead of its last one. -/
theorem scan_hi : ∀ (f m : Nat) (t : List UInt8), m < 128 ^ f → m ≤ 36028797018963968 → scan (hi f m ++ t) 0 0 = scan t m (hi f m).length
  | 0, m, t, h, _ => by
    simp at h
    simp [h, hi]
  | f + 1, m, t, h, hm => by
    by_cases hz : m = 0
    · rw [hz, hi_zero]
      rfl
    · rw [hi_step f m hz, List.append_assoc, scan_hi f (m / 128) _ (div_lt_pow h) (by omega)]
      simp only [List.cons_append, List.nil_append, scan]
      have e : (UInt8.ofNat (m % 128 + 128)).toNat = m % 128 + 128 := by
        rw [UInt8.toNat_ofNat', Nat.mod_eq_of_lt (by omega)]
      rw [e, if_neg (by omega), if_neg (by omega), if_neg (by omega)]
      have e2 : m / 128 * 128 + (m % 128 + 128) % 128 = m := by omega
      rw [e2]
      simp

theorem hi_head : ∀ (f m : Nat) (t : List UInt8) (x : UInt8), m < 128 ^ f → m ≠ 0 → (hi f m ++ t).head? = some x → 128 < x.toNat
  | 0, m, t, x, h, hm, _ => by
    simp at h
    omega
  | f + 1, m, t, x, h, hm, hx => by
    rw [hi_step f m hm, List.append_assoc] at hx
    by_cases hz : m / 128 = 0
    · rw [hz, hi_zero] at hx
      simp only [List.nil_append, List.cons_append, List.head?_cons, Option.some.injEq] at hx
      rw [← hx, UInt8.toNat_ofNat', Nat.mod_eq_of_lt (by omega)]
      omega
    · exact hi_head f (m / 128) _ x (div_lt_pow h) hz hx

/-- A number's own bytes are read as this number, whatever stands behind them. -/
theorem headB_numB (n : Nat) (t : List UInt8) (h : n ≤ 4611686018427387904) : headB (numB n ++ t) = (n, (numB n).length) := by
  have hn : n / 128 < 128 ^ 9 := by rw [pow9]; omega
  unfold headB numB
  rw [if_neg, List.append_assoc, scan_hi 9 _ _ hn (by omega)]
  · simp only [List.cons_append, List.nil_append, scan]
    have e : (UInt8.ofNat (n % 128)).toNat = n % 128 := by
      rw [UInt8.toNat_ofNat', Nat.mod_eq_of_lt (by omega)]
    rw [e, if_neg (by omega), if_neg (by omega), if_pos (by omega)]
    have e2 : n / 128 * 128 + n % 128 % 128 = n := by omega
    rw [e2]
    simp
  · intro hx
    rw [List.append_assoc] at hx
    by_cases hz : n / 128 = 0
    · rw [hz, hi_zero] at hx
      simp at hx
      have : (UInt8.ofNat (n % 128)).toNat = 128 := by rw [hx]; rfl
      rw [UInt8.toNat_ofNat', Nat.mod_eq_of_lt (by omega)] at this
      omega
    · have := hi_head 9 _ _ _ hn hz hx
      simp at this
theorem scan_le : ∀ (l : List UInt8) (m k : Nat), (scan l m k).2 ≤ k + l.length ∧ (scan l m k).1 ≤ 4611686018427387904
  | [], m, k => by simp [scan]
  | c :: t, m, k => by
    have h := scan_le t (m * 128 + c.toNat % 128) (k + 1)
    rw [scan]
    by_cases h1 : 36028797018963968 < m
    · rw [if_pos h1]
      simp
    · rw [if_neg h1]
      by_cases h2 : 4611686018427387904 < m * 128 + c.toNat % 128
      · rw [if_pos h2]
        simp
      · rw [if_neg h2]
        by_cases h3 : c.toNat < 128
        · rw [if_pos h3, List.length_cons]
          exact ⟨by show k + 1 ≤ _; omega, by show m * 128 + c.toNat % 128 ≤ _; omega⟩
        · rw [if_neg h3, List.length_cons]
          exact ⟨by omega, h.2⟩

theorem headB_le (l : List UInt8) : (headB l).2 ≤ l.length ∧ (headB l).1 ≤ 4611686018427387904 := by
  unfold headB
  by_cases h : l.head? = some 128
  · rw [if_pos h]
    simp
  · rw [if_neg h]
    have := scan_le l 0 0
    rw [Nat.zero_add] at this
    exact this
end Go.Proofs.Ytlajableceaoaaa.Pk
