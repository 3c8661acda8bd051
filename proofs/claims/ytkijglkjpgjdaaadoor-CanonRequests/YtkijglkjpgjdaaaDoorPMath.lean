/-
  Plain mathematics of numbers as bytes (groups of seven bits, the highest first): lengths, order, that each number has bytes of its own. No condition beside those written at each theorem.
-/
import GoSem.Op.String
namespace Go.Proofs.YtkijglkjpgjdaaaDoor.Pa.Pk

/-- The bytes ahead of the last one. -/
def hi : Nat → Nat → List UInt8
  | 0, _ => []
  | f + 1, m => if m = 0 then [] else hi f (m / 128) ++ [UInt8.ofNat (m % 128 + 128)]

/-- A number's bytes. -/
def numB (n : Nat) : List UInt8 := hi 9 (n / 128) ++ [UInt8.ofNat (n % 128)]

theorem hi_zero (f : Nat) : hi f 0 = [] := by
  cases f <;> simp [hi]

theorem hi_step (f m : Nat) (h : m ≠ 0) : hi (f + 1) m = hi f (m / 128) ++ [UInt8.ofNat (m % 128 + 128)] := by
  simp [hi, h]

theorem div_lt_pow {m f : Nat} (h : m < 128 ^ (f + 1)) : m / 128 < 128 ^ f := by
  rw [Nat.pow_succ] at h
  omega

theorem hi_spec : ∀ f m : Nat, m < 128 ^ f → m ≠ 0 → m < 128 ^ (hi f m).length ∧ 0 < (hi f m).length ∧ 128 ^ ((hi f m).length - 1) ≤ m
  | 0, m, h, hm => by
    simp at h
    omega
  | f + 1, m, h, hm => by
    rw [hi_step f m hm]
    by_cases hz : m / 128 = 0
    · rw [hz, hi_zero]
      simp
      omega
    · obtain ⟨a, b, c⟩ := hi_spec f (m / 128) (div_lt_pow h) hz
      rw [List.length_append]
      simp only [List.length_singleton, Nat.add_sub_cancel]
      generalize (hi f (m / 128)).length = k at *
      refine ⟨?_, by omega, ?_⟩
      · rw [Nat.pow_succ]
        omega
      · obtain ⟨j, rfl⟩ : ∃ j, k = j + 1 := ⟨k - 1, by omega⟩
        simp only [Nat.add_sub_cancel] at c
        rw [Nat.pow_succ]
        omega

theorem len_mono {f a b : Nat} (ha : a < 128 ^ f) (hb : b < 128 ^ f) (h : a ≤ b) : (hi f a).length ≤ (hi f b).length := by
  by_cases hz : a = 0
  · subst hz
    rw [hi_zero]
    simp
  · obtain ⟨a1, a2, a3⟩ := hi_spec f a ha hz
    obtain ⟨b1, b2, b3⟩ := hi_spec f b hb (by omega)
    generalize (hi f a).length = k at *
    generalize (hi f b).length = j at *
    rcases Nat.lt_or_ge j k with hlt | hge
    · have := Nat.pow_le_pow_right (n := 128) (by omega) (show j ≤ k - 1 by omega)
      omega
    · exact hge

theorem len_le {f m k : Nat} (hf : m < 128 ^ f) (h : m < 128 ^ k) : (hi f m).length ≤ k := by
  by_cases hz : m = 0
  · subst hz
    rw [hi_zero]
    simp
  · obtain ⟨a1, a2, a3⟩ := hi_spec f m hf hz
    generalize (hi f m).length = j at *
    rcases Nat.lt_or_ge k j with hlt | hge
    · have := Nat.pow_le_pow_right (n := 128) (by omega) (show k ≤ j - 1 by omega)
      omega
    · exact hge

theorem less_append : ∀ (x y : List UInt8) (c d : UInt8), x.length = y.length →
    Op.bytesLess (x ++ [c]) (y ++ [d]) = (Op.bytesLess x y || (x == y && decide (c < d)))
  | [], [], c, d, _ => by simp [Op.bytesLess]
  | [], _ :: _, _, _, h => by simp at h
  | _ :: _, [], _, _, h => by simp at h
  | a :: x, b :: y, c, d, h => by
    have hl : x.length = y.length := by simpa using h
    simp only [List.cons_append, Op.bytesLess, less_append x y c d hl]
    simp only [List.cons_beq_cons]
    cases decide (a < b) <;> cases (a == b) <;> simp

theorem ofNat_lt {a b : Nat} (ha : a < 256) (hb : b < 256) : decide (UInt8.ofNat a < UInt8.ofNat b) = decide (a < b) := by
  rw [decide_eq_decide, UInt8.lt_iff_toNat_lt, UInt8.toNat_ofNat', UInt8.toNat_ofNat', Nat.mod_eq_of_lt (by simpa using ha), Nat.mod_eq_of_lt (by simpa using hb)]

theorem ofNat_inj {a b : Nat} (ha : a < 256) (hb : b < 256) : UInt8.ofNat a = UInt8.ofNat b ↔ a = b := by
  rw [← UInt8.toNat_inj, UInt8.toNat_ofNat', UInt8.toNat_ofNat', Nat.mod_eq_of_lt (by simpa using ha), Nat.mod_eq_of_lt (by simpa using hb)]

theorem snoc_inj {x y : List UInt8} {c d : UInt8} : x ++ [c] = y ++ [d] ↔ x = y ∧ c = d := by
  constructor
  · intro h
    have := List.append_inj' h rfl
    simpa using this
  · rintro ⟨rfl, rfl⟩
    rfl

theorem hi_inj : ∀ (f a b : Nat), a < 128 ^ f → b < 128 ^ f → (hi f a = hi f b ↔ a = b)
  | 0, a, b, ha, hb => by
    simp at ha hb
    simp [hi, ha, hb]
  | f + 1, a, b, ha, hb => by
    by_cases za : a = 0
    · subst za
      by_cases zb : b = 0
      · simp [zb]
      · rw [hi_step f b zb, hi_zero]
        simp
        omega
    · by_cases zb : b = 0
      · subst zb
        rw [hi_step f a za, hi_zero]
        simp [za]
      · rw [hi_step f a za, hi_step f b zb, snoc_inj, hi_inj f _ _ (div_lt_pow ha) (div_lt_pow hb), ofNat_inj (by omega) (by omega)]
        omega

theorem hi_less : ∀ (f a b : Nat), a < 128 ^ f → b < 128 ^ f → (hi f a).length = (hi f b).length → Op.bytesLess (hi f a) (hi f b) = decide (a < b)
  | 0, a, b, ha, hb, _ => by
    simp at ha hb
    simp [hi, ha, hb, Op.bytesLess]
  | f + 1, a, b, ha, hb, hl => by
    by_cases za : a = 0
    · subst za
      by_cases zb : b = 0
      · simp [zb, hi_zero, Op.bytesLess]
      · rw [hi_step f b zb, hi_zero] at hl
        simp at hl
    · by_cases zb : b = 0
      · subst zb
        rw [hi_step f a za, hi_zero] at hl
        simp at hl
      · rw [hi_step f a za, hi_step f b zb] at hl ⊢
        have hl2 : (hi f (a / 128)).length = (hi f (b / 128)).length := by simpa using hl
        rw [less_append _ _ _ _ hl2, hi_less f _ _ (div_lt_pow ha) (div_lt_pow hb) hl2, ofNat_lt (by omega) (by omega)]
        have hi' := hi_inj f (a / 128) (b / 128) (div_lt_pow ha) (div_lt_pow hb)
        by_cases e : a / 128 = b / 128
        · have e2 : (hi f (a / 128) == hi f (b / 128)) = true := by simp [e]
          rw [e2, e]
          simp
          omega
        · have e2 : (hi f (a / 128) == hi f (b / 128)) = false := by
            rw [beq_eq_false_iff_ne]
            intro h
            exact e (hi'.1 h)
          rw [e2]
          simp
          omega

theorem pow9 : (128 : Nat) ^ 9 = 9223372036854775808 := by decide
theorem pow8 : (128 : Nat) ^ 8 = 72057594037927936 := by decide

theorem numB_inj {a b : Nat} (ha : a ≤ 4611686018427387904) (hb : b ≤ 4611686018427387904) : numB a = numB b ↔ a = b := by
  unfold numB
  rw [snoc_inj, hi_inj 9 _ _ (by rw [pow9]; omega) (by rw [pow9]; omega), ofNat_inj (by omega) (by omega)]
  omega

theorem numB_len {a : Nat} (_ha : a ≤ 4611686018427387904) : 1 ≤ (numB a).length ∧ (numB a).length ≤ 9 := by
  unfold numB
  have := len_le (f := 9) (m := a / 128) (k := 8) (by rw [pow9]; omega) (by rw [pow8]; omega)
  simp
  omega

theorem numB_mono {a b : Nat} (_ha : a ≤ 4611686018427387904) (hb : b ≤ 4611686018427387904) (h : a ≤ b) : (numB a).length ≤ (numB b).length := by
  unfold numB
  have := len_mono (f := 9) (a := a / 128) (b := b / 128) (by rw [pow9]; omega) (by rw [pow9]; omega) (by omega)
  simpa using this

theorem numB_less {a b : Nat} (ha : a ≤ 4611686018427387904) (hb : b ≤ 4611686018427387904) (hl : (numB a).length = (numB b).length) : Op.bytesLess (numB a) (numB b) = decide (a < b) := by
  unfold numB at hl ⊢
  have hl2 : (hi 9 (a / 128)).length = (hi 9 (b / 128)).length := by simpa using hl
  rw [less_append _ _ _ _ hl2, hi_less 9 _ _ (by rw [pow9]; omega) (by rw [pow9]; omega) hl2, ofNat_lt (by omega) (by omega)]
  have hi' := hi_inj 9 (a / 128) (b / 128) (by rw [pow9]; omega) (by rw [pow9]; omega)
  by_cases e : a / 128 = b / 128
  · have e2 : (hi 9 (a / 128) == hi 9 (b / 128)) = true := by simp [e]
    rw [e2, e]
    simp
    omega
  · have e2 : (hi 9 (a / 128) == hi 9 (b / 128)) = false := by
      rw [beq_eq_false_iff_ne]
      intro h
      exact e (hi'.1 h)
    rw [e2]
    simp
    omega
end Go.Proofs.YtkijglkjpgjdaaaDoor.Pa.Pk
