/-
  What the document's own digest keeps at hand, in plain mathematics.
-/
import Derived.Test.YtkijglkjpgjdaaaDoorHR1
import Derived.Test.YtkijglkjpgjdaaaDoorHR2
import Derived.Test.YtkijglkjpgjdaaaDoorHW6
namespace Go.Proofs.YtkijglkjpgjdaaaDoor.Ha
open Go.RowKit

/-- The first i words of a block. -/
def wpre (b : List Nat) (i : Nat) : List Nat := (Sh.ws b 48).take i

theorem ws_take (b : List Nat) (n : Nat) : ∀ k, (Sh.ws b (n + k)).take (16 + n) = Sh.ws b n
  | 0 => List.take_of_length_le (by rw [Nat.add_zero, Sh.ws_len]; omega)
  | k + 1 => by
    show (Sh.ws b (n + k) ++ [_]).take (16 + n) = _
    rw [List.take_append_of_le_length (by rw [Sh.ws_len]; omega)]
    exact ws_take b n k

theorem wpre_hi (b : List Nat) (j : Nat) (h : j ≤ 48) : wpre b (16 + j) = Sh.ws b j := by
  have := ws_take b j (48 - j)
  rw [show j + (48 - j) = 48 by omega] at this
  exact this

theorem wpre_lo (b : List Nat) (i : Nat) (h : i ≤ 16) : wpre b i = firsts b i := by
  have h1 : wpre b i = (wpre b 16).take i := by
    unfold wpre
    rw [List.take_take, Nat.min_eq_left h]
  rw [h1, show (16 : Nat) = 16 + 0 by rfl, wpre_hi b 0 (by omega)]
  show ((List.range 16).map (Sh.word b)).take i = _
  rw [← List.map_take, List.take_range, Nat.min_eq_left h]
  rfl

theorem wpre_len (b : List Nat) (i : Nat) (h : i ≤ 64) : (wpre b i).length = i := by
  unfold wpre
  rw [List.length_take, Sh.ws_len]
  omega

/-- A block's word, its first j bytes. -/
def pw (b : List Nat) (i : Nat) : Nat → Nat
  | 0 => 0
  | j + 1 => pw b i j * 256 + b.getD (4 * i + j) 0

theorem pw_four (b : List Nat) (i : Nat) : pw b i 4 = Sh.word b i := by
  simp only [pw, Sh.word, Nat.zero_mul, Nat.zero_add, Nat.add_zero]

theorem pw_lt (b : List Nat) (hb : ∀ x ∈ b, x < 256) (i : Nat) : ∀ j, pw b i j < 256 ^ j
  | 0 => by simp [pw]
  | j + 1 => by
    have h1 := pw_lt b hb i j
    have h2 := getD_lt hb (by decide) (4 * i + j)
    show pw b i j * 256 + _ < 256 ^ j * 256
    omega

/-- What stands in the words' block while word i is made. -/
def mid (b : List Nat) (i j : Nat) : List Nat := (mem (wpre b i)).set i (pw b i j)

theorem mid_zero (b : List Nat) (i : Nat) (h : i < 64) : mid b i 0 = mem (wpre b i) := by
  unfold mid
  apply List.ext_getElem
  · simp
  · intro k h1 h2
    by_cases e : i = k
    · subst e
      simp only [List.getElem_set_self, pw]
      simp only [mem]
      rw [List.getElem_append_right (by rw [wpre_len b i (by omega)]; omega)]
      simp
    · rw [List.getElem_set_ne e]

theorem mid_four (b : List Nat) (i : Nat) (h : i < 16) : mid b i 4 = mem (wpre b (i + 1)) := by
  unfold mid
  rw [pw_four]
  have h1 := mem_set (wpre b i) (Sh.word b i) (by rw [wpre_len b i (by omega)]; omega)
  rw [wpre_len b i (by omega)] at h1
  rw [h1, wpre_lo b i (by omega), wpre_lo b (i + 1) (by omega), firsts_succ]

theorem mid_set (b : List Nat) (i j x : Nat) (hx : x = pw b i (j + 1)) : (mid b i j).set i x = mid b i (j + 1) := by
  unfold mid
  rw [hx, List.set_set]

theorem mid_len (b : List Nat) (i j : Nat) (h : i ≤ 64) : (mid b i j).length = 64 := by
  unfold mid
  rw [List.length_set, mem_len _ (by rw [wpre_len b i h]; exact h)]

theorem mid_at (b : List Nat) (i j : Nat) (h : i < 64) : (mid b i j).getD i 0 = pw b i j := by
  unfold mid
  have : i < (mem (wpre b i)).length := by rw [mem_len _ (by rw [wpre_len b i (by omega)]; omega)]; exact h
  simp [List.getD, this]

theorem wpre_next (b : List Nat) (i : Nat) (h1 : 16 ≤ i) (h2 : i < 64) :
    (mem (wpre b i)).set i (((wpre b i).getD (i - 16) 0 + Sh.ss0 ((wpre b i).getD (i - 15) 0) + (wpre b i).getD (i - 7) 0 + Sh.ss1 ((wpre b i).getD (i - 2) 0)) % 4294967296) = mem (wpre b (i + 1)) := by
  obtain ⟨j, rfl⟩ : ∃ j, i = 16 + j := ⟨i - 16, by omega⟩
  have hm := mem_set (wpre b (16 + j)) (((wpre b (16 + j)).getD (16 + j - 16) 0 + Sh.ss0 ((wpre b (16 + j)).getD (16 + j - 15) 0) + (wpre b (16 + j)).getD (16 + j - 7) 0 + Sh.ss1 ((wpre b (16 + j)).getD (16 + j - 2) 0)) % 4294967296) (by rw [wpre_len _ _ (by omega)]; exact h2)
  rw [wpre_len _ _ (by omega)] at hm
  rw [hm, wpre_hi b j (by omega), show 16 + j + 1 = 16 + (j + 1) by omega, wpre_hi b (j + 1) (by omega), wnext_is b j (16 + j) rfl]

theorem wpre_all (b : List Nat) : wpre b 64 = Sh.ws b 48 := List.take_of_length_le (by rw [Sh.ws_len]; omega)

/-- Block m of a padded text. -/
def chunk (p : List Nat) (m : Nat) : List Nat := (p.drop (64 * m)).take 64

theorem chunk_at (p : List Nat) (m i : Nat) (hi : i < 64) : (chunk p m).getD i 0 = p.getD (64 * m + i) 0 := by
  simp [chunk, List.getD, hi]

theorem chunk_lt (p : List Nat) (h : ∀ x ∈ p, x < 256) (m : Nat) : ∀ x ∈ chunk p m, x < 256 := fun x hx => h x (List.mem_of_mem_drop (List.mem_of_mem_take hx))

theorem strOf_at (l : List Nat) (h : ∀ x ∈ l, x < 256) (i : Nat) (hi : i < (strOf l).size) : ((strOf l)[i]'hi).toNat = l.getD i 0 := by
  have hi' : i < l.length := by
    have : (strOf l).size = l.length := by
      show ((l.map UInt8.ofNat).toArray).size = _
      simp
    omega
  have hx := h _ (List.getElem_mem hi')
  show (((l.map UInt8.ofNat).toArray)[i]'(by simpa using hi')).toNat = _
  simp only [List.getElem_toArray, List.getElem_map, List.getD, List.getElem?_eq_getElem hi', Option.getD_some, UInt8.toNat_ofNat']
  omega
end Go.Proofs.YtkijglkjpgjdaaaDoor.Ha
