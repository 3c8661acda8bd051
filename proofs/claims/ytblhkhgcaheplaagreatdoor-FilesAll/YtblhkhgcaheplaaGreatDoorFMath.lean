/-
  Names with numbers, as plain lists of bytes: the name of a word and a number, the number of a name; both readers find it.
-/
import Derived.Lib.IndexMore
import Derived.Lib.AtoiAll
import Derived.Lib.ItoaNum
namespace Go.Proofs.YtblhkhgcaheplaaGreatDoor.Fi
open Go.Lib
set_option maxRecDepth 100000

/-- A word. -/
def wd (l : List UInt8) : Bool := decide (1 ≤ l.length) && decide (l.length ≤ 5) && l.all fun b => decide (97 ≤ b.toNat) && decide (b.toNat ≤ 122)

/-- A name. -/
def nm (w : List UInt8) (n : Int) : List UInt8 := if (wd w && decide (1 ≤ n) && decide (n ≤ 99999)) = true then w ++ 46 :: decDigits n.toNat else []

/-- By the program: what stands behind the first point, read, and written anew. -/
def numP (w name : List UInt8) : Int × Bool := match atoiAll (cut name [46]).2.1 with
  | .ok v => if nm w v = name then (v, true) else (0, false)
  | _ => (0, false)

/-- Digits, while the number is below 100000. -/
def rd : Nat → List UInt8 → Option Nat
  | n, [] => some n
  | n, c :: r => if n < 100000 then (if 48 ≤ c.toNat ∧ c.toNat ≤ 57 then rd (n * 10 + (c.toNat - 48)) r else none) else some n

/-- By the document: what stands behind the word's length and one more. -/
def numR (w name : List UInt8) : Nat := match rd 0 (name.drop (w.length + 1)) with
  | some v => if name = [] ∨ nm w v ≠ name then 0 else v
  | none => 0

theorem wd_iff {l : List UInt8} : wd l = true ↔ 1 ≤ l.length ∧ l.length ≤ 5 ∧ ∀ b ∈ l, 97 ≤ b.toNat ∧ b.toNat ≤ 122 := by
  simp [wd, List.all_eq_true, and_assoc]

theorem nm_in {w : List UInt8} {n : Int} (hw : wd w = true) (h1 : 1 ≤ n) (h2 : n ≤ 99999) : nm w n = w ++ 46 :: decDigits n.toNat := by
  simp [nm, hw, h1, h2]

theorem nm_out {w : List UInt8} {n : Int} (h : nm w n ≠ []) : wd w = true ∧ 1 ≤ n ∧ n ≤ 99999 := by
  unfold nm at h
  split at h
  · rename_i h1
    simpa [and_assoc] using h1
  · exact absurd rfl h

theorem nm_empty {w : List UInt8} {n : Int} : nm w n = [] ↔ ¬ (wd w = true ∧ 1 ≤ n ∧ n ≤ 99999) := by
  constructor
  · rintro h ⟨a, b, c⟩
    rw [nm_in a b c] at h
    simp at h
  · intro h
    apply Classical.byContradiction
    intro h1
    exact h (nm_out h1)

theorem pu_snoc : ∀ (l : List UInt8) (acc : Nat) (c : UInt8), parseUint10 acc (l ++ [c]) = match parseUint10 acc l with | .ok u => parseUint10 u [c] | .syntax => .syntax | .range => .range
  | [], acc, c => by simp [parseUint10]
  | b :: r, acc, c => by
    rw [List.cons_append]
    unfold parseUint10
    split
    · split
      · rfl
      · split
        · rfl
        · exact pu_snoc r _ c
    · rfl

theorem dig_nat {k : Nat} (h : k < 10) : (UInt8.ofNat (48 + k)).toNat = 48 + k := by
  rw [UInt8.toNat_ofNat']
  omega

theorem pu_dec (n : Nat) (h : n ≤ 99999) : parseUint10 0 (decDigits n) = .ok n := by
  induction n using Nat.strongRecOn with
  | _ n ih =>
    rw [decDigits]
    split
    · rename_i h1
      simp only [parseUint10, dig_nat h1]
      rw [if_pos (by omega), if_neg (by omega), if_neg (by omega)]
      congr 1
      omega
    · rename_i h1
      rw [pu_snoc, ih (n / 10) (by omega) (by omega)]
      simp only [parseUint10, dig_nat (Nat.mod_lt n (by omega : 0 < 10))]
      rw [if_pos (by omega), if_neg (by omega), if_neg (by omega)]
      congr 1
      omega

theorem rd_snoc : ∀ (l : List UInt8) (acc : Nat) (c : UInt8), rd acc (l ++ [c]) = (rd acc l).bind fun u => rd u [c]
  | [], acc, c => by simp [rd]
  | b :: r, acc, c => by
    rw [List.cons_append]
    unfold rd
    split
    · rename_i hlt
      split
      · rw [rd_snoc r _ c]
        simp [rd]
      · rfl
    · rename_i hlt
      simp [hlt]

theorem rd_dec (n : Nat) (h : n ≤ 99999) : rd 0 (decDigits n) = some n := by
  induction n using Nat.strongRecOn with
  | _ n ih =>
    rw [decDigits]
    split
    · rename_i h1
      simp only [rd, dig_nat h1]
      rw [if_pos (by omega), if_pos (by omega)]
      congr 1
      omega
    · rename_i h1
      rw [rd_snoc, ih (n / 10) (by omega) (by omega)]
      simp only [Option.bind, rd, dig_nat (Nat.mod_lt n (by omega : 0 < 10))]
      rw [if_pos (by omega), if_pos (by omega)]
      congr 1
      omega

theorem dec_head (n : Nat) : ∃ c r, decDigits n = c :: r ∧ 48 ≤ c.toNat ∧ c.toNat ≤ 57 := by
  induction n using Nat.strongRecOn with
  | _ n ih =>
    rw [decDigits]
    split
    · rename_i h1
      exact ⟨_, _, rfl, by rw [dig_nat h1]; omega⟩
    · obtain ⟨c, r, e, h2⟩ := ih (n / 10) (by omega)
      exact ⟨c, r ++ _, by rw [e]; rfl, h2⟩

theorem atoi_dec (n : Nat) (h : n ≤ 99999) : atoiAll (decDigits n) = .ok (n : Int) := by
  have hp := pu_dec n h
  obtain ⟨c, r, e, h1, h2⟩ := dec_head n
  rw [e] at hp ⊢
  unfold atoiAll
  simp only
  rw [if_neg (by omega)]
  unfold parseMag
  rw [if_neg (by simp), hp]
  simp only
  rw [if_neg (by omega), if_neg (by omega), if_neg (by omega)]

theorem index_word : ∀ (w ds : List UInt8), (∀ b ∈ w, 97 ≤ b.toNat) → index (w ++ 46 :: ds) [46] = w.length
  | [], ds, _ => by simp [index, List.isPrefixOf]
  | b :: w, ds, h => by
    have ih := index_word w ds fun x hx => h x (List.mem_cons_of_mem _ hx)
    have hb : (46 == b) = false := by
      rw [beq_eq_false_iff_ne]
      intro e
      have := h b (List.mem_cons_self ..)
      rw [← e] at this
      exact absurd this (by decide)
    rw [List.cons_append]
    unfold index
    simp only [List.isPrefixOf, hb, Bool.false_and]
    rw [ih]
    simp

theorem cut_word (w ds : List UInt8) (h : ∀ b ∈ w, 97 ≤ b.toNat) : (cut (w ++ 46 :: ds) [46]).2.1 = ds := by
  unfold cut
  rw [index_word w ds h, if_pos (by omega)]
  simp

/-- Of a name both readers find the number. -/
theorem numP_in {w : List UInt8} {n : Int} (hw : wd w = true) (h1 : 1 ≤ n) (h2 : n ≤ 99999) : numP w (nm w n) = (n, true) := by
  have hn : ((n.toNat : Nat) : Int) = n := by omega
  rw [nm_in hw h1 h2]
  unfold numP
  rw [cut_word _ _ fun b hb => ((wd_iff.1 hw).2.2 b hb).1, atoi_dec _ (by omega), hn]
  simp only
  rw [if_pos (nm_in hw h1 h2)]

theorem numR_in {w : List UInt8} {n : Int} (hw : wd w = true) (h1 : 1 ≤ n) (h2 : n ≤ 99999) : (numR w (nm w n) : Int) = n := by
  have hn : ((n.toNat : Nat) : Int) = n := by omega
  rw [nm_in hw h1 h2]
  unfold numR
  have : (w ++ 46 :: decDigits n.toNat).drop (w.length + 1) = decDigits n.toNat := by
    rw [← List.drop_drop, List.drop_left]; rfl
  rw [this, rd_dec _ (by omega)]
  simp only
  rw [hn, nm_in hw h1 h2, if_neg (by simp), hn]

/-- What is no name has none. -/
theorem numP_out {w name : List UInt8} (h : ∀ n, nm w n = name → name = []) : numP w name = (0, false) := by
  unfold numP
  split
  · rename_i v hv
    split
    · rename_i e
      have := h v e
      subst this
      have : (cut [] [46]).2.1 = [] := by decide
      rw [this] at hv
      simp [atoiAll] at hv
    · rfl
  · rfl

theorem numR_out {w name : List UInt8} (h : ∀ n, nm w n = name → name = []) : numR w name = 0 := by
  unfold numR
  split
  · split
    · rfl
    · rename_i h1
      exact absurd (Or.inl (h _ (by
        apply Classical.byContradiction
        intro h2
        exact h1 (Or.inr h2)))) h1
  · rfl

theorem num_both (w name : List UInt8) : numP w name = ((numR w name : Int), decide (0 < numR w name)) := by
  by_cases h : ∃ n, nm w n = name ∧ name ≠ []
  · obtain ⟨n, rfl, hne⟩ := h
    obtain ⟨a, b, c⟩ := nm_out hne
    have h1 := numR_in a b c
    rw [numP_in a b c, h1]
    simp
    omega
  · have h' : ∀ n, nm w n = name → name = [] := fun n e => by
      apply Classical.byContradiction
      intro hne
      exact h ⟨n, e, hne⟩
    rw [numP_out h', numR_out h']
    rfl

theorem num_back (w : List UInt8) (n : Int) : numP w (nm w n) = if nm w n = [] then (0, false) else (n, true) := by
  split
  · rename_i h
    rw [h]
    unfold numP
    have : (cut [] [46]).2.1 = [] := by decide
    rw [this]
    simp [atoiAll]
  · rename_i h
    obtain ⟨a, b, c⟩ := nm_out h
    exact numP_in a b c

/-- A number is of one name of a word alone. -/
theorem nm_inj {w : List UInt8} {m n : Int} (h : nm w m = nm w n) (hne : nm w m ≠ []) : m = n := by
  have h1 := num_back w m
  have h2 := num_back w n
  rw [if_neg hne] at h1
  rw [if_neg (h ▸ hne), ← h, h1] at h2
  exact congrArg Prod.fst h2

/-- The document's digits, one more ahead of what is written. -/
theorem dec_more {n : Nat} (out : List UInt8) (h : 0 < n) : (if n / 10 = 0 then [] else decDigits (n / 10)) ++ UInt8.ofNat (48 + n % 10) :: out = decDigits n ++ out := by
  conv => rhs; rw [decDigits]
  split
  · rename_i h1
    rw [dif_pos (by omega)]
    simp [Nat.mod_eq_of_lt (show n < 10 by omega)]
  · rw [dif_neg (by omega)]
    simp
end Go.Proofs.YtblhkhgcaheplaaGreatDoor.Fi
