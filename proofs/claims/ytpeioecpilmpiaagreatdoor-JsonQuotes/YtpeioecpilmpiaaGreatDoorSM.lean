/-
  Plain mathematics of the signs of a text: which there are, where each begins, and what is made of them. No condition beside those written at each theorem.
-/
import Derived.Test.YtpeioecpilmpiaaGreatDoorJ25
import Derived.Lib.MapLaws
import Derived.Lib.RuneCountTail
import Derived.Lib.TrimU
namespace Go.Proofs.YtpeioecpilmpiaaGreatDoor.Si.Sg

/-- The sign at a place, and how many bytes it takes. -/
def rn (s : ByteArray) (p : Nat) : Nat := (Utf8.decode s p).1
def wd (s : ByteArray) (p : Nat) : Nat := (Utf8.decode s p).2

theorem wd_pos (s : ByteArray) (p : Nat) : 1 ≤ wd s p := Lib.width_pos s p

theorem wd_le (s : ByteArray) (p : Nat) (h : p < s.size) : p + wd s p ≤ s.size := by
  unfold wd
  rw [Lib.decode_at]
  rcases Lib.decodeN_shape (s.size - p) (s.get! p).toNat (s.get! (p + 1)).toNat (s.get! (p + 2)).toNat (s.get! (p + 3)).toNat with ⟨c, e⟩ | ⟨c1, c2, c3, cv, e⟩ | ⟨c1, c2, c3, c4, cv, cs, e⟩ | ⟨c1, c2, c3, c4, c5, cv, cw, e⟩ | e
  all_goals (rw [e]; dsimp only; omega)

theorem rn_ok (s : ByteArray) (p : Nat) : rn s p < 55296 ∨ (57343 < rn s p ∧ rn s p ≤ 1114111) := by
  unfold rn
  rw [Lib.decode_at]
  have k0 := (s.get! p).toNat_lt
  have k1 := (s.get! (p + 1)).toNat_lt
  have k2 := (s.get! (p + 2)).toNat_lt
  have k3 := (s.get! (p + 3)).toNat_lt
  rcases Lib.decodeN_shape (s.size - p) (s.get! p).toNat (s.get! (p + 1)).toNat (s.get! (p + 2)).toNat (s.get! (p + 3)).toNat with ⟨c, e⟩ | ⟨c1, c2, c3, cv, e⟩ | ⟨c1, c2, c3, c4, cv, cs, e⟩ | ⟨c1, c2, c3, c4, c5, cv, cw, e⟩ | e
  all_goals (rw [e]; dsimp only; omega)

theorem rn_len (s : ByteArray) (p : Nat) (h : rn s p ≠ 65533) : Lib.runeLen (rn s p : Int) = (wd s p : Int) := by
  unfold rn wd at *
  rw [← Lib.decodeL_drop] at *
  exact Lib.runeLen_decode _ h

/-- The signs from a place on, each with its place. -/
def sf (s : ByteArray) : Nat → Nat → List (Nat × Nat)
  | 0, _ => []
  | f + 1, p => if p < s.size then (rn s p, p) :: sf s f (p + wd s p) else []

def fr (s : ByteArray) (p : Nat) : List (Nat × Nat) := sf s (s.size - p) p

theorem sf_enough (s : ByteArray) : ∀ (f g p : Nat), s.size - p ≤ f → s.size - p ≤ g → sf s f p = sf s g p
  | 0, 0, _, _, _ => rfl
  | 0, g + 1, p, h, _ => by simp [sf, show ¬ p < s.size by omega]
  | f + 1, 0, p, _, h => by simp [sf, show ¬ p < s.size by omega]
  | f + 1, g + 1, p, h1, h2 => by
    have := wd_pos s p
    simp only [sf]
    rw [sf_enough s f g (p + wd s p) (by omega) (by omega)]

theorem fr_step (s : ByteArray) (p : Nat) (h : p < s.size) : fr s p = (rn s p, p) :: fr s (p + wd s p) := by
  have := wd_pos s p
  unfold fr
  rw [show s.size - p = (s.size - p - 1) + 1 by omega]
  simp only [sf, if_pos h]
  rw [sf_enough s (s.size - p - 1) (s.size - (p + wd s p)) _ (by omega) (by omega)]

theorem fr_end (s : ByteArray) (p : Nat) (h : ¬ p < s.size) : fr s p = [] := by
  unfold fr
  rw [show s.size - p = 0 by omega]
  rfl

/-- Where sign k begins. -/
def pa (s : ByteArray) : Nat → Nat
  | 0 => 0
  | k + 1 => pa s k + wd s (pa s k)

/-- How many signs. -/
def len (s : ByteArray) : Nat := (fr s 0).length

theorem drop_pa (s : ByteArray) : ∀ k, k ≤ len s → (fr s 0).drop k = fr s (pa s k) ∧ pa s k ≤ s.size
  | 0, _ => ⟨rfl, Nat.zero_le _⟩
  | k + 1, h => by
    obtain ⟨h1, h2⟩ := drop_pa s k (by omega)
    have hlt : pa s k < s.size := by
      rcases Nat.lt_or_ge (pa s k) s.size with h3 | h3
      · exact h3
      · rw [fr_end s (pa s k) (by omega)] at h1
        have := congrArg List.length h1
        rw [List.length_drop] at this
        unfold len at h
        simp at this
        omega
    refine ⟨?_, wd_le s _ hlt⟩
    rw [← List.drop_drop, h1, fr_step s _ hlt]
    rfl

theorem pa_lt (s : ByteArray) (k : Nat) (h : k < len s) : pa s k < s.size := by
  obtain ⟨h1, _⟩ := drop_pa s k (by omega)
  rcases Nat.lt_or_ge (pa s k) s.size with h3 | h3
  · exact h3
  · rw [fr_end s (pa s k) (by omega)] at h1
    have := congrArg List.length h1
    rw [List.length_drop] at this
    unfold len at h
    simp at this
    omega

theorem pa_end (s : ByteArray) : pa s (len s) = s.size := by
  obtain ⟨h1, h2⟩ := drop_pa s (len s) (Nat.le_refl _)
  rcases Nat.lt_or_ge (pa s (len s)) s.size with h3 | h3
  · rw [fr_step s _ h3] at h1
    have := congrArg List.length h1
    rw [List.length_drop] at this
    unfold len at this
    simp at this
  · omega

theorem at_pa (s : ByteArray) (k : Nat) (h : k < len s) : (fr s 0)[k]? = some (rn s (pa s k), pa s k) := by
  obtain ⟨h1, _⟩ := drop_pa s k (by omega)
  rw [fr_step s _ (pa_lt s k h)] at h1
  have := congrArg (fun l => l[0]?) h1
  simpa using this

theorem len_le (s : ByteArray) : ∀ k, k ≤ len s → k ≤ pa s k
  | 0, _ => Nat.zero_le _
  | k + 1, h => by
    have := len_le s k (by omega)
    have := wd_pos s (pa s k)
    show k + 1 ≤ pa s k + wd s (pa s k)
    omega

theorem len_size (s : ByteArray) : len s ≤ s.size := by
  have := len_le s (len s) (Nat.le_refl _)
  rw [pa_end] at this
  exact this

theorem len_zero (s : ByteArray) (h : len s = 0) : s.size = 0 := by
  have := pa_end s
  rw [h] at this
  exact this.symm

/-- The places, the signs. -/
def sigs (s : ByteArray) : List Nat := (fr s 0).map Prod.fst
def ats (s : ByteArray) : List Nat := (fr s 0).map Prod.snd
theorem sigs_length (s : ByteArray) : (sigs s).length = len s := by simp [sigs, len]
theorem ats_length (s : ByteArray) : (ats s).length = len s := by simp [ats, len]
theorem sigs_at (s : ByteArray) (k : Nat) (h : k < len s) : (sigs s)[k]? = some (rn s (pa s k)) := by simp [sigs, at_pa s k h]
theorem ats_at (s : ByteArray) (k : Nat) (h : k < len s) : (ats s)[k]? = some (pa s k) := by simp [ats, at_pa s k h]

end Go.Proofs.YtpeioecpilmpiaaGreatDoor.Si.Sg
