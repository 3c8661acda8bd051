/-
  Awake: the digest of three letters.
-/
import Derived.Test.YtkkacngildnlkaaDoorW11
namespace Go.Proofs.YtkkacngildnlkaaDoor
open Go.RowKit

theorem bytes_strOf (l : List Nat) (h : ∀ x ∈ l, x < 256) : bytes (strOf l) = l := by
  unfold bytes strOf
  simp only [List.map_map]
  conv => rhs; rw [← List.map_id l]
  apply List.map_congr_left
  intro x hx
  have := h x hx
  simp
  omega

theorem strOf_bytes (s : ByteArray) : strOf (bytes s) = s := by
  unfold bytes strOf
  rw [List.map_map]
  have : (UInt8.ofNat ∘ UInt8.toNat) = id := by
    funext x
    simp
  rw [this, List.map_id]

theorem dig_lt {v : Sh.V8} (h : v.Ok) : ∀ x ∈ Sh.dig v, x < 256 := fun x hx => by
  obtain ⟨h1, h2, h3, h4, h5, h6, h7, h8⟩ := h
  simp only [Sh.dig, Sh.wordB, List.mem_append, List.mem_cons, List.not_mem_nil, or_false] at hx
  omega

theorem sha_lt (l : List Nat) : ∀ x ∈ Sh.sha l, x < 256 := dig_lt (Sh.cm_ok _ _)
theorem sha_len (l : List Nat) : (Sh.sha l).length = 32 := rfl
theorem strOf_size (l : List Nat) : (strOf l).size = l.length := by
  show ((l.map UInt8.ofNat).toArray).size = _
  simp

theorem abc_hex : strOf (hexL (Sh.sha [97, 98, 99])) = ⟨#[98, 97, 55, 56, 49, 54, 98, 102, 56, 102, 48, 49, 99, 102, 101, 97, 52, 49, 52, 49, 52, 48, 100, 101, 53, 100, 97, 101, 50, 50, 50, 51, 98, 48, 48, 51, 54, 49, 97, 51, 57, 54, 49, 55, 55, 97, 57, 99, 98, 52, 49, 48, 102, 102, 54, 49, 102, 50, 48, 48, 49, 53, 97, 100]⟩ := by
  rw [Sh.abc]
  decide +kernel

set_option maxRecDepth 100000 in
theorem awake_any (w : World) (hT : Tab w) : Calls Tryd.prog 6 #[] w fun e w' => e = .returned (.bool true) ∧ Below w.heap.size w w' := by
  have k9 := sum_any ⟨#[97, 98, 99]⟩ w hT (by decide)
  have e9 : Sh.sha (bytes ⟨#[97, 98, 99]⟩) = Sh.sha [97, 98, 99] := rfl
  rw [e9] at k9
  obtain ⟨d, hd⟩ : ∃ d, d = strOf (Sh.sha [97, 98, 99]) := ⟨_, rfl⟩
  have k11 : ∀ u, Calls Tryd.prog 11 #[.string d] u fun e w' => e = .returned (.string (strOf (hexL (Sh.sha [97, 98, 99])))) ∧ Below u.heap.size u w' := fun u => by
    have h := hex_any d u (by rw [hd, strOf_size, sha_len]; omega)
    rw [hd, bytes_strOf _ (sha_lt _), ← hd] at h
    exact h
  rw [abc_hex] at k11
  rw [← hd] at k9
  have K11 : Aside (∀ u, Calls Tryd.prog 11 #[.string d] u fun e w' => e = .returned (.string ⟨#[98, 97, 55, 56, 49, 54, 98, 102, 56, 102, 48, 49, 99, 102, 101, 97, 52, 49, 52, 49, 52, 48, 100, 101, 53, 100, 97, 101, 50, 50, 50, 51, 98, 48, 48, 51, 54, 49, 97, 51, 57, 54, 49, 55, 55, 97, 57, 99, 98, 52, 49, 48, 102, 102, 54, 49, 102, 50, 48, 48, 49, 53, 97, 100]⟩) ∧ Below u.heap.size u w') := k11
  clear hd hT e9 k11
  go_enter Tryd.func6, Tryd.ntmps6
  go_wp2_with (first
    | (go_at_call 9; refine k9.mono ?_; rintro e w1 ⟨rfl, hb1⟩)
    | (go_at_call 11; refine (K11.out _).mono ?_; rintro e w2 ⟨rfl, hb2⟩))
  go_ret
  exact ⟨rfl, hb1.trans (hb2.mono hb1.size)⟩

theorem Hs.below {b N : Nat} {h : Sh.HS} {w w' : World} (k : Hs b h w) (hb : Below N w w') (hN : b < N) : Hs b h w' := ⟨k.at_.below hb hN, k.tab.below hb (by omega)⟩
theorem bytes_append (s t : ByteArray) : bytes (s ++ t) = bytes s ++ bytes t := by simp [bytes]
end Go.Proofs.YtkkacngildnlkaaDoor
