/-
  What is sealed is opened, with its own sum alone; the first few calls of each statement answer true.
-/
import Derived.Test.YtojcocbfgfgklaaW4
import Derived.Test.YtojcocbfgfgklaaW5
namespace Go.Proofs.Ytojcocbfgfgklaa
open Go.RowKit

theorem sb_inj {x y : Nat} (hx : x < 4294967296) (hy : y < 4294967296) (h : sb x = sb y) : x = y := by
  unfold sb at h
  simp only [ByteArray.mk.injEq, Array.mk.injEq, List.cons.injEq, and_true] at h
  obtain ⟨h0, h1, h2, h3⟩ := h
  have e0 := congrArg UInt8.toNat h0
  have e1 := congrArg UInt8.toNat h1
  have e2 := congrArg UInt8.toNat h2
  have e3 := congrArg UInt8.toNat h3
  simp only [UInt8.toNat_ofNat'] at e0 e1 e2 e3
  omega

theorem cut_front (s t : ByteArray) (h : t.size = 4) : (s ++ t).extract 0 ((s ++ t).size - 4) = s := by
  rw [ByteArray.size_append, h, Nat.add_sub_cancel]
  apply ByteArray.ext
  rw [ByteArray.data_extract, ByteArray.data_append]
  have : s.size = s.data.size := rfl
  rw [this]
  simp

theorem cut_back (s t : ByteArray) (h : t.size = 4) : (s ++ t).extract ((s ++ t).size - 4) (s ++ t).size = t := by
  rw [ByteArray.size_append, h, Nat.add_sub_cancel]
  apply ByteArray.ext
  rw [ByteArray.data_extract, ByteArray.data_append]
  have h1 : s.size = s.data.size := rfl
  have h2 : t.data.size = 4 := h
  rw [h1, ← h2, Array.extract_append_right]
  simp

theorem put_back (s : ByteArray) (h4 : 4 ≤ s.size) : s.extract 0 (s.size - 4) ++ s.extract (s.size - 4) s.size = s := by
  apply ByteArray.ext
  rw [ByteArray.data_append, ByteArray.data_extract, ByteArray.data_extract, Array.extract_append_extract]
  have h1 : s.size = s.data.size := rfl
  rw [show min 0 (s.size - 4) = 0 by omega, show max (s.size - 4) s.size = s.data.size by omega]
  simp

/-- The bytes of a number behind a text: it is opened just if the number is its sum. -/
theorem open_own (s : ByteArray) (w : World) (hs : s.size ≤ 900000) :
    Calls Try.prog 8 #[.string (sealed s)] w fun e w' => e = .returned (.tuple #[.string s, .bool true]) ∧ Below w.heap.size w w' := by
  have hz : (sealed s).size = s.size + 4 := by
    unfold sealed
    rw [ByteArray.size_append, sb_size]
  exact open_yes (sealed s) s _ w (by omega) (by omega) (cut_front s _ (sb_size _)) (cut_back s _ (sb_size _)) rfl

theorem open_other (s : ByteArray) (x : Nat) (w : World) (hs : s.size ≤ 900000) (hx : x < 4294967296) (hne : x ≠ Cr.sum s.data.toList) :
    Calls Try.prog 8 #[.string (s ++ sb x)] w fun e w' => e = .returned (.tuple #[.string ⟨#[]⟩, .bool false]) ∧ Below w.heap.size w w' := by
  have hz : (s ++ sb x).size = s.size + 4 := by
    rw [ByteArray.size_append, sb_size]
  exact open_no (s ++ sb x) s _ w (by omega) (by omega) (cut_front s _ (sb_size _)) (cut_back s _ (sb_size _)) fun h => hne (sb_inj hx (Cr.sum_lt _) h)

/-- Any bytes of four or more: opened just if they are what is sealed. -/
theorem open_sealed (s b : ByteArray) (w : World) (h4 : 4 ≤ s.size) (hs : s.size ≤ 1000000) (hb : b = s.extract 0 (s.size - 4)) (h : sealed b = s) :
    Calls Try.prog 8 #[.string s] w fun e w' => e = .returned (.tuple #[.string b, .bool true]) ∧ Below w.heap.size w w' := by
  refine open_yes s b _ w h4 hs hb.symm rfl ?_
  have := cut_back b (sb (Cr.sum b.data.toList)) (sb_size _)
  have h2 : b ++ sb (Cr.sum b.data.toList) = s := h
  rw [h2] at this
  exact this

theorem open_unsealed (s b : ByteArray) (w : World) (h4 : 4 ≤ s.size) (hs : s.size ≤ 1000000) (hb : b = s.extract 0 (s.size - 4)) (h : sealed b ≠ s) :
    Calls Try.prog 8 #[.string s] w fun e w' => e = .returned (.tuple #[.string ⟨#[]⟩, .bool false]) ∧ Below w.heap.size w w' := by
  refine open_no s b _ w h4 hs hb.symm rfl fun he => h ?_
  have := put_back s h4
  rw [he, ← hb] at this
  exact this

theorem nine : Cr.sum [49, 50, 51, 52, 53, 54, 55, 56, 57] = 3421780262 := by decide +kernel

theorem awake_any (w : World) : Calls Try.prog 6 #[] w fun e w' => e = .returned (.bool true) ∧ Below w.heap.size w w' := by
  have k1 := seal_any ⟨#[97, 98, 99]⟩ w (by decide)
  have k2 : ∀ u : World, _ := fun u => open_own ⟨#[97, 98, 99]⟩ u (by decide)
  have k3 : ∀ u : World, Calls Try.prog 10 #[.string ⟨#[49, 50, 51, 52, 53, 54, 55, 56, 57]⟩] u fun e w' => e = .returned (.int .u32 3421780262) ∧ w' = u := fun u => by
    have := of_any ⟨#[49, 50, 51, 52, 53, 54, 55, 56, 57]⟩ u (by decide)
    have hn : Cr.sum (ByteArray.mk #[49, 50, 51, 52, 53, 54, 55, 56, 57]).data.toList = 3421780262 := nine
    rw [hn] at this
    exact this
  go_enter Try.func6, Try.ntmps6
  go_wp2_with (first
    | (go_at_call 9; refine k1.mono ?_; rintro e w1 ⟨rfl, hb1⟩)
    | (go_at_call 8; refine (k2 _).mono ?_; rintro e w2 ⟨rfl, hb2⟩)
    | (go_at_call 10; refine (k3 _).mono ?_; rintro e w3 ⟨rfl, rfl⟩))
  go_ret
  exact ⟨rfl, hb1.trans (hb2.mono hb1.size)⟩
end Go.Proofs.Ytojcocbfgfgklaa
