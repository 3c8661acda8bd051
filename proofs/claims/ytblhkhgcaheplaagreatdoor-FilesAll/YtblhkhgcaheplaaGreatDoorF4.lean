/-
  The law's own first call; the law on names.
-/
import Derived.Test.YtblhkhgcaheplaaGreatDoorF3
namespace Go.Proofs.YtblhkhgcaheplaaGreatDoor
open Go.RowKit
set_option maxRecDepth 100000

theorem word_log : Fi.wd (ByteArray.mk #[108, 111, 103]).data.toList = true := by decide
theorem name_log : nmB ⟨#[108, 111, 103]⟩ 12 = ⟨#[108, 111, 103, 46, 49, 50]⟩ := by
  unfold nmB
  rw [Fi.nm_in word_log (by decide) (by decide), show ((12 : Int).toNat) = 12 from rfl, Lib.decDigits_two (by decide) (by decide)]
  rfl
theorem number_log : nP ⟨#[108, 111, 103]⟩ ⟨#[108, 111, 103, 46, 49, 50]⟩ = (12, true) := by
  have := Fi.numP_in (n := 12) word_log (by decide) (by decide)
  rw [show Fi.nm (ByteArray.mk #[108, 111, 103]).data.toList 12 = (ByteArray.mk #[108, 111, 103, 46, 49, 50]).data.toList from nmB_eq.1 name_log] at this
  exact this

theorem awake_any (w : World) (hv : Vars w) :
    Calls Tryz.prog 4 #[] w fun e w' => e = .returned (.bool true) ∧ Below w.heap.size w w' := by
  have k1 := number_any ⟨#[108, 111, 103]⟩ ⟨#[108, 111, 103, 46, 49, 50]⟩ w (by decide) hv
  rw [number_log] at k1
  have K2 : Aside (∀ u, Vars u → Calls Tryz.prog 14 #[.string ⟨#[108, 111, 103]⟩, .int .i64 12] u fun e w' => e = .returned (.string ⟨#[108, 111, 103, 46, 49, 50]⟩) ∧ Below u.heap.size u w') := fun u hu => by
    have := name_any ⟨#[108, 111, 103]⟩ 12 u hu
    rw [name_log] at this
    exact this
  have HV : Aside (Vars w) := hv
  have q1 : ((ByteArray.mk #[108, 111, 103, 46, 49, 50]).toList == (ByteArray.mk #[108, 111, 103, 46, 49, 50]).toList) = true := beq_self_eq_true _
  clear hv
  go_enter Tryz.func4, Tryz.ntmps4
  go_wp2_with (first
    | (go_at_call 13; refine k1.mono ?_; rintro e w1 ⟨rfl, hb1⟩)
    | (go_at_call 14; refine (K2.out _ (HV.out.below hb1)).mono ?_; rintro e w2 ⟨rfl, hb2⟩))
  go_ret
  exact ⟨rfl, hb1.trans (hb2.mono hb1.size)⟩

theorem nmB_size (s : ByteArray) (n : Int) : (nmB s n).size ≤ 11 := by
  by_cases h : Fi.wd s.data.toList = true ∧ 1 ≤ n ∧ n ≤ 99999
  · rw [nmB_some h.1 h.2.1 h.2.2, ByteArray.size_append, ByteArray.size_append]
    have := size_mk (Lib.decDigits n.toNat)
    have := wd_size h.1
    have := dec_len n.toNat (by omega)
    have : (ByteArray.mk #[46]).size = 1 := rfl
    omega
  · rw [nmB_none h]
    decide

end Go.Proofs.YtblhkhgcaheplaaGreatDoor
