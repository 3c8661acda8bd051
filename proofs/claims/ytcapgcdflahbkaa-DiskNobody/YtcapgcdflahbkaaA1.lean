/-
  awake.
-/
import Derived.Test.YtcapgcdflahbkaaM4
import Derived.Test.YtcapgcdflahbkaaX12
import Derived.Test.YtcapgcdflahbkaaX17
namespace Go.Proofs.Ytcapgcdflahbkaa
open Go.RowKit

def nF : ByteArray := ⟨#[102]⟩
def a1 : St := opRoom emptySt 99
def a2 : Int × St := opAppend a1 nF ⟨#[97, 98]⟩
def a3 : Int × St := opSync a2.2 nF
def a4 : Int × St := opAppend a3.2 nF ⟨#[99, 100]⟩
def a5 : St := opCrash a4.2 1

theorem ok_empty : Ok emptySt := ⟨trivial, by simp [emptySt], by simp [emptySt], by simp [emptySt], by simp [emptySt, St.total], by simp [emptySt], by simp [emptySt], by simp [emptySt]⟩
theorem ok1 : Ok a1 := ok_empty.opRoom 99
theorem ok2 : Ok a2.2 := ok1.opAppend _ _
theorem ok3 : Ok a3.2 := ok2.opSync _
theorem ok4 : Ok a4.2 := ok3.opAppend _ _
theorem ok5 : Ok a5 := ok4.opCrash _
theorem v2 : a2.1 = 0 := by decide +kernel
theorem v3 : a3.1 = 0 := by decide +kernel
theorem v5r : opRead a5 nF = (⟨#[97, 98, 99]⟩, 0) := by
  have e1 : (opRead a5 nF).1.data.toList = [97, 98, 99] := by decide +kernel
  have e2 : (opRead a5 nF).2 = 0 := by decide +kernel
  exact Prod.ext (ba_ext e1) e2
theorem v5s : opSure a5 nF = 3 := by decide +kernel

theorem of_pl {d : Ds} {s : St} (h : d.pl = s) (ok : Ok s) : Ok d.pl := h ▸ ok

set_option maxHeartbeats 1600000 in
theorem awake_any (w : World) : Calls Try.prog 6 #[] w fun e w' => e = .returned (.bool true) ∧ Below w.heap.size w w' := by
  have kn := new_any 99 w w.heap.size (Nat.le_refl _)
  have kA : Aside (∀ (b : Nat) (d : Ds) (u : World), Rep u w.heap.size b d → d.pl = a1 → Calls Try.prog 21 #[.pointer (some ⟨b, 0, none⟩), .string ⟨#[102]⟩, .string ⟨#[97, 98]⟩] u fun e w' => e = .returned (.int .i64 0) ∧ ∃ d', Rep w' w.heap.size b d' ∧ d'.pl = a2.2 ∧ Step (d.foot b) (d'.foot b) u w') := fun b d u hr hp => by
    have := append_any hr (of_pl hp ok1) nF ⟨#[97, 98]⟩
    rw [hp] at this
    rw [← v2]
    exact this
  have kS : Aside (∀ (b : Nat) (d : Ds) (u : World), Rep u w.heap.size b d → d.pl = a2.2 → Calls Try.prog 22 #[.pointer (some ⟨b, 0, none⟩), .string ⟨#[102]⟩] u fun e w' => e = .returned (.int .i64 0) ∧ ∃ d', Rep w' w.heap.size b d' ∧ d'.pl = a3.2 ∧ Step (d.foot b) (d'.foot b) u w') := fun b d u hr hp => by
    have := sync_any hr (of_pl hp ok2) nF
    rw [hp] at this
    rw [← v3]
    exact this
  have kB : Aside (∀ (b : Nat) (d : Ds) (u : World), Rep u w.heap.size b d → d.pl = a3.2 → Calls Try.prog 21 #[.pointer (some ⟨b, 0, none⟩), .string ⟨#[102]⟩, .string ⟨#[99, 100]⟩] u fun e w' => e = .returned (.int .i64 a4.1) ∧ ∃ d', Rep w' w.heap.size b d' ∧ d'.pl = a4.2 ∧ Step (d.foot b) (d'.foot b) u w') := fun b d u hr hp => by
    have := append_any hr (of_pl hp ok3) nF ⟨#[99, 100]⟩
    rw [hp] at this
    exact this
  have kC : Aside (∀ (b : Nat) (d : Ds) (u : World), Rep u w.heap.size b d → d.pl = a4.2 → Calls Try.prog 16 #[.pointer (some ⟨b, 0, none⟩), .int .i64 1] u fun e w' => e = .returned (.tuple #[]) ∧ ∃ d', Rep w' w.heap.size b d' ∧ d'.pl = a5 ∧ Step (d.foot b) (d'.foot b) u w') := fun b d u hr hp => by
    have := crash_any hr (of_pl hp ok4) 1 (by omega)
    rw [hp] at this
    exact this
  have kR : Aside (∀ (b : Nat) (d : Ds) (u : World), Rep u w.heap.size b d → d.pl = a5 → Calls Try.prog 14 #[.pointer (some ⟨b, 0, none⟩), .string ⟨#[102]⟩] u fun e w' => e = .returned (.tuple #[.string ⟨#[97, 98, 99]⟩, .int .i64 0]) ∧ Below u.heap.size u w') := fun b d u hr hp => by
    have := read_any hr (of_pl hp ok5) nF
    rw [hp, v5r] at this
    exact this
  have kU : Aside (∀ (b : Nat) (d : Ds) (u : World), Rep u w.heap.size b d → d.pl = a5 → Calls Try.prog 15 #[.pointer (some ⟨b, 0, none⟩), .string ⟨#[102]⟩] u fun e w' => e = .returned (.int .i64 3) ∧ Below u.heap.size u w') := fun b d u hr hp => by
    have := sure_any hr (of_pl hp ok5) nF
    rw [hp, v5s] at this
    exact this
  generalize a4.1 = A4 at *
  go_enter Try.func6, Try.ntmps6
  go_wp2_with (first
    | (go_at_call 8; refine kn.mono ?_; rintro e w1 ⟨b, d1, rfl, h1, p1, f1, b1⟩; clear kn)
    | (go_at_call 21; refine (kA.out _ _ _ h1 p1).mono ?_; rintro e w2 ⟨rfl, d2, h2, p2, s2⟩; clear kA)
    | (go_at_call 22; refine (kS.out _ _ _ h2 p2).mono ?_; rintro e w3 ⟨rfl, d3, h3, p3, s3⟩; clear kS)
    | (go_at_call 21; refine (kB.out _ _ _ h3 p3).mono ?_; rintro e w4 ⟨rfl, d4, h4, p4, s4⟩; clear kB)
    | (go_at_call 16; refine (kC.out _ _ _ h4 p4).mono ?_; rintro e w5 ⟨rfl, d5, h5, p5, s5⟩; clear kC)
    | (go_at_call 14; refine (kR.out _ _ _ h5 p5).mono ?_; rintro e w6 ⟨rfl, b6⟩; clear kR)
    | (go_at_call 15; refine (kU.out _ _ _ (h5.below b6) p5).mono ?_; rintro e w7 ⟨rfl, b7⟩; clear kU))
  go_ret
  have S := ((((s2.trans s3).trans s4).trans s5).trans (Step.ofBelow b6)).trans (Step.ofBelow b7)
  exact ⟨rfl, b1.trans (S.below f1 b1.size)⟩
end Go.Proofs.Ytcapgcdflahbkaa
