/-
  The document's own bytes of a number and of a text.
-/
import Derived.Test.YtkijglkjpgjdaaaDoorPW4
namespace Go.Proofs.YtkijglkjpgjdaaaDoor.Pa
open Go.RowKit

theorem mk_append (a b : List UInt8) : (ByteArray.mk a.toArray) ++ ⟨b.toArray⟩ = ⟨(a ++ b).toArray⟩ := by
  apply ByteArray.ext
  simp [ByteArray.data_append]

theorem mk_data (s : ByteArray) : (⟨s.data.toList.toArray⟩ : ByteArray) = s := by
  apply ByteArray.ext
  simp

theorem conv_one (w : World) (x : Int) :
    (convert 41 9 (.slice (some ⟨w.heap.size, 0, none⟩) 1 1)).run Tryd.prog (w.alloc (.cells #[.int .u8 x] 5)) = .ok (.string ⟨#[UInt8.ofNat x.toNat]⟩) (w.alloc (.cells #[.int .u8 x] 5)) := by
  refine run_convert_bytes_arg _ 41 5 Tryd.underlying41 Tryd.underlying5 w.heap.size 0 1 1 [x] rfl (fun i hi => ?_) 9 Tryd.underlying9
  obtain rfl : i = 0 := by omega
  rw [cell_of_row _ _ _ _ _ (0, 0) (heap_alloc_new w _)]
  rfl

/-- What holds at each round's head of the loop. -/
def RefRel (n : Nat) (w : World) (s0 v : Value) (wr : World) (k : Nat) : Prop :=
  ∃ (m : Nat) (l : List UInt8), s0 = .int .i64 (m : Int) ∧ v = .string ⟨l.toArray⟩ ∧ m ≤ 4611686018427387904 ∧ m < 128 ^ k ∧ k + l.length = 10 ∧ Pk.hi k m ++ l = Pk.numB n ∧ Below w.heap.size w wr

set_option maxHeartbeats 1600000 in
set_option maxRecDepth 1000000 in
theorem refNum_any (n : Nat) (w : World) (hn : n ≤ 4611686018427387904) :
    Calls Tryd.prog 59 #[.int .i64 (n : Int)] w fun e w' => e = .returned (.string ⟨(Pk.numB n).toArray⟩) ∧ Below w.heap.size w w' := by
  have hc := conv_one
  go_enter Tryd.func59, Tryd.ntmps59
  go_wp2
  go_loopg [0, 3] 9 (fun gh s0 v wr => ∃ k, k ≤ gh ∧ RefRel n w s0 v wr k)
  case atStart =>
    refine ⟨9, Nat.le_refl _, n / 128, [UInt8.ofNat (n % 128)], by simp, ?_, by omega, by rw [Pk.pow9]; omega, rfl, by simp [Pk.numB], (Below.refl _ _).alloc (Nat.le_refl _) _⟩
    rfl
  case round =>
    obtain ⟨k, hgh, m, l, rfl, rfl, hm, hmk, hkl, hcat, hbel⟩ := hrel
    by_cases hlt : 0 < m
    · obtain ⟨k', rfl⟩ : ∃ k', k = k' + 1 := by
        cases k with
        | zero => simp at hmk; omega
        | succ k' => exact ⟨k', rfl⟩
      have R : Aside (∀ o : Obj, RefRel n w (.int .i64 ((m : Int) / 128)) (.string (⟨#[UInt8.ofNat (m % 128) + 128]⟩ ++ ⟨l.toArray⟩)) (wr.alloc o) k') := fun o => by
        have e : (ByteArray.mk #[UInt8.ofNat (m % 128) + 128]) ++ ⟨l.toArray⟩ = ⟨(UInt8.ofNat (m % 128 + 128) :: l).toArray⟩ := by
          rw [UInt8.ofNat_add]
          exact mk_append [_] l
        refine ⟨m / 128, _, by simp, by rw [e], by omega, Pk.div_lt_pow hmk, by simp; omega, ?_, hbel.alloc hbel.size _⟩
        rw [← hcat, Pk.hi_step _ _ (by omega)]
        simp
      clear hmk hcat hbel
      go_wp2
      go_roundg k'
      case measure => omega
      case rel =>
        exact ⟨k', Nat.le_refl _, R.out _⟩
    · obtain rfl : m = 0 := by omega
      rw [Pk.hi_zero, List.nil_append] at hcat
      subst hcat
      go_wp2
      go_ret
      exact ⟨rfl, hbel⟩
theorem refText_any (s : ByteArray) (w : World) (hs : s.size ≤ 1000000) :
    Calls Tryd.prog 33 #[.string s] w fun e w' => e = .returned (.string ⟨(Pk.numB s.size ++ s.data.toList).toArray⟩) ∧ Below w.heap.size w w' := by
  have hlen := Pk.numB_len (a := s.size) (by omega)
  have hsz : (ByteArray.mk (Pk.numB s.size).toArray).size = (Pk.numB s.size).length := size_mk _
  have k := refNum_any s.size w (by omega)
  have e0 : (ByteArray.mk (Pk.numB s.size).toArray) ++ s = ⟨(Pk.numB s.size ++ s.data.toList).toArray⟩ := by
    conv => lhs; rw [← mk_data s]
    rw [mk_append, mk_data]
  have E : Hid ((ByteArray.mk (Pk.numB s.size).toArray) ++ s = ⟨(Pk.numB s.size ++ s.data.toList).toArray⟩) := e0
  clear e0
  go_enter Tryd.func33, Tryd.ntmps33
  go_wp2_with (go_at_call 59; refine k.mono ?_; rintro e w1 ⟨rfl, hb1⟩)
  go_ret
  exact ⟨by rw [← E.out]; rfl, hb1⟩
end Go.Proofs.YtkijglkjpgjdaaaDoor.Pa
