/-
  The document's own bytes of a sign; a text folded, as the document does it.
-/
import Derived.Test.YtacipegcenfbeaaF2
import Derived.Laws.BytesArg
namespace Go.Proofs.Ytacipegcenfbeaa
open Go.RowKit

theorem conv_bytes (w : World) (l : List Int) :
    (convert 42 9 (.slice (some ⟨w.heap.size, 0, none⟩) l.length l.length)).run Try.prog (w.alloc (.cells (l.map (Value.int .u8)).toArray 5)) =
      .ok (.string (strOfNums l)) (w.alloc (.cells (l.map (Value.int .u8)).toArray 5)) := by
  refine run_convert_bytes_arg _ 42 5 Try.underlying42 Try.underlying5 w.heap.size 0 l.length l.length _ rfl (fun i hi => ?_) 9 Try.underlying9
  have h1 := heap_alloc_new w (.cells (l.map (Value.int .u8)).toArray 5)
  rw [Lib.cell_of_heap h1]
  simp [List.getElem?_eq_getElem hi]

theorem strOf_rune (n : Int) : strOfNums (Lib.encodeRuneZ n) = ⟨(Lib.encodeRune n).toArray⟩ := rfl

theorem bytes_one (n : Nat) (w : World) (h' : n < 128) :
    Calls Try.prog 10 #[.int .i64 (n : Int)] w fun e w' => e = .returned (.string ⟨(Lib.encodeRune n).toArray⟩) ∧ Below w.heap.size w w' := by
  have d0 : decide ((n : Int) < 128) = true := by simp; omega
  have hc := conv_bytes w [(n : Int)]
  rw [← Lib.encodeRuneZ_one (by omega) (by omega), strOf_rune, Lib.encodeRuneZ_one (by omega) (by omega)] at hc
  simp only [List.length_cons, List.length_nil, Nat.zero_add, List.map_cons, List.map_nil] at hc
  go_enter Try.func10, Try.ntmps10
  go_wp2
  go_ret
  exact ⟨rfl, (Below.refl _ _).alloc (Nat.le_refl _) _⟩

theorem bytes_two (n : Nat) (w : World) (h : 128 ≤ n) (h' : n < 2048) :
    Calls Try.prog 10 #[.int .i64 (n : Int)] w fun e w' => e = .returned (.string ⟨(Lib.encodeRune n).toArray⟩) ∧ Below w.heap.size w w' := by
  have d0 : decide ((n : Int) < 128) = false := by simp; omega
  have d1 : decide ((n : Int) < 2048) = true := by simp; omega
  have hc := conv_bytes w [192 + (n : Int) / 64, 128 + (n : Int) % 64]
  rw [← Lib.encodeRuneZ_two (by omega) (by omega), strOf_rune, Lib.encodeRuneZ_two (by omega) (by omega)] at hc
  simp only [List.length_cons, List.length_nil, Nat.zero_add, Nat.reduceAdd, List.map_cons, List.map_nil] at hc
  go_enter Try.func10, Try.ntmps10
  go_wp2
  go_ret
  exact ⟨rfl, (Below.refl _ _).alloc (Nat.le_refl _) _⟩

theorem bytes_three (n : Nat) (w : World) (h : 2048 ≤ n) (h' : n < 65536) (hs : n < 55296 ∨ 57343 < n) :
    Calls Try.prog 10 #[.int .i64 (n : Int)] w fun e w' => e = .returned (.string ⟨(Lib.encodeRune n).toArray⟩) ∧ Below w.heap.size w w' := by
  have d0 : decide ((n : Int) < 128) = false := by simp; omega
  have d1 : decide ((n : Int) < 2048) = false := by simp; omega
  have d2 : decide ((n : Int) < 65536) = true := by simp; omega
  have hc := conv_bytes w [224 + (n : Int) / 4096, 128 + (n : Int) / 64 % 64, 128 + (n : Int) % 64]
  rw [← Lib.encodeRuneZ_three (by omega), strOf_rune, Lib.encodeRuneZ_three (by omega)] at hc
  simp only [List.length_cons, List.length_nil, Nat.zero_add, Nat.reduceAdd, List.map_cons, List.map_nil] at hc
  go_enter Try.func10, Try.ntmps10
  go_wp2
  go_ret
  exact ⟨rfl, (Below.refl _ _).alloc (Nat.le_refl _) _⟩

theorem bytes_four (n : Nat) (w : World) (h : 65536 ≤ n) (h' : n ≤ 1114111) :
    Calls Try.prog 10 #[.int .i64 (n : Int)] w fun e w' => e = .returned (.string ⟨(Lib.encodeRune n).toArray⟩) ∧ Below w.heap.size w w' := by
  have d0 : decide ((n : Int) < 128) = false := by simp; omega
  have d1 : decide ((n : Int) < 2048) = false := by simp; omega
  have d2 : decide ((n : Int) < 65536) = false := by simp; omega
  have hc := conv_bytes w [240 + (n : Int) / 262144, 128 + (n : Int) / 4096 % 64, 128 + (n : Int) / 64 % 64, 128 + (n : Int) % 64]
  rw [← Lib.encodeRuneZ_four (by omega) (by omega), strOf_rune, Lib.encodeRuneZ_four (by omega) (by omega)] at hc
  simp only [List.length_cons, List.length_nil, Nat.zero_add, Nat.reduceAdd, List.map_cons, List.map_nil] at hc
  go_enter Try.func10, Try.ntmps10
  go_wp2
  go_ret
  exact ⟨rfl, (Below.refl _ _).alloc (Nat.le_refl _) _⟩

theorem bytes_any (n : Nat) (w : World) (h : n < 55296 ∨ (57343 < n ∧ n ≤ 1114111)) :
    Calls Try.prog 10 #[.int .i64 (n : Int)] w fun e w' => e = .returned (.string ⟨(Lib.encodeRune n).toArray⟩) ∧ Below w.heap.size w w' := by
  by_cases h1 : n < 128
  · exact bytes_one n w h1
  by_cases h2 : n < 2048
  · exact bytes_two n w (by omega) h2
  by_cases h3 : n < 65536
  · exact bytes_three n w (by omega) h3 (by omega)
  · exact bytes_four n w (by omega) (by omega)

theorem bytes_small (n : Nat) (w : World) (h : n < 55296 ∨ (57343 < n ∧ n ≤ 1114111)) :
    Calls Try.prog 10 #[.int .i64 (Sg.small (n : Int))] w fun e w' => e = .returned (.string ⟨(Lib.encodeRune (Sg.small (n : Int))).toArray⟩) ∧ Below w.heap.size w w' := by
  unfold Sg.small
  split
  · rename_i hg
    have := bytes_any (n + 32) w (by unfold Sg.great at hg; omega)
    simpa using this
  · exact bytes_any n w h

theorem enc_len (n : Int) : (Lib.encodeRune n).length ≤ 4 := by
  have := (Lib.runeCells_le n).2
  rw [Lib.runeCells_length] at this
  exact this

/-- The signs ahead of k, folded. -/
def foldTo (s : ByteArray) (k : Nat) : List UInt8 := ((Sg.fr s 0).take k).flatMap fun x => Lib.encodeRune (Sg.small x.1)

theorem foldTo_step (s : ByteArray) (k : Nat) (h : k < Sg.len s) : foldTo s (k + 1) = foldTo s k ++ Lib.encodeRune (Sg.small (Sg.rn s (Sg.pa s k))) := by
  unfold foldTo
  rw [List.take_add_one, Sg.at_pa s k h, List.flatMap_append]
  simp

theorem foldTo_len (s : ByteArray) : ∀ k, k ≤ Sg.len s → (foldTo s k).length ≤ 4 * k
  | 0, _ => by simp [foldTo]
  | k + 1, h => by
    have h1 := foldTo_len s k (by omega)
    have h2 := enc_len (Sg.small (Sg.rn s (Sg.pa s k)))
    rw [foldTo_step s k (by omega), List.length_append]
    omega

theorem bytes_join (l m : List UInt8) : (⟨l.toArray⟩ : ByteArray) ++ ⟨m.toArray⟩ = ⟨(l ++ m).toArray⟩ := by
  apply ByteArray.ext
  simp

theorem zs_at {s : ByteArray} {k : Nat} (h : k < Sg.len s) : (zs (Sg.sigs s)).getD k 0 = ((Sg.rn s (Sg.pa s k) : Nat) : Int) := by
  simp [zs, List.getD, Sg.sigs_at s k h]
theorem za_at {s : ByteArray} {k : Nat} (h : k < Sg.len s) : (zs (Sg.ats s)).getD k 0 = ((Sg.pa s k : Nat) : Int) := by
  simp [zs, List.getD, Sg.ats_at s k h]

theorem great_ways (n : Nat) : n < 65 ∨ (65 ≤ n ∧ n ≤ 90) ∨ (90 < n ∧ n < 192) ∨ (192 ≤ n ∧ n < 215) ∨ n = 215 ∨ (215 < n ∧ n ≤ 222) ∨ (222 < n ∧ n < 913) ∨ (913 ≤ n ∧ n < 930) ∨ n = 930 ∨ (930 < n ∧ n ≤ 937) ∨ 937 < n := by omega

set_option maxHeartbeats 4000000 in
set_option maxRecDepth 1000000 in
theorem refFold_any (s : ByteArray) (w : World) (hs : s.size ≤ 200000) :
    Calls Try.prog 16 #[.string s] w fun e w' => e = .returned (.string ⟨(Sg.folds s 0).toArray⟩) ∧ Below w.heap.size w w' := by
  have kS := signs_any s w hs
  go_enter Try.func16, Try.ntmps16
  go_wp2_with (go_at_call 9; refine kS.mono ?_; rintro e w1 ⟨v1, v2, rfl, hn1, hn2, hb1⟩)
  clear kS
  have hls := Sg.len_size s
  obtain ⟨a, c, rfl, hc⟩ := hn1.form
  rw [zs_length, Sg.sigs_length] at *
  go_loopg [3, 6] (Sg.len s) (fun gh s3 s6 wr => ∃ k : Nat, Sg.len s - k ≤ gh ∧ k ≤ Sg.len s ∧ s3 = .string ⟨(foldTo s k).toArray⟩ ∧ s6 = .int .i64 (k : Int) ∧ Below w1.heap.size w1 wr)
  case atStart => exact ⟨0, by omega, by omega, rfl, rfl, Below.refl _ _⟩
  case round =>
    obtain ⟨k, hgh, hk, rfl, rfl, hbw⟩ := hrel
    by_cases hp : k < Sg.len s
    · obtain ⟨g, o, rfl, hg, hcell⟩ := hc k hp
      rw [zs_at hp, ← hbw.cell (by exact hg)] at hcell
      have dk : decide (k < Sg.len s) = true := by simpa using hp
      have fl := foldTo_len s k hk
      have fe := enc_len (Sg.small (Sg.rn s (Sg.pa s k)))
      have hj := bytes_join (foldTo s k) (Lib.encodeRune (Sg.small (Sg.rn s (Sg.pa s k))))
      rw [← foldTo_step s k hp] at hj
      have hrk := Sg.rn_ok s (Sg.pa s k)
      have kb := fun u => bytes_small (Sg.rn s (Sg.pa s k)) u hrk
      generalize hn : Sg.rn s (Sg.pa s k) = n at *
      have z1 : (⟨(foldTo s k).toArray⟩ : ByteArray).size ≤ 4000000 := by show (foldTo s k).toArray.size ≤ _; simp; omega
      have z2 : (⟨(Lib.encodeRune (Sg.small (n : Int))).toArray⟩ : ByteArray).size ≤ 4 := by show (Lib.encodeRune (Sg.small (n : Int))).toArray.size ≤ _; simpa using fe
      have hn3 : n ≤ 1114111 := by omega
      have HJ : Aside ((⟨(foldTo s k).toArray⟩ : ByteArray) ++ ⟨(Lib.encodeRune (Sg.small (n : Int))).toArray⟩ = ⟨(foldTo s (k + 1)).toArray⟩) := hj
      clear hj fl fe hrk
      generalize hA : (⟨(foldTo s k).toArray⟩ : ByteArray) = A at *
      generalize hX : (⟨(Lib.encodeRune (Sg.small (n : Int))).toArray⟩ : ByteArray) = X at *
      clear hA hX
      have hsz := hbw.size
      rcases great_ways n with h | h | h | h | h | h | h | h | h | h | h
      all_goals first | (have q0 : decide (65 ≤ (n : Int)) = true := by simp; omega) | (have q0 : decide (65 ≤ (n : Int)) = false := by simp; omega)
      all_goals first | (have q1 : decide ((n : Int) ≤ 90) = true := by simp; omega) | (have q1 : decide ((n : Int) ≤ 90) = false := by simp; omega)
      all_goals first | (have q2 : decide (192 ≤ (n : Int)) = true := by simp; omega) | (have q2 : decide (192 ≤ (n : Int)) = false := by simp; omega)
      all_goals first | (have q3 : decide ((n : Int) ≤ 222) = true := by simp; omega) | (have q3 : decide ((n : Int) ≤ 222) = false := by simp; omega)
      all_goals first | (have q4 : ((n : Int) != 215) = true := by simp; omega) | (have q4 : ((n : Int) != 215) = false := by simp; omega)
      all_goals first | (have q5 : decide (913 ≤ (n : Int)) = true := by simp; omega) | (have q5 : decide (913 ≤ (n : Int)) = false := by simp; omega)
      all_goals first | (have q6 : decide ((n : Int) ≤ 937) = true := by simp; omega) | (have q6 : decide ((n : Int) ≤ 937) = false := by simp; omega)
      all_goals first | (have q7 : ((n : Int) != 930) = true := by simp; omega) | (have q7 : ((n : Int) != 930) = false := by simp; omega)
      all_goals first | (have e : Sg.small (n : Int) = (n : Int) + 32 := by unfold Sg.small; rw [if_pos (by unfold Sg.great; omega)]) | (have e : Sg.small (n : Int) = (n : Int) := by unfold Sg.small; rw [if_neg (by unfold Sg.great; omega)])
      all_goals (rw [e] at kb; clear e h hn)
      all_goals (
        go_wp2_with (go_at_call 10; refine (kb _).mono ?_; rintro e w2 ⟨rfl, hb2⟩)
        go_roundg (Sg.len s - (k + 1))
        case measure => omega
        case rel => exact ⟨k + 1, Nat.le_refl _, by omega, by rw [← HJ.out], by go_num, hbw.trans (hb2.mono hsz)⟩)
    · obtain rfl : k = Sg.len s := by omega
      have dk : decide (Sg.len s < Sg.len s) = false := by simp
      go_wp2
      go_ret
      refine ⟨?_, hb1.trans (hbw.mono hb1.size)⟩
      have : foldTo s (Sg.len s) = Sg.folds s 0 := by
        unfold foldTo Sg.folds Sg.len
        rw [List.take_length]
      rw [← this]
      rfl
end Go.Proofs.Ytacipegcenfbeaa
