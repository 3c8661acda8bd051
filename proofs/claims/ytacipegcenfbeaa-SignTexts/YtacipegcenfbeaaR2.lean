/-
  A builder that the call makes: its own check, a sign that is written, all signs of a text folded.
-/
import Derived.Test.YtacipegcenfbeaaR1
import Derived.Deep.RegionWith
import Derived.BigCall
import Derived.Laws.Externs
namespace Go.Proofs.Ytacipegcenfbeaa
open Go.RowKit

theorem info45 : (Try.prog.info? 45).map (·.size) = some 2 := extra_169.sizeBuilder

set_option maxHeartbeats 1000000 in
set_option maxRecDepth 100000 in
theorem check_used (b : Nat) (w : World) (h0 : w.cell? ⟨b, 0, none⟩ = some (.pointer (some ⟨b, 0, none⟩))) :
    Calls Try.prog 35 #[.pointer (some ⟨b, 0, none⟩)] w fun e w' => e = .returned (.tuple #[]) ∧ w' = w := by
  obtain ⟨j, hj, _⟩ := Option.map_eq_some_iff.1 info45
  go_enter Try.func35, Try.ntmps35
  go_wp2
  rw [Lib.run_neq_ptr_same w _ Try.underlying43 hj]
  go_wp2
  go_end0
  exact ⟨rfl, rfl⟩

set_option maxHeartbeats 1000000 in
set_option maxRecDepth 100000 in
theorem check_fresh (b : Nat) (w : World) (h0 : w.cell? ⟨b, 0, none⟩ = some (.pointer none)) (hsh : w.shape? b = some (45, 2)) (hfz : w.frozen? ⟨b, 0, none⟩ = false) :
    Calls Try.prog 35 #[.pointer (some ⟨b, 0, none⟩)] w fun e w' => e = .returned (.tuple #[]) ∧ w' = w.setCell ⟨b, 0, none⟩ (.pointer (some ⟨b, 0, none⟩)) := by
  obtain ⟨j, hj, hjs⟩ := Option.map_eq_some_iff.1 info45
  have t1 := Lib.run_to_unsafe (P := Try.prog) w ⟨b, 0, none⟩ Try.underlying43 Try.underlying58 hj (by rw [hjs]; decide) hsh (Nat.zero_lt_succ 1)
  have t2 := run_callFunc_extern (P := Try.prog) (w := w) (args := #[.pointer (some ⟨b, 0, none⟩)]) Try.func39 (by kernel_rfl) (by kernel_rfl) (by kernel_rfl) (e := Extern.AbiNoEscape.same) (by kernel_rfl)
  rw [Lib.run_noEscape] at t2
  simp only [Result.andThen] at t2
  have t3 := Lib.run_from_unsafe (P := Try.prog) w ⟨b, 0, none⟩ Try.underlying58 Try.underlying43 hj hsh extra_169.liesBuilder
  go_enter Try.func35, Try.ntmps35
  go_wp2
  go_end0
  exact ⟨rfl, rfl⟩

theorem check_any (B b : Nat) (bs : List Value) (w : World) (h : Lib.IsBuilderF 45 5 B b bs w) :
    Calls Try.prog 35 #[.pointer (some ⟨b, 0, none⟩)] w fun e w' => e = .returned (.tuple #[]) ∧ Lib.BuilderAtF 45 5 B b (.pointer (some ⟨b, 0, none⟩)) bs w' ∧ Below B w w' ∧ Lib.OthersKept 5 (some b) w w' := by
  rcases h with h | h
  · refine (check_fresh b w h.cell0 h.shape h.frozen0).mono ?_
    rintro e w' ⟨rfl, rfl⟩
    exact ⟨rfl, h.used _, (Below.refl B w).setCell (p := ⟨b, 0, none⟩) h.1 _, (Lib.OthersKept.refl _ _ w).setCell ⟨b, 0, none⟩ rfl _⟩
  · refine (check_used b w h.cell0).mono ?_
    rintro e w' ⟨rfl, rfl⟩
    exact ⟨rfl, h, Below.refl B _, Lib.OthersKept.refl _ _ _⟩

set_option maxHeartbeats 4000000 in
set_option maxRecDepth 100000 in
theorem writeRune_any (B b : Nat) (bs : List Value) (r : Int) (hr0 : -2147483648 ≤ r) (hr1 : r ≤ 2147483647) (w : World) (h : Lib.IsBuilderF 45 5 B b bs w) (hlen : bs.length ≤ 1000000) (hBw : B ≤ w.heap.size) :
    Calls Try.prog 27 #[.pointer (some ⟨b, 0, none⟩), .int .i32 r] w fun e w' => e = .returned (.tuple #[.int .i64 ((Lib.runeCells r).length : Nat), .nilIface]) ∧ Lib.IsBuilderF 45 5 B b (bs ++ Lib.runeCells r) w' ∧ Below B w w' ∧ Lib.OthersKept 5 (some b) w w' := by
  have hk4 := Lib.runeCells_le r
  go_enter Try.func27, Try.ntmps27
  go_wp2_with (go_at_call 35; refine (check_any B b bs _ h).mono ?_)
  rintro e w1 ⟨rfl, ⟨hB, v, hbk, hown, hne⟩, hb1, hk1⟩
  obtain ⟨ao, cap, rfl⟩ : ∃ ao cap, v = .slice ao bs.length cap := by
    rcases hown.2 with ⟨hv, h0⟩ | ⟨g, cap, cur, fz, hv, _⟩
    · exact ⟨none, 0, by rw [hv, h0]⟩
    · exact ⟨_, _, hv⟩
  have c1 : w1.cell? ⟨b, 1, none⟩ = some (.slice ao bs.length cap) := by rw [Lib.cell_of_heap hbk]; rfl
  go_wp2_with (go_at_call 36; refine (appendRune_call B _ bs.length bs r hr0 hr1 _ hown (by omega) (by have := hb1.size; omega)).mono ?_)
  rintro e w2 ⟨v', rfl, hown', o, hgrow⟩
  have hlt : b < w1.heap.size := by
    rcases Nat.lt_or_ge b w1.heap.size with h' | h'
    · exact h'
    · simp [Array.getElem?_eq_none h'] at hbk
  have hb2 : w2.heap[b]? = some (.cells #[.pointer (some ⟨b, 0, none⟩), .slice ao bs.length cap] 45 (0, 0)) := by
    rw [hgrow.block b (by simp; omega) (fun e => hne e.symm), Lib.alloc_old w1 _ b hlt]
    exact hbk
  have d1 : w2.cell? ⟨b, 1, none⟩ = some (.slice ao bs.length cap) := by rw [Lib.cell_of_heap hb2]; rfl
  have f1 : w2.frozen? ⟨b, 1, none⟩ = false := Lib.frozen_of_heap hb2 1
  obtain ⟨g, cap', rfl⟩ : ∃ g cap', v' = .slice (some ⟨g, 0, none⟩) (bs.length + (Lib.runeCells r).length) cap' := by
    rcases hown'.2 with ⟨_, h0⟩ | ⟨g, cap', cur, fz, hv, _⟩
    · omega
    · exact ⟨g, cap', hv⟩
  go_wp2
  go_ret2
  refine ⟨?_, Or.inr ?_, ?_, ((hk1.alloc _).grown hgrow (Lib.ownsRowF_kind (hown.alloc _))).setCell ⟨b, 1, none⟩ rfl _⟩
  · have e : ((bs.length : Int) + ((Lib.runeCells r).length : Int) - (bs.length : Int)) = ((Lib.runeCells r).length : Int) := by omega
    simp [e]
  · exact Lib.BuilderAtF.put (T := 45) (e := 5) hB hb2 (bs' := bs ++ Lib.runeCells r) (by simpa using hown') (by decide)
  · exact ((hb1.alloc (by have := hb1.size; omega) _).grown hgrow (by have := hb1.size; simp; omega) (fun k hk => (hown.lt k hk).1)).setCell (p := ⟨b, 1, none⟩) hB _

theorem isGreat_any (r : Int) (w : World) :
    Calls Try.prog 37 #[.int .i32 r] w fun e w' => e = .returned (.bool (decide (Sg.great r))) ∧ w' = w := by
  have k := within_any r
  go_enter Try.func37, Try.ntmps37
  go_wp2_with (go_at_call 24; refine (k _ _ _).mono ?_; rintro e w1 ⟨rfl, rfl⟩)
  all_goals (go_ret; refine tells _ _ _ ?_; clear k; try simp only [beq_iff_eq, beq_eq_false_iff_ne] at *; simp [Sg.great] <;> omega)

theorem folded_any (r : Int) (w : World) :
    Calls Try.prog 28 #[.int .i32 r] w fun e w' => e = .returned (.int .i32 (Sg.small r)) ∧ w' = w := by
  have k := isGreat_any r
  by_cases hg : Sg.great r
  · have hr : 65 ≤ r ∧ r ≤ 937 := by unfold Sg.great at hg; omega
    have e : Sg.small r = r + 32 := by unfold Sg.small; rw [if_pos hg]
    rw [decide_eq_true hg] at k
    rw [e]
    clear hg e
    go_enter Try.func28, Try.ntmps28
    go_wp2_with (go_at_call 37; refine (k _).mono ?_; rintro e w1 ⟨rfl, rfl⟩)
    go_ret
    exact ⟨by go_num, rfl⟩
  · have e : Sg.small r = r := by unfold Sg.small; rw [if_neg hg]
    rw [decide_eq_false hg] at k
    rw [e]
    clear hg e
    go_enter Try.func28, Try.ntmps28
    go_wp2_with (go_at_call 37; refine (k _).mono ?_; rintro e w1 ⟨rfl, rfl⟩)
    go_ret
    exact ⟨rfl, rfl⟩

theorem small_le (n : Nat) (h : n ≤ 1114111) : -2147483648 ≤ Sg.small (n : Int) ∧ Sg.small (n : Int) ≤ 2147483647 := by
  unfold Sg.small
  split <;> omega

set_option maxHeartbeats 4000000 in
set_option maxRecDepth 1000000 in
theorem fold_any (s : ByteArray) (w : World) (hs : s.size ≤ 200000) :
    Calls Try.prog 15 #[.string s] w fun e w' => e = .returned (.string ⟨(Sg.folds s 0).toArray⟩) ∧ Below w.heap.size w w' := by
  go_enter Try.func15, Try.ntmps15
  go_wp2
  go_loopg [] s.size (fun gh wr => ∃ (p : Nat) (acc : List UInt8), s.size - p ≤ gh ∧ Lib.IsBuilderF 45 5 w.heap.size w.heap.size (Lib.byteCells acc) wr ∧ wr.heap[w.heap.size + 1]? = some (.stringIter s p) ∧ Below w.heap.size w wr ∧ acc ++ Sg.folds s p = Sg.folds s 0 ∧ acc.length ≤ 4 * p)
  case atStart =>
    refine ⟨0, [], by omega, (Lib.IsBuilderF.of (Lib.fresh_isBuilder 45 5 w)).alloc _, ?_, ((Below.refl _ w).alloc (Nat.le_refl _) _).alloc (by simp) _, rfl, by simp⟩
    have := World.iter_heap (w.alloc (.cells #[.pointer none, .slice none 0 0] 45)) s 0
    simpa using this
  case round =>
    obtain ⟨p, acc, hgh, hI, hit, hbw, hacc, hal⟩ := hrel
    have hsz : w.heap.size + 1 < wr.heap.size := (Array.getElem?_eq_some_iff.1 hit).1
    by_cases hp : p < s.size
    · have hnx : ∀ ty, (Instr.next (.pointer (some ⟨w.heap.size + 1, 0, none⟩)) true ty).run Try.prog wr = _ := fun ty => Lib.run_next_any_at wr (w.heap.size + 1) s p ty hit hp
      have hwd := Sg.wd_pos s p
      have hI2 := hI.iterAt hit (p + (Utf8.decode s p).2)
      have hit2 := Lib.iterAt_heap wr (w.heap.size + 1) s p (p + (Utf8.decode s p).2) hit
      have hbw2 := Lib.below_iterAt hbw (k := w.heap.size + 1) (by omega) s (p + (Utf8.decode s p).2)
      have hsz2 : w.heap.size ≤ (wr.iterAt (w.heap.size + 1) s (p + (Utf8.decode s p).2)).heap.size := by rw [Lib.iterAt_size]; omega
      have hrl := small_le (Utf8.decode s p).1 (Lib.rune_le s p)
      have kf := folded_any ((Utf8.decode s p).1 : Int)
      have hw4 := writeRune_any w.heap.size w.heap.size (Lib.byteCells acc) (Sg.small ((Utf8.decode s p).1 : Int)) hrl.1 hrl.2 _ hI2 (by rw [Lib.byteCells_length]; omega) hsz2
      have hA : Aside (acc ++ Sg.folds s p = Sg.folds s 0) := hacc
      clear hacc
      go_wp2_with (first
        | (go_at_call 28; refine (kf _).mono ?_; rintro e w1 ⟨rfl, rfl⟩)
        | (go_at_call 27; refine hw4.mono ?_; rintro e w2 ⟨rfl, h1, b1, k1⟩))
      go_roundg (s.size - (p + Sg.wd s p))
      case measure => omega
      case rel =>
        have hl4 := Lib.runeCells_le (Sg.small ((Utf8.decode s p).1 : Int))
        rw [Lib.runeCells_length] at hl4
        refine ⟨p + Sg.wd s p, acc ++ Lib.encodeRune (Sg.small ((Utf8.decode s p).1 : Int)), Nat.le_refl _, ?_, k1.iter hit2 (by omega), hbw2.trans b1, ?_, by simp; omega⟩
        · rw [Lib.byteCells_append, Lib.byteCells_encodeRune]; exact h1
        · rw [← hA.out]
          unfold Sg.folds
          rw [Sg.fr_step s p hp, List.flatMap_cons, ← List.append_assoc]
          rfl
    · have hnx : ∀ ty, (Instr.next (.pointer (some ⟨w.heap.size + 1, 0, none⟩)) true ty).run Try.prog wr = _ := fun ty => Lib.run_next_end_at wr (w.heap.size + 1) s p ty hit hp
      go_wp2_with (go_at_call 29; refine (string_call w.heap.size w.heap.size acc _ hI (by omega)).mono ?_)
      rintro e W1 ⟨rfl, _, b1, _⟩
      go_wp2
      go_ret
      unfold Sg.folds at hacc ⊢
      rw [Sg.fr_end s p hp, List.flatMap_nil, List.append_nil] at hacc
      subst hacc
      exact ⟨rfl, hbw.trans b1⟩
end Go.Proofs.Ytacipegcenfbeaa
