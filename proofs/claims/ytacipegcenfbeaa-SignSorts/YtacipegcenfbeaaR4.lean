/-
  The words of a text, as the program tells them.
-/
import Derived.Test.YtacipegcenfbeaaR3
namespace Go.Proofs.Ytacipegcenfbeaa
open Go.RowKit

/-- Texts as cells. -/
def cellsS (l : List ByteArray) : List Value := l.map Value.string

theorem cellsS_snoc (l : List ByteArray) (x : ByteArray) : cellsS l ++ [.string x] = cellsS (l ++ [x]) := by
  simp [cellsS]

theorem info9 : (Try.prog.info? 9).map (fun i => (i.zero, i.size, i.bytes)) = some (some (.string ⟨#[]⟩), 1, 16) := by kernel_rfl

theorem blank_rune {n : Nat} (h : sort (n : Int) = 1) : n ≠ 65533 := by
  rintro rfl
  revert h
  decide

theorem wf_blank (s : ByteArray) (st p : Nat) (hp : p < s.size) (hb : sort (Sg.rn s p : Int) = 1) : Sg.wf s st (Sg.fr s p) = (if st < p then [s.extract st p] else []) ++ Sg.wf s (p + Sg.wd s p) (Sg.fr s (p + Sg.wd s p)) := by
  rw [Sg.fr_step s p hp]
  simp [Sg.wf, hb]

theorem wf_other (s : ByteArray) (st p : Nat) (hp : p < s.size) (hb : ¬ sort (Sg.rn s p : Int) = 1) : Sg.wf s st (Sg.fr s p) = Sg.wf s st (Sg.fr s (p + Sg.wd s p)) := by
  rw [Sg.fr_step s p hp]
  simp [Sg.wf, hb]

/-- What holds at each round's head. -/
def WRel (s : ByteArray) (w : World) (v s4 : Value) (wr : World) (p : Nat) : Prop :=
  ∃ (st : Nat) (L : List ByteArray), s4 = .int .i64 (st : Int) ∧ wr.ownsRow (w.heap.size + 1) 9 1 v L.length (cellsS L) ∧ wr.heap[w.heap.size]? = some (.stringIter s p) ∧ Below w.heap.size w wr ∧
    L ++ Sg.wf s st (Sg.fr s p) = Sg.words s ∧ st ≤ p ∧ p ≤ s.size ∧ L.length ≤ p

set_option maxHeartbeats 1600000 in
set_option maxRecDepth 1000000 in
theorem words_any (s : ByteArray) (w : World) (hs : s.size ≤ 200000) :
    Calls Try.prog 18 #[.string s] w fun e w' => ∃ v, e = .returned v ∧ w'.ownsRow (w.heap.size + 1) 9 1 v (Sg.words s).length (cellsS (Sg.words s)) ∧ Below w.heap.size w w' := by
  obtain ⟨i0, hi, hz0, hz1, hz2⟩ := info_parts info9
  go_enter Try.func18, Try.ntmps18
  go_wp2
  go_loopg [3, 4] s.size (fun gh v s4 wr => ∃ p : Nat, s.size - p ≤ gh ∧ WRel s w v s4 wr p)
  case atStart =>
    exact ⟨0, by omega, 0, [], rfl, World.ownsRow_nil _ _ _ _, World.iter_heap w s 0, below_iter w s 0, rfl, by omega, by omega, by simp⟩
  case round =>
    obtain ⟨p, hgh, st, L, rfl, hown, hit, hbw, hl, hsp, hps, hLp⟩ := hrel
    have hsz : w.heap.size < wr.heap.size := (Array.getElem?_eq_some_iff.1 hit).1
    by_cases hp : p < s.size
    · have hnx : ∀ ty, (Instr.next (.pointer (some ⟨w.heap.size, 0, none⟩)) true ty).run Try.prog wr = _ := fun ty => Lib.run_next_any_at wr w.heap.size s p ty hit hp
      have hwd := Sg.wd_pos s p
      have hwl := Sg.wd_le s p hp
      have hown2 := ownsRow_iterAt hown (k := w.heap.size) (by omega) s (p + (Utf8.decode s p).2)
      have hit2 := Lib.iterAt_heap wr w.heap.size s p (p + (Utf8.decode s p).2) hit
      have hbw2 := Lib.below_iterAt hbw (k := w.heap.size) (by omega) s (p + (Utf8.decode s p).2)
      have hsz2 : w.heap.size < (wr.iterAt w.heap.size s (p + (Utf8.decode s p).2)).heap.size := by rw [Lib.iterAt_size]; omega
      have ks := sort_any ((Utf8.decode s p).1 : Int)
      by_cases hb : sort ((Utf8.decode s p).1 : Int) = 1
      · have d1 : (sort ((Utf8.decode s p).1 : Int) != 1) = false := by simpa using hb
        have hrl : Lib.runeLen ((Utf8.decode s p).1 : Int) = (Sg.wd s p : Int) := Sg.rn_len s p (blank_rune hb)
        have kl := runeLen_call ((Utf8.decode s p).1 : Int)
        rw [hrl] at kl
        rw [wf_blank s st p hp hb] at hl
        by_cases hsl : st < p
        · have d2 : decide (st < p) = true := by simpa using hsl
          rw [if_pos hsl, ← List.append_assoc] at hl
          have hA : Aside (L ++ [s.extract st p] ++ Sg.wf s (p + Sg.wd s p) (Sg.fr s (p + Sg.wd s p)) = Sg.words s) := hl
          clear hl hown hit hbw hb hrl
          generalize hw2 : wr.iterAt w.heap.size s (p + (Utf8.decode s p).2) = wi at *
          clear hw2
          go_wp2_with (first
            | (go_at_call 7; refine (ks _).mono ?_; rintro e w1 ⟨rfl, rfl⟩)
            | (at_builtin; refine wpList_append_own _ rfl (.tmp 19) (.tmp 24) 34 rfl (w.heap.size + 1) 9 i0 (.string ⟨#[]⟩) 1 16 Try.underlying34 hi hz0 hz1 hz2 rfl (by decide) _ _ _ rfl (hown2.alloc _) ⟨_, 0, none⟩ 1 1 [.string (s.extract st p)] rfl rfl ?c1 ?c2 ?c3 ?c4 ?c5 ?_))
          case c1 => exact (cell_one_new _ _ _)
          case c2 => intro u hu; simp at hu; subst hu; rfl
          case c3 => unfold maxLen; omega
          case c4 => omega
          case c5 => simp; omega
          intro v' w2 hown' hgrow _
          go_wp2_with (go_at_call 31; refine (kl _).mono ?_; rintro e w3 ⟨rfl, rfl⟩)
          go_roundg (s.size - (p + Sg.wd s p))
          case measure => omega
          case rel =>
            refine ⟨p + Sg.wd s p, Nat.le_refl _, p + Sg.wd s p, L ++ [s.extract st p], by go_num, ?_, ?_, ?_, hA.out, by omega, hwl, by simp; omega⟩
            · rw [← cellsS_snoc, List.length_append]; exact hown'
            · rw [hgrow.block w.heap.size (by simp; omega) (fun e => by have := (hown2.lt _ e.symm).1; omega), Lib.alloc_old _ _ _ hsz2]
              exact hit2
            · exact ((hbw2.alloc (by omega) _).grown hgrow (by simp; omega) (fun k hk => by have := (hown2.lt k hk).1; omega))
        · have d2 : decide (st < p) = false := by simpa using hsl
          rw [if_neg hsl, List.nil_append] at hl
          have hA : Aside (L ++ Sg.wf s (p + Sg.wd s p) (Sg.fr s (p + Sg.wd s p)) = Sg.words s) := hl
          clear hl hown hit hbw hb hrl
          generalize hw2 : wr.iterAt w.heap.size s (p + (Utf8.decode s p).2) = wi at *
          clear hw2
          go_wp2_with (first
            | (go_at_call 7; refine (ks _).mono ?_; rintro e w1 ⟨rfl, rfl⟩)
            | (go_at_call 31; refine (kl _).mono ?_; rintro e w3 ⟨rfl, rfl⟩))
          go_roundg (s.size - (p + Sg.wd s p))
          case measure => omega
          case rel => exact ⟨p + Sg.wd s p, Nat.le_refl _, p + Sg.wd s p, L, by go_num, hown2, hit2, hbw2, hA.out, by omega, hwl, by omega⟩
      · have d1 : (sort ((Utf8.decode s p).1 : Int) != 1) = true := by simpa using hb
        rw [wf_other s st p hp hb] at hl
        have hA : Aside (L ++ Sg.wf s st (Sg.fr s (p + Sg.wd s p)) = Sg.words s) := hl
        clear hl hown hit hbw hb
        generalize hw2 : wr.iterAt w.heap.size s (p + (Utf8.decode s p).2) = wi at *
        clear hw2
        go_wp2_with (go_at_call 7; refine (ks _).mono ?_; rintro e w1 ⟨rfl, rfl⟩)
        go_roundg (s.size - (p + Sg.wd s p))
        case measure => omega
        case rel => exact ⟨p + Sg.wd s p, Nat.le_refl _, st, L, rfl, hown2, hit2, hbw2, hA.out, by omega, hwl, by omega⟩
    · have hnx : ∀ ty, (Instr.next (.pointer (some ⟨w.heap.size, 0, none⟩)) true ty).run Try.prog wr = _ := fun ty => Lib.run_next_end_at wr w.heap.size s p ty hit hp
      rw [Sg.fr_end s p hp] at hl
      by_cases hse : st < s.size
      · have d2 : decide (st < s.size) = true := by simpa using hse
        have hA : Aside (L ++ [s.extract st s.size] = Sg.words s) := by
          show _ = _
          simpa [Sg.wf, hse] using hl
        clear hl
        go_wp2_with (at_builtin; refine wpList_append_own _ rfl (.tmp 34) (.tmp 38) 34 rfl (w.heap.size + 1) 9 i0 (.string ⟨#[]⟩) 1 16 Try.underlying34 hi hz0 hz1 hz2 rfl (by decide) _ _ _ rfl (hown.alloc _) ⟨_, 0, none⟩ 1 1 [.string (s.extract st s.size)] rfl rfl ?c1 ?c2 ?c3 ?c4 ?c5 ?_)
        case c1 => exact (cell_one_new _ _ _)
        case c2 => intro u hu; simp at hu; subst hu; rfl
        case c3 => unfold maxLen; omega
        case c4 => omega
        case c5 => simp; omega
        intro v' w2 hown' hgrow _
        go_wp2
        go_ret
        refine ⟨_, rfl, ?_, (hbw.alloc (by omega) _).grown hgrow (by simp; omega) (fun k hk => by have := (hown.lt k hk).1; omega)⟩
        rw [← hA.out, ← cellsS_snoc, List.length_append]
        exact hown'
      · have d2 : decide (st < s.size) = false := by simpa using hse
        have hA : Aside (L = Sg.words s) := by
          show _ = _
          simpa [Sg.wf, hse] using hl
        clear hl
        go_wp2
        go_ret
        refine ⟨_, rfl, ?_, hbw⟩
        rw [← hA.out]
        exact hown
end Go.Proofs.Ytacipegcenfbeaa
