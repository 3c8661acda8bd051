/-
  The reader of the program: words, what opens, what goes on.
-/
import Derived.Test.YtpeioecpilmpiaaGreatDoorJ4
import Derived.WalkKit
import Derived.WalkSpells
import Derived.WalkLawsBesides
import Derived.Deep.LoopGhost
import Derived.Laws.Externs
import Derived.Below
import Derived.BigQuiet
import Derived.Deep.RegionWith
import Derived.OwnWalk
import Derived.Maps.AppendAt
namespace Go.Proofs.YtpeioecpilmpiaaGreatDoor
open Go.RowKit
set_option maxHeartbeats 1600000 in
theorem more_any (r : Nat) (s : ByteArray) (p d e : Nat) (b : UInt8) (_hb : b ≠ 0) (w : World) (h : Rd r s p (d + 1) e w) (hp : p ≤ s.size) (hs : s.size ≤ 1000) (hd : d ≤ 1000) :
    Calls Tryz.prog 91 #[.pointer (some ⟨r, 0, none⟩), .int .u8 (b.toNat : Int)] w fun en w' => en = .returned (.bool (ht s p e 44)) ∧
      Rd r s (if ht s p e 44 then p + 1 else if ht s p e b.toNat then p + 1 else p) (if ht s p e 44 then d + 1 else if ht s p e b.toNat then d else d + 1) (if ht s p e 44 then e else if ht s p e b.toNat then e else fl e 3) w' ∧ w.grownBy w' (some r) := by
  have K := asd (met_any r s p (d + 1) e 44 w h hp hs)
  clear h
  have T0 : Aside True := trivial
  cases h1 : ht s p e 44 with
  | true =>
    rw [h1] at K
    simp only [if_true] at K ⊢
    clear h1
    go_enter Tryz.func91, Tryz.ntmps91
    go_wp2_with (clear T0; go_at_call 65; refine K.out.mono ?_; rintro en w1 ⟨rfl, h1, g1⟩; have H := asd (And.intro h1 g1); clear h1 g1)
    go_ret
    exact ⟨rfl, H.out.1, H.out.2⟩
  | false =>
    rw [h1] at K
    simp only [Bool.false_eq_true, if_false] at K ⊢
    clear h1
    have S := asd (fun w1 h1 => shut_any r s p d e b.toNat w1 h1 hp hs hd)
    cases h2 : ht s p e b.toNat with
    | true =>
      rw [h2] at S
      simp only [if_true] at S ⊢
      clear h2
      generalize b.toNat = B at *
      go_enter Tryz.func91, Tryz.ntmps91
      go_wp2_with (first
        | (clear T0; go_at_call 65; refine K.out.mono ?_; rintro en w1 ⟨rfl, h1, g1⟩; have S1 := asd (S.out w1 h1); have H := asd g1; clear h1 g1)
        | (go_at_call 90; refine S1.out.mono ?_; rintro en w2 ⟨rfl, h2, g2⟩; have H2 := asd (And.intro h2 (gtrans H.out g2)); clear h2 g2))
      go_ret
      exact ⟨rfl, H2.out.1, H2.out.2⟩
    | false =>
      rw [h2] at S
      simp only [Bool.false_eq_true, if_false] at S ⊢
      clear h2
      generalize b.toNat = B at *
      go_enter Tryz.func91, Tryz.ntmps91
      go_wp2_with (first
        | (clear T0; go_at_call 65; refine K.out.mono ?_; rintro en w1 ⟨rfl, h1, g1⟩; have S1 := asd (S.out w1 h1); have H := asd g1; clear h1 g1)
        | (go_at_call 90; refine S1.out.mono ?_; rintro en w2 ⟨rfl, h2, g2⟩; have H2 := asd (gtrans H.out g2); have F2 := asd (fail_any r s _ (d + 1) e 3 w2 h2); clear h2 g2)
        | (go_at_call 31; refine F2.out.mono ?_; rintro en w3 ⟨rfl, h3, g3⟩; have H3 := asd (And.intro h3 (gtrans H2.out g3)); clear h3 g3))
      go_ret
      exact ⟨rfl, H3.out.1, H3.out.2⟩

set_option maxHeartbeats 1600000 in
theorem open_any (r : Nat) (s : ByteArray) (p d : Nat) (w : World) (h : Rd r s p d 0 w) (hp : p < s.size) (hs : s.size ≤ 1000) (hd : d ≤ 8) :
    Calls Tryz.prog 89 #[.pointer (some ⟨r, 0, none⟩)] w fun en w' => en = .returned (.tuple #[]) ∧ w.grownBy w' (some r) ∧
      ((d = 8 ∧ Rd r s p 8 10 w') ∨ (d < 8 ∧ ∃ q, q ≤ s.size ∧ L s q = Js.skip (L s (p + 1)) ∧ Rd r s q (d + 1) 0 w')) := by
  by_cases h8 : d = 8
  · subst h8
    have c2 := h.c2
    have F := asd (fail_any r s p 8 0 10 w h)
    clear h
    go_enter Tryz.func89, Tryz.ntmps89
    go_wp2_with (go_at_call 31; refine F.out.mono ?_; rintro en w3 ⟨rfl, h3, g3⟩; have H3 := asd (And.intro h3 g3); clear h3 g3)
    refine bodyPost_ret (results_none rfl _ _ _) rfl ?_
    exact ⟨rfl, H3.out.2, .inl ⟨trivial, H3.out.1⟩⟩
  · have z1 : ((d : Int) == 8) = false := by rw [beq_eq_false_iff_ne]; omega
    have z2 : ¬ ((d : Int) = 8) := by omega
    have c2 := h.c2
    have f2 := h.fz 2
    have h' := h.set2 (d + 1)
    have e1 : (((d + 1 : Nat)) : Int) = (d : Int) + 1 := by omega
    rw [e1] at h'
    have c1 := h'.c1
    have f1 := h'.fz 1
    have h'' := h'.set1 (p + 1)
    have e2 : (((p + 1 : Nat)) : Int) = (p : Int) + 1 := by omega
    rw [e2] at h''
    have B := asd (And.intro (blanks_any r s (p + 1) (d + 1) 0 _ h'' hp hs) (gtrans (grown_set w r 2 (.int .i64 ((d : Int) + 1))) (grown_set _ r 1 (.int .i64 ((p : Int) + 1)))))
    clear h h' h'' e1 e2
    have D8 : Aside (d < 8) := by show _ < _; omega
    go_enter Tryz.func89, Tryz.ntmps89
    go_wp2_with (go_at_call 51; refine B.out.1.mono ?_; rintro en w3 ⟨rfl, q, hq, hl, h3, g3⟩; have H3 := asd (And.intro h3 (And.intro (hl rfl) (gtrans B.out.2 g3))); clear h3 g3 hl)
    go_end0
    exact ⟨rfl, H3.out.2.2, .inr ⟨D8.out, q, hq, H3.out.2.1, H3.out.1⟩⟩

/-- In the midst of a word. -/
def WI (s wd : ByteArray) (p e i q e1 : Nat) : Prop :=
  q ≤ s.size ∧ ((e = 0 ∧ e1 = 0 ∧ q = p + i ∧ (L s p).take i = wd.data.toList.take i) ∨ (e1 ≠ 0 ∧ e1 = fl e 3 ∧ (e ≠ 0 ∨ wd.data.toList.isPrefixOf (L s p) = false)))
theorem WI.next {s wd : ByteArray} {p e i q e1 q2 e2 : Nat} (h : WI s wd p e i q e1) (hi : i < wd.size) (hz : wd.get! i ≠ 0) (m : Mu s q e1 (wd.get! i).toNat q2 e2) : WI s wd p e (i + 1) q2 e2 := by
  obtain ⟨hq, h⟩ := h
  refine ⟨m.le, ?_⟩
  have m1 := m.pos
  have m2 := m.flt
  rcases h with ⟨h1, rfl, rfl, h4⟩ | ⟨h1, h2, h3⟩
  · cases c : ht s (p + i) 0 (wd.get! i).toNat with
    | true =>
      rw [c] at m1 m2
      simp only [if_true] at m1 m2
      obtain ⟨h5, h6⟩ := ht_true s (p + i) (wd.get! i) hq hz c
      refine .inl ⟨h1, m2, by omega, ?_⟩
      have e1 : (L s p)[i]? = some (wd.get! i) := by
        have : (L s (p + i))[0]? = some (wd.get! i) := by rw [h6]; rfl
        rw [← L_drop, List.getElem?_drop] at this
        simpa using this
      have e2 : wd.data.toList[i]? = some (wd.get! i) := by
        have := L_cons wd i hi
        have h7 : (L wd i)[0]? = some (wd.get! i) := by rw [this]; rfl
        unfold L at h7
        rw [List.getElem?_drop] at h7
        simpa using h7
      rw [List.take_add_one, List.take_add_one, h4, e1, e2]
    | false =>
      rw [c] at m2
      have h5 := ht_false s (p + i) (wd.get! i) c
      refine .inr ⟨by rw [m2]; decide, by rw [m2, h1]; rfl, .inr ?_⟩
      cases hpre : wd.data.toList.isPrefixOf (L s p) with
      | false => rfl
      | true =>
        obtain ⟨t, ht⟩ := List.isPrefixOf_iff_prefix.1 hpre
        have : L s (p + i) = L wd i ++ t := by
          rw [← L_drop, ← ht]
          unfold L
          rw [List.drop_append_of_le_length (by show i ≤ wd.size; omega)]
        rw [L_cons wd i hi] at this
        exact absurd this (h5 _)
  · have c : ht s q e1 (wd.get! i).toNat = false := ht_bad s q e1 _ h1 hz
    rw [c] at m2
    simp only [Bool.false_eq_true, if_false] at m2
    exact .inr ⟨by rw [m2]; exact fl_ne _ _ (by decide), by rw [m2, h2]; exact fl_fl _ _ (by decide), h3⟩
def WD (s wd : ByteArray) (p : Nat) : Option (Unit × Js.B) := if wd.data.toList.isPrefixOf (L s p) then some ((), (L s p).drop wd.size) else none
theorem WI.done {s wd : ByteArray} {p e q e1 : Nat} (h : WI s wd p e wd.size q e1) : Out s e (WD s wd p) (fun _ => True) q e1 := by
  obtain ⟨hq, h⟩ := h
  refine ⟨hq, ?_⟩
  unfold WD
  rcases h with ⟨h1, h2, h3, h4⟩ | ⟨h1, h2, h3⟩
  · refine .inl ⟨h1, h2, (), trivial, ?_⟩
    have hpre : wd.data.toList.isPrefixOf (L s p) = true := by
      rw [List.isPrefixOf_iff_prefix, List.prefix_iff_eq_take]
      have e : wd.data.toList.length = wd.size := rfl
      rw [e, h4, ← e, List.take_length]
    rw [if_pos hpre, h3, L_drop]
  · refine .inr ⟨h1, h2, ?_⟩
    rcases h3 with h3 | h3
    · exact .inl h3
    · exact .inr (by rw [if_neg (by rw [h3]; decide)])

set_option maxHeartbeats 1600000 in
theorem word_any (r : Nat) (s wd : ByteArray) (p d e : Nat) (w : World) (h : Rd r s p d e w) (hp : p ≤ s.size) (hs : s.size ≤ 1000) (hz : ∀ i, i < wd.size → wd.get! i ≠ 0) (hw : wd.size ≤ 1000) :
    Calls Tryz.prog 67 #[.pointer (some ⟨r, 0, none⟩), .string wd] w fun en w' => en = .returned (.tuple #[]) ∧ ∃ q e1, Out s e (WD s wd p) (fun _ => True) q e1 ∧ Rd r s q d e1 w' ∧ w.grownBy w' (some r) := by
  have H := asd h
  have HZ := asd hz
  clear h hz
  have S0 : WI s wd p e 0 p e := by
    refine ⟨hp, ?_⟩
    by_cases he : e = 0
    · exact .inl ⟨he, he, rfl, by simp⟩
    · exact .inr ⟨he, (fl_bad e 3 he).symm, .inl he⟩
  go_enter Tryz.func67, Tryz.ntmps67
  go_wp2
  go_loopg [4, 7] wd.size (fun gh s4 s7 wr => ∃ i q e1 : Nat, wd.size - i ≤ gh ∧ i ≤ wd.size ∧ s7 = .int .i64 (i : Int) ∧ WI s wd p e i q e1 ∧ Aside (Rd r s q d e1 wr ∧ w.grownBy wr (some r)))
  case atStart => exact ⟨0, p, e, by omega, by omega, rfl, S0, H.out, grefl _ _⟩
  case round =>
    obtain ⟨i, q, e1, hgh, hi, rfl, I, R⟩ := hrel
    by_cases hlt : i < wd.size
    · have d1 : decide ((i : Int) < wd.size) = true := by simp; omega
      have M := must_ex r s q d e1 (wd.get! i) (HZ.out i hlt) wr R.out.1 I.1 hs
      have N := asd (fun q2 e2 => I.next (q2 := q2) (e2 := e2) hlt (HZ.out i hlt))
      rw [get_at wd i hlt] at M N
      replace M := asd M
      go_wp2_with (go_at_call 85; refine M.out.mono ?_; rintro en w2 ⟨rfl, q2, e2, m2, h2, g2⟩; have A2 := asd (And.intro (N.out q2 e2 m2) (And.intro h2 (gtrans R.out.2 g2))); clear h2 g2 m2)
      go_roundg (wd.size - (i + 1))
      case measure => omega
      case rel => exact ⟨i + 1, q2, e2, Nat.le_refl _, hlt, by go_num, A2.out.1, A2.out.2.1, A2.out.2.2⟩
    · obtain rfl : i = wd.size := by omega
      go_wp2
      go_end0
      exact ⟨rfl, q, e1, I.done, R.out.1, R.out.2⟩
end Go.Proofs.YtpeioecpilmpiaaGreatDoor
