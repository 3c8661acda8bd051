/-
  The document's reader: open, more.
-/
import Derived.Test.YtpeioecpilmpiaaGreatDoorD2
import Derived.WalkKit
import Derived.WalkSpells
import Derived.WalkLawsBesides
import Derived.Deep.LoopGhost
import Derived.Laws.Externs
import Derived.Below
import Derived.BigQuiet
import Derived.Deep.RegionWith
import Derived.OwnWalk
import Derived.Maps.AppendAt
import Derived.WalkSmall
namespace Go.Proofs.YtpeioecpilmpiaaGreatDoor
open Go.RowKit
theorem iz_le {s : ByteArray} {p e : Nat} {c : UInt8} (h : iz s p e c = true) : p + 1 ≤ s.size := (iz_true h).2.1
/-- Behind the blanks. -/
def sk (s : ByteArray) (p : Nat) : Nat := s.size - (Js.skip (L s p)).length
theorem sk_le (s : ByteArray) (p : Nat) : sk s p ≤ s.size := by unfold sk; omega
theorem sk_eq {s : ByteArray} {p q : Nat} (hq : q ≤ s.size) (h : L s q = Js.skip (L s p)) : q = sk s p := by
  unfold sk
  rw [← h, L_len]
  omega
theorem L_sk (s : ByteArray) (p : Nat) : L s (sk s p) = Js.skip (L s p) := by
  obtain ⟨k, hk, e⟩ := Js.skip_drop (L s p)
  rw [L_len] at hk
  have : sk s p = if p ≤ s.size then p + k else s.size := by
    unfold sk
    rw [e, List.length_drop, L_len]
    split <;> omega
  rw [this]
  split
  · rw [e, L_drop]
  · rw [L_end s p (by omega), L_end s s.size (Nat.le_refl _)]
    rfl

theorem dblanks_sk (r : Nat) (s : ByteArray) (p d e : Nat) (w : World) (h : Rq r s p d e w) (hp : p ≤ s.size) (hs : s.size ≤ 1000) :
    Calls Tryz.prog 24 #[.pointer (some ⟨r, 0, none⟩)] w fun en w' => en = .returned (.tuple #[]) ∧ Rq r s (sk s p) d e w' ∧ w.grownBy w' (some r) := by
  refine (dblanks_any r s p d e w h hp hs).mono ?_
  rintro en w1 ⟨rfl, q, hq, hl, h1, g1⟩
  rw [sk_eq hq hl] at h1
  exact ⟨rfl, h1, g1⟩

theorem Rq.inc1 {r : Nat} {s : ByteArray} {p d e : Nat} {w : World} (h : Rq r s p d e w) : Rq r s (p + 1) d e (w.setCell ⟨r, 1, none⟩ (.int .i64 ((p : Int) + 1))) := by
  have := h.set1 (p + 1)
  rw [show ((p + 1 : Nat) : Int) = (p : Int) + 1 by omega] at this
  exact this
theorem Rq.inc2 {r : Nat} {s : ByteArray} {p d e : Nat} {w : World} (h : Rq r s p d e w) : Rq r s p (d + 1) e (w.setCell ⟨r, 2, none⟩ (.int .i64 ((d : Int) + 1))) := by
  have := h.set2 (d + 1)
  rw [show ((d + 1 : Nat) : Int) = (d : Int) + 1 by omega] at this
  exact this

set_option maxHeartbeats 1000000 in
theorem dmore_any (r : Nat) (s : ByteArray) (p d e : Nat) (c : UInt8) (w : World) (h : Rq r s p (d + 1) e w) (hp : p ≤ s.size) (hs : s.size ≤ 1000) (hd : d ≤ 1000) :
    Calls Tryz.prog 58 #[.pointer (some ⟨r, 0, none⟩), .int .u8 (c.toNat : Int)] w fun en w' => en = .returned (.bool (iz s (sk s p) e 44)) ∧ w.grownBy w' (some r) ∧
      Rq r s (if iz s (sk s p) e 44 || iz s (sk s p) e c then sk s p + 1 else sk s p) (if iz s (sk s p) e 44 then d + 1 else if iz s (sk s p) e c then d else d + 1) (if iz s (sk s p) e 44 || iz s (sk s p) e c then e else fl e 3) w' := by
  have K := asd (dblanks_sk r s p (d + 1) e w h hp hs)
  clear h
  have hq := sk_le s p
  generalize sk s p = q at *
  have K1 := asd (fun w1 h1 => is_any r s q (d + 1) e 44 w1 h1)
  have K2 := asd (fun w1 h1 => is_any r s q (d + 1) e c w1 h1)
  have T := asd trivial
  cases hm : iz s q e 44 with
  | true =>
    rw [hm] at K1
    simp only [Bool.true_or, if_true]
    go_enter Tryz.func58, Tryz.ntmps58
    go_wp2_with (first
      | (go_at_call 24; refine K.out.mono ?_; rintro en w1 ⟨rfl, h1, g1⟩; have H1 := asd (And.intro h1 g1); clear h1 g1 K)
      | (clear T; go_at_call 36; refine (K1.out _ H1.out.1).mono ?_; rintro en w2 ⟨rfl, h2, g2⟩; have H2 := asd (And.intro h2 (gtrans H1.out.2 ⟨g2.os, g2.tape, g2.output, g2.size, fun k hk _ => g2.block k hk (fun e => by cases e)⟩)); have c1 := h2.c1; have f1 := h2.fz 1; clear h2 g2 K1))
    go_ret
    exact ⟨rfl, gtrans H2.out.2 (grown_set _ _ _ _), H2.out.1.set1 (q + 1)⟩
  | false =>
    rw [hm] at K1
    simp only [Bool.false_or, Bool.false_eq_true, if_false]
    cases hn : iz s q e c with
    | true =>
      rw [hn] at K2
      have e1 : ((d + 1 : Nat) : Int) - 1 = d := by omega
      simp only [if_true]
      go_enter Tryz.func58, Tryz.ntmps58
      go_wp2_with (first
        | (go_at_call 24; refine K.out.mono ?_; rintro en w1 ⟨rfl, h1, g1⟩; have H1 := asd (And.intro h1 g1); clear h1 g1 K)
        | (clear T; go_at_call 36; refine (K1.out _ H1.out.1).mono ?_; rintro en w2 ⟨rfl, h2, g2⟩; have H2 := asd (And.intro h2 (gtrans H1.out.2 ⟨g2.os, g2.tape, g2.output, g2.size, fun k hk _ => g2.block k hk (fun e => by cases e)⟩)); clear h2 g2 K1)
        | (go_at_call 36; refine (K2.out _ H2.out.1).mono ?_; rintro en w3 ⟨rfl, h3, g3⟩; have H3 := asd (And.intro h3 (gtrans H2.out.2 ⟨g3.os, g3.tape, g3.output, g3.size, fun k hk _ => g3.block k hk (fun e => by cases e)⟩)); have c1 := h3.c1; have f1 := h3.fz 1; have c2 := h3.inc1.c2; have f2 := h3.inc1.fz 2; clear h3 g3 K2))
      go_ret
      exact ⟨rfl, gtrans (gtrans H3.out.2 (grown_set _ _ _ _)) (grown_set _ _ _ _), (H3.out.1.set1 (q + 1)).set2 d⟩
    | false =>
      rw [hn] at K2
      simp only [Bool.false_eq_true, if_false]
      go_enter Tryz.func58, Tryz.ntmps58
      go_wp2_with (first
        | (go_at_call 24; refine K.out.mono ?_; rintro en w1 ⟨rfl, h1, g1⟩; have H1 := asd (And.intro h1 g1); clear h1 g1 K)
        | (clear T; go_at_call 36; refine (K1.out _ H1.out.1).mono ?_; rintro en w2 ⟨rfl, h2, g2⟩; have H2 := asd (And.intro h2 (gtrans H1.out.2 ⟨g2.os, g2.tape, g2.output, g2.size, fun k hk _ => g2.block k hk (fun e => by cases e)⟩)); clear h2 g2 K1)
        | (go_at_call 36; refine (K2.out _ H2.out.1).mono ?_; rintro en w3 ⟨rfl, h3, g3⟩; have H3 := asd (And.intro h3 (gtrans H2.out.2 ⟨g3.os, g3.tape, g3.output, g3.size, fun k hk _ => g3.block k hk (fun e => by cases e)⟩)); have K3 := asd (bad_any r s q (d + 1) e 3 w3 h3); clear h3 g3 K2)
        | (go_at_call 25; refine K3.out.mono ?_; rintro en w4 ⟨rfl, h4, g4⟩; have H4 := asd (And.intro h4 (gtrans H3.out.2 g4)); clear h4 g4))
      go_ret
      exact ⟨rfl, H4.out.2, H4.out.1⟩

set_option maxHeartbeats 1000000 in
theorem dopen_any (r : Nat) (s : ByteArray) (p d : Nat) (w : World) (h : Rq r s p d 0 w) (hp : p < s.size) (hs : s.size ≤ 1000) (hd : d ≤ 8) :
    Calls Tryz.prog 56 #[.pointer (some ⟨r, 0, none⟩)] w fun en w' => en = .returned (.tuple #[]) ∧ Rq r s (sk s (p + 1)) (d + 1) (if d = 8 then 10 else 0) w' ∧ w.grownBy w' (some r) := by
  have HS := asd (And.intro h.inc2 (grown_set w r 2 (.int .i64 ((d : Int) + 1))))
  have c2 := h.c2
  have f2 := h.fz 2
  have c2' := h.inc2.c2
  have c1' := h.inc2.c1
  have f1' := h.inc2.fz 1
  by_cases h8 : d = 8
  · subst h8
    clear h
    go_enter Tryz.func56, Tryz.ntmps56
    go_wp2_with (first
      | (go_at_call 25; refine (bad_any r s p 9 0 10 _ HS.out.1).mono ?_; rintro en w1 ⟨rfl, h1, g1⟩; have H1 := asd (And.intro h1.inc1 (gtrans (gtrans HS.out.2 g1) (grown_set w1 r 1 (.int .i64 ((p : Int) + 1))))); have cc1 := h1.c1; have ff1 := h1.fz 1; clear h1 g1)
      | (go_at_call 24; refine (dblanks_sk r s (p + 1) 9 10 _ H1.out.1 hp hs).mono ?_; rintro en w2 ⟨rfl, h2, g2⟩; have H2 := asd (And.intro h2 (gtrans H1.out.2 g2)); clear h2 g2))
    go_end0
    exact ⟨rfl, H2.out.1, H2.out.2⟩
  · have d1 : decide (8 < ((d + 1 : Nat) : Int)) = false := by simp; omega
    have d2 : ¬ (8 < ((d + 1 : Nat) : Int)) := by omega
    rw [if_neg h8]
    have HT := asd (And.intro HS.out.1.inc1 (gtrans HS.out.2 (grown_set _ r 1 (.int .i64 ((p : Int) + 1)))))
    clear h
    go_enter Tryz.func56, Tryz.ntmps56
    go_wp2_with (go_at_call 24; refine (dblanks_sk r s (p + 1) (d + 1) 0 _ HT.out.1 hp hs).mono ?_; rintro en w2 ⟨rfl, h2, g2⟩; have H2 := asd (And.intro h2 (gtrans HT.out.2 g2)); clear h2 g2)
    go_end0
    exact ⟨rfl, H2.out.1, H2.out.2⟩
end Go.Proofs.YtpeioecpilmpiaaGreatDoor
