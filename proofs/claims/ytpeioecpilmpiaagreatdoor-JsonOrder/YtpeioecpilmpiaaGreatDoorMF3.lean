/-
  YtpeioecpilmpiaaGreatDoor: the texts J2, one behind the other.
-/
import Derived.Test.YtpeioecpilmpiaaGreatDoorMF2
import Derived.WalkKit
import Derived.WalkSpells
import Derived.WalkLawsBesides
import Derived.Deep.LoopGhost
import Derived.Laws.Externs
import Derived.Below
import Derived.BigQuiet
import Derived.Deep.RegionWith
import Derived.OwnWalk
import Derived.Maps.AppendAt
/-
  The reader of the program: blanks; a digit to base 16, four of them, two halves.
-/
namespace Go.Proofs.YtpeioecpilmpiaaGreatDoor
open Go.RowKit
/-- Where a blank stands. -/
theorem ht_ne (s : ByteArray) (q e b : Nat) (h : nx s q e ≠ b) : ht s q e b = false := by simpa [ht] using h
theorem ht_eq (s : ByteArray) (q e b : Nat) (h : nx s q e = b) : ht s q e b = true := by simpa [ht] using h

set_option maxHeartbeats 1600000 in
theorem blanks_any (r : Nat) (s : ByteArray) (p d e : Nat) (w : World) (h' : Rd r s p d e w) (hp : p ≤ s.size) (hs : s.size ≤ 1000) :
    Calls Tryz.prog 51 #[.pointer (some ⟨r, 0, none⟩)] w fun en w' => en = .returned (.tuple #[]) ∧ ∃ q, q ≤ s.size ∧ (e = 0 → L s q = Js.skip (L s p)) ∧ Rd r s q d e w' ∧ w.grownBy w' (some r) := by
  have H0 : Aside _ := h'
  clear h'
  go_enter Tryz.func51, Tryz.ntmps51
  go_wp2
  go_loopg [] s.size (fun gh wr => ∃ q : Nat, s.size - q ≤ gh ∧ q ≤ s.size ∧ Aside ((e = 0 → Js.skip (L s q) = Js.skip (L s p)) ∧ Rd r s q d e wr ∧ w.grownBy wr (some r)))
  case atStart => exact ⟨p, by omega, hp, fun _ => rfl, H0, grefl _ _⟩
  case round =>
    obtain ⟨q, hgh, hq, I⟩ := hrel
    have HR : Aside (Rd r s q d e wr ∧ w.grownBy wr (some r)) := I.out.2
    have T0 : Aside True := trivial
    have T1 : Aside True := trivial
    have T2 : Aside True := trivial
    have T3 : Aside True := trivial
    by_cases hb : e = 0 ∧ q < s.size ∧ Js.isBl (s.get! q) = true
    · obtain ⟨rfl, hlt, hbl⟩ := hb
      have hsk : Js.skip (L s (q + 1)) = Js.skip (L s q) := by rw [L_cons s q hlt]; simp [Js.skip, hbl]
      have hx := nx_at s q hlt
      have SK : Aside (Js.skip (L s (q + 1)) = Js.skip (L s p)) := hsk.trans (I.out.1 rfl)
      clear hsk I
      have Fin : ∀ wz : World, Aside (Rd r s (q + 1) d 0 wz ∧ w.grownBy wz (some r)) → ∃ q_1 : Nat, s.size - q_1 ≤ s.size - (q + 1) ∧ q_1 ≤ s.size ∧ Aside (((0 : Nat) = 0 → Js.skip (L s q_1) = Js.skip (L s p)) ∧ Rd r s q_1 d 0 wz ∧ w.grownBy wz (some r)) := fun wz A => ⟨q + 1, Nat.le_refl _, hlt, fun _ => SK.out, A.out.1, A.out.2⟩
      have FIN : Aside _ := Fin
      clear Fin
      have hz : Hid ((s.get! q).toNat = 32 ∨ (s.get! q).toNat = 9 ∨ (s.get! q).toNat = 10 ∨ (s.get! q).toNat = 13) := by
        simp only [Js.isBl, Bool.or_eq_true, beq_iff_eq] at hbl
        rcases hbl with ((e | e) | e) | e <;> rw [e]
        · exact .inl rfl
        · exact .inr (.inl rfl)
        · exact .inr (.inr (.inl rfl))
        · exact .inr (.inr (.inr rfl))
      rcases hz with hz | hz | hz | hz
      · have E0 : ht s q 0 32 = true := ht_eq _ _ _ _ (by omega)
        clear hz hx hbl
        go_wp2_with (first | (clear T0; go_at_call 65; refine (met_any r s q d 0 32 _ HR.out.1 hq hs).mono ?_; rintro en w1 ⟨rfl, h1, g1⟩; simp only [E0, if_true] at h1; have A0 := asd (And.intro h1 (gtrans HR.out.2 g1)); clear h1 g1))
        go_roundg (s.size - (q + 1))
        case measure => omega
        case rel => exact FIN.out _ A0
      · have E0 : ht s q 0 32 = false := ht_ne _ _ _ _ (by omega)
        have E1 : ht s q 0 9 = true := ht_eq _ _ _ _ (by omega)
        clear hz hx hbl
        go_wp2_with (first | (clear T0; go_at_call 65; refine (met_any r s q d 0 32 _ HR.out.1 hq hs).mono ?_; rintro en w1 ⟨rfl, h1, g1⟩; simp only [E0, Bool.false_eq_true, if_false] at h1; have A0 := asd (And.intro h1 (gtrans HR.out.2 g1)); clear h1 g1) | (clear T1; go_at_call 65; refine (met_any r s q d 0 9 _ A0.out.1 hq hs).mono ?_; rintro en w2 ⟨rfl, h1, g1⟩; simp only [E1, if_true] at h1; have A1 := asd (And.intro h1 (gtrans A0.out.2 g1)); clear h1 g1))
        go_roundg (s.size - (q + 1))
        case measure => omega
        case rel => exact FIN.out _ A1
      · have E0 : ht s q 0 32 = false := ht_ne _ _ _ _ (by omega)
        have E1 : ht s q 0 9 = false := ht_ne _ _ _ _ (by omega)
        have E2 : ht s q 0 10 = true := ht_eq _ _ _ _ (by omega)
        clear hz hx hbl
        go_wp2_with (first | (clear T0; go_at_call 65; refine (met_any r s q d 0 32 _ HR.out.1 hq hs).mono ?_; rintro en w1 ⟨rfl, h1, g1⟩; simp only [E0, Bool.false_eq_true, if_false] at h1; have A0 := asd (And.intro h1 (gtrans HR.out.2 g1)); clear h1 g1) | (clear T1; go_at_call 65; refine (met_any r s q d 0 9 _ A0.out.1 hq hs).mono ?_; rintro en w2 ⟨rfl, h1, g1⟩; simp only [E1, Bool.false_eq_true, if_false] at h1; have A1 := asd (And.intro h1 (gtrans A0.out.2 g1)); clear h1 g1) | (clear T2; go_at_call 65; refine (met_any r s q d 0 10 _ A1.out.1 hq hs).mono ?_; rintro en w3 ⟨rfl, h1, g1⟩; simp only [E2, if_true] at h1; have A2 := asd (And.intro h1 (gtrans A1.out.2 g1)); clear h1 g1))
        go_roundg (s.size - (q + 1))
        case measure => omega
        case rel => exact FIN.out _ A2
      · have E0 : ht s q 0 32 = false := ht_ne _ _ _ _ (by omega)
        have E1 : ht s q 0 9 = false := ht_ne _ _ _ _ (by omega)
        have E2 : ht s q 0 10 = false := ht_ne _ _ _ _ (by omega)
        have E3 : ht s q 0 13 = true := ht_eq _ _ _ _ (by omega)
        clear hz hx hbl
        go_wp2_with (first | (clear T0; go_at_call 65; refine (met_any r s q d 0 32 _ HR.out.1 hq hs).mono ?_; rintro en w1 ⟨rfl, h1, g1⟩; simp only [E0, Bool.false_eq_true, if_false] at h1; have A0 := asd (And.intro h1 (gtrans HR.out.2 g1)); clear h1 g1) | (clear T1; go_at_call 65; refine (met_any r s q d 0 9 _ A0.out.1 hq hs).mono ?_; rintro en w2 ⟨rfl, h1, g1⟩; simp only [E1, Bool.false_eq_true, if_false] at h1; have A1 := asd (And.intro h1 (gtrans A0.out.2 g1)); clear h1 g1) | (clear T2; go_at_call 65; refine (met_any r s q d 0 10 _ A1.out.1 hq hs).mono ?_; rintro en w3 ⟨rfl, h1, g1⟩; simp only [E2, Bool.false_eq_true, if_false] at h1; have A2 := asd (And.intro h1 (gtrans A1.out.2 g1)); clear h1 g1) | (clear T3; go_at_call 65; refine (met_any r s q d 0 13 _ A2.out.1 hq hs).mono ?_; rintro en w4 ⟨rfl, h1, g1⟩; simp only [E3, if_true] at h1; have A3 := asd (And.intro h1 (gtrans A2.out.2 g1)); clear h1 g1))
        go_roundg (s.size - (q + 1))
        case measure => omega
        case rel => exact FIN.out _ A3
    · have hn : e ≠ 0 ∨ q = s.size ∨ (e = 0 ∧ q < s.size ∧ Js.isBl (s.get! q) = false) := by
        by_cases h1 : e = 0
        · by_cases h2 : q = s.size
          · exact .inr (.inl h2)
          · exact .inr (.inr ⟨h1, by omega, by simpa [h1, show q < s.size by omega] using hb⟩)
        · exact .inl h1
      clear hb
      have hx : nx s q e ≠ 32 ∧ nx s q e ≠ 9 ∧ nx s q e ≠ 10 ∧ nx s q e ≠ 13 := by
        rcases hn with hn | hn | ⟨rfl, h2, h3⟩
        · rw [nx_bad s q e hn]; omega
        · rw [nx_end s q hn e]; omega
        · rw [nx_at s q h2]
          simp only [Js.isBl, Bool.or_eq_false_iff, beq_eq_false_iff_ne] at h3
          refine ⟨fun e => h3.1.1.1 (UInt8.toNat_inj.1 e), fun e => h3.1.1.2 (UInt8.toNat_inj.1 e), fun e => h3.1.2 (UInt8.toNat_inj.1 e), fun e => h3.2 (UInt8.toNat_inj.1 e)⟩
      have SK : Aside (e = 0 → L s q = Js.skip (L s p)) := fun he => by
        rw [← I.out.1 he]
        rcases hn with hn | hn | ⟨_, h2, h3⟩
        · exact absurd he hn
        · rw [L_end s q (by omega)]; rfl
        · rw [L_cons s q h2, Js.skip_id _ _ h3]
      have E0 : ht s q e 32 = false := ht_ne _ _ _ _ hx.1
      have E1 : ht s q e 9 = false := ht_ne _ _ _ _ hx.2.1
      have E2 : ht s q e 10 = false := ht_ne _ _ _ _ hx.2.2.1
      have E3 : ht s q e 13 = false := ht_ne _ _ _ _ hx.2.2.2
      clear hx hn I
      go_wp2_with (first | (clear T0; go_at_call 65; refine (met_any r s q d e 32 _ HR.out.1 hq hs).mono ?_; rintro en w1 ⟨rfl, h1, g1⟩; simp only [E0, Bool.false_eq_true, if_false] at h1; have A0 := asd (And.intro h1 (gtrans HR.out.2 g1)); clear h1 g1) | (clear T1; go_at_call 65; refine (met_any r s q d e 9 _ A0.out.1 hq hs).mono ?_; rintro en w2 ⟨rfl, h1, g1⟩; simp only [E1, Bool.false_eq_true, if_false] at h1; have A1 := asd (And.intro h1 (gtrans A0.out.2 g1)); clear h1 g1) | (clear T2; go_at_call 65; refine (met_any r s q d e 10 _ A1.out.1 hq hs).mono ?_; rintro en w3 ⟨rfl, h1, g1⟩; simp only [E2, Bool.false_eq_true, if_false] at h1; have A2 := asd (And.intro h1 (gtrans A1.out.2 g1)); clear h1 g1) | (clear T3; go_at_call 65; refine (met_any r s q d e 13 _ A2.out.1 hq hs).mono ?_; rintro en w4 ⟨rfl, h1, g1⟩; simp only [E3, Bool.false_eq_true, if_false] at h1; have A3 := asd (And.intro h1 (gtrans A2.out.2 g1)); clear h1 g1))
      go_end0
      exact ⟨rfl, q, hq, SK.out, A3.out.1, A3.out.2⟩
/-- A digit to base 16, of a number. -/
def hexvN (n : Nat) : Option Nat :=
  if 48 ≤ n ∧ n ≤ 57 then some (n - 48) else if 97 ≤ n ∧ n ≤ 102 then some (n - 97 + 10) else if 65 ≤ n ∧ n ≤ 70 then some (n - 65 + 10) else none
theorem hexvN_lt {n v : Nat} (h : hexvN n = some v) : v < 16 := by
  unfold hexvN at h
  repeat' split at h
  all_goals first | (cases h; omega) | cases h

set_option maxHeartbeats 1600000 in
theorem digit_any (r : Nat) (s : ByteArray) (p d e : Nat) (w : World) (h : Rd r s p d e w) (hp : p ≤ s.size) (hs : s.size ≤ 1000) :
    Calls Tryz.prog 127 #[.pointer (some ⟨r, 0, none⟩)] w fun en w' => en = .returned (.int .i32 (((hexvN (nx s p e)).getD 0 : Nat) : Int)) ∧ Rd r s (if (hexvN (nx s p e)).isSome then p + 1 else p) d (if (hexvN (nx s p e)).isSome then e else fl e 3) w' ∧ w.grownBy w' (some r) := by
  have K := asd (next_any r s p d e w h hp hs)
  have hlt := nx_lt s p e
  clear h
  generalize nx s p e = x at *
  by_cases c1 : 48 ≤ x ∧ x ≤ 57
  · have e1 : hexvN x = some (x - 48) := by unfold hexvN; rw [if_pos c1]
    have d0a : decide ((48 : Int) ≤ x) = true := by simp; omega
    have d0b : decide ((x : Int) ≤ 57) = true := by simp; omega
    have hlo : 48 ≤ x := c1.1
    have ev : Aside (((x - 48 : Nat) : Int) = (x : Int) - 48) := by show _ = _; omega
    clear c1
    rw [e1]
    clear e1
    simp only [Option.getD_some, Option.isSome_some, if_true]
    go_enter Tryz.func127, Tryz.ntmps127
    go_wp2_with (go_at_call 66; refine K.out.mono ?_; rintro en w1 ⟨rfl, h1, g1⟩; have c1 := h1.c1; have f1 := h1.fz 1; have H := asd (And.intro h1 g1); clear h1 g1)
    go_ret
    exact ⟨by rw [ev.out]; rfl, H.out.1.set1 (p + 1), gtrans H.out.2 (grown_set _ _ _ _)⟩
  · by_cases c2 : 97 ≤ x ∧ x ≤ 102
    · have e1 : hexvN x = some (x - 97 + 10) := by unfold hexvN; rw [if_neg (by omega)]; rw [if_pos c2]
      have d0a : decide ((48 : Int) ≤ x) = true := by simp; omega
      have d0b : decide ((x : Int) ≤ 57) = false := by simp; omega
      have d1a : decide ((97 : Int) ≤ x) = true := by simp; omega
      have d1b : decide ((x : Int) ≤ 102) = true := by simp; omega
      have hlo : 97 ≤ x := c2.1
      have ev : Aside (((x - 97 + 10 : Nat) : Int) = (x : Int) - 97 + 10) := by show _ = _; omega
      clear c1
      clear c2
      rw [e1]
      clear e1
      simp only [Option.getD_some, Option.isSome_some, if_true]
      go_enter Tryz.func127, Tryz.ntmps127
      go_wp2_with (go_at_call 66; refine K.out.mono ?_; rintro en w1 ⟨rfl, h1, g1⟩; have c1 := h1.c1; have f1 := h1.fz 1; have H := asd (And.intro h1 g1); clear h1 g1)
      go_ret
      exact ⟨by rw [ev.out]; rfl, H.out.1.set1 (p + 1), gtrans H.out.2 (grown_set _ _ _ _)⟩
    · by_cases c3 : 65 ≤ x ∧ x ≤ 70
      · have e1 : hexvN x = some (x - 65 + 10) := by unfold hexvN; rw [if_neg (by omega)]; rw [if_neg (by omega)]; rw [if_pos c3]
        have d0a : decide ((48 : Int) ≤ x) = true := by simp; omega
        have d0b : decide ((x : Int) ≤ 57) = false := by simp; omega
        have d1a : decide ((97 : Int) ≤ x) = false := by simp; omega
        have d2a : decide ((65 : Int) ≤ x) = true := by simp; omega
        have d2b : decide ((x : Int) ≤ 70) = true := by simp; omega
        have hlo : 65 ≤ x := c3.1
        have ev : Aside (((x - 65 + 10 : Nat) : Int) = (x : Int) - 65 + 10) := by show _ = _; omega
        clear c1
        clear c2
        clear c3
        rw [e1]
        clear e1
        simp only [Option.getD_some, Option.isSome_some, if_true]
        go_enter Tryz.func127, Tryz.ntmps127
        go_wp2_with (go_at_call 66; refine K.out.mono ?_; rintro en w1 ⟨rfl, h1, g1⟩; have c1 := h1.c1; have f1 := h1.fz 1; have H := asd (And.intro h1 g1); clear h1 g1)
        go_ret
        exact ⟨by rw [ev.out]; rfl, H.out.1.set1 (p + 1), gtrans H.out.2 (grown_set _ _ _ _)⟩
      · have e1 : hexvN x = none := by unfold hexvN; rw [if_neg (by omega), if_neg (by omega), if_neg (by omega)]
        rw [e1]
        clear e1
        simp only [Option.getD_none, Option.isSome_none, Bool.false_eq_true, if_false]
        have arm : ∀ w1 : World, Aside (Rd r s p d e w1 ∧ w.grownBy w1 (some r)) → Aside (Calls Tryz.prog 31 #[.pointer (some ⟨r, 0, none⟩), .int .i64 3] w1 fun en w' => en = .returned (.tuple #[]) ∧ Rd r s p d (fl e 3) w' ∧ w.grownBy w' (some r)) := fun w1 A =>
          (fail_any r s p d e 3 w1 A.out.1).mono (by rintro en w2 ⟨rfl, h2, g2⟩; exact ⟨rfl, h2, gtrans A.out.2 g2⟩)
        have dall : Hid ((x < 48) ∨ (57 < x ∧ x < 65) ∨ (70 < x ∧ x < 97) ∨ 102 < x) := by unfold Hid; omega
        clear c1 c2 c3
        rcases dall with c | c | c | c
        · have d0a : decide ((48 : Int) ≤ x) = false := by simp; omega
          have d1a : decide ((97 : Int) ≤ x) = false := by simp; omega
          have d2a : decide ((65 : Int) ≤ x) = false := by simp; omega
          clear c
          go_enter Tryz.func127, Tryz.ntmps127
          go_wp2_with (first
            | (go_at_call 66; refine K.out.mono ?_; rintro en w1 ⟨rfl, h1, g1⟩; have H := arm w1 (asd (And.intro h1 g1)); clear h1 g1 arm)
            | (go_at_call 31; refine H.out.mono ?_; rintro en w2 ⟨rfl, h2, g2⟩; have H2 := asd (And.intro h2 g2); clear h2 g2))
          go_ret
          exact ⟨rfl, H2.out.1, H2.out.2⟩
        · have d0a : decide ((48 : Int) ≤ x) = true := by simp; omega
          have d0b : decide ((x : Int) ≤ 57) = false := by simp; omega
          have d1a : decide ((97 : Int) ≤ x) = false := by simp; omega
          have d2a : decide ((65 : Int) ≤ x) = false := by simp; omega
          clear c
          go_enter Tryz.func127, Tryz.ntmps127
          go_wp2_with (first
            | (go_at_call 66; refine K.out.mono ?_; rintro en w1 ⟨rfl, h1, g1⟩; have H := arm w1 (asd (And.intro h1 g1)); clear h1 g1 arm)
            | (go_at_call 31; refine H.out.mono ?_; rintro en w2 ⟨rfl, h2, g2⟩; have H2 := asd (And.intro h2 g2); clear h2 g2))
          go_ret
          exact ⟨rfl, H2.out.1, H2.out.2⟩
        · have d0a : decide ((48 : Int) ≤ x) = true := by simp; omega
          have d0b : decide ((x : Int) ≤ 57) = false := by simp; omega
          have d1a : decide ((97 : Int) ≤ x) = false := by simp; omega
          have d2a : decide ((65 : Int) ≤ x) = true := by simp; omega
          have d2b : decide ((x : Int) ≤ 70) = false := by simp; omega
          clear c
          go_enter Tryz.func127, Tryz.ntmps127
          go_wp2_with (first
            | (go_at_call 66; refine K.out.mono ?_; rintro en w1 ⟨rfl, h1, g1⟩; have H := arm w1 (asd (And.intro h1 g1)); clear h1 g1 arm)
            | (go_at_call 31; refine H.out.mono ?_; rintro en w2 ⟨rfl, h2, g2⟩; have H2 := asd (And.intro h2 g2); clear h2 g2))
          go_ret
          exact ⟨rfl, H2.out.1, H2.out.2⟩
        · have d0a : decide ((48 : Int) ≤ x) = true := by simp; omega
          have d0b : decide ((x : Int) ≤ 57) = false := by simp; omega
          have d1a : decide ((97 : Int) ≤ x) = true := by simp; omega
          have d1b : decide ((x : Int) ≤ 102) = false := by simp; omega
          have d2a : decide ((65 : Int) ≤ x) = true := by simp; omega
          have d2b : decide ((x : Int) ≤ 70) = false := by simp; omega
          clear c
          go_enter Tryz.func127, Tryz.ntmps127
          go_wp2_with (first
            | (go_at_call 66; refine K.out.mono ?_; rintro en w1 ⟨rfl, h1, g1⟩; have H := arm w1 (asd (And.intro h1 g1)); clear h1 g1 arm)
            | (go_at_call 31; refine H.out.mono ?_; rintro en w2 ⟨rfl, h2, g2⟩; have H2 := asd (And.intro h2 g2); clear h2 g2))
          go_ret
          exact ⟨rfl, H2.out.1, H2.out.2⟩
/-- What a piece of reading gives: it goes on, or the fault 3 is kept. -/
def Out {α : Type} (s : ByteArray) (e : Nat) (R : Option (α × Js.B)) (P : α → Prop) (q e' : Nat) : Prop :=
  q ≤ s.size ∧ ((e = 0 ∧ e' = 0 ∧ ∃ v, P v ∧ R = some (v, L s q)) ∨ (e' ≠ 0 ∧ e' = fl e 3 ∧ (e ≠ 0 ∨ R = none)))

theorem fl_ne (e f : Nat) (h : f ≠ 0) : fl e f ≠ 0 := by unfold fl; split <;> omega
theorem fl_fl (e f : Nat) (h : f ≠ 0) : fl (fl e f) f = fl e f := by unfold fl; split <;> simp_all
theorem fl_bad (e f : Nat) (h : e ≠ 0) : fl e f = e := by unfold fl; rw [if_neg h]

theorem ofInt_32 (a : Nat) (ha : a < 4294967296) : (BitVec.ofInt 32 (a : Int)).toNat = a := by
  rw [BitVec.ofInt_natCast, BitVec.toNat_ofNat]; exact Nat.mod_eq_of_lt (by omega)
theorem bits_or4 (n v : Nat) (hn : n < 4096) (hv : v < 16) : bits .or .i32 ((n : Int) * 16) (v : Int) = ((n * 16 + v : Nat) : Int) := by
  show IntKind.i32.wrap ((BitVec.ofInt 32 ((n : Int) * 16) ||| BitVec.ofInt 32 (v : Int)).toNat : Int) = _
  have e : (n : Int) * 16 = ((n * 16 : Nat) : Int) := by omega
  rw [e, BitVec.toNat_or, ofInt_32 _ (by omega), ofInt_32 _ (by omega)]
  have := Nat.two_pow_add_eq_or_of_lt (i := 4) (b := v) (by omega) n
  rw [show n * 16 = 2 ^ 4 * n by omega, ← this]
  rw [IntKind.wrap_i32]
  omega

theorem hexs_step (s : ByteArray) (q k n : Nat) (hq : q ≤ s.size) : Js.hexs (k + 1) n (L s q) = match hexvN (nx s q 0) with | none => none | some v => Js.hexs k (n * 16 + v) (L s (q + 1)) := by
  by_cases h : q = s.size
  · rw [nx_end s q h, L_end s q (by omega)]
    rfl
  · rw [nx_at s q (by omega), L_cons s q (by omega)]
    simp only [Js.hexs]
    have : Js.hexv (s.get! q) = hexvN (s.get! q).toNat := rfl
    rw [this]
    all_goals (cases hexvN (s.get! q).toNat <;> rfl)

/-- In the midst of reading four digits: j are read, they are n. -/
def HI (s : ByteArray) (p e j n q e1 : Nat) : Prop :=
  q ≤ s.size ∧ ((e = 0 ∧ e1 = 0 ∧ Js.hexs 4 0 (L s p) = Js.hexs (4 - j) n (L s q)) ∨ (e1 ≠ 0 ∧ e1 = fl e 3 ∧ (e ≠ 0 ∨ Js.hexs 4 0 (L s p) = none)))
theorem HI.start (s : ByteArray) (p e : Nat) (hp : p ≤ s.size) : HI s p e 0 0 p e := by
  refine ⟨hp, ?_⟩
  by_cases he : e = 0
  · exact .inl ⟨he, he, rfl⟩
  · exact .inr ⟨he, (fl_bad e 3 he).symm, .inl he⟩
theorem HI.next {s : ByteArray} {p e j n q e1 : Nat} (h : HI s p e j n q e1) (hj : j < 4) :
    HI s p e (j + 1) (n * 16 + (hexvN (nx s q e1)).getD 0) (if (hexvN (nx s q e1)).isSome then q + 1 else q) (if (hexvN (nx s q e1)).isSome then e1 else fl e1 3) := by
  obtain ⟨hq, h⟩ := h
  rcases h with ⟨h1, rfl, h3⟩ | ⟨h1, h2, h3⟩
  · rw [show 4 - j = (4 - (j + 1)) + 1 by omega, hexs_step s q _ n hq] at h3
    cases ho : hexvN (nx s q 0) with
    | none =>
      rw [ho] at h3
      exact ⟨hq, .inr ⟨by decide, by rw [h1]; rfl, .inr h3⟩⟩
    | some v =>
      rw [ho] at h3
      have hlt : q < s.size := by
        refine Nat.lt_of_le_of_ne hq fun hqe => ?_
        rw [nx_end s q hqe] at ho
        cases ho
      exact ⟨hlt, .inl ⟨h1, rfl, h3⟩⟩
  · have ho : hexvN (nx s q e1) = none := by rw [nx_bad s q e1 h1]; rfl
    rw [ho]
    exact ⟨hq, .inr ⟨fl_ne _ _ (by decide), by rw [h2]; exact fl_fl _ _ (by decide), h3⟩⟩
theorem HI.out {s : ByteArray} {p e n q e1 : Nat} (h : HI s p e 4 n q e1) : Out s e (Js.hexs 4 0 (L s p)) (· = n) q e1 := by
  obtain ⟨hq, h⟩ := h
  rcases h with ⟨h1, h2, h3⟩ | h
  · exact ⟨hq, .inl ⟨h1, h2, n, rfl, h3⟩⟩
  · exact ⟨hq, .inr h⟩

set_option maxHeartbeats 1600000 in
theorem unit_any (r : Nat) (s : ByteArray) (p d e : Nat) (w : World) (h' : Rd r s p d e w) (hp : p ≤ s.size) (hs : s.size ≤ 1000) :
    Calls Tryz.prog 117 #[.pointer (some ⟨r, 0, none⟩)] w fun en w' => ∃ n q e' : Nat, en = .returned (.int .i32 (n : Int)) ∧ n < 65536 ∧ Out s e (Js.hexs 4 0 (L s p)) (· = n) q e' ∧ Rd r s q d e' w' ∧ w.grownBy w' (some r) := by
  have H0 : Aside _ := h'
  clear h'
  go_enter Tryz.func117, Tryz.ntmps117
  go_wp2
  go_loopg [3, 4] 4 (fun gh s3 s4 wr => ∃ j n q e1 : Nat, 4 - j ≤ gh ∧ j ≤ 4 ∧ s3 = .int .i32 (n : Int) ∧ s4 = .int .i64 (j : Int) ∧ n < 16 ^ j ∧ HI s p e j n q e1 ∧ Aside (Rd r s q d e1 wr ∧ w.grownBy wr (some r)))
  case atStart => exact ⟨0, 0, p, e, by omega, by omega, rfl, rfl, by simp, HI.start s p e hp, H0, grefl _ _⟩
  case round =>
    obtain ⟨j, n, q, e1, hgh, hj, rfl, rfl, hn, I, R⟩ := hrel
    by_cases hlt : j < 4
    · have d1 : decide ((j : Int) < 4) = true := by simp; omega
      have h16 : 16 ^ j ≤ 16 ^ 3 := Nat.pow_le_pow_right (by omega) (by omega)
      have hn4 : n < 4096 := by omega
      have hv : ∀ o : Option Nat, o = hexvN (nx s q e1) → o.getD 0 < 16 := fun o ho => by
        cases o with
        | none => simp
        | some v => exact hexvN_lt ho.symm
      have hv16 := hv _ rfl
      have K := asd (digit_any r s q d e1 wr R.out.1 I.1 hs)
      have I2 := I.next hlt
      clear hv
      generalize (if (hexvN (nx s q e1)).isSome then q + 1 else q) = q2 at *
      generalize (if (hexvN (nx s q e1)).isSome then e1 else fl e1 3) = e2 at *
      have hor := bits_or4 n ((hexvN (nx s q e1)).getD 0) hn4 hv16
      have hP : n * 16 + (hexvN (nx s q e1)).getD 0 < 16 ^ (j + 1) := by rw [Nat.pow_succ]; omega
      generalize (hexvN (nx s q e1)).getD 0 = v at *
      generalize hm : n * 16 + v = m at hor I2 hP
      clear hm h16 hn hv16
      have HP : Aside _ := hP
      clear hP
      go_wp2_with (go_at_call 127; refine K.out.mono ?_; rintro en w1 ⟨rfl, h1, g1⟩; have H1 := asd (And.intro h1 g1); clear h1 g1)
      go_roundg (4 - (j + 1))
      case measure => omega
      case rel => exact ⟨j + 1, m, q2, e2, Nat.le_refl _, by omega, rfl, by go_num, HP.out, I2, H1.out.1, gtrans R.out.2 H1.out.2⟩
    · obtain rfl : j = 4 := by omega
      have hn2 : n < 65536 := by simpa using hn
      clear hn
      go_wp2
      go_ret
      exact ⟨n, q, e1, rfl, hn2, I.out, R.out.1, R.out.2⟩
theorem ht_true (s : ByteArray) (q : Nat) (c : UInt8) (hq : q ≤ s.size) (hc : c ≠ 0) (h : ht s q 0 c.toNat = true) : q < s.size ∧ L s q = c :: L s (q + 1) := by
  have h1 : nx s q 0 = c.toNat := by simpa [ht] using h
  have hlt : q < s.size := by
    refine Nat.lt_of_le_of_ne hq fun hqe => ?_
    rw [nx_end s q hqe] at h1
    exact hc (UInt8.toNat_inj.1 h1.symm)
  rw [nx_at s q hlt] at h1
  exact ⟨hlt, by rw [L_cons s q hlt, UInt8.toNat_inj.1 h1]⟩
theorem ht_false (s : ByteArray) (q : Nat) (c : UInt8) (h : ht s q 0 c.toNat = false) : ∀ t, L s q ≠ c :: t := by
  intro t e
  have hlt : q < s.size := by
    refine Nat.lt_of_not_le fun hle => ?_
    rw [L_end s q hle] at e
    cases e
  rw [L_cons s q hlt] at e
  injection e with e1 _
  have : ht s q 0 c.toNat = true := by simp [ht, nx_at s q hlt, e1]
  rw [this] at h
  cases h
theorem ht_bad (s : ByteArray) (q e : Nat) (c : UInt8) (he : e ≠ 0) (hc : c ≠ 0) : ht s q e c.toNat = false := by
  refine ht_ne _ _ _ _ ?_
  rw [nx_bad s q e he]
  exact fun h => hc (UInt8.toNat_inj.1 h.symm)

/-- Two halves. -/
theorem pt_out (s : ByteArray) (p e n q e1 q1 e2 q2 e3 m q3 e4 : Nat) (O1 : Out s e (Js.hexs 4 0 (L s p)) (· = n) q e1)
    (hq1 : q1 = if ht s q e1 92 then q + 1 else q) (he2 : e2 = if ht s q e1 92 then e1 else fl e1 3)
    (hq2 : q2 = if ht s q1 e2 117 then q1 + 1 else q1) (he3 : e3 = if ht s q1 e2 117 then e2 else fl e2 3)
    (O2 : Out s e3 (Js.hexs 4 0 (L s q2)) (· = m) q3 e4) (hn : 55296 ≤ n ∧ n ≤ 57343) :
    ((56320 ≤ n ∨ m < 56320 ∨ 57343 < m) → ∀ P : Nat → Prop, Out s e (Js.uni (L s p)) P q3 (fl e4 3)) ∧
    (¬ (56320 ≤ n ∨ m < 56320 ∨ 57343 < m) → Out s e (Js.uni (L s p)) (· = 65536 + (n - 55296) * 1024 + (m - 56320)) q3 e4) := by
  obtain ⟨k2, O2⟩ := O2
  obtain ⟨k1, O1⟩ := O1
  rcases O1 with ⟨rfl, rfl, v, rfl, h1⟩ | ⟨h1, h2, h3⟩
  · have hu : Js.uni (L s p) = if 56320 ≤ v then none else match L s q with
        | 92 :: 117 :: r2 => (match Js.hexs 4 0 r2 with
          | none => none
          | some (m, r3) => if 56320 ≤ m ∧ m ≤ 57343 then some (65536 + (v - 55296) * 1024 + (m - 56320), r3) else none)
        | _ => none := by
      unfold Js.uni
      rw [h1]
      simp only []
      rw [if_neg (by omega)]
      rfl
    have bad : e4 ≠ 0 → e4 = 3 → Js.uni (L s p) = none → ((56320 ≤ v ∨ m < 56320 ∨ 57343 < m) → ∀ P : Nat → Prop, Out s 0 (Js.uni (L s p)) P q3 (fl e4 3)) ∧
        (¬ (56320 ≤ v ∨ m < 56320 ∨ 57343 < m) → Out s 0 (Js.uni (L s p)) (· = 65536 + (v - 55296) * 1024 + (m - 56320)) q3 e4) := fun a b c =>
      ⟨fun _ P => ⟨k2, .inr ⟨fl_ne _ _ (by decide), by rw [b]; rfl, .inr c⟩⟩, fun _ => ⟨k2, .inr ⟨a, by rw [b]; rfl, .inr c⟩⟩⟩
    have e4bad : e3 = 3 → e4 ≠ 0 ∧ e4 = 3 := fun h => by
      rcases O2 with ⟨h', _⟩ | ⟨a, b, _⟩
      · omega
      · exact ⟨a, by rw [b, h]; rfl⟩
    cases c1 : ht s q 0 92 with
    | false =>
      rw [c1] at hq1 he2
      simp only [Bool.false_eq_true, if_false] at hq1 he2
      have h0 : e2 = 3 := by rw [he2]; rfl
      have c2 := ht_bad s q1 e2 117 (by omega) (by decide)
      have c2' : ht s q1 e2 117 = false := c2
      rw [c2'] at he3
      have h3 : e3 = 3 := by rw [he3, h0]; rfl
      obtain ⟨a, b⟩ := e4bad h3
      refine bad a b ?_
      rw [hu]
      split
      · rfl
      · split
        · rename_i heq
          exact absurd heq (ht_false s q 92 c1 _)
        · rfl
    | true =>
      rw [c1] at hq1 he2
      simp only [if_true] at hq1 he2
      obtain ⟨l1, l2⟩ := ht_true s q 92 k1 (by decide) c1
      subst hq1 he2
      cases c2 : ht s (q + 1) 0 117 with
      | false =>
        rw [c2] at hq2 he3
        have h3 : e3 = 3 := by rw [he3]; rfl
        obtain ⟨a, b⟩ := e4bad h3
        refine bad a b ?_
        rw [hu]
        split
        · rfl
        · split
          · rename_i heq
            rw [l2] at heq
            injection heq with _ heq
            exact absurd heq (ht_false s (q + 1) 117 c2 _)
          · rfl
      | true =>
        rw [c2] at hq2 he3
        simp only [if_true] at hq2 he3
        obtain ⟨l3, l4⟩ := ht_true s (q + 1) 117 l1 (by decide) c2
        subst hq2 he3
        rw [l2, l4] at hu
        simp only [] at hu
        rcases O2 with ⟨_, rfl, v2, rfl, h5⟩ | ⟨a, b, c⟩
        · rw [h5] at hu
          try dsimp only at hu
          refine ⟨fun hb P => ⟨k2, .inr ⟨by decide, rfl, .inr ?_⟩⟩, fun hb => ⟨k2, .inl ⟨rfl, rfl, _, rfl, ?_⟩⟩⟩
          · rw [hu]
            split
            · rfl
            · rw [if_neg (by omega)]
          · rw [hu, if_neg (by omega), if_pos (by omega)]
        · have c' : Js.hexs 4 0 (L s (q + 1 + 1)) = none := by
            rcases c with c | c
            · exact absurd rfl c
            · exact c
          refine bad a (by rw [b]; rfl) ?_
          rw [hu, c']
          split <;> rfl
  · have f2 : e2 = e1 := by
      rw [he2]; split
      · rfl
      · exact fl_bad e1 3 h1
    have f3 : e3 = e1 := by
      rw [he3, f2]; split
      · rfl
      · exact fl_bad e1 3 h1
    have f4 : e4 = e1 := by
      rcases O2 with ⟨h', _⟩ | ⟨a, b, _⟩
      · omega
      · rw [b, f3]; exact fl_bad e1 3 h1
    have c : e ≠ 0 ∨ Js.uni (L s p) = none := by
      rcases h3 with h3 | h3
      · exact .inl h3
      · exact .inr (by unfold Js.uni; rw [h3])
    subst f4
    exact ⟨fun _ P => ⟨k2, .inr ⟨fl_ne _ _ (by decide), by rw [fl_bad e4 3 h1]; exact h2, c⟩⟩, fun _ => ⟨k2, .inr ⟨h1, h2, c⟩⟩⟩
theorem pt_one (s : ByteArray) (p e n q e1 : Nat) (O1 : Out s e (Js.hexs 4 0 (L s p)) (· = n) q e1) (hn : n < 55296 ∨ 57343 < n) : Out s e (Js.uni (L s p)) (· = n) q e1 := by
  obtain ⟨k1, O1⟩ := O1
  refine ⟨k1, ?_⟩
  rcases O1 with ⟨rfl, rfl, v, rfl, h1⟩ | ⟨h1, h2, h3⟩
  · exact .inl ⟨rfl, rfl, v, rfl, by unfold Js.uni; rw [h1]; simp only []; rw [if_pos hn]⟩
  · refine .inr ⟨h1, h2, ?_⟩
    rcases h3 with h3 | h3
    · exact .inl h3
    · exact .inr (by unfold Js.uni; rw [h3])
theorem Out.any {α : Type} {s : ByteArray} {e : Nat} {R : Option (α × Js.B)} {P Q : α → Prop} {q e' : Nat} (h : Out s e R P q e') (hpq : ∀ v, P v → Q v) : Out s e R Q q e' := by
  obtain ⟨h1, h2⟩ := h
  refine ⟨h1, ?_⟩
  rcases h2 with ⟨a, b, v, c, f⟩ | h2
  · exact .inl ⟨a, b, v, hpq v c, f⟩
  · exact .inr h2
end Go.Proofs.YtpeioecpilmpiaaGreatDoor
