/-
  Ytnmamaeoghgegaa: the texts S5, S4, S6, one behind the other.
-/
import Derived.Test.YtnmamaeoghgegaaG9
import Derived.Test.YtnmamaeoghgegaaG22
import Derived.WalkKit
import Derived.WalkSpells
import Derived.WalkLawsBesides
import Derived.Deep.LoopGhost
import Derived.Laws.Externs
import Derived.Below
import Derived.BigQuiet
import Derived.Deep.RegionWith
import Derived.OwnWalk
import Derived.Maps.AppendAt
import Derived.WalkSmall
/-
  Clean, Write.
-/
namespace Go.Proofs.Ytnmamaeoghgegaa
open Go.RowKit
set_option maxRecDepth 100000
/-- What Clean does. -/
def mClean (s : Dk.St) : Int × Dk.St := if Dk.has s.names DR then Dk.opRemove s DR else (0, s)
/-- What Write does. -/
def mWrite (s : Dk.St) (n : Int) : Int × Dk.St :=
  if hasB n = false then (1, s)
  else if (mClean s).1 ≠ 0 then mClean s
  else if (Dk.opAppend (mClean s).2 DR (fmS n)).1 ≠ 0 then Dk.opAppend (mClean s).2 DR (fmS n)
  else if (Dk.opSync (Dk.opAppend (mClean s).2 DR (fmS n)).2 DR).1 ≠ 0 then Dk.opSync (Dk.opAppend (mClean s).2 DR (fmS n)).2 DR
  else Dk.opRename (Dk.opSync (Dk.opAppend (mClean s).2 DR (fmS n)).2 DR).2 DR MF
theorem mw_none {s : Dk.St} {n : Int} (h : hasB n = false) : mWrite s n = (1, s) := by unfold mWrite; rw [if_pos h]
theorem mw_clean {s : Dk.St} {n : Int} (h : hasB n = true) (h1 : (mClean s).1 ≠ 0) : mWrite s n = mClean s := by unfold mWrite; rw [if_neg (by rw [h]; decide), if_pos h1]
theorem mw_app {s : Dk.St} {n : Int} (h : hasB n = true) (h1 : (mClean s).1 = 0) (h2 : (Dk.opAppend (mClean s).2 DR (fmS n)).1 ≠ 0) : mWrite s n = Dk.opAppend (mClean s).2 DR (fmS n) := by unfold mWrite; rw [if_neg (by rw [h]; decide), if_neg (fun hh => hh h1), if_pos h2]
theorem mw_sync {s : Dk.St} {n : Int} (h : hasB n = true) (h1 : (mClean s).1 = 0) (h2 : (Dk.opAppend (mClean s).2 DR (fmS n)).1 = 0) (h3 : (Dk.opSync (Dk.opAppend (mClean s).2 DR (fmS n)).2 DR).1 ≠ 0) : mWrite s n = Dk.opSync (Dk.opAppend (mClean s).2 DR (fmS n)).2 DR := by unfold mWrite; rw [if_neg (by rw [h]; decide), if_neg (fun hh => hh h1), if_neg (fun hh => hh h2), if_pos h3]
theorem mw_all {s : Dk.St} {n : Int} (h : hasB n = true) (h1 : (mClean s).1 = 0) (h2 : (Dk.opAppend (mClean s).2 DR (fmS n)).1 = 0) (h3 : (Dk.opSync (Dk.opAppend (mClean s).2 DR (fmS n)).2 DR).1 = 0) : mWrite s n = Dk.opRename (Dk.opSync (Dk.opAppend (mClean s).2 DR (fmS n)).2 DR).2 DR MF := by unfold mWrite; rw [if_neg (by rw [h]; decide), if_neg (fun hh => hh h1), if_neg (fun hh => hh h2), if_neg (fun hh => hh h3)]
/-- A disk of the program, in memory. -/
structure Dsk (B b : Nat) (d : Dk.Ds) (w : World) : Prop where
  rep : Dk.Rep w B b d
  ok : Dk.Ok d.pl
theorem Dsk.below {B b : Nat} {d : Dk.Ds} {w w' : World} (h : Dsk B b d w) (g : Below w.heap.size w w') : Dsk B b d w' := ⟨h.rep.below g, h.ok⟩
/-- What a call of the program leaves. -/
def DO (w : World) (B b : Nat) (d : Dk.Ds) (P : Int × Dk.St) (e : Ending) (w' : World) : Prop := e = .returned (.int .i64 P.1) ∧ ∃ d', Dsk B b d' w' ∧ d'.pl = P.2 ∧ Dk.Step (d.foot b) (d'.foot b) w w'
theorem do_of {w w' : World} {B b : Nat} {d : Dk.Ds} {P : Int × Dk.St} {e : Ending} (ok : Dk.Ok P.2) (h : e = .returned (.int .i64 P.1) ∧ ∃ d', Dk.Rep w' B b d' ∧ d'.pl = P.2 ∧ Dk.Step (d.foot b) (d'.foot b) w w') : DO w B b d P e w' := by
  obtain ⟨h1, d', h2, h3, h4⟩ := h
  exact ⟨h1, d', ⟨h2, by rw [h3]; exact ok⟩, h3, h4⟩
theorem dremove {w : World} {B b : Nat} {d : Dk.Ds} (h : Dsk B b d w) (n : ByteArray) : Calls Try.prog 47 #[.pointer (some ⟨b, 0, none⟩), .string n] w fun e w' => DO w B b d (Dk.opRemove d.pl n) e w' := (Dk.remove_any h.rep h.ok n).mono fun _ _ hh => do_of (h.ok.opRemove n) hh
theorem dappend {w : World} {B b : Nat} {d : Dk.Ds} (h : Dsk B b d w) (n x : ByteArray) : Calls Try.prog 15 #[.pointer (some ⟨b, 0, none⟩), .string n, .string x] w fun e w' => DO w B b d (Dk.opAppend d.pl n x) e w' := (Dk.append_any h.rep h.ok n x).mono fun _ _ hh => do_of (h.ok.opAppend n x) hh
theorem dsync {w : World} {B b : Nat} {d : Dk.Ds} (h : Dsk B b d w) (n : ByteArray) : Calls Try.prog 29 #[.pointer (some ⟨b, 0, none⟩), .string n] w fun e w' => DO w B b d (Dk.opSync d.pl n) e w' := (Dk.sync_any h.rep h.ok n).mono fun _ _ hh => do_of (h.ok.opSync n) hh
theorem drename {w : World} {B b : Nat} {d : Dk.Ds} (h : Dsk B b d w) (n t : ByteArray) : Calls Try.prog 30 #[.pointer (some ⟨b, 0, none⟩), .string n, .string t] w fun e w' => DO w B b d (Dk.opRename d.pl n t) e w' := (Dk.rename_any h.rep h.ok n t).mono fun _ _ hh => do_of (h.ok.opRename n t) hh
theorem dread {w : World} {B b : Nat} {d : Dk.Ds} (h : Dsk B b d w) (n : ByteArray) : Calls Try.prog 12 #[.pointer (some ⟨b, 0, none⟩), .string n] w fun e w' => e = .returned (.tuple #[.string (Dk.opRead d.pl n).1, .int .i64 (Dk.opRead d.pl n).2]) ∧ Below w.heap.size w w' := Dk.read_any h.rep h.ok n
theorem DO.from {w w1 w' : World} {B b : Nat} {d : Dk.Ds} {P : Int × Dk.St} {e : Ending} (hb : Below w.heap.size w w1) (h : DO w1 B b d P e w') : DO w B b d P e w' := by
  obtain ⟨h1, d', h2, h3, h4⟩ := h
  exact ⟨h1, d', h2, h3, (Dk.Step.ofBelow hb).trans h4⟩
theorem mclean_nil (w : World) : Calls Try.prog 19 #[.pointer none] w fun e w' => e = .returned (.int .i64 1) ∧ w' = w := by
  go_enter Try.func19, Try.ntmps19
  go_wp2
  go_ret
  exact ⟨rfl, rfl⟩
theorem mwrite_nil (n : Int) (w : World) : Calls Try.prog 9 #[.pointer none, .int .i64 n] w fun e w' => e = .returned (.int .i64 1) ∧ w' = w := by
  go_enter Try.func9, Try.ntmps9
  go_wp2
  go_ret
  exact ⟨rfl, rfl⟩
theorem mclean_any {w : World} {B b : Nat} {d : Dk.Ds} (h : Dsk B b d w) : Calls Try.prog 19 #[.pointer (some ⟨b, 0, none⟩)] w fun e w' => DO w B b d (mClean d.pl) e w' := by
  have k12 := dread h DR
  have H := asd h
  unfold mClean
  cases hh : Dk.has d.pl.names DR with
  | false =>
    have e2 : Dk.opRead d.pl DR = (⟨#[]⟩, 6) := by unfold Dk.opRead; rw [hh]; rfl
    rw [e2] at k12
    simp only [Bool.false_eq_true, if_false]
    clear h hh e2
    go_enter Try.func19, Try.ntmps19
    go_wp2_with (go_at_call 12; refine k12.mono ?_; rintro e w1 ⟨rfl, b1⟩)
    go_ret
    exact ⟨rfl, d, H.out.below b1, rfl, Dk.Step.ofBelow b1⟩
  | true =>
    have e2 : (Dk.opRead d.pl DR).2 = 0 := by unfold Dk.opRead; rw [hh]; rfl
    rw [e2] at k12
    simp only [if_true]
    have KR := asd (fun (u : World) (hu : Below w.heap.size w u) => (dremove (H.out.below hu) DR))
    clear h hh e2
    generalize (Dk.opRead d.pl DR).1 = T at *
    generalize Dk.opRemove d.pl DR = P at *
    go_enter Try.func19, Try.ntmps19
    go_wp2_with (first
      | (go_at_call 12; refine k12.mono ?_; rintro e w1 ⟨rfl, b1⟩)
      | (go_at_call 47; refine (KR.out _ b1).mono ?_; rintro e w2 ⟨rfl, d2, D2, p2, st2⟩; have Q := asd (DO.from b1 ⟨rfl, d2, D2, p2, st2⟩ : DO w B b d P (.returned (.int .i64 P.1)) w2); clear D2 p2 st2))
    go_ret
    exact Q.out
set_option maxHeartbeats 4000000 in
theorem mwrite_any {w : World} {B b : Nat} {d : Dk.Ds} (h : Dsk B b d w) (n : Int) : Calls Try.prog 9 #[.pointer (some ⟨b, 0, none⟩), .int .i64 n] w fun e w' => DO w B b d (mWrite d.pl n) e w' := by
  have H := asd h
  have KH := asd (fun (u : World) => has_any n u)
  have KC := asd (mclean_any h)
  have KF := asd (fun (u : World) => form_any n u)
  have W0 := asd (mw_none (s := d.pl) (n := n))
  have W1 := asd (mw_clean (s := d.pl) (n := n))
  have W2 := asd (mw_app (s := d.pl) (n := n))
  have W3 := asd (mw_sync (s := d.pl) (n := n))
  have W4 := asd (mw_all (s := d.pl) (n := n))
  clear h
  cases hb : hasB n with
  | false =>
    have EN := asd (W0.out hb)
    have HB := asd hb
    clear hb W0 W1 W2 W3 W4
    go_enter Try.func9, Try.ntmps9
    go_wp2_with (go_at_call 23; refine (KH.out _).mono ?_; rw [HB.out]; rintro e w1 ⟨rfl, rfl⟩)
    go_ret
    unfold DO
    rw [EN.out]
    exact ⟨rfl, d, H.out, rfl, Dk.Step.refl _ _⟩
  | true =>
    have HB := asd hb
    by_cases c1 : (mClean d.pl).1 = 0
    · have KA := asd (fun (d1 : Dk.Ds) (u : World) (hu : Dsk B b d1 u) (x : ByteArray) => dappend hu DR x)
      have KS := asd (fun (d1 : Dk.Ds) (u : World) (hu : Dsk B b d1 u) => dsync hu DR)
      have KR := asd (fun (d1 : Dk.Ds) (u : World) (hu : Dsk B b d1 u) => drename hu DR MF)
      by_cases c2 : (Dk.opAppend (mClean d.pl).2 DR (fmS n)).1 = 0
      · by_cases c3 : (Dk.opSync (Dk.opAppend (mClean d.pl).2 DR (fmS n)).2 DR).1 = 0
        · have EN := asd (W4.out hb c1 c2 c3)
          have C1 := asd c1
          have C2 := asd c2
          have C3 := asd c3
          clear hb c1 c2 c3 W0 W1 W2 W3 W4
          go_enter Try.func9, Try.ntmps9
          go_wp2_with (first
            | (go_at_call 23; refine (KH.out _).mono ?_; rw [HB.out]; rintro e w1 ⟨rfl, rfl⟩)
            | (go_at_call 19; refine KC.out.mono ?_; unfold DO; rw [C1.out]; rintro e w2 ⟨rfl, d2, D2, p2, st2⟩; have DD2 := asd D2; have P2 := asd p2; have S2 := asd st2; clear D2 p2 st2)
            | (go_at_call 7; refine (KF.out _).mono ?_; rintro e w3 ⟨rfl, b3⟩; have DD3 := asd (DD2.out.below b3); have S3 := asd (S2.out.trans (Dk.Step.ofBelow b3)); clear b3)
            | (go_at_call 15; refine (KA.out _ _ DD3.out _).mono ?_; unfold DO; rw [P2.out, C2.out]; rintro e w4 ⟨rfl, d4, D4, p4, st4⟩; have DD4 := asd D4; have P4 := asd p4; have S4 := asd (S3.out.trans st4); clear D4 p4 st4)
            | (go_at_call 29; refine (KS.out _ _ DD4.out).mono ?_; unfold DO; rw [P4.out, C3.out]; rintro e w5 ⟨rfl, d5, D5, p5, st5⟩; have DD5 := asd D5; have P5 := asd p5; have S5 := asd (S4.out.trans st5); clear D5 p5 st5)
            | (go_at_call 30; refine (KR.out _ _ DD5.out).mono ?_; unfold DO; rw [P5.out]; rintro e w6 ⟨rfl, d6, D6, p6, st6⟩; have DD6 := asd D6; have P6 := asd p6; have S6 := asd (S5.out.trans st6); clear D6 p6 st6))
          go_ret
          unfold DO
          rw [EN.out]
          exact ⟨rfl, d6, DD6.out, P6.out, S6.out⟩
        · have EN := asd (W3.out hb c1 c2 c3)
          have C1 := asd c1
          have C2 := asd c2
          have q1 : ((Dk.opSync (Dk.opAppend (mClean d.pl).2 DR (fmS n)).2 DR).1 != 0) = true := by rw [bne_iff_ne]; exact c3
          have q2 : ((Dk.opSync (Dk.opAppend (mClean d.pl).2 DR (fmS n)).2 DR).1 == 0) = false := by rw [beq_eq_false_iff_ne]; exact c3
          clear hb c1 c2 c3 W0 W1 W2 W3 W4 KR
          go_enter Try.func9, Try.ntmps9
          go_wp2_with (first
            | (go_at_call 23; refine (KH.out _).mono ?_; rw [HB.out]; rintro e w1 ⟨rfl, rfl⟩)
            | (go_at_call 19; refine KC.out.mono ?_; unfold DO; rw [C1.out]; rintro e w2 ⟨rfl, d2, D2, p2, st2⟩; have DD2 := asd D2; have P2 := asd p2; have S2 := asd st2; clear D2 p2 st2)
            | (go_at_call 7; refine (KF.out _).mono ?_; rintro e w3 ⟨rfl, b3⟩; have DD3 := asd (DD2.out.below b3); have S3 := asd (S2.out.trans (Dk.Step.ofBelow b3)); clear b3)
            | (go_at_call 15; refine (KA.out _ _ DD3.out _).mono ?_; unfold DO; rw [P2.out, C2.out]; rintro e w4 ⟨rfl, d4, D4, p4, st4⟩; have DD4 := asd D4; have P4 := asd p4; have S4 := asd (S3.out.trans st4); clear D4 p4 st4)
            | (go_at_call 29; refine (KS.out _ _ DD4.out).mono ?_; unfold DO; rw [P4.out]; rintro e w5 ⟨rfl, d5, D5, p5, st5⟩; have DD5 := asd D5; have P5 := asd p5; have S5 := asd (S4.out.trans st5); clear D5 p5 st5))
          go_ret
          unfold DO
          rw [EN.out]
          exact ⟨rfl, d5, DD5.out, P5.out, S5.out⟩
      · have EN := asd (W2.out hb c1 c2)
        have C1 := asd c1
        have q1 : ((Dk.opAppend (mClean d.pl).2 DR (fmS n)).1 != 0) = true := by rw [bne_iff_ne]; exact c2
        have q2 : ((Dk.opAppend (mClean d.pl).2 DR (fmS n)).1 == 0) = false := by rw [beq_eq_false_iff_ne]; exact c2
        clear hb c1 c2 W0 W1 W2 W3 W4 KR KS
        go_enter Try.func9, Try.ntmps9
        go_wp2_with (first
          | (go_at_call 23; refine (KH.out _).mono ?_; rw [HB.out]; rintro e w1 ⟨rfl, rfl⟩)
          | (go_at_call 19; refine KC.out.mono ?_; unfold DO; rw [C1.out]; rintro e w2 ⟨rfl, d2, D2, p2, st2⟩; have DD2 := asd D2; have P2 := asd p2; have S2 := asd st2; clear D2 p2 st2)
          | (go_at_call 7; refine (KF.out _).mono ?_; rintro e w3 ⟨rfl, b3⟩; have DD3 := asd (DD2.out.below b3); have S3 := asd (S2.out.trans (Dk.Step.ofBelow b3)); clear b3)
          | (go_at_call 15; refine (KA.out _ _ DD3.out _).mono ?_; unfold DO; rw [P2.out]; rintro e w4 ⟨rfl, d4, D4, p4, st4⟩; have DD4 := asd D4; have P4 := asd p4; have S4 := asd (S3.out.trans st4); clear D4 p4 st4))
        go_ret
        unfold DO
        rw [EN.out]
        exact ⟨rfl, d4, DD4.out, P4.out, S4.out⟩
    · have EN := asd (W1.out hb c1)
      have q1 : ((mClean d.pl).1 != 0) = true := by rw [bne_iff_ne]; exact c1
      have q2 : ((mClean d.pl).1 == 0) = false := by rw [beq_eq_false_iff_ne]; exact c1
      clear hb c1 W0 W1 W2 W3 W4
      go_enter Try.func9, Try.ntmps9
      go_wp2_with (first
        | (go_at_call 23; refine (KH.out _).mono ?_; rw [HB.out]; rintro e w1 ⟨rfl, rfl⟩)
        | (go_at_call 19; refine KC.out.mono ?_; unfold DO; rintro e w2 ⟨rfl, d2, D2, p2, st2⟩; have DD2 := asd D2; have P2 := asd p2; have S2 := asd st2; clear D2 p2 st2))
      go_ret
      unfold DO
      rw [EN.out]
      exact ⟨rfl, d2, DD2.out, P2.out, S2.out⟩
end Go.Proofs.Ytnmamaeoghgegaa

/-
  The document's Of.
-/
namespace Go.Proofs.Ytnmamaeoghgegaa
open Go.RowKit
set_option maxRecDepth 100000
/-- The document's Of. -/
def okB (x : ByteArray) (p : Nat × Nat) : Prop := 3 ≤ x.size ∧ p.2 ≠ 0 ∧ x.extract 0 3 = CG ∧ p.2 + 3 = x.size ∧ 2 ≤ p.1 ∧ p.1 ≤ 99999
theorem has_num (x : ByteArray) : hasB (numOf x) = true ↔ okB x (Pa.Pk.headB (x.extract 3 x.size).data.toList) := by
  unfold okB
  by_cases h : okX x
  · rw [numOf_yes h, hasB_iff]
    obtain ⟨h1, h2, h3, h4, h5⟩ := h
    constructor
    · rintro ⟨a, b⟩
      exact ⟨h1, h3, h2, h5, by omega, by omega⟩
    · rintro ⟨_, _, _, _, a, b⟩
      exact ⟨by omega, by omega⟩
  · rw [numOf_no h]
    constructor
    · intro hh
      exact absurd (hasB_iff.1 hh).1 (by decide)
    · rintro ⟨a1, a2, a3, a4, _, a6⟩
      exact absurd ⟨a1, a3, a2, a6, a4⟩ h
theorem num_is {x : ByteArray} (h : hasB (numOf x) = true) : numOf x = ((Pa.Pk.headB (x.extract 3 x.size).data.toList).1 : Int) := by
  obtain ⟨a1, a2, a3, a4, _, a6⟩ := (has_num x).1 h
  exact numOf_yes ⟨a1, a3, a2, a6, a4⟩
theorem of_bad {s : ByteArray} (h : (Fm.Fr.first s.data.toList).2.2 = 0) (hx : ¬ okB (Fm.bs (Fm.Fr.first s.data.toList).1) (Pa.Pk.headB ((Fm.bs (Fm.Fr.first s.data.toList).1).extract 3 (Fm.bs (Fm.Fr.first s.data.toList).1).size).data.toList)) : ofS s = (0, 3) := by
  refine ofS_none h ?_
  cases hb : hasB (numOf (Fm.bs (Fm.Fr.first s.data.toList).1)) with
  | false => rfl
  | true => exact absurd ((has_num _).1 hb) hx
set_option maxHeartbeats 8000000 in
theorem refOf_any (s : ByteArray) (w : World) (hs : s.size ≤ 1000000) :
    Calls Try.prog 16 #[.string s] w fun e w' => e = .returned (.tuple #[.int .i64 (ofS s).1, .int .i64 (ofS s).2]) ∧ Below w.heap.size w w' := by
  have k41 := Fm.refFirst_any s w hs
  unfold Fm.fst3 at k41
  by_cases h0 : (Fm.Fr.first s.data.toList).2.2 = 0
  · have hok := Fm.Fr.first_ok h0
    have hxs : (Fm.bs (Fm.Fr.first s.data.toList).1).size ≤ 2000 := by rw [Fm.bs_size]; exact hok.2.2
    have hle : (Fm.Fr.first s.data.toList).2.1 ≤ s.size := hok.2.1
    have M1 := asd (ofS_more h0)
    have M2 := asd (of_bad h0)
    have M3 := asd (ofS_yes h0)
    have HN := asd (has_num (Fm.bs (Fm.Fr.first s.data.toList).1))
    have NI := asd (num_is (x := Fm.bs (Fm.Fr.first s.data.toList).1))
    rw [h0] at k41
    clear h0 hok
    generalize Fm.bs (Fm.Fr.first s.data.toList).1 = x at *
    generalize (Fm.Fr.first s.data.toList).2.1 = k at *
    by_cases h1 : k < s.size
    · have EN := asd (M1.out h1)
      have q1 : ((k : Int) != (s.size : Int)) = true := by rw [bne_iff_ne]; omega
      have q2 : ((k : Int) == (s.size : Int)) = false := by rw [beq_eq_false_iff_ne]; omega
      have q3 : ¬ k = s.size := by omega
      clear M1 M2 M3 HN NI
      go_enter Try.func16, Try.ntmps16
      go_wp2_with (go_at_call 41; refine k41.mono ?_; rintro e w1 ⟨rfl, b1⟩)
      go_ret2
      rw [EN.out]
      exact ⟨rfl, b1⟩
    · obtain rfl : k = s.size := by omega
      have q1 : ((s.size : Int) != (s.size : Int)) = false := by unfold bne; rw [beq_self_eq_true]; rfl
      by_cases h2 : x.size < 3
      · have EN := asd (M2.out (fun hh => by have := hh.1; omega))
        have q2 : decide (x.size < 3) = true := decide_eq_true h2
        clear M1 M2 M3 HN NI h1
        go_enter Try.func16, Try.ntmps16
        go_wp2_with (go_at_call 41; refine k41.mono ?_; rintro e w1 ⟨rfl, b1⟩)
        go_ret2
        rw [EN.out]
        exact ⟨rfl, b1⟩
      · have q2 : decide (x.size < 3) = false := decide_eq_false h2
        have n3 : 3 ≤ x.size := by omega
        have K42 := asd (fun (u : World) (p : Nat × Nat) (HP : Hid (p = Pa.Pk.headB (x.extract 3 x.size).data.toList)) => Pa.first_any (x.extract 3 x.size) u (by rw [ext_size]; omega) p HP)
        have hml : (Pa.Pk.headB (x.extract 3 x.size).data.toList).2 ≤ x.size - 3 := by
          have := (Pa.Pk.headB_le (x.extract 3 x.size).data.toList).1
          rw [← ext_size]
          exact this
        generalize hp : Pa.Pk.headB (x.extract 3 x.size).data.toList = p at *
        have K43 := asd (fun (u : World) => K42.out u p rfl)
        clear K42 hp
        obtain ⟨v, m⟩ := p
        simp only at M2 HN NI K43 hml
        have hm2 : m ≤ 2000 := by omega
        clear hml
        have l3 : (3 : Int) ≤ (x.size : Int) := by omega
        have q2i : decide ((x.size : Int) < 3) = false := decide_eq_false (by omega)
        by_cases c3 : m = 0
        · have EN := asd (M2.out (fun hh => hh.2.1 c3))
          subst c3
          clear M1 M2 M3 HN NI h1
          go_enter Try.func16, Try.ntmps16
          go_wp2_with (first
            | (go_at_call 41; refine k41.mono ?_; rintro e w1 ⟨rfl, b1⟩)
            | (go_at_call 42; refine (K43.out _).mono ?_; rintro e w2 ⟨rfl, b2⟩))
          go_ret2
          rw [EN.out]
          exact ⟨rfl, b1.trans (b2.mono b1.size)⟩
        have r3 : ((m : Int) == 0) = false := by rw [beq_eq_false_iff_ne]; omega
        have r3' : ¬ m = 0 := c3
        by_cases c4 : x.extract 0 3 = CG
        case neg =>
          have EN := asd (M2.out (fun hh => c4 hh.2.2.1))
          have t2 : ((x.extract 0 3).toList == [99, 103, 49]) = false := by rw [beq_eq_false_iff_ne, ← cg_list]; exact toList_ne c4
          clear M1 M2 M3 HN NI h1 c4
          go_enter Try.func16, Try.ntmps16
          go_wp2_with (first
            | (go_at_call 41; refine k41.mono ?_; rintro e w1 ⟨rfl, b1⟩)
            | (go_at_call 42; refine (K43.out _).mono ?_; rintro e w2 ⟨rfl, b2⟩))
          go_ret2
          rw [EN.out]
          exact ⟨rfl, b1.trans (b2.mono b1.size)⟩
        have t2 : ((x.extract 0 3).toList == [99, 103, 49]) = true := by rw [c4, show CG.toList = [99, 103, 49] from cg_list]; rfl
        by_cases c5 : m + 3 = x.size
        case neg =>
          have EN := asd (M2.out (fun hh => c5 hh.2.2.2.1))
          have r5 : ((m : Int) + 3 != (x.size : Int)) = true := by rw [bne_iff_ne]; omega
          have r5' : ((m : Int) + 3 == (x.size : Int)) = false := by rw [beq_eq_false_iff_ne]; omega
          clear M1 M2 M3 HN NI h1 c4
          go_enter Try.func16, Try.ntmps16
          go_wp2_with (first
            | (go_at_call 41; refine k41.mono ?_; rintro e w1 ⟨rfl, b1⟩)
            | (go_at_call 42; refine (K43.out _).mono ?_; rintro e w2 ⟨rfl, b2⟩))
          go_ret2
          rw [EN.out]
          exact ⟨rfl, b1.trans (b2.mono b1.size)⟩
        have r5 : ((m : Int) + 3 != (x.size : Int)) = false := by
          rw [show (m : Int) + 3 = (x.size : Int) by omega]
          unfold bne
          rw [beq_self_eq_true]
          rfl
        have r5' : ((m : Int) + 3 == (x.size : Int)) = true := by rw [beq_iff_eq]; omega
        by_cases c6 : v < 2
        · have EN := asd (M2.out (fun hh => by have := hh.2.2.2.2.1; omega))
          have r6 : decide (v < 2) = true := decide_eq_true c6
          clear M1 M2 M3 HN NI h1 c4 c5
          go_enter Try.func16, Try.ntmps16
          go_wp2_with (first
            | (go_at_call 41; refine k41.mono ?_; rintro e w1 ⟨rfl, b1⟩)
            | (go_at_call 42; refine (K43.out _).mono ?_; rintro e w2 ⟨rfl, b2⟩))
          go_ret2
          rw [EN.out]
          exact ⟨rfl, b1.trans (b2.mono b1.size)⟩
        have r6 : decide (v < 2) = false := decide_eq_false c6
        by_cases c7 : 99999 < v
        · have EN := asd (M2.out (fun hh => by have := hh.2.2.2.2.2; omega))
          have r7 : decide (99999 < v) = true := decide_eq_true c7
          clear M1 M2 M3 HN NI h1 c4 c5
          go_enter Try.func16, Try.ntmps16
          go_wp2_with (first
            | (go_at_call 41; refine k41.mono ?_; rintro e w1 ⟨rfl, b1⟩)
            | (go_at_call 42; refine (K43.out _).mono ?_; rintro e w2 ⟨rfl, b2⟩))
          go_ret2
          rw [EN.out]
          exact ⟨rfl, b1.trans (b2.mono b1.size)⟩
        have r7 : decide (99999 < v) = false := decide_eq_false c7
        have hb := HN.out.2 ⟨n3, c3, c4, c5, by omega, by omega⟩
        have EN : Aside (ofS s = ((v : Int), 0)) := by
          have e1 := M3.out h1 hb
          rw [NI.out hb] at e1
          exact e1
        clear M1 M2 M3 HN NI h1 c4 c5 hb
        go_enter Try.func16, Try.ntmps16
        go_wp2_with (first
          | (go_at_call 41; refine k41.mono ?_; rintro e w1 ⟨rfl, b1⟩)
          | (go_at_call 42; refine (K43.out _).mono ?_; rintro e w2 ⟨rfl, b2⟩))
        go_ret2
        rw [EN.out]
        exact ⟨rfl, b1.trans (b2.mono b1.size)⟩
  · have EN := asd (ofS_bad h0)
    have q1 : (((Fm.Fr.first s.data.toList).2.2 : Int) != 0) = true := by rw [bne_iff_ne]; omega
    have q2 : (((Fm.Fr.first s.data.toList).2.2 : Int) == 0) = false := by rw [beq_eq_false_iff_ne]; omega
    have q3 : ¬ ((Fm.Fr.first s.data.toList).2.2 : Int) = 0 := by omega
    clear h0
    generalize Fm.bs (Fm.Fr.first s.data.toList).1 = x at *
    generalize (Fm.Fr.first s.data.toList).2.1 = k at *
    generalize (Fm.Fr.first s.data.toList).2.2 = E at *
    go_enter Try.func16, Try.ntmps16
    go_wp2_with (go_at_call 41; refine k41.mono ?_; rintro e w1 ⟨rfl, b1⟩)
    go_ret2
    rw [EN.out]
    exact ⟨rfl, b1⟩
end Go.Proofs.Ytnmamaeoghgegaa

/-
  The document's Clean, Write.
-/
namespace Go.Proofs.Ytnmamaeoghgegaa
open Go.RowKit
set_option maxRecDepth 100000
/-- The document's disk in memory, alike to a plain one. -/
structure Rb (w : World) (B c : Nat) (s : Dk.St) (r : Dk.Rs) : Prop where
  rrep : Dk.RRep w B c r
  ok : Dk.Ok s
  rel : ∃ T, Dk.Rel s r.pl T
theorem Rb.below {w w' : World} {B c : Nat} {s : Dk.St} {r : Dk.Rs} (h : Rb w B c s r) (hb : Below w.heap.size w w') : Rb w' B c s r := ⟨h.rrep.below hb, h.ok, h.rel⟩
theorem Rb.rok {w : World} {B c : Nat} {s : Dk.St} {r : Dk.Rs} (h : Rb w B c s r) (hc : r.count ≤ 1000000) : Dk.ROk r.pl := by
  obtain ⟨T, hT⟩ := h.rel
  exact hT.ok h.ok hc
theorem Rb.rise {w : World} {B c : Nat} {s : Dk.St} {r : Dk.Rs} (h : Rb w B c s r) : Dk.Rising r.names := by
  obtain ⟨T, hT⟩ := h.rel
  rw [← Dk.rnames_pl, hT.nm]
  exact h.ok.rising
theorem Rb.nm {w : World} {B c : Nat} {s : Dk.St} {r : Dk.Rs} (h : Rb w B c s r) : r.names = s.names := by
  obtain ⟨T, hT⟩ := h.rel
  rw [← Dk.rnames_pl, hT.nm]
theorem rb_of {w : World} {B b c : Nat} {d : Dk.Ds} {r : Dk.Rs} (h : Dk.Both w B b c d r) : Rb w B c d.pl r := ⟨h.rrep, h.ok, h.rel⟩
/-- What a call of the document leaves. -/
def RO (w : World) (B c : Nat) (r : Dk.Rs) (k : Nat) (P : Int × Dk.St) (e : Ending) (w' : World) : Prop := e = .returned (.int .i64 P.1) ∧ ∃ r', Rb w' B c P.2 r' ∧ r'.count ≤ r.count + k ∧ Dk.Step (r.foot c) (r'.foot c) w w'
theorem RO.from {w w1 w' : World} {B c : Nat} {r : Dk.Rs} {k : Nat} {P : Int × Dk.St} {e : Ending} (hb : Below w.heap.size w w1) (h : RO w1 B c r k P e w') : RO w B c r k P e w' := by
  obtain ⟨h1, d', h2, h3, h4⟩ := h
  exact ⟨h1, d', h2, h3, (Dk.Step.ofBelow hb).trans h4⟩
theorem rsync {w : World} {B c : Nat} {s : Dk.St} {r : Dk.Rs} (h : Rb w B c s r) (hc : r.count ≤ 1000000) (n : ByteArray) :
    Calls Try.prog 45 #[.pointer (some ⟨c, 0, none⟩), .string n] w fun e w' => RO w B c r 0 (Dk.opSync s n) e w' := by
  obtain ⟨T, hT⟩ := h.rel
  obtain ⟨e1, T', e2, e3⟩ := hT.sync h.ok n
  refine (Dk.rsync_any h.rrep (h.rok hc) n).mono ?_
  rintro e w' ⟨h1, r', h2, h3, h4⟩
  rw [e1] at h1
  rw [← h3] at e2 e3
  exact ⟨h1, r', ⟨h2, h.ok.opSync n, ⟨T', e2⟩⟩, Nat.le_of_eq e3, h4⟩
theorem rremove {w : World} {B c : Nat} {s : Dk.St} {r : Dk.Rs} (h : Rb w B c s r) (hc : r.count ≤ 1000000) (n : ByteArray) :
    Calls Try.prog 49 #[.pointer (some ⟨c, 0, none⟩), .string n] w fun e w' => RO w B c r 0 (Dk.opRemove s n) e w' := by
  obtain ⟨T, hT⟩ := h.rel
  obtain ⟨e1, T', e2, e3⟩ := hT.remove h.ok n
  refine (Dk.rremove_any h.rrep (h.rok hc) n).mono ?_
  rintro e w' ⟨h1, r', h2, h3, h4⟩
  rw [e1] at h1
  rw [← h3] at e2 e3
  exact ⟨h1, r', ⟨h2, h.ok.opRemove n, ⟨T', e2⟩⟩, Nat.le_of_eq e3, h4⟩
theorem rrename {w : World} {B c : Nat} {s : Dk.St} {r : Dk.Rs} (h : Rb w B c s r) (hc : r.count ≤ 1000000) (n t : ByteArray) (ht : t.size ≤ 1000) :
    Calls Try.prog 46 #[.pointer (some ⟨c, 0, none⟩), .string n, .string t] w fun e w' => RO w B c r 0 (Dk.opRename s n t) e w' := by
  obtain ⟨T, hT⟩ := h.rel
  obtain ⟨e1, T', e2, e3⟩ := hT.rename h.ok n t
  refine (Dk.rrename_any h.rrep (h.rok hc) h.rise n t ht).mono ?_
  rintro e w' ⟨h1, r', h2, h3, h4⟩
  rw [e1] at h1
  rw [← h3] at e2 e3
  exact ⟨h1, r', ⟨h2, h.ok.opRename n t, ⟨T', e2⟩⟩, Nat.le_of_eq e3, h4⟩
theorem rappend {w : World} {B c : Nat} {s : Dk.St} {r : Dk.Rs} (h : Rb w B c s r) (hc : r.count ≤ 900000) (n x : ByteArray) (hn : n.size ≤ 1000) (hx : x.size ≤ 30) :
    Calls Try.prog 44 #[.pointer (some ⟨c, 0, none⟩), .string n, .string x] w fun e w' => RO w B c r 30 (Dk.opAppend s n x) e w' := by
  obtain ⟨T, hT⟩ := h.rel
  obtain ⟨e1, T', e2, e3⟩ := hT.append h.ok n x
  refine (Dk.rappend_any h.rrep (h.rok (by omega)) h.rise n x hn (by omega) hc).mono ?_
  rintro e w' ⟨h1, r', h2, h3, h4⟩
  rw [e1] at h1
  rw [← h3] at e2 e3
  exact ⟨h1, r', ⟨h2, h.ok.opAppend n x, ⟨T', e2⟩⟩, Nat.le_trans e3 (Nat.add_le_add_left hx _), h4⟩
theorem rclean_any {w : World} {B c : Nat} {s : Dk.St} {r : Dk.Rs} (h : Rb w B c s r) (hc : r.count ≤ 1000000) : Calls Try.prog 20 #[.pointer (some ⟨c, 0, none⟩)] w fun e w' => RO w B c r 0 (mClean s) e w' := by
  have H := asd h
  have k48 := Dk.at_any h.rrep (by have := (h.rok hc).dfew; omega) DR
  rw [h.nm] at k48
  unfold mClean
  cases hh : Dk.has s.names DR with
  | false =>
    have e1 : Dk.atOf s.names DR = -1 := by unfold Dk.atOf; rw [hh]; rfl
    rw [e1] at k48
    simp only [Bool.false_eq_true, if_false]
    clear h hh e1
    go_enter Try.func20, Try.ntmps20
    go_wp2_with (go_at_call 48; refine k48.mono ?_; rintro e w1 ⟨rfl, rfl⟩)
    go_ret
    exact ⟨rfl, r, H.out, Nat.le_refl _, Dk.Step.refl _ _⟩
  | true =>
    have e1 : 0 ≤ Dk.atOf s.names DR := by
      unfold Dk.atOf
      rw [hh, if_pos rfl]
      omega
    have q1 : decide (Dk.atOf s.names DR < 0) = false := decide_eq_false (by omega)
    simp only [if_true]
    have KR := asd (rremove h hc DR)
    clear h hh
    generalize Dk.atOf s.names DR = A at *
    generalize Dk.opRemove s DR = P at *
    go_enter Try.func20, Try.ntmps20
    go_wp2_with (first
      | (go_at_call 48; refine k48.mono ?_; rintro e w1 ⟨rfl, rfl⟩)
      | (go_at_call 49; refine KR.out.mono ?_; rintro e w2 ⟨rfl, r2, D2, n2, st2⟩; have Q : Aside (RO w1 B c r 0 P (.returned (.int .i64 P.1)) w2) := ⟨rfl, r2, D2, n2, st2⟩; clear D2 n2 st2))
    go_ret
    exact Q.out
theorem fm_some {n : Int} (h : hasB n = true) : ((fmS n).toList == []) = false ∧ (fmS n).toList.isEmpty = false := by
  have := fmS_size h
  have e : (fmS n).toList.isEmpty = false := by rw [empty_size, decide_eq_false (by omega)]
  refine ⟨?_, e⟩
  cases hx : (fmS n).toList with
  | nil => rw [hx] at e; cases e
  | cons a b => rfl
set_option maxHeartbeats 4000000 in
theorem rwrite_any {w : World} {B c : Nat} {s : Dk.St} {r : Dk.Rs} (h : Rb w B c s r) (hc : r.count ≤ 800000) (n : Int) : Calls Try.prog 18 #[.pointer (some ⟨c, 0, none⟩), .int .i64 n] w fun e w' => RO w B c r 30 (mWrite s n) e w' := by
  have H := asd h
  have HC := asd hc
  have KF := asd (refForm_any n w)
  have W0 := asd (mw_none (s := s) (n := n))
  have W1 := asd (mw_clean (s := s) (n := n))
  have W2 := asd (mw_app (s := s) (n := n))
  have W3 := asd (mw_sync (s := s) (n := n))
  have W4 := asd (mw_all (s := s) (n := n))
  clear h
  cases hb : hasB n with
  | false =>
    have EN := asd (W0.out hb)
    have e0 : fmS n = ⟨#[]⟩ := by unfold fmS; rw [hb]; rfl
    rw [e0] at KF
    clear hb W0 W1 W2 W3 W4 e0
    go_enter Try.func18, Try.ntmps18
    go_wp2_with (go_at_call 13; refine KF.out.mono ?_; rintro e w1 ⟨rfl, b1⟩)
    go_ret
    unfold RO
    rw [EN.out]
    exact ⟨rfl, r, H.out.below b1, by omega, Dk.Step.ofBelow b1⟩
  | true =>
    obtain ⟨f1, f2⟩ := fm_some hb
    have hz := (fmS_size hb).2
    have KC := asd (fun (u : World) (hu : Below w.heap.size w u) => rclean_any (H.out.below hu) (by omega))
    have KA := asd (fun (s1 : Dk.St) (r1 : Dk.Rs) (u : World) (hu : Rb u B c s1 r1) (hc1 : r1.count ≤ r.count) => rappend hu (by omega) DR (fmS n) (by decide) (by omega))
    have KS := asd (fun (s1 : Dk.St) (r1 : Dk.Rs) (u : World) (hu : Rb u B c s1 r1) (hc1 : r1.count ≤ r.count + 30) => rsync hu (by omega) DR)
    have KR := asd (fun (s1 : Dk.St) (r1 : Dk.Rs) (u : World) (hu : Rb u B c s1 r1) (hc1 : r1.count ≤ r.count + 30) => rrename hu (by omega) DR MF (by decide))
    clear hz
    generalize fmS n = F at *
    by_cases c1 : (mClean s).1 = 0
    · by_cases c2 : (Dk.opAppend (mClean s).2 DR F).1 = 0
      · by_cases c3 : (Dk.opSync (Dk.opAppend (mClean s).2 DR F).2 DR).1 = 0
        · have EN := asd (W4.out hb c1 c2 c3)
          have C1 := asd c1
          have C2 := asd c2
          have C3 := asd c3
          clear hb c1 c2 c3 W0 W1 W2 W3 W4
          go_enter Try.func18, Try.ntmps18
          go_wp2_with (first
            | (go_at_call 13; refine KF.out.mono ?_; rintro e w1 ⟨rfl, b1⟩; have B1 := asd b1; clear b1)
            | (go_at_call 20; refine (KC.out _ B1.out).mono ?_; unfold RO; rw [C1.out]; rintro e w2 ⟨rfl, r2, D2, p2, st2⟩; have DD2 := asd D2; have P2 := asd p2; have S2 := asd ((Dk.Step.ofBelow B1.out).trans st2); clear D2 p2 st2)
            | (go_at_call 44; refine (KA.out _ _ _ DD2.out P2.out).mono ?_; unfold RO; rw [C2.out]; rintro e w4 ⟨rfl, r4, D4, p4, st4⟩; have DD4 := asd D4; have P4 := asd (Nat.le_trans p4 (Nat.add_le_add_right P2.out _)); have S4 := asd (S2.out.trans st4); clear D4 p4 st4)
            | (go_at_call 45; refine (KS.out _ _ _ DD4.out P4.out).mono ?_; unfold RO; rw [C3.out]; rintro e w5 ⟨rfl, r5, D5, p5, st5⟩; have DD5 := asd D5; have P5 := asd (Nat.le_trans p5 P4.out); have S5 := asd (S4.out.trans st5); clear D5 p5 st5)
            | (go_at_call 46; refine (KR.out _ _ _ DD5.out P5.out).mono ?_; unfold RO; rintro e w6 ⟨rfl, r6, D6, p6, st6⟩; have DD6 := asd D6; have P6 := asd (Nat.le_trans p6 P5.out); have S6 := asd (S5.out.trans st6); clear D6 p6 st6))
          go_ret
          unfold RO
          rw [EN.out]
          exact ⟨rfl, r6, DD6.out, P6.out, S6.out⟩
        · have EN := asd (W3.out hb c1 c2 c3)
          have C1 := asd c1
          have C2 := asd c2
          have q1 : ((Dk.opSync (Dk.opAppend (mClean s).2 DR F).2 DR).1 == 0) = false := by rw [beq_eq_false_iff_ne]; exact c3
          clear hb c1 c2 W0 W1 W2 W3 W4 KR
          go_enter Try.func18, Try.ntmps18
          go_wp2_with (first
            | (go_at_call 13; refine KF.out.mono ?_; rintro e w1 ⟨rfl, b1⟩; have B1 := asd b1; clear b1)
            | (go_at_call 20; refine (KC.out _ B1.out).mono ?_; unfold RO; rw [C1.out]; rintro e w2 ⟨rfl, r2, D2, p2, st2⟩; have DD2 := asd D2; have P2 := asd p2; have S2 := asd ((Dk.Step.ofBelow B1.out).trans st2); clear D2 p2 st2)
            | (go_at_call 44; refine (KA.out _ _ _ DD2.out P2.out).mono ?_; unfold RO; rw [C2.out]; rintro e w4 ⟨rfl, r4, D4, p4, st4⟩; have DD4 := asd D4; have P4 := asd (Nat.le_trans p4 (Nat.add_le_add_right P2.out _)); have S4 := asd (S2.out.trans st4); clear D4 p4 st4)
            | (go_at_call 45; refine (KS.out _ _ _ DD4.out P4.out).mono ?_; unfold RO; rintro e w5 ⟨rfl, r5, D5, p5, st5⟩; have DD5 := asd D5; have P5 := asd (Nat.le_trans p5 P4.out); have S5 := asd (S4.out.trans st5); clear D5 p5 st5))
          go_ret
          unfold RO
          rw [EN.out]
          exact ⟨rfl, r5, DD5.out, P5.out, S5.out⟩
      · have EN := asd (W2.out hb c1 c2)
        have C1 := asd c1
        have q1 : ((Dk.opAppend (mClean s).2 DR F).1 == 0) = false := by rw [beq_eq_false_iff_ne]; exact c2
        clear hb c1 W0 W1 W2 W3 W4 KR KS
        go_enter Try.func18, Try.ntmps18
        go_wp2_with (first
          | (go_at_call 13; refine KF.out.mono ?_; rintro e w1 ⟨rfl, b1⟩; have B1 := asd b1; clear b1)
          | (go_at_call 20; refine (KC.out _ B1.out).mono ?_; unfold RO; rw [C1.out]; rintro e w2 ⟨rfl, r2, D2, p2, st2⟩; have DD2 := asd D2; have P2 := asd p2; have S2 := asd ((Dk.Step.ofBelow B1.out).trans st2); clear D2 p2 st2)
          | (go_at_call 44; refine (KA.out _ _ _ DD2.out P2.out).mono ?_; unfold RO; rintro e w4 ⟨rfl, r4, D4, p4, st4⟩; have DD4 := asd D4; have P4 := asd (Nat.le_trans p4 (Nat.add_le_add_right P2.out _)); have S4 := asd (S2.out.trans st4); clear D4 p4 st4))
        go_ret
        unfold RO
        rw [EN.out]
        exact ⟨rfl, r4, DD4.out, P4.out, S4.out⟩
    · have EN := asd (W1.out hb c1)
      have q1 : ((mClean s).1 == 0) = false := by rw [beq_eq_false_iff_ne]; exact c1
      clear hb W0 W1 W2 W3 W4 KA KS KR
      go_enter Try.func18, Try.ntmps18
      go_wp2_with (first
        | (go_at_call 13; refine KF.out.mono ?_; rintro e w1 ⟨rfl, b1⟩; have B1 := asd b1; clear b1)
        | (go_at_call 20; refine (KC.out _ B1.out).mono ?_; unfold RO; rintro e w2 ⟨rfl, r2, D2, p2, st2⟩; have DD2 := asd D2; have P2 := asd p2; have S2 := asd ((Dk.Step.ofBelow B1.out).trans st2); clear D2 p2 st2))
      go_ret
      unfold RO
      rw [EN.out]
      exact ⟨rfl, r2, DD2.out, by have := P2.out; omega, S2.out⟩
end Go.Proofs.Ytnmamaeoghgegaa
