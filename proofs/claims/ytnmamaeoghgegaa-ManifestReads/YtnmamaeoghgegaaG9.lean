/-
  Ytnmamaeoghgegaa: the texts S3, one behind the other.
-/
import Derived.Test.YtnmamaeoghgegaaG5
import Derived.Test.YtnmamaeoghgegaaG8
import Derived.WalkKit
import Derived.WalkSpells
import Derived.WalkLawsBesides
import Derived.Deep.LoopGhost
import Derived.Laws.Externs
import Derived.Below
import Derived.BigQuiet
import Derived.Deep.RegionWith
import Derived.OwnWalk
import Derived.Maps.AppendAt
import Derived.WalkSmall
/-
  Read.
-/
namespace Go.Proofs.Ytnmamaeoghgegaa
open Go.RowKit
set_option maxRecDepth 100000
open Pa (At Upd)
/-- What a file's bytes tell: the number, and 0, or why there is none. -/
noncomputable def ofS (s : ByteArray) : Int × Int :=
  if (Fm.Fr.first s.data.toList).2.2 ≠ 0 then (0, (((Fm.Fr.first s.data.toList).2.2 : Nat) : Int))
  else if (Fm.Fr.first s.data.toList).2.1 < s.size ∨ hasB (numOf (Fm.bs (Fm.Fr.first s.data.toList).1)) = false then (0, 3)
  else (numOf (Fm.bs (Fm.Fr.first s.data.toList).1), 0)
theorem ofS_bad {s : ByteArray} (h : (Fm.Fr.first s.data.toList).2.2 ≠ 0) : ofS s = (0, (((Fm.Fr.first s.data.toList).2.2 : Nat) : Int)) := by unfold ofS; rw [if_pos h]
theorem ofS_more {s : ByteArray} (h : (Fm.Fr.first s.data.toList).2.2 = 0) (h1 : (Fm.Fr.first s.data.toList).2.1 < s.size) : ofS s = (0, 3) := by unfold ofS; rw [if_neg (fun hh => hh h), if_pos (.inl h1)]
theorem ofS_none {s : ByteArray} (h : (Fm.Fr.first s.data.toList).2.2 = 0) (h2 : hasB (numOf (Fm.bs (Fm.Fr.first s.data.toList).1)) = false) : ofS s = (0, 3) := by unfold ofS; rw [if_neg (fun hh => hh h), if_pos (.inr h2)]
theorem ofS_yes {s : ByteArray} (h : (Fm.Fr.first s.data.toList).2.2 = 0) (h1 : ¬ (Fm.Fr.first s.data.toList).2.1 < s.size) (h2 : hasB (numOf (Fm.bs (Fm.Fr.first s.data.toList).1)) = true) : ofS s = (numOf (Fm.bs (Fm.Fr.first s.data.toList).1), 0) := by
  unfold ofS
  rw [if_neg (fun hh => hh h), if_neg (fun hh => by
    rcases hh with hh | hh
    · exact h1 hh
    · rw [h2] at hh; cases hh)]
/-- What Read answers. -/
noncomputable def mRd (s : Dk.St) : Int × Int := if Dk.has s.names MF then ofS (Dk.opRead s MF).1 else (1, 0)
theorem read_size {d : Dk.Ds} (ok : Dk.Ok d.pl) (n : ByteArray) : (Dk.opRead d.pl n).1.size ≤ 60000 := by
  unfold Dk.opRead
  split
  · rename_i hh
    obtain ⟨f, hf, hfn, hm⟩ := Dk.has_get ok.rising hh
    have := ok.bytes hm
    show ((d.pl.bytesOf n).toArray).size ≤ 60000
    unfold Dk.St.bytesOf
    rw [hf]
    simpa using this
  · show 0 ≤ 60000
    omega
set_option maxHeartbeats 4000000 in
theorem mread_any {w : World} {B b : Nat} {d : Dk.Ds} (h : Dk.Rep w B b d) (ok : Dk.Ok d.pl) :
    Calls Try.prog 10 #[.pointer (some ⟨b, 0, none⟩)] w fun e w' => e = .returned (.tuple #[.int .i64 (mRd d.pl).1, .int .i64 (mRd d.pl).2]) ∧ Below w.heap.size w w' := by
  have k12 := Dk.read_any h ok MF
  unfold mRd
  cases hh : Dk.has d.pl.names MF with
  | false =>
    have e2 : Dk.opRead d.pl MF = (⟨#[]⟩, 6) := by unfold Dk.opRead; rw [hh]; rfl
    rw [e2] at k12
    simp only [Bool.false_eq_true, if_false]
    clear h hh e2
    go_enter Try.func10, Try.ntmps10
    go_wp2_with (go_at_call 12; refine k12.mono ?_; rintro e w1 ⟨rfl, b1⟩)
    go_ret2
    exact ⟨rfl, b1⟩
  | true =>
    have e2 : (Dk.opRead d.pl MF).2 = 0 := by unfold Dk.opRead; rw [hh]; rfl
    have hz := read_size ok MF
    rw [e2] at k12
    simp only [if_true]
    clear h hh e2
    generalize (Dk.opRead d.pl MF).1 = s at *
    have K31 := asd (fun (u : World) => Fm.first_any s u (by omega))
    have KH := asd (fun (n : Int) (u : World) => has_any n u)
    unfold Fm.fst3 at K31
    by_cases h0 : (Fm.Fr.first s.data.toList).2.2 = 0
    · have hok := Fm.Fr.first_ok h0
      have hxs : (Fm.bs (Fm.Fr.first s.data.toList).1).size ≤ 2000 := by rw [Fm.bs_size]; exact hok.2.2
      have K32 := asd (fun (u : World) => number_any (Fm.bs (Fm.Fr.first s.data.toList).1) u (by omega))
      have M1 := asd (ofS_more h0)
      have M2 := asd (ofS_none h0)
      have M3 := asd (ofS_yes h0)
      have hle : (Fm.Fr.first s.data.toList).2.1 ≤ s.size := hok.2.1
      rw [h0] at K31
      clear h0 hok
      generalize Fm.bs (Fm.Fr.first s.data.toList).1 = x at *
      generalize (Fm.Fr.first s.data.toList).2.1 = k at *
      generalize numOf x = n at *
      by_cases h1 : k < s.size
      · have EN := asd (M1.out h1)
        have q1 : decide (k < s.size) = true := decide_eq_true h1
        clear M1 M2 M3
        go_enter Try.func10, Try.ntmps10
        go_wp2_with (first
          | (go_at_call 12; refine k12.mono ?_; rintro e w1 ⟨rfl, b1⟩)
          | (go_at_call 31; refine (K31.out _).mono ?_; rintro e w2 ⟨rfl, b2⟩; have bb := b1.trans (b2.mono b1.size))
          | (go_at_call 32; refine (K32.out _).mono ?_; rintro e w3 ⟨rfl, b3⟩; have bc := bb.trans (b3.mono bb.size)))
        go_ret2
        rw [EN.out]
        exact ⟨rfl, bc⟩
      · have q1 : decide (k < s.size) = false := decide_eq_false h1
        cases hb : hasB n with
        | false =>
          have EN := asd (M2.out hb)
          have HB := asd hb
          clear M1 M2 M3 hb
          go_enter Try.func10, Try.ntmps10
          go_wp2_with (first
            | (go_at_call 12; refine k12.mono ?_; rintro e w1 ⟨rfl, b1⟩)
            | (go_at_call 31; refine (K31.out _).mono ?_; rintro e w2 ⟨rfl, b2⟩; have bb := b1.trans (b2.mono b1.size))
            | (go_at_call 32; refine (K32.out _).mono ?_; rintro e w3 ⟨rfl, b3⟩; have bc := bb.trans (b3.mono bb.size))
            | (go_at_call 23; refine (KH.out _ _).mono ?_; rw [HB.out]; rintro e w4 ⟨rfl, rfl⟩))
          go_ret2
          rw [EN.out]
          exact ⟨rfl, bc⟩
        | true =>
          have EN := asd (M3.out h1 hb)
          have HB := asd hb
          clear M1 M2 M3 hb
          go_enter Try.func10, Try.ntmps10
          go_wp2_with (first
            | (go_at_call 12; refine k12.mono ?_; rintro e w1 ⟨rfl, b1⟩)
            | (go_at_call 31; refine (K31.out _).mono ?_; rintro e w2 ⟨rfl, b2⟩; have bb := b1.trans (b2.mono b1.size))
            | (go_at_call 32; refine (K32.out _).mono ?_; rintro e w3 ⟨rfl, b3⟩; have bc := bb.trans (b3.mono bb.size))
            | (go_at_call 23; refine (KH.out _ _).mono ?_; rw [HB.out]; rintro e w4 ⟨rfl, rfl⟩))
          go_ret2
          rw [EN.out]
          exact ⟨rfl, bc⟩
    · have EN := asd (ofS_bad h0)
      have q1 : (((Fm.Fr.first s.data.toList).2.2 : Int) != 0) = true := by rw [bne_iff_ne]; omega
      have q2 : (((Fm.Fr.first s.data.toList).2.2 : Int) == 0) = false := by rw [beq_eq_false_iff_ne]; omega
      have q3 : ¬ ((Fm.Fr.first s.data.toList).2.2 : Int) = 0 := by omega
      clear h0
      generalize Fm.bs (Fm.Fr.first s.data.toList).1 = x at *
      generalize (Fm.Fr.first s.data.toList).2.1 = k at *
      generalize (Fm.Fr.first s.data.toList).2.2 = E at *
      go_enter Try.func10, Try.ntmps10
      go_wp2_with (first
        | (go_at_call 12; refine k12.mono ?_; rintro e w1 ⟨rfl, b1⟩)
        | (go_at_call 31; refine (K31.out _).mono ?_; rintro e w2 ⟨rfl, b2⟩; have bb := b1.trans (b2.mono b1.size)))
      go_ret2
      rw [EN.out]
      exact ⟨rfl, bb⟩
end Go.Proofs.Ytnmamaeoghgegaa
