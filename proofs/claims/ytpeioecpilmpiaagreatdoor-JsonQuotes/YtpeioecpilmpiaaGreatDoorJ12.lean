/-
  The program's read.
-/
import Derived.Test.YtpeioecpilmpiaaGreatDoorJ11
import Derived.WalkKit
import Derived.WalkSpells
import Derived.WalkLawsBesides
import Derived.Deep.LoopGhost
import Derived.Laws.Externs
import Derived.Below
import Derived.BigQuiet
import Derived.Deep.RegionWith
import Derived.OwnWalk
import Derived.Maps.AppendAt
namespace Go.Proofs.YtpeioecpilmpiaaGreatDoor
open Go.RowKit
theorem below_q {B : Nat} {a w : World} (h : Below B a w) (q : Nat) : Below B a (w.drewN q) := ⟨h.os, h.tape, h.output, h.size, h.block⟩
/-- What read answers. -/
def RdA (s : ByteArray) (en : Ending) (w w' : World) : Prop :=
  match Js.of s.data.toList with
  | .ok x => ∃ ty vv, en = .returned (.tuple #[.iface ty vv, .int .i64 0]) ∧ Tv 8 (Bt w.heap.size w'.heap.size) w' (.iface ty vv) x
  | .error e => en = .returned (.tuple #[.nilIface, .int .i64 (e : Int)]) ∧ e ≠ 0

set_option maxHeartbeats 1600000 in
set_option maxRecDepth 100000 in
theorem read_any (s : ByteArray) (w : World) (hs : s.size ≤ 1000000) :
    Calls Tryz.prog 21 #[.string s] w fun en w' => RdA s en w w' ∧ Below w.heap.size w w' := by
  have hsz : s.data.toList.length = s.size := rfl
  by_cases h4 : 400 < s.size
  · have hof : Js.of s.data.toList = .error 5 := by unfold Js.of; rw [hsz, if_pos h4]
    have RA : Aside (∀ w', RdA s (.returned (.tuple #[.nilIface, .int .i64 5])) w w') := fun w' => by
      unfold RdA
      rw [hof]
      exact ⟨rfl, by decide⟩
    have d1 : decide ((400 : Int) < s.size) = true := by simp; omega
    go_enter Tryz.func21, Tryz.ntmps21
    go_wp2_with fail
    go_ret2
    exact ⟨RA.out _, Below.refl _ _⟩
  · have d1 : decide ((400 : Int) < s.size) = false := by simp; omega
    have hof : Js.of s.data.toList = match Js.pv 8 (L s 0) with
        | .error e => .error e
        | .ok (x, r) => match Js.skip r with
          | [] => .ok x
          | _ => .error 3 := by
      unfold Js.of
      rw [hsz, if_neg h4]
      rfl
    have HOF := asd hof
    clear hof
    have h0 : Rd w.heap.size s 0 0 0 (w.alloc (.cells #[.string s, .int .i64 0, .int .i64 0, .int .i64 0] 74)) := heap_alloc_new w _
    have V := asd (value_any 8 w.heap.size s 0 0 0 _ h0 (Nat.zero_le _) (by omega) rfl)
    clear h0
    have BA : Aside (Below w.heap.size w (w.alloc (.cells #[.string s, .int .i64 0, .int .i64 0, .int .i64 0] 74))) := (Below.refl _ _).alloc (Nat.le_refl _) _
    have hza : (w.alloc (.cells #[.string s, .int .i64 0, .int .i64 0, .int .i64 0] 74)).heap.size = w.heap.size + 1 := by simp
    have T1 : Aside True := trivial
    have T2 : Aside True := trivial
    have HZA := asd hza
    clear hza
    go_enter Tryz.func21, Tryz.ntmps21
    go_wp2_with (first
      | (clear T1; go_at_call 30; refine V.out.mono ?_; rintro en w1 ⟨ty, vv, q, d1', e1, rfl, hq, _, _, h1, g1, _, hv⟩
         have BW : Aside (Below w.heap.size w w1) := ⟨g1.os.trans BA.out.os, g1.tape.trans BA.out.tape, g1.output.trans BA.out.output, by have := g1.size; have := HZA.out; omega, fun k hk => (g1.block k (by have := HZA.out; omega) (fun e => by injection e; omega)).trans (BA.out.block k hk)⟩
         have CS : (q < s.size ∧ decide ((q : Int) < s.size) = true ∧ Aside (∃ e, Js.of s.data.toList = .error e ∧ e = fl e1 3 ∧ e ≠ 0)) ∨
             (q = s.size ∧ e1 = 0 ∧ decide ((q : Int) < s.size) = false ∧ Aside (∃ x, Js.of s.data.toList = .ok x ∧ Tv 8 (Bt w.heap.size w1.heap.size) w1 (.iface ty vv) x)) ∨
             (q = s.size ∧ e1 ≠ 0 ∧ decide ((q : Int) < s.size) = false ∧ Aside (Js.of s.data.toList = .error e1)) := by
           rcases hv (by first | rfl | trivial) with ⟨rfl, _, x, rest, c1, c2, c3⟩ | ⟨c1, c2⟩
           · have hof := HOF.out
             rw [c1] at hof
             simp only [← c2] at hof
             by_cases hlt : q < s.size
             · refine .inl ⟨hlt, decide_eq_true (by omega), 3, ?_, rfl, by decide⟩
               rw [hof, L_cons s q hlt]
             · obtain rfl : q = s.size := by omega
               refine .inr (.inl ⟨rfl, rfl, decide_eq_false (by omega), x, ?_, c3.frame (fun k hk => ⟨by have := hk.1; have := HZA.out; omega, hk.2⟩) (fun _ _ => rfl)⟩)
               rw [hof, L_end s s.size (Nat.le_refl _)]
           · have hof := HOF.out
             rw [c2] at hof
             by_cases hlt : q < s.size
             · exact .inl ⟨hlt, decide_eq_true (by omega), e1, hof, (fl_bad e1 3 c1).symm, c1⟩
             · exact .inr (.inr ⟨by omega, c1, decide_eq_false (by omega), hof⟩)
         have cc1 := h1.c1
         have cc3 := h1.c3
         have F := asd (fail_any w.heap.size s q d1' e1 3 w1 h1)
         have H1 := asd h1
         clear hv V
         have zz : e1 ≠ 0 → ((e1 : Int) != 0) = true := fun h => by rw [bne_iff_ne]; omega
         rcases CS with ⟨hlt, d2, P⟩ | ⟨rfl, rfl, d2, P⟩ | ⟨rfl, he1, d2, P⟩)
      | (clear T2; go_at_call 31; refine F.out.mono ?_; rintro en w2 ⟨rfl, h2, g2⟩
         obtain ⟨ef, hef, he3, hne⟩ := P.out
         rw [← he3] at h2
         have cc3 := h2.c3
         have BW2 : Aside (Below w.heap.size w w2) := ⟨g2.os.trans BW.out.os, g2.tape.trans BW.out.tape, g2.output.trans BW.out.output, by have := g2.size; have := BW.out.size; omega, fun k hk => (g2.block k (by have := BW.out.size; omega) (fun e => by injection e; omega)).trans (BW.out.block k hk)⟩
         have HN := asd (And.intro hef hne)
         have z1 : ((ef : Int) != 0) = true := by rw [bne_iff_ne]; omega
         clear h2 g2 hef he3 hne F))
    · go_quiet (fail)
      go_wp2_with fail
      go_ret2
      refine ⟨?_, below_q BW2.out _⟩
      unfold RdA
      rw [HN.out.1]
      exact ⟨rfl, HN.out.2⟩
    · go_ret2
      refine ⟨?_, BW.out⟩
      unfold RdA
      obtain ⟨x, px, tx⟩ := P.out
      rw [px]
      exact ⟨ty, vv, rfl, tx⟩
    · have z1 := zz he1
      go_quiet (fail)
      go_wp2_with fail
      go_ret2
      refine ⟨?_, below_q BW.out _⟩
      unfold RdA
      rw [P.out]
      exact ⟨rfl, he1⟩
end Go.Proofs.YtpeioecpilmpiaaGreatDoor
