/-
  Form and Quote.
-/
import Derived.Test.YtpeioecpilmpiaaGreatDoorJ19
import Derived.Test.YtpeioecpilmpiaaGreatDoorJ12
import Derived.WalkKit
import Derived.WalkSpells
import Derived.WalkLawsBesides
import Derived.Deep.LoopGhost
import Derived.Laws.Externs
import Derived.Below
import Derived.BigQuiet
import Derived.Deep.RegionWith
import Derived.OwnWalk
import Derived.Maps.AppendAt
namespace Go.Proofs.YtpeioecpilmpiaaGreatDoor
open Go.RowKit
/-- What read answers, told in two ways. -/
theorem read_err (s : ByteArray) (w : World) (hs : s.size ≤ 1000000) (e : Nat) (h : Js.of s.data.toList = .error e) :
    Calls Tryz.prog 21 #[.string s] w fun en w' => en = .returned (.tuple #[.nilIface, .int .i64 (e : Int)]) ∧ ((e : Int) != 0) = true ∧ Below w.heap.size w w' := by
  refine (read_any s w hs).mono ?_
  rintro en w' ⟨hr, hb⟩
  unfold RdA at hr
  rw [h] at hr
  refine ⟨hr.1, ?_, hb⟩
  have := hr.2
  rw [bne_iff_ne]
  omega
theorem read_ok (s : ByteArray) (w : World) (hs : s.size ≤ 1000000) (x : Js.X) (h : Js.of s.data.toList = .ok x) :
    Calls Tryz.prog 21 #[.string s] w fun en w' => (∃ ty vv, en = .returned (.tuple #[.iface ty vv, .int .i64 0]) ∧ Tv 8 (Bt w.heap.size w'.heap.size) w' (.iface ty vv) x) ∧ Below w.heap.size w w' := by
  refine (read_any s w hs).mono ?_
  rintro en w' ⟨hr, hb⟩
  unfold RdA at hr
  rw [h] at hr
  exact ⟨hr, hb⟩

/-- Form, by plain data. -/
def formP (b : Js.B) : Js.B × Nat := match Js.of b with
  | .ok x => (x.form, 0)
  | .error e => ([], e)

set_option maxHeartbeats 1600000 in
set_option maxRecDepth 100000 in
theorem Form_any (s : ByteArray) (w : World) (hs : s.size ≤ 1000000) (hV : Vars w) :
    Calls Tryz.prog 8 #[.string s] w fun e w' => e = .returned (.tuple #[.string (bs (formP s.data.toList).1), .int .i64 ((formP s.data.toList).2 : Int)]) ∧ Below w.heap.size w w' := by
  cases hof : Js.of s.data.toList with
  | error e =>
    have R := asd (read_err s w hs e hof)
    have EQ : Aside (formP s.data.toList = ([], e)) := by show _ = _; unfold formP; rw [hof]
    clear hV hof
    go_enter Tryz.func8, Tryz.ntmps8
    go_wp2_with (go_at_call 21; refine R.out.mono ?_; rintro en w2 ⟨rfl, hne, b2⟩)
    go_ret2
    exact ⟨by rw [EQ.out]; rfl, b2⟩
  | ok x =>
    have R := asd (read_ok s w hs x hof)
    have EQ : Aside (formP s.data.toList = (x.form, 0)) := by show _ = _; unfold formP; rw [hof]
    have HV := asd hV
    have HB : Aside (x.form.length ≤ 100000) := by
      show _ ≤ _
      have := Js.of_bd _ _ hof
      omega
    clear hV hof
    go_enter Tryz.func8, Tryz.ntmps8
    go_wp2_with (first
      | (go_at_call 21; refine R.out.mono ?_; rintro en w2 ⟨⟨ty, vv, rfl, T⟩, b2⟩
         have HT := asd T
         have B2 := asd b2
         clear T b2)
      | (go_at_call 22; refine (form_any 8 _ _ _ x HT.out (fun k hk => hk.2) (HV.out.below B2.out) HB.out).mono ?_; rintro e w3 ⟨rfl, b3⟩))
    go_ret2
    exact ⟨by rw [EQ.out]; rfl, B2.out.trans (b3.mono B2.out.size)⟩

/-- Quote, by plain data. -/
def quoteP (b : Js.B) : Js.B × Bool := if b.length ≤ 400 ∧ Lib.validD b = true then (Js.quote b, true) else ([], false)

set_option maxHeartbeats 1600000 in
set_option maxRecDepth 100000 in
theorem Quote_any (s : ByteArray) (w : World) (hs : s.size ≤ 1000000) (hV : Vars w) :
    Calls Tryz.prog 18 #[.string s] w fun e w' => e = .returned (.tuple #[.string (bs (quoteP s.data.toList).1), .bool (quoteP s.data.toList).2]) ∧ Below w.heap.size w w' := by
  by_cases h4 : s.size ≤ 400
  · have d1 : decide ((400 : Int) < s.size) = false := decide_eq_false (by omega)
    have K := asd (validString_any s w (by omega) hV)
    by_cases hv : Lib.validD s.data.toList = true
    · have EQ : Aside (quoteP s.data.toList = (Js.quote s.data.toList, true)) := by show _ = _; unfold quoteP; rw [if_pos ⟨h4, hv⟩]
      have Q := asd (fun w' (h : Vars w') => quoted_any s w' (by omega) h hv)
      have HV := asd hV
      clear hV
      go_enter Tryz.func18, Tryz.ntmps18
      go_wp2_with (first
        | (go_at_call 28; refine K.out.mono ?_; rw [hv]; rintro e w2 ⟨rfl, b2⟩; have B2 := asd b2; clear b2 K)
        | (go_at_call 29; refine (Q.out _ (HV.out.below B2.out)).mono ?_; rintro e w3 ⟨rfl, b3⟩))
      go_ret2
      exact ⟨by rw [EQ.out]; rfl, B2.out.trans (b3.mono B2.out.size)⟩
    · have hv' : Lib.validD s.data.toList = false := by simpa using hv
      have EQ : Aside (quoteP s.data.toList = ([], false)) := by show _ = _; unfold quoteP; rw [if_neg (fun h => hv h.2)]
      clear hV
      go_enter Tryz.func18, Tryz.ntmps18
      go_wp2_with (go_at_call 28; refine K.out.mono ?_; rw [hv']; rintro e w2 ⟨rfl, b2⟩)
      go_ret2
      exact ⟨by rw [EQ.out]; rfl, b2⟩
  · have d1 : decide ((400 : Int) < s.size) = true := decide_eq_true (by omega)
    have EQ : Aside (quoteP s.data.toList = ([], false)) := by show _ = _; unfold quoteP; rw [if_neg (fun h => h4 h.1)]
    clear hV
    go_enter Tryz.func18, Tryz.ntmps18
    go_wp2
    go_ret2
    exact ⟨by rw [EQ.out]; rfl, Below.refl _ _⟩
end Go.Proofs.YtpeioecpilmpiaaGreatDoor
