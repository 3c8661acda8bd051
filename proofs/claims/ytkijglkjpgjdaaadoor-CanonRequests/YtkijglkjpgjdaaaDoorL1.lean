/-
  CanonPaths, as the tied card: for any text the law answers true, and the text reads behind the call as before; the listed variables, the table of the digest's constants among them, are tied to the program's text. No other condition.
-/
import Derived.Test.YtkijglkjpgjdaaaDoorZ
import Derived.Test.YtkijglkjpgjdaaaDoorCards
import Derived.Test.YtkijglkjpgjdaaaDoorTie
import Derived.SevenTiedAt
import Derived.Carry
import Derived.ShutString
import Derived.ChangeOld
namespace Go.Proofs.YtkijglkjpgjdaaaDoor
open Go.ChangeShapes Go.WideShapes Go.ChangeAt Go.RowKit
open Go.ChangeMaps (open_string shut_string)

theorem path_again {s : ByteArray} {f : List UInt8} (h : pathO s = some f) : pathO ⟨f.toArray⟩ = some f := Cn.path_form goodP rfl s.data.toList f h

theorem same_toList (s : ByteArray) : (s.toList == s.toList) = true := beq_self_eq_true _

set_option maxHeartbeats 1600000 in
theorem paths_none (s : ByteArray) (w : World) (hT : Ha.Tab w) (hs : s.size ≤ 100) (h : pathO s = none) :
    Calls Tryd.prog 3 #[.string s] w fun e w' => e = .returned (.bool true) ∧ Below w.heap.size w w' := by
  have k0 := awake_any w hT
  have k1 : Aside (∀ u : World, Calls Tryd.prog 8 #[.string s] u fun e w' => e = .returned (.tuple #[.string ⟨#[]⟩, .bool false]) ∧ Below u.heap.size u w') := fun u => by
    have := path_any s u
    rw [h] at this
    exact this
  have k2 : Aside (∀ u : World, Calls Tryd.prog 9 #[.string s] u fun e w' => e = .returned (.tuple #[.string ⟨#[]⟩, .bool false]) ∧ Below u.heap.size u w') := fun u => by
    have := refPath_any s u
    rw [h] at this
    exact this
  have k3 : Aside (∀ u : World, Calls Tryd.prog 8 #[.string ⟨#[]⟩] u fun e w' => e = .returned (.tuple #[.string ⟨#[]⟩, .bool false]) ∧ Below u.heap.size u w') := fun u => by
    have := path_any ⟨#[]⟩ u
    rw [path_empty ⟨#[]⟩ rfl] at this
    exact this
  have d1 : decide (100 < (s.size : Int)) = false := by simp; omega
  clear h
  go_enter Tryd.func3, Tryd.ntmps3
  go_wp2_with (first
    | (go_at_call 7; refine k0.mono ?_; rintro e w1 ⟨rfl, hb1⟩)
    | (go_at_call 8; refine (k1.out _).mono ?_; rintro e w2 ⟨rfl, hb2⟩; clear k1)
    | (go_at_call 9; refine (k2.out _).mono ?_; rintro e w3 ⟨rfl, hb3⟩)
    | (go_at_call 8; refine (k3.out _).mono ?_; rintro e w4 ⟨rfl, hb4⟩))
  go_ret
  have b2 := hb1.trans (hb2.mono hb1.size)
  have b3 := b2.trans (hb3.mono b2.size)
  exact ⟨rfl, b3.trans (hb4.mono b3.size)⟩

set_option maxHeartbeats 1600000 in
theorem paths_some (s : ByteArray) (f : List UInt8) (w : World) (hT : Ha.Tab w) (hs : s.size ≤ 100) (h : pathO s = some f) :
    Calls Tryd.prog 3 #[.string s] w fun e w' => e = .returned (.bool true) ∧ Below w.heap.size w w' := by
  have k0 := awake_any w hT
  have h2 := path_again h
  have k1 : Aside (∀ u : World, Calls Tryd.prog 8 #[.string s] u fun e w' => e = .returned (.tuple #[.string ⟨f.toArray⟩, .bool true]) ∧ Below u.heap.size u w') := fun u => by
    have := path_any s u
    rw [h] at this
    exact this
  have k2 : Aside (∀ u : World, Calls Tryd.prog 9 #[.string s] u fun e w' => e = .returned (.tuple #[.string ⟨f.toArray⟩, .bool true]) ∧ Below u.heap.size u w') := fun u => by
    have := refPath_any s u
    rw [h] at this
    exact this
  have k3 : Aside (∀ u : World, Calls Tryd.prog 8 #[.string ⟨f.toArray⟩] u fun e w' => e = .returned (.tuple #[.string ⟨f.toArray⟩, .bool true]) ∧ Below u.heap.size u w') := fun u => by
    have := path_any ⟨f.toArray⟩ u
    rw [h2] at this
    exact this
  have d1 : decide (100 < (s.size : Int)) = false := by simp; omega
  clear h h2
  generalize ByteArray.mk f.toArray = P at *
  have d2 := same_toList P
  go_enter Tryd.func3, Tryd.ntmps3
  go_wp2_with (first
    | (go_at_call 7; refine k0.mono ?_; rintro e w1 ⟨rfl, hb1⟩)
    | (go_at_call 8; refine (k1.out _).mono ?_; rintro e w2 ⟨rfl, hb2⟩; clear k1)
    | (go_at_call 9; refine (k2.out _).mono ?_; rintro e w3 ⟨rfl, hb3⟩)
    | (go_at_call 8; refine (k3.out _).mono ?_; rintro e w4 ⟨rfl, hb4⟩))
  go_ret
  have b2 := hb1.trans (hb2.mono hb1.size)
  have b3 := b2.trans (hb3.mono b2.size)
  exact ⟨rfl, b3.trans (hb4.mono b3.size)⟩

theorem paths_long (s : ByteArray) (w : World) (hT : Ha.Tab w) (hs : 100 < s.size) :
    Calls Tryd.prog 3 #[.string s] w fun e w' => e = .returned (.bool true) ∧ Below w.heap.size w w' := by
  have k0 := awake_any w hT
  have d1 : decide (100 < (s.size : Int)) = true := by simp; omega
  go_enter Tryd.func3, Tryd.ntmps3
  go_wp2_with (go_at_call 7; refine k0.mono ?_; rintro e w1 ⟨rfl, hb1⟩)
  go_ret
  exact ⟨rfl, hb1⟩

theorem paths_any (s : ByteArray) (w : World) (hT : Ha.Tab w) :
    Calls Tryd.prog 3 #[.string s] w fun e w' => e = .returned (.bool true) ∧ Below w.heap.size w w' := by
  by_cases hs : 100 < s.size
  · exact paths_long s w hT hs
  · cases h : pathO s with
    | none => exact paths_none s w hT (by omega) h
    | some f => exact paths_some s f w hT (by omega) h

set_option maxRecDepth 100000 in
theorem canonPaths_lifted (os : Os) (started : os.Started) (H : Type) (enc : TypeId × Value → H) :
    ReturnsInHanded {} Tryd.checked os 3 .any (fun w args => (Rows.canonPathsSpec.pre enc Tryd.prog Tryd.f3 [] false w args ∧ laidMetH Tryd.prog laid4 w) ∧ sizedMet enc Tryd.prog Tryd.f3 (OpenSpec.ofChange Rows.canonPathsSpec) false w args)
      (Rows.canonPathsSpec.post enc Tryd.prog Tryd.f3 false true false false) := by
  refine returnsInHanded_of_change_and (C := Tryd.checked) (X := fun w _ => laidMetH Tryd.prog laid4 w) (fun _ _ _ hh h => h.of_heap hh) own started (by kernel_rfl) Tryd.func3
    (ChangeSpec.witness_shaped (enc := enc) (C := Tryd.checked) (os := os) (X := fun w _ => laidMetH Tryd.prog laid4 w) false (World.laidAll Tryd.prog os laid4) #[.string ByteArray.empty] 8 (World.laidAll_os _ _ _) (World.shaped_of_ZipB (by kernel_rfl) (by kernel_rfl)) (by kernel_rfl) (by kernel_rfl) (by kernel_rfl) (door_met os _)) ?_
  intro W base args ds gs before hval0 hW _ _ hL _
  have hval : ∀ (j : Nat) t v, Tryd.f3.params[j]? = some t → args[j]? = some v → Value.okWide Tryd.prog W .any base t v := hval0
  have hW' := hW
  obtain ⟨p, q, hA0, hV, rfl, hfz, hnd⟩ := hW
  have hA : DataW.TrodAll enc Tryd.prog W 0 (fun _ => true) true Tryd.f3.params.toList args.toList ds p := hA0
  rw [Tryd.params3] at hA hval
  obtain ⟨v0, vs0, d0, ds0, p0, q0, hargs, rfl, rfl, h0, r0⟩ := trodAll_cons hA
  obtain ⟨rfl, rfl, rfl⟩ := trodAll_nil r0
  obtain rfl : args = #[v0] := by cases args; simp_all
  obtain ⟨rfl, rfl⟩ := trodVars_none hV
  obtain ⟨s0, rfl, rfl, rfl, w0⟩ := open_string Tryd.underlying9 (hval 0 9 v0 rfl rfl) h0
  clear hA0 hval0
  refine (paths_any s0 W (tab_of_laid hL)).mono fun e W' ⟨he, bel⟩ => ?_
  subst he
  exact ⟨_, rfl, _, _, _, [], _, [], hW', trodAll_mk1 (shut_bool Tryd.underlying4 _), trodAll_cons_mk (shut_string Tryd.underlying9 w0) trodAll_mk0, rfl, bel.frame _, fun h => by cases h⟩

theorem canonPaths_row : Rows.CanonPathsSaid :=
  OpenClaim.holds_of_wide 3 Tryd.f3 rfl rfl rfl rfl rfl rfl rfl ⟨rfl, rfl, rfl, rfl, rfl⟩ rfl rfl rfl rfl rfl (by kernel_rfl) Tryd.func3 (by kernel_rfl)
    (of_decide_eq_true (by kernel_rfl)) (by unfold Func.isWrapper; first | (rw [if_pos (by decide +kernel)]; kernel_rfl) | (rw [if_neg (by decide +kernel)]; exact ⟨rfl, rfl⟩))
    (fun os started H enc _ => canonPaths_lifted os started H enc)

theorem canonPaths_holds : Rows.CanonPathsCardSaid :=
  Claim7.holds_tied_plain_at .later [] [.data, .data, .pinned, .pinned] true (true, "2cdd596f11ff8d6560d73677dbb3e5c5173416df5e171f46a947bb3e065a17dc") false
    canonPaths_row (fun _ h => by cases h) (by kernel_rfl) (fun _ h => by cases h) canonPaths_row_tie rfl ⟨rfl, rfl⟩ (by kernel_rfl) rfl
    (fun f fn hf hfn => by
      obtain rfl : f = 3 := Option.some.inj ((show Tryd.prog.funcNamed "concierge/conciergelaw05.CanonPaths" = some 3 by kernel_rfl).symm.trans hf) |>.symm
      obtain rfl : fn = Tryd.f3 := (Option.some.inj (Tryd.func3.symm.trans hfn)).symm
      exact ⟨by kernel_rfl, fun j t ht => by
        rw [Tryd.params3] at ht
        have hm : t ∈ [9] := by simpa using Array.mem_of_getElem? ht
        have hall : ([9].all fun u => !Tryd.prog.wantsStandIn u) = true := by kernel_rfl
        exact (show Tryd.prog.wantsStandIn t = false by simpa using List.all_eq_true.1 hall t hm)⟩)
    (by kernel_rfl)
#print axioms canonPaths_holds
end Go.Proofs.YtkijglkjpgjdaaaDoor
