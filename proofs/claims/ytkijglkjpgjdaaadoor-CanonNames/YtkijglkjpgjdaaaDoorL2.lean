/-
  CanonNames, as the tied card: for any two texts the law answers true, and the texts read behind the call as before; the listed variables, the table of the digest's constants among them, are tied to the program's text. No other condition.
-/
import Derived.Test.YtkijglkjpgjdaaaDoorL1
namespace Go.Proofs.YtkijglkjpgjdaaaDoor
open Go.ChangeShapes Go.WideShapes Go.ChangeAt Go.RowKit
open Go.ChangeMaps (open_string shut_string)

theorem meth_again {s : ByteArray} {f : List UInt8} (h : Cn.meth s.data.toList = some f) : Cn.meth f = some f ∧ f.length ≤ 8 := by
  refine ⟨Cn.meth_form s.data.toList f h, ?_⟩
  unfold Cn.meth at h
  split at h
  · rename_i hs
    cases h
    unfold Lib.toUpperA
    rw [List.length_map]
    exact hs.2.1
  · cases h

theorem same_bool (b : Bool) : (b == b) = true := beq_self_eq_true _

set_option maxHeartbeats 1600000 in
theorem names_none (s t : ByteArray) (w : World) (hT : Ha.Tab w) (hs : s.size ≤ 60) (ht : t.size ≤ 60) (h : Cn.meth s.data.toList = none) :
    Calls Tryd.prog 4 #[.string s, .string t] w fun e w' => e = .returned (.bool true) ∧ Below w.heap.size w w' := by
  have k0 := awake_any w hT
  have k1 : Aside (∀ u : World, Calls Tryd.prog 10 #[.string s] u fun e w' => e = .returned (.tuple #[.string ⟨#[]⟩, .bool false]) ∧ Below u.heap.size u w') := fun u => by
    have := method_any s u (by omega)
    rw [h] at this
    exact this
  have k2 : Aside (∀ u : World, Calls Tryd.prog 11 #[.string s] u fun e w' => e = .returned (.tuple #[.string ⟨#[]⟩, .bool false]) ∧ Below u.heap.size u w') := fun u => by
    have := refMethod_any s u
    rw [h] at this
    exact this
  have k3 : Aside (∀ u : World, Calls Tryd.prog 10 #[.string ⟨#[]⟩] u fun e w' => e = .returned (.tuple #[.string ⟨#[]⟩, .bool false]) ∧ Below u.heap.size u w') := fun u => method_any ⟨#[]⟩ u (by decide)
  have k4 : Aside (∀ u : World, _) := fun u => key_any t u
  have k5 : Aside (∀ u : World, _) := fun u => refKey_any t u
  generalize key t = G at *
  have d1 : decide (60 < (s.size : Int)) = false := by simp; omega
  have d2 : decide (60 < (t.size : Int)) = false := by simp; omega
  have d3 := same_bool G
  clear h
  go_enter Tryd.func4, Tryd.ntmps4
  go_wp2_with (first
    | (go_at_call 7; refine k0.mono ?_; rintro e w1 ⟨rfl, hb1⟩)
    | (go_at_call 10; refine (k1.out _).mono ?_; rintro e w2 ⟨rfl, hb2⟩; clear k1)
    | (go_at_call 11; refine (k2.out _).mono ?_; rintro e w3 ⟨rfl, hb3⟩)
    | (go_at_call 10; refine (k3.out _).mono ?_; rintro e w4 ⟨rfl, hb4⟩)
    | (go_at_call 12; refine (k4.out _).mono ?_; rintro e w5 ⟨rfl, hb5⟩)
    | (go_at_call 13; refine (k5.out _).mono ?_; rintro e w6 ⟨rfl, hb6⟩))
  go_ret
  have b2 := hb1.trans (hb2.mono hb1.size)
  have b3 := b2.trans (hb3.mono b2.size)
  have b4 := b3.trans (hb4.mono b3.size)
  have b5 := b4.trans (hb5.mono b4.size)
  exact ⟨rfl, b5.trans (hb6.mono b5.size)⟩

set_option maxHeartbeats 1600000 in
theorem names_some (s t : ByteArray) (f : List UInt8) (w : World) (hT : Ha.Tab w) (hs : s.size ≤ 60) (ht : t.size ≤ 60) (h : Cn.meth s.data.toList = some f) :
    Calls Tryd.prog 4 #[.string s, .string t] w fun e w' => e = .returned (.bool true) ∧ Below w.heap.size w w' := by
  have k0 := awake_any w hT
  obtain ⟨h2, h3⟩ := meth_again h
  have k1 : Aside (∀ u : World, Calls Tryd.prog 10 #[.string s] u fun e w' => e = .returned (.tuple #[.string ⟨f.toArray⟩, .bool true]) ∧ Below u.heap.size u w') := fun u => by
    have := method_any s u (by omega)
    rw [h] at this
    exact this
  have k2 : Aside (∀ u : World, Calls Tryd.prog 11 #[.string s] u fun e w' => e = .returned (.tuple #[.string ⟨f.toArray⟩, .bool true]) ∧ Below u.heap.size u w') := fun u => by
    have := refMethod_any s u
    rw [h] at this
    exact this
  have k3 : Aside (∀ u : World, Calls Tryd.prog 10 #[.string ⟨f.toArray⟩] u fun e w' => e = .returned (.tuple #[.string ⟨f.toArray⟩, .bool true]) ∧ Below u.heap.size u w') := fun u => by
    have := method_any ⟨f.toArray⟩ u (by rw [mk_size]; omega)
    rw [show (ByteArray.mk f.toArray).data.toList = f from rfl, h2] at this
    exact this
  have k4 : Aside (∀ u : World, _) := fun u => key_any t u
  have k5 : Aside (∀ u : World, _) := fun u => refKey_any t u
  generalize key t = G at *
  have d1 : decide (60 < (s.size : Int)) = false := by simp; omega
  have d2 : decide (60 < (t.size : Int)) = false := by simp; omega
  have d3 := same_bool G
  clear h h2 h3
  generalize ByteArray.mk f.toArray = P at *
  have d4 := same_toList P
  go_enter Tryd.func4, Tryd.ntmps4
  go_wp2_with (first
    | (go_at_call 7; refine k0.mono ?_; rintro e w1 ⟨rfl, hb1⟩)
    | (go_at_call 10; refine (k1.out _).mono ?_; rintro e w2 ⟨rfl, hb2⟩; clear k1)
    | (go_at_call 11; refine (k2.out _).mono ?_; rintro e w3 ⟨rfl, hb3⟩)
    | (go_at_call 10; refine (k3.out _).mono ?_; rintro e w4 ⟨rfl, hb4⟩)
    | (go_at_call 12; refine (k4.out _).mono ?_; rintro e w5 ⟨rfl, hb5⟩)
    | (go_at_call 13; refine (k5.out _).mono ?_; rintro e w6 ⟨rfl, hb6⟩))
  go_ret
  have b2 := hb1.trans (hb2.mono hb1.size)
  have b3 := b2.trans (hb3.mono b2.size)
  have b4 := b3.trans (hb4.mono b3.size)
  have b5 := b4.trans (hb5.mono b4.size)
  exact ⟨rfl, b5.trans (hb6.mono b5.size)⟩

theorem names_long (s t : ByteArray) (w : World) (hT : Ha.Tab w) (h : 60 < s.size ∨ 60 < t.size) :
    Calls Tryd.prog 4 #[.string s, .string t] w fun e w' => e = .returned (.bool true) ∧ Below w.heap.size w w' := by
  have k0 := awake_any w hT
  by_cases hs : 60 < s.size
  · have d1 : decide (60 < (s.size : Int)) = true := by simp; omega
    go_enter Tryd.func4, Tryd.ntmps4
    go_wp2_with (go_at_call 7; refine k0.mono ?_; rintro e w1 ⟨rfl, hb1⟩)
    go_ret
    exact ⟨rfl, hb1⟩
  · have d1 : decide (60 < (s.size : Int)) = false := by simp; omega
    have d2 : decide (60 < (t.size : Int)) = true := by simp; omega
    go_enter Tryd.func4, Tryd.ntmps4
    go_wp2_with (go_at_call 7; refine k0.mono ?_; rintro e w1 ⟨rfl, hb1⟩)
    go_ret
    exact ⟨rfl, hb1⟩

theorem names_any (s t : ByteArray) (w : World) (hT : Ha.Tab w) :
    Calls Tryd.prog 4 #[.string s, .string t] w fun e w' => e = .returned (.bool true) ∧ Below w.heap.size w w' := by
  by_cases hs : 60 < s.size ∨ 60 < t.size
  · exact names_long s t w hT hs
  · cases h : Cn.meth s.data.toList with
    | none => exact names_none s t w hT (by omega) (by omega) h
    | some f => exact names_some s t f w hT (by omega) (by omega) h

set_option maxRecDepth 100000 in
theorem canonNames_lifted (os : Os) (started : os.Started) (H : Type) (enc : TypeId × Value → H) :
    ReturnsInHanded {} Tryd.checked os 4 .any (fun w args => (Rows.canonNamesSpec.pre enc Tryd.prog Tryd.f4 [] false w args ∧ laidMetH Tryd.prog laid4 w) ∧ sizedMet enc Tryd.prog Tryd.f4 (OpenSpec.ofChange Rows.canonNamesSpec) false w args)
      (Rows.canonNamesSpec.post enc Tryd.prog Tryd.f4 false true false false) := by
  refine returnsInHanded_of_change_and (C := Tryd.checked) (X := fun w _ => laidMetH Tryd.prog laid4 w) (fun _ _ _ hh h => h.of_heap hh) own started (by kernel_rfl) Tryd.func4
    (ChangeSpec.witness_shaped (enc := enc) (C := Tryd.checked) (os := os) (X := fun w _ => laidMetH Tryd.prog laid4 w) false (World.laidAll Tryd.prog os laid4) #[.string ByteArray.empty, .string ByteArray.empty] 8 (World.laidAll_os _ _ _) (World.shaped_of_ZipB (by kernel_rfl) (by kernel_rfl)) (by kernel_rfl) (by kernel_rfl) (by kernel_rfl) (door_met os _)) ?_
  intro W base args ds gs before hval0 hW _ _ hL _
  have hval : ∀ (j : Nat) t v, Tryd.f4.params[j]? = some t → args[j]? = some v → Value.okWide Tryd.prog W .any base t v := hval0
  have hW' := hW
  obtain ⟨p, q, hA0, hV, rfl, hfz, hnd⟩ := hW
  have hA : DataW.TrodAll enc Tryd.prog W 0 (fun _ => true) true Tryd.f4.params.toList args.toList ds p := hA0
  rw [Tryd.params4] at hA hval
  obtain ⟨v0, vs0, d0, ds0, p0, q0, hargs, rfl, rfl, h0, r0⟩ := trodAll_cons hA
  obtain ⟨v1, vs1, d1, ds1, p1, q1, rfl, rfl, rfl, h1, r1⟩ := trodAll_cons r0
  obtain ⟨rfl, rfl, rfl⟩ := trodAll_nil r1
  obtain rfl : args = #[v0, v1] := by cases args; simp_all
  obtain ⟨rfl, rfl⟩ := trodVars_none hV
  obtain ⟨s0, rfl, rfl, rfl, w0⟩ := open_string Tryd.underlying9 (hval 0 9 v0 rfl rfl) h0
  obtain ⟨s1, rfl, rfl, rfl, w1⟩ := open_string Tryd.underlying9 (hval 1 9 v1 rfl rfl) h1
  clear hA0 hval0
  refine (names_any s0 s1 W (tab_of_laid hL)).mono fun e W' ⟨he, bel⟩ => ?_
  subst he
  exact ⟨_, rfl, _, _, _, [], _, [], hW', trodAll_mk1 (shut_bool Tryd.underlying4 _), trodAll_cons_mk (shut_string Tryd.underlying9 w0) (trodAll_cons_mk (shut_string Tryd.underlying9 w1) trodAll_mk0), rfl, bel.frame _, fun h => by cases h⟩

theorem canonNames_row : Rows.CanonNamesSaid :=
  OpenClaim.holds_of_wide 4 Tryd.f4 rfl rfl rfl rfl rfl rfl rfl ⟨rfl, rfl, rfl, rfl, rfl⟩ rfl rfl rfl rfl rfl (by kernel_rfl) Tryd.func4 (by kernel_rfl)
    (of_decide_eq_true (by kernel_rfl)) (by unfold Func.isWrapper; first | (rw [if_pos (by decide +kernel)]; kernel_rfl) | (rw [if_neg (by decide +kernel)]; exact ⟨rfl, rfl⟩))
    (fun os started H enc _ => canonNames_lifted os started H enc)

theorem canonNames_holds : Rows.CanonNamesCardSaid :=
  Claim7.holds_tied_plain_at .later [] [.data, .data, .pinned, .pinned] true (true, "2cdd596f11ff8d6560d73677dbb3e5c5173416df5e171f46a947bb3e065a17dc") false
    canonNames_row (fun _ h => by cases h) (by kernel_rfl) (fun _ h => by cases h) canonNames_row_tie rfl ⟨rfl, rfl⟩ (by kernel_rfl) rfl
    (fun f fn hf hfn => by
      obtain rfl : f = 4 := Option.some.inj ((show Tryd.prog.funcNamed "concierge/conciergelaw05.CanonNames" = some 4 by kernel_rfl).symm.trans hf) |>.symm
      obtain rfl : fn = Tryd.f4 := (Option.some.inj (Tryd.func4.symm.trans hfn)).symm
      exact ⟨by kernel_rfl, fun j t ht => by
        rw [Tryd.params4] at ht
        have hm : t ∈ [9, 9] := by simpa using Array.mem_of_getElem? ht
        have hall : ([9, 9].all fun u => !Tryd.prog.wantsStandIn u) = true := by kernel_rfl
        exact (show Tryd.prog.wantsStandIn t = false by simpa using List.all_eq_true.1 hall t hm)⟩)
    (by kernel_rfl)
#print axioms canonNames_holds
end Go.Proofs.YtkijglkjpgjdaaaDoor
