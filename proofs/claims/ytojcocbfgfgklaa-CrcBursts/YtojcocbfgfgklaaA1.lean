/-
  CrcAny: for any bytes the law answers true, and they read behind the call as before. No condition.
-/
import Derived.Test.YtojcocbfgfgklaaW6
import Derived.ProofKit
import Derived.OpenShut
import Derived.ShutString
import Derived.ChangeOld
import Derived.Below
namespace Go.Proofs.Ytojcocbfgfgklaa
open Go.ChangeShapes Go.WideShapes Go.ChangeAt Go.RowKit
open Go.ChangeMaps (open_string shut_string)

theorem toList_ne {a b : ByteArray} (h : a ≠ b) : (a.toList == b.toList) = false := by
  rw [beq_eq_false_iff_ne]
  intro he
  apply h
  rw [ByteArray.toList_eq, ByteArray.toList_eq] at he
  exact ByteArray.ext (Array.toList_inj.mp he)

theorem toList_same {a b : ByteArray} (h : a = b) : (a.toList == b.toList) = true := by
  rw [h]
  exact beq_self_eq_true _

theorem any_long (s : ByteArray) (w : World) (hs : 200 < s.size) :
    Calls Try.prog 5 #[.string s] w fun e w' => e = .returned (.bool true) ∧ Below w.heap.size w w' := by
  have k0 := awake_any w
  have d1 : decide (200 < (s.size : Int)) = true := by simp; omega
  go_enter Try.func5, Try.ntmps5
  go_wp2_with (go_at_call 6; refine k0.mono ?_; rintro e w1 ⟨rfl, hb1⟩)
  go_ret
  exact ⟨rfl, hb1⟩

theorem any_short (s : ByteArray) (w : World) (hs : s.size < 4) :
    Calls Try.prog 5 #[.string s] w fun e w' => e = .returned (.bool true) ∧ Below w.heap.size w w' := by
  have k0 := awake_any w
  have d1 : decide (200 < (s.size : Int)) = false := by simp; omega
  have d2 : decide ((s.size : Int) < 4) = true := by simp; omega
  go_enter Try.func5, Try.ntmps5
  go_wp2_with (first
    | (go_at_call 6; refine k0.mono ?_; rintro e w1 ⟨rfl, hb1⟩)
    | (go_at_call 8; refine (open_short s _ hs).mono ?_; rintro e w2 ⟨rfl, rfl⟩))
  go_ret
  exact ⟨rfl, hb1⟩

theorem any_yes (s b : ByteArray) (w : World) (h4 : 4 ≤ s.size) (hs : s.size ≤ 200) (hb : s.extract 0 (s.size - 4) = b) (h : sealed b = s) :
    Calls Try.prog 5 #[.string s] w fun e w' => e = .returned (.bool true) ∧ Below w.heap.size w w' := by
  have k0 := awake_any w
  have d1 : decide (200 < (s.size : Int)) = false := by simp; omega
  have d2 : decide ((s.size : Int) < 4) = false := by simp; omega
  have hbs : b.size ≤ 1000000 := by rw [← hb]; simp; omega
  have k1 : Aside (∀ u : World, Calls Try.prog 8 #[.string s] u fun e w' => e = .returned (.tuple #[.string b, .bool true]) ∧ Below u.heap.size u w') := fun u => open_sealed s b u h4 (by omega) hb.symm h
  have k2 : Aside (∀ u : World, Calls Try.prog 12 #[.string b] u fun e w' => e = .returned (.string (sealed b)) ∧ Below u.heap.size u w') := fun u => refSeal_any b u hbs
  have e1 := toList_same h
  have e2 : (b.toList == b.toList) = true := beq_self_eq_true _
  clear h
  go_enter Try.func5, Try.ntmps5
  go_wp2_with (first
    | (go_at_call 6; refine k0.mono ?_; rintro e w1 ⟨rfl, hb1⟩)
    | (go_at_call 8; refine (k1.out _).mono ?_; rintro e w2 ⟨rfl, hb2⟩)
    | (go_at_call 12; rw [hb]; refine (k2.out _).mono ?_; rintro e w3 ⟨rfl, hb3⟩))
  go_ret
  have b2 := hb1.trans (hb2.mono hb1.size)
  exact ⟨rfl, b2.trans (hb3.mono b2.size)⟩

theorem any_no (s b : ByteArray) (w : World) (h4 : 4 ≤ s.size) (hs : s.size ≤ 200) (hb : s.extract 0 (s.size - 4) = b) (h : sealed b ≠ s) :
    Calls Try.prog 5 #[.string s] w fun e w' => e = .returned (.bool true) ∧ Below w.heap.size w w' := by
  have k0 := awake_any w
  have d1 : decide (200 < (s.size : Int)) = false := by simp; omega
  have d2 : decide ((s.size : Int) < 4) = false := by simp; omega
  have hbs : b.size ≤ 1000000 := by rw [← hb]; simp; omega
  have k1 : Aside (∀ u : World, Calls Try.prog 8 #[.string s] u fun e w' => e = .returned (.tuple #[.string ⟨#[]⟩, .bool false]) ∧ Below u.heap.size u w') := fun u => open_unsealed s b u h4 (by omega) hb.symm h
  have k2 : Aside (∀ u : World, Calls Try.prog 12 #[.string b] u fun e w' => e = .returned (.string (sealed b)) ∧ Below u.heap.size u w') := fun u => refSeal_any b u hbs
  have e1 := toList_ne h
  clear h
  go_enter Try.func5, Try.ntmps5
  go_wp2_with (first
    | (go_at_call 6; refine k0.mono ?_; rintro e w1 ⟨rfl, hb1⟩)
    | (go_at_call 8; refine (k1.out _).mono ?_; rintro e w2 ⟨rfl, hb2⟩)
    | (go_at_call 12; rw [hb]; refine (k2.out _).mono ?_; rintro e w3 ⟨rfl, hb3⟩))
  go_ret
  have b2 := hb1.trans (hb2.mono hb1.size)
  exact ⟨rfl, b2.trans (hb3.mono b2.size)⟩

theorem any_any (s : ByteArray) (w : World) :
    Calls Try.prog 5 #[.string s] w fun e w' => e = .returned (.bool true) ∧ Below w.heap.size w w' := by
  by_cases h1 : 200 < s.size
  · exact any_long s w h1
  · by_cases h2 : s.size < 4
    · exact any_short s w h2
    · by_cases h3 : sealed (s.extract 0 (s.size - 4)) = s
      · exact any_yes s _ w (by omega) (by omega) rfl h3
      · exact any_no s _ w (by omega) (by omega) rfl h3

theorem own : ownKnob Try.prog.godebug = none := by kernel_rfl

set_option maxRecDepth 100000 in
theorem crcAny_lifted (os : Os) (started : os.Started) (H : Type) (enc : TypeId × Value → H) :
    ReturnsInHanded {} Try.checked os 5 .any (Rows.crcAnySpec.pre6 enc Try.prog Try.f5 Rows.crcAnyRow.domain false) (Rows.crcAnySpec.post enc Try.prog Try.f5 false true false false) := by
  refine returnsInHanded_of_change (C := Try.checked) own started (by kernel_rfl) Try.func5
    (ChangeSpec.witness6 (enc := enc) (C := Try.checked) false ⟨#[], #[.string ByteArray.empty], []⟩ 8 (by kernel_rfl) (by kernel_rfl) (by kernel_rfl) (by kernel_rfl)) ?_
  intro W base args ds gs before hval0 hW _ _
  have hval : ∀ (j : Nat) t v, Try.f5.params[j]? = some t → args[j]? = some v → Value.okWide Try.prog W .any base t v := hval0
  have hW' := hW
  obtain ⟨p, q, hA0, hV, rfl, hfz, hnd⟩ := hW
  have hA : DataW.TrodAll enc Try.prog W 0 (fun _ => true) true Try.f5.params.toList args.toList ds p := hA0
  rw [Try.params5] at hA hval
  obtain ⟨v0, vs0, d0, ds0, p0, q0, hargs, rfl, rfl, h0, r0⟩ := trodAll_cons hA
  obtain ⟨rfl, rfl, rfl⟩ := trodAll_nil r0
  obtain rfl : args = #[v0] := by cases args; simp_all
  obtain ⟨rfl, rfl⟩ := trodVars_none hV
  obtain ⟨s0, rfl, rfl, rfl, w0⟩ := open_string Try.underlying9 (hval 0 9 v0 rfl rfl) h0
  clear hA0 hval0
  refine (any_any s0 W).mono fun e W' ⟨he, bel⟩ => ?_
  subst he
  exact ⟨_, rfl, _, _, _, [], _, [], hW', trodAll_mk1 (shut_bool Try.underlying4 _), trodAll_cons_mk (shut_string Try.underlying9 w0) trodAll_mk0, rfl, bel.frame _, fun h => by cases h⟩

theorem crcAny_holds : Rows.CrcAnySaid :=
  OpenClaim.holds_of_wide 5 Try.f5 rfl rfl rfl rfl rfl rfl rfl ⟨rfl, rfl, rfl, rfl, rfl⟩ rfl rfl rfl rfl rfl (by kernel_rfl) Try.func5 (by kernel_rfl)
    (of_decide_eq_true (by kernel_rfl)) (by unfold Func.isWrapper; first | (rw [if_pos (by decide +kernel)]; kernel_rfl) | (rw [if_neg (by decide +kernel)]; exact ⟨rfl, rfl⟩))
    (fun os started H enc _ => crcAny_lifted os started H enc)
#print axioms crcAny_holds
end Go.Proofs.Ytojcocbfgfgklaa
