/-
  FrameAny: for any bytes the law answers true, and they read behind the call as before. No condition.
-/
import Derived.Test.YtknobijonpdbbaaF7
import Derived.ProofKit
import Derived.OpenShut
import Derived.ShutString
import Derived.ChangeOld
import Derived.Below
namespace Go.Proofs.Ytknobijonpdbbaa
open Go.ChangeShapes Go.WideShapes Go.ChangeAt Go.RowKit
open Go.ChangeMaps (open_string shut_string)
theorem any_long (s : ByteArray) (w : World) (hs : 400 < s.size) :
    Calls Try.prog 5 #[.string s] w fun e w' => e = .returned (.bool true) ∧ Below w.heap.size w w' := by
  have k0 := awake_any w
  have d1 : decide (400 < (s.size : Int)) = true := by simp; omega
  go_enter Try.func5, Try.ntmps5
  go_wp2_with (go_at_call 8; refine k0.mono ?_; rintro e w1 ⟨rfl, hb1⟩)
  go_ret
  exact ⟨rfl, hb1⟩

theorem spx_acc : ∀ (n : Nat) (l : List UInt8) (acc : List (List UInt8)) (pos : Nat), l.length ≤ n → (Fr.spx l acc pos).1.length ≤ acc.length + l.length
  | n, l, acc, pos, h => by
    by_cases hl : l = []
    · subst hl; rw [Fr.spx_nil]; simp
    · by_cases h0 : (Fr.first l).2.2 = 0
      · rw [Fr.spx_ok acc pos hl h0]
        have h1 := Fr.first_ok h0
        cases n with
        | zero => exact absurd (List.eq_nil_of_length_eq_zero (by omega)) hl
        | succ n =>
          have := spx_acc n (l.drop (Fr.first l).2.1) (acc ++ [(Fr.first l).1]) (pos + (Fr.first l).2.1) (by rw [List.length_drop]; omega)
          rw [List.length_drop, List.length_append, List.length_singleton] at this
          omega
      · rw [Fr.spx_bad acc pos hl h0]; simp

theorem any_short (s : ByteArray) (w : World) (hs : s.size ≤ 400) :
    Calls Try.prog 5 #[.string s] w fun e w' => e = .returned (.bool true) ∧ Below w.heap.size w w' := by
  have k0 := awake_any w
  have d1 : decide (400 < (s.size : Int)) = false := by simp; omega
  have k1 : ∀ u : World, _ := fun u : World => first_any s u (by omega)
  have k2 : ∀ u : World, _ := fun u : World => refFirst_any s u (by omega)
  have k3 : ∀ u : World, _ := fun u : World => split_any s u (by omega)
  have k4 : ∀ u : World, _ := fun u : World => refSplit_any s u (by omega)
  unfold fst3 at k1 k2
  have hlen := spx_acc _ s.data.toList [] 0 (Nat.le_refl _)
  rw [list_len] at hlen
  generalize Fr.spx s.data.toList [] 0 = R at *
  obtain ⟨L, n, e⟩ := R
  simp only [List.length_nil, Nat.zero_add] at hlen
  generalize Fr.first s.data.toList = F at *
  obtain ⟨x, m, f⟩ := F
  simp only at k1 k2
  have e1 := bne_strs (rfl : bs x = bs x)
  have e2 := beq_strs' (rfl : bs x = bs x)
  have e3 : ((m : Int) != m) = false := by simp
  have e4 : ((f : Int) != f) = false := by simp
  have e5 : ((n : Int) == n) = true := by simp
  have e6 : ((e : Int) == e) = true := by simp
  have K1 := asd k1
  have K2 := asd k2
  have K3 := asd k3
  have K4 := asd k4
  clear k1 k2 k3 k4
  generalize bs x = X at *
  go_enter Try.func5, Try.ntmps5
  go_wp2_with (first
    | (go_at_call 8; refine k0.mono ?_; rintro e w0 ⟨rfl, hb0⟩; clear k0)
    | (go_at_call 14; refine (K1.out _).mono ?_; rintro e w1 ⟨rfl, hb1⟩; have B1 := asd (hb0.trans (hb1.mono hb0.size)); clear hb0 hb1)
    | (go_at_call 16; refine (K2.out _).mono ?_; rintro e w2 ⟨rfl, hb2⟩; have B2 := asd (B1.out.trans (hb2.mono B1.out.size)); clear hb2)
    | (go_at_call 12; refine (K3.out _).mono ?_; rintro e w3 h3; obtain ⟨v3, rfl, hs3, hb3⟩ := spl_strs h3; have B3 := asd (B2.out.trans (hb3.mono B2.out.size)); have S3 := asd hs3; clear hb3 h3 hs3)
    | (go_at_call 17; refine (K4.out _).mono ?_; rintro e w4 h4; obtain ⟨v4, rfl, hs4, hb4⟩ := spl_strs h4; have B4 := asd (B3.out.trans (hb4.mono B3.out.size)); have K5 := asd (same_yes v3 v4 _ w4 ((S3.out.later hb4).wider hb4.size) hs4 (by rw [List.length_map]; exact Nat.le_trans hlen (by omega))); clear hb4 h4 hs4)
    | (go_at_call 13; refine K5.out.mono ?_; rintro e w5 ⟨rfl, hb5⟩; have B5 := asd (B4.out.trans (hb5.mono B4.out.size)); clear hb5))
  go_ret
  exact ⟨rfl, B5.out⟩

theorem any_any (s : ByteArray) (w : World) :
    Calls Try.prog 5 #[.string s] w fun e w' => e = .returned (.bool true) ∧ Below w.heap.size w w' := by
  by_cases h1 : 400 < s.size
  · exact any_long s w h1
  · exact any_short s w (by omega)

theorem own : ownKnob Try.prog.godebug = none := by kernel_rfl

set_option maxRecDepth 100000 in
theorem frameAny_lifted (os : Os) (started : os.Started) (H : Type) (enc : TypeId × Value → H) :
    ReturnsInHanded {} Try.checked os 5 .any (Rows.frameAnySpec.pre6 enc Try.prog Try.f5 Rows.frameAnyRow.domain false) (Rows.frameAnySpec.post enc Try.prog Try.f5 false true false false) := by
  refine returnsInHanded_of_change (C := Try.checked) own started (by kernel_rfl) Try.func5
    (ChangeSpec.witness6 (enc := enc) (C := Try.checked) false ⟨#[], #[.string ByteArray.empty], []⟩ 8 (by kernel_rfl) (by kernel_rfl) (by kernel_rfl) (by kernel_rfl)) ?_
  intro W base args ds gs before hval0 hW _ _
  have hval : ∀ (j : Nat) t v, Try.f5.params[j]? = some t → args[j]? = some v → Value.okWide Try.prog W .any base t v := hval0
  have hW' := hW
  obtain ⟨p, q, hA0, hV, rfl, hfz, hnd⟩ := hW
  have hA : DataW.TrodAll enc Try.prog W 0 (fun _ => true) true Try.f5.params.toList args.toList ds p := hA0
  rw [Try.params5] at hA hval
  obtain ⟨v0, vs0, d0, ds0, p0, q0, hargs, rfl, rfl, h0, r0⟩ := trodAll_cons hA
  obtain ⟨rfl, rfl, rfl⟩ := trodAll_nil r0
  obtain rfl : args = #[v0] := by cases args; simp_all
  obtain ⟨rfl, rfl⟩ := trodVars_none hV
  obtain ⟨s0, rfl, rfl, rfl, w0⟩ := open_string Try.underlying9 (hval 0 9 v0 rfl rfl) h0
  clear hA0 hval0
  refine (any_any s0 W).mono fun e W' ⟨he, bel⟩ => ?_
  subst he
  exact ⟨_, rfl, _, _, _, [], _, [], hW', trodAll_mk1 (shut_bool Try.underlying4 _), trodAll_cons_mk (shut_string Try.underlying9 w0) trodAll_mk0, rfl, bel.frame _, fun h => by cases h⟩

theorem frameAny_holds : Rows.FrameAnySaid :=
  OpenClaim.holds_of_wide 5 Try.f5 rfl rfl rfl rfl rfl rfl rfl ⟨rfl, rfl, rfl, rfl, rfl⟩ rfl rfl rfl rfl rfl (by kernel_rfl) Try.func5 (by kernel_rfl)
    (of_decide_eq_true (by kernel_rfl)) (by unfold Func.isWrapper; first | (rw [if_pos (by decide +kernel)]; kernel_rfl) | (rw [if_neg (by decide +kernel)]; exact ⟨rfl, rfl⟩))
    (fun os started H enc _ => frameAny_lifted os started H enc)
#print axioms frameAny_holds
end Go.Proofs.Ytknobijonpdbbaa
