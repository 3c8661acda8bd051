/-
  PackNumbers: for every two numbers the law answers true, and the arguments read as before. No condition.
-/
import Derived.Test.YtlajableceaoaaaN1
import Derived.ProofKit
import Derived.OpenShut
import Derived.ShutString
import Derived.ChangeOld
import Derived.Below
namespace Go.Proofs.Ytlajableceaoaaa
open Go.ChangeShapes Go.WideShapes Go.ChangeAt Go.RowKit

theorem own : ownKnob Try.prog.godebug = none := by kernel_rfl

theorem toList_mk (l : List UInt8) : (ByteArray.mk l.toArray).toList = l := by rw [ByteArray.toList_eq]

theorem numbers_any (a b : Int) (w : World) : Calls Try.prog 5 #[.int .i64 a, .int .i64 b] w fun e w' => e = .returned (.bool true) ∧ Below w.heap.size w w' := by
  by_cases h : a < 0 ∨ b < 0 ∨ 4611686018427387904 < a ∨ 4611686018427387904 < b
  · exact numbers_out a b w h
  · obtain ⟨n, rfl⟩ := Int.eq_ofNat_of_zero_le (show 0 ≤ a by omega)
    obtain ⟨m, rfl⟩ := Int.eq_ofNat_of_zero_le (show 0 ≤ b by omega)
    have hn : n ≤ 4611686018427387904 := by omega
    have hm : m ≤ 4611686018427387904 := by omega
    have l1 := Pk.numB_len hn
    refine numbers_in n m n m rfl rfl w hn hm ⟨(Pk.numB n).toArray⟩ ⟨(Pk.numB m).toArray⟩ rfl rfl ?_ ?_ (decide (n = m)) (decide (n < m)) ?_ ?_ (decide ((Pk.numB n).length ≠ (Pk.numB m).length)) ?_ ?_ ?_ (decide (m < n)) ?_ ?_
    · rw [size_mk]
      exact decide_eq_true (by omega)
    · rw [size_mk]
      exact decide_eq_true (by omega)
    · rw [toList_mk, toList_mk, Bool.eq_iff_iff, beq_iff_eq, decide_eq_true_iff]
      exact Pk.numB_inj hn hm
    · rw [Bool.eq_iff_iff, beq_iff_eq, decide_eq_true_iff]
      omega
    · rw [size_mk, size_mk, Bool.eq_iff_iff, bne_iff_ne, decide_eq_true_iff]
      omega
    · intro he
      rw [decide_eq_false_iff_not] at he
      rw [toList_mk, toList_mk]
      exact Pk.numB_less hn hm (by omega)
    · rw [decide_eq_decide]
      omega
    · rw [decide_eq_decide]
      omega
    · intro he
      rw [decide_eq_false_iff_not] at he
      rw [size_mk, size_mk]
      exact Pk.numB_mono hn hm (by omega)

set_option maxRecDepth 100000 in
theorem packNumbers_lifted (os : Os) (started : os.Started) (H : Type) (enc : TypeId × Value → H) :
    ReturnsInHanded {} Try.checked os 5 .any (Rows.packNumbersSpec.pre6 enc Try.prog Try.f5 Rows.packNumbersRow.domain false) (Rows.packNumbersSpec.post enc Try.prog Try.f5 false true false false) := by
  refine returnsInHanded_of_change (C := Try.checked) own started (by kernel_rfl) Try.func5
    (ChangeSpec.witness6 (enc := enc) (C := Try.checked) false ⟨#[], #[.int .i64 0, .int .i64 0], []⟩ 8 (by kernel_rfl) (by kernel_rfl) (by kernel_rfl) (by kernel_rfl)) ?_
  intro W base args ds gs before hval0 hW _ _
  have hval : ∀ (j : Nat) t v, Try.f5.params[j]? = some t → args[j]? = some v → Value.okWide Try.prog W .any base t v := hval0
  have hW' := hW
  obtain ⟨p, q, hA0, hV, rfl, hfz, hnd⟩ := hW
  have hA : DataW.TrodAll enc Try.prog W 0 (fun _ => true) true Try.f5.params.toList args.toList ds p := hA0
  rw [Try.params5] at hA hval
  obtain ⟨v0, vs0, d0, ds0, p0, q0, hargs, rfl, rfl, h0, r0⟩ := trodAll_cons hA
  obtain ⟨v1, vs1, d1, ds1, p1, q1, rfl, rfl, rfl, h1, r1⟩ := trodAll_cons r0
  obtain ⟨rfl, rfl, rfl⟩ := trodAll_nil r1
  obtain rfl : args = #[v0, v1] := by cases args; simp_all
  obtain ⟨rfl, rfl⟩ := trodVars_none hV
  obtain ⟨a0, rfl, rfl, rfl, w0⟩ := open_int Try.underlying3 (hval 0 3 v0 rfl rfl) h0
  obtain ⟨a1, rfl, rfl, rfl, w1⟩ := open_int Try.underlying3 (hval 1 3 v1 rfl rfl) h1
  clear hA0 hval0
  refine (numbers_any a0 a1 W).mono fun e W' ⟨he, bel⟩ => ?_
  subst he
  exact ⟨_, rfl, _, _, _, [], _, [], hW', trodAll_mk1 (shut_bool Try.underlying4 _), trodAll_cons_mk (shut_int Try.underlying3 w0) (trodAll_cons_mk (shut_int Try.underlying3 w1) trodAll_mk0), rfl, bel.frame _, fun h => by cases h⟩

theorem packNumbers_holds : Rows.PackNumbersSaid :=
  OpenClaim.holds_of_wide 5 Try.f5 rfl rfl rfl rfl rfl rfl rfl ⟨rfl, rfl, rfl, rfl, rfl⟩ rfl rfl rfl rfl rfl (by kernel_rfl) Try.func5 (by kernel_rfl)
    (of_decide_eq_true (by kernel_rfl)) (by unfold Func.isWrapper; first | (rw [if_pos (by decide +kernel)]; kernel_rfl) | (rw [if_neg (by decide +kernel)]; exact ⟨rfl, rfl⟩))
    (fun os started H enc _ => packNumbers_lifted os started H enc)
#print axioms packNumbers_holds
end Go.Proofs.Ytlajableceaoaaa
