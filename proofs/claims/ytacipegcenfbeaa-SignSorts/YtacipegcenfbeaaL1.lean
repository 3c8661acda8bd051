/-
  SignSorts: for every number the law answers true, and it reads behind the call as before. No condition.
-/
import Derived.Test.YtacipegcenfbeaaF4
import Derived.ProofKit
import Derived.OpenShut
import Derived.ShutString
import Derived.ChangeOld
import Derived.Below
namespace Go.Proofs.Ytacipegcenfbeaa
open Go.ChangeShapes Go.WideShapes Go.ChangeAt Go.RowKit
open Go.ChangeMaps (open_string shut_string)

theorem words_ab : (Sg.words ⟨#[32, 97, 32, 32, 98, 32]⟩).map (fun b => b.data.toList) = [[97], [98]] := by decide +kernel
theorem fold_arger : Sg.folds ⟨#[195, 132, 114, 103, 101, 114]⟩ 0 = [195, 164, 114, 103, 101, 114] := by decide +kernel
theorem len_a : Sg.len ⟨#[195, 132]⟩ = 1 := by decide +kernel
theorem sort_7 : sort 55 = 2 := by decide +kernel

theorem words_ab' : Sg.words ⟨#[32, 97, 32, 32, 98, 32]⟩ = [⟨#[97]⟩, ⟨#[98]⟩] := by
  have h := words_ab
  generalize Sg.words ⟨#[32, 97, 32, 32, 98, 32]⟩ = l at h
  match l, h with
  | [], h => simp at h
  | [a], h => simp at h
  | [a, b], h =>
    simp only [List.map_cons, List.map_nil, List.cons.injEq, and_true] at h
    obtain ⟨h1, h2⟩ := h
    have e1 : a = ⟨#[97]⟩ := ByteArray.ext (Array.toList_inj.1 h1)
    have e2 : b = ⟨#[98]⟩ := ByteArray.ext (Array.toList_inj.1 h2)
    rw [e1, e2]
  | a :: b :: c :: r, h => simp at h

theorem awake_any (w : World) : Calls Try.prog 6 #[] w fun e w' => e = .returned (.bool true) ∧ Below w.heap.size w w' := by
  have k1 := words_any ⟨#[32, 97, 32, 32, 98, 32]⟩ w (by decide)
  rw [words_ab'] at k1
  have k2 : ∀ u : World, _ := fun u => fold_any ⟨#[195, 132, 114, 103, 101, 114]⟩ u (by decide)
  rw [fold_arger] at k2
  have k3 : ∀ u : World, _ := fun u => count_any ⟨#[195, 132]⟩ u (by decide)
  rw [len_a] at k3
  have k4 := sort_any 55
  rw [sort_7] at k4
  go_enter Try.func6, Try.ntmps6
  go_wp2_with (go_at_call 18; refine k1.mono ?_)
  rintro e w1 ⟨v, rfl, hown, hb1⟩
  obtain ⟨a, c, rfl, hc⟩ := Strs.of_own hown
  obtain ⟨g, o, rfl, hg, hcell⟩ := hc 1 (by decide)
  clear hc hown
  simp only [List.length_cons, List.length_nil, Nat.zero_add, Nat.reduceAdd]
  have hcell : w1.cell? ⟨g, o + 1, none⟩ = some (.string ⟨#[98]⟩) := hcell
  go_wp2_with (first
    | (go_at_call 15; refine (k2 _).mono ?_; rintro e w2 ⟨rfl, hb2⟩)
    | (go_at_call 13; refine (k3 _).mono ?_; rintro e w3 ⟨rfl, hb3⟩; have hc3 : w3.cell? ⟨g, o + 1, none⟩ = some (.string ⟨#[98]⟩) := by rw [hb3.cell (by have := hb2.size; exact Nat.lt_of_lt_of_le hg this), hb2.cell (by exact hg)]; exact hcell)
    | (go_at_call 7; refine (k4 _).mono ?_; rintro e w4 ⟨rfl, rfl⟩))
  go_ret
  have b2 := hb1.trans (hb2.mono hb1.size)
  exact ⟨rfl, b2.trans (hb3.mono b2.size)⟩

theorem sorts_neg (r : Int) (w : World) (hr0 : -2147483648 ≤ r) (hr1 : r ≤ 2147483647) (h : r < 0) :
    Calls Try.prog 3 #[.int .i32 r] w fun e w' => e = .returned (.bool true) ∧ Below w.heap.size w w' := by
  have k0 := awake_any w
  have k1 := sort_any r
  have e1 : sort r = 0 := by unfold sort; rw [if_pos (by unfold ctl; omega)]
  rw [e1] at k1
  have k2 := refSort_any 0
  have e2 : sort 0 = 0 := by decide
  rw [e2] at k2
  have d1 : decide (r < 0) = true := by simpa using h
  clear e1 e2
  go_enter Try.func3, Try.ntmps3
  go_wp2_with (first
    | (go_at_call 6; refine k0.mono ?_; rintro e w1 ⟨rfl, hb1⟩)
    | (go_at_call 7; refine (k1 _).mono ?_; rintro e w2 ⟨rfl, rfl⟩)
    | (go_at_call 8; refine (k2 _).mono ?_; rintro e w3 ⟨rfl, rfl⟩))
  go_ret
  exact ⟨rfl, hb1⟩

theorem sorts_some (r : Int) (w : World) (hr0 : -2147483648 ≤ r) (hr1 : r ≤ 2147483647) (h : ¬ r < 0) :
    Calls Try.prog 3 #[.int .i32 r] w fun e w' => e = .returned (.bool true) ∧ Below w.heap.size w w' := by
  have k0 := awake_any w
  have k1 := sort_any r
  have k2 := refSort_any r
  have d1 : decide (r < 0) = false := by simpa using h
  have e1 : (sort r == sort r) = true := beq_self_eq_true _
  go_enter Try.func3, Try.ntmps3
  go_wp2_with (first
    | (go_at_call 6; refine k0.mono ?_; rintro e w1 ⟨rfl, hb1⟩)
    | (go_at_call 7; refine (k1 _).mono ?_; rintro e w2 ⟨rfl, rfl⟩)
    | (go_at_call 8; refine (k2 _).mono ?_; rintro e w3 ⟨rfl, rfl⟩))
  go_ret
  exact ⟨rfl, hb1⟩

theorem sorts_any (r : Int) (w : World) (hr0 : -2147483648 ≤ r) (hr1 : r ≤ 2147483647) :
    Calls Try.prog 3 #[.int .i32 r] w fun e w' => e = .returned (.bool true) ∧ Below w.heap.size w w' := by
  by_cases h : r < 0
  · exact sorts_neg r w hr0 hr1 h
  · exact sorts_some r w hr0 hr1 h

theorem i32_in {a : Int} (h : (Lit.int .i32 a).wf = true) : -2147483648 ≤ a ∧ a ≤ 2147483647 := by
  simp [Lit.wf, IntKind.min, IntKind.max, IntKind.signed, IntKind.bits] at h
  omega

theorem own : ownKnob Try.prog.godebug = none := by kernel_rfl

set_option maxRecDepth 100000 in
theorem signSorts_lifted (os : Os) (started : os.Started) (H : Type) (enc : TypeId × Value → H) :
    ReturnsInHanded {} Try.checked os 3 .any (Rows.signSortsSpec.pre6 enc Try.prog Try.f3 Rows.signSortsRow.domain false) (Rows.signSortsSpec.post enc Try.prog Try.f3 false true false false) := by
  refine returnsInHanded_of_change (C := Try.checked) own started (by kernel_rfl) Try.func3
    (ChangeSpec.witness6 (enc := enc) (C := Try.checked) false ⟨#[], #[.int .i32 0], []⟩ 8 (by kernel_rfl) (by kernel_rfl) (by kernel_rfl) (by kernel_rfl)) ?_
  intro W base args ds gs before hval0 hW _ _
  have hval : ∀ (j : Nat) t v, Try.f3.params[j]? = some t → args[j]? = some v → Value.okWide Try.prog W .any base t v := hval0
  have hW' := hW
  obtain ⟨p, q, hA0, hV, rfl, hfz, hnd⟩ := hW
  have hA : DataW.TrodAll enc Try.prog W 0 (fun _ => true) true Try.f3.params.toList args.toList ds p := hA0
  rw [Try.params3] at hA hval
  obtain ⟨v0, vs0, d0, ds0, p0, q0, hargs, rfl, rfl, h0, r0⟩ := trodAll_cons hA
  obtain ⟨rfl, rfl, rfl⟩ := trodAll_nil r0
  obtain rfl : args = #[v0] := by cases args; simp_all
  obtain ⟨rfl, rfl⟩ := trodVars_none hV
  obtain ⟨a0, rfl, rfl, rfl, w0⟩ := open_int Try.underlying21 (hval 0 21 v0 rfl rfl) h0
  clear hA0 hval0
  have hr := i32_in w0
  refine (sorts_any a0 W hr.1 hr.2).mono fun e W' ⟨he, bel⟩ => ?_
  subst he
  exact ⟨_, rfl, _, _, _, [], _, [], hW', trodAll_mk1 (shut_bool Try.underlying4 _), trodAll_cons_mk (shut_int Try.underlying21 w0) trodAll_mk0, rfl, bel.frame _, fun h => by cases h⟩

theorem signSorts_holds : Rows.SignSortsSaid :=
  OpenClaim.holds_of_wide 3 Try.f3 rfl rfl rfl rfl rfl rfl rfl ⟨rfl, rfl, rfl, rfl, rfl⟩ rfl rfl rfl rfl rfl (by kernel_rfl) Try.func3 (by kernel_rfl)
    (of_decide_eq_true (by kernel_rfl)) (by unfold Func.isWrapper; first | (rw [if_pos (by decide +kernel)]; kernel_rfl) | (rw [if_neg (by decide +kernel)]; exact ⟨rfl, rfl⟩))
    (fun os started H enc _ => signSorts_lifted os started H enc)
#print axioms signSorts_holds
end Go.Proofs.Ytacipegcenfbeaa
