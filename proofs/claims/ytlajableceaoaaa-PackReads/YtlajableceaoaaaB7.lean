/-
  PackBack: for every list of items the law answers true, and the argument reads behind the call as before. No condition.
-/
import Derived.Test.YtlajableceaoaaaB6
namespace Go.Proofs.Ytlajableceaoaaa
open Go.ChangeShapes Go.WideShapes Go.ChangeAt Go.RowKit Go.Deep

/-- What the walks are told of a list of items that came in. -/
def IsItems (W : World) (a : Option Addr) (len : Nat) : Prop :=
  len = 0 ∨ ∃ b off kd nm st, a = some ⟨b, off, none⟩ ∧ Items W b off len kd nm st ∧ (∀ i, kd i < 256) ∧ b < W.heap.size

theorem isItems_open {H : Type} {enc : TypeId × Value → H} {W : World} {a : Option Addr} {len cap : Nat} {d : DataW H} {p : List MemPlace} (h : DataW.Trod enc Try.prog W 0 (fun _ => true) true 22 (.slice a len cap) d p) : IsItems W a len := by
  obtain ⟨fuel, hf⟩ := h
  rcases open_items hf with hcs | ⟨a', len', cap', kd, nm, st, hcs, hx⟩
  · simp [Value.cells] at hcs
    exact Or.inl hcs.2.1
  · simp [Value.cells] at hcs
    obtain ⟨rfl, rfl, rfl⟩ := hcs
    rcases Nat.eq_zero_or_pos len with h0 | hp
    · exact Or.inl h0
    · right
      obtain ⟨b, off, spot⟩ := a'
      have h00 := (hx 0 hp).1
      rw [Nat.zero_mul] at h00
      have hspot : spot = none := by simpa [Addr.add] using World.cell?_spot h00
      subst hspot
      refine ⟨b, off, fun i => kd i % 256, nm, st, rfl, fun i hi => ?_, fun i => Nat.mod_lt _ (by omega), ?_⟩
      · obtain ⟨c0, c1, c2, hk⟩ := hx i hi
        rw [add_plain] at c0 c1 c2
        have e : kd i % 256 = kd i := by omega
        refine ⟨by rw [show (fun i => kd i % 256) i = kd i from e]; exact c0, by rw [← Nat.add_assoc] at c1; exact c1, by rw [← Nat.add_assoc] at c2; exact c2⟩
      · rcases Nat.lt_or_ge b W.heap.size with hb | hb
        · exact hb
        · rw [add_plain] at h00
          simp [World.cell?, Array.getElem?_eq_none hb] at h00

theorem back_any (a : Option Addr) (len cap : Nat) (w : World) (h : IsItems w a len) :
    Calls Try.prog 3 #[.slice a len cap] w fun e w' => e = .returned (.bool true) ∧ Below w.heap.size w w' := by
  rcases Nat.lt_or_ge 40 len with hl | hl
  · exact back_long a len cap w hl
  · rcases h with rfl | ⟨b, off, kd, nm, st, rfl, hit, hkd, hb⟩
    · exact back_none a cap w
    · exact back_some b off len cap kd nm st w hit hkd hb hl

set_option maxRecDepth 100000 in
theorem packBack_lifted (os : Os) (started : os.Started) (H : Type) (enc : TypeId × Value → H) :
    ReturnsInHanded {} Try.checked os 3 .any (Rows.packBackSpec.pre6 enc Try.prog Try.f3 Rows.packBackRow.domain false) (Rows.packBackSpec.post enc Try.prog Try.f3 false true false false) := by
  refine returnsInHanded_of_change (C := Try.checked) ownB started (by kernel_rfl) Try.func3
    (ChangeSpec.witness6 (enc := enc) (C := Try.checked) false ⟨#[], #[.slice none 0 0], []⟩ 8 (by kernel_rfl) (by kernel_rfl) (by kernel_rfl) (by kernel_rfl)) ?_
  intro W base args ds gs before hval0 hW _ _
  have hval : ∀ (j : Nat) t v, Try.f3.params[j]? = some t → args[j]? = some v → Value.okWide Try.prog W .any base t v := hval0
  have hW' := hW
  obtain ⟨p, q, hA0, hV, rfl, hfz, hnd⟩ := hW
  have hA : DataW.TrodAll enc Try.prog W 0 (fun _ => true) true Try.f3.params.toList args.toList ds p := hA0
  rw [Try.params3] at hA hval
  obtain ⟨v0, vs0, d0, ds0, p0, q0, hargs, rfl, rfl, h0, r0⟩ := trodAll_cons hA
  obtain ⟨rfl, rfl, rfl⟩ := trodAll_nil r0
  obtain rfl : args = #[v0] := by cases args; simp_all
  obtain ⟨rfl, rfl⟩ := trodVars_none hV
  obtain ⟨a0, len0, cap0, rfl⟩ := okWide_slice Try.underlying22 (hval 0 22 v0 rfl rfl)
  have lt0 : ∀ x ∈ p0, x.block < W.heap.size := by obtain ⟨m, hm⟩ := h0; exact DataW.trod_lt m _ _ _ hm
  clear hA0 hval0
  refine (back_any a0 len0 cap0 W (isItems_open h0)).mono fun e W' ⟨he, bel⟩ => ?_
  subst he
  exact ⟨_, rfl, _, _, _, [], _, [], hW', trodAll_mk1 (shut_bool Try.underlying4 _), trodAll_cons_mk (Below.trod laidOut (by kernel_rfl) (of_decide_eq_true (by kernel_rfl)) h0 bel lt0) trodAll_mk0, rfl, bel.frame _, fun h => by cases h⟩

theorem packBack_holds : Rows.PackBackSaid :=
  OpenClaim.holds_of_wide 3 Try.f3 rfl rfl rfl rfl rfl rfl rfl ⟨rfl, rfl, rfl, rfl, rfl⟩ rfl rfl rfl rfl rfl (by kernel_rfl) Try.func3 (by kernel_rfl)
    (of_decide_eq_true (by kernel_rfl)) (by unfold Func.isWrapper; first | (rw [if_pos (by decide +kernel)]; kernel_rfl) | (rw [if_neg (by decide +kernel)]; exact ⟨rfl, rfl⟩))
    (fun os started H enc _ => packBack_lifted os started H enc)
#print axioms packBack_holds
end Go.Proofs.Ytlajableceaoaaa
