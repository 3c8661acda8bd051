/-
  PackReads: for any bytes and any list of items the law answers true, and the arguments read behind the call as before. No condition.
-/
import Derived.Test.YtlajableceaoaaaR4
import Derived.Test.YtlajableceaoaaaB7
namespace Go.Proofs.Ytlajableceaoaaa
open Go.ChangeShapes Go.WideShapes Go.ChangeAt Go.RowKit Go.Deep
open Go.ChangeMaps (open_string shut_string)

theorem reads_long (s : ByteArray) (a : Option Addr) (len cap : Nat) (w : World) (h : 60 < s.size ∨ 20 < len) :
    Calls Try.prog 4 #[.string s, .slice a len cap] w fun e w' => e = .returned (.bool true) ∧ Below w.heap.size w w' := by
  have k0 := awake_any (w.alloc (.cells #[.string s] 9))
  have X0 : Aside (Box (w.alloc (.cells #[.string s] 9)) w.heap.size 9 (.string s)) := heap_alloc_new w _
  have hbelow : Aside (Below w.heap.size w (w.alloc (.cells #[.string s] 9))) := (Below.refl _ _).alloc (Nat.le_refl _) _
  have fin : Aside (∀ u, Below (w.alloc (.cells #[.string s] 9)).heap.size (w.alloc (.cells #[.string s] 9)) u → Below w.heap.size w u) := fun u hu => hbelow.out.trans (hu.mono (by simp))
  by_cases h1 : 60 < s.size
  · have d1 : decide (60 < (s.size : Int)) = true := by simp; omega
    go_enter Try.func4, Try.ntmps4
    go_wp2_with (go_at_call 6; refine k0.mono ?_; rintro e w1 ⟨rfl, hb1⟩; have s1 := X0.out.below hb1 X0.out.lt; have c1 := s1.c)
    go_ret
    exact ⟨rfl, fin.out _ hb1⟩
  · have d1 : decide (60 < (s.size : Int)) = false := by simp; omega
    have d2 : decide (20 < (len : Int)) = true := by simp; omega
    go_enter Try.func4, Try.ntmps4
    go_wp2_with (go_at_call 6; refine k0.mono ?_; rintro e w1 ⟨rfl, hb1⟩; have s1 := X0.out.below hb1 X0.out.lt; have c1 := s1.c)
    go_ret
    exact ⟨rfl, fin.out _ hb1⟩

set_option maxHeartbeats 1600000 in
set_option maxRecDepth 1000000 in
theorem reads_none (s : ByteArray) (a : Option Addr) (cap : Nat) (w : World) (hs : s.size ≤ 60) :
    Calls Try.prog 4 #[.string s, .slice a 0 cap] w fun e w' => e = .returned (.bool true) ∧ Below w.heap.size w w' := by
  have k0 := awake_any (w.alloc (.cells #[.string s] 9))
  have X0 : Aside (Box (w.alloc (.cells #[.string s] 9)) w.heap.size 9 (.string s)) := heap_alloc_new w _
  have hbelow : Aside (Below w.heap.size w (w.alloc (.cells #[.string s] 9))) := (Below.refl _ _).alloc (Nat.le_refl _) _
  have fin : Aside (∀ u, Below (w.alloc (.cells #[.string s] 9)).heap.size (w.alloc (.cells #[.string s] 9)) u → Below w.heap.size w u) := fun u hu => hbelow.out.trans (hu.mono (by simp))
  have d1 : decide (60 < (s.size : Int)) = false := by simp; omega
  go_enter Try.func4, Try.ntmps4
  go_wp2_with (first
    | (go_at_call 6; refine k0.mono ?_; rintro e w1 ⟨rfl, hb1⟩; have s1 := X0.out.below hb1 X0.out.lt; have c1 := s1.c)
    | (go_at_call 14; refine (open_any s _).mono ?_; rintro e w2 ⟨rfl, ha2, hb2⟩))
  have Z : Aside (Below w.heap.size w (w2.alloc (.cells #[.bool false] 4))) := by
    have b1 := fin.out _ hb1
    have b2 := b1.trans (hb2.mono b1.size)
    exact b2.alloc b2.size _
  clear ha2 hb2 hb1 s1 c1 k0 X0
  refine wp_loop_rounds 1 ?_
  rw [rounds_succ]
  go_wp2
  go_ret
  exact ⟨rfl, Z.out⟩

theorem reads_any (s : ByteArray) (a : Option Addr) (len cap : Nat) (w : World) (h : IsItems w a len) :
    Calls Try.prog 4 #[.string s, .slice a len cap] w fun e w' => e = .returned (.bool true) ∧ Below w.heap.size w w' := by
  by_cases hl : 60 < s.size ∨ 20 < len
  · exact reads_long s a len cap w hl
  · rcases h with rfl | ⟨b, off, kd, nm, st, rfl, hit, hkd, hb⟩
    · exact reads_none s a cap w (by omega)
    · exact reads_some s b off len cap kd nm st w hit hkd hb (by omega) (by omega)

set_option maxRecDepth 100000 in
theorem packReads_lifted (os : Os) (started : os.Started) (H : Type) (enc : TypeId × Value → H) :
    ReturnsInHanded {} Try.checked os 4 .any (Rows.packReadsSpec.pre6 enc Try.prog Try.f4 Rows.packReadsRow.domain false) (Rows.packReadsSpec.post enc Try.prog Try.f4 false true false false) := by
  refine returnsInHanded_of_change (C := Try.checked) ownB started (by kernel_rfl) Try.func4
    (ChangeSpec.witness6 (enc := enc) (C := Try.checked) false ⟨#[], #[.string ByteArray.empty, .slice none 0 0], []⟩ 8 (by kernel_rfl) (by kernel_rfl) (by kernel_rfl) (by kernel_rfl)) ?_
  intro W base args ds gs before hval0 hW _ _
  have hval : ∀ (j : Nat) t v, Try.f4.params[j]? = some t → args[j]? = some v → Value.okWide Try.prog W .any base t v := hval0
  have hW' := hW
  obtain ⟨p, q, hA0, hV, rfl, hfz, hnd⟩ := hW
  have hA : DataW.TrodAll enc Try.prog W 0 (fun _ => true) true Try.f4.params.toList args.toList ds p := hA0
  rw [Try.params4] at hA hval
  obtain ⟨v0, vs0, d0, ds0, p0, q0, hargs, rfl, rfl, h0, r0⟩ := trodAll_cons hA
  obtain ⟨v1, vs1, d1, ds1, p1, q1, rfl, rfl, rfl, h1, r1⟩ := trodAll_cons r0
  obtain ⟨rfl, rfl, rfl⟩ := trodAll_nil r1
  obtain rfl : args = #[v0, v1] := by cases args; simp_all
  obtain ⟨rfl, rfl⟩ := trodVars_none hV
  obtain ⟨s0, rfl, rfl, rfl, w0⟩ := open_string Try.underlying9 (hval 0 9 v0 rfl rfl) h0
  obtain ⟨a1, len1, cap1, rfl⟩ := okWide_slice Try.underlying22 (hval 1 22 v1 rfl rfl)
  have lt1 : ∀ x ∈ p1, x.block < W.heap.size := by obtain ⟨m, hm⟩ := h1; exact DataW.trod_lt m _ _ _ hm
  clear hA0 hval0
  refine (reads_any s0 a1 len1 cap1 W (isItems_open h1)).mono fun e W' ⟨he, bel⟩ => ?_
  subst he
  exact ⟨_, rfl, _, _, _, [], _, [], hW', trodAll_mk1 (shut_bool Try.underlying4 _), trodAll_cons_mk (shut_string Try.underlying9 w0) (trodAll_cons_mk (Below.trod laidOut (by kernel_rfl) (of_decide_eq_true (by kernel_rfl)) h1 bel lt1) trodAll_mk0), rfl, bel.frame _, fun h => by cases h⟩

theorem packReads_holds : Rows.PackReadsSaid :=
  OpenClaim.holds_of_wide 4 Try.f4 rfl rfl rfl rfl rfl rfl rfl ⟨rfl, rfl, rfl, rfl, rfl⟩ rfl rfl rfl rfl rfl (by kernel_rfl) Try.func4 (by kernel_rfl)
    (of_decide_eq_true (by kernel_rfl)) (by unfold Func.isWrapper; first | (rw [if_pos (by decide +kernel)]; kernel_rfl) | (rw [if_neg (by decide +kernel)]; exact ⟨rfl, rfl⟩))
    (fun os started H enc _ => packReads_lifted os started H enc)
#print axioms packReads_holds
end Go.Proofs.Ytlajableceaoaaa
