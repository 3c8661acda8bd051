/-
  CanonPrints, as the tied card: for any three texts the law answers true, and the texts read behind the call as before; the listed variables, the table of the digest's constants among them, are tied to the program's text. No other condition.
-/
import Derived.Test.YtkijglkjpgjdaaaDoorL1
import Derived.Test.YtkijglkjpgjdaaaDoorQ
namespace Go.Proofs.YtkijglkjpgjdaaaDoor
open Go.ChangeShapes Go.WideShapes Go.ChangeAt Go.RowKit
open Go.ChangeMaps (open_string shut_string)

theorem prints_long (m p b : ByteArray) (w : World) (hT : Ha.Tab w) (h : 100 < m.size ∨ 100 < p.size ∨ 100 < b.size) :
    Calls Tryd.prog 5 #[.string m, .string p, .string b] w fun e w' => e = .returned (.bool true) ∧ Below w.heap.size w w' := by
  have k0 := awake_any w hT
  by_cases h1 : 100 < m.size
  · have d1 : decide (100 < (m.size : Int)) = true := by simp; omega
    go_enter Tryd.func5, Tryd.ntmps5
    go_wp2_with (go_at_call 7; refine k0.mono ?_; rintro e w1 ⟨rfl, hb1⟩)
    go_ret
    exact ⟨rfl, hb1⟩
  · have d1 : decide (100 < (m.size : Int)) = false := by simp; omega
    by_cases h2 : 100 < p.size
    · have d2 : decide (100 < (p.size : Int)) = true := by simp; omega
      go_enter Tryd.func5, Tryd.ntmps5
      go_wp2_with (go_at_call 7; refine k0.mono ?_; rintro e w1 ⟨rfl, hb1⟩)
      go_ret
      exact ⟨rfl, hb1⟩
    · have d2 : decide (100 < (p.size : Int)) = false := by simp; omega
      have d3 : decide (100 < (b.size : Int)) = true := by simp; omega
      go_enter Tryd.func5, Tryd.ntmps5
      go_wp2_with (go_at_call 7; refine k0.mono ?_; rintro e w1 ⟨rfl, hb1⟩)
      go_ret
      exact ⟨rfl, hb1⟩

set_option maxHeartbeats 1600000 in
theorem prints_empty (m p b : ByteArray) (w : World) (hT : Ha.Tab w) (h1 : m.size ≤ 100) (h2 : p.size = 0) (h3 : b.size ≤ 100) :
    Calls Tryd.prog 5 #[.string m, .string p, .string b] w fun e w' => e = .returned (.bool true) ∧ Below w.heap.size w w' := by
  have k0 := awake_any w hT
  have k1 : Aside (∀ u : World, Ha.Tab u → _) := fun u hu => print_any m p b u hu (by omega) (by omega) (by omega)
  have k2 : Aside (∀ u : World, _) := fun u => refPrint_any m p b u (by omega) (by omega) (by omega)
  generalize print m p b = D at *
  have d0 : (D.toList != D.toList) = false := by simp
  have d1 : decide (100 < (m.size : Int)) = false := by simp; omega
  have d2 : decide (100 < (p.size : Int)) = false := by simp; omega
  have d3 : decide (100 < (b.size : Int)) = false := by simp; omega
  have d4 : ((p.size : Int) == 0) = true := by rw [beq_iff_eq]; omega
  have HT : Aside (Ha.Tab w) := hT
  clear hT
  go_enter Tryd.func5, Tryd.ntmps5
  go_wp2_with (first
    | (go_at_call 7; refine k0.mono ?_; rintro e w1 ⟨rfl, hb1⟩)
    | (go_at_call 14; refine (k1.out _ (HT.out.later hb1)).mono ?_; rintro e w2 ⟨rfl, hb2⟩)
    | (go_at_call 15; refine (k2.out _).mono ?_; rintro e w3 ⟨rfl, hb3⟩))
  go_ret
  have b2 := hb1.trans (hb2.mono hb1.size)
  exact ⟨rfl, b2.trans (hb3.mono b2.size)⟩

set_option maxHeartbeats 4000000 in
theorem prints_some (m p b : ByteArray) (w : World) (hT : Ha.Tab w) (h1 : m.size ≤ 100) (h2 : 1 ≤ p.size) (h2' : p.size ≤ 100) (h3 : b.size ≤ 100) :
    Calls Tryd.prog 5 #[.string m, .string p, .string b] w fun e w' => e = .returned (.bool true) ∧ Below w.heap.size w w' := by
  have k0 := awake_any w hT
  have z1 : (p.extract 0 1).size = 1 := by rw [Si.cut_size p 0 1 h2]
  have z2 : (p.extract 1 p.size).size = p.size - 1 := Si.cut_size p 1 p.size (Nat.le_refl _)
  have z3 : (m ++ p.extract 0 1).size ≤ 101 := by rw [ByteArray.size_append]; omega
  have k1 : Aside (∀ (x y z : ByteArray) (u : World), Ha.Tab u → x.size ≤ 10000 → y.size ≤ 10000 → z.size ≤ 10000 → Calls Tryd.prog 14 #[.string x, .string y, .string z] u fun e w' => e = .returned (.string (print x y z)) ∧ Below u.heap.size u w') := fun x y z u hu a b c => print_any x y z u hu a b c
  have k2 : Aside (∀ (x y z : ByteArray) (u : World), x.size ≤ 10000 → y.size ≤ 10000 → z.size ≤ 10000 → Calls Tryd.prog 15 #[.string x, .string y, .string z] u fun e w' => e = .returned (.string (print x y z)) ∧ Below u.heap.size u w') := fun x y z u a b c => refPrint_any x y z u a b c
  generalize print = F at *
  have d0 : ((F m p b).toList != (F m p b).toList) = false := by simp
  have d1 : decide (100 < (m.size : Int)) = false := by simp; omega
  have d2 : decide (100 < (p.size : Int)) = false := by simp; omega
  have d3 : decide (100 < (b.size : Int)) = false := by simp; omega
  have d4 : ((p.size : Int) == 0) = false := by rw [beq_eq_false_iff_ne]; omega
  have q1 : ¬ 9223372036854775807 < m.size + 1 := by omega
  have HT : Aside (Ha.Tab w) := hT
  clear hT
  by_cases h : F (m ++ p.extract 0 1) (p.extract 1 p.size) b = F m p b
  · have d00 : ((F (m ++ p.extract 0 1) (p.extract 1 p.size) b).toList != (F m p b).toList) = false := by rw [h]; simp
    have d01 : ((F (m ++ p.extract 0 1) (p.extract 1 p.size) b).toList == (F m p b).toList) = true := by rw [h]; simp
    clear h
    go_enter Tryd.func5, Tryd.ntmps5
    go_wp2_with (first
      | (go_at_call 7; refine k0.mono ?_; rintro e w1 ⟨rfl, hb1⟩)
      | (go_at_call 14; refine (k1.out _ _ _ _ (HT.out.later hb1) (by omega) (by omega) (by omega)).mono ?_; rintro e w2 ⟨rfl, hb2⟩; have b2 := hb1.trans (hb2.mono hb1.size))
      | (go_at_call 15; refine (k2.out _ _ _ _ (by omega) (by omega) (by omega)).mono ?_; rintro e w3 ⟨rfl, hb3⟩; have b3 := b2.trans (hb3.mono b2.size)))
    clear hb1 hb2 hb3 b2 k0
    have hT3 : Aside (Ha.Tab w3) := HT.out.later b3
    have hne := later_some w3
    refine wp_region_later (by kernel_rfl) (by kernel_rfl) ?_
    repeat (go_big_quiet_step ((go_at_call 14; exact calls_later (k1.out _ _ _ _ (hT3.out.later (Later.bel _)) (by omega) (by omega) (by omega)))))
    refine wpQuiet_nil ?_
    rintro _ ⟨q, rfl⟩
    have b4 := b3.trans (q.bel.mono b3.size)
    clear hne b3 hT3
    generalize q.u = w4 at *
    go_wp2_with fail
    have hne := later_some w4
    refine wp_region_later (by kernel_rfl) (by kernel_rfl) ?_
    repeat (go_big_quiet_step ((go_at_call 15; exact calls_later (k2.out _ _ _ _ (by omega) (by omega) (by omega)))))
    refine wpQuiet_nil ?_
    rintro _ ⟨q2, rfl⟩
    have b5 := b4.trans (q2.bel.mono b4.size)
    clear hne
    go_wp2
    go_ret
    exact ⟨rfl, b5⟩
  · have d00 : ((F (m ++ p.extract 0 1) (p.extract 1 p.size) b).toList != (F m p b).toList) = true := by
      simp only [bne_iff_ne, ne_eq]
      intro e
      apply h
      apply ByteArray.ext
      rw [ByteArray.toList_eq, ByteArray.toList_eq] at e
      exact Array.toList_inj.1 e
    have d02 : ((F (m ++ p.extract 0 1) (p.extract 1 p.size) b).toList == (F m p b).toList) = false := by
      rw [beq_eq_false_iff_ne]
      simpa using d00
    have d03 : ¬ ((F (m ++ p.extract 0 1) (p.extract 1 p.size) b).toList = (F m p b).toList) := by simpa using d00
    clear h
    go_enter Tryd.func5, Tryd.ntmps5
    go_wp2_with (first
      | (go_at_call 7; refine k0.mono ?_; rintro e w1 ⟨rfl, hb1⟩)
      | (go_at_call 14; refine (k1.out _ _ _ _ (HT.out.later hb1) (by omega) (by omega) (by omega)).mono ?_; rintro e w2 ⟨rfl, hb2⟩; have b2 := hb1.trans (hb2.mono hb1.size))
      | (go_at_call 15; refine (k2.out _ _ _ _ (by omega) (by omega) (by omega)).mono ?_; rintro e w3 ⟨rfl, hb3⟩; have b3 := b2.trans (hb3.mono b2.size)))
    clear hb1 hb2 hb3 b2 k0
    have hT3 : Aside (Ha.Tab w3) := HT.out.later b3
    have hne := later_some w3
    refine wp_region_later (by kernel_rfl) (by kernel_rfl) ?_
    repeat (go_big_quiet_step ((go_at_call 14; exact calls_later (k1.out _ _ _ _ (hT3.out.later (Later.bel _)) (by omega) (by omega) (by omega)))))
    refine wpQuiet_nil ?_
    rintro _ ⟨q, rfl⟩
    have b4 := b3.trans (q.bel.mono b3.size)
    clear hne b3 hT3
    generalize q.u = w4 at *
    go_wp2_with fail
    have hne := later_some w4
    refine wp_region_later (by kernel_rfl) (by kernel_rfl) ?_
    repeat (go_big_quiet_step (fail))
    refine wpQuiet_nil ?_
    rintro _ ⟨q2, rfl⟩
    have b5 := b4.trans (q2.bel.mono b4.size)
    clear hne
    go_wp2
    go_ret
    exact ⟨rfl, b5⟩

theorem prints_any (m p b : ByteArray) (w : World) (hT : Ha.Tab w) :
    Calls Tryd.prog 5 #[.string m, .string p, .string b] w fun e w' => e = .returned (.bool true) ∧ Below w.heap.size w w' := by
  by_cases h : 100 < m.size ∨ 100 < p.size ∨ 100 < b.size
  · exact prints_long m p b w hT h
  · by_cases h0 : p.size = 0
    · exact prints_empty m p b w hT (by omega) h0 (by omega)
    · exact prints_some m p b w hT (by omega) (by omega) (by omega) (by omega)

set_option maxRecDepth 100000 in
theorem canonPrints_lifted (os : Os) (started : os.Started) (H : Type) (enc : TypeId × Value → H) :
    ReturnsInHanded {} Tryd.checked os 5 .any (fun w args => (Rows.canonPrintsSpec.pre enc Tryd.prog Tryd.f5 [] false w args ∧ laidMetH Tryd.prog laid4 w) ∧ sizedMet enc Tryd.prog Tryd.f5 (OpenSpec.ofChange Rows.canonPrintsSpec) false w args)
      (Rows.canonPrintsSpec.post enc Tryd.prog Tryd.f5 false true false false) := by
  refine returnsInHanded_of_change_and (C := Tryd.checked) (X := fun w _ => laidMetH Tryd.prog laid4 w) (fun _ _ _ hh h => h.of_heap hh) own started (by kernel_rfl) Tryd.func5
    (ChangeSpec.witness_shaped (enc := enc) (C := Tryd.checked) (os := os) (X := fun w _ => laidMetH Tryd.prog laid4 w) false (World.laidAll Tryd.prog os laid4) #[.string ByteArray.empty, .string ByteArray.empty, .string ByteArray.empty] 8 (World.laidAll_os _ _ _) (World.shaped_of_ZipB (by kernel_rfl) (by kernel_rfl)) (by kernel_rfl) (by kernel_rfl) (by kernel_rfl) (door_met os _)) ?_
  intro W base args ds gs before hval0 hW _ _ hL _
  have hval : ∀ (j : Nat) t v, Tryd.f5.params[j]? = some t → args[j]? = some v → Value.okWide Tryd.prog W .any base t v := hval0
  have hW' := hW
  obtain ⟨p, q, hA0, hV, rfl, hfz, hnd⟩ := hW
  have hA : DataW.TrodAll enc Tryd.prog W 0 (fun _ => true) true Tryd.f5.params.toList args.toList ds p := hA0
  rw [Tryd.params5] at hA hval
  obtain ⟨v0, vs0, d0, ds0, p0, q0, hargs, rfl, rfl, h0, r0⟩ := trodAll_cons hA
  obtain ⟨v1, vs1, d1, ds1, p1, q1, rfl, rfl, rfl, h1, r1⟩ := trodAll_cons r0
  obtain ⟨v2, vs2, d2, ds2, p2, q2, rfl, rfl, rfl, h2, r2⟩ := trodAll_cons r1
  obtain ⟨rfl, rfl, rfl⟩ := trodAll_nil r2
  obtain rfl : args = #[v0, v1, v2] := by cases args; simp_all
  obtain ⟨rfl, rfl⟩ := trodVars_none hV
  obtain ⟨s0, rfl, rfl, rfl, w0⟩ := open_string Tryd.underlying9 (hval 0 9 v0 rfl rfl) h0
  obtain ⟨s1, rfl, rfl, rfl, w1⟩ := open_string Tryd.underlying9 (hval 1 9 v1 rfl rfl) h1
  obtain ⟨s2, rfl, rfl, rfl, w2⟩ := open_string Tryd.underlying9 (hval 2 9 v2 rfl rfl) h2
  clear hA0 hval0
  refine (prints_any s0 s1 s2 W (tab_of_laid hL)).mono fun e W' ⟨he, bel⟩ => ?_
  subst he
  exact ⟨_, rfl, _, _, _, [], _, [], hW', trodAll_mk1 (shut_bool Tryd.underlying4 _), trodAll_cons_mk (shut_string Tryd.underlying9 w0) (trodAll_cons_mk (shut_string Tryd.underlying9 w1) (trodAll_cons_mk (shut_string Tryd.underlying9 w2) trodAll_mk0)), rfl, bel.frame _, fun h => by cases h⟩

theorem canonPrints_row : Rows.CanonPrintsSaid :=
  OpenClaim.holds_of_wide 5 Tryd.f5 rfl rfl rfl rfl rfl rfl rfl ⟨rfl, rfl, rfl, rfl, rfl⟩ rfl rfl rfl rfl rfl (by kernel_rfl) Tryd.func5 (by kernel_rfl)
    (of_decide_eq_true (by kernel_rfl)) (by unfold Func.isWrapper; first | (rw [if_pos (by decide +kernel)]; kernel_rfl) | (rw [if_neg (by decide +kernel)]; exact ⟨rfl, rfl⟩))
    (fun os started H enc _ => canonPrints_lifted os started H enc)

theorem canonPrints_holds : Rows.CanonPrintsCardSaid :=
  Claim7.holds_tied_plain_at .later [] [.data, .data, .pinned, .pinned] true (true, "2cdd596f11ff8d6560d73677dbb3e5c5173416df5e171f46a947bb3e065a17dc") false
    canonPrints_row (fun _ h => by cases h) (by kernel_rfl) (fun _ h => by cases h) canonPrints_row_tie rfl ⟨rfl, rfl⟩ (by kernel_rfl) rfl
    (fun f fn hf hfn => by
      obtain rfl : f = 5 := Option.some.inj ((show Tryd.prog.funcNamed "concierge/conciergelaw05.CanonPrints" = some 5 by kernel_rfl).symm.trans hf) |>.symm
      obtain rfl : fn = Tryd.f5 := (Option.some.inj (Tryd.func5.symm.trans hfn)).symm
      exact ⟨by kernel_rfl, fun j t ht => by
        rw [Tryd.params5] at ht
        have hm : t ∈ [9, 9, 9] := by simpa using Array.mem_of_getElem? ht
        have hall : ([9, 9, 9].all fun u => !Tryd.prog.wantsStandIn u) = true := by kernel_rfl
        exact (show Tryd.prog.wantsStandIn t = false by simpa using List.all_eq_true.1 hall t hm)⟩)
    (by kernel_rfl)
#print axioms canonPrints_holds
end Go.Proofs.YtkijglkjpgjdaaaDoor
