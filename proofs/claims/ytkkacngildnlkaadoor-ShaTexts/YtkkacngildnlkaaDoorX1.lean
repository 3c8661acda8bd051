/-
  ShaTexts, as the tied card: for any text the law answers true, and the text reads behind the call as before; the one listed variable, the table of the constants, is tied to the program's text. No other condition.
-/
import Derived.Test.YtkkacngildnlkaaDoorU1
import Derived.Test.YtkkacngildnlkaaDoorH1
import Derived.Test.YtkkacngildnlkaaDoorG4
namespace Go.Proofs.YtkkacngildnlkaaDoor
open Go.ChangeShapes Go.WideShapes Go.ChangeAt Go.RowKit
open Go.ChangeMaps (open_string shut_string)

theorem texts_long (s : ByteArray) (w : World) (hT : Tab w) (hs : 300 < s.size) :
    Calls Tryd.prog 3 #[.string s] w fun e w' => e = .returned (.bool true) ∧ Below w.heap.size w w' := by
  have k0 := awake_any w hT
  have d1 : decide (300 < (s.size : Int)) = true := by simp; omega
  go_enter Tryd.func3, Tryd.ntmps3
  go_wp2_with (go_at_call 6; refine k0.mono ?_; rintro e w1 ⟨rfl, hb1⟩)
  go_ret
  exact ⟨rfl, hb1⟩

theorem load_row_any {P : Program} {ops : Array Oper} {rest : List Oper} {o : Oper} {a : Act} {w : World} {Q : Exit → Act → World → Prop} (hw : Region.wanted o (yielded ops a.tmps) = true) (ty : TypeId) (x : Operand) (ho : o.op = .load ty x)
    (g : Nat) (hx : a.eval x = .pointer (some ⟨g, 0, none⟩)) (t : TypeId) (cs : Array Value) (fr : Nat × Nat) (d : TypeDesc) (hg : w.heap[g]? = some (.cells cs t fr))
    (hu : P.underlying ty = some d) (hd : (match d with | .struct _ | .array _ _ => true | _ => false) = true) (hi : (P.info? ty).map (·.size) = some cs.size)
    (h : wpList P ops Q rest (a.put o.dst (.agg cs)) w) : wpList P ops Q (o :: rest) a w :=
  wpList_step fun _ hK => by
    rw [if_pos hw]
    exact wp_load_row ty x ho g hx t cs fr d hg hu hd hi (hK _ _ h)

theorem eq24 (u : World) : (Op.equalIn 10000 24 (.agg (vals Sh.start)) (.agg (vals Sh.start))).run Tryd.prog u = .ok true u := by kernel_rfl
theorem eq25 (u : World) : (Op.equalIn 10000 25 (.agg (u32s Sh.K)) (.agg (u32s Sh.K))).run Tryd.prog u = .ok true u := by kernel_rfl

/-- Two new blocks, of eight words and of 64. -/
structure Two (w : World) (V : Nat) (wr : World) : Prop where
  v : Blk wr V 24 (vals Sh.start)
  k : Blk wr (V + 1) 25 (u32s Sh.K)

theorem two_new (u : World) : Two u u.heap.size (((((u.alloc (.cells (vals Sh.zeroV) 24)).alloc (.cells (u32s (List.replicate 64 0)) 25)).setRow u.heap.size (vals Sh.start)).setRow (u.heap.size + 1) (u32s Sh.K))) ∧
    Below u.heap.size u (((((u.alloc (.cells (vals Sh.zeroV) 24)).alloc (.cells (u32s (List.replicate 64 0)) 25)).setRow u.heap.size (vals Sh.start)).setRow (u.heap.size + 1) (u32s Sh.K))) := by
  have hA : Blk ((u.alloc (.cells (vals Sh.zeroV) 24)).alloc (.cells (u32s (List.replicate 64 0)) 25)) u.heap.size 24 (vals Sh.zeroV) := (Blk.new u 24 (vals Sh.zeroV)).alloc _
  have hB : Blk (((u.alloc (.cells (vals Sh.zeroV) 24)).alloc (.cells (u32s (List.replicate 64 0)) 25)).setRow u.heap.size (vals Sh.start)) (u.heap.size + 1) 25 (u32s (List.replicate 64 0)) := by
    have := Blk.new (u.alloc (.cells (vals Sh.zeroV) 24)) 25 (u32s (List.replicate 64 0))
    rw [size_alloc] at this
    exact (setRow_other _ _ _ _ (by omega)).trans this
  refine ⟨⟨(setRow_other _ _ _ _ (by omega)).trans hA.row, hB.row⟩, below_row (below_row (((Below.refl _ _).alloc (Nat.le_refl _) _).alloc (by simp) _) (Nat.le_refl _) _) (by omega) _⟩

set_option maxHeartbeats 1600000 in
set_option maxRecDepth 100000 in
theorem texts_core (s D E : ByteArray) (w : World) (hT : Tab w) (hs : s.size ≤ 300)
    (k9 : Aside (∀ u, Tab u → Calls Tryd.prog 9 #[.string s] u fun e w' => e = .returned (.string D) ∧ Below u.heap.size u w'))
    (k10 : Aside (∀ u, Calls Tryd.prog 10 #[.string s] u fun e w' => e = .returned (.string D) ∧ Below u.heap.size u w'))
    (k11 : Aside (∀ u, Calls Tryd.prog 11 #[.string s] u fun e w' => e = .returned (.string E) ∧ Below u.heap.size u w'))
    (k12 : Aside (∀ u, Calls Tryd.prog 12 #[.string s] u fun e w' => e = .returned (.string E) ∧ Below u.heap.size u w')) :
    Calls Tryd.prog 3 #[.string s] w fun e w' => e = .returned (.bool true) ∧ Below w.heap.size w w' := by
  have k0 := awake_any w hT
  have HT : Aside (Tab w) := hT
  have d1 : decide (300 < (s.size : Int)) = false := by simp; omega
  have hsz : (Tryd.prog.info? 25).map (·.size) = some (u32s Sh.K).size := sz25
  have q1 := eq24
  have q2 := eq25
  have e1 : (D.toList == D.toList) = true := beq_self_eq_true _
  have e2 : (E.toList == E.toList) = true := beq_self_eq_true _
  clear hT
  go_enter Tryd.func3, Tryd.ntmps3
  go_wp2_with (first
    | (go_at_call 6; refine k0.mono ?_; rintro e w1 ⟨rfl, hb1⟩)
    | (go_at_call 7; refine (roots_any _).mono ?_; rintro e w2 ⟨rfl, hb2⟩; have hA : Blk ((w2.alloc (.cells (vals Sh.zeroV) 24)).alloc (.cells (u32s (List.replicate 64 0)) 25)) w2.heap.size 24 (vals Sh.zeroV) := (Blk.new w2 24 (vals Sh.zeroV)).alloc _; have hB : Blk (((w2.alloc (.cells (vals Sh.zeroV) 24)).alloc (.cells (u32s (List.replicate 64 0)) 25)).setRow w2.heap.size (vals Sh.start)) (w2.heap.size + 1) 25 (u32s (List.replicate 64 0)) := (by
        have := Blk.new (w2.alloc (.cells (vals Sh.zeroV) 24)) 25 (u32s (List.replicate 64 0))
        rw [size_alloc] at this
        exact (setRow_other _ _ _ _ (by omega)).trans this))
    | (refine wpList_store_row rfl 24 _ _ rfl _ _ rfl rfl 24 _ hA sz24 rfl (eight_one ..) ?_)
    | (refine wpList_store_row rfl 25 _ _ rfl _ _ rfl rfl 25 _ hB hsz rfl (u32s_one _) ?_)
    | (go_at_call 8; change Calls _ _ _ ((((w2.alloc (.cells (vals Sh.zeroV) 24)).alloc (.cells (u32s (List.replicate 64 0)) 25)).setRow w2.heap.size (vals Sh.start)).setRow (w2.heap.size + 1) (u32s Sh.K)) _; have H3 : Aside (Two w2 w2.heap.size ((((w2.alloc (.cells (vals Sh.zeroV) 24)).alloc (.cells (u32s (List.replicate 64 0)) 25)).setRow w2.heap.size (vals Sh.start)).setRow (w2.heap.size + 1) (u32s Sh.K)) ∧ Below w.heap.size w ((((w2.alloc (.cells (vals Sh.zeroV) 24)).alloc (.cells (u32s (List.replicate 64 0)) 25)).setRow w2.heap.size (vals Sh.start)).setRow (w2.heap.size + 1) (u32s Sh.K))) := (by
        have b2 := hb1.trans (hb2.mono hb1.size)
        exact ⟨(two_new w2).1, b2.trans ((two_new w2).2.mono b2.size)⟩); generalize (((w2.alloc (.cells (vals Sh.zeroV) 24)).alloc (.cells (u32s (List.replicate 64 0)) 25)).setRow w2.heap.size (vals Sh.start)).setRow (w2.heap.size + 1) (u32s Sh.K) = w3 at H3 ⊢; clear hA hB hb1 hb2; refine (table_any _).mono ?_; rintro e w4 ⟨rfl, hb4⟩; have hA2 : Blk ((w4.alloc (.cells (vals Sh.zeroV) 24)).alloc (.cells (u32s (List.replicate 64 0)) 25)) w4.heap.size 24 (vals Sh.zeroV) := (Blk.new w4 24 (vals Sh.zeroV)).alloc _; have hB2 : Blk (((w4.alloc (.cells (vals Sh.zeroV) 24)).alloc (.cells (u32s (List.replicate 64 0)) 25)).setRow w4.heap.size (vals Sh.start)) (w4.heap.size + 1) 25 (u32s (List.replicate 64 0)) := (by
        have := Blk.new (w4.alloc (.cells (vals Sh.zeroV) 24)) 25 (u32s (List.replicate 64 0))
        rw [size_alloc] at this
        exact (setRow_other _ _ _ _ (by omega)).trans this))
    | (refine wpList_store_row rfl 24 _ _ rfl _ _ rfl rfl 24 _ hA2 sz24 rfl (eight_one ..) ?_)
    | (refine wpList_store_row rfl 25 _ _ rfl _ _ rfl rfl 25 _ hB2 hsz rfl (u32s_one _) ?_; have H5 : Aside (Two w2 w2.heap.size ((((w4.alloc (.cells (vals Sh.zeroV) 24)).alloc (.cells (u32s (List.replicate 64 0)) 25)).setRow w4.heap.size (vals Sh.start)).setRow (w4.heap.size + 1) (u32s Sh.K)) ∧ Two w4 w4.heap.size ((((w4.alloc (.cells (vals Sh.zeroV) 24)).alloc (.cells (u32s (List.replicate 64 0)) 25)).setRow w4.heap.size (vals Sh.start)).setRow (w4.heap.size + 1) (u32s Sh.K)) ∧ Below w.heap.size w ((((w4.alloc (.cells (vals Sh.zeroV) 24)).alloc (.cells (u32s (List.replicate 64 0)) 25)).setRow w4.heap.size (vals Sh.start)).setRow (w4.heap.size + 1) (u32s Sh.K))) := (by
        have h3 := H3.out
        have b4 := h3.2.trans (hb4.mono h3.2.size)
        have t1 := h3.1.v.below hb4 h3.1.v.lt
        have t2 := h3.1.k.below hb4 h3.1.k.lt
        exact ⟨⟨t1.below (two_new w4).2 t1.lt, t2.below (two_new w4).2 t2.lt⟩, (two_new w4).1, b4.trans ((two_new w4).2.mono b4.size)⟩); change wpList _ _ _ _ _ ((((w4.alloc (.cells (vals Sh.zeroV) 24)).alloc (.cells (u32s (List.replicate 64 0)) 25)).setRow w4.heap.size (vals Sh.start)).setRow (w4.heap.size + 1) (u32s Sh.K)); generalize (((w4.alloc (.cells (vals Sh.zeroV) 24)).alloc (.cells (u32s (List.replicate 64 0)) 25)).setRow w4.heap.size (vals Sh.start)).setRow (w4.heap.size + 1) (u32s Sh.K) = w5 at H5 ⊢; clear hA2 hB2 hb4 H3; have l1 := H5.out.1.v; have l2 := H5.out.2.1.v; have l3 := H5.out.1.k; have l4 := H5.out.2.1.k)
    | (refine load_row_any (by rfl) 24 (.tmp 3) rfl _ rfl 24 _ (0, 0) _ l1 Tryd.underlying24 rfl sz24 ?_)
    | (refine load_row_any (by rfl) 24 (.tmp 5) rfl _ rfl 24 _ (0, 0) _ l2 Tryd.underlying24 rfl sz24 ?_)
    | (refine load_row_any (by rfl) 25 (.tmp 4) rfl _ rfl 25 _ (0, 0) _ l3 Tryd.underlying25 rfl hsz ?_)
    | (refine load_row_any (by rfl) 25 (.tmp 6) rfl _ rfl 25 _ (0, 0) _ l4 Tryd.underlying25 rfl hsz ?_)
    | (go_at_call 9; refine (k9.out _ (HT.out.later H5.out.2.2)).mono ?_; rintro e w6 ⟨rfl, h6⟩; have B6 : Aside (Below w.heap.size w w6) := H5.out.2.2.trans (h6.mono H5.out.2.2.size); clear h6 l1 l2 l3 l4)
    | (go_at_call 10; refine (k10.out _).mono ?_; rintro e w7 ⟨rfl, h7⟩; have B7 : Aside (Below w.heap.size w w7) := B6.out.trans (h7.mono B6.out.size); clear h7)
    | (go_at_call 11; refine (k11.out _).mono ?_; rintro e w8 ⟨rfl, h8⟩; have B8 : Aside (Below w.heap.size w w8) := B7.out.trans (h8.mono B7.out.size); clear h8)
    | (go_at_call 12; refine (k12.out _).mono ?_; rintro e w9 ⟨rfl, h9⟩; have B9 : Aside (Below w.heap.size w w9) := B8.out.trans (h9.mono B8.out.size); clear h9))
  go_ret
  exact ⟨rfl, B9.out⟩

theorem texts_any (s : ByteArray) (w : World) (hT : Tab w) : Calls Tryd.prog 3 #[.string s] w fun e w' => e = .returned (.bool true) ∧ Below w.heap.size w w' := by
  by_cases hs : 300 < s.size
  · exact texts_long s w hT hs
  · exact texts_core s _ _ w hT (by omega) (fun u hu => sum_any s u hu (by omega)) (fun u => refSum_any s u (by omega)) (fun u => hex_any s u (by omega)) (fun u => refHex_any s u (by omega))

set_option maxRecDepth 100000 in
theorem shaTexts_lifted (os : Os) (started : os.Started) (H : Type) (enc : TypeId × Value → H) :
    ReturnsInHanded {} Tryd.checked os 3 .any (fun w args => (Rows.shaTextsSpec.pre enc Tryd.prog Tryd.f3 [] false w args ∧ laidMetH Tryd.prog laid1 w) ∧ sizedMet enc Tryd.prog Tryd.f3 (OpenSpec.ofChange Rows.shaTextsSpec) false w args)
      (Rows.shaTextsSpec.post enc Tryd.prog Tryd.f3 false true false false) := by
  refine returnsInHanded_of_change_and (C := Tryd.checked) (X := fun w _ => laidMetH Tryd.prog laid1 w) (fun _ _ _ hh h => h.of_heap hh) own started (by kernel_rfl) Tryd.func3
    (ChangeSpec.witness_shaped (enc := enc) (C := Tryd.checked) (os := os) (X := fun w _ => laidMetH Tryd.prog laid1 w) false (World.doorLaid Tryd.prog 400 os) #[.string ByteArray.empty] 8 rfl (World.shaped_of_RefB (by kernel_rfl) (by kernel_rfl)) (by kernel_rfl) (by kernel_rfl) (by kernel_rfl) (door_met os _)) ?_
  intro W base args ds gs before hval0 hW _ _ hL _
  have hval : ∀ (j : Nat) t v, Tryd.f3.params[j]? = some t → args[j]? = some v → Value.okWide Tryd.prog W .any base t v := hval0
  have hW' := hW
  obtain ⟨p, q, hA0, hV, rfl, hfz, hnd⟩ := hW
  have hA : DataW.TrodAll enc Tryd.prog W 0 (fun _ => true) true Tryd.f3.params.toList args.toList ds p := hA0
  rw [Tryd.params3] at hA hval
  obtain ⟨v0, vs0, d0, ds0, p0, q0, hargs, rfl, rfl, h0, r0⟩ := trodAll_cons hA
  obtain ⟨rfl, rfl, rfl⟩ := trodAll_nil r0
  obtain rfl : args = #[v0] := by cases args; simp_all
  obtain ⟨rfl, rfl⟩ := trodVars_none hV
  obtain ⟨s0, rfl, rfl, rfl, w0⟩ := open_string Tryd.underlying9 (hval 0 9 v0 rfl rfl) h0
  clear hA0 hval0
  refine (texts_any s0 W (tab_of_laid hL)).mono fun e W' ⟨he, bel⟩ => ?_
  subst he
  exact ⟨_, rfl, _, _, _, [], _, [], hW', trodAll_mk1 (shut_bool Tryd.underlying4 _), trodAll_cons_mk (shut_string Tryd.underlying9 w0) trodAll_mk0, rfl, bel.frame _, fun h => by cases h⟩

theorem shaTexts_row : Rows.ShaTextsSaid :=
  OpenClaim.holds_of_wide 3 Tryd.f3 rfl rfl rfl rfl rfl rfl rfl ⟨rfl, rfl, rfl, rfl, rfl⟩ rfl rfl rfl rfl rfl (by kernel_rfl) Tryd.func3 (by kernel_rfl)
    (of_decide_eq_true (by kernel_rfl)) (by unfold Func.isWrapper; first | (rw [if_pos (by decide +kernel)]; kernel_rfl) | (rw [if_neg (by decide +kernel)]; exact ⟨rfl, rfl⟩))
    (fun os started H enc _ => shaTexts_lifted os started H enc)

theorem shaTexts_holds : Rows.ShaTextsCardSaid :=
  Claim7.holds_tied_plain_at .later [] [.data] true (true, "006818d8534aa499fb2aeba6ec53f3e4ac15862d3f2079fa821f5042570c362f") false
    shaTexts_row (fun _ h => by cases h) (by kernel_rfl) (fun _ h => by cases h) shaTexts_row_tie rfl ⟨rfl, rfl⟩ (by kernel_rfl) rfl
    (fun f fn hf hfn => by
      obtain rfl : f = 3 := Option.some.inj ((show Tryd.prog.funcNamed "concierge/conciergelaw03.ShaTexts" = some 3 by kernel_rfl).symm.trans hf) |>.symm
      obtain rfl : fn = Tryd.f3 := (Option.some.inj (Tryd.func3.symm.trans hfn)).symm
      exact ⟨by kernel_rfl, fun j t ht => by
        rw [Tryd.params3] at ht
        have hm : t ∈ [9] := by simpa using Array.mem_of_getElem? ht
        have hall : ([9].all fun u => !Tryd.prog.wantsStandIn u) = true := by kernel_rfl
        exact (show Tryd.prog.wantsStandIn t = false by simpa using List.all_eq_true.1 hall t hm)⟩)
    (by kernel_rfl)
#print axioms shaTexts_holds
end Go.Proofs.YtkkacngildnlkaaDoor
