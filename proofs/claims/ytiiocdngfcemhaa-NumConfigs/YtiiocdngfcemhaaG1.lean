/-
  NumConfigs: for any configuration the law answers true, and the argument reads as before. No condition.
-/
import Derived.Test.YtiiocdngfcemhaaN1
import Derived.Test.YtiiocdngfcemhaaQ
import Derived.Carry
namespace Go.Proofs.Ytiiocdngfcemhaa
open Go.ChangeShapes Go.WideShapes Go.ChangeAt Go.RowKit

/-- A block whose cells are a configuration's. -/
def Blk (w : World) (b : Nat) (c : Cfg) : Prop := w.heap[b]? = some (.cells (cc c) 32 (0, 0))
theorem Blk.cell {w : World} {b : Nat} {c : Cfg} (h : Blk w b c) {i : Nat} {v : Value} (hi : (cc c)[i]? = some v) : w.cell? ⟨b, i, none⟩ = some v := by
  rw [cell_of_row w b i (cc c) 32 (0, 0) h]
  exact hi
theorem Blk.lt {w : World} {b : Nat} {c : Cfg} (h : Blk w b c) : b < w.heap.size := (Array.getElem?_eq_some_iff.1 h).1
theorem Blk.below {w w' : World} {b N : Nat} {c : Cfg} (h : Blk w b c) (hb : Below N w w') (hN : b < N) : Blk w' b c := (hb.block b hN).trans h
theorem Blk.alloc {w : World} {b : Nat} {c : Cfg} (h : Blk w b c) (o : Obj) : Blk (w.alloc o) b c := (Below.heap_alloc w o b h.lt).trans h
theorem Blk.new (w : World) (c : Cfg) : Blk (w.alloc (.cells (cc c) 32)) w.heap.size c := heap_alloc_new w _

theorem cc_one (c : Cfg) : (cc c).all (·.oneCell') = true := all_oneCell_toArray (cs := [.int .i64 c.workers, .int .i64 c.lease, .int .i64 c.ttl, .int .i64 c.quota, .int .i64 c.segment, .int .i64 c.disk]) (by
  intro v hv
  simp only [List.mem_cons, List.not_mem_nil, or_false] at hv
  rcases hv with rfl | rfl | rfl | rfl | rfl | rfl <;> rfl)

set_option maxHeartbeats 1600000 in
set_option maxRecDepth 100000 in
theorem configs_core (c x : Cfg) (w : World)
    (k1 : Aside (∀ u : World, Calls Try.prog 15 #[.agg (cc c)] u fun e w' => e = .returned (.agg (cc x)) ∧ Below u.heap.size u w'))
    (k2 : Aside (∀ u : World, Calls Try.prog 16 #[.agg (cc c)] u fun e w' => e = .returned (.agg (cc x)) ∧ Below u.heap.size u w'))
    (k3 : Aside (∀ u : World, Calls Try.prog 15 #[.agg (cc x)] u fun e w' => e = .returned (.agg (cc x)) ∧ Below u.heap.size u w')) :
    Calls Try.prog 5 #[.agg (cc c)] w fun e w' => e = .returned (.bool true) ∧ Below w.heap.size w w' := by
  have b0 : Aside (Below w.heap.size w (w.alloc (.cells (cc c) 32))) := (Below.refl _ _).alloc (Nat.le_refl _) _
  have H0 : Aside (Blk (w.alloc (.cells (cc c) 32)) w.heap.size c) := Blk.new w c
  have k0 := awake_any (w.alloc (.cells (cc c) 32))
  go_enter Try.func5, Try.ntmps5
  go_wp2_with (first
    | (go_at_call 6; refine k0.mono ?_; rintro e w1 ⟨rfl, hb1⟩; have B1 : Aside (Below w.heap.size w w1) := b0.out.trans (hb1.mono b0.out.size); have H1 : Aside (Blk w1 w.heap.size c) := H0.out.below hb1 H0.out.lt; clear hb1 k0)
    | (refine wpList_load_row rfl 32 _ rfl _ rfl 32 _ (0, 0) _ H1.out Try.underlying32 rfl sz32 ?_)
    | (go_at_call 15; refine (k1.out _).mono ?_; rintro e w2 ⟨rfl, hb2⟩; clear k1)
    | (refine wpList_store_row rfl 32 _ _ rfl _ _ rfl rfl 32 _ (heap_alloc_new _ _) sz32 rfl (cc_one x) ?_; rw [World.setRow_alloc_new]; have T3 : Aside (Blk (w2.alloc (.cells (cc x) 32)) w2.heap.size x ∧ Blk (w2.alloc (.cells (cc x) 32)) w.heap.size c ∧ Below w.heap.size w (w2.alloc (.cells (cc x) 32))) := ⟨Blk.new _ _, (H1.out.below hb2 H1.out.lt).alloc _, (B1.out.trans (hb2.mono B1.out.size)).alloc (Nat.le_trans B1.out.size hb2.size) _⟩; clear hb2 B1 H1; generalize w2.alloc (.cells (cc x) 32) = w3 at T3 ⊢))
  have x0 : ∀ q : Later w3, q.u.cell? ⟨w2.heap.size, 0, none⟩ = some (.int .i64 x.workers) := fun q => (T3.out.1.below q.bel T3.out.1.lt).cell rfl
  have c0 : ∀ q : Later w3, q.u.cell? ⟨w.heap.size, 0, none⟩ = some (.int .i64 c.workers) := fun q => (T3.out.2.1.below q.bel T3.out.2.1.lt).cell rfl
  have x1 : ∀ q : Later w3, q.u.cell? ⟨w2.heap.size, 1, none⟩ = some (.int .i64 x.lease) := fun q => (T3.out.1.below q.bel T3.out.1.lt).cell rfl
  have c1 : ∀ q : Later w3, q.u.cell? ⟨w.heap.size, 1, none⟩ = some (.int .i64 c.lease) := fun q => (T3.out.2.1.below q.bel T3.out.2.1.lt).cell rfl
  have x2 : ∀ q : Later w3, q.u.cell? ⟨w2.heap.size, 2, none⟩ = some (.int .i64 x.ttl) := fun q => (T3.out.1.below q.bel T3.out.1.lt).cell rfl
  have c2 : ∀ q : Later w3, q.u.cell? ⟨w.heap.size, 2, none⟩ = some (.int .i64 c.ttl) := fun q => (T3.out.2.1.below q.bel T3.out.2.1.lt).cell rfl
  have x3 : ∀ q : Later w3, q.u.cell? ⟨w2.heap.size, 3, none⟩ = some (.int .i64 x.quota) := fun q => (T3.out.1.below q.bel T3.out.1.lt).cell rfl
  have c3 : ∀ q : Later w3, q.u.cell? ⟨w.heap.size, 3, none⟩ = some (.int .i64 c.quota) := fun q => (T3.out.2.1.below q.bel T3.out.2.1.lt).cell rfl
  have x4 : ∀ q : Later w3, q.u.cell? ⟨w2.heap.size, 4, none⟩ = some (.int .i64 x.segment) := fun q => (T3.out.1.below q.bel T3.out.1.lt).cell rfl
  have c4 : ∀ q : Later w3, q.u.cell? ⟨w.heap.size, 4, none⟩ = some (.int .i64 c.segment) := fun q => (T3.out.2.1.below q.bel T3.out.2.1.lt).cell rfl
  have x5 : ∀ q : Later w3, q.u.cell? ⟨w2.heap.size, 5, none⟩ = some (.int .i64 x.disk) := fun q => (T3.out.1.below q.bel T3.out.1.lt).cell rfl
  have c5 : ∀ q : Later w3, q.u.cell? ⟨w.heap.size, 5, none⟩ = some (.int .i64 c.disk) := fun q => (T3.out.2.1.below q.bel T3.out.2.1.lt).cell rfl
  have K2 : Aside (∀ u : World, Calls Try.prog 16 #[.agg #[.int .i64 c.workers, .int .i64 c.lease, .int .i64 c.ttl, .int .i64 c.quota, .int .i64 c.segment, .int .i64 c.disk]] u fun e w' => e = .returned (.agg #[.int .i64 x.workers, .int .i64 x.lease, .int .i64 x.ttl, .int .i64 x.quota, .int .i64 x.segment, .int .i64 x.disk]) ∧ Below u.heap.size u w') := k2
  have K3 : Aside (∀ u : World, Calls Try.prog 15 #[.agg #[.int .i64 x.workers, .int .i64 x.lease, .int .i64 x.ttl, .int .i64 x.quota, .int .i64 x.segment, .int .i64 x.disk]] u fun e w' => e = .returned (.agg #[.int .i64 x.workers, .int .i64 x.lease, .int .i64 x.ttl, .int .i64 x.quota, .int .i64 x.segment, .int .i64 x.disk]) ∧ Below u.heap.size u w') := k3
  clear k2 k3 b0 H0
  have hne := later_some w3
  refine wp_region_later (by kernel_rfl) (by kernel_rfl) ?_
  repeat (first
    | (refine wpQuiet_step (fun K hK => ?_); go_simp; refine hK _ ?_; clear hK K)
    | go_big_quiet_step ((first | (go_at_call 16; exact calls_later (K2.out _)) | (go_at_call 15; exact calls_later (K3.out _)))))
  refine wpQuiet_nil ?_
  rintro _ ⟨q, rfl⟩
  have b4 := T3.out.2.2.trans (q.bel.mono T3.out.2.2.size)
  clear hne
  go_wp2
  go_ret
  exact ⟨rfl, b4⟩

theorem configs_any (c : Cfg) (w : World) : Calls Try.prog 5 #[.agg (cc c)] w fun e w' => e = .returned (.bool true) ∧ Below w.heap.size w w' :=
  configs_core c (cb c) w (fun u => config_any c u) (fun u => refConfig_any c u) (fun u => by
    have := config_any (cb c) u
    rw [cb_cb] at this
    exact this)

theorem cells3 : Try.prog.cellsOf 3 = 1 := by kernel_rfl
theorem cells32 : Try.prog.cellsOf 32 = 6 := by kernel_rfl

theorem array6 {α : Type} {cs : Array α} (h : cs.size = 6) : ∃ c0 c1 c2 c3 c4 c5, cs = #[c0, c1, c2, c3, c4, c5] := by
  obtain ⟨l⟩ := cs
  match l, h with
  | [c0, c1, c2, c3, c4, c5], _ => exact ⟨c0, c1, c2, c3, c4, c5, rfl⟩

set_option maxRecDepth 100000 in
/-- A configuration that came in. -/
theorem open_cfg {H : Type} {enc : TypeId × Value → H} {W : World} {k : Nat} {v : Value} {d : DataW H} {p : List MemPlace} (hv : Value.okWide Try.prog W .any k 32 v) (h : DataW.Trod enc Try.prog W 0 (fun _ => true) true 32 v d p) : ∃ c : Cfg, v = .agg (cc c) := by
  obtain ⟨cs, rfl, hs⟩ := okWide_struct Try.underlying32 hv
  rw [cells32] at hs
  obtain ⟨c0, c1, c2, c3, c4, c5, rfl⟩ := array6 hs
  obtain ⟨fuel, hf⟩ := h
  obtain ⟨xs, n, _, _, hl, hlen, hfs⟩ := DataW.trod_struct Try.underlying32 hf
  have hlen : xs.length = 6 := hlen
  match xs, hlen with
  | [y0, y1, y2, y3, y4, y5], _ =>
    have f0 : DataW.trod enc Try.prog W 0 (fun _ => true) true n 3 (([c0, c1, c2, c3, c4, c5].drop 0).take (Try.prog.cellsOf 3)) = some y0 := hfs 0 _ rfl
    rw [cells3] at f0
    have f1 : DataW.trod enc Try.prog W 0 (fun _ => true) true n 3 (([c0, c1, c2, c3, c4, c5].drop 1).take (Try.prog.cellsOf 3)) = some y1 := hfs 1 _ rfl
    rw [cells3] at f1
    have f2 : DataW.trod enc Try.prog W 0 (fun _ => true) true n 3 (([c0, c1, c2, c3, c4, c5].drop 2).take (Try.prog.cellsOf 3)) = some y2 := hfs 2 _ rfl
    rw [cells3] at f2
    have f3 : DataW.trod enc Try.prog W 0 (fun _ => true) true n 3 (([c0, c1, c2, c3, c4, c5].drop 3).take (Try.prog.cellsOf 3)) = some y3 := hfs 3 _ rfl
    rw [cells3] at f3
    have f4 : DataW.trod enc Try.prog W 0 (fun _ => true) true n 3 (([c0, c1, c2, c3, c4, c5].drop 4).take (Try.prog.cellsOf 3)) = some y4 := hfs 4 _ rfl
    rw [cells3] at f4
    have f5 : DataW.trod enc Try.prog W 0 (fun _ => true) true n 3 (([c0, c1, c2, c3, c4, c5].drop 5).take (Try.prog.cellsOf 3)) = some y5 := hfs 5 _ rfl
    rw [cells3] at f5
    obtain ⟨n0, e0, _, _⟩ := DataW.trod_int Try.underlying3 f0
    obtain ⟨n1, e1, _, _⟩ := DataW.trod_int Try.underlying3 f1
    obtain ⟨n2, e2, _, _⟩ := DataW.trod_int Try.underlying3 f2
    obtain ⟨n3, e3, _, _⟩ := DataW.trod_int Try.underlying3 f3
    obtain ⟨n4, e4, _, _⟩ := DataW.trod_int Try.underlying3 f4
    obtain ⟨n5, e5, _, _⟩ := DataW.trod_int Try.underlying3 f5
    simp at e0 e1 e2 e3 e4 e5
    subst e0 e1 e2 e3 e4 e5
    exact ⟨⟨n0, n1, n2, n3, n4, n5⟩, rfl⟩

theorem laidOut : laidOutB Try.prog = true := by kernel_rfl

set_option maxRecDepth 100000 in
theorem numConfigs_lifted (os : Os) (started : os.Started) (H : Type) (enc : TypeId × Value → H) :
    ReturnsInHanded {} Try.checked os 5 .any (Rows.numConfigsSpec.pre6 enc Try.prog Try.f5 Rows.numConfigsRow.domain false) (Rows.numConfigsSpec.post enc Try.prog Try.f5 false true false false) := by
  refine returnsInHanded_of_change (C := Try.checked) own started (by kernel_rfl) Try.func5
    (ChangeSpec.witness6 (enc := enc) (C := Try.checked) false ⟨#[], #[.agg (cc zeroC)], []⟩ 8 (by kernel_rfl) (by kernel_rfl) (by kernel_rfl) (by kernel_rfl)) ?_
  intro W base args ds gs before hval0 hW _ _
  have hval : ∀ (j : Nat) t v, Try.f5.params[j]? = some t → args[j]? = some v → Value.okWide Try.prog W .any base t v := hval0
  have hW' := hW
  obtain ⟨p, q, hA0, hV, rfl, hfz, hnd⟩ := hW
  have hA : DataW.TrodAll enc Try.prog W 0 (fun _ => true) true Try.f5.params.toList args.toList ds p := hA0
  rw [Try.params5] at hA hval
  obtain ⟨v0, vs0, d0, ds0, p0, q0, hargs, rfl, rfl, h0, r0⟩ := trodAll_cons hA
  obtain ⟨rfl, rfl, rfl⟩ := trodAll_nil r0
  obtain rfl : args = #[v0] := by cases args; simp_all
  obtain ⟨rfl, rfl⟩ := trodVars_none hV
  obtain ⟨c0, rfl⟩ := open_cfg (hval 0 32 v0 rfl rfl) h0
  have lt0 : ∀ x ∈ p0, x.block < W.heap.size := by obtain ⟨m, hm⟩ := h0; exact DataW.trod_lt m _ _ _ hm
  clear hA0 hval0
  refine (configs_any c0 W).mono fun e W' ⟨he, bel⟩ => ?_
  subst he
  exact ⟨_, rfl, _, _, _, [], _, [], hW', trodAll_mk1 (shut_bool Try.underlying4 _), trodAll_cons_mk (Below.trod laidOut (by kernel_rfl) (of_decide_eq_true (by kernel_rfl)) h0 bel lt0) trodAll_mk0, rfl, bel.frame _, fun h => by cases h⟩

theorem numConfigs_holds : Rows.NumConfigsSaid :=
  OpenClaim.holds_of_wide 5 Try.f5 rfl rfl rfl rfl rfl rfl rfl ⟨rfl, rfl, rfl, rfl, rfl⟩ rfl rfl rfl rfl rfl (by kernel_rfl) Try.func5 (by kernel_rfl)
    (of_decide_eq_true (by kernel_rfl)) (by unfold Func.isWrapper; first | (rw [if_pos (by decide +kernel)]; kernel_rfl) | (rw [if_neg (by decide +kernel)]; exact ⟨rfl, rfl⟩))
    (fun os started H enc _ => numConfigs_lifted os started H enc)
#print axioms numConfigs_holds
end Go.Proofs.Ytiiocdngfcemhaa
