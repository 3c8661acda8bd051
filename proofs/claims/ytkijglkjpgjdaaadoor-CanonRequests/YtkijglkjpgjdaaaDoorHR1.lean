/-
  The constants, written down: the document's own table.
-/
import Derived.Test.YtkijglkjpgjdaaaDoorHW6
import Derived.Deep.RegionWith
import Derived.Deep.QuietTactic
namespace Go.Proofs.YtkijglkjpgjdaaaDoor.Ha
open Go.RowKit

theorem build_to {P : Program} {ops : Array Oper} {rest : List Oper} {o : Oper} {a : Act} {w : World} {Q : Exit → Act → World → Prop} (hg : o.guard = none) (t : TypeId) (parts : Array (Nat × Operand)) (ho : o.op = .build t parts) (cs : Array Value)
    (hf : P.built t (parts.map fun (i, x) => (i, a.eval x)).toList = some cs) (h : wpList P ops Q rest (a.put o.dst (.agg cs)) w) : wpList P ops Q (o :: rest) a w :=
  wpList_build hg t parts ho (by rw [hf]; rfl) (by rw [hf]; exact h)

theorem results_two {P : Program} {fn : Func} {p q : Tmp} {t1 t2 : TypeId} (h : fn.results = #[.cell p t1, .cell q t2]) (tmps : Array Value) (w : World) (a b : Addr) (v1 v2 : Value)
    (hp : tmps.getD p undef = .pointer (some a)) (hq : tmps.getD q undef = .pointer (some b)) (l1 : (loadVar t1 a).run P w = .ok v1 w) (l2 : (loadVar t2 b).run P w = .ok v2 w) : (results fn tmps).run P w = .ok (.tuple #[v1, v2]) w := by
  have hp' : tmps[p]?.getD undef = .pointer (some a) := by simpa using hp
  have hq' : tmps[q]?.getD undef = .pointer (some b) := by simpa using hq
  simp [results, h, hp', hq', asAddr, l1, l2]

set_option maxHeartbeats 1600000 in
set_option maxRecDepth 100000 in
theorem table_any (w : World) :
    Calls Tryd.prog 56 #[] w fun e w' => e = .returned (.tuple #[.agg (vals Sh.start), .agg (u32s Sh.K)]) ∧ Below w.heap.size w w' := by
  have ha : Blk ((w.alloc (.cells (vals Sh.zeroV) 75)).alloc (.cells (u32s (List.replicate 64 0)) 76)) w.heap.size 75 (vals Sh.zeroV) := (Blk.new w 75 (vals Sh.zeroV)).alloc _
  have hb : Blk (((w.alloc (.cells (vals Sh.zeroV) 75)).alloc (.cells (u32s (List.replicate 64 0)) 76)).setRow w.heap.size (vals Sh.start)) (w.heap.size + 1) 76 (u32s (List.replicate 64 0)) := by
    have := Blk.new (w.alloc (.cells (vals Sh.zeroV) 75)) 76 (u32s (List.replicate 64 0))
    rw [size_alloc] at this
    exact (setRow_other _ _ _ _ (by omega)).trans this
  have hsz : (Tryd.prog.info? 76).map (·.size) = some (u32s Sh.K).size := sz25
  go_enter Tryd.func56, Tryd.ntmps56
  go_wp2_with (first
    | (refine build_to rfl 75 _ rfl (vals Sh.start) (by kernel_rfl) ?_)
    | (refine build_to rfl 76 _ rfl (u32s Sh.K) (by kernel_rfl) ?_)
    | (refine wpList_store_row rfl 75 _ _ rfl _ _ rfl rfl 75 _ ha sz24 rfl (eight_one ..) ?_)
    | (refine wpList_store_row rfl 76 _ _ rfl _ _ rfl rfl 76 _ hb hsz rfl (u32s_one _) ?_))
  have hr2 := hb.row (c' := u32s Sh.K)
  have hr1 : Blk ((((w.alloc (.cells (vals Sh.zeroV) 75)).alloc (.cells (u32s (List.replicate 64 0)) 76)).setRow w.heap.size (vals Sh.start)).setRow (w.heap.size + 1) (u32s Sh.K)) w.heap.size 75 (vals Sh.start) := (setRow_other _ _ _ _ (by omega)).trans ha.row
  refine bodyPost_ret (v := .tuple #[.agg (vals Sh.start), .agg (u32s Sh.K)]) (results_two Tryd.results56 _ _ ⟨w.heap.size, 0, none⟩ ⟨w.heap.size + 1, 0, none⟩ _ _ rfl rfl (run_loadVar_row _ _ 75 75 _ (0, 0) _ hr1 Tryd.underlying75 rfl sz24) (run_loadVar_row _ _ 76 76 _ (0, 0) _ hr2 Tryd.underlying76 rfl hsz)) rfl ⟨rfl, ?_⟩
  exact below_row (below_row (((Below.refl _ _).alloc (Nat.le_refl _) _).alloc (by simp) _) (Nat.le_refl _) _) (by omega) _
end Go.Proofs.YtkijglkjpgjdaaaDoor.Ha
