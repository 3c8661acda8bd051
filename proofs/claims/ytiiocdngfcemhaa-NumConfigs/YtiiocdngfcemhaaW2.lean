/-
  A configuration, brought, as the program and the document have it.
-/
import Derived.Test.YtiiocdngfcemhaaW1
import Derived.Deep.RegionHeld3
import Derived.Deep.DrawnRows
import Derived.Deep.WholeRow
import Derived.Deep.OwnRows
namespace Go.Proofs.Ytiiocdngfcemhaa
open Go.RowKit

/-- What a configuration holds. -/
structure Cfg where
  workers : Int
  lease : Int
  ttl : Int
  quota : Int
  segment : Int
  disk : Int

/-- Its cells. -/
def cc (c : Cfg) : Array Value := #[.int .i64 c.workers, .int .i64 c.lease, .int .i64 c.ttl, .int .i64 c.quota, .int .i64 c.segment, .int .i64 c.disk]
def zeroC : Cfg := ⟨0, 0, 0, 0, 0, 0⟩
/-- Brought. -/
def cb (c : Cfg) : Cfg := ⟨bd c.workers 1 4, bd c.lease 1 1073741824, bd c.ttl 1 1073741824, bd c.quota 1 200, bd c.segment 500 20000, bd c.disk 1000 60000⟩

theorem bd_bd {n lo hi : Int} (h : lo ≤ hi) : bd (bd n lo hi) lo hi = bd n lo hi := by
  have h1 : lo ≤ bd n lo hi ∧ bd n lo hi ≤ hi := by
    unfold bd
    split
    · omega
    · split <;> omega
  generalize bd n lo hi = x at h1 ⊢
  unfold bd
  rw [if_neg (by omega), if_neg (by omega)]

theorem cb_cb (c : Cfg) : cb (cb c) = cb c := by
  unfold cb
  simp only [Cfg.mk.injEq]
  exact ⟨bd_bd (by decide), bd_bd (by decide), bd_bd (by decide), bd_bd (by decide), bd_bd (by decide), bd_bd (by decide)⟩

theorem heap_two (w : World) (o p : Obj) : ((w.alloc o).alloc p).heap[w.heap.size + 1]? = some p := by
  have := heap_alloc_new (w.alloc o) p
  simpa using this
theorem sz32 : (Try.prog.info? 32).map (·.size) = some 6 := by kernel_rfl

set_option maxHeartbeats 1600000 in
set_option maxRecDepth 100000 in
theorem refConfig_any (c : Cfg) (w : World) :
    Calls Try.prog 16 #[.agg (cc c)] w fun e w' => e = .returned (.agg (cc (cb c))) ∧ Below w.heap.size w w' := by
  obtain ⟨a, b, d, f, g, h⟩ := c
  unfold cc cb
  dsimp only
  go_enter Try.func16, Try.ntmps16
  go_wp2_with (go_at_call 17; refine (refBring_any _ _ _ _).mono ?_; rintro e w1 ⟨rfl, rfl⟩)
  refine bodyPost_ret (results_cell_row Try.results16 _ _ (w.heap.size + 1) 32 _ (0, 0) _ rfl (heap_two _ _ _) Try.underlying32 rfl sz32) rfl ⟨rfl, ?_⟩
  exact ((Below.refl _ _).alloc (Nat.le_refl _) _).alloc (by simp) _

attribute [local go_sem ↓] Go.wp_at_zero Go.wp_at_succ

set_option maxHeartbeats 1600000 in
set_option maxRecDepth 100000 in
theorem config_any (c : Cfg) (w : World) :
    Calls Try.prog 15 #[.agg (cc c)] w fun e w' => e = .returned (.agg (cc (cb c))) ∧ Below w.heap.size w w' := by
  obtain ⟨a, b, d, f, g, h⟩ := c
  unfold cc cb
  dsimp only
  go_enter Try.func15, Try.ntmps15
  go_wp2
  go_region_held3 (fun u => u.cell? ⟨w.heap.size, 0, none⟩ = some (.int .i64 a) ∧ u.cell? ⟨w.heap.size, 1, none⟩ = some (.int .i64 b) ∧ u.cell? ⟨w.heap.size, 2, none⟩ = some (.int .i64 d) ∧ u.cell? ⟨w.heap.size, 3, none⟩ = some (.int .i64 f) ∧ u.cell? ⟨w.heap.size, 4, none⟩ = some (.int .i64 g) ∧ u.cell? ⟨w.heap.size, 5, none⟩ = some (.int .i64 h)) (go_keep) ((go_at_call 19; refine (bring_any _ _ _ _ (by decide)).mono ?_; rintro e w1 ⟨rfl, rfl⟩))
  go_wp2
  refine bodyPost_ret (results_cell_row Try.results15 _ _ (w.heap.size + 1) 32 _ (0, 0) _ rfl (heap_two _ _ _) Try.underlying32 rfl sz32) rfl ⟨rfl, ?_⟩
  exact (((Below.refl _ _).alloc (Nat.le_refl _) _).alloc (by simp) _).drew
end Go.Proofs.Ytiiocdngfcemhaa
