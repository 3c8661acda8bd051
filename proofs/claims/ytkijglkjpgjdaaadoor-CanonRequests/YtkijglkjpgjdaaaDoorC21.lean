/-
  The law on requests, of any answers of the program's and the document's that agree.
-/
import Derived.Test.YtkijglkjpgjdaaaDoorC19
namespace Go.Proofs.YtkijglkjpgjdaaaDoor
open Go.RowKit

/-- Which request is answered. -/
def optQ (o : Option Req) : Req := match o with
  | none => zeroR
  | some q => q
theorem optR_is (o : Option Req) : optR o = .tuple #[.agg (rc (optQ o)), .bool o.isSome] := by
  cases o <;> rfl

theorem reqO_zero : reqO zeroR = none := reqO_no zeroR (.inl rfl)

set_option maxHeartbeats 1600000 in
set_option maxRecDepth 100000 in
theorem requests_core (r q q2 : Req) (ok ok2 : Bool) (w : World)
    (k0 : Aside (∀ u : World, Below w.heap.size w u → Calls Tryd.prog 7 #[] u fun e w' => e = .returned (.bool true) ∧ Below u.heap.size u w'))
    (k1 : Aside (∀ u : World, Calls Tryd.prog 16 #[.agg (rc r)] u fun e w' => e = .returned (.tuple #[.agg (rc q), .bool ok]) ∧ Below u.heap.size u w'))
    (k2 : Aside (∀ u : World, Calls Tryd.prog 17 #[.agg (rc r)] u fun e w' => e = .returned (.tuple #[.agg (rc q), .bool ok]) ∧ Below u.heap.size u w'))
    (k3 : Aside (∀ u : World, Calls Tryd.prog 16 #[.agg (rc q)] u fun e w' => e = .returned (.tuple #[.agg (rc q2), .bool ok2]) ∧ Below u.heap.size u w'))
    (h1 : r.key.size ≤ 100) (h2 : r.method.size ≤ 100) (h3 : r.path.size ≤ 100) (h4 : r.body.size ≤ 100)
    (h : ok = false ∨ (q = q2 ∧ ok2 = true)) :
    Calls Tryd.prog 6 #[.agg (rc r)] w fun e w' => e = .returned (.bool true) ∧ Below w.heap.size w w' := by
  have b0 : Aside (Below w.heap.size w (w.alloc (.cells (rc r) 30))) := (Below.refl _ _).alloc (Nat.le_refl _) _
  have H0 : Aside (Ha.Blk (w.alloc (.cells (rc r) 30)) w.heap.size 30 (rc r)) := Ha.Blk.new w 30 (rc r)
  have d1 : decide (100 < (r.key.size : Int)) = false := by simp; omega
  have d2 : decide (100 < (r.method.size : Int)) = false := by simp; omega
  have d3 : decide (100 < (r.path.size : Int)) = false := by simp; omega
  have d4 : decide (100 < (r.body.size : Int)) = false := by simp; omega
  rcases h with rfl | ⟨rfl, rfl⟩
  · go_enter Tryd.func6, Tryd.ntmps6
    go_wp2_with (first
      | (go_at_call 7; refine (k0.out _ b0.out).mono ?_; rintro e w1 ⟨rfl, hb1⟩; have B1 : Aside (Below w.heap.size w w1) := b0.out.trans (hb1.mono b0.out.size); have H1 : Aside (Ha.Blk w1 w.heap.size 30 (rc r)) := H0.out.below hb1 H0.out.lt; have c3 := H1.out.cell (i := 3) (v := .string r.key) rfl; have c4 := H1.out.cell (i := 4) (v := .string r.method) rfl; have c5 := H1.out.cell (i := 5) (v := .string r.path) rfl; have c6 := H1.out.cell (i := 6) (v := .string r.body) rfl; clear hb1)
      | (refine wpList_load_row rfl 30 _ rfl _ rfl 30 _ (0, 0) _ H1.out Tryd.underlying30 rfl (sz30 r) ?_; clear c3 c4 c5 c6)
      | (go_at_call 16; refine (k1.out _).mono ?_; rintro e w2 ⟨rfl, hb2⟩; clear k1)
      | (refine wpList_store_row rfl 30 _ _ rfl _ _ rfl rfl 30 _ (heap_alloc_new _ _) (sz30 q) rfl (rc_one q) ?_; rw [World.setRow_alloc_new]; have T3 : Aside (Ha.Blk (w2.alloc (.cells (rc q) 30)) w2.heap.size 30 (rc q) ∧ Ha.Blk (w2.alloc (.cells (rc q) 30)) w.heap.size 30 (rc r) ∧ Below w.heap.size w (w2.alloc (.cells (rc q) 30))) := ⟨Ha.Blk.new _ _ _, (H1.out.below hb2 H1.out.lt).alloc _, (B1.out.trans (hb2.mono B1.out.size)).alloc (Nat.le_trans B1.out.size hb2.size) _⟩; clear hb2 B1 H1; generalize w2.alloc (.cells (rc q) 30) = w3 at T3 ⊢)
      | (refine wpList_load_row rfl 30 _ rfl _ rfl 30 _ (0, 0) _ T3.out.2.1 Tryd.underlying30 rfl (sz30 r) ?_)
      | (go_at_call 17; refine (k2.out _).mono ?_; rintro e w4 ⟨rfl, hb4⟩; clear k2)
      | (refine wpList_store_row rfl 30 _ _ rfl _ _ rfl rfl 30 _ (heap_alloc_new _ _) (sz30 q) rfl (rc_one q) ?_; rw [World.setRow_alloc_new]; have T5 : Aside (Ha.Blk (w4.alloc (.cells (rc q) 30)) w4.heap.size 30 (rc q) ∧ Ha.Blk (w4.alloc (.cells (rc q) 30)) w2.heap.size 30 (rc q) ∧ Below w.heap.size w (w4.alloc (.cells (rc q) 30))) := ⟨Ha.Blk.new _ _ _, (T3.out.1.below hb4 T3.out.1.lt).alloc _, (T3.out.2.2.trans (hb4.mono T3.out.2.2.size)).alloc (Nat.le_trans T3.out.2.2.size hb4.size) _⟩; clear hb4 T3; generalize w4.alloc (.cells (rc q) 30) = w5 at T5 ⊢)
      | (refine wpList_load_row rfl 30 _ rfl _ rfl 30 _ (0, 0) _ T5.out.2.1 Tryd.underlying30 rfl (sz30 q) ?_)
      | (go_at_call 16; refine (k3.out _).mono ?_; rintro e w6 ⟨rfl, hb6⟩; clear k3)
      | (refine wpList_store_row rfl 30 _ _ rfl _ _ rfl rfl 30 _ (heap_alloc_new _ _) (sz30 q2) rfl (rc_one q2) ?_; rw [World.setRow_alloc_new]; have T7 : Aside (Ha.Blk (w6.alloc (.cells (rc q2) 30)) w6.heap.size 30 (rc q2) ∧ Ha.Blk (w6.alloc (.cells (rc q2) 30)) w4.heap.size 30 (rc q) ∧ Ha.Blk (w6.alloc (.cells (rc q2) 30)) w2.heap.size 30 (rc q) ∧ Below w.heap.size w (w6.alloc (.cells (rc q2) 30))) := ⟨Ha.Blk.new _ _ _, (T5.out.1.below hb6 T5.out.1.lt).alloc _, (T5.out.2.1.below hb6 T5.out.2.1.lt).alloc _, (T5.out.2.2.trans (hb6.mono T5.out.2.2.size)).alloc (Nat.le_trans T5.out.2.2.size hb6.size) _⟩; clear hb6 T5; generalize w6.alloc (.cells (rc q2) 30) = w7 at T7 ⊢; have x0 := (T7.out.2.2.1).cell (i := 0) (v := .int .i64 q.client) rfl; have x1 := (T7.out.2.2.1).cell (i := 1) (v := .int .i64 q.serial) rfl; have x2 := (T7.out.2.2.1).cell (i := 2) (v := .int .i64 q.tenant) rfl; have x3 := (T7.out.2.2.1).cell (i := 3) (v := .string q.key) rfl; have x4 := (T7.out.2.2.1).cell (i := 4) (v := .string q.method) rfl; have x5 := (T7.out.2.2.1).cell (i := 5) (v := .string q.path) rfl; have x6 := (T7.out.2.2.1).cell (i := 6) (v := .string q.body) rfl; have y0 := (T7.out.2.1).cell (i := 0) (v := .int .i64 q.client) rfl; have y1 := (T7.out.2.1).cell (i := 1) (v := .int .i64 q.serial) rfl; have y2 := (T7.out.2.1).cell (i := 2) (v := .int .i64 q.tenant) rfl; have y3 := (T7.out.2.1).cell (i := 3) (v := .string q.key) rfl; have y4 := (T7.out.2.1).cell (i := 4) (v := .string q.method) rfl; have y5 := (T7.out.2.1).cell (i := 5) (v := .string q.path) rfl; have y6 := (T7.out.2.1).cell (i := 6) (v := .string q.body) rfl))
    go_ret
    exact ⟨rfl, T7.out.2.2.2⟩
  · go_enter Tryd.func6, Tryd.ntmps6
    go_wp2_with (first
      | (go_at_call 7; refine (k0.out _ b0.out).mono ?_; rintro e w1 ⟨rfl, hb1⟩; have B1 : Aside (Below w.heap.size w w1) := b0.out.trans (hb1.mono b0.out.size); have H1 : Aside (Ha.Blk w1 w.heap.size 30 (rc r)) := H0.out.below hb1 H0.out.lt; have c3 := H1.out.cell (i := 3) (v := .string r.key) rfl; have c4 := H1.out.cell (i := 4) (v := .string r.method) rfl; have c5 := H1.out.cell (i := 5) (v := .string r.path) rfl; have c6 := H1.out.cell (i := 6) (v := .string r.body) rfl; clear hb1)
      | (refine wpList_load_row rfl 30 _ rfl _ rfl 30 _ (0, 0) _ H1.out Tryd.underlying30 rfl (sz30 r) ?_; clear c3 c4 c5 c6)
      | (go_at_call 16; refine (k1.out _).mono ?_; rintro e w2 ⟨rfl, hb2⟩; clear k1)
      | (refine wpList_store_row rfl 30 _ _ rfl _ _ rfl rfl 30 _ (heap_alloc_new _ _) (sz30 q) rfl (rc_one q) ?_; rw [World.setRow_alloc_new]; have T3 : Aside (Ha.Blk (w2.alloc (.cells (rc q) 30)) w2.heap.size 30 (rc q) ∧ Ha.Blk (w2.alloc (.cells (rc q) 30)) w.heap.size 30 (rc r) ∧ Below w.heap.size w (w2.alloc (.cells (rc q) 30))) := ⟨Ha.Blk.new _ _ _, (H1.out.below hb2 H1.out.lt).alloc _, (B1.out.trans (hb2.mono B1.out.size)).alloc (Nat.le_trans B1.out.size hb2.size) _⟩; clear hb2 B1 H1; generalize w2.alloc (.cells (rc q) 30) = w3 at T3 ⊢)
      | (refine wpList_load_row rfl 30 _ rfl _ rfl 30 _ (0, 0) _ T3.out.2.1 Tryd.underlying30 rfl (sz30 r) ?_)
      | (go_at_call 17; refine (k2.out _).mono ?_; rintro e w4 ⟨rfl, hb4⟩; clear k2)
      | (refine wpList_store_row rfl 30 _ _ rfl _ _ rfl rfl 30 _ (heap_alloc_new _ _) (sz30 q) rfl (rc_one q) ?_; rw [World.setRow_alloc_new]; have T5 : Aside (Ha.Blk (w4.alloc (.cells (rc q) 30)) w4.heap.size 30 (rc q) ∧ Ha.Blk (w4.alloc (.cells (rc q) 30)) w2.heap.size 30 (rc q) ∧ Below w.heap.size w (w4.alloc (.cells (rc q) 30))) := ⟨Ha.Blk.new _ _ _, (T3.out.1.below hb4 T3.out.1.lt).alloc _, (T3.out.2.2.trans (hb4.mono T3.out.2.2.size)).alloc (Nat.le_trans T3.out.2.2.size hb4.size) _⟩; clear hb4 T3; generalize w4.alloc (.cells (rc q) 30) = w5 at T5 ⊢)
      | (refine wpList_load_row rfl 30 _ rfl _ rfl 30 _ (0, 0) _ T5.out.2.1 Tryd.underlying30 rfl (sz30 q) ?_)
      | (go_at_call 16; refine (k3.out _).mono ?_; rintro e w6 ⟨rfl, hb6⟩; clear k3)
      | (refine wpList_store_row rfl 30 _ _ rfl _ _ rfl rfl 30 _ (heap_alloc_new _ _) (sz30 q) rfl (rc_one q) ?_; rw [World.setRow_alloc_new]; have T7 : Aside (Ha.Blk (w6.alloc (.cells (rc q) 30)) w6.heap.size 30 (rc q) ∧ Ha.Blk (w6.alloc (.cells (rc q) 30)) w4.heap.size 30 (rc q) ∧ Ha.Blk (w6.alloc (.cells (rc q) 30)) w2.heap.size 30 (rc q) ∧ Below w.heap.size w (w6.alloc (.cells (rc q) 30))) := ⟨Ha.Blk.new _ _ _, (T5.out.1.below hb6 T5.out.1.lt).alloc _, (T5.out.2.1.below hb6 T5.out.2.1.lt).alloc _, (T5.out.2.2.trans (hb6.mono T5.out.2.2.size)).alloc (Nat.le_trans T5.out.2.2.size hb6.size) _⟩; clear hb6 T5; generalize w6.alloc (.cells (rc q) 30) = w7 at T7 ⊢; have x0 := (T7.out.2.2.1).cell (i := 0) (v := .int .i64 q.client) rfl; have x1 := (T7.out.2.2.1).cell (i := 1) (v := .int .i64 q.serial) rfl; have x2 := (T7.out.2.2.1).cell (i := 2) (v := .int .i64 q.tenant) rfl; have x3 := (T7.out.2.2.1).cell (i := 3) (v := .string q.key) rfl; have x4 := (T7.out.2.2.1).cell (i := 4) (v := .string q.method) rfl; have x5 := (T7.out.2.2.1).cell (i := 5) (v := .string q.path) rfl; have x6 := (T7.out.2.2.1).cell (i := 6) (v := .string q.body) rfl; have y0 := (T7.out.2.1).cell (i := 0) (v := .int .i64 q.client) rfl; have y1 := (T7.out.2.1).cell (i := 1) (v := .int .i64 q.serial) rfl; have y2 := (T7.out.2.1).cell (i := 2) (v := .int .i64 q.tenant) rfl; have y3 := (T7.out.2.1).cell (i := 3) (v := .string q.key) rfl; have y4 := (T7.out.2.1).cell (i := 4) (v := .string q.method) rfl; have y5 := (T7.out.2.1).cell (i := 5) (v := .string q.path) rfl; have y6 := (T7.out.2.1).cell (i := 6) (v := .string q.body) rfl; have z0 := (T7.out.1).cell (i := 0) (v := .int .i64 q.client) rfl; have z1 := (T7.out.1).cell (i := 1) (v := .int .i64 q.serial) rfl; have z2 := (T7.out.1).cell (i := 2) (v := .int .i64 q.tenant) rfl; have z3 := (T7.out.1).cell (i := 3) (v := .string q.key) rfl; have z4 := (T7.out.1).cell (i := 4) (v := .string q.method) rfl; have z5 := (T7.out.1).cell (i := 5) (v := .string q.path) rfl; have z6 := (T7.out.1).cell (i := 6) (v := .string q.body) rfl))
    all_goals (go_ret; exact ⟨rfl, T7.out.2.2.2⟩)
end Go.Proofs.YtkijglkjpgjdaaaDoor
