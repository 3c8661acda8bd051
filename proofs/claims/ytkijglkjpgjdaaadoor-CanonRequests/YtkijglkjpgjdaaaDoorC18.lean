/-
  A request that may not be asked, as the program tells it.
-/
import Derived.Test.YtkijglkjpgjdaaaDoorC17
namespace Go.Proofs.YtkijglkjpgjdaaaDoor
open Go.RowKit

/-- What a request holds. -/
structure Req where
  client : Int
  serial : Int
  tenant : Int
  key : ByteArray
  method : ByteArray
  path : ByteArray
  body : ByteArray

/-- Its cells. -/
def rc (r : Req) : Array Value := #[.int .i64 r.client, .int .i64 r.serial, .int .i64 r.tenant, .string r.key, .string r.method, .string r.path, .string r.body]

def zeroR : Req := ⟨0, 0, 0, ⟨#[]⟩, ⟨#[]⟩, ⟨#[]⟩, ⟨#[]⟩⟩

/-- Are its numbers such as may be? -/
def nums (r : Req) : Bool := (decide (0 ≤ r.tenant) && decide (r.tenant ≤ 3)) && (decide (0 ≤ r.client) && decide (r.client ≤ 3)) && (decide (0 ≤ r.serial) && decide (r.serial ≤ 1073741824))

/-- May it be asked, its method and path aside? -/
def restOK (r : Req) : Bool := key r.key && decide (r.body.size ≤ 80) && nums r

theorem numbersOK_any (r : Req) (w : World) :
    Calls Tryd.prog 34 #[.agg (rc r)] w fun e w' => e = .returned (.bool (nums r)) ∧ Below w.heap.size w w' := by
  have k1 : Aside (∀ (n m : Int) (u : World), _) := fun n m u => within_any n m u
  obtain ⟨a, b, c, k, m, p, d⟩ := r
  unfold nums rc
  dsimp only
  go_enter Tryd.func34, Tryd.ntmps34
  go_wp2_with (go_at_call 60; refine (k1.out _ _ _).mono ?_; rintro e w1 ⟨rfl, rfl⟩)
  all_goals (go_ret; refine ⟨(tell _ _ w ?_).1, (Below.refl _ _).alloc (Nat.le_refl _) _⟩; simp_all <;> omega)

theorem results_mix {P : Program} {fn : Func} {p q : Tmp} {t1 : TypeId} (h : fn.results = #[.cell p t1, .tmp q]) (tmps : Array Value) (w : World) (a : Addr) (v1 v2 : Value)
    (hp : tmps.getD p undef = .pointer (some a)) (hq : tmps.getD q undef = v2) (l1 : (loadVar t1 a).run P w = .ok v1 w) : (results fn tmps).run P w = .ok (.tuple #[v1, v2]) w := by
  have hp' : tmps[p]?.getD undef = .pointer (some a) := by simpa using hp
  have hq' : tmps[q]?.getD undef = v2 := by simpa using hq
  simp [results, h, hp', hq', asAddr, l1]

theorem sz30 (r : Req) : (Tryd.prog.info? 30).map (·.size) = some (rc r).size := by kernel_rfl
theorem rc_one (r : Req) : (rc r).all (·.oneCell') = true := all_oneCell_toArray (cs := [.int .i64 r.client, .int .i64 r.serial, .int .i64 r.tenant, .string r.key, .string r.method, .string r.path, .string r.body]) (by
  intro v hv
  simp only [List.mem_cons, List.not_mem_nil, or_false] at hv
  rcases hv with rfl | rfl | rfl | rfl | rfl | rfl | rfl <;> rfl)

/-- A request, and whether it may be asked. -/
def optR (o : Option Req) : Value := match o with
  | none => .tuple #[.agg (rc zeroR), .bool false]
  | some q => .tuple #[.agg (rc q), .bool true]

def formed (r : Req) (m p : List UInt8) : Req := { r with method := txt m, path := txt p }

/-- What is answered to a request. -/
def reqO (r : Req) : Option Req := match Cn.meth r.method.data.toList, pathO r.path with
  | some m, some p => if restOK r then some (formed r m p) else none
  | _, _ => none

/-- The two blocks that the call makes first. -/
def made (r : Req) (w : World) : World := (w.alloc (.cells (rc r) 30)).alloc (.cells (rc zeroR) 30)

structure RB (r z : Req) (w u : World) : Prop where
  r : Ha.Blk u w.heap.size 30 (rc r)
  z : Ha.Blk u (w.heap.size + 1) 30 (rc z)
  bel : Below w.heap.size w u

theorem RB.first (r : Req) (w : World) : RB r zeroR w (made r w) := by
  refine ⟨(Ha.Blk.new w 30 (rc r)).alloc _, ?_, ((Below.refl _ _).alloc (Nat.le_refl _) _).alloc (by simp) _⟩
  have := Ha.Blk.new (w.alloc (.cells (rc r) 30)) 30 (rc zeroR)
  rw [size_alloc] at this
  exact this

theorem RB.next {r z : Req} {w u v : World} (h : RB r z w u) (hb : Below u.heap.size u v) : RB r z w v :=
  ⟨h.r.below hb h.r.lt, h.z.below hb h.z.lt, h.bel.trans (hb.mono h.bel.size)⟩

theorem RB.cell {r z : Req} {w u : World} (h : RB r z w u) (i : Nat) (v : Value) (hv : (rc r)[i]? = some v) : u.cell? ⟨w.heap.size, i, none⟩ = some v := h.r.cell hv

set_option maxHeartbeats 1600000 in
set_option maxRecDepth 100000 in
theorem request_no (r : Req) (w : World) (X Y : ByteArray) (bm bp : Bool)
    (k1 : Aside (∀ u : World, Calls Tryd.prog 10 #[.string r.method] u fun e w' => e = .returned (.tuple #[.string X, .bool bm]) ∧ Below u.heap.size u w'))
    (k2 : Aside (∀ u : World, Calls Tryd.prog 8 #[.string r.path] u fun e w' => e = .returned (.tuple #[.string Y, .bool bp]) ∧ Below u.heap.size u w'))
    (h : bm = false ∨ bp = false ∨ restOK r = false) :
    Calls Tryd.prog 16 #[.agg (rc r)] w fun e w' => e = .returned (optR none) ∧ Below w.heap.size w w' := by
  have k3 : Aside (∀ u : World, _) := fun u => key_any r.key u
  have k4 : Aside (∀ u : World, _) := fun u => numbersOK_any r u
  have H0 : Aside (RB r zeroR w (made r w)) := RB.first r w
  unfold restOK at h
  generalize key r.key = G at *
  generalize nums r = Nm at *
  have r4 : (rc r)[4]? = some (.string r.method) := rfl
  have r5 : (rc r)[5]? = some (.string r.path) := rfl
  by_cases h1 : bm = false
  · subst h1
    clear h
    go_enter Tryd.func16, Tryd.ntmps16
    go_wp2_with (first
      | (go_at_call 10; refine (k1.out _).mono ?_; rintro e w1 ⟨rfl, hb1⟩; have R1 : Aside (RB r zeroR w w1) := H0.out.next hb1; have c5 := R1.out.cell 5 (.string r.path) rfl; clear hb1)
      | (go_at_call 8; refine (k2.out _).mono ?_; rintro e w2 ⟨rfl, hb2⟩; have R2 : Aside (RB r zeroR w w2) := R1.out.next hb2; have c3 := R2.out.cell 3 (.string r.key) rfl; clear hb2 c5)
      | (go_at_call 12; refine (k3.out _).mono ?_; rintro e w3 ⟨rfl, hb3⟩; have R3 : Aside (RB r zeroR w w3) := R2.out.next hb3; have c6 := R3.out.cell 6 (.string r.body) rfl; clear hb3 c3)
      | (refine wpList_load_row rfl 30 _ rfl _ rfl 30 _ (0, 0) _ R3.out.r Tryd.underlying30 rfl (sz30 r) ?_)
      | (go_at_call 34; refine (k4.out _).mono ?_; rintro e w4 ⟨rfl, hb4⟩; have R4 : Aside (RB r zeroR w w4) := R3.out.next hb4; clear hb4 c6)
      | (refine Ha.build_to rfl 30 _ rfl (rc zeroR) (by kernel_rfl) ?_)
      | (refine wpList_store_row rfl 30 _ _ rfl _ _ rfl rfl 30 _ R2.out.z (sz30 zeroR) rfl (rc_one zeroR) ?_))
    have hZ := R2.out.z.row (c' := rc zeroR)
    refine bodyPost_ret (v := optR none) (results_mix Tryd.results16 _ _ ⟨w.heap.size + 1, 0, none⟩ _ _ rfl rfl (run_loadVar_row _ _ 30 30 _ (0, 0) _ hZ Tryd.underlying30 rfl (sz30 zeroR))) rfl ⟨rfl, ?_⟩
    exact Ha.below_row R2.out.bel (by omega) _
  · have h1 : bm = true := by simpa using h1
    subst h1
    by_cases h2 : bp = false
    · subst h2
      clear h
      go_enter Tryd.func16, Tryd.ntmps16
      go_wp2_with (first
        | (go_at_call 10; refine (k1.out _).mono ?_; rintro e w1 ⟨rfl, hb1⟩; have R1 : Aside (RB r zeroR w w1) := H0.out.next hb1; have c5 := R1.out.cell 5 (.string r.path) rfl; clear hb1)
        | (go_at_call 8; refine (k2.out _).mono ?_; rintro e w2 ⟨rfl, hb2⟩; have R2 : Aside (RB r zeroR w w2) := R1.out.next hb2; have c3 := R2.out.cell 3 (.string r.key) rfl; clear hb2 c5)
        | (go_at_call 12; refine (k3.out _).mono ?_; rintro e w3 ⟨rfl, hb3⟩; have R3 : Aside (RB r zeroR w w3) := R2.out.next hb3; have c6 := R3.out.cell 6 (.string r.body) rfl; clear hb3 c3)
        | (refine wpList_load_row rfl 30 _ rfl _ rfl 30 _ (0, 0) _ R3.out.r Tryd.underlying30 rfl (sz30 r) ?_)
        | (go_at_call 34; refine (k4.out _).mono ?_; rintro e w4 ⟨rfl, hb4⟩; have R4 : Aside (RB r zeroR w w4) := R3.out.next hb4; clear hb4 c6)
        | (refine Ha.build_to rfl 30 _ rfl (rc zeroR) (by kernel_rfl) ?_)
        | (refine wpList_store_row rfl 30 _ _ rfl _ _ rfl rfl 30 _ R2.out.z (sz30 zeroR) rfl (rc_one zeroR) ?_))
      have hZ := R2.out.z.row (c' := rc zeroR)
      refine bodyPost_ret (v := optR none) (results_mix Tryd.results16 _ _ ⟨w.heap.size + 1, 0, none⟩ _ _ rfl rfl (run_loadVar_row _ _ 30 30 _ (0, 0) _ hZ Tryd.underlying30 rfl (sz30 zeroR))) rfl ⟨rfl, ?_⟩
      exact Ha.below_row R2.out.bel (by omega) _
    · have h2 : bp = true := by simpa using h2
      subst h2
      have h3 : (G && decide (r.body.size ≤ 80) && Nm) = false := by simpa using h
      clear h
      by_cases h4 : G = false
      · subst h4
        clear h3
        go_enter Tryd.func16, Tryd.ntmps16
        go_wp2_with (first
          | (go_at_call 10; refine (k1.out _).mono ?_; rintro e w1 ⟨rfl, hb1⟩; have R1 : Aside (RB r zeroR w w1) := H0.out.next hb1; have c5 := R1.out.cell 5 (.string r.path) rfl; clear hb1)
          | (go_at_call 8; refine (k2.out _).mono ?_; rintro e w2 ⟨rfl, hb2⟩; have R2 : Aside (RB r zeroR w w2) := R1.out.next hb2; have c3 := R2.out.cell 3 (.string r.key) rfl; clear hb2 c5)
          | (go_at_call 12; refine (k3.out _).mono ?_; rintro e w3 ⟨rfl, hb3⟩; have R3 : Aside (RB r zeroR w w3) := R2.out.next hb3; have c6 := R3.out.cell 6 (.string r.body) rfl; clear hb3 c3)
          | (refine wpList_load_row rfl 30 _ rfl _ rfl 30 _ (0, 0) _ R3.out.r Tryd.underlying30 rfl (sz30 r) ?_)
          | (go_at_call 34; refine (k4.out _).mono ?_; rintro e w4 ⟨rfl, hb4⟩; have R4 : Aside (RB r zeroR w w4) := R3.out.next hb4; clear hb4 c6)
          | (refine Ha.build_to rfl 30 _ rfl (rc zeroR) (by kernel_rfl) ?_)
          | (refine wpList_store_row rfl 30 _ _ rfl _ _ rfl rfl 30 _ R3.out.z (sz30 zeroR) rfl (rc_one zeroR) ?_))
        have hZ := R3.out.z.row (c' := rc zeroR)
        refine bodyPost_ret (v := optR none) (results_mix Tryd.results16 _ _ ⟨w.heap.size + 1, 0, none⟩ _ _ rfl rfl (run_loadVar_row _ _ 30 30 _ (0, 0) _ hZ Tryd.underlying30 rfl (sz30 zeroR))) rfl ⟨rfl, ?_⟩
        exact Ha.below_row R3.out.bel (by omega) _
      · have h4 : G = true := by simpa using h4
        subst h4
        by_cases h5 : 80 < r.body.size
        · have d5 : decide (80 < (r.body.size : Int)) = true := by simp; omega
          clear h3
          go_enter Tryd.func16, Tryd.ntmps16
          go_wp2_with (first
            | (go_at_call 10; refine (k1.out _).mono ?_; rintro e w1 ⟨rfl, hb1⟩; have R1 : Aside (RB r zeroR w w1) := H0.out.next hb1; have c5 := R1.out.cell 5 (.string r.path) rfl; clear hb1)
            | (go_at_call 8; refine (k2.out _).mono ?_; rintro e w2 ⟨rfl, hb2⟩; have R2 : Aside (RB r zeroR w w2) := R1.out.next hb2; have c3 := R2.out.cell 3 (.string r.key) rfl; clear hb2 c5)
            | (go_at_call 12; refine (k3.out _).mono ?_; rintro e w3 ⟨rfl, hb3⟩; have R3 : Aside (RB r zeroR w w3) := R2.out.next hb3; have c6 := R3.out.cell 6 (.string r.body) rfl; clear hb3 c3)
            | (refine wpList_load_row rfl 30 _ rfl _ rfl 30 _ (0, 0) _ R3.out.r Tryd.underlying30 rfl (sz30 r) ?_)
            | (go_at_call 34; refine (k4.out _).mono ?_; rintro e w4 ⟨rfl, hb4⟩; have R4 : Aside (RB r zeroR w w4) := R3.out.next hb4; clear hb4 c6)
            | (refine Ha.build_to rfl 30 _ rfl (rc zeroR) (by kernel_rfl) ?_)
            | (refine wpList_store_row rfl 30 _ _ rfl _ _ rfl rfl 30 _ R3.out.z (sz30 zeroR) rfl (rc_one zeroR) ?_))
          have hZ := R3.out.z.row (c' := rc zeroR)
          refine bodyPost_ret (v := optR none) (results_mix Tryd.results16 _ _ ⟨w.heap.size + 1, 0, none⟩ _ _ rfl rfl (run_loadVar_row _ _ 30 30 _ (0, 0) _ hZ Tryd.underlying30 rfl (sz30 zeroR))) rfl ⟨rfl, ?_⟩
          exact Ha.below_row R3.out.bel (by omega) _
        · have d5 : decide (80 < (r.body.size : Int)) = false := by simp; omega
          have h6 : Nm = false := by
            have : decide (r.body.size ≤ 80) = true := by simp; omega
            rw [this] at h3
            simpa using h3
          subst h6
          clear h3
          go_enter Tryd.func16, Tryd.ntmps16
          go_wp2_with (first
            | (go_at_call 10; refine (k1.out _).mono ?_; rintro e w1 ⟨rfl, hb1⟩; have R1 : Aside (RB r zeroR w w1) := H0.out.next hb1; have c5 := R1.out.cell 5 (.string r.path) rfl; clear hb1)
            | (go_at_call 8; refine (k2.out _).mono ?_; rintro e w2 ⟨rfl, hb2⟩; have R2 : Aside (RB r zeroR w w2) := R1.out.next hb2; have c3 := R2.out.cell 3 (.string r.key) rfl; clear hb2 c5)
            | (go_at_call 12; refine (k3.out _).mono ?_; rintro e w3 ⟨rfl, hb3⟩; have R3 : Aside (RB r zeroR w w3) := R2.out.next hb3; have c6 := R3.out.cell 6 (.string r.body) rfl; clear hb3 c3; have g0 := R3.out.cell 0 (.int .i64 r.client) rfl; have g1 := R3.out.cell 1 (.int .i64 r.serial) rfl; have g2 := R3.out.cell 2 (.int .i64 r.tenant) rfl; have g3 := R3.out.cell 3 (.string r.key) rfl; have g4 := R3.out.cell 4 (.string r.method) rfl; have g5 := R3.out.cell 5 (.string r.path) rfl)
            | (refine wpList_load_row rfl 30 _ rfl _ rfl 30 _ (0, 0) _ R3.out.r Tryd.underlying30 rfl (sz30 r) ?_)
            | (go_at_call 34; refine (k4.out _).mono ?_; rintro e w4 ⟨rfl, hb4⟩; have R4 : Aside (RB r zeroR w w4) := R3.out.next hb4; clear hb4 c6)
            | (refine Ha.build_to rfl 30 _ rfl (rc zeroR) (by kernel_rfl) ?_)
            | (refine wpList_store_row rfl 30 _ _ rfl _ _ rfl rfl 30 _ R4.out.z (sz30 zeroR) rfl (rc_one zeroR) ?_))
          have hZ := R4.out.z.row (c' := rc zeroR)
          refine bodyPost_ret (v := optR none) (results_mix Tryd.results16 _ _ ⟨w.heap.size + 1, 0, none⟩ _ _ rfl rfl (run_loadVar_row _ _ 30 30 _ (0, 0) _ hZ Tryd.underlying30 rfl (sz30 zeroR))) rfl ⟨rfl, ?_⟩
          exact Ha.below_row R4.out.bel (by omega) _
end Go.Proofs.YtkijglkjpgjdaaaDoor
