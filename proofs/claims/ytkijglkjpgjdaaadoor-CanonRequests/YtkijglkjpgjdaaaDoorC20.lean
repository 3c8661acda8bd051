/-
  A request with its forms, as the document tells it.
-/
import Derived.Test.YtkijglkjpgjdaaaDoorC19
namespace Go.Proofs.YtkijglkjpgjdaaaDoor
open Go.RowKit

set_option maxHeartbeats 4000000 in
set_option maxRecDepth 100000 in
theorem refRequest_no (r : Req) (w : World) (X Y : ByteArray) (bm bp : Bool)
    (k1 : Aside (∀ u : World, Calls Tryd.prog 11 #[.string r.method] u fun e w' => e = .returned (.tuple #[.string X, .bool bm]) ∧ Below u.heap.size u w'))
    (k2 : Aside (∀ u : World, Calls Tryd.prog 9 #[.string r.path] u fun e w' => e = .returned (.tuple #[.string Y, .bool bp]) ∧ Below u.heap.size u w'))
    (h : bm = false ∨ bp = false ∨ restOK r = false) :
    Calls Tryd.prog 17 #[.agg (rc r)] w fun e w' => e = .returned (optR none) ∧ Below w.heap.size w w' := by
  have k3 : Aside (∀ u : World, _) := fun u => refKey_any r.key u
  have H0 : Aside (RB r zeroR w (made r w)) := RB.first r w
  unfold restOK nums at h
  generalize key r.key = G at *
  have r4 : (rc r)[4]? = some (.string r.method) := rfl
  have r5 : (rc r)[5]? = some (.string r.path) := rfl
  by_cases h1 : bm = false
  · subst h1
    clear h
    go_enter Tryd.func17, Tryd.ntmps17
    go_wp2_with (first
      | (go_at_call 11; refine (k1.out _).mono ?_; rintro e w1 ⟨rfl, hb1⟩; have R1 : Aside (RB r zeroR w w1) := H0.out.next hb1; have c5 := R1.out.cell 5 (.string r.path) rfl; clear hb1)
      | (go_at_call 9; refine (k2.out _).mono ?_; rintro e w2 ⟨rfl, hb2⟩; have R2 : Aside (RB r zeroR w w2) := R1.out.next hb2; have c3 := R2.out.cell 3 (.string r.key) rfl; clear hb2 c5)
      | (go_at_call 13; refine (k3.out _).mono ?_; rintro e w3 ⟨rfl, hb3⟩; have R3 : Aside (RB r zeroR w w3) := R2.out.next hb3; have c6 := R3.out.cell 6 (.string r.body) rfl; clear hb3 c3; have g0 := R3.out.cell 0 (.int .i64 r.client) rfl; have g1 := R3.out.cell 1 (.int .i64 r.serial) rfl; have g2 := R3.out.cell 2 (.int .i64 r.tenant) rfl)
      | (refine Ha.build_to rfl 30 _ rfl (rc zeroR) (by kernel_rfl) ?_)
      | (refine wpList_store_row rfl 30 _ _ rfl _ _ rfl rfl 30 _ R2.out.z (sz30 zeroR) rfl (rc_one zeroR) ?_))
    have hZ := R2.out.z.row (c' := rc zeroR)
    refine bodyPost_ret (v := optR none) (results_mix Tryd.results17 _ _ ⟨w.heap.size + 1, 0, none⟩ _ _ rfl rfl (run_loadVar_row _ _ 30 30 _ (0, 0) _ hZ Tryd.underlying30 rfl (sz30 zeroR))) rfl ⟨rfl, ?_⟩
    exact Ha.below_row R2.out.bel (by omega) _
  · have h1 : bm = true := by simpa using h1
    subst h1
    by_cases h2 : bp = false
    · subst h2
      clear h
      go_enter Tryd.func17, Tryd.ntmps17
      go_wp2_with (first
        | (go_at_call 11; refine (k1.out _).mono ?_; rintro e w1 ⟨rfl, hb1⟩; have R1 : Aside (RB r zeroR w w1) := H0.out.next hb1; have c5 := R1.out.cell 5 (.string r.path) rfl; clear hb1)
        | (go_at_call 9; refine (k2.out _).mono ?_; rintro e w2 ⟨rfl, hb2⟩; have R2 : Aside (RB r zeroR w w2) := R1.out.next hb2; have c3 := R2.out.cell 3 (.string r.key) rfl; clear hb2 c5)
        | (go_at_call 13; refine (k3.out _).mono ?_; rintro e w3 ⟨rfl, hb3⟩; have R3 : Aside (RB r zeroR w w3) := R2.out.next hb3; have c6 := R3.out.cell 6 (.string r.body) rfl; clear hb3 c3; have g0 := R3.out.cell 0 (.int .i64 r.client) rfl; have g1 := R3.out.cell 1 (.int .i64 r.serial) rfl; have g2 := R3.out.cell 2 (.int .i64 r.tenant) rfl)
        | (refine Ha.build_to rfl 30 _ rfl (rc zeroR) (by kernel_rfl) ?_)
        | (refine wpList_store_row rfl 30 _ _ rfl _ _ rfl rfl 30 _ R2.out.z (sz30 zeroR) rfl (rc_one zeroR) ?_))
      have hZ := R2.out.z.row (c' := rc zeroR)
      refine bodyPost_ret (v := optR none) (results_mix Tryd.results17 _ _ ⟨w.heap.size + 1, 0, none⟩ _ _ rfl rfl (run_loadVar_row _ _ 30 30 _ (0, 0) _ hZ Tryd.underlying30 rfl (sz30 zeroR))) rfl ⟨rfl, ?_⟩
      exact Ha.below_row R2.out.bel (by omega) _
    · have h2 : bp = true := by simpa using h2
      subst h2
      by_cases h4 : G = false
      · subst h4
        clear h
        go_enter Tryd.func17, Tryd.ntmps17
        go_wp2_with (first
          | (go_at_call 11; refine (k1.out _).mono ?_; rintro e w1 ⟨rfl, hb1⟩; have R1 : Aside (RB r zeroR w w1) := H0.out.next hb1; have c5 := R1.out.cell 5 (.string r.path) rfl; clear hb1)
          | (go_at_call 9; refine (k2.out _).mono ?_; rintro e w2 ⟨rfl, hb2⟩; have R2 : Aside (RB r zeroR w w2) := R1.out.next hb2; have c3 := R2.out.cell 3 (.string r.key) rfl; clear hb2 c5)
          | (go_at_call 13; refine (k3.out _).mono ?_; rintro e w3 ⟨rfl, hb3⟩; have R3 : Aside (RB r zeroR w w3) := R2.out.next hb3; have c6 := R3.out.cell 6 (.string r.body) rfl; clear hb3 c3; have g0 := R3.out.cell 0 (.int .i64 r.client) rfl; have g1 := R3.out.cell 1 (.int .i64 r.serial) rfl; have g2 := R3.out.cell 2 (.int .i64 r.tenant) rfl)
          | (refine Ha.build_to rfl 30 _ rfl (rc zeroR) (by kernel_rfl) ?_)
          | (refine wpList_store_row rfl 30 _ _ rfl _ _ rfl rfl 30 _ R3.out.z (sz30 zeroR) rfl (rc_one zeroR) ?_))
        have hZ := R3.out.z.row (c' := rc zeroR)
        refine bodyPost_ret (v := optR none) (results_mix Tryd.results17 _ _ ⟨w.heap.size + 1, 0, none⟩ _ _ rfl rfl (run_loadVar_row _ _ 30 30 _ (0, 0) _ hZ Tryd.underlying30 rfl (sz30 zeroR))) rfl ⟨rfl, ?_⟩
        exact Ha.below_row R3.out.bel (by omega) _
      · have h4 : G = true := by simpa using h4
        subst h4
        by_cases h5 : 80 < r.body.size
        · have d5 : decide (80 < (r.body.size : Int)) = true := by simp; omega
          clear h
          go_enter Tryd.func17, Tryd.ntmps17
          go_wp2_with (first
            | (go_at_call 11; refine (k1.out _).mono ?_; rintro e w1 ⟨rfl, hb1⟩; have R1 : Aside (RB r zeroR w w1) := H0.out.next hb1; have c5 := R1.out.cell 5 (.string r.path) rfl; clear hb1)
            | (go_at_call 9; refine (k2.out _).mono ?_; rintro e w2 ⟨rfl, hb2⟩; have R2 : Aside (RB r zeroR w w2) := R1.out.next hb2; have c3 := R2.out.cell 3 (.string r.key) rfl; clear hb2 c5)
            | (go_at_call 13; refine (k3.out _).mono ?_; rintro e w3 ⟨rfl, hb3⟩; have R3 : Aside (RB r zeroR w w3) := R2.out.next hb3; have c6 := R3.out.cell 6 (.string r.body) rfl; clear hb3 c3; have g0 := R3.out.cell 0 (.int .i64 r.client) rfl; have g1 := R3.out.cell 1 (.int .i64 r.serial) rfl; have g2 := R3.out.cell 2 (.int .i64 r.tenant) rfl)
            | (refine Ha.build_to rfl 30 _ rfl (rc zeroR) (by kernel_rfl) ?_)
            | (refine wpList_store_row rfl 30 _ _ rfl _ _ rfl rfl 30 _ R3.out.z (sz30 zeroR) rfl (rc_one zeroR) ?_))
          have hZ := R3.out.z.row (c' := rc zeroR)
          refine bodyPost_ret (v := optR none) (results_mix Tryd.results17 _ _ ⟨w.heap.size + 1, 0, none⟩ _ _ rfl rfl (run_loadVar_row _ _ 30 30 _ (0, 0) _ hZ Tryd.underlying30 rfl (sz30 zeroR))) rfl ⟨rfl, ?_⟩
          exact Ha.below_row R3.out.bel (by omega) _
        · have d5 : decide (80 < (r.body.size : Int)) = false := by simp; omega
          have h6 : r.tenant < 0 ∨ 3 < r.tenant ∨ r.client < 0 ∨ 3 < r.client ∨ r.serial < 0 ∨ 1073741824 < r.serial := by
            simp at h
            omega
          clear h
          by_cases t1 : r.tenant < 0
          · have e1 : decide (r.tenant < 0) = true := by simpa using t1
            clear h6 t1
            go_enter Tryd.func17, Tryd.ntmps17
            go_wp2_with (first
              | (go_at_call 11; refine (k1.out _).mono ?_; rintro e w1 ⟨rfl, hb1⟩; have R1 : Aside (RB r zeroR w w1) := H0.out.next hb1; have c5 := R1.out.cell 5 (.string r.path) rfl; clear hb1)
              | (go_at_call 9; refine (k2.out _).mono ?_; rintro e w2 ⟨rfl, hb2⟩; have R2 : Aside (RB r zeroR w w2) := R1.out.next hb2; have c3 := R2.out.cell 3 (.string r.key) rfl; clear hb2 c5)
              | (go_at_call 13; refine (k3.out _).mono ?_; rintro e w3 ⟨rfl, hb3⟩; have R3 : Aside (RB r zeroR w w3) := R2.out.next hb3; have c6 := R3.out.cell 6 (.string r.body) rfl; clear hb3 c3; have g0 := R3.out.cell 0 (.int .i64 r.client) rfl; have g1 := R3.out.cell 1 (.int .i64 r.serial) rfl; have g2 := R3.out.cell 2 (.int .i64 r.tenant) rfl)
              | (refine Ha.build_to rfl 30 _ rfl (rc zeroR) (by kernel_rfl) ?_)
              | (refine wpList_store_row rfl 30 _ _ rfl _ _ rfl rfl 30 _ R3.out.z (sz30 zeroR) rfl (rc_one zeroR) ?_))
            have hZ := R3.out.z.row (c' := rc zeroR)
            refine bodyPost_ret (v := optR none) (results_mix Tryd.results17 _ _ ⟨w.heap.size + 1, 0, none⟩ _ _ rfl rfl (run_loadVar_row _ _ 30 30 _ (0, 0) _ hZ Tryd.underlying30 rfl (sz30 zeroR))) rfl ⟨rfl, ?_⟩
            exact Ha.below_row R3.out.bel (by omega) _
          · have e1 : decide (r.tenant < 0) = false := by simpa using t1
            by_cases t2 : 3 < r.tenant
            · have e2 : decide (3 < r.tenant) = true := by simpa using t2
              clear h6 t1 t2
              go_enter Tryd.func17, Tryd.ntmps17
              go_wp2_with (first
                | (go_at_call 11; refine (k1.out _).mono ?_; rintro e w1 ⟨rfl, hb1⟩; have R1 : Aside (RB r zeroR w w1) := H0.out.next hb1; have c5 := R1.out.cell 5 (.string r.path) rfl; clear hb1)
                | (go_at_call 9; refine (k2.out _).mono ?_; rintro e w2 ⟨rfl, hb2⟩; have R2 : Aside (RB r zeroR w w2) := R1.out.next hb2; have c3 := R2.out.cell 3 (.string r.key) rfl; clear hb2 c5)
                | (go_at_call 13; refine (k3.out _).mono ?_; rintro e w3 ⟨rfl, hb3⟩; have R3 : Aside (RB r zeroR w w3) := R2.out.next hb3; have c6 := R3.out.cell 6 (.string r.body) rfl; clear hb3 c3; have g0 := R3.out.cell 0 (.int .i64 r.client) rfl; have g1 := R3.out.cell 1 (.int .i64 r.serial) rfl; have g2 := R3.out.cell 2 (.int .i64 r.tenant) rfl)
                | (refine Ha.build_to rfl 30 _ rfl (rc zeroR) (by kernel_rfl) ?_)
                | (refine wpList_store_row rfl 30 _ _ rfl _ _ rfl rfl 30 _ R3.out.z (sz30 zeroR) rfl (rc_one zeroR) ?_))
              have hZ := R3.out.z.row (c' := rc zeroR)
              refine bodyPost_ret (v := optR none) (results_mix Tryd.results17 _ _ ⟨w.heap.size + 1, 0, none⟩ _ _ rfl rfl (run_loadVar_row _ _ 30 30 _ (0, 0) _ hZ Tryd.underlying30 rfl (sz30 zeroR))) rfl ⟨rfl, ?_⟩
              exact Ha.below_row R3.out.bel (by omega) _
            · have e2 : decide (3 < r.tenant) = false := by simpa using t2
              by_cases t3 : r.client < 0
              · have e3 : decide (r.client < 0) = true := by simpa using t3
                clear h6 t1 t2 t3
                go_enter Tryd.func17, Tryd.ntmps17
                go_wp2_with (first
                  | (go_at_call 11; refine (k1.out _).mono ?_; rintro e w1 ⟨rfl, hb1⟩; have R1 : Aside (RB r zeroR w w1) := H0.out.next hb1; have c5 := R1.out.cell 5 (.string r.path) rfl; clear hb1)
                  | (go_at_call 9; refine (k2.out _).mono ?_; rintro e w2 ⟨rfl, hb2⟩; have R2 : Aside (RB r zeroR w w2) := R1.out.next hb2; have c3 := R2.out.cell 3 (.string r.key) rfl; clear hb2 c5)
                  | (go_at_call 13; refine (k3.out _).mono ?_; rintro e w3 ⟨rfl, hb3⟩; have R3 : Aside (RB r zeroR w w3) := R2.out.next hb3; have c6 := R3.out.cell 6 (.string r.body) rfl; clear hb3 c3; have g0 := R3.out.cell 0 (.int .i64 r.client) rfl; have g1 := R3.out.cell 1 (.int .i64 r.serial) rfl; have g2 := R3.out.cell 2 (.int .i64 r.tenant) rfl)
                  | (refine Ha.build_to rfl 30 _ rfl (rc zeroR) (by kernel_rfl) ?_)
                  | (refine wpList_store_row rfl 30 _ _ rfl _ _ rfl rfl 30 _ R3.out.z (sz30 zeroR) rfl (rc_one zeroR) ?_))
                have hZ := R3.out.z.row (c' := rc zeroR)
                refine bodyPost_ret (v := optR none) (results_mix Tryd.results17 _ _ ⟨w.heap.size + 1, 0, none⟩ _ _ rfl rfl (run_loadVar_row _ _ 30 30 _ (0, 0) _ hZ Tryd.underlying30 rfl (sz30 zeroR))) rfl ⟨rfl, ?_⟩
                exact Ha.below_row R3.out.bel (by omega) _
              · have e3 : decide (r.client < 0) = false := by simpa using t3
                by_cases t4 : 3 < r.client
                · have e4 : decide (3 < r.client) = true := by simpa using t4
                  clear h6 t1 t2 t3 t4
                  go_enter Tryd.func17, Tryd.ntmps17
                  go_wp2_with (first
                    | (go_at_call 11; refine (k1.out _).mono ?_; rintro e w1 ⟨rfl, hb1⟩; have R1 : Aside (RB r zeroR w w1) := H0.out.next hb1; have c5 := R1.out.cell 5 (.string r.path) rfl; clear hb1)
                    | (go_at_call 9; refine (k2.out _).mono ?_; rintro e w2 ⟨rfl, hb2⟩; have R2 : Aside (RB r zeroR w w2) := R1.out.next hb2; have c3 := R2.out.cell 3 (.string r.key) rfl; clear hb2 c5)
                    | (go_at_call 13; refine (k3.out _).mono ?_; rintro e w3 ⟨rfl, hb3⟩; have R3 : Aside (RB r zeroR w w3) := R2.out.next hb3; have c6 := R3.out.cell 6 (.string r.body) rfl; clear hb3 c3; have g0 := R3.out.cell 0 (.int .i64 r.client) rfl; have g1 := R3.out.cell 1 (.int .i64 r.serial) rfl; have g2 := R3.out.cell 2 (.int .i64 r.tenant) rfl)
                    | (refine Ha.build_to rfl 30 _ rfl (rc zeroR) (by kernel_rfl) ?_)
                    | (refine wpList_store_row rfl 30 _ _ rfl _ _ rfl rfl 30 _ R3.out.z (sz30 zeroR) rfl (rc_one zeroR) ?_))
                  have hZ := R3.out.z.row (c' := rc zeroR)
                  refine bodyPost_ret (v := optR none) (results_mix Tryd.results17 _ _ ⟨w.heap.size + 1, 0, none⟩ _ _ rfl rfl (run_loadVar_row _ _ 30 30 _ (0, 0) _ hZ Tryd.underlying30 rfl (sz30 zeroR))) rfl ⟨rfl, ?_⟩
                  exact Ha.below_row R3.out.bel (by omega) _
                · have e4 : decide (3 < r.client) = false := by simpa using t4
                  by_cases t5 : r.serial < 0
                  · have e5 : decide (r.serial < 0) = true := by simpa using t5
                    clear h6 t1 t2 t3 t4 t5
                    go_enter Tryd.func17, Tryd.ntmps17
                    go_wp2_with (first
                      | (go_at_call 11; refine (k1.out _).mono ?_; rintro e w1 ⟨rfl, hb1⟩; have R1 : Aside (RB r zeroR w w1) := H0.out.next hb1; have c5 := R1.out.cell 5 (.string r.path) rfl; clear hb1)
                      | (go_at_call 9; refine (k2.out _).mono ?_; rintro e w2 ⟨rfl, hb2⟩; have R2 : Aside (RB r zeroR w w2) := R1.out.next hb2; have c3 := R2.out.cell 3 (.string r.key) rfl; clear hb2 c5)
                      | (go_at_call 13; refine (k3.out _).mono ?_; rintro e w3 ⟨rfl, hb3⟩; have R3 : Aside (RB r zeroR w w3) := R2.out.next hb3; have c6 := R3.out.cell 6 (.string r.body) rfl; clear hb3 c3; have g0 := R3.out.cell 0 (.int .i64 r.client) rfl; have g1 := R3.out.cell 1 (.int .i64 r.serial) rfl; have g2 := R3.out.cell 2 (.int .i64 r.tenant) rfl)
                      | (refine Ha.build_to rfl 30 _ rfl (rc zeroR) (by kernel_rfl) ?_)
                      | (refine wpList_store_row rfl 30 _ _ rfl _ _ rfl rfl 30 _ R3.out.z (sz30 zeroR) rfl (rc_one zeroR) ?_))
                    have hZ := R3.out.z.row (c' := rc zeroR)
                    refine bodyPost_ret (v := optR none) (results_mix Tryd.results17 _ _ ⟨w.heap.size + 1, 0, none⟩ _ _ rfl rfl (run_loadVar_row _ _ 30 30 _ (0, 0) _ hZ Tryd.underlying30 rfl (sz30 zeroR))) rfl ⟨rfl, ?_⟩
                    exact Ha.below_row R3.out.bel (by omega) _
                  · have e5 : decide (r.serial < 0) = false := by simpa using t5
                    have e6 : decide (1073741824 < r.serial) = true := by simp; omega
                    clear h6 t1 t2 t3 t4 t5
                    go_enter Tryd.func17, Tryd.ntmps17
                    go_wp2_with (first
                      | (go_at_call 11; refine (k1.out _).mono ?_; rintro e w1 ⟨rfl, hb1⟩; have R1 : Aside (RB r zeroR w w1) := H0.out.next hb1; have c5 := R1.out.cell 5 (.string r.path) rfl; clear hb1)
                      | (go_at_call 9; refine (k2.out _).mono ?_; rintro e w2 ⟨rfl, hb2⟩; have R2 : Aside (RB r zeroR w w2) := R1.out.next hb2; have c3 := R2.out.cell 3 (.string r.key) rfl; clear hb2 c5)
                      | (go_at_call 13; refine (k3.out _).mono ?_; rintro e w3 ⟨rfl, hb3⟩; have R3 : Aside (RB r zeroR w w3) := R2.out.next hb3; have c6 := R3.out.cell 6 (.string r.body) rfl; clear hb3 c3; have g0 := R3.out.cell 0 (.int .i64 r.client) rfl; have g1 := R3.out.cell 1 (.int .i64 r.serial) rfl; have g2 := R3.out.cell 2 (.int .i64 r.tenant) rfl)
                      | (refine Ha.build_to rfl 30 _ rfl (rc zeroR) (by kernel_rfl) ?_)
                      | (refine wpList_store_row rfl 30 _ _ rfl _ _ rfl rfl 30 _ R3.out.z (sz30 zeroR) rfl (rc_one zeroR) ?_))
                    have hZ := R3.out.z.row (c' := rc zeroR)
                    refine bodyPost_ret (v := optR none) (results_mix Tryd.results17 _ _ ⟨w.heap.size + 1, 0, none⟩ _ _ rfl rfl (run_loadVar_row _ _ 30 30 _ (0, 0) _ hZ Tryd.underlying30 rfl (sz30 zeroR))) rfl ⟨rfl, ?_⟩
                    exact Ha.below_row R3.out.bel (by omega) _

set_option maxHeartbeats 1600000 in
set_option maxRecDepth 100000 in
theorem refRequest_yes (r : Req) (w : World) (X Y : ByteArray)
    (k1 : Aside (∀ u : World, Calls Tryd.prog 11 #[.string r.method] u fun e w' => e = .returned (.tuple #[.string X, .bool true]) ∧ Below u.heap.size u w'))
    (k2 : Aside (∀ u : World, Calls Tryd.prog 9 #[.string r.path] u fun e w' => e = .returned (.tuple #[.string Y, .bool true]) ∧ Below u.heap.size u w'))
    (h : restOK r = true) :
    Calls Tryd.prog 17 #[.agg (rc r)] w fun e w' => e = .returned (optR (some (put2 r X Y))) ∧ Below w.heap.size w w' := by
  have k3 : Aside (∀ u : World, _) := fun u => refKey_any r.key u
  have H0 : Aside (RB r zeroR w (made r w)) := RB.first r w
  unfold restOK nums at h
  generalize key r.key = G at *
  have r4 : (rc r)[4]? = some (.string r.method) := rfl
  have r5 : (rc r)[5]? = some (.string r.path) := rfl
  have h5 : r.body.size ≤ 80 ∧ G = true ∧ (0 ≤ r.tenant ∧ r.tenant ≤ 3) ∧ (0 ≤ r.client ∧ r.client ≤ 3) ∧ 0 ≤ r.serial ∧ r.serial ≤ 1073741824 := by
    simp at h
    exact ⟨h.1.2, h.1.1, h.2.1.1, h.2.1.2, h.2.2⟩
  obtain ⟨h5, rfl, t1, t2, t3⟩ := h5
  have d5 : decide (80 < (r.body.size : Int)) = false := by simp; omega
  have e1 : decide (r.tenant < 0) = false := by simp; omega
  have e2 : decide (3 < r.tenant) = false := by simp; omega
  have e3 : decide (r.client < 0) = false := by simp; omega
  have e4 : decide (3 < r.client) = false := by simp; omega
  have e5 : decide (r.serial < 0) = false := by simp; omega
  have e6 : decide (1073741824 < r.serial) = false := by simp; omega
  clear h t1 t2 t3
  go_enter Tryd.func17, Tryd.ntmps17
  go_wp2_with (first
    | (go_at_call 11; refine (k1.out _).mono ?_; rintro e w1 ⟨rfl, hb1⟩; have R1 : Aside (RB r zeroR w w1) := H0.out.next hb1; have c5 := R1.out.cell 5 (.string r.path) rfl; clear hb1)
    | (go_at_call 9; refine (k2.out _).mono ?_; rintro e w2 ⟨rfl, hb2⟩; have R2 : Aside (RB r zeroR w w2) := R1.out.next hb2; have c3 := R2.out.cell 3 (.string r.key) rfl; clear hb2 c5)
    | (go_at_call 13; refine (k3.out _).mono ?_; rintro e w4 ⟨rfl, hb3⟩; have R4 : Aside (RB r zeroR w w4) := R2.out.next hb3; have c6 := R4.out.cell 6 (.string r.body) rfl; clear hb3 c3; have g0 := R4.out.cell 0 (.int .i64 r.client) rfl; have g1 := R4.out.cell 1 (.int .i64 r.serial) rfl; have g2 := R4.out.cell 2 (.int .i64 r.tenant) rfl; have f4 := R4.out.r.frozen 4; have f5 := R4.out.r.frozen 5; have j4 := R4.out.cell 4 (.string r.method) rfl; have j5 := R4.out.cell 5 (.string r.path) rfl; have R5 : Aside (RB (put2 r X Y) zeroR w ((w4.setCell ⟨w.heap.size, 4, none⟩ (.string X)).setCell ⟨w.heap.size, 5, none⟩ (.string Y))) := R4.out.put X Y)
    | (refine wpList_load_row rfl 30 _ rfl _ rfl 30 _ (0, 0) _ R5.out.r Tryd.underlying30 rfl (sz30 (put2 r X Y)) ?_)
    | (refine wpList_store_row rfl 30 _ _ rfl _ _ rfl rfl 30 _ R5.out.z (sz30 (put2 r X Y)) rfl (rc_one (put2 r X Y)) ?_))
  have R6 := R5.out.row (z' := put2 r X Y)
  refine bodyPost_ret (v := optR (some (put2 r X Y))) (results_mix Tryd.results17 _ _ ⟨w.heap.size + 1, 0, none⟩ _ _ rfl rfl (run_loadVar_row _ _ 30 30 _ (0, 0) _ R6.z Tryd.underlying30 rfl (sz30 (put2 r X Y)))) rfl ⟨rfl, ?_⟩
  exact R6.bel

theorem refRequest_any (r : Req) (w : World) :
    Calls Tryd.prog 17 #[.agg (rc r)] w fun e w' => e = .returned (optR (reqO r)) ∧ Below w.heap.size w w' := by
  have k1 : Aside (∀ u : World, Calls Tryd.prog 11 #[.string r.method] u fun e w' => e = .returned (.tuple #[.string (optS (Cn.meth r.method.data.toList)), .bool (Cn.meth r.method.data.toList).isSome]) ∧ Below u.heap.size u w') := fun u => by
    rw [← opt_is]
    exact refMethod_any r.method u
  have k2 : Aside (∀ u : World, Calls Tryd.prog 9 #[.string r.path] u fun e w' => e = .returned (.tuple #[.string (optS (pathO r.path)), .bool (pathO r.path).isSome]) ∧ Below u.heap.size u w') := fun u => by
    rw [← opt_is]
    exact refPath_any r.path u
  by_cases h : Cn.meth r.method.data.toList = none ∨ pathO r.path = none ∨ restOK r = false
  · rw [reqO_no r h]
    refine refRequest_no r w _ _ _ _ k1 k2 ?_
    rcases h with h | h | h
    · exact .inl (by rw [h]; rfl)
    · exact .inr (.inl (by rw [h]; rfl))
    · exact .inr (.inr h)
  · cases hm : Cn.meth r.method.data.toList with
    | none => exact absurd (.inl hm) h
    | some m =>
      cases hp : pathO r.path with
      | none => exact absurd (.inr (.inl hp)) h
      | some p =>
        have hr : restOK r = true := by
          cases hr : restOK r with
          | true => rfl
          | false => exact absurd (.inr (.inr hr)) h
        rw [reqO_is r m p hm hp hr]
        rw [hm] at k1
        rw [hp] at k2
        exact refRequest_yes r w (txt m) (txt p) k1 k2 hr
end Go.Proofs.YtkijglkjpgjdaaaDoor
