/-
  YtpeioecpilmpiaaGreatDoor: the texts N2, X2, X7, one behind the other.
-/
import Derived.Test.YtpeioecpilmpiaaGreatDoorMF25
import Derived.WalkKit
import Derived.WalkSpells
import Derived.WalkLawsBesides
import Derived.Deep.LoopGhost
import Derived.Laws.Externs
import Derived.Below
import Derived.BigQuiet
import Derived.Deep.RegionWith
import Derived.OwnWalk
import Derived.Maps.AppendAt
import Derived.WalkSmall
import Derived.Test.YtpeioecpilmpiaaGreatDoorMF32
/-
  The document's reader: a number without -.
-/
namespace Go.Proofs.YtpeioecpilmpiaaGreatDoor
open Go.RowKit
set_option maxHeartbeats 8000000 in
set_option maxRecDepth 100000 in
theorem dnumber_plain (r : Nat) (s : ByteArray) (p d : Nat) (w : World) (h' : Rq r s p d 0 w) (hp : p ≤ s.size) (hs : s.size ≤ 1000) (hz : iz s p 0 45 = false) :
    Calls Tryz.prog 41 #[.pointer (some ⟨r, 0, none⟩)] w fun en w' => ∃ (q e' : Nat) (n : Int) (f : Js.B), en = .returned (.agg (vc6 3 f [] n noS noS)) ∧ NumO s p q e' n f ∧ Rq r s q d e' w' ∧ w.grownBy w' (some r) := by
  have K1 := asd (is_any r s p d 0 45 (w.alloc (.cells z6 28)) (h'.alloc _))
  have B0 := asd (Bk.new w z6)
  have HW := asd (And.intro (h'.alloc (.cells z6 28)) (gal w (.cells z6 28) (some r)))
  have rlt := h'.lt
  rw [hz] at K1
  have HZ := asd hz
  clear h' hz
  have hp1 : p ≤ s.size := hp
  go_enter Tryz.func41, Tryz.ntmps41
  go_wp2_with (go_at_call 36; refine K1.out.mono ?_; rintro en w2 ⟨rfl, h1, g1⟩; have I0 := asd (And.intro h1 (And.intro (gtrans HW.out.2 ⟨g1.os, g1.tape, g1.output, g1.size, fun k hk _ => g1.block k hk (fun e => by cases e)⟩) (B0.out.keep (g1.block _ B0.out.lt (fun e => by cases e))))); clear h1 g1 K1)
  clear HW B0
  go_loopg [4, 5] 16 (fun gh s4 s5 wr => ∃ q k n : Nat, 16 - k ≤ gh ∧ s4 = .int .i64 (n : Int) ∧ s5 = .int .i64 (k : Int) ∧ Aside (DN s (p) q k n) ∧ Aside (Rq r s q d 0 wr ∧ w.grownBy wr (some r) ∧ Bk wr w.heap.size z6))
  case atStart => exact ⟨p, 0, 0, by omega, rfl, rfl, DN.start s (p) hp1, I0⟩
  case round =>
    obtain ⟨q, k, n, hgh, rfl, rfl, D, I⟩ := hrel
    clear I0
    have hk15 := D.out.le
    have hfit := D.out.fit
    have hbd := D.out.bd
    have c0 := I.out.1.c0
    have c1 := I.out.1.c1
    have ID := asd (fun m => And.intro (I.out.1.drewN m) (And.intro (grown_drewN I.out.2.1 m) (I.out.2.2.keep (w' := wr.drewN m) rfl)))
    have KZ := asd (fun u : World => decimal_any ((n : Int)) u (by omega) (by omega))
    by_cases hk : k < 15
    · have d1 : decide ((k : Int) < 15) = true := by simp; omega
      by_cases hlt : q < s.size
      · have d2 : decide (q < s.size) = true := by simpa using hlt
        have xg := get_at s q hlt
        generalize hgx : s[q] = x at *
        have hxl := x.toNat_lt
        by_cases x1 : 48 ≤ x.toNat
        · have t1 : decide ((48 : Int) ≤ x.toNat) = true := by simp; omega
          by_cases x2 : x.toNat ≤ 57
          · have t2 : decide ((x.toNat : Int) ≤ 57) = true := by simp; omega
            by_cases hk0 : k = 0
            · have t3 : ((k : Int) == 0) = true := by rw [beq_iff_eq]; omega
              have HC : k = 0 ∨ 0 < n := .inl hk0
              have N2 := asd (D.out.next hlt hk (by rw [xg]; exact (Js.isDg_iff x).2 (by omega)) HC)
              rw [xg] at N2
              clear D I
              have ev : ((n * 10 + (x.toNat - 48) : Nat) : Int) = (n : Int) * 10 + (x.toNat : Int) - 48 := by omega
              go_wp2
              go_quiet (fail)
              have I2 := asd (ID.out nq)
              generalize wr.drewN nq = w3 at *
              clear c0 c1 ID
              have c0 := I2.out.1.c0
              have c1 := I2.out.1.c1
              go_wp2
              go_quiet (fail)
              have I3 := asd (And.intro (I2.out.1.drewN nq) (And.intro (grown_drewN I2.out.2.1 nq) (I2.out.2.2.keep (w' := w3.drewN nq) rfl)))
              generalize w3.drewN nq = w4 at *
              clear c0 c1 I2
              have c1 := I3.out.1.c1
              have f1 := I3.out.1.fz 1
              have I4 := asd (And.intro I3.out.1.inc1 (And.intro (gtrans I3.out.2.1 (grown_set w4 r 1 (.int .i64 ((q : Int) + 1)))) (I3.out.2.2.grown (grown_set w4 r 1 (.int .i64 ((q : Int) + 1))) (by omega))))
              go_wp2
              go_roundg (16 - (k + 1))
              case measure => omega
              case rel => exact ⟨q + 1, k + 1, n * 10 + (x.toNat - 48), Nat.le_refl _, by rw [ev], by go_num, N2, I4⟩
            · have t3 : ((k : Int) == 0) = false := by rw [beq_eq_false_iff_ne]; omega
              have t3' : ¬ ((k : Int) = 0) := by omega
              by_cases hn : 0 < n
              · have t4 : decide ((0 : Int) < (n : Int)) = true := by simp; omega
                have HC : k = 0 ∨ 0 < n := .inr hn
                have N2 := asd (D.out.next hlt hk (by rw [xg]; exact (Js.isDg_iff x).2 (by omega)) HC)
                rw [xg] at N2
                clear D I
                have ev : ((n * 10 + (x.toNat - 48) : Nat) : Int) = (n : Int) * 10 + (x.toNat : Int) - 48 := by omega
                go_wp2
                go_quiet (fail)
                have I2 := asd (ID.out nq)
                generalize wr.drewN nq = w3 at *
                clear c0 c1 ID
                have c0 := I2.out.1.c0
                have c1 := I2.out.1.c1
                go_wp2
                go_quiet (fail)
                have I3 := asd (And.intro (I2.out.1.drewN nq) (And.intro (grown_drewN I2.out.2.1 nq) (I2.out.2.2.keep (w' := w3.drewN nq) rfl)))
                generalize w3.drewN nq = w4 at *
                clear c0 c1 I2
                have c1 := I3.out.1.c1
                have f1 := I3.out.1.fz 1
                have I4 := asd (And.intro I3.out.1.inc1 (And.intro (gtrans I3.out.2.1 (grown_set w4 r 1 (.int .i64 ((q : Int) + 1)))) (I3.out.2.2.grown (grown_set w4 r 1 (.int .i64 ((q : Int) + 1))) (by omega))))
                go_wp2
                go_roundg (16 - (k + 1))
                case measure => omega
                case rel => exact ⟨q + 1, k + 1, n * 10 + (x.toNat - 48), Nat.le_refl _, by rw [ev], by go_num, N2, I4⟩
              · have t4 : decide ((0 : Int) < (n : Int)) = false := by simp; omega
                have E := asd (numo_plain HZ.out D.out (D.out.stop (.inr (.inr ⟨hk0, by omega⟩))))
                have t0 : ((k : Int) == 0) = false := by rw [beq_eq_false_iff_ne]; omega
                have t0' : ¬ ((k : Int) = 0) := by omega
                rw [if_neg hk0] at E
                clear D I
                go_wp2
                go_quiet (fail)
                have I2 := asd (ID.out nq)
                generalize wr.drewN nq = w3 at *
                clear c0 c1 ID
                go_wp2_with (first
                  | (go_at_call 60; refine (KZ.out _).mono ?_; rintro en w5 ⟨rfl, b5⟩; have I4 := asd (And.intro (I2.out.1.keep (b5.block r I2.out.1.lt)) (And.intro (gtrans I2.out.2.1 (gbelow b5)) (I2.out.2.2.keep (b5.block _ I2.out.2.2.lt)))); clear b5)
                  | (refine wpList_store_row rfl 28 _ _ rfl _ (vc6 3 (Js.dec ((n : Int))) [] ((n : Int)) noS noS) rfl rfl 28 _ I4.out.2.2 (sz28 _ _ _ _ _ _) rfl (vc6_one _ _ _ _ _ _ rfl rfl) ?_))
                refine bodyPost_ret (results_cell_row Tryz.results41 _ _ w.heap.size 28 (vc6 3 (Js.dec ((n : Int))) [] ((n : Int)) noS noS) (0, 0) _ rfl (setRow_heap _ _ _ _ _ _ I4.out.2.2) Tryz.underlying28 rfl (sz28 _ _ _ _ _ _)) rfl ?_
                exact ⟨q, _, _, _, rfl, E.out, I4.out.1.keep (setRow_other _ _ _ _ (by omega)), grown_row I4.out.2.1 _ _ (Nat.le_refl _)⟩
          · have t2 : decide ((x.toNat : Int) ≤ 57) = false := by simp; omega
            by_cases hk0 : k = 0
            · skip
              have E := asd (numo_plain HZ.out D.out (D.out.stop (.inr (.inl (DN.digs_no hlt (by rw [xg, Bool.eq_false_iff]; intro hh; have := (Js.isDg_iff x).1 hh; omega))))))
              have t0 : ((k : Int) == 0) = true := by rw [beq_iff_eq]; omega
              rw [if_pos hk0] at E
              clear D I
              go_wp2
              go_quiet (fail)
              have I2 := asd (ID.out nq)
              generalize wr.drewN nq = w3 at *
              clear c0 c1 ID
              go_wp2_with (first
                | (go_at_call 25; refine (bad_any r s q d 0 3 _ I2.out.1).mono ?_; rintro en w4 ⟨rfl, h4, g4⟩; have I3 := asd (And.intro h4 (And.intro (gtrans I2.out.2.1 g4) (I2.out.2.2.grown g4 (by omega)))); clear h4 g4)
                | (go_at_call 60; refine (KZ.out _).mono ?_; rintro en w5 ⟨rfl, b5⟩; have I4 := asd (And.intro (I3.out.1.keep (b5.block r I3.out.1.lt)) (And.intro (gtrans I3.out.2.1 (gbelow b5)) (I3.out.2.2.keep (b5.block _ I3.out.2.2.lt)))); clear b5)
                | (refine wpList_store_row rfl 28 _ _ rfl _ (vc6 3 (Js.dec ((n : Int))) [] ((n : Int)) noS noS) rfl rfl 28 _ I4.out.2.2 (sz28 _ _ _ _ _ _) rfl (vc6_one _ _ _ _ _ _ rfl rfl) ?_))
              refine bodyPost_ret (results_cell_row Tryz.results41 _ _ w.heap.size 28 (vc6 3 (Js.dec ((n : Int))) [] ((n : Int)) noS noS) (0, 0) _ rfl (setRow_heap _ _ _ _ _ _ I4.out.2.2) Tryz.underlying28 rfl (sz28 _ _ _ _ _ _)) rfl ?_
              exact ⟨q, _, _, _, rfl, E.out, I4.out.1.keep (setRow_other _ _ _ _ (by omega)), grown_row I4.out.2.1 _ _ (Nat.le_refl _)⟩
            · skip
              have E := asd (numo_plain HZ.out D.out (D.out.stop (.inr (.inl (DN.digs_no hlt (by rw [xg, Bool.eq_false_iff]; intro hh; have := (Js.isDg_iff x).1 hh; omega))))))
              have t0 : ((k : Int) == 0) = false := by rw [beq_eq_false_iff_ne]; omega
              have t0' : ¬ ((k : Int) = 0) := by omega
              rw [if_neg hk0] at E
              clear D I
              go_wp2
              go_quiet (fail)
              have I2 := asd (ID.out nq)
              generalize wr.drewN nq = w3 at *
              clear c0 c1 ID
              go_wp2_with (first
                | (go_at_call 60; refine (KZ.out _).mono ?_; rintro en w5 ⟨rfl, b5⟩; have I4 := asd (And.intro (I2.out.1.keep (b5.block r I2.out.1.lt)) (And.intro (gtrans I2.out.2.1 (gbelow b5)) (I2.out.2.2.keep (b5.block _ I2.out.2.2.lt)))); clear b5)
                | (refine wpList_store_row rfl 28 _ _ rfl _ (vc6 3 (Js.dec ((n : Int))) [] ((n : Int)) noS noS) rfl rfl 28 _ I4.out.2.2 (sz28 _ _ _ _ _ _) rfl (vc6_one _ _ _ _ _ _ rfl rfl) ?_))
              refine bodyPost_ret (results_cell_row Tryz.results41 _ _ w.heap.size 28 (vc6 3 (Js.dec ((n : Int))) [] ((n : Int)) noS noS) (0, 0) _ rfl (setRow_heap _ _ _ _ _ _ I4.out.2.2) Tryz.underlying28 rfl (sz28 _ _ _ _ _ _)) rfl ?_
              exact ⟨q, _, _, _, rfl, E.out, I4.out.1.keep (setRow_other _ _ _ _ (by omega)), grown_row I4.out.2.1 _ _ (Nat.le_refl _)⟩
        · have t1 : decide ((48 : Int) ≤ x.toNat) = false := by simp; omega
          by_cases hk0 : k = 0
          · skip
            have E := asd (numo_plain HZ.out D.out (D.out.stop (.inr (.inl (DN.digs_no hlt (by rw [xg, Bool.eq_false_iff]; intro hh; have := (Js.isDg_iff x).1 hh; omega))))))
            have t0 : ((k : Int) == 0) = true := by rw [beq_iff_eq]; omega
            rw [if_pos hk0] at E
            clear D I
            go_wp2
            go_quiet (fail)
            have I2 := asd (ID.out nq)
            generalize wr.drewN nq = w3 at *
            clear c0 c1 ID
            go_wp2_with (first
              | (go_at_call 25; refine (bad_any r s q d 0 3 _ I2.out.1).mono ?_; rintro en w4 ⟨rfl, h4, g4⟩; have I3 := asd (And.intro h4 (And.intro (gtrans I2.out.2.1 g4) (I2.out.2.2.grown g4 (by omega)))); clear h4 g4)
              | (go_at_call 60; refine (KZ.out _).mono ?_; rintro en w5 ⟨rfl, b5⟩; have I4 := asd (And.intro (I3.out.1.keep (b5.block r I3.out.1.lt)) (And.intro (gtrans I3.out.2.1 (gbelow b5)) (I3.out.2.2.keep (b5.block _ I3.out.2.2.lt)))); clear b5)
              | (refine wpList_store_row rfl 28 _ _ rfl _ (vc6 3 (Js.dec ((n : Int))) [] ((n : Int)) noS noS) rfl rfl 28 _ I4.out.2.2 (sz28 _ _ _ _ _ _) rfl (vc6_one _ _ _ _ _ _ rfl rfl) ?_))
            refine bodyPost_ret (results_cell_row Tryz.results41 _ _ w.heap.size 28 (vc6 3 (Js.dec ((n : Int))) [] ((n : Int)) noS noS) (0, 0) _ rfl (setRow_heap _ _ _ _ _ _ I4.out.2.2) Tryz.underlying28 rfl (sz28 _ _ _ _ _ _)) rfl ?_
            exact ⟨q, _, _, _, rfl, E.out, I4.out.1.keep (setRow_other _ _ _ _ (by omega)), grown_row I4.out.2.1 _ _ (Nat.le_refl _)⟩
          · skip
            have E := asd (numo_plain HZ.out D.out (D.out.stop (.inr (.inl (DN.digs_no hlt (by rw [xg, Bool.eq_false_iff]; intro hh; have := (Js.isDg_iff x).1 hh; omega))))))
            have t0 : ((k : Int) == 0) = false := by rw [beq_eq_false_iff_ne]; omega
            have t0' : ¬ ((k : Int) = 0) := by omega
            rw [if_neg hk0] at E
            clear D I
            go_wp2
            go_quiet (fail)
            have I2 := asd (ID.out nq)
            generalize wr.drewN nq = w3 at *
            clear c0 c1 ID
            go_wp2_with (first
              | (go_at_call 60; refine (KZ.out _).mono ?_; rintro en w5 ⟨rfl, b5⟩; have I4 := asd (And.intro (I2.out.1.keep (b5.block r I2.out.1.lt)) (And.intro (gtrans I2.out.2.1 (gbelow b5)) (I2.out.2.2.keep (b5.block _ I2.out.2.2.lt)))); clear b5)
              | (refine wpList_store_row rfl 28 _ _ rfl _ (vc6 3 (Js.dec ((n : Int))) [] ((n : Int)) noS noS) rfl rfl 28 _ I4.out.2.2 (sz28 _ _ _ _ _ _) rfl (vc6_one _ _ _ _ _ _ rfl rfl) ?_))
            refine bodyPost_ret (results_cell_row Tryz.results41 _ _ w.heap.size 28 (vc6 3 (Js.dec ((n : Int))) [] ((n : Int)) noS noS) (0, 0) _ rfl (setRow_heap _ _ _ _ _ _ I4.out.2.2) Tryz.underlying28 rfl (sz28 _ _ _ _ _ _)) rfl ?_
            exact ⟨q, _, _, _, rfl, E.out, I4.out.1.keep (setRow_other _ _ _ _ (by omega)), grown_row I4.out.2.1 _ _ (Nat.le_refl _)⟩
      · have d2 : decide (q < s.size) = false := by simpa using hlt
        by_cases hk0 : k = 0
        · skip
          have E := asd (numo_plain HZ.out D.out (D.out.stop (.inr (.inl (DN.digs_end (by omega))))))
          have t0 : ((k : Int) == 0) = true := by rw [beq_iff_eq]; omega
          rw [if_pos hk0] at E
          clear D I
          go_wp2
          go_quiet (fail)
          have I2 := asd (ID.out nq)
          generalize wr.drewN nq = w3 at *
          clear c0 c1 ID
          go_wp2_with (first
            | (go_at_call 25; refine (bad_any r s q d 0 3 _ I2.out.1).mono ?_; rintro en w4 ⟨rfl, h4, g4⟩; have I3 := asd (And.intro h4 (And.intro (gtrans I2.out.2.1 g4) (I2.out.2.2.grown g4 (by omega)))); clear h4 g4)
            | (go_at_call 60; refine (KZ.out _).mono ?_; rintro en w5 ⟨rfl, b5⟩; have I4 := asd (And.intro (I3.out.1.keep (b5.block r I3.out.1.lt)) (And.intro (gtrans I3.out.2.1 (gbelow b5)) (I3.out.2.2.keep (b5.block _ I3.out.2.2.lt)))); clear b5)
            | (refine wpList_store_row rfl 28 _ _ rfl _ (vc6 3 (Js.dec ((n : Int))) [] ((n : Int)) noS noS) rfl rfl 28 _ I4.out.2.2 (sz28 _ _ _ _ _ _) rfl (vc6_one _ _ _ _ _ _ rfl rfl) ?_))
          refine bodyPost_ret (results_cell_row Tryz.results41 _ _ w.heap.size 28 (vc6 3 (Js.dec ((n : Int))) [] ((n : Int)) noS noS) (0, 0) _ rfl (setRow_heap _ _ _ _ _ _ I4.out.2.2) Tryz.underlying28 rfl (sz28 _ _ _ _ _ _)) rfl ?_
          exact ⟨q, _, _, _, rfl, E.out, I4.out.1.keep (setRow_other _ _ _ _ (by omega)), grown_row I4.out.2.1 _ _ (Nat.le_refl _)⟩
        · skip
          have E := asd (numo_plain HZ.out D.out (D.out.stop (.inr (.inl (DN.digs_end (by omega))))))
          have t0 : ((k : Int) == 0) = false := by rw [beq_eq_false_iff_ne]; omega
          have t0' : ¬ ((k : Int) = 0) := by omega
          rw [if_neg hk0] at E
          clear D I
          go_wp2
          go_quiet (fail)
          have I2 := asd (ID.out nq)
          generalize wr.drewN nq = w3 at *
          clear c0 c1 ID
          go_wp2_with (first
            | (go_at_call 60; refine (KZ.out _).mono ?_; rintro en w5 ⟨rfl, b5⟩; have I4 := asd (And.intro (I2.out.1.keep (b5.block r I2.out.1.lt)) (And.intro (gtrans I2.out.2.1 (gbelow b5)) (I2.out.2.2.keep (b5.block _ I2.out.2.2.lt)))); clear b5)
            | (refine wpList_store_row rfl 28 _ _ rfl _ (vc6 3 (Js.dec ((n : Int))) [] ((n : Int)) noS noS) rfl rfl 28 _ I4.out.2.2 (sz28 _ _ _ _ _ _) rfl (vc6_one _ _ _ _ _ _ rfl rfl) ?_))
          refine bodyPost_ret (results_cell_row Tryz.results41 _ _ w.heap.size 28 (vc6 3 (Js.dec ((n : Int))) [] ((n : Int)) noS noS) (0, 0) _ rfl (setRow_heap _ _ _ _ _ _ I4.out.2.2) Tryz.underlying28 rfl (sz28 _ _ _ _ _ _)) rfl ?_
          exact ⟨q, _, _, _, rfl, E.out, I4.out.1.keep (setRow_other _ _ _ _ (by omega)), grown_row I4.out.2.1 _ _ (Nat.le_refl _)⟩
    · have d1 : decide ((k : Int) < 15) = false := by simp; omega
      have hk0 : ¬ k = 0 := by omega
      have E := asd (numo_plain HZ.out D.out (D.out.stop (.inl (by omega))))
      have t0 : ((k : Int) == 0) = false := by rw [beq_eq_false_iff_ne]; omega
      have t0' : ¬ ((k : Int) = 0) := by omega
      rw [if_neg hk0] at E
      clear D I
      go_wp2
      go_quiet (fail)
      have I2 := asd (ID.out nq)
      generalize wr.drewN nq = w3 at *
      clear c0 c1 ID
      go_wp2_with (first
        | (go_at_call 60; refine (KZ.out _).mono ?_; rintro en w5 ⟨rfl, b5⟩; have I4 := asd (And.intro (I2.out.1.keep (b5.block r I2.out.1.lt)) (And.intro (gtrans I2.out.2.1 (gbelow b5)) (I2.out.2.2.keep (b5.block _ I2.out.2.2.lt)))); clear b5)
        | (refine wpList_store_row rfl 28 _ _ rfl _ (vc6 3 (Js.dec ((n : Int))) [] ((n : Int)) noS noS) rfl rfl 28 _ I4.out.2.2 (sz28 _ _ _ _ _ _) rfl (vc6_one _ _ _ _ _ _ rfl rfl) ?_))
      refine bodyPost_ret (results_cell_row Tryz.results41 _ _ w.heap.size 28 (vc6 3 (Js.dec ((n : Int))) [] ((n : Int)) noS noS) (0, 0) _ rfl (setRow_heap _ _ _ _ _ _ I4.out.2.2) Tryz.underlying28 rfl (sz28 _ _ _ _ _ _)) rfl ?_
      exact ⟨q, _, _, _, rfl, E.out, I4.out.1.keep (setRow_other _ _ _ _ (by omega)), grown_row I4.out.2.1 _ _ (Nat.le_refl _)⟩
end Go.Proofs.YtpeioecpilmpiaaGreatDoor

/-
  A value of the document's reader: the memory.
-/
namespace Go.Proofs.YtpeioecpilmpiaaGreatDoor
open Go.RowKit
/-- The result's block, ahead of all. -/
structure VW (r : Nat) (s : ByteArray) (w : World) (q d e : Nat) (u : World) : Prop where
  rq : Rq r s q d e u
  gr : w.grownBy u (some r)
  bz : Bk u w.heap.size z6
theorem VW.start {r : Nat} {s : ByteArray} {w : World} {p d : Nat} (h : Rq r s p d 0 w) : VW r s w p d 0 (w.alloc (.cells z6 28)) := ⟨h.alloc _, gal w _ _, Bk.new w _⟩
theorem VW.next {r : Nat} {s : ByteArray} {w u u' : World} {q d e q' d' e' : Nat} (h : VW r s w q d e u) (hw : r < w.heap.size) (g : u.grownBy u' (some r)) (k : Rq r s q' d' e' u') : VW r s w q' d' e' u' :=
  ⟨k, gtrans h.gr g, h.bz.grown g (by omega)⟩
theorem VW.none {r : Nat} {s : ByteArray} {w u u' : World} {q d e q' d' e' : Nat} (h : VW r s w q d e u) (hw : r < w.heap.size) (g : u.grownBy u' none) (k : Rq r s q' d' e' u') : VW r s w q' d' e' u' :=
  h.next hw ⟨g.os, g.tape, g.output, g.size, fun k hk _ => g.block k hk (fun e => by cases e)⟩ k
theorem VW.below {r : Nat} {s : ByteArray} {w u u' : World} {q d e : Nat} (h : VW r s w q d e u) (hw : r < w.heap.size) (g : Below u.heap.size u u') : VW r s w q d e u' := h.next hw (gbelow g) (h.rq.below h.rq.lt g)
/-- What is left once the result is stored. -/
theorem VW.out {r : Nat} {s : ByteArray} {w u : World} {p n q d e : Nat} {k : Int} {f t : Js.B} {m : Int} {nv iv : Value} {ns is : List Js.B} (h : VW r s w q d e u) (hw : r < w.heap.size) (hq : q ≤ s.size) (hd : d ≤ 1000) (hdn : 8 ≤ d + n)
    (sn : Sl (w.heap.size + 1) u nv ns) (si : Sl (w.heap.size + 1) u iv is) (hf : f.length ≤ bnd n) (H : VP s p n q e d k f t m ns is) : VOut r s p n w (.returned (.agg (vc6 k f t m nv iv))) (u.setRow w.heap.size (vc6 k f t m nv iv)) :=
  ⟨q, e, d, k, f, t, m, nv, iv, ns, is, rfl, h.rq.keep (setRow_other _ _ _ _ (by omega)), grown_row h.gr _ _ (Nat.le_refl _), hq, hd, hdn, (sn.rowset w.heap.size _ (by omega)).base (by omega), (si.rowset w.heap.size _ (by omega)).base (by omega), hf, H⟩
theorem bnd_one (n : Nat) : 100000 ≤ bnd n := by unfold bnd; omega

theorem bs_size (l : Js.B) : (bs l).size = l.length := by
  show (bs l).data.size = _
  simp
theorem quote_len (t : Js.B) : (Js.quote t).length ≤ 2 + 6 * t.length := by
  have e := QF_all (bs t)
  have h := QF_len (bs t) (bs t).size (Nat.le_refl _)
  rw [bs_list] at e
  rw [← e, List.length_append]
  rw [bs_size] at h
  rw [bs_size]
  simp
  omega
theorem TO.len {s : ByteArray} {p q e : Nat} {t : Js.B} (h : TO s p q e t) : t.length ≤ 4000 := by
  rcases h.2 with ⟨_, _, h, _⟩ | ⟨_, _, rfl⟩
  · exact h
  · simp
theorem pre_size {s wd : ByteArray} {p : Nat} (h : wd.data.toList.isPrefixOf (L s p) = true) (hp : p ≤ s.size) : p + wd.size ≤ s.size := by
  have := (List.isPrefixOf_iff_prefix.1 h).length_le
  rw [L_len] at this
  have : wd.data.toList.length = wd.size := rfl
  omega
theorem dnumber_any (r : Nat) (s : ByteArray) (p d : Nat) (w : World) (h' : Rq r s p d 0 w) (hp : p ≤ s.size) (hs : s.size ≤ 1000) :
    Calls Tryz.prog 41 #[.pointer (some ⟨r, 0, none⟩)] w fun en w' => ∃ (q e' : Nat) (n : Int) (f : Js.B), en = .returned (.agg (vc6 3 f [] n noS noS)) ∧ NumO s p q e' n f ∧ Rq r s q d e' w' ∧ w.grownBy w' (some r) := by
  cases hz : iz s p 0 45 with
  | true => exact dnumber_minus r s p d w h' hp hs hz
  | false => exact dnumber_plain r s p d w h' hp hs hz
end Go.Proofs.YtpeioecpilmpiaaGreatDoor

/-
  A value: false, a number.
-/
namespace Go.Proofs.YtpeioecpilmpiaaGreatDoor
open Go.RowKit

set_option maxHeartbeats 4000000 in
set_option maxRecDepth 100000 in
theorem dvalue_false (r : Nat) (s : ByteArray) (p d n : Nat) (w : World) (h : Rq r s p d 0 w) (hp : p ≤ s.size) (hs : s.size ≤ 1000) (hdn : d + n = 8) (h123 : iz s (sk s p) 0 123 = false) (h91 : iz s (sk s p) 0 91 = false) (h34 : iz s (sk s p) 0 34 = false) (hnull : nullB.data.toList.isPrefixOf (L s (sk s p)) = false) (htrue : trueB.data.toList.isPrefixOf (L s (sk s p)) = false) (hfalse : falseB.data.toList.isPrefixOf (L s (sk s p)) = true) :
    Calls Tryz.prog 23 #[.pointer (some ⟨r, 0, none⟩)] w fun en w' => VOut r s p n w en w' := by
  have rlt := h.lt
  have L0 := asd (VW.start h)
  have hq := sk_le s p
  have K0 := asd (fun w1 h1 => dblanks_sk r s p d 0 w1 h1 hp hs)
  have HC := asd hfalse
  have hz : sk s p + falseB.size ≤ s.size := pre_size hfalse hq
  have I1 := asd (fun w1 h1 => is_any r s (sk s p) d 0 123 w1 h1)
  rw [h123] at I1
  have T1 := asd trivial
  have I2 := asd (fun w1 h1 => is_any r s (sk s p) d 0 91 w1 h1)
  rw [h91] at I2
  have T2 := asd trivial
  have I3 := asd (fun w1 h1 => is_any r s (sk s p) d 0 34 w1 h1)
  rw [h34] at I3
  have T3 := asd trivial
  have W1 := asd (fun w1 h1 => dword_any r s nullB (sk s p) d 0 w1 h1 hq hs (by decide))
  rw [hnull] at W1
  simp only [if_false, Bool.false_eq_true] at W1
  have S1 := asd trivial
  have W2 := asd (fun w1 h1 => dword_any r s trueB (sk s p) d 0 w1 h1 hq hs (by decide))
  rw [htrue] at W2
  simp only [if_false, Bool.false_eq_true] at W2
  have S2 := asd trivial
  have W3 := asd (fun w1 h1 => dword_any r s falseB (sk s p) d 0 w1 h1 hq hs (by decide))
  rw [hfalse] at W3
  simp only [if_true] at W3
  have S3 := asd trivial
  clear h
  go_enter Tryz.func23, Tryz.ntmps23
  go_wp2_with (first
    | (go_at_call 24; refine (K0.out _ L0.out.rq).mono ?_; rintro en w1 ⟨rfl, h1, g1⟩; have A0 := asd (L0.out.next rlt g1 h1); have c3 : w1.cell? ⟨r, 3, none⟩ = some (.int .i64 0) := A0.out.rq.c3; clear h1 g1 L0 K0)
    | (clear T1; go_at_call 36; refine (I1.out _ A0.out.rq).mono ?_; rintro en w2 ⟨rfl, h2, g2⟩; have A1 := asd (A0.out.none rlt g2 h2); clear h2 g2 A0 I1)
    | (clear T2; go_at_call 36; refine (I2.out _ A1.out.rq).mono ?_; rintro en w3 ⟨rfl, h2, g2⟩; have A2 := asd (A1.out.none rlt g2 h2); clear h2 g2 A1 I2)
    | (clear T3; go_at_call 36; refine (I3.out _ A2.out.rq).mono ?_; rintro en w4 ⟨rfl, h2, g2⟩; have A3 := asd (A2.out.none rlt g2 h2); clear h2 g2 A2 I3)
    | (clear S1; go_at_call 40; refine (W1.out _ A3.out.rq).mono ?_; rintro en w5 ⟨rfl, h2, g2⟩; have B1 := asd (A3.out.next rlt g2 h2); clear h2 g2 A3 W1)
    | (clear S2; go_at_call 40; refine (W2.out _ B1.out.rq).mono ?_; rintro en w6 ⟨rfl, h2, g2⟩; have B2 := asd (B1.out.next rlt g2 h2); clear h2 g2 B1 W2)
    | (clear S3; go_at_call 40; refine (W3.out _ B2.out.rq).mono ?_; rintro en w7 ⟨rfl, h2, g2⟩; have B3 := asd (B2.out.next rlt g2 h2); clear h2 g2 B2 W3)
    | (refine wpList_store_row rfl 28 _ _ rfl _ (vc6 2 falseB.data.toList [] 0 noS noS) rfl rfl 28 _ B3.out.bz (sz28 _ _ _ _ _ _) rfl (vc6_one _ _ _ _ _ _ rfl rfl) ?_))
  refine bodyPost_ret (results_cell_row Tryz.results23 _ _ w.heap.size 28 (vc6 2 falseB.data.toList [] 0 noS noS) (0, 0) _ rfl (setRow_heap _ _ _ _ _ _ B3.out.bz) Tryz.underlying28 rfl (sz28 _ _ _ _ _ _)) rfl ?_
  exact B3.out.out rlt hz (by omega) (by omega) (sl_nil _ _) (sl_nil _ _) (by have := bnd_one n; have h5 : (falseB.data.toList).length ≤ 5 := (by decide); omega) (vp_word (x := (Js.mkTruth false)) (va_false n) hdn HC.out)

set_option maxHeartbeats 4000000 in
set_option maxRecDepth 100000 in
theorem dvalue_number (r : Nat) (s : ByteArray) (p d n : Nat) (w : World) (h : Rq r s p d 0 w) (hp : p ≤ s.size) (hs : s.size ≤ 1000) (hdn : d + n = 8) (h123 : iz s (sk s p) 0 123 = false) (h91 : iz s (sk s p) 0 91 = false) (h34 : iz s (sk s p) 0 34 = false) (hnull : nullB.data.toList.isPrefixOf (L s (sk s p)) = false) (htrue : trueB.data.toList.isPrefixOf (L s (sk s p)) = false) (hfalse : falseB.data.toList.isPrefixOf (L s (sk s p)) = false) :
    Calls Tryz.prog 23 #[.pointer (some ⟨r, 0, none⟩)] w fun en w' => VOut r s p n w en w' := by
  have rlt := h.lt
  have L0 := asd (VW.start h)
  have hq := sk_le s p
  have K0 := asd (fun w1 h1 => dblanks_sk r s p d 0 w1 h1 hp hs)
  have HC := asd (fun q e m f => vp_num (n := n) (d := d) (m := m) (f := f) (q := q) (e := e) h123 h91 h34 hnull htrue hfalse hdn)
  have I1 := asd (fun w1 h1 => is_any r s (sk s p) d 0 123 w1 h1)
  rw [h123] at I1
  have T1 := asd trivial
  have I2 := asd (fun w1 h1 => is_any r s (sk s p) d 0 91 w1 h1)
  rw [h91] at I2
  have T2 := asd trivial
  have I3 := asd (fun w1 h1 => is_any r s (sk s p) d 0 34 w1 h1)
  rw [h34] at I3
  have T3 := asd trivial
  have W1 := asd (fun w1 h1 => dword_any r s nullB (sk s p) d 0 w1 h1 hq hs (by decide))
  rw [hnull] at W1
  simp only [if_false, Bool.false_eq_true] at W1
  have S1 := asd trivial
  have W2 := asd (fun w1 h1 => dword_any r s trueB (sk s p) d 0 w1 h1 hq hs (by decide))
  rw [htrue] at W2
  simp only [if_false, Bool.false_eq_true] at W2
  have S2 := asd trivial
  have W3 := asd (fun w1 h1 => dword_any r s falseB (sk s p) d 0 w1 h1 hq hs (by decide))
  rw [hfalse] at W3
  simp only [if_false, Bool.false_eq_true] at W3
  have S3 := asd trivial
  clear h
  go_enter Tryz.func23, Tryz.ntmps23
  go_wp2_with (first
    | (go_at_call 24; refine (K0.out _ L0.out.rq).mono ?_; rintro en w1 ⟨rfl, h1, g1⟩; have A0 := asd (L0.out.next rlt g1 h1); have c3 : w1.cell? ⟨r, 3, none⟩ = some (.int .i64 0) := A0.out.rq.c3; clear h1 g1 L0 K0)
    | (clear T1; go_at_call 36; refine (I1.out _ A0.out.rq).mono ?_; rintro en w2 ⟨rfl, h2, g2⟩; have A1 := asd (A0.out.none rlt g2 h2); clear h2 g2 A0 I1)
    | (clear T2; go_at_call 36; refine (I2.out _ A1.out.rq).mono ?_; rintro en w3 ⟨rfl, h2, g2⟩; have A2 := asd (A1.out.none rlt g2 h2); clear h2 g2 A1 I2)
    | (clear T3; go_at_call 36; refine (I3.out _ A2.out.rq).mono ?_; rintro en w4 ⟨rfl, h2, g2⟩; have A3 := asd (A2.out.none rlt g2 h2); clear h2 g2 A2 I3)
    | (clear S1; go_at_call 40; refine (W1.out _ A3.out.rq).mono ?_; rintro en w5 ⟨rfl, h2, g2⟩; have B1 := asd (A3.out.next rlt g2 h2); clear h2 g2 A3 W1)
    | (clear S2; go_at_call 40; refine (W2.out _ B1.out.rq).mono ?_; rintro en w6 ⟨rfl, h2, g2⟩; have B2 := asd (B1.out.next rlt g2 h2); clear h2 g2 B1 W2)
    | (clear S3; go_at_call 40; refine (W3.out _ B2.out.rq).mono ?_; rintro en w7 ⟨rfl, h2, g2⟩; have B3 := asd (B2.out.next rlt g2 h2); clear h2 g2 B2 W3)
    | (go_at_call 41; refine (dnumber_any r s (sk s p) d _ B3.out.rq hq hs).mono ?_; rintro en w9 ⟨q, e, k, f, rfl, N0, h9, g9⟩; have A9 := asd (B3.out.next rlt g9 h9); have NN := asd N0; clear h9 g9 N0 B3)
    | (refine wpList_store_row rfl 28 _ _ rfl _ (vc6 3 f [] k noS noS) rfl rfl 28 _ A9.out.bz (sz28 _ _ _ _ _ _) rfl (vc6_one _ _ _ _ _ _ rfl rfl) ?_))
  refine bodyPost_ret (results_cell_row Tryz.results23 _ _ w.heap.size 28 (vc6 3 f [] k noS noS) (0, 0) _ rfl (setRow_heap _ _ _ _ _ _ A9.out.bz) Tryz.underlying28 rfl (sz28 _ _ _ _ _ _)) rfl ?_
  exact A9.out.out rlt NN.out.1 (by omega) (by omega) (sl_nil _ _) (sl_nil _ _) (by have := bnd_one n; have := NN.out.2.1; omega) (HC.out q e k f NN.out)
end Go.Proofs.YtpeioecpilmpiaaGreatDoor
