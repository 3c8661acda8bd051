/-
  YtpeioecpilmpiaaGreatDoor: the texts N3, X1, one behind the other.
-/
import Derived.Test.YtpeioecpilmpiaaGreatDoorMF25
import Derived.WalkKit
import Derived.WalkSpells
import Derived.WalkLawsBesides
import Derived.Deep.LoopGhost
import Derived.Laws.Externs
import Derived.Below
import Derived.BigQuiet
import Derived.Deep.RegionWith
import Derived.OwnWalk
import Derived.Maps.AppendAt
import Derived.WalkSmall
import Derived.Test.YtpeioecpilmpiaaGreatDoorMF31
import Derived.Test.YtpeioecpilmpiaaGreatDoorMF15
/-
  The document's reader: a number with -.
-/
namespace Go.Proofs.YtpeioecpilmpiaaGreatDoor
open Go.RowKit
set_option maxHeartbeats 8000000 in
set_option maxRecDepth 100000 in
theorem dnumber_minus (r : Nat) (s : ByteArray) (p d : Nat) (w : World) (h' : Rq r s p d 0 w) (_hp : p ≤ s.size) (hs : s.size ≤ 1000) (hz : iz s p 0 45 = true) :
    Calls Tryz.prog 41 #[.pointer (some ⟨r, 0, none⟩)] w fun en w' => ∃ (q e' : Nat) (n : Int) (f : Js.B), en = .returned (.agg (vc6 3 f [] n noS noS)) ∧ NumO s p q e' n f ∧ Rq r s q d e' w' ∧ w.grownBy w' (some r) := by
  have K1 := asd (is_any r s p d 0 45 (w.alloc (.cells z6 28)) (h'.alloc _))
  have B0 := asd (Bk.new w z6)
  have HW := asd (And.intro (h'.alloc (.cells z6 28)) (gal w (.cells z6 28) (some r)))
  have rlt := h'.lt
  rw [hz] at K1
  have HZ := asd hz
  clear h' hz
  have hp1 : p + 1 ≤ s.size := (iz_true HZ.out).2.1
  go_enter Tryz.func41, Tryz.ntmps41
  go_wp2_with (go_at_call 36; refine K1.out.mono ?_; rintro en w1 ⟨rfl, h1, g1⟩; have I0 := asd (And.intro h1.inc1 (And.intro (gtrans (gtrans HW.out.2 ⟨g1.os, g1.tape, g1.output, g1.size, fun k hk _ => g1.block k hk (fun e => by cases e)⟩) (grown_set w1 r 1 (.int .i64 ((p : Int) + 1)))) ((B0.out.keep (g1.block _ B0.out.lt (fun e => by cases e))).grown (grown_set w1 r 1 (.int .i64 ((p : Int) + 1))) (by omega)))); have c1 := h1.c1; have f1 := h1.fz 1; clear h1 g1 K1)
  generalize w1.setCell ⟨r, 1, none⟩ (.int .i64 ((p : Int) + 1)) = w2 at *
  clear c1 f1
  clear HW B0
  go_loopg [4, 5] 16 (fun gh s4 s5 wr => ∃ q k n : Nat, 16 - k ≤ gh ∧ s4 = .int .i64 (n : Int) ∧ s5 = .int .i64 (k : Int) ∧ Aside (DN s (p + 1) q k n) ∧ Aside (Rq r s q d 0 wr ∧ w.grownBy wr (some r) ∧ Bk wr w.heap.size z6))
  case atStart => exact ⟨p + 1, 0, 0, by omega, rfl, rfl, DN.start s (p + 1) hp1, I0⟩
  case round =>
    obtain ⟨q, k, n, hgh, rfl, rfl, D, I⟩ := hrel
    clear I0
    have hk15 := D.out.le
    have hfit := D.out.fit
    have hbd := D.out.bd
    have c0 := I.out.1.c0
    have c1 := I.out.1.c1
    have ID := asd (fun m => And.intro (I.out.1.drewN m) (And.intro (grown_drewN I.out.2.1 m) (I.out.2.2.keep (w' := wr.drewN m) rfl)))
    have KZ := asd (fun u : World => decimal_any (-(n : Int)) u (by omega) (by omega))
    by_cases hk : k < 15
    · have d1 : decide ((k : Int) < 15) = true := by simp; omega
      by_cases hlt : q < s.size
      · have d2 : decide (q < s.size) = true := by simpa using hlt
        have xg := get_at s q hlt
        generalize hgx : s[q] = x at *
        have hxl := x.toNat_lt
        by_cases x1 : 48 ≤ x.toNat
        · have t1 : decide ((48 : Int) ≤ x.toNat) = true := by simp; omega
          by_cases x2 : x.toNat ≤ 57
          · have t2 : decide ((x.toNat : Int) ≤ 57) = true := by simp; omega
            by_cases hk0 : k = 0
            · have t3 : ((k : Int) == 0) = true := by rw [beq_iff_eq]; omega
              have HC : k = 0 ∨ 0 < n := .inl hk0
              have N2 := asd (D.out.next hlt hk (by rw [xg]; exact (Js.isDg_iff x).2 (by omega)) HC)
              rw [xg] at N2
              clear D I
              have ev : ((n * 10 + (x.toNat - 48) : Nat) : Int) = (n : Int) * 10 + (x.toNat : Int) - 48 := by omega
              go_wp2
              go_quiet (fail)
              have I2 := asd (ID.out nq)
              generalize wr.drewN nq = w3 at *
              clear c0 c1 ID
              have c0 := I2.out.1.c0
              have c1 := I2.out.1.c1
              go_wp2
              go_quiet (fail)
              have I3 := asd (And.intro (I2.out.1.drewN nq) (And.intro (grown_drewN I2.out.2.1 nq) (I2.out.2.2.keep (w' := w3.drewN nq) rfl)))
              generalize w3.drewN nq = w4 at *
              clear c0 c1 I2
              have c1 := I3.out.1.c1
              have f1 := I3.out.1.fz 1
              have I4 := asd (And.intro I3.out.1.inc1 (And.intro (gtrans I3.out.2.1 (grown_set w4 r 1 (.int .i64 ((q : Int) + 1)))) (I3.out.2.2.grown (grown_set w4 r 1 (.int .i64 ((q : Int) + 1))) (by omega))))
              go_wp2
              go_roundg (16 - (k + 1))
              case measure => omega
              case rel => exact ⟨q + 1, k + 1, n * 10 + (x.toNat - 48), Nat.le_refl _, by rw [ev], by go_num, N2, I4⟩
            · have t3 : ((k : Int) == 0) = false := by rw [beq_eq_false_iff_ne]; omega
              have t3' : ¬ ((k : Int) = 0) := by omega
              by_cases hn : 0 < n
              · have t4 : decide ((0 : Int) < (n : Int)) = true := by simp; omega
                have HC : k = 0 ∨ 0 < n := .inr hn
                have N2 := asd (D.out.next hlt hk (by rw [xg]; exact (Js.isDg_iff x).2 (by omega)) HC)
                rw [xg] at N2
                clear D I
                have ev : ((n * 10 + (x.toNat - 48) : Nat) : Int) = (n : Int) * 10 + (x.toNat : Int) - 48 := by omega
                go_wp2
                go_quiet (fail)
                have I2 := asd (ID.out nq)
                generalize wr.drewN nq = w3 at *
                clear c0 c1 ID
                have c0 := I2.out.1.c0
                have c1 := I2.out.1.c1
                go_wp2
                go_quiet (fail)
                have I3 := asd (And.intro (I2.out.1.drewN nq) (And.intro (grown_drewN I2.out.2.1 nq) (I2.out.2.2.keep (w' := w3.drewN nq) rfl)))
                generalize w3.drewN nq = w4 at *
                clear c0 c1 I2
                have c1 := I3.out.1.c1
                have f1 := I3.out.1.fz 1
                have I4 := asd (And.intro I3.out.1.inc1 (And.intro (gtrans I3.out.2.1 (grown_set w4 r 1 (.int .i64 ((q : Int) + 1)))) (I3.out.2.2.grown (grown_set w4 r 1 (.int .i64 ((q : Int) + 1))) (by omega))))
                go_wp2
                go_roundg (16 - (k + 1))
                case measure => omega
                case rel => exact ⟨q + 1, k + 1, n * 10 + (x.toNat - 48), Nat.le_refl _, by rw [ev], by go_num, N2, I4⟩
              · have t4 : decide ((0 : Int) < (n : Int)) = false := by simp; omega
                have E := asd (numo_minus HZ.out D.out (D.out.stop (.inr (.inr ⟨hk0, by omega⟩))))
                have t0 : ((k : Int) == 0) = false := by rw [beq_eq_false_iff_ne]; omega
                have t0' : ¬ ((k : Int) = 0) := by omega
                rw [if_neg hk0] at E
                clear D I
                go_wp2
                go_quiet (fail)
                have I2 := asd (ID.out nq)
                generalize wr.drewN nq = w3 at *
                clear c0 c1 ID
                go_wp2_with (first
                  | (go_at_call 60; refine (KZ.out _).mono ?_; rintro en w5 ⟨rfl, b5⟩; have I4 := asd (And.intro (I2.out.1.keep (b5.block r I2.out.1.lt)) (And.intro (gtrans I2.out.2.1 (gbelow b5)) (I2.out.2.2.keep (b5.block _ I2.out.2.2.lt)))); clear b5)
                  | (refine wpList_store_row rfl 28 _ _ rfl _ (vc6 3 (Js.dec (-(n : Int))) [] (-(n : Int)) noS noS) rfl rfl 28 _ I4.out.2.2 (sz28 _ _ _ _ _ _) rfl (vc6_one _ _ _ _ _ _ rfl rfl) ?_))
                refine bodyPost_ret (results_cell_row Tryz.results41 _ _ w.heap.size 28 (vc6 3 (Js.dec (-(n : Int))) [] (-(n : Int)) noS noS) (0, 0) _ rfl (setRow_heap _ _ _ _ _ _ I4.out.2.2) Tryz.underlying28 rfl (sz28 _ _ _ _ _ _)) rfl ?_
                exact ⟨q, _, _, _, rfl, E.out, I4.out.1.keep (setRow_other _ _ _ _ (by omega)), grown_row I4.out.2.1 _ _ (Nat.le_refl _)⟩
          · have t2 : decide ((x.toNat : Int) ≤ 57) = false := by simp; omega
            by_cases hk0 : k = 0
            · skip
              have E := asd (numo_minus HZ.out D.out (D.out.stop (.inr (.inl (DN.digs_no hlt (by rw [xg, Bool.eq_false_iff]; intro hh; have := (Js.isDg_iff x).1 hh; omega))))))
              have t0 : ((k : Int) == 0) = true := by rw [beq_iff_eq]; omega
              rw [if_pos hk0] at E
              clear D I
              go_wp2
              go_quiet (fail)
              have I2 := asd (ID.out nq)
              generalize wr.drewN nq = w3 at *
              clear c0 c1 ID
              go_wp2_with (first
                | (go_at_call 25; refine (bad_any r s q d 0 3 _ I2.out.1).mono ?_; rintro en w4 ⟨rfl, h4, g4⟩; have I3 := asd (And.intro h4 (And.intro (gtrans I2.out.2.1 g4) (I2.out.2.2.grown g4 (by omega)))); clear h4 g4)
                | (go_at_call 60; refine (KZ.out _).mono ?_; rintro en w5 ⟨rfl, b5⟩; have I4 := asd (And.intro (I3.out.1.keep (b5.block r I3.out.1.lt)) (And.intro (gtrans I3.out.2.1 (gbelow b5)) (I3.out.2.2.keep (b5.block _ I3.out.2.2.lt)))); clear b5)
                | (refine wpList_store_row rfl 28 _ _ rfl _ (vc6 3 (Js.dec (-(n : Int))) [] (-(n : Int)) noS noS) rfl rfl 28 _ I4.out.2.2 (sz28 _ _ _ _ _ _) rfl (vc6_one _ _ _ _ _ _ rfl rfl) ?_))
              refine bodyPost_ret (results_cell_row Tryz.results41 _ _ w.heap.size 28 (vc6 3 (Js.dec (-(n : Int))) [] (-(n : Int)) noS noS) (0, 0) _ rfl (setRow_heap _ _ _ _ _ _ I4.out.2.2) Tryz.underlying28 rfl (sz28 _ _ _ _ _ _)) rfl ?_
              exact ⟨q, _, _, _, rfl, E.out, I4.out.1.keep (setRow_other _ _ _ _ (by omega)), grown_row I4.out.2.1 _ _ (Nat.le_refl _)⟩
            · skip
              have E := asd (numo_minus HZ.out D.out (D.out.stop (.inr (.inl (DN.digs_no hlt (by rw [xg, Bool.eq_false_iff]; intro hh; have := (Js.isDg_iff x).1 hh; omega))))))
              have t0 : ((k : Int) == 0) = false := by rw [beq_eq_false_iff_ne]; omega
              have t0' : ¬ ((k : Int) = 0) := by omega
              rw [if_neg hk0] at E
              clear D I
              go_wp2
              go_quiet (fail)
              have I2 := asd (ID.out nq)
              generalize wr.drewN nq = w3 at *
              clear c0 c1 ID
              go_wp2_with (first
                | (go_at_call 60; refine (KZ.out _).mono ?_; rintro en w5 ⟨rfl, b5⟩; have I4 := asd (And.intro (I2.out.1.keep (b5.block r I2.out.1.lt)) (And.intro (gtrans I2.out.2.1 (gbelow b5)) (I2.out.2.2.keep (b5.block _ I2.out.2.2.lt)))); clear b5)
                | (refine wpList_store_row rfl 28 _ _ rfl _ (vc6 3 (Js.dec (-(n : Int))) [] (-(n : Int)) noS noS) rfl rfl 28 _ I4.out.2.2 (sz28 _ _ _ _ _ _) rfl (vc6_one _ _ _ _ _ _ rfl rfl) ?_))
              refine bodyPost_ret (results_cell_row Tryz.results41 _ _ w.heap.size 28 (vc6 3 (Js.dec (-(n : Int))) [] (-(n : Int)) noS noS) (0, 0) _ rfl (setRow_heap _ _ _ _ _ _ I4.out.2.2) Tryz.underlying28 rfl (sz28 _ _ _ _ _ _)) rfl ?_
              exact ⟨q, _, _, _, rfl, E.out, I4.out.1.keep (setRow_other _ _ _ _ (by omega)), grown_row I4.out.2.1 _ _ (Nat.le_refl _)⟩
        · have t1 : decide ((48 : Int) ≤ x.toNat) = false := by simp; omega
          by_cases hk0 : k = 0
          · skip
            have E := asd (numo_minus HZ.out D.out (D.out.stop (.inr (.inl (DN.digs_no hlt (by rw [xg, Bool.eq_false_iff]; intro hh; have := (Js.isDg_iff x).1 hh; omega))))))
            have t0 : ((k : Int) == 0) = true := by rw [beq_iff_eq]; omega
            rw [if_pos hk0] at E
            clear D I
            go_wp2
            go_quiet (fail)
            have I2 := asd (ID.out nq)
            generalize wr.drewN nq = w3 at *
            clear c0 c1 ID
            go_wp2_with (first
              | (go_at_call 25; refine (bad_any r s q d 0 3 _ I2.out.1).mono ?_; rintro en w4 ⟨rfl, h4, g4⟩; have I3 := asd (And.intro h4 (And.intro (gtrans I2.out.2.1 g4) (I2.out.2.2.grown g4 (by omega)))); clear h4 g4)
              | (go_at_call 60; refine (KZ.out _).mono ?_; rintro en w5 ⟨rfl, b5⟩; have I4 := asd (And.intro (I3.out.1.keep (b5.block r I3.out.1.lt)) (And.intro (gtrans I3.out.2.1 (gbelow b5)) (I3.out.2.2.keep (b5.block _ I3.out.2.2.lt)))); clear b5)
              | (refine wpList_store_row rfl 28 _ _ rfl _ (vc6 3 (Js.dec (-(n : Int))) [] (-(n : Int)) noS noS) rfl rfl 28 _ I4.out.2.2 (sz28 _ _ _ _ _ _) rfl (vc6_one _ _ _ _ _ _ rfl rfl) ?_))
            refine bodyPost_ret (results_cell_row Tryz.results41 _ _ w.heap.size 28 (vc6 3 (Js.dec (-(n : Int))) [] (-(n : Int)) noS noS) (0, 0) _ rfl (setRow_heap _ _ _ _ _ _ I4.out.2.2) Tryz.underlying28 rfl (sz28 _ _ _ _ _ _)) rfl ?_
            exact ⟨q, _, _, _, rfl, E.out, I4.out.1.keep (setRow_other _ _ _ _ (by omega)), grown_row I4.out.2.1 _ _ (Nat.le_refl _)⟩
          · skip
            have E := asd (numo_minus HZ.out D.out (D.out.stop (.inr (.inl (DN.digs_no hlt (by rw [xg, Bool.eq_false_iff]; intro hh; have := (Js.isDg_iff x).1 hh; omega))))))
            have t0 : ((k : Int) == 0) = false := by rw [beq_eq_false_iff_ne]; omega
            have t0' : ¬ ((k : Int) = 0) := by omega
            rw [if_neg hk0] at E
            clear D I
            go_wp2
            go_quiet (fail)
            have I2 := asd (ID.out nq)
            generalize wr.drewN nq = w3 at *
            clear c0 c1 ID
            go_wp2_with (first
              | (go_at_call 60; refine (KZ.out _).mono ?_; rintro en w5 ⟨rfl, b5⟩; have I4 := asd (And.intro (I2.out.1.keep (b5.block r I2.out.1.lt)) (And.intro (gtrans I2.out.2.1 (gbelow b5)) (I2.out.2.2.keep (b5.block _ I2.out.2.2.lt)))); clear b5)
              | (refine wpList_store_row rfl 28 _ _ rfl _ (vc6 3 (Js.dec (-(n : Int))) [] (-(n : Int)) noS noS) rfl rfl 28 _ I4.out.2.2 (sz28 _ _ _ _ _ _) rfl (vc6_one _ _ _ _ _ _ rfl rfl) ?_))
            refine bodyPost_ret (results_cell_row Tryz.results41 _ _ w.heap.size 28 (vc6 3 (Js.dec (-(n : Int))) [] (-(n : Int)) noS noS) (0, 0) _ rfl (setRow_heap _ _ _ _ _ _ I4.out.2.2) Tryz.underlying28 rfl (sz28 _ _ _ _ _ _)) rfl ?_
            exact ⟨q, _, _, _, rfl, E.out, I4.out.1.keep (setRow_other _ _ _ _ (by omega)), grown_row I4.out.2.1 _ _ (Nat.le_refl _)⟩
      · have d2 : decide (q < s.size) = false := by simpa using hlt
        by_cases hk0 : k = 0
        · skip
          have E := asd (numo_minus HZ.out D.out (D.out.stop (.inr (.inl (DN.digs_end (by omega))))))
          have t0 : ((k : Int) == 0) = true := by rw [beq_iff_eq]; omega
          rw [if_pos hk0] at E
          clear D I
          go_wp2
          go_quiet (fail)
          have I2 := asd (ID.out nq)
          generalize wr.drewN nq = w3 at *
          clear c0 c1 ID
          go_wp2_with (first
            | (go_at_call 25; refine (bad_any r s q d 0 3 _ I2.out.1).mono ?_; rintro en w4 ⟨rfl, h4, g4⟩; have I3 := asd (And.intro h4 (And.intro (gtrans I2.out.2.1 g4) (I2.out.2.2.grown g4 (by omega)))); clear h4 g4)
            | (go_at_call 60; refine (KZ.out _).mono ?_; rintro en w5 ⟨rfl, b5⟩; have I4 := asd (And.intro (I3.out.1.keep (b5.block r I3.out.1.lt)) (And.intro (gtrans I3.out.2.1 (gbelow b5)) (I3.out.2.2.keep (b5.block _ I3.out.2.2.lt)))); clear b5)
            | (refine wpList_store_row rfl 28 _ _ rfl _ (vc6 3 (Js.dec (-(n : Int))) [] (-(n : Int)) noS noS) rfl rfl 28 _ I4.out.2.2 (sz28 _ _ _ _ _ _) rfl (vc6_one _ _ _ _ _ _ rfl rfl) ?_))
          refine bodyPost_ret (results_cell_row Tryz.results41 _ _ w.heap.size 28 (vc6 3 (Js.dec (-(n : Int))) [] (-(n : Int)) noS noS) (0, 0) _ rfl (setRow_heap _ _ _ _ _ _ I4.out.2.2) Tryz.underlying28 rfl (sz28 _ _ _ _ _ _)) rfl ?_
          exact ⟨q, _, _, _, rfl, E.out, I4.out.1.keep (setRow_other _ _ _ _ (by omega)), grown_row I4.out.2.1 _ _ (Nat.le_refl _)⟩
        · skip
          have E := asd (numo_minus HZ.out D.out (D.out.stop (.inr (.inl (DN.digs_end (by omega))))))
          have t0 : ((k : Int) == 0) = false := by rw [beq_eq_false_iff_ne]; omega
          have t0' : ¬ ((k : Int) = 0) := by omega
          rw [if_neg hk0] at E
          clear D I
          go_wp2
          go_quiet (fail)
          have I2 := asd (ID.out nq)
          generalize wr.drewN nq = w3 at *
          clear c0 c1 ID
          go_wp2_with (first
            | (go_at_call 60; refine (KZ.out _).mono ?_; rintro en w5 ⟨rfl, b5⟩; have I4 := asd (And.intro (I2.out.1.keep (b5.block r I2.out.1.lt)) (And.intro (gtrans I2.out.2.1 (gbelow b5)) (I2.out.2.2.keep (b5.block _ I2.out.2.2.lt)))); clear b5)
            | (refine wpList_store_row rfl 28 _ _ rfl _ (vc6 3 (Js.dec (-(n : Int))) [] (-(n : Int)) noS noS) rfl rfl 28 _ I4.out.2.2 (sz28 _ _ _ _ _ _) rfl (vc6_one _ _ _ _ _ _ rfl rfl) ?_))
          refine bodyPost_ret (results_cell_row Tryz.results41 _ _ w.heap.size 28 (vc6 3 (Js.dec (-(n : Int))) [] (-(n : Int)) noS noS) (0, 0) _ rfl (setRow_heap _ _ _ _ _ _ I4.out.2.2) Tryz.underlying28 rfl (sz28 _ _ _ _ _ _)) rfl ?_
          exact ⟨q, _, _, _, rfl, E.out, I4.out.1.keep (setRow_other _ _ _ _ (by omega)), grown_row I4.out.2.1 _ _ (Nat.le_refl _)⟩
    · have d1 : decide ((k : Int) < 15) = false := by simp; omega
      have hk0 : ¬ k = 0 := by omega
      have E := asd (numo_minus HZ.out D.out (D.out.stop (.inl (by omega))))
      have t0 : ((k : Int) == 0) = false := by rw [beq_eq_false_iff_ne]; omega
      have t0' : ¬ ((k : Int) = 0) := by omega
      rw [if_neg hk0] at E
      clear D I
      go_wp2
      go_quiet (fail)
      have I2 := asd (ID.out nq)
      generalize wr.drewN nq = w3 at *
      clear c0 c1 ID
      go_wp2_with (first
        | (go_at_call 60; refine (KZ.out _).mono ?_; rintro en w5 ⟨rfl, b5⟩; have I4 := asd (And.intro (I2.out.1.keep (b5.block r I2.out.1.lt)) (And.intro (gtrans I2.out.2.1 (gbelow b5)) (I2.out.2.2.keep (b5.block _ I2.out.2.2.lt)))); clear b5)
        | (refine wpList_store_row rfl 28 _ _ rfl _ (vc6 3 (Js.dec (-(n : Int))) [] (-(n : Int)) noS noS) rfl rfl 28 _ I4.out.2.2 (sz28 _ _ _ _ _ _) rfl (vc6_one _ _ _ _ _ _ rfl rfl) ?_))
      refine bodyPost_ret (results_cell_row Tryz.results41 _ _ w.heap.size 28 (vc6 3 (Js.dec (-(n : Int))) [] (-(n : Int)) noS noS) (0, 0) _ rfl (setRow_heap _ _ _ _ _ _ I4.out.2.2) Tryz.underlying28 rfl (sz28 _ _ _ _ _ _)) rfl ?_
      exact ⟨q, _, _, _, rfl, E.out, I4.out.1.keep (setRow_other _ _ _ _ (by omega)), grown_row I4.out.2.1 _ _ (Nat.le_refl _)⟩
end Go.Proofs.YtpeioecpilmpiaaGreatDoor

/-
  A value of the document's reader: plain.
-/
namespace Go.Proofs.YtpeioecpilmpiaaGreatDoor
open Go.RowKit
theorem nu_none (c : UInt8) (t : Js.B) (h : Js.isDg c = false) (h45 : c ≠ 45) : Js.nu (c :: t) = none := by
  have h48 : c ≠ 48 := by rintro rfl; exact absurd h (by decide)
  have hd : Js.digs (c :: t) = [] := by simp [Js.digs, h]
  have hn : Js.nat (c :: t) = none := by
    rw [dnat_other _ (fun t' e => by injection e with e _; exact h48 e), hd]
    rfl
  unfold Js.nu
  split
  · rename_i r e
    injection e with e _
    exact absurd e h45
  · rw [hn]
    rfl
theorem pv_sk (n : Nat) (s : ByteArray) (p : Nat) : Js.pv n (L s p) = Js.va (sub n) (L s (sk s p)) := by rw [pv_sub, L_sk]
/-- No list, no object, no string, and no word stands there: a number, or nothing. -/
theorem va_num (n : Nat) (s : ByteArray) (p : Nat) (h1 : iz s p 0 123 = false) (h2 : iz s p 0 91 = false) (h3 : iz s p 0 34 = false) (h4 : nullB.data.toList.isPrefixOf (L s p) = false) (h5 : trueB.data.toList.isPrefixOf (L s p) = false) (h6 : falseB.data.toList.isPrefixOf (L s p) = false) :
    Js.va (sub n) (L s p) = match Js.nu (L s p) with | none => .error 3 | some (n, r) => .ok (Js.mkNum n, r) := by
  have g1 := iz_false h1
  have g2 := iz_false h2
  have g3 := iz_false h3
  generalize L s p = l at *
  cases l with
  | nil => rfl
  | cons c t =>
    have c1 : c ≠ 123 := by rintro rfl; exact g1 t rfl
    have c2 : c ≠ 91 := by rintro rfl; exact g2 t rfl
    have c3 : c ≠ 34 := by rintro rfl; exact g3 t rfl
    by_cases e1 : c = 110
    · subst e1
      rw [nu_none _ _ (by decide) (by decide)]
      simp only [Js.va, if_true]
      unfold Js.word
      rw [if_neg]
      intro h
      have : nullB.data.toList.isPrefixOf (110 :: t) = true := h
      rw [this] at h4
      cases h4
    · by_cases e2 : c = 102
      · subst e2
        rw [nu_none _ _ (by decide) (by decide)]
        simp only [Js.va, if_true]
        rw [if_neg e1]
        unfold Js.word
        rw [if_neg]
        intro h
        have : falseB.data.toList.isPrefixOf (102 :: t) = true := h
        rw [this] at h6
        cases h6
      · by_cases e3 : c = 116
        · subst e3
          rw [nu_none _ _ (by decide) (by decide)]
          simp only [Js.va, if_true]
          rw [if_neg e1, if_neg e2]
          unfold Js.word
          rw [if_neg]
          intro h
          have : trueB.data.toList.isPrefixOf (116 :: t) = true := h
          rw [this] at h5
          cases h5
        · simp only [Js.va]
          rw [if_neg e1, if_neg e2, if_neg e3, if_neg c3, if_neg c2, if_neg c1]
          rfl
/-- How a value ends. -/
def VP (s : ByteArray) (p n q e d : Nat) (k : Int) (f t : Js.B) (m : Int) (ns is : List Js.B) : Prop :=
  (∃ x, Js.pv n (L s p) = .ok (x, L s q) ∧ e = 0 ∧ d + n = 8 ∧ k = (x.kind : Int) ∧ f = x.form ∧ t = x.text ∧ m = x.num ∧ ns = x.names ∧ is = x.items) ∨
      (∃ fa, Js.pv n (L s p) = .error fa ∧ fa ≠ 0 ∧ (e = fa ∨ (fa = 3 ∧ e = 0 ∧ d + n = 8 ∧ q < s.size ∧ Js.isDg (s.get! q) = true)))
theorem vp_list {s : ByteArray} {p n q e d : Nat} {is : List Js.B} (h : iz s (sk s p) 0 91 = true) (H : LEnd (Js.liT (Js.pv n) (L s (sk s p + 1))) s n q e d is) : VP s p (n + 1) q e d 5 (91 :: (Js.joins is ++ [93])) [] 0 [] is := by
  unfold VP
  rw [pv_sk, (iz_true h).2.2]
  show (∃ x, Js.va (some (Js.pv n)) _ = _ ∧ _) ∨ (∃ fa, Js.va (some (Js.pv n)) _ = _ ∧ _)
  rw [Js.va_91]
  rcases H with ⟨l, e1, e2, e3, rfl⟩ | ⟨fa, e1, e2, e3⟩
  · rw [e1]
    exact .inl ⟨Js.mkList l, rfl, e2, e3, rfl, rfl, rfl, rfl, rfl, rfl⟩
  · rw [e1]
    exact .inr ⟨fa, rfl, e2, .inl e3⟩
theorem vp_list_top {s : ByteArray} {p q : Nat} (h : iz s (sk s p) 0 91 = true) : VP s p 0 q 10 9 5 [91, 93] [] 0 [] [] := by
  unfold VP
  rw [pv_sk, (iz_true h).2.2]
  exact .inr ⟨10, rfl, by decide, .inl rfl⟩
theorem vp_obj {s : ByteArray} {p n q e d : Nat} {ns is : List Js.B} (h : iz s (sk s p) 0 123 = true) (H : OEnd (Js.obT (Js.pv n) (L s (sk s p + 1))) s n q e d ns is) : VP s p (n + 1) q e d 6 (123 :: (Js.joins (pairs ns is) ++ [125])) [] 0 ns is := by
  unfold VP
  rw [pv_sk, (iz_true h).2.2]
  show (∃ x, Js.va (some (Js.pv n)) _ = _ ∧ _) ∨ (∃ fa, Js.va (some (Js.pv n)) _ = _ ∧ _)
  rw [Js.va_123]
  rcases H with ⟨l, e1, e2, e3, rfl, rfl⟩ | ⟨fa, e1, e2, e3⟩
  · rw [e1, pairs_mem]
    exact .inl ⟨Js.mkObj l, rfl, e2, e3, rfl, rfl, rfl, rfl, rfl, rfl⟩
  · rw [e1]
    exact .inr ⟨fa, rfl, e2, .inl e3⟩
theorem vp_obj_top {s : ByteArray} {p q : Nat} (h : iz s (sk s p) 0 123 = true) : VP s p 0 q 10 9 6 [123, 125] [] 0 [] [] := by
  unfold VP
  rw [pv_sk, (iz_true h).2.2]
  exact .inr ⟨10, rfl, by decide, .inl rfl⟩
theorem vp_text {s : ByteArray} {p n q e d : Nat} {t : Js.B} (h : iz s (sk s p) 0 34 = true) (hd : d + n = 8) (H : TO s (sk s p) q e t) : VP s p n q e d 4 (Js.quote t) t 0 [] [] := by
  have hv : Js.va (sub n) (34 :: L s (sk s p + 1)) = match Js.txx (L s (sk s p + 1)) [] with | none => .error 3 | some (t, r) => .ok (Js.mkText t, r) := by
    simp only [Js.va]
    rw [if_neg (by decide), if_neg (by decide), if_neg (by decide), if_pos trivial]
    rfl
  unfold VP
  rw [pv_sk, (iz_true h).2.2, hv]
  rcases H.2 with ⟨e1, e2, e3⟩ | ⟨e1, e2, e3⟩
  · rw [e2]
    exact .inl ⟨Js.mkText t, rfl, e1, hd, rfl, rfl, rfl, rfl, rfl, rfl⟩
  · rw [e2]
    exact .inr ⟨3, rfl, by decide, .inl e1⟩
theorem vp_num {s : ByteArray} {p n q e d : Nat} {m : Int} {f : Js.B} (h1 : iz s (sk s p) 0 123 = false) (h2 : iz s (sk s p) 0 91 = false) (h3 : iz s (sk s p) 0 34 = false) (h4 : nullB.data.toList.isPrefixOf (L s (sk s p)) = false) (h5 : trueB.data.toList.isPrefixOf (L s (sk s p)) = false) (h6 : falseB.data.toList.isPrefixOf (L s (sk s p)) = false)
    (hd : d + n = 8) (H : NumO s (sk s p) q e m f) : VP s p n q e d 3 f [] m [] [] := by
  unfold VP
  rw [pv_sk, va_num n s _ h1 h2 h3 h4 h5 h6]
  rcases H.2.2.2 with ⟨e1, e2, e3⟩ | ⟨e2, e3⟩
  · rw [e2]
    exact .inl ⟨Js.mkNum m, rfl, e1, hd, rfl, e3, rfl, rfl, rfl, rfl⟩
  · rw [e2]
    refine .inr ⟨3, rfl, by decide, ?_⟩
    rcases e3 with e3 | ⟨e3, e4, e5⟩
    · exact .inl e3
    · exact .inr ⟨rfl, e3, hd, e4, e5⟩
theorem vp_word {s wd : ByteArray} {p n d : Nat} {x : Js.X} (hv : ∀ l, wd.data.toList.isPrefixOf l = true → Js.va (sub n) l = Js.word wd.data.toList l x) (hd : d + n = 8) (h : wd.data.toList.isPrefixOf (L s (sk s p)) = true) : VP s p n (sk s p + wd.size) 0 d x.kind x.form x.text x.num x.names x.items := by
  unfold VP
  rw [pv_sk, hv _ h]
  unfold Js.word
  rw [if_pos h]
  refine .inl ⟨x, ?_, rfl, hd, rfl, rfl, rfl, rfl, rfl, rfl⟩
  rw [← L_drop]
  rfl
theorem va_null (n : Nat) (l : Js.B) (h : nullB.data.toList.isPrefixOf l = true) : Js.va (sub n) l = Js.word nullB.data.toList l Js.mkNull := by
  cases l with
  | nil => cases h
  | cons c t =>
    have e : c = 110 := by
      have : ((110 : UInt8) == c && _) = true := h
      rw [Bool.and_eq_true, beq_iff_eq] at this
      exact this.1.symm
    subst e
    simp only [Js.va, if_true]
    rfl
theorem va_true (n : Nat) (l : Js.B) (h : trueB.data.toList.isPrefixOf l = true) : Js.va (sub n) l = Js.word trueB.data.toList l (Js.mkTruth true) := by
  cases l with
  | nil => cases h
  | cons c t =>
    have e : c = 116 := by
      have : ((116 : UInt8) == c && _) = true := h
      rw [Bool.and_eq_true, beq_iff_eq] at this
      exact this.1.symm
    subst e
    simp only [Js.va]
    rw [if_neg (by decide), if_neg (by decide), if_pos trivial]
    rfl
theorem va_false (n : Nat) (l : Js.B) (h : falseB.data.toList.isPrefixOf l = true) : Js.va (sub n) l = Js.word falseB.data.toList l (Js.mkTruth false) := by
  cases l with
  | nil => cases h
  | cons c t =>
    have e : c = 102 := by
      have : ((102 : UInt8) == c && _) = true := h
      rw [Bool.and_eq_true, beq_iff_eq] at this
      exact this.1.symm
    subst e
    simp only [Js.va]
    rw [if_neg (by decide), if_pos trivial]
    rfl
end Go.Proofs.YtpeioecpilmpiaaGreatDoor
