/-
  SeglogRuns' walk.
-/
import Derived.Test.YtajjcfacbnicnaaGreatDoorV37
import Derived.Deep.DeepCutAuto
import Derived.Deep.CutBlock
import Derived.Deep.RegionHeld3
import Derived.WalkKit
import Derived.WalkSpells
import Derived.WalkLawsBesides
import Derived.Deep.LoopGhost
import Derived.Laws.Externs
import Derived.Below
import Derived.BigQuiet
import Derived.Deep.RegionWith
import Derived.OwnWalk
import Derived.Maps.AppendAt
import Derived.WalkSmall
namespace Go.Proofs.YtajjcfacbnicnaaGreatDoor
open Go.RowKit
set_option maxRecDepth 100000
theorem kinds9b {k : Int} (_h : 0 ≤ k) : k % 9 = 0 ∨ k % 9 = 1 ∨ k % 9 = 2 ∨ k % 9 = 3 ∨ k % 9 = 4 ∨ k % 9 = 5 ∨ k % 9 = 6 ∨ k % 9 = 7 ∨ k % 9 = 8 := by omega
open Dk (takeH_to)
set_option maxHeartbeats 40000000 in
theorem runs_big (W : World) (hV : Vars W) (ad : Option Addr) (n cap : Nat) (X : Nat → Sd) (f lim : Int) (h : Sds W ad n X) (hsm : smallOf n X = true) :
    Calls Tryz.prog 3 #[.int .i64 f, .int .i64 lim, .slice ad n cap] W fun e w' => e = .returned (.bool true) ∧ Below W.heap.size W w' := by
  have k7 := awake_any W hV
  have H := asd h
  have BV := asd hV
  have K8 := asd (fun (u : World) (hu : Below W.heap.size W u) => (show Calls Tryz.prog 8 #[.slice ad n cap] u fun e w' => e = .returned (.bool true) ∧ Below u.heap.size u w' from by
    have := small_any ad n cap X u (H.out.below hu)
    rwa [hsm] at this))
  obtain ⟨hn, hsz⟩ := small_iff.1 hsm
  have SZ := asd hsz
  have qE : (erO (lOpen (Dk.opRoom Dk.emptySt 9000) f).1 != erO (lOpen (Dk.opRoom Dk.emptySt 9000) f).1) = false := by unfold bne; rw [beq_self_eq_true]; rfl
  generalize hEE : erO (lOpen (Dk.opRoom Dk.emptySt 9000) f).1 = EE at *
  have HEE := asd hEE
  clear h hV hsm hsz hEE
  go_enter Tryz.func3, Tryz.ntmps3
  go_wp2_with (first
    | (go_at_call 7; refine k7.mono ?_; rintro e w1 ⟨rfl, b1⟩; have B1 := asd b1; clear b1 k7)
    | (go_at_call 8; refine (K8.out _ B1.out).mono ?_; rintro e w2 ⟨rfl, b2⟩; have B2 := asd (B1.out.trans (b2.mono B1.out.size)); clear b2)
    | (go_at_call 9; refine (dnew_any 9000 w2 (BV.out.below B2.out)).mono ?_; rintro e w3 ⟨b, d0, rfl, D0, p0, f0, b3⟩; have H0 := asd D0; have P0 := asd p0; have B3 := asd (B2.out.trans (b3.mono B2.out.size)); have HL3 := asd b3.size; have hle := asd B2.out.size; clear D0 p0 f0 b3)
    | (go_at_call 10; refine (Dk.rnew_any 9000 w3 w2.heap.size HL3.out).mono ?_; rintro e w4 ⟨c, r0, rfl, R0, q0, g0, b4⟩; have T0 := asd (td_new H0.out P0.out R0 q0 g0 b4 B3.out hle.out); clear R0 q0 g0 b4)
    | (go_at_call 11; refine (open_gen T0.out.dsk f lim).mono ?_; rw [P0.out, HEE.out]; rintro e w5 ⟨vx0, rv, d5, rfl, G5⟩; have G6 := asd G5; clear G5)
    | (go_at_call 12; refine (rlopen_gen T0.out (by decide) G6.out).mono ?_; rw [P0.out, HEE.out]; rintro e w6 ⟨vy0, rv', rfl, TR6, _, _⟩; have R0 := asd TR6; clear TR6))
  generalize hBB : w2.heap.size = B at *
  clear K8 H0 P0 B1 B2 B3 hBB qE HL3 hle T0 G6
  go_loopg [48, 9, 11, 12, 14, 16, 17, 18, 19] n (fun gh s48 s9 _ s12 _ _ _ _ _ wr => ∃ k : Nat, n - k ≤ gh ∧ k ≤ n ∧ s48 = .int .i64 (k : Int) ∧ Aside (TR W B b c f (wi lim) k s9 s12 wr))
  case atStart => exact ⟨0, by omega, by omega, rfl, R0⟩
  case round =>
    obtain ⟨k, hgh, hk, rfl, R⟩ := hrel
    clear R0
    have BE := R.out.bel
    by_cases hlt : k < n
    · have q3 : decide (k < n) = true := by simpa using hlt
      rcases H.out with h0 | ⟨g, o, rfl, hc⟩
      · omega
      obtain ⟨⟨a0, a1, a2, a3, a4⟩, F⟩ := hc k hlt
      have c0 := Dk.cell_below a0 BE
      have c1 := Dk.cell_below a1 BE
      have c2 := Dk.cell_below a2 BE
      have c3 := Dk.cell_below a3 BE
      have c4 := Dk.cell_below a4 BE
      have hxs := SZ.out k hlt
      have SA := asd (SdAt.new wr (X k))
      have FF := asd F
      have hk0 := F.k0
      have hk1 := F.k1
      clear a0 a1 a2 a3 a4 hc F BE
      generalize X k = x at *
      unfold Sd.cells at SA
      go_upto_block 2 with fail
      go_cut [9, 12, 17, 11, 14, 18, 19] from 49 to 173 (fun z9 z12 z17 _ _ _ _ wx => z17 = .bool true ∧ Aside (TR W B b c f (wi lim) (k + 1) z9 z12 wx))
      case first =>
        rcases R.out with ⟨e1, e2, d, r, T⟩ | ⟨l, y, d, r, e1, e2, T⟩
        · subst e1 e2
          have TA := asd (T.later ((Below.refl _ _).alloc (Nat.le_refl _) (.cells x.cells 38)))
          have NF := asd (fun hm => by have := (T.both.rep.lt _ hm).2; omega : wr.heap.size ∉ d.foot b)
          have NR := asd (fun hm => by have := (T.both.rrep.lt _ hm).2; omega : wr.heap.size ∉ r.foot c)
          clear T R
          unfold Sd.cells at TA
          rcases kinds9b hk0 with hq | hq | hq | hq | hq | hq | hq | hq | hq
          · as_aux_lemma =>
              go_wp2
              have bD : Below (wr.alloc (.cells x.cells 38)).heap.size (wr.alloc (.cells x.cells 38)) (wr.alloc (.cells x.cells 38)).drew := ⟨rfl, rfl, rfl, Nat.le_refl _, fun _ _ => rfl⟩
              have TD1 := asd (TA.out.later bD)
              go_region_held3 (fun u => u.cell? ⟨wr.heap.size, 1, none⟩ = some (.string x.s) ∧ u.cell? ⟨wr.heap.size, 2, none⟩ = some (.int .i64 x.n)) (go_keep) ((first
                | (go_at_call 13; refine (append_nil _ _ _).mono ?_; rintro e w4 ⟨rfl, rfl⟩)
                | (go_at_call 14; refine (rlappend_none _ _ _).mono ?_; rintro e w5 ⟨rfl, rfl⟩)))
              go_wp2_with fail
              go_meet
              exact ⟨rfl, .inl ⟨rfl, rfl, d, r, TD1.out.more (by omega)⟩⟩
          · as_aux_lemma =>
              go_wp2
              have bD : Below (wr.alloc (.cells x.cells 38)).heap.size (wr.alloc (.cells x.cells 38)) (wr.alloc (.cells x.cells 38)).drew := ⟨rfl, rfl, rfl, Nat.le_refl _, fun _ _ => rfl⟩
              have TD1 := asd (TA.out.later bD)
              go_region_held3 (fun u => u.cell? ⟨wr.heap.size, 1, none⟩ = some (.string x.s) ∧ u.cell? ⟨wr.heap.size, 2, none⟩ = some (.int .i64 x.n)) (go_keep) ((first
                | (go_at_call 13; refine (append_nil _ _ _).mono ?_; rintro e w4 ⟨rfl, rfl⟩)
                | (go_at_call 14; refine (rlappend_none _ _ _).mono ?_; rintro e w5 ⟨rfl, rfl⟩)))
              go_wp2_with fail
              go_meet
              exact ⟨rfl, .inl ⟨rfl, rfl, d, r, TD1.out.more (by omega)⟩⟩
          · as_aux_lemma =>
              go_wp2
              have bD : Below (wr.alloc (.cells x.cells 38)).heap.size (wr.alloc (.cells x.cells 38)) (wr.alloc (.cells x.cells 38)).drew := ⟨rfl, rfl, rfl, Nat.le_refl _, fun _ _ => rfl⟩
              have TD1 := asd (TA.out.later bD)
              go_region_held3 (fun u => u.cell? ⟨wr.heap.size, 1, none⟩ = some (.string x.s) ∧ u.cell? ⟨wr.heap.size, 2, none⟩ = some (.int .i64 x.n)) (go_keep) ((first
                | (go_at_call 13; refine (append_nil _ _ _).mono ?_; rintro e w4 ⟨rfl, rfl⟩)
                | (go_at_call 14; refine (rlappend_none _ _ _).mono ?_; rintro e w5 ⟨rfl, rfl⟩)))
              go_wp2_with fail
              go_meet
              exact ⟨rfl, .inl ⟨rfl, rfl, d, r, TD1.out.more (by omega)⟩⟩
          · as_aux_lemma =>
              go_wp2_with (first
                | (go_at_call 15; refine (sync_nil _).mono ?_; rintro e w4 ⟨rfl, rfl⟩)
                | (go_at_call 16; refine (rlsync_none _).mono ?_; rintro e w5 ⟨rfl, rfl⟩))
              go_meet
              exact ⟨rfl, .inl ⟨rfl, rfl, d, r, TA.out.more (by omega)⟩⟩
          · as_aux_lemma =>
              go_wp2_with (first
                | (go_at_call 15; refine (sync_nil _).mono ?_; rintro e w4 ⟨rfl, rfl⟩)
                | (go_at_call 16; refine (rlsync_none _).mono ?_; rintro e w5 ⟨rfl, rfl⟩))
              go_meet
              exact ⟨rfl, .inl ⟨rfl, rfl, d, r, TA.out.more (by omega)⟩⟩
          · as_aux_lemma =>
              have TC := asd TA.out
              have qA : (erO (lOpen (Dk.opCrash d.pl x.n) f).1 == erO (lOpen (Dk.opCrash d.pl x.n) f).1) = true := beq_self_eq_true _
              generalize hEE2 : erO (lOpen (Dk.opCrash d.pl x.n) f).1 = E2 at *
              have HE2 := asd hEE2
              clear hEE2 TA
              go_wp2_with (first
                | (go_at_call 17; refine (dcrash_any TC.out.dsk x.n FF.out.n).mono ?_; rintro e w4 ⟨rfl, d4, D4, p4, st4⟩; have H4 := asd (TC.out.half st4).1; have DD4 := asd D4; have ST4 := asd st4; have P4 := asd p4; obtain ⟨z0, z1, z2, z3, z4⟩ := (SA.out.step st4 NF.out).1.cells; clear D4 st4 p4)
                | (go_at_call 18; refine (rb_crash H4.out (by have := TC.out.cnt; omega) x.n).mono ?_; rintro e w5 ⟨rfl, r5, R5, T5, n5, st5⟩; have TT := asd (TC.out.whole (Y := []) DD4.out ST4.out R5 (by rw [P4.out]; exact T5) (by rw [n5]; exact TC.out.cnt) st5 (fun k hk => by cases hk)); clear R5 T5 n5 st5)
                | (go_at_call 11; refine (open_gen TT.out.dsk f lim).mono ?_; rw [P4.out, HE2.out]; rintro e w6 ⟨vx6, rv6, d6, rfl, G6⟩; have GG := asd G6; clear G6)
                | (go_at_call 12; refine (rlopen_gen TT.out (by omega) GG.out).mono ?_; rw [P4.out, HE2.out]; rintro e w7 ⟨vy7, rv7, rfl, TR7, o1, o2⟩; have RR := asd TR7; have O1 := asd o1; have O2 := asd o2; clear TR7 o1 o2)
                | (go_at_call 19; refine (same_yes _ _ _ _ (Fm.Strs.of_row O1.out) (Fm.Strs.of_row O2.out) (few_recs (by have := TT.out.both.ok; rwa [P4.out] at this) f)).mono ?_; rintro e w8 ⟨rfl, b8⟩; have R8 := asd (RR.out.later b8); clear b8))
              go_meet
              exact ⟨rfl, R8.out.more (by omega)⟩
          · as_aux_lemma =>
              have qT : x.kind.tmod 9 = 6 := by rw [Int.tmod_eq_emod_of_nonneg hk0]; exact hq
              go_wp2
              have bD : Below (wr.alloc (.cells x.cells 38)).heap.size (wr.alloc (.cells x.cells 38)) (wr.alloc (.cells x.cells 38)).drew := ⟨rfl, rfl, rfl, Nat.le_refl _, fun _ _ => rfl⟩
              have bZ : Below (wr.alloc (.cells x.cells 38)).drew.heap.size (wr.alloc (.cells x.cells 38)).drew ((wr.alloc (.cells x.cells 38)).drew.alloc (.cells #[.int .u8 7, .int .u8 9, .int .u8 8] 5)) := (Below.refl _ _).alloc (Nat.le_refl _) _
              have bb : Below (wr.alloc (.cells x.cells 38)).heap.size (wr.alloc (.cells x.cells 38)) ((wr.alloc (.cells x.cells 38)).drew.alloc (.cells #[.int .u8 7, .int .u8 9, .int .u8 8] 5)) := bD.trans (bZ.mono bD.size)
              have TZ := asd (TA.out.later bb)
              have CZ : Aside (∀ u : World, Below (wr.alloc (.cells x.cells 38)).heap.size (wr.alloc (.cells x.cells 38)) u → u.cell? ⟨wr.heap.size, 0, none⟩ = some (.int .u8 x.kind) ∧ u.cell? ⟨wr.heap.size, 2, none⟩ = some (.int .i64 x.n) ∧ u.cell? ⟨wr.heap.size, 3, none⟩ = some (.int .i64 x.m) ∧ u.cell? ⟨wr.heap.size, 4, none⟩ = some (.int .i64 x.by_)) := fun u hu => by
                obtain ⟨y0, y1, y2, y3, y4⟩ := (SdAt.cells (x := x) ((hu.block _ SA.out.lt).trans SA.out))
                exact ⟨y0, y2, y3, y4⟩
              have DO := asd (fun (u : World) (hB : Dk.Both u B b c d r) (hc : r.count ≤ 100000) => Dk.do_room2 hB ⟨7, ⟨#[]⟩, ⟨#[]⟩, x.n, x.m, x.by_⟩ (show (7 : Int) % 10 = 7 by decide) (show (0 : Int) ≤ 7 by decide) (show (7 : Int) ≤ 255 by decide) hc (show (0 : Nat) ≤ 101 by decide) (show (0 : Nat) ≤ 101 by decide) FF.out.n)
              have cd := CZ.out _ bD
              refine wp_region_held_drew (S := (fun u => u.cell? ⟨wr.heap.size, 0, none⟩ = some (.int .u8 x.kind) ∧ u.cell? ⟨wr.heap.size, 2, none⟩ = some (.int .i64 x.n) ∧ u.cell? ⟨wr.heap.size, 3, none⟩ = some (.int .i64 x.m) ∧ u.cell? ⟨wr.heap.size, 4, none⟩ = some (.int .i64 x.by_))) (by kernel_rfl) cd (fun hHeld => ?_)
              change wpAnyH _ _ _ _ _ _ _ _ (World.drew _)
              refine takeH_to (i := 0) (v := .pointer (some ⟨b, 0, none⟩)) (some 55) rfl rfl (by kernel_rfl) (by kernel_rfl) (by kernel_rfl) (fun _ _ _ h => h) (Or.inl ⟨by rfl, fun u hu => by (try dsimp only at hu); (try obtain ⟨hu1, hu2, hu3, hu4⟩ := hu); go_simp <;> (first | rfl | omega)⟩) (by assumption) ?_
              try simp only [Act.put, List.setIfInBounds_toArray, List.set_cons_zero, List.set_cons_succ]
              refine takeH_to (i := 1) (v := .pointer (some ⟨c, 0, none⟩)) (some 56) rfl rfl (by kernel_rfl) (by kernel_rfl) (by kernel_rfl) (fun _ _ _ h => h) (Or.inl ⟨by rfl, fun u hu => by (try dsimp only at hu); (try obtain ⟨hu1, hu2, hu3, hu4⟩ := hu); go_simp <;> (first | rfl | omega)⟩) (by assumption) ?_
              try simp only [Act.put, List.setIfInBounds_toArray, List.set_cons_zero, List.set_cons_succ]
              refine takeH_to (i := 3) (v := .pointer (some ⟨wr.heap.size, 0, none⟩)) (some 58) rfl rfl (by kernel_rfl) (by kernel_rfl) (by kernel_rfl) (fun _ _ _ h => h) (Or.inl ⟨by rfl, fun u hu => by (try dsimp only at hu); (try obtain ⟨hu1, hu2, hu3, hu4⟩ := hu); go_simp <;> (first | rfl | omega)⟩) (by assumption) ?_
              try simp only [Act.put, List.setIfInBounds_toArray, List.set_cons_zero, List.set_cons_succ]
              refine takeH_to (i := 4) (v := .int .u8 x.kind) (some 59) rfl rfl (by kernel_rfl) (by kernel_rfl) (by kernel_rfl) (fun _ _ _ h => h) (Or.inl ⟨by rfl, fun u hu => by (try dsimp only at hu); (try obtain ⟨hu1, hu2, hu3, hu4⟩ := hu); go_simp <;> (first | rfl | omega)⟩) (by assumption) ?_
              try simp only [Act.put, List.setIfInBounds_toArray, List.set_cons_zero, List.set_cons_succ]
              refine takeH_to (i := 5) (v := .int .u8 6) (some 60) rfl rfl (by kernel_rfl) (by kernel_rfl) (by kernel_rfl) (fun _ _ _ h => h) (Or.inl ⟨by rfl, fun u hu => by (try dsimp only at hu); (try obtain ⟨hu1, hu2, hu3, hu4⟩ := hu); go_simp <;> (first | rfl | omega)⟩) (by assumption) ?_
              try simp only [Act.put, List.setIfInBounds_toArray, List.set_cons_zero, List.set_cons_succ]
              refine takeH_to (i := 6) (v := .int .u8 0) (some 61) rfl rfl (by kernel_rfl) (by kernel_rfl) (by kernel_rfl) (fun _ _ _ h => h) (Or.inl ⟨by rfl, fun u hu => by (try dsimp only at hu); (try obtain ⟨hu1, hu2, hu3, hu4⟩ := hu); go_simp <;> (first | rfl | omega)⟩) (by assumption) ?_
              try simp only [Act.put, List.setIfInBounds_toArray, List.set_cons_zero, List.set_cons_succ]
              refine takeH_to (i := 9) (v := .pointer (some ⟨wr.heap.size, 2, none⟩)) (some 64) rfl rfl (by kernel_rfl) (by kernel_rfl) (by kernel_rfl) (fun _ _ _ h => h) (Or.inl ⟨by rfl, fun u hu => by (try dsimp only at hu); (try obtain ⟨hu1, hu2, hu3, hu4⟩ := hu); go_simp <;> (first | rfl | omega)⟩) (by assumption) ?_
              try simp only [Act.put, List.setIfInBounds_toArray, List.set_cons_zero, List.set_cons_succ]
              refine takeH_to (i := 10) (v := .int .i64 x.n) (some 65) rfl rfl (by kernel_rfl) (by kernel_rfl) (by kernel_rfl) (fun _ _ _ h => h) (Or.inl ⟨by rfl, fun u hu => by (try dsimp only at hu); (try obtain ⟨hu1, hu2, hu3, hu4⟩ := hu); go_simp <;> (first | rfl | omega)⟩) (by assumption) ?_
              try simp only [Act.put, List.setIfInBounds_toArray, List.set_cons_zero, List.set_cons_succ]
              refine takeH_to (i := 11) (v := .pointer (some ⟨wr.heap.size, 3, none⟩)) (some 66) rfl rfl (by kernel_rfl) (by kernel_rfl) (by kernel_rfl) (fun _ _ _ h => h) (Or.inl ⟨by rfl, fun u hu => by (try dsimp only at hu); (try obtain ⟨hu1, hu2, hu3, hu4⟩ := hu); go_simp <;> (first | rfl | omega)⟩) (by assumption) ?_
              try simp only [Act.put, List.setIfInBounds_toArray, List.set_cons_zero, List.set_cons_succ]
              refine takeH_to (i := 12) (v := .int .i64 x.m) (some 67) rfl rfl (by kernel_rfl) (by kernel_rfl) (by kernel_rfl) (fun _ _ _ h => h) (Or.inl ⟨by rfl, fun u hu => by (try dsimp only at hu); (try obtain ⟨hu1, hu2, hu3, hu4⟩ := hu); go_simp <;> (first | rfl | omega)⟩) (by assumption) ?_
              try simp only [Act.put, List.setIfInBounds_toArray, List.set_cons_zero, List.set_cons_succ]
              refine takeH_to (i := 13) (v := .pointer (some ⟨wr.heap.size, 4, none⟩)) (some 68) rfl rfl (by kernel_rfl) (by kernel_rfl) (by kernel_rfl) (fun _ _ _ h => h) (Or.inl ⟨by rfl, fun u hu => by (try dsimp only at hu); (try obtain ⟨hu1, hu2, hu3, hu4⟩ := hu); go_simp <;> (first | rfl | omega)⟩) (by assumption) ?_
              try simp only [Act.put, List.setIfInBounds_toArray, List.set_cons_zero, List.set_cons_succ]
              refine takeH_to (i := 14) (v := .int .i64 x.by_) (some 69) rfl rfl (by kernel_rfl) (by kernel_rfl) (by kernel_rfl) (fun _ _ _ h => h) (Or.inl ⟨by rfl, fun u hu => by (try dsimp only at hu); (try obtain ⟨hu1, hu2, hu3, hu4⟩ := hu); go_simp <;> (first | rfl | omega)⟩) (by assumption) ?_
              try simp only [Act.put, List.setIfInBounds_toArray, List.set_cons_zero, List.set_cons_succ]
              refine wpAnyH_ready (rs := [2]) (by kernel_rfl) (by simp) ?_
              refine AllReadyH.cons rfl (fun K hK => ?_) AllReadyH.nil
              rw [if_pos (by rfl)]
              go_simp
              refine hK.out _ _ (CZ.out _ bb) (fun hHeld => ?_)
              clear hK K
              try simp only [Act.put, List.setIfInBounds_toArray, List.set_cons_zero, List.set_cons_succ]
              refine takeH_to (i := 7) (v := .pointer (some ⟨wr.heap.size + 1, 0, none⟩)) (some 62) rfl rfl (by kernel_rfl) (by kernel_rfl) (by kernel_rfl) (fun _ _ _ h => h) (Or.inl ⟨by rfl, fun u hu => by (try dsimp only at hu); (try obtain ⟨hu1, hu2, hu3, hu4⟩ := hu); go_simp <;> (first | rfl | omega)⟩) (by assumption) ?_
              try simp only [Act.put, List.setIfInBounds_toArray, List.set_cons_zero, List.set_cons_succ]
              refine wpAnyH_ready (rs := [8]) (by kernel_rfl) (by simp) ?_
              refine AllReadyH.cons rfl (fun K hK => ?_) AllReadyH.nil
              rw [if_pos (by rfl)]
              go_simp
              refine hK.out _ _ (CZ.out _ bb) (fun hHeld => ?_)
              clear hK K
              try simp only [Act.put, List.setIfInBounds_toArray, List.set_cons_zero, List.set_cons_succ]
              refine takeH_to (i := 15) (v := .agg #[.int .u8 7, .string ⟨#[]⟩, .string ⟨#[]⟩, .int .i64 x.n, .int .i64 x.m, .int .i64 x.by_]) (some 70) rfl rfl (by kernel_rfl) (by kernel_rfl) (by kernel_rfl) (fun _ _ _ h => h) (Or.inl ⟨by rfl, fun u hu => by (try dsimp only at hu); (try obtain ⟨hu1, hu2, hu3, hu4⟩ := hu); go_simp <;> (first | rfl | omega)⟩) (by assumption) ?_
              try simp only [Act.put, List.setIfInBounds_toArray, List.set_cons_zero, List.set_cons_succ]
              refine wpAnyH_ready (rs := [16]) (by kernel_rfl) (by simp) ?_
              refine AllReadyH.cons rfl (fun K hK => ?_) AllReadyH.nil
              rw [if_pos (by rfl)]
              go_simp
              go_at_call 20
              refine (DO.out _ TZ.out.both (by have := TZ.out.cnt; omega)).mono ?_
              rintro e w5 ⟨rfl, hD⟩
              obtain ⟨d5, r5, _, T5, _⟩ := TZ.out.deed hD (rfl)
              have C5 : w5.cell? ⟨wr.heap.size, 0, none⟩ = some (.int .u8 x.kind) ∧ w5.cell? ⟨wr.heap.size, 2, none⟩ = some (.int .i64 x.n) ∧ w5.cell? ⟨wr.heap.size, 3, none⟩ = some (.int .i64 x.m) ∧ w5.cell? ⟨wr.heap.size, 4, none⟩ = some (.int .i64 x.by_) := by
                obtain ⟨_, _, _, _, _, st⟩ := hD
                have hS : SdAt ((wr.alloc (.cells x.cells 38)).drew.alloc (.cells #[.int .u8 7, .int .u8 9, .int .u8 8] 5)) wr.heap.size x := (bb.block _ SA.out.lt).trans SA.out
                obtain ⟨y0, y1, y2, y3, y4⟩ := (hS.step st (fun hm => by
                  rcases List.mem_append.1 hm with e | e
                  · exact NF.out e
                  · exact NR.out e)).1.cells
                exact ⟨y0, y2, y3, y4⟩
              have T6 := asd T5
              clear hD T5
              go_simp
              refine hK.out _ _ C5 (fun hHeld => ?_)
              clear hK K
              try simp only [Act.put, List.setIfInBounds_toArray, List.set_cons_zero, List.set_cons_succ]
              refine takeH_to (i := 17) (v := .bool true) (some 17) rfl rfl (by kernel_rfl) (by kernel_rfl) (by kernel_rfl) (fun _ _ _ h => h) (Or.inl ⟨by rfl, fun u hu => by (try dsimp only at hu); (try obtain ⟨hu1, hu2, hu3, hu4⟩ := hu); go_simp <;> (first | rfl | omega)⟩) (by assumption) ?_
              try simp only [Act.put, List.setIfInBounds_toArray, List.set_cons_zero, List.set_cons_succ]
              refine wpAnyH_done (by kernel_rfl) ?_ _
              go_wp2_with fail
              go_meet
              exact ⟨rfl, .inl ⟨rfl, rfl, d5, r5, T6.out⟩⟩
          · as_aux_lemma =>
              have qT : x.kind.tmod 9 = 7 := by rw [Int.tmod_eq_emod_of_nonneg hk0]; exact hq
              go_wp2
              have bD : Below (wr.alloc (.cells x.cells 38)).heap.size (wr.alloc (.cells x.cells 38)) (wr.alloc (.cells x.cells 38)).drew := ⟨rfl, rfl, rfl, Nat.le_refl _, fun _ _ => rfl⟩
              have bZ : Below (wr.alloc (.cells x.cells 38)).drew.heap.size (wr.alloc (.cells x.cells 38)).drew ((wr.alloc (.cells x.cells 38)).drew.alloc (.cells #[.int .u8 7, .int .u8 9, .int .u8 8] 5)) := (Below.refl _ _).alloc (Nat.le_refl _) _
              have bb : Below (wr.alloc (.cells x.cells 38)).heap.size (wr.alloc (.cells x.cells 38)) ((wr.alloc (.cells x.cells 38)).drew.alloc (.cells #[.int .u8 7, .int .u8 9, .int .u8 8] 5)) := bD.trans (bZ.mono bD.size)
              have TZ := asd (TA.out.later bb)
              have CZ : Aside (∀ u : World, Below (wr.alloc (.cells x.cells 38)).heap.size (wr.alloc (.cells x.cells 38)) u → u.cell? ⟨wr.heap.size, 0, none⟩ = some (.int .u8 x.kind) ∧ u.cell? ⟨wr.heap.size, 2, none⟩ = some (.int .i64 x.n) ∧ u.cell? ⟨wr.heap.size, 3, none⟩ = some (.int .i64 x.m) ∧ u.cell? ⟨wr.heap.size, 4, none⟩ = some (.int .i64 x.by_)) := fun u hu => by
                obtain ⟨y0, y1, y2, y3, y4⟩ := (SdAt.cells (x := x) ((hu.block _ SA.out.lt).trans SA.out))
                exact ⟨y0, y2, y3, y4⟩
              have DO := asd (fun (u : World) (hB : Dk.Both u B b c d r) (hc : r.count ≤ 100000) => Dk.do_fuse2 hB ⟨9, ⟨#[]⟩, ⟨#[]⟩, x.n, x.m, x.by_⟩ (show (9 : Int) % 10 = 9 by decide) (show (0 : Int) ≤ 9 by decide) (show (9 : Int) ≤ 255 by decide) hc (show (0 : Nat) ≤ 101 by decide) (show (0 : Nat) ≤ 101 by decide) FF.out.n)
              have cd := CZ.out _ bD
              refine wp_region_held_drew (S := (fun u => u.cell? ⟨wr.heap.size, 0, none⟩ = some (.int .u8 x.kind) ∧ u.cell? ⟨wr.heap.size, 2, none⟩ = some (.int .i64 x.n) ∧ u.cell? ⟨wr.heap.size, 3, none⟩ = some (.int .i64 x.m) ∧ u.cell? ⟨wr.heap.size, 4, none⟩ = some (.int .i64 x.by_))) (by kernel_rfl) cd (fun hHeld => ?_)
              change wpAnyH _ _ _ _ _ _ _ _ (World.drew _)
              refine takeH_to (i := 0) (v := .pointer (some ⟨b, 0, none⟩)) (some 55) rfl rfl (by kernel_rfl) (by kernel_rfl) (by kernel_rfl) (fun _ _ _ h => h) (Or.inl ⟨by rfl, fun u hu => by (try dsimp only at hu); (try obtain ⟨hu1, hu2, hu3, hu4⟩ := hu); go_simp <;> (first | rfl | omega)⟩) (by assumption) ?_
              try simp only [Act.put, List.setIfInBounds_toArray, List.set_cons_zero, List.set_cons_succ]
              refine takeH_to (i := 1) (v := .pointer (some ⟨c, 0, none⟩)) (some 56) rfl rfl (by kernel_rfl) (by kernel_rfl) (by kernel_rfl) (fun _ _ _ h => h) (Or.inl ⟨by rfl, fun u hu => by (try dsimp only at hu); (try obtain ⟨hu1, hu2, hu3, hu4⟩ := hu); go_simp <;> (first | rfl | omega)⟩) (by assumption) ?_
              try simp only [Act.put, List.setIfInBounds_toArray, List.set_cons_zero, List.set_cons_succ]
              refine takeH_to (i := 3) (v := .pointer (some ⟨wr.heap.size, 0, none⟩)) (some 58) rfl rfl (by kernel_rfl) (by kernel_rfl) (by kernel_rfl) (fun _ _ _ h => h) (Or.inl ⟨by rfl, fun u hu => by (try dsimp only at hu); (try obtain ⟨hu1, hu2, hu3, hu4⟩ := hu); go_simp <;> (first | rfl | omega)⟩) (by assumption) ?_
              try simp only [Act.put, List.setIfInBounds_toArray, List.set_cons_zero, List.set_cons_succ]
              refine takeH_to (i := 4) (v := .int .u8 x.kind) (some 59) rfl rfl (by kernel_rfl) (by kernel_rfl) (by kernel_rfl) (fun _ _ _ h => h) (Or.inl ⟨by rfl, fun u hu => by (try dsimp only at hu); (try obtain ⟨hu1, hu2, hu3, hu4⟩ := hu); go_simp <;> (first | rfl | omega)⟩) (by assumption) ?_
              try simp only [Act.put, List.setIfInBounds_toArray, List.set_cons_zero, List.set_cons_succ]
              refine takeH_to (i := 5) (v := .int .u8 7) (some 60) rfl rfl (by kernel_rfl) (by kernel_rfl) (by kernel_rfl) (fun _ _ _ h => h) (Or.inl ⟨by rfl, fun u hu => by (try dsimp only at hu); (try obtain ⟨hu1, hu2, hu3, hu4⟩ := hu); go_simp <;> (first | rfl | omega)⟩) (by assumption) ?_
              try simp only [Act.put, List.setIfInBounds_toArray, List.set_cons_zero, List.set_cons_succ]
              refine takeH_to (i := 6) (v := .int .u8 1) (some 61) rfl rfl (by kernel_rfl) (by kernel_rfl) (by kernel_rfl) (fun _ _ _ h => h) (Or.inl ⟨by rfl, fun u hu => by (try dsimp only at hu); (try obtain ⟨hu1, hu2, hu3, hu4⟩ := hu); go_simp <;> (first | rfl | omega)⟩) (by assumption) ?_
              try simp only [Act.put, List.setIfInBounds_toArray, List.set_cons_zero, List.set_cons_succ]
              refine takeH_to (i := 9) (v := .pointer (some ⟨wr.heap.size, 2, none⟩)) (some 64) rfl rfl (by kernel_rfl) (by kernel_rfl) (by kernel_rfl) (fun _ _ _ h => h) (Or.inl ⟨by rfl, fun u hu => by (try dsimp only at hu); (try obtain ⟨hu1, hu2, hu3, hu4⟩ := hu); go_simp <;> (first | rfl | omega)⟩) (by assumption) ?_
              try simp only [Act.put, List.setIfInBounds_toArray, List.set_cons_zero, List.set_cons_succ]
              refine takeH_to (i := 10) (v := .int .i64 x.n) (some 65) rfl rfl (by kernel_rfl) (by kernel_rfl) (by kernel_rfl) (fun _ _ _ h => h) (Or.inl ⟨by rfl, fun u hu => by (try dsimp only at hu); (try obtain ⟨hu1, hu2, hu3, hu4⟩ := hu); go_simp <;> (first | rfl | omega)⟩) (by assumption) ?_
              try simp only [Act.put, List.setIfInBounds_toArray, List.set_cons_zero, List.set_cons_succ]
              refine takeH_to (i := 11) (v := .pointer (some ⟨wr.heap.size, 3, none⟩)) (some 66) rfl rfl (by kernel_rfl) (by kernel_rfl) (by kernel_rfl) (fun _ _ _ h => h) (Or.inl ⟨by rfl, fun u hu => by (try dsimp only at hu); (try obtain ⟨hu1, hu2, hu3, hu4⟩ := hu); go_simp <;> (first | rfl | omega)⟩) (by assumption) ?_
              try simp only [Act.put, List.setIfInBounds_toArray, List.set_cons_zero, List.set_cons_succ]
              refine takeH_to (i := 12) (v := .int .i64 x.m) (some 67) rfl rfl (by kernel_rfl) (by kernel_rfl) (by kernel_rfl) (fun _ _ _ h => h) (Or.inl ⟨by rfl, fun u hu => by (try dsimp only at hu); (try obtain ⟨hu1, hu2, hu3, hu4⟩ := hu); go_simp <;> (first | rfl | omega)⟩) (by assumption) ?_
              try simp only [Act.put, List.setIfInBounds_toArray, List.set_cons_zero, List.set_cons_succ]
              refine takeH_to (i := 13) (v := .pointer (some ⟨wr.heap.size, 4, none⟩)) (some 68) rfl rfl (by kernel_rfl) (by kernel_rfl) (by kernel_rfl) (fun _ _ _ h => h) (Or.inl ⟨by rfl, fun u hu => by (try dsimp only at hu); (try obtain ⟨hu1, hu2, hu3, hu4⟩ := hu); go_simp <;> (first | rfl | omega)⟩) (by assumption) ?_
              try simp only [Act.put, List.setIfInBounds_toArray, List.set_cons_zero, List.set_cons_succ]
              refine takeH_to (i := 14) (v := .int .i64 x.by_) (some 69) rfl rfl (by kernel_rfl) (by kernel_rfl) (by kernel_rfl) (fun _ _ _ h => h) (Or.inl ⟨by rfl, fun u hu => by (try dsimp only at hu); (try obtain ⟨hu1, hu2, hu3, hu4⟩ := hu); go_simp <;> (first | rfl | omega)⟩) (by assumption) ?_
              try simp only [Act.put, List.setIfInBounds_toArray, List.set_cons_zero, List.set_cons_succ]
              refine wpAnyH_ready (rs := [2]) (by kernel_rfl) (by simp) ?_
              refine AllReadyH.cons rfl (fun K hK => ?_) AllReadyH.nil
              rw [if_pos (by rfl)]
              go_simp
              refine hK.out _ _ (CZ.out _ bb) (fun hHeld => ?_)
              clear hK K
              try simp only [Act.put, List.setIfInBounds_toArray, List.set_cons_zero, List.set_cons_succ]
              refine takeH_to (i := 7) (v := .pointer (some ⟨wr.heap.size + 1, 1, none⟩)) (some 62) rfl rfl (by kernel_rfl) (by kernel_rfl) (by kernel_rfl) (fun _ _ _ h => h) (Or.inl ⟨by rfl, fun u hu => by (try dsimp only at hu); (try obtain ⟨hu1, hu2, hu3, hu4⟩ := hu); go_simp <;> (first | rfl | omega)⟩) (by assumption) ?_
              try simp only [Act.put, List.setIfInBounds_toArray, List.set_cons_zero, List.set_cons_succ]
              refine wpAnyH_ready (rs := [8]) (by kernel_rfl) (by simp) ?_
              refine AllReadyH.cons rfl (fun K hK => ?_) AllReadyH.nil
              rw [if_pos (by rfl)]
              go_simp
              refine hK.out _ _ (CZ.out _ bb) (fun hHeld => ?_)
              clear hK K
              try simp only [Act.put, List.setIfInBounds_toArray, List.set_cons_zero, List.set_cons_succ]
              refine takeH_to (i := 15) (v := .agg #[.int .u8 9, .string ⟨#[]⟩, .string ⟨#[]⟩, .int .i64 x.n, .int .i64 x.m, .int .i64 x.by_]) (some 70) rfl rfl (by kernel_rfl) (by kernel_rfl) (by kernel_rfl) (fun _ _ _ h => h) (Or.inl ⟨by rfl, fun u hu => by (try dsimp only at hu); (try obtain ⟨hu1, hu2, hu3, hu4⟩ := hu); go_simp <;> (first | rfl | omega)⟩) (by assumption) ?_
              try simp only [Act.put, List.setIfInBounds_toArray, List.set_cons_zero, List.set_cons_succ]
              refine wpAnyH_ready (rs := [16]) (by kernel_rfl) (by simp) ?_
              refine AllReadyH.cons rfl (fun K hK => ?_) AllReadyH.nil
              rw [if_pos (by rfl)]
              go_simp
              go_at_call 20
              refine (DO.out _ TZ.out.both (by have := TZ.out.cnt; omega)).mono ?_
              rintro e w5 ⟨rfl, hD⟩
              obtain ⟨d5, r5, _, T5, _⟩ := TZ.out.deed hD (fuse_names _ _)
              have C5 : w5.cell? ⟨wr.heap.size, 0, none⟩ = some (.int .u8 x.kind) ∧ w5.cell? ⟨wr.heap.size, 2, none⟩ = some (.int .i64 x.n) ∧ w5.cell? ⟨wr.heap.size, 3, none⟩ = some (.int .i64 x.m) ∧ w5.cell? ⟨wr.heap.size, 4, none⟩ = some (.int .i64 x.by_) := by
                obtain ⟨_, _, _, _, _, st⟩ := hD
                have hS : SdAt ((wr.alloc (.cells x.cells 38)).drew.alloc (.cells #[.int .u8 7, .int .u8 9, .int .u8 8] 5)) wr.heap.size x := (bb.block _ SA.out.lt).trans SA.out
                obtain ⟨y0, y1, y2, y3, y4⟩ := (hS.step st (fun hm => by
                  rcases List.mem_append.1 hm with e | e
                  · exact NF.out e
                  · exact NR.out e)).1.cells
                exact ⟨y0, y2, y3, y4⟩
              have T6 := asd T5
              clear hD T5
              go_simp
              refine hK.out _ _ C5 (fun hHeld => ?_)
              clear hK K
              try simp only [Act.put, List.setIfInBounds_toArray, List.set_cons_zero, List.set_cons_succ]
              refine takeH_to (i := 17) (v := .bool true) (some 17) rfl rfl (by kernel_rfl) (by kernel_rfl) (by kernel_rfl) (fun _ _ _ h => h) (Or.inl ⟨by rfl, fun u hu => by (try dsimp only at hu); (try obtain ⟨hu1, hu2, hu3, hu4⟩ := hu); go_simp <;> (first | rfl | omega)⟩) (by assumption) ?_
              try simp only [Act.put, List.setIfInBounds_toArray, List.set_cons_zero, List.set_cons_succ]
              refine wpAnyH_done (by kernel_rfl) ?_ _
              go_wp2_with fail
              go_meet
              exact ⟨rfl, .inl ⟨rfl, rfl, d5, r5, T6.out⟩⟩
          · as_aux_lemma =>
              have qT : x.kind.tmod 9 = 8 := by rw [Int.tmod_eq_emod_of_nonneg hk0]; exact hq
              go_wp2
              have bD : Below (wr.alloc (.cells x.cells 38)).heap.size (wr.alloc (.cells x.cells 38)) (wr.alloc (.cells x.cells 38)).drew := ⟨rfl, rfl, rfl, Nat.le_refl _, fun _ _ => rfl⟩
              have bZ : Below (wr.alloc (.cells x.cells 38)).drew.heap.size (wr.alloc (.cells x.cells 38)).drew ((wr.alloc (.cells x.cells 38)).drew.alloc (.cells #[.int .u8 7, .int .u8 9, .int .u8 8] 5)) := (Below.refl _ _).alloc (Nat.le_refl _) _
              have bb : Below (wr.alloc (.cells x.cells 38)).heap.size (wr.alloc (.cells x.cells 38)) ((wr.alloc (.cells x.cells 38)).drew.alloc (.cells #[.int .u8 7, .int .u8 9, .int .u8 8] 5)) := bD.trans (bZ.mono bD.size)
              have TZ := asd (TA.out.later bb)
              have CZ : Aside (∀ u : World, Below (wr.alloc (.cells x.cells 38)).heap.size (wr.alloc (.cells x.cells 38)) u → u.cell? ⟨wr.heap.size, 0, none⟩ = some (.int .u8 x.kind) ∧ u.cell? ⟨wr.heap.size, 2, none⟩ = some (.int .i64 x.n) ∧ u.cell? ⟨wr.heap.size, 3, none⟩ = some (.int .i64 x.m) ∧ u.cell? ⟨wr.heap.size, 4, none⟩ = some (.int .i64 x.by_)) := fun u hu => by
                obtain ⟨y0, y1, y2, y3, y4⟩ := (SdAt.cells (x := x) ((hu.block _ SA.out.lt).trans SA.out))
                exact ⟨y0, y2, y3, y4⟩
              have DO := asd (fun (u : World) (hB : Dk.Both u B b c d r) (hc : r.count ≤ 100000) => Dk.do_rot2 hB ⟨8, ⟨#[]⟩, ⟨#[]⟩, x.n, x.m, x.by_⟩ (show (8 : Int) % 10 = 8 by decide) (show (0 : Int) ≤ 8 by decide) (show (8 : Int) ≤ 255 by decide) hc (show (0 : Nat) ≤ 101 by decide) (show (0 : Nat) ≤ 101 by decide) FF.out.n)
              have cd := CZ.out _ bD
              refine wp_region_held_drew (S := (fun u => u.cell? ⟨wr.heap.size, 0, none⟩ = some (.int .u8 x.kind) ∧ u.cell? ⟨wr.heap.size, 2, none⟩ = some (.int .i64 x.n) ∧ u.cell? ⟨wr.heap.size, 3, none⟩ = some (.int .i64 x.m) ∧ u.cell? ⟨wr.heap.size, 4, none⟩ = some (.int .i64 x.by_))) (by kernel_rfl) cd (fun hHeld => ?_)
              change wpAnyH _ _ _ _ _ _ _ _ (World.drew _)
              refine takeH_to (i := 0) (v := .pointer (some ⟨b, 0, none⟩)) (some 55) rfl rfl (by kernel_rfl) (by kernel_rfl) (by kernel_rfl) (fun _ _ _ h => h) (Or.inl ⟨by rfl, fun u hu => by (try dsimp only at hu); (try obtain ⟨hu1, hu2, hu3, hu4⟩ := hu); go_simp <;> (first | rfl | omega)⟩) (by assumption) ?_
              try simp only [Act.put, List.setIfInBounds_toArray, List.set_cons_zero, List.set_cons_succ]
              refine takeH_to (i := 1) (v := .pointer (some ⟨c, 0, none⟩)) (some 56) rfl rfl (by kernel_rfl) (by kernel_rfl) (by kernel_rfl) (fun _ _ _ h => h) (Or.inl ⟨by rfl, fun u hu => by (try dsimp only at hu); (try obtain ⟨hu1, hu2, hu3, hu4⟩ := hu); go_simp <;> (first | rfl | omega)⟩) (by assumption) ?_
              try simp only [Act.put, List.setIfInBounds_toArray, List.set_cons_zero, List.set_cons_succ]
              refine takeH_to (i := 3) (v := .pointer (some ⟨wr.heap.size, 0, none⟩)) (some 58) rfl rfl (by kernel_rfl) (by kernel_rfl) (by kernel_rfl) (fun _ _ _ h => h) (Or.inl ⟨by rfl, fun u hu => by (try dsimp only at hu); (try obtain ⟨hu1, hu2, hu3, hu4⟩ := hu); go_simp <;> (first | rfl | omega)⟩) (by assumption) ?_
              try simp only [Act.put, List.setIfInBounds_toArray, List.set_cons_zero, List.set_cons_succ]
              refine takeH_to (i := 4) (v := .int .u8 x.kind) (some 59) rfl rfl (by kernel_rfl) (by kernel_rfl) (by kernel_rfl) (fun _ _ _ h => h) (Or.inl ⟨by rfl, fun u hu => by (try dsimp only at hu); (try obtain ⟨hu1, hu2, hu3, hu4⟩ := hu); go_simp <;> (first | rfl | omega)⟩) (by assumption) ?_
              try simp only [Act.put, List.setIfInBounds_toArray, List.set_cons_zero, List.set_cons_succ]
              refine takeH_to (i := 5) (v := .int .u8 8) (some 60) rfl rfl (by kernel_rfl) (by kernel_rfl) (by kernel_rfl) (fun _ _ _ h => h) (Or.inl ⟨by rfl, fun u hu => by (try dsimp only at hu); (try obtain ⟨hu1, hu2, hu3, hu4⟩ := hu); go_simp <;> (first | rfl | omega)⟩) (by assumption) ?_
              try simp only [Act.put, List.setIfInBounds_toArray, List.set_cons_zero, List.set_cons_succ]
              refine takeH_to (i := 6) (v := .int .u8 2) (some 61) rfl rfl (by kernel_rfl) (by kernel_rfl) (by kernel_rfl) (fun _ _ _ h => h) (Or.inl ⟨by rfl, fun u hu => by (try dsimp only at hu); (try obtain ⟨hu1, hu2, hu3, hu4⟩ := hu); go_simp <;> (first | rfl | omega)⟩) (by assumption) ?_
              try simp only [Act.put, List.setIfInBounds_toArray, List.set_cons_zero, List.set_cons_succ]
              refine takeH_to (i := 9) (v := .pointer (some ⟨wr.heap.size, 2, none⟩)) (some 64) rfl rfl (by kernel_rfl) (by kernel_rfl) (by kernel_rfl) (fun _ _ _ h => h) (Or.inl ⟨by rfl, fun u hu => by (try dsimp only at hu); (try obtain ⟨hu1, hu2, hu3, hu4⟩ := hu); go_simp <;> (first | rfl | omega)⟩) (by assumption) ?_
              try simp only [Act.put, List.setIfInBounds_toArray, List.set_cons_zero, List.set_cons_succ]
              refine takeH_to (i := 10) (v := .int .i64 x.n) (some 65) rfl rfl (by kernel_rfl) (by kernel_rfl) (by kernel_rfl) (fun _ _ _ h => h) (Or.inl ⟨by rfl, fun u hu => by (try dsimp only at hu); (try obtain ⟨hu1, hu2, hu3, hu4⟩ := hu); go_simp <;> (first | rfl | omega)⟩) (by assumption) ?_
              try simp only [Act.put, List.setIfInBounds_toArray, List.set_cons_zero, List.set_cons_succ]
              refine takeH_to (i := 11) (v := .pointer (some ⟨wr.heap.size, 3, none⟩)) (some 66) rfl rfl (by kernel_rfl) (by kernel_rfl) (by kernel_rfl) (fun _ _ _ h => h) (Or.inl ⟨by rfl, fun u hu => by (try dsimp only at hu); (try obtain ⟨hu1, hu2, hu3, hu4⟩ := hu); go_simp <;> (first | rfl | omega)⟩) (by assumption) ?_
              try simp only [Act.put, List.setIfInBounds_toArray, List.set_cons_zero, List.set_cons_succ]
              refine takeH_to (i := 12) (v := .int .i64 x.m) (some 67) rfl rfl (by kernel_rfl) (by kernel_rfl) (by kernel_rfl) (fun _ _ _ h => h) (Or.inl ⟨by rfl, fun u hu => by (try dsimp only at hu); (try obtain ⟨hu1, hu2, hu3, hu4⟩ := hu); go_simp <;> (first | rfl | omega)⟩) (by assumption) ?_
              try simp only [Act.put, List.setIfInBounds_toArray, List.set_cons_zero, List.set_cons_succ]
              refine takeH_to (i := 13) (v := .pointer (some ⟨wr.heap.size, 4, none⟩)) (some 68) rfl rfl (by kernel_rfl) (by kernel_rfl) (by kernel_rfl) (fun _ _ _ h => h) (Or.inl ⟨by rfl, fun u hu => by (try dsimp only at hu); (try obtain ⟨hu1, hu2, hu3, hu4⟩ := hu); go_simp <;> (first | rfl | omega)⟩) (by assumption) ?_
              try simp only [Act.put, List.setIfInBounds_toArray, List.set_cons_zero, List.set_cons_succ]
              refine takeH_to (i := 14) (v := .int .i64 x.by_) (some 69) rfl rfl (by kernel_rfl) (by kernel_rfl) (by kernel_rfl) (fun _ _ _ h => h) (Or.inl ⟨by rfl, fun u hu => by (try dsimp only at hu); (try obtain ⟨hu1, hu2, hu3, hu4⟩ := hu); go_simp <;> (first | rfl | omega)⟩) (by assumption) ?_
              try simp only [Act.put, List.setIfInBounds_toArray, List.set_cons_zero, List.set_cons_succ]
              refine wpAnyH_ready (rs := [2]) (by kernel_rfl) (by simp) ?_
              refine AllReadyH.cons rfl (fun K hK => ?_) AllReadyH.nil
              rw [if_pos (by rfl)]
              go_simp
              refine hK.out _ _ (CZ.out _ bb) (fun hHeld => ?_)
              clear hK K
              try simp only [Act.put, List.setIfInBounds_toArray, List.set_cons_zero, List.set_cons_succ]
              refine takeH_to (i := 7) (v := .pointer (some ⟨wr.heap.size + 1, 2, none⟩)) (some 62) rfl rfl (by kernel_rfl) (by kernel_rfl) (by kernel_rfl) (fun _ _ _ h => h) (Or.inl ⟨by rfl, fun u hu => by (try dsimp only at hu); (try obtain ⟨hu1, hu2, hu3, hu4⟩ := hu); go_simp <;> (first | rfl | omega)⟩) (by assumption) ?_
              try simp only [Act.put, List.setIfInBounds_toArray, List.set_cons_zero, List.set_cons_succ]
              refine wpAnyH_ready (rs := [8]) (by kernel_rfl) (by simp) ?_
              refine AllReadyH.cons rfl (fun K hK => ?_) AllReadyH.nil
              rw [if_pos (by rfl)]
              go_simp
              refine hK.out _ _ (CZ.out _ bb) (fun hHeld => ?_)
              clear hK K
              try simp only [Act.put, List.setIfInBounds_toArray, List.set_cons_zero, List.set_cons_succ]
              refine takeH_to (i := 15) (v := .agg #[.int .u8 8, .string ⟨#[]⟩, .string ⟨#[]⟩, .int .i64 x.n, .int .i64 x.m, .int .i64 x.by_]) (some 70) rfl rfl (by kernel_rfl) (by kernel_rfl) (by kernel_rfl) (fun _ _ _ h => h) (Or.inl ⟨by rfl, fun u hu => by (try dsimp only at hu); (try obtain ⟨hu1, hu2, hu3, hu4⟩ := hu); go_simp <;> (first | rfl | omega)⟩) (by assumption) ?_
              try simp only [Act.put, List.setIfInBounds_toArray, List.set_cons_zero, List.set_cons_succ]
              refine wpAnyH_ready (rs := [16]) (by kernel_rfl) (by simp) ?_
              refine AllReadyH.cons rfl (fun K hK => ?_) AllReadyH.nil
              rw [if_pos (by rfl)]
              go_simp
              go_at_call 20
              refine (DO.out _ TZ.out.both (by have := TZ.out.cnt; omega)).mono ?_
              rintro e w5 ⟨rfl, hD⟩
              obtain ⟨d5, r5, _, T5, _⟩ := TZ.out.deed hD (rot_names _ _ _ _)
              have C5 : w5.cell? ⟨wr.heap.size, 0, none⟩ = some (.int .u8 x.kind) ∧ w5.cell? ⟨wr.heap.size, 2, none⟩ = some (.int .i64 x.n) ∧ w5.cell? ⟨wr.heap.size, 3, none⟩ = some (.int .i64 x.m) ∧ w5.cell? ⟨wr.heap.size, 4, none⟩ = some (.int .i64 x.by_) := by
                obtain ⟨_, _, _, _, _, st⟩ := hD
                have hS : SdAt ((wr.alloc (.cells x.cells 38)).drew.alloc (.cells #[.int .u8 7, .int .u8 9, .int .u8 8] 5)) wr.heap.size x := (bb.block _ SA.out.lt).trans SA.out
                obtain ⟨y0, y1, y2, y3, y4⟩ := (hS.step st (fun hm => by
                  rcases List.mem_append.1 hm with e | e
                  · exact NF.out e
                  · exact NR.out e)).1.cells
                exact ⟨y0, y2, y3, y4⟩
              have T6 := asd T5
              clear hD T5
              go_simp
              refine hK.out _ _ C5 (fun hHeld => ?_)
              clear hK K
              try simp only [Act.put, List.setIfInBounds_toArray, List.set_cons_zero, List.set_cons_succ]
              refine takeH_to (i := 17) (v := .bool true) (some 17) rfl rfl (by kernel_rfl) (by kernel_rfl) (by kernel_rfl) (fun _ _ _ h => h) (Or.inl ⟨by rfl, fun u hu => by (try dsimp only at hu); (try obtain ⟨hu1, hu2, hu3, hu4⟩ := hu); go_simp <;> (first | rfl | omega)⟩) (by assumption) ?_
              try simp only [Act.put, List.setIfInBounds_toArray, List.set_cons_zero, List.set_cons_succ]
              refine wpAnyH_done (by kernel_rfl) ?_ _
              go_wp2_with fail
              go_meet
              exact ⟨rfl, .inl ⟨rfl, rfl, d5, r5, T6.out⟩⟩
        · subst e1 e2
          have TA := asd (T.later ((Below.refl _ _).alloc (Nat.le_refl _) (.cells x.cells 38)))
          have NF := asd (fun hm => by have := (T.td.both.rep.lt _ hm).2; omega : wr.heap.size ∉ d.foot b)
          have NR := asd (fun hm => by have := (T.td.both.rrep.lt _ hm).2; omega : wr.heap.size ∉ r.foot c)
          have NY := asd (fun e => by have := T.lr.lt; omega : wr.heap.size ≠ y)
          clear T R
          unfold Sd.cells at TA
          rcases kinds9b hk0 with hq | hq | hq | hq | hq | hq | hq | hq | hq
          · as_aux_lemma =>
              have qA : ((lAppend d.pl f (wi lim) x.s x.n).1 == (lAppend d.pl f (wi lim) x.s x.n).1) = true := beq_self_eq_true _
              have ROW := asd (alike_append TA.out.td.both.ok TA.out.f1 TA.out.f2 TA.out.row (m := wi lim) x.s x.n).1
              have KC := asd (fun (u : World) (hu : TL W B b c f (wi lim) l y k d r u) => lappend_any hu.sys hu.f1 hu.f2 x.s x.n (by omega))
              have KD := asd (fun (u : World) (h1 : Rb u B c d r) (h2 : LrAt u y c f (lLast d.pl f) (wi lim)) => rlappend_any h1 (by have := TA.out.td.cnt; omega) h2 TA.out.y2 TA.out.f1 TA.out.f2 TA.out.row x.s x.n hxs)
              unfold RAp at KD
              generalize lAppend d.pl f (wi lim) x.s x.n = A at *
              go_wp2
              have bD : Below (wr.alloc (.cells x.cells 38)).heap.size (wr.alloc (.cells x.cells 38)) (wr.alloc (.cells x.cells 38)).drew := ⟨rfl, rfl, rfl, Nat.le_refl _, fun _ _ => rfl⟩
              have TD1 := asd (TA.out.later bD)
              have SD1 : Aside (SdAt (wr.alloc (.cells x.cells 38)).drew wr.heap.size x) := (bD.block _ SA.out.lt).trans SA.out
              go_region_held3 (fun u => u.cell? ⟨wr.heap.size, 1, none⟩ = some (.string x.s) ∧ u.cell? ⟨wr.heap.size, 2, none⟩ = some (.int .i64 x.n)) (go_keep) ((first
                | (go_at_call 13; refine (KC.out _ TD1.out).mono ?_; rintro e w4 ⟨rfl, d4, S4, p4, st4⟩; have H4 := asd (TD1.out.half st4); have SS4 := asd S4; have ST4 := asd st4; have P4 := asd p4; obtain ⟨z0, z1, z2, z3, z4⟩ := (SD1.out.step st4 NF.out).1.cells; have SD4 := asd (SD1.out.step st4 NF.out).1; clear S4 st4 p4)
                | (go_at_call 14; refine (KD.out _ H4.out.1 H4.out.2).mono ?_; rintro e w5 ⟨rfl, r5, R5, T5, n5, L5, st5⟩; have TT := asd (TD1.out.whole SS4.out ST4.out R5 (by rw [P4.out]; exact T5) (count310 TD1.out.td.cnt n5) st5 (by rw [P4.out]; exact L5) (by rw [P4.out]; exact ROW.out)); obtain ⟨y0, y1, y2, y3, y4⟩ := (SD4.out.step st5 (fun hm => by rcases List.mem_cons.1 hm with e | e; (exact NY.out e); (exact NR.out e))).1.cells; clear R5 T5 n5 L5 st5)))
              go_wp2_with fail
              go_meet
              exact ⟨rfl, .inr ⟨l, y, d4, r5, rfl, rfl, TT.out⟩⟩
          · as_aux_lemma =>
              have qA : ((lAppend d.pl f (wi lim) x.s x.n).1 == (lAppend d.pl f (wi lim) x.s x.n).1) = true := beq_self_eq_true _
              have ROW := asd (alike_append TA.out.td.both.ok TA.out.f1 TA.out.f2 TA.out.row (m := wi lim) x.s x.n).1
              have KC := asd (fun (u : World) (hu : TL W B b c f (wi lim) l y k d r u) => lappend_any hu.sys hu.f1 hu.f2 x.s x.n (by omega))
              have KD := asd (fun (u : World) (h1 : Rb u B c d r) (h2 : LrAt u y c f (lLast d.pl f) (wi lim)) => rlappend_any h1 (by have := TA.out.td.cnt; omega) h2 TA.out.y2 TA.out.f1 TA.out.f2 TA.out.row x.s x.n hxs)
              unfold RAp at KD
              generalize lAppend d.pl f (wi lim) x.s x.n = A at *
              go_wp2
              have bD : Below (wr.alloc (.cells x.cells 38)).heap.size (wr.alloc (.cells x.cells 38)) (wr.alloc (.cells x.cells 38)).drew := ⟨rfl, rfl, rfl, Nat.le_refl _, fun _ _ => rfl⟩
              have TD1 := asd (TA.out.later bD)
              have SD1 : Aside (SdAt (wr.alloc (.cells x.cells 38)).drew wr.heap.size x) := (bD.block _ SA.out.lt).trans SA.out
              go_region_held3 (fun u => u.cell? ⟨wr.heap.size, 1, none⟩ = some (.string x.s) ∧ u.cell? ⟨wr.heap.size, 2, none⟩ = some (.int .i64 x.n)) (go_keep) ((first
                | (go_at_call 13; refine (KC.out _ TD1.out).mono ?_; rintro e w4 ⟨rfl, d4, S4, p4, st4⟩; have H4 := asd (TD1.out.half st4); have SS4 := asd S4; have ST4 := asd st4; have P4 := asd p4; obtain ⟨z0, z1, z2, z3, z4⟩ := (SD1.out.step st4 NF.out).1.cells; have SD4 := asd (SD1.out.step st4 NF.out).1; clear S4 st4 p4)
                | (go_at_call 14; refine (KD.out _ H4.out.1 H4.out.2).mono ?_; rintro e w5 ⟨rfl, r5, R5, T5, n5, L5, st5⟩; have TT := asd (TD1.out.whole SS4.out ST4.out R5 (by rw [P4.out]; exact T5) (count310 TD1.out.td.cnt n5) st5 (by rw [P4.out]; exact L5) (by rw [P4.out]; exact ROW.out)); obtain ⟨y0, y1, y2, y3, y4⟩ := (SD4.out.step st5 (fun hm => by rcases List.mem_cons.1 hm with e | e; (exact NY.out e); (exact NR.out e))).1.cells; clear R5 T5 n5 L5 st5)))
              go_wp2_with fail
              go_meet
              exact ⟨rfl, .inr ⟨l, y, d4, r5, rfl, rfl, TT.out⟩⟩
          · as_aux_lemma =>
              have qA : ((lAppend d.pl f (wi lim) x.s x.n).1 == (lAppend d.pl f (wi lim) x.s x.n).1) = true := beq_self_eq_true _
              have ROW := asd (alike_append TA.out.td.both.ok TA.out.f1 TA.out.f2 TA.out.row (m := wi lim) x.s x.n).1
              have KC := asd (fun (u : World) (hu : TL W B b c f (wi lim) l y k d r u) => lappend_any hu.sys hu.f1 hu.f2 x.s x.n (by omega))
              have KD := asd (fun (u : World) (h1 : Rb u B c d r) (h2 : LrAt u y c f (lLast d.pl f) (wi lim)) => rlappend_any h1 (by have := TA.out.td.cnt; omega) h2 TA.out.y2 TA.out.f1 TA.out.f2 TA.out.row x.s x.n hxs)
              unfold RAp at KD
              generalize lAppend d.pl f (wi lim) x.s x.n = A at *
              go_wp2
              have bD : Below (wr.alloc (.cells x.cells 38)).heap.size (wr.alloc (.cells x.cells 38)) (wr.alloc (.cells x.cells 38)).drew := ⟨rfl, rfl, rfl, Nat.le_refl _, fun _ _ => rfl⟩
              have TD1 := asd (TA.out.later bD)
              have SD1 : Aside (SdAt (wr.alloc (.cells x.cells 38)).drew wr.heap.size x) := (bD.block _ SA.out.lt).trans SA.out
              go_region_held3 (fun u => u.cell? ⟨wr.heap.size, 1, none⟩ = some (.string x.s) ∧ u.cell? ⟨wr.heap.size, 2, none⟩ = some (.int .i64 x.n)) (go_keep) ((first
                | (go_at_call 13; refine (KC.out _ TD1.out).mono ?_; rintro e w4 ⟨rfl, d4, S4, p4, st4⟩; have H4 := asd (TD1.out.half st4); have SS4 := asd S4; have ST4 := asd st4; have P4 := asd p4; obtain ⟨z0, z1, z2, z3, z4⟩ := (SD1.out.step st4 NF.out).1.cells; have SD4 := asd (SD1.out.step st4 NF.out).1; clear S4 st4 p4)
                | (go_at_call 14; refine (KD.out _ H4.out.1 H4.out.2).mono ?_; rintro e w5 ⟨rfl, r5, R5, T5, n5, L5, st5⟩; have TT := asd (TD1.out.whole SS4.out ST4.out R5 (by rw [P4.out]; exact T5) (count310 TD1.out.td.cnt n5) st5 (by rw [P4.out]; exact L5) (by rw [P4.out]; exact ROW.out)); obtain ⟨y0, y1, y2, y3, y4⟩ := (SD4.out.step st5 (fun hm => by rcases List.mem_cons.1 hm with e | e; (exact NY.out e); (exact NR.out e))).1.cells; clear R5 T5 n5 L5 st5)))
              go_wp2_with fail
              go_meet
              exact ⟨rfl, .inr ⟨l, y, d4, r5, rfl, rfl, TT.out⟩⟩
          · as_aux_lemma =>
              have qA : ((lSync d.pl f).1 == (lSync d.pl f).1) = true := beq_self_eq_true _
              have HNM := asd (lsync_names d.pl f)
              have KC := asd (lsync_any TA.out.sys)
              have KD := asd (fun (u : World) (h1 : Rb u B c d r) (h2 : LrAt u y c f (lLast d.pl f) (wi lim)) => rlsync_ok h1 (by have := TA.out.td.cnt; omega) h2 TA.out.y2)
              generalize lSync d.pl f = A at *
              go_wp2_with (first
                | (go_at_call 15; refine KC.out.mono ?_; rintro e w4 ⟨rfl, d4, S4, p4, st4⟩; have H4 := asd (TA.out.half st4); have SS4 := asd S4; have ST4 := asd st4; have P4 := asd p4; clear S4 st4 p4)
                | (go_at_call 16; refine (KD.out _ H4.out.1 H4.out.2).mono ?_; rintro e w5 ⟨rfl, r5, R5, T5, n5, st5⟩; have TT := asd (TA.out.same SS4.out ST4.out R5 (by rw [P4.out]; exact T5) (count310 TA.out.td.cnt (by rw [n5]; omega)) st5 (by rw [P4.out]; exact HNM.out)); clear R5 T5 n5 st5))
              go_meet
              exact ⟨rfl, .inr ⟨l, y, d4, r5, rfl, rfl, TT.out⟩⟩
          · as_aux_lemma =>
              have qA : ((lSync d.pl f).1 == (lSync d.pl f).1) = true := beq_self_eq_true _
              have HNM := asd (lsync_names d.pl f)
              have KC := asd (lsync_any TA.out.sys)
              have KD := asd (fun (u : World) (h1 : Rb u B c d r) (h2 : LrAt u y c f (lLast d.pl f) (wi lim)) => rlsync_ok h1 (by have := TA.out.td.cnt; omega) h2 TA.out.y2)
              generalize lSync d.pl f = A at *
              go_wp2_with (first
                | (go_at_call 15; refine KC.out.mono ?_; rintro e w4 ⟨rfl, d4, S4, p4, st4⟩; have H4 := asd (TA.out.half st4); have SS4 := asd S4; have ST4 := asd st4; have P4 := asd p4; clear S4 st4 p4)
                | (go_at_call 16; refine (KD.out _ H4.out.1 H4.out.2).mono ?_; rintro e w5 ⟨rfl, r5, R5, T5, n5, st5⟩; have TT := asd (TA.out.same SS4.out ST4.out R5 (by rw [P4.out]; exact T5) (count310 TA.out.td.cnt (by rw [n5]; omega)) st5 (by rw [P4.out]; exact HNM.out)); clear R5 T5 n5 st5))
              go_meet
              exact ⟨rfl, .inr ⟨l, y, d4, r5, rfl, rfl, TT.out⟩⟩
          · as_aux_lemma =>
              have TC := asd TA.out.td
              have qA : (erO (lOpen (Dk.opCrash d.pl x.n) f).1 == erO (lOpen (Dk.opCrash d.pl x.n) f).1) = true := beq_self_eq_true _
              generalize hEE2 : erO (lOpen (Dk.opCrash d.pl x.n) f).1 = E2 at *
              have HE2 := asd hEE2
              clear hEE2 TA
              go_wp2_with (first
                | (go_at_call 17; refine (dcrash_any TC.out.dsk x.n FF.out.n).mono ?_; rintro e w4 ⟨rfl, d4, D4, p4, st4⟩; have H4 := asd (TC.out.half st4).1; have DD4 := asd D4; have ST4 := asd st4; have P4 := asd p4; obtain ⟨z0, z1, z2, z3, z4⟩ := (SA.out.step st4 NF.out).1.cells; clear D4 st4 p4)
                | (go_at_call 18; refine (rb_crash H4.out (by have := TC.out.cnt; omega) x.n).mono ?_; rintro e w5 ⟨rfl, r5, R5, T5, n5, st5⟩; have TT := asd (TC.out.whole (Y := []) DD4.out ST4.out R5 (by rw [P4.out]; exact T5) (by rw [n5]; exact TC.out.cnt) st5 (fun k hk => by cases hk)); clear R5 T5 n5 st5)
                | (go_at_call 11; refine (open_gen TT.out.dsk f lim).mono ?_; rw [P4.out, HE2.out]; rintro e w6 ⟨vx6, rv6, d6, rfl, G6⟩; have GG := asd G6; clear G6)
                | (go_at_call 12; refine (rlopen_gen TT.out (by omega) GG.out).mono ?_; rw [P4.out, HE2.out]; rintro e w7 ⟨vy7, rv7, rfl, TR7, o1, o2⟩; have RR := asd TR7; have O1 := asd o1; have O2 := asd o2; clear TR7 o1 o2)
                | (go_at_call 19; refine (same_yes _ _ _ _ (Fm.Strs.of_row O1.out) (Fm.Strs.of_row O2.out) (few_recs (by have := TT.out.both.ok; rwa [P4.out] at this) f)).mono ?_; rintro e w8 ⟨rfl, b8⟩; have R8 := asd (RR.out.later b8); clear b8))
              go_meet
              exact ⟨rfl, R8.out.more (by omega)⟩
          · as_aux_lemma =>
              have qT : x.kind.tmod 9 = 6 := by rw [Int.tmod_eq_emod_of_nonneg hk0]; exact hq
              go_wp2
              have bD : Below (wr.alloc (.cells x.cells 38)).heap.size (wr.alloc (.cells x.cells 38)) (wr.alloc (.cells x.cells 38)).drew := ⟨rfl, rfl, rfl, Nat.le_refl _, fun _ _ => rfl⟩
              have bZ : Below (wr.alloc (.cells x.cells 38)).drew.heap.size (wr.alloc (.cells x.cells 38)).drew ((wr.alloc (.cells x.cells 38)).drew.alloc (.cells #[.int .u8 7, .int .u8 9, .int .u8 8] 5)) := (Below.refl _ _).alloc (Nat.le_refl _) _
              have bb : Below (wr.alloc (.cells x.cells 38)).heap.size (wr.alloc (.cells x.cells 38)) ((wr.alloc (.cells x.cells 38)).drew.alloc (.cells #[.int .u8 7, .int .u8 9, .int .u8 8] 5)) := bD.trans (bZ.mono bD.size)
              have TZ := asd (TA.out.later bb)
              have CZ : Aside (∀ u : World, Below (wr.alloc (.cells x.cells 38)).heap.size (wr.alloc (.cells x.cells 38)) u → u.cell? ⟨wr.heap.size, 0, none⟩ = some (.int .u8 x.kind) ∧ u.cell? ⟨wr.heap.size, 2, none⟩ = some (.int .i64 x.n) ∧ u.cell? ⟨wr.heap.size, 3, none⟩ = some (.int .i64 x.m) ∧ u.cell? ⟨wr.heap.size, 4, none⟩ = some (.int .i64 x.by_)) := fun u hu => by
                obtain ⟨y0, y1, y2, y3, y4⟩ := (SdAt.cells (x := x) ((hu.block _ SA.out.lt).trans SA.out))
                exact ⟨y0, y2, y3, y4⟩
              have DO := asd (fun (u : World) (hB : Dk.Both u B b c d r) (hc : r.count ≤ 100000) => Dk.do_room2 hB ⟨7, ⟨#[]⟩, ⟨#[]⟩, x.n, x.m, x.by_⟩ (show (7 : Int) % 10 = 7 by decide) (show (0 : Int) ≤ 7 by decide) (show (7 : Int) ≤ 255 by decide) hc (show (0 : Nat) ≤ 101 by decide) (show (0 : Nat) ≤ 101 by decide) FF.out.n)
              have cd := CZ.out _ bD
              refine wp_region_held_drew (S := (fun u => u.cell? ⟨wr.heap.size, 0, none⟩ = some (.int .u8 x.kind) ∧ u.cell? ⟨wr.heap.size, 2, none⟩ = some (.int .i64 x.n) ∧ u.cell? ⟨wr.heap.size, 3, none⟩ = some (.int .i64 x.m) ∧ u.cell? ⟨wr.heap.size, 4, none⟩ = some (.int .i64 x.by_))) (by kernel_rfl) cd (fun hHeld => ?_)
              change wpAnyH _ _ _ _ _ _ _ _ (World.drew _)
              refine takeH_to (i := 0) (v := .pointer (some ⟨b, 0, none⟩)) (some 55) rfl rfl (by kernel_rfl) (by kernel_rfl) (by kernel_rfl) (fun _ _ _ h => h) (Or.inl ⟨by rfl, fun u hu => by (try dsimp only at hu); (try obtain ⟨hu1, hu2, hu3, hu4⟩ := hu); go_simp <;> (first | rfl | omega)⟩) (by assumption) ?_
              try simp only [Act.put, List.setIfInBounds_toArray, List.set_cons_zero, List.set_cons_succ]
              refine takeH_to (i := 1) (v := .pointer (some ⟨c, 0, none⟩)) (some 56) rfl rfl (by kernel_rfl) (by kernel_rfl) (by kernel_rfl) (fun _ _ _ h => h) (Or.inl ⟨by rfl, fun u hu => by (try dsimp only at hu); (try obtain ⟨hu1, hu2, hu3, hu4⟩ := hu); go_simp <;> (first | rfl | omega)⟩) (by assumption) ?_
              try simp only [Act.put, List.setIfInBounds_toArray, List.set_cons_zero, List.set_cons_succ]
              refine takeH_to (i := 3) (v := .pointer (some ⟨wr.heap.size, 0, none⟩)) (some 58) rfl rfl (by kernel_rfl) (by kernel_rfl) (by kernel_rfl) (fun _ _ _ h => h) (Or.inl ⟨by rfl, fun u hu => by (try dsimp only at hu); (try obtain ⟨hu1, hu2, hu3, hu4⟩ := hu); go_simp <;> (first | rfl | omega)⟩) (by assumption) ?_
              try simp only [Act.put, List.setIfInBounds_toArray, List.set_cons_zero, List.set_cons_succ]
              refine takeH_to (i := 4) (v := .int .u8 x.kind) (some 59) rfl rfl (by kernel_rfl) (by kernel_rfl) (by kernel_rfl) (fun _ _ _ h => h) (Or.inl ⟨by rfl, fun u hu => by (try dsimp only at hu); (try obtain ⟨hu1, hu2, hu3, hu4⟩ := hu); go_simp <;> (first | rfl | omega)⟩) (by assumption) ?_
              try simp only [Act.put, List.setIfInBounds_toArray, List.set_cons_zero, List.set_cons_succ]
              refine takeH_to (i := 5) (v := .int .u8 6) (some 60) rfl rfl (by kernel_rfl) (by kernel_rfl) (by kernel_rfl) (fun _ _ _ h => h) (Or.inl ⟨by rfl, fun u hu => by (try dsimp only at hu); (try obtain ⟨hu1, hu2, hu3, hu4⟩ := hu); go_simp <;> (first | rfl | omega)⟩) (by assumption) ?_
              try simp only [Act.put, List.setIfInBounds_toArray, List.set_cons_zero, List.set_cons_succ]
              refine takeH_to (i := 6) (v := .int .u8 0) (some 61) rfl rfl (by kernel_rfl) (by kernel_rfl) (by kernel_rfl) (fun _ _ _ h => h) (Or.inl ⟨by rfl, fun u hu => by (try dsimp only at hu); (try obtain ⟨hu1, hu2, hu3, hu4⟩ := hu); go_simp <;> (first | rfl | omega)⟩) (by assumption) ?_
              try simp only [Act.put, List.setIfInBounds_toArray, List.set_cons_zero, List.set_cons_succ]
              refine takeH_to (i := 9) (v := .pointer (some ⟨wr.heap.size, 2, none⟩)) (some 64) rfl rfl (by kernel_rfl) (by kernel_rfl) (by kernel_rfl) (fun _ _ _ h => h) (Or.inl ⟨by rfl, fun u hu => by (try dsimp only at hu); (try obtain ⟨hu1, hu2, hu3, hu4⟩ := hu); go_simp <;> (first | rfl | omega)⟩) (by assumption) ?_
              try simp only [Act.put, List.setIfInBounds_toArray, List.set_cons_zero, List.set_cons_succ]
              refine takeH_to (i := 10) (v := .int .i64 x.n) (some 65) rfl rfl (by kernel_rfl) (by kernel_rfl) (by kernel_rfl) (fun _ _ _ h => h) (Or.inl ⟨by rfl, fun u hu => by (try dsimp only at hu); (try obtain ⟨hu1, hu2, hu3, hu4⟩ := hu); go_simp <;> (first | rfl | omega)⟩) (by assumption) ?_
              try simp only [Act.put, List.setIfInBounds_toArray, List.set_cons_zero, List.set_cons_succ]
              refine takeH_to (i := 11) (v := .pointer (some ⟨wr.heap.size, 3, none⟩)) (some 66) rfl rfl (by kernel_rfl) (by kernel_rfl) (by kernel_rfl) (fun _ _ _ h => h) (Or.inl ⟨by rfl, fun u hu => by (try dsimp only at hu); (try obtain ⟨hu1, hu2, hu3, hu4⟩ := hu); go_simp <;> (first | rfl | omega)⟩) (by assumption) ?_
              try simp only [Act.put, List.setIfInBounds_toArray, List.set_cons_zero, List.set_cons_succ]
              refine takeH_to (i := 12) (v := .int .i64 x.m) (some 67) rfl rfl (by kernel_rfl) (by kernel_rfl) (by kernel_rfl) (fun _ _ _ h => h) (Or.inl ⟨by rfl, fun u hu => by (try dsimp only at hu); (try obtain ⟨hu1, hu2, hu3, hu4⟩ := hu); go_simp <;> (first | rfl | omega)⟩) (by assumption) ?_
              try simp only [Act.put, List.setIfInBounds_toArray, List.set_cons_zero, List.set_cons_succ]
              refine takeH_to (i := 13) (v := .pointer (some ⟨wr.heap.size, 4, none⟩)) (some 68) rfl rfl (by kernel_rfl) (by kernel_rfl) (by kernel_rfl) (fun _ _ _ h => h) (Or.inl ⟨by rfl, fun u hu => by (try dsimp only at hu); (try obtain ⟨hu1, hu2, hu3, hu4⟩ := hu); go_simp <;> (first | rfl | omega)⟩) (by assumption) ?_
              try simp only [Act.put, List.setIfInBounds_toArray, List.set_cons_zero, List.set_cons_succ]
              refine takeH_to (i := 14) (v := .int .i64 x.by_) (some 69) rfl rfl (by kernel_rfl) (by kernel_rfl) (by kernel_rfl) (fun _ _ _ h => h) (Or.inl ⟨by rfl, fun u hu => by (try dsimp only at hu); (try obtain ⟨hu1, hu2, hu3, hu4⟩ := hu); go_simp <;> (first | rfl | omega)⟩) (by assumption) ?_
              try simp only [Act.put, List.setIfInBounds_toArray, List.set_cons_zero, List.set_cons_succ]
              refine wpAnyH_ready (rs := [2]) (by kernel_rfl) (by simp) ?_
              refine AllReadyH.cons rfl (fun K hK => ?_) AllReadyH.nil
              rw [if_pos (by rfl)]
              go_simp
              refine hK.out _ _ (CZ.out _ bb) (fun hHeld => ?_)
              clear hK K
              try simp only [Act.put, List.setIfInBounds_toArray, List.set_cons_zero, List.set_cons_succ]
              refine takeH_to (i := 7) (v := .pointer (some ⟨wr.heap.size + 1, 0, none⟩)) (some 62) rfl rfl (by kernel_rfl) (by kernel_rfl) (by kernel_rfl) (fun _ _ _ h => h) (Or.inl ⟨by rfl, fun u hu => by (try dsimp only at hu); (try obtain ⟨hu1, hu2, hu3, hu4⟩ := hu); go_simp <;> (first | rfl | omega)⟩) (by assumption) ?_
              try simp only [Act.put, List.setIfInBounds_toArray, List.set_cons_zero, List.set_cons_succ]
              refine wpAnyH_ready (rs := [8]) (by kernel_rfl) (by simp) ?_
              refine AllReadyH.cons rfl (fun K hK => ?_) AllReadyH.nil
              rw [if_pos (by rfl)]
              go_simp
              refine hK.out _ _ (CZ.out _ bb) (fun hHeld => ?_)
              clear hK K
              try simp only [Act.put, List.setIfInBounds_toArray, List.set_cons_zero, List.set_cons_succ]
              refine takeH_to (i := 15) (v := .agg #[.int .u8 7, .string ⟨#[]⟩, .string ⟨#[]⟩, .int .i64 x.n, .int .i64 x.m, .int .i64 x.by_]) (some 70) rfl rfl (by kernel_rfl) (by kernel_rfl) (by kernel_rfl) (fun _ _ _ h => h) (Or.inl ⟨by rfl, fun u hu => by (try dsimp only at hu); (try obtain ⟨hu1, hu2, hu3, hu4⟩ := hu); go_simp <;> (first | rfl | omega)⟩) (by assumption) ?_
              try simp only [Act.put, List.setIfInBounds_toArray, List.set_cons_zero, List.set_cons_succ]
              refine wpAnyH_ready (rs := [16]) (by kernel_rfl) (by simp) ?_
              refine AllReadyH.cons rfl (fun K hK => ?_) AllReadyH.nil
              rw [if_pos (by rfl)]
              go_simp
              go_at_call 20
              refine (DO.out _ TZ.out.td.both (by have := TZ.out.td.cnt; omega)).mono ?_
              rintro e w5 ⟨rfl, hD⟩
              obtain ⟨d5, r5, T5⟩ := TZ.out.deed hD (rfl)
              have C5 : w5.cell? ⟨wr.heap.size, 0, none⟩ = some (.int .u8 x.kind) ∧ w5.cell? ⟨wr.heap.size, 2, none⟩ = some (.int .i64 x.n) ∧ w5.cell? ⟨wr.heap.size, 3, none⟩ = some (.int .i64 x.m) ∧ w5.cell? ⟨wr.heap.size, 4, none⟩ = some (.int .i64 x.by_) := by
                obtain ⟨_, _, _, _, _, st⟩ := hD
                have hS : SdAt ((wr.alloc (.cells x.cells 38)).drew.alloc (.cells #[.int .u8 7, .int .u8 9, .int .u8 8] 5)) wr.heap.size x := (bb.block _ SA.out.lt).trans SA.out
                obtain ⟨y0, y1, y2, y3, y4⟩ := (hS.step st (fun hm => by
                  rcases List.mem_append.1 hm with e | e
                  · exact NF.out e
                  · exact NR.out e)).1.cells
                exact ⟨y0, y2, y3, y4⟩
              have T6 := asd T5
              clear hD T5
              go_simp
              refine hK.out _ _ C5 (fun hHeld => ?_)
              clear hK K
              try simp only [Act.put, List.setIfInBounds_toArray, List.set_cons_zero, List.set_cons_succ]
              refine takeH_to (i := 17) (v := .bool true) (some 17) rfl rfl (by kernel_rfl) (by kernel_rfl) (by kernel_rfl) (fun _ _ _ h => h) (Or.inl ⟨by rfl, fun u hu => by (try dsimp only at hu); (try obtain ⟨hu1, hu2, hu3, hu4⟩ := hu); go_simp <;> (first | rfl | omega)⟩) (by assumption) ?_
              try simp only [Act.put, List.setIfInBounds_toArray, List.set_cons_zero, List.set_cons_succ]
              refine wpAnyH_done (by kernel_rfl) ?_ _
              go_wp2_with fail
              go_meet
              exact ⟨rfl, .inr ⟨l, y, d5, r5, rfl, rfl, T6.out⟩⟩
          · as_aux_lemma =>
              have qT : x.kind.tmod 9 = 7 := by rw [Int.tmod_eq_emod_of_nonneg hk0]; exact hq
              go_wp2
              have bD : Below (wr.alloc (.cells x.cells 38)).heap.size (wr.alloc (.cells x.cells 38)) (wr.alloc (.cells x.cells 38)).drew := ⟨rfl, rfl, rfl, Nat.le_refl _, fun _ _ => rfl⟩
              have bZ : Below (wr.alloc (.cells x.cells 38)).drew.heap.size (wr.alloc (.cells x.cells 38)).drew ((wr.alloc (.cells x.cells 38)).drew.alloc (.cells #[.int .u8 7, .int .u8 9, .int .u8 8] 5)) := (Below.refl _ _).alloc (Nat.le_refl _) _
              have bb : Below (wr.alloc (.cells x.cells 38)).heap.size (wr.alloc (.cells x.cells 38)) ((wr.alloc (.cells x.cells 38)).drew.alloc (.cells #[.int .u8 7, .int .u8 9, .int .u8 8] 5)) := bD.trans (bZ.mono bD.size)
              have TZ := asd (TA.out.later bb)
              have CZ : Aside (∀ u : World, Below (wr.alloc (.cells x.cells 38)).heap.size (wr.alloc (.cells x.cells 38)) u → u.cell? ⟨wr.heap.size, 0, none⟩ = some (.int .u8 x.kind) ∧ u.cell? ⟨wr.heap.size, 2, none⟩ = some (.int .i64 x.n) ∧ u.cell? ⟨wr.heap.size, 3, none⟩ = some (.int .i64 x.m) ∧ u.cell? ⟨wr.heap.size, 4, none⟩ = some (.int .i64 x.by_)) := fun u hu => by
                obtain ⟨y0, y1, y2, y3, y4⟩ := (SdAt.cells (x := x) ((hu.block _ SA.out.lt).trans SA.out))
                exact ⟨y0, y2, y3, y4⟩
              have DO := asd (fun (u : World) (hB : Dk.Both u B b c d r) (hc : r.count ≤ 100000) => Dk.do_fuse2 hB ⟨9, ⟨#[]⟩, ⟨#[]⟩, x.n, x.m, x.by_⟩ (show (9 : Int) % 10 = 9 by decide) (show (0 : Int) ≤ 9 by decide) (show (9 : Int) ≤ 255 by decide) hc (show (0 : Nat) ≤ 101 by decide) (show (0 : Nat) ≤ 101 by decide) FF.out.n)
              have cd := CZ.out _ bD
              refine wp_region_held_drew (S := (fun u => u.cell? ⟨wr.heap.size, 0, none⟩ = some (.int .u8 x.kind) ∧ u.cell? ⟨wr.heap.size, 2, none⟩ = some (.int .i64 x.n) ∧ u.cell? ⟨wr.heap.size, 3, none⟩ = some (.int .i64 x.m) ∧ u.cell? ⟨wr.heap.size, 4, none⟩ = some (.int .i64 x.by_))) (by kernel_rfl) cd (fun hHeld => ?_)
              change wpAnyH _ _ _ _ _ _ _ _ (World.drew _)
              refine takeH_to (i := 0) (v := .pointer (some ⟨b, 0, none⟩)) (some 55) rfl rfl (by kernel_rfl) (by kernel_rfl) (by kernel_rfl) (fun _ _ _ h => h) (Or.inl ⟨by rfl, fun u hu => by (try dsimp only at hu); (try obtain ⟨hu1, hu2, hu3, hu4⟩ := hu); go_simp <;> (first | rfl | omega)⟩) (by assumption) ?_
              try simp only [Act.put, List.setIfInBounds_toArray, List.set_cons_zero, List.set_cons_succ]
              refine takeH_to (i := 1) (v := .pointer (some ⟨c, 0, none⟩)) (some 56) rfl rfl (by kernel_rfl) (by kernel_rfl) (by kernel_rfl) (fun _ _ _ h => h) (Or.inl ⟨by rfl, fun u hu => by (try dsimp only at hu); (try obtain ⟨hu1, hu2, hu3, hu4⟩ := hu); go_simp <;> (first | rfl | omega)⟩) (by assumption) ?_
              try simp only [Act.put, List.setIfInBounds_toArray, List.set_cons_zero, List.set_cons_succ]
              refine takeH_to (i := 3) (v := .pointer (some ⟨wr.heap.size, 0, none⟩)) (some 58) rfl rfl (by kernel_rfl) (by kernel_rfl) (by kernel_rfl) (fun _ _ _ h => h) (Or.inl ⟨by rfl, fun u hu => by (try dsimp only at hu); (try obtain ⟨hu1, hu2, hu3, hu4⟩ := hu); go_simp <;> (first | rfl | omega)⟩) (by assumption) ?_
              try simp only [Act.put, List.setIfInBounds_toArray, List.set_cons_zero, List.set_cons_succ]
              refine takeH_to (i := 4) (v := .int .u8 x.kind) (some 59) rfl rfl (by kernel_rfl) (by kernel_rfl) (by kernel_rfl) (fun _ _ _ h => h) (Or.inl ⟨by rfl, fun u hu => by (try dsimp only at hu); (try obtain ⟨hu1, hu2, hu3, hu4⟩ := hu); go_simp <;> (first | rfl | omega)⟩) (by assumption) ?_
              try simp only [Act.put, List.setIfInBounds_toArray, List.set_cons_zero, List.set_cons_succ]
              refine takeH_to (i := 5) (v := .int .u8 7) (some 60) rfl rfl (by kernel_rfl) (by kernel_rfl) (by kernel_rfl) (fun _ _ _ h => h) (Or.inl ⟨by rfl, fun u hu => by (try dsimp only at hu); (try obtain ⟨hu1, hu2, hu3, hu4⟩ := hu); go_simp <;> (first | rfl | omega)⟩) (by assumption) ?_
              try simp only [Act.put, List.setIfInBounds_toArray, List.set_cons_zero, List.set_cons_succ]
              refine takeH_to (i := 6) (v := .int .u8 1) (some 61) rfl rfl (by kernel_rfl) (by kernel_rfl) (by kernel_rfl) (fun _ _ _ h => h) (Or.inl ⟨by rfl, fun u hu => by (try dsimp only at hu); (try obtain ⟨hu1, hu2, hu3, hu4⟩ := hu); go_simp <;> (first | rfl | omega)⟩) (by assumption) ?_
              try simp only [Act.put, List.setIfInBounds_toArray, List.set_cons_zero, List.set_cons_succ]
              refine takeH_to (i := 9) (v := .pointer (some ⟨wr.heap.size, 2, none⟩)) (some 64) rfl rfl (by kernel_rfl) (by kernel_rfl) (by kernel_rfl) (fun _ _ _ h => h) (Or.inl ⟨by rfl, fun u hu => by (try dsimp only at hu); (try obtain ⟨hu1, hu2, hu3, hu4⟩ := hu); go_simp <;> (first | rfl | omega)⟩) (by assumption) ?_
              try simp only [Act.put, List.setIfInBounds_toArray, List.set_cons_zero, List.set_cons_succ]
              refine takeH_to (i := 10) (v := .int .i64 x.n) (some 65) rfl rfl (by kernel_rfl) (by kernel_rfl) (by kernel_rfl) (fun _ _ _ h => h) (Or.inl ⟨by rfl, fun u hu => by (try dsimp only at hu); (try obtain ⟨hu1, hu2, hu3, hu4⟩ := hu); go_simp <;> (first | rfl | omega)⟩) (by assumption) ?_
              try simp only [Act.put, List.setIfInBounds_toArray, List.set_cons_zero, List.set_cons_succ]
              refine takeH_to (i := 11) (v := .pointer (some ⟨wr.heap.size, 3, none⟩)) (some 66) rfl rfl (by kernel_rfl) (by kernel_rfl) (by kernel_rfl) (fun _ _ _ h => h) (Or.inl ⟨by rfl, fun u hu => by (try dsimp only at hu); (try obtain ⟨hu1, hu2, hu3, hu4⟩ := hu); go_simp <;> (first | rfl | omega)⟩) (by assumption) ?_
              try simp only [Act.put, List.setIfInBounds_toArray, List.set_cons_zero, List.set_cons_succ]
              refine takeH_to (i := 12) (v := .int .i64 x.m) (some 67) rfl rfl (by kernel_rfl) (by kernel_rfl) (by kernel_rfl) (fun _ _ _ h => h) (Or.inl ⟨by rfl, fun u hu => by (try dsimp only at hu); (try obtain ⟨hu1, hu2, hu3, hu4⟩ := hu); go_simp <;> (first | rfl | omega)⟩) (by assumption) ?_
              try simp only [Act.put, List.setIfInBounds_toArray, List.set_cons_zero, List.set_cons_succ]
              refine takeH_to (i := 13) (v := .pointer (some ⟨wr.heap.size, 4, none⟩)) (some 68) rfl rfl (by kernel_rfl) (by kernel_rfl) (by kernel_rfl) (fun _ _ _ h => h) (Or.inl ⟨by rfl, fun u hu => by (try dsimp only at hu); (try obtain ⟨hu1, hu2, hu3, hu4⟩ := hu); go_simp <;> (first | rfl | omega)⟩) (by assumption) ?_
              try simp only [Act.put, List.setIfInBounds_toArray, List.set_cons_zero, List.set_cons_succ]
              refine takeH_to (i := 14) (v := .int .i64 x.by_) (some 69) rfl rfl (by kernel_rfl) (by kernel_rfl) (by kernel_rfl) (fun _ _ _ h => h) (Or.inl ⟨by rfl, fun u hu => by (try dsimp only at hu); (try obtain ⟨hu1, hu2, hu3, hu4⟩ := hu); go_simp <;> (first | rfl | omega)⟩) (by assumption) ?_
              try simp only [Act.put, List.setIfInBounds_toArray, List.set_cons_zero, List.set_cons_succ]
              refine wpAnyH_ready (rs := [2]) (by kernel_rfl) (by simp) ?_
              refine AllReadyH.cons rfl (fun K hK => ?_) AllReadyH.nil
              rw [if_pos (by rfl)]
              go_simp
              refine hK.out _ _ (CZ.out _ bb) (fun hHeld => ?_)
              clear hK K
              try simp only [Act.put, List.setIfInBounds_toArray, List.set_cons_zero, List.set_cons_succ]
              refine takeH_to (i := 7) (v := .pointer (some ⟨wr.heap.size + 1, 1, none⟩)) (some 62) rfl rfl (by kernel_rfl) (by kernel_rfl) (by kernel_rfl) (fun _ _ _ h => h) (Or.inl ⟨by rfl, fun u hu => by (try dsimp only at hu); (try obtain ⟨hu1, hu2, hu3, hu4⟩ := hu); go_simp <;> (first | rfl | omega)⟩) (by assumption) ?_
              try simp only [Act.put, List.setIfInBounds_toArray, List.set_cons_zero, List.set_cons_succ]
              refine wpAnyH_ready (rs := [8]) (by kernel_rfl) (by simp) ?_
              refine AllReadyH.cons rfl (fun K hK => ?_) AllReadyH.nil
              rw [if_pos (by rfl)]
              go_simp
              refine hK.out _ _ (CZ.out _ bb) (fun hHeld => ?_)
              clear hK K
              try simp only [Act.put, List.setIfInBounds_toArray, List.set_cons_zero, List.set_cons_succ]
              refine takeH_to (i := 15) (v := .agg #[.int .u8 9, .string ⟨#[]⟩, .string ⟨#[]⟩, .int .i64 x.n, .int .i64 x.m, .int .i64 x.by_]) (some 70) rfl rfl (by kernel_rfl) (by kernel_rfl) (by kernel_rfl) (fun _ _ _ h => h) (Or.inl ⟨by rfl, fun u hu => by (try dsimp only at hu); (try obtain ⟨hu1, hu2, hu3, hu4⟩ := hu); go_simp <;> (first | rfl | omega)⟩) (by assumption) ?_
              try simp only [Act.put, List.setIfInBounds_toArray, List.set_cons_zero, List.set_cons_succ]
              refine wpAnyH_ready (rs := [16]) (by kernel_rfl) (by simp) ?_
              refine AllReadyH.cons rfl (fun K hK => ?_) AllReadyH.nil
              rw [if_pos (by rfl)]
              go_simp
              go_at_call 20
              refine (DO.out _ TZ.out.td.both (by have := TZ.out.td.cnt; omega)).mono ?_
              rintro e w5 ⟨rfl, hD⟩
              obtain ⟨d5, r5, T5⟩ := TZ.out.deed hD (fuse_names _ _)
              have C5 : w5.cell? ⟨wr.heap.size, 0, none⟩ = some (.int .u8 x.kind) ∧ w5.cell? ⟨wr.heap.size, 2, none⟩ = some (.int .i64 x.n) ∧ w5.cell? ⟨wr.heap.size, 3, none⟩ = some (.int .i64 x.m) ∧ w5.cell? ⟨wr.heap.size, 4, none⟩ = some (.int .i64 x.by_) := by
                obtain ⟨_, _, _, _, _, st⟩ := hD
                have hS : SdAt ((wr.alloc (.cells x.cells 38)).drew.alloc (.cells #[.int .u8 7, .int .u8 9, .int .u8 8] 5)) wr.heap.size x := (bb.block _ SA.out.lt).trans SA.out
                obtain ⟨y0, y1, y2, y3, y4⟩ := (hS.step st (fun hm => by
                  rcases List.mem_append.1 hm with e | e
                  · exact NF.out e
                  · exact NR.out e)).1.cells
                exact ⟨y0, y2, y3, y4⟩
              have T6 := asd T5
              clear hD T5
              go_simp
              refine hK.out _ _ C5 (fun hHeld => ?_)
              clear hK K
              try simp only [Act.put, List.setIfInBounds_toArray, List.set_cons_zero, List.set_cons_succ]
              refine takeH_to (i := 17) (v := .bool true) (some 17) rfl rfl (by kernel_rfl) (by kernel_rfl) (by kernel_rfl) (fun _ _ _ h => h) (Or.inl ⟨by rfl, fun u hu => by (try dsimp only at hu); (try obtain ⟨hu1, hu2, hu3, hu4⟩ := hu); go_simp <;> (first | rfl | omega)⟩) (by assumption) ?_
              try simp only [Act.put, List.setIfInBounds_toArray, List.set_cons_zero, List.set_cons_succ]
              refine wpAnyH_done (by kernel_rfl) ?_ _
              go_wp2_with fail
              go_meet
              exact ⟨rfl, .inr ⟨l, y, d5, r5, rfl, rfl, T6.out⟩⟩
          · as_aux_lemma =>
              have qT : x.kind.tmod 9 = 8 := by rw [Int.tmod_eq_emod_of_nonneg hk0]; exact hq
              go_wp2
              have bD : Below (wr.alloc (.cells x.cells 38)).heap.size (wr.alloc (.cells x.cells 38)) (wr.alloc (.cells x.cells 38)).drew := ⟨rfl, rfl, rfl, Nat.le_refl _, fun _ _ => rfl⟩
              have bZ : Below (wr.alloc (.cells x.cells 38)).drew.heap.size (wr.alloc (.cells x.cells 38)).drew ((wr.alloc (.cells x.cells 38)).drew.alloc (.cells #[.int .u8 7, .int .u8 9, .int .u8 8] 5)) := (Below.refl _ _).alloc (Nat.le_refl _) _
              have bb : Below (wr.alloc (.cells x.cells 38)).heap.size (wr.alloc (.cells x.cells 38)) ((wr.alloc (.cells x.cells 38)).drew.alloc (.cells #[.int .u8 7, .int .u8 9, .int .u8 8] 5)) := bD.trans (bZ.mono bD.size)
              have TZ := asd (TA.out.later bb)
              have CZ : Aside (∀ u : World, Below (wr.alloc (.cells x.cells 38)).heap.size (wr.alloc (.cells x.cells 38)) u → u.cell? ⟨wr.heap.size, 0, none⟩ = some (.int .u8 x.kind) ∧ u.cell? ⟨wr.heap.size, 2, none⟩ = some (.int .i64 x.n) ∧ u.cell? ⟨wr.heap.size, 3, none⟩ = some (.int .i64 x.m) ∧ u.cell? ⟨wr.heap.size, 4, none⟩ = some (.int .i64 x.by_)) := fun u hu => by
                obtain ⟨y0, y1, y2, y3, y4⟩ := (SdAt.cells (x := x) ((hu.block _ SA.out.lt).trans SA.out))
                exact ⟨y0, y2, y3, y4⟩
              have DO := asd (fun (u : World) (hB : Dk.Both u B b c d r) (hc : r.count ≤ 100000) => Dk.do_rot2 hB ⟨8, ⟨#[]⟩, ⟨#[]⟩, x.n, x.m, x.by_⟩ (show (8 : Int) % 10 = 8 by decide) (show (0 : Int) ≤ 8 by decide) (show (8 : Int) ≤ 255 by decide) hc (show (0 : Nat) ≤ 101 by decide) (show (0 : Nat) ≤ 101 by decide) FF.out.n)
              have cd := CZ.out _ bD
              refine wp_region_held_drew (S := (fun u => u.cell? ⟨wr.heap.size, 0, none⟩ = some (.int .u8 x.kind) ∧ u.cell? ⟨wr.heap.size, 2, none⟩ = some (.int .i64 x.n) ∧ u.cell? ⟨wr.heap.size, 3, none⟩ = some (.int .i64 x.m) ∧ u.cell? ⟨wr.heap.size, 4, none⟩ = some (.int .i64 x.by_))) (by kernel_rfl) cd (fun hHeld => ?_)
              change wpAnyH _ _ _ _ _ _ _ _ (World.drew _)
              refine takeH_to (i := 0) (v := .pointer (some ⟨b, 0, none⟩)) (some 55) rfl rfl (by kernel_rfl) (by kernel_rfl) (by kernel_rfl) (fun _ _ _ h => h) (Or.inl ⟨by rfl, fun u hu => by (try dsimp only at hu); (try obtain ⟨hu1, hu2, hu3, hu4⟩ := hu); go_simp <;> (first | rfl | omega)⟩) (by assumption) ?_
              try simp only [Act.put, List.setIfInBounds_toArray, List.set_cons_zero, List.set_cons_succ]
              refine takeH_to (i := 1) (v := .pointer (some ⟨c, 0, none⟩)) (some 56) rfl rfl (by kernel_rfl) (by kernel_rfl) (by kernel_rfl) (fun _ _ _ h => h) (Or.inl ⟨by rfl, fun u hu => by (try dsimp only at hu); (try obtain ⟨hu1, hu2, hu3, hu4⟩ := hu); go_simp <;> (first | rfl | omega)⟩) (by assumption) ?_
              try simp only [Act.put, List.setIfInBounds_toArray, List.set_cons_zero, List.set_cons_succ]
              refine takeH_to (i := 3) (v := .pointer (some ⟨wr.heap.size, 0, none⟩)) (some 58) rfl rfl (by kernel_rfl) (by kernel_rfl) (by kernel_rfl) (fun _ _ _ h => h) (Or.inl ⟨by rfl, fun u hu => by (try dsimp only at hu); (try obtain ⟨hu1, hu2, hu3, hu4⟩ := hu); go_simp <;> (first | rfl | omega)⟩) (by assumption) ?_
              try simp only [Act.put, List.setIfInBounds_toArray, List.set_cons_zero, List.set_cons_succ]
              refine takeH_to (i := 4) (v := .int .u8 x.kind) (some 59) rfl rfl (by kernel_rfl) (by kernel_rfl) (by kernel_rfl) (fun _ _ _ h => h) (Or.inl ⟨by rfl, fun u hu => by (try dsimp only at hu); (try obtain ⟨hu1, hu2, hu3, hu4⟩ := hu); go_simp <;> (first | rfl | omega)⟩) (by assumption) ?_
              try simp only [Act.put, List.setIfInBounds_toArray, List.set_cons_zero, List.set_cons_succ]
              refine takeH_to (i := 5) (v := .int .u8 8) (some 60) rfl rfl (by kernel_rfl) (by kernel_rfl) (by kernel_rfl) (fun _ _ _ h => h) (Or.inl ⟨by rfl, fun u hu => by (try dsimp only at hu); (try obtain ⟨hu1, hu2, hu3, hu4⟩ := hu); go_simp <;> (first | rfl | omega)⟩) (by assumption) ?_
              try simp only [Act.put, List.setIfInBounds_toArray, List.set_cons_zero, List.set_cons_succ]
              refine takeH_to (i := 6) (v := .int .u8 2) (some 61) rfl rfl (by kernel_rfl) (by kernel_rfl) (by kernel_rfl) (fun _ _ _ h => h) (Or.inl ⟨by rfl, fun u hu => by (try dsimp only at hu); (try obtain ⟨hu1, hu2, hu3, hu4⟩ := hu); go_simp <;> (first | rfl | omega)⟩) (by assumption) ?_
              try simp only [Act.put, List.setIfInBounds_toArray, List.set_cons_zero, List.set_cons_succ]
              refine takeH_to (i := 9) (v := .pointer (some ⟨wr.heap.size, 2, none⟩)) (some 64) rfl rfl (by kernel_rfl) (by kernel_rfl) (by kernel_rfl) (fun _ _ _ h => h) (Or.inl ⟨by rfl, fun u hu => by (try dsimp only at hu); (try obtain ⟨hu1, hu2, hu3, hu4⟩ := hu); go_simp <;> (first | rfl | omega)⟩) (by assumption) ?_
              try simp only [Act.put, List.setIfInBounds_toArray, List.set_cons_zero, List.set_cons_succ]
              refine takeH_to (i := 10) (v := .int .i64 x.n) (some 65) rfl rfl (by kernel_rfl) (by kernel_rfl) (by kernel_rfl) (fun _ _ _ h => h) (Or.inl ⟨by rfl, fun u hu => by (try dsimp only at hu); (try obtain ⟨hu1, hu2, hu3, hu4⟩ := hu); go_simp <;> (first | rfl | omega)⟩) (by assumption) ?_
              try simp only [Act.put, List.setIfInBounds_toArray, List.set_cons_zero, List.set_cons_succ]
              refine takeH_to (i := 11) (v := .pointer (some ⟨wr.heap.size, 3, none⟩)) (some 66) rfl rfl (by kernel_rfl) (by kernel_rfl) (by kernel_rfl) (fun _ _ _ h => h) (Or.inl ⟨by rfl, fun u hu => by (try dsimp only at hu); (try obtain ⟨hu1, hu2, hu3, hu4⟩ := hu); go_simp <;> (first | rfl | omega)⟩) (by assumption) ?_
              try simp only [Act.put, List.setIfInBounds_toArray, List.set_cons_zero, List.set_cons_succ]
              refine takeH_to (i := 12) (v := .int .i64 x.m) (some 67) rfl rfl (by kernel_rfl) (by kernel_rfl) (by kernel_rfl) (fun _ _ _ h => h) (Or.inl ⟨by rfl, fun u hu => by (try dsimp only at hu); (try obtain ⟨hu1, hu2, hu3, hu4⟩ := hu); go_simp <;> (first | rfl | omega)⟩) (by assumption) ?_
              try simp only [Act.put, List.setIfInBounds_toArray, List.set_cons_zero, List.set_cons_succ]
              refine takeH_to (i := 13) (v := .pointer (some ⟨wr.heap.size, 4, none⟩)) (some 68) rfl rfl (by kernel_rfl) (by kernel_rfl) (by kernel_rfl) (fun _ _ _ h => h) (Or.inl ⟨by rfl, fun u hu => by (try dsimp only at hu); (try obtain ⟨hu1, hu2, hu3, hu4⟩ := hu); go_simp <;> (first | rfl | omega)⟩) (by assumption) ?_
              try simp only [Act.put, List.setIfInBounds_toArray, List.set_cons_zero, List.set_cons_succ]
              refine takeH_to (i := 14) (v := .int .i64 x.by_) (some 69) rfl rfl (by kernel_rfl) (by kernel_rfl) (by kernel_rfl) (fun _ _ _ h => h) (Or.inl ⟨by rfl, fun u hu => by (try dsimp only at hu); (try obtain ⟨hu1, hu2, hu3, hu4⟩ := hu); go_simp <;> (first | rfl | omega)⟩) (by assumption) ?_
              try simp only [Act.put, List.setIfInBounds_toArray, List.set_cons_zero, List.set_cons_succ]
              refine wpAnyH_ready (rs := [2]) (by kernel_rfl) (by simp) ?_
              refine AllReadyH.cons rfl (fun K hK => ?_) AllReadyH.nil
              rw [if_pos (by rfl)]
              go_simp
              refine hK.out _ _ (CZ.out _ bb) (fun hHeld => ?_)
              clear hK K
              try simp only [Act.put, List.setIfInBounds_toArray, List.set_cons_zero, List.set_cons_succ]
              refine takeH_to (i := 7) (v := .pointer (some ⟨wr.heap.size + 1, 2, none⟩)) (some 62) rfl rfl (by kernel_rfl) (by kernel_rfl) (by kernel_rfl) (fun _ _ _ h => h) (Or.inl ⟨by rfl, fun u hu => by (try dsimp only at hu); (try obtain ⟨hu1, hu2, hu3, hu4⟩ := hu); go_simp <;> (first | rfl | omega)⟩) (by assumption) ?_
              try simp only [Act.put, List.setIfInBounds_toArray, List.set_cons_zero, List.set_cons_succ]
              refine wpAnyH_ready (rs := [8]) (by kernel_rfl) (by simp) ?_
              refine AllReadyH.cons rfl (fun K hK => ?_) AllReadyH.nil
              rw [if_pos (by rfl)]
              go_simp
              refine hK.out _ _ (CZ.out _ bb) (fun hHeld => ?_)
              clear hK K
              try simp only [Act.put, List.setIfInBounds_toArray, List.set_cons_zero, List.set_cons_succ]
              refine takeH_to (i := 15) (v := .agg #[.int .u8 8, .string ⟨#[]⟩, .string ⟨#[]⟩, .int .i64 x.n, .int .i64 x.m, .int .i64 x.by_]) (some 70) rfl rfl (by kernel_rfl) (by kernel_rfl) (by kernel_rfl) (fun _ _ _ h => h) (Or.inl ⟨by rfl, fun u hu => by (try dsimp only at hu); (try obtain ⟨hu1, hu2, hu3, hu4⟩ := hu); go_simp <;> (first | rfl | omega)⟩) (by assumption) ?_
              try simp only [Act.put, List.setIfInBounds_toArray, List.set_cons_zero, List.set_cons_succ]
              refine wpAnyH_ready (rs := [16]) (by kernel_rfl) (by simp) ?_
              refine AllReadyH.cons rfl (fun K hK => ?_) AllReadyH.nil
              rw [if_pos (by rfl)]
              go_simp
              go_at_call 20
              refine (DO.out _ TZ.out.td.both (by have := TZ.out.td.cnt; omega)).mono ?_
              rintro e w5 ⟨rfl, hD⟩
              obtain ⟨d5, r5, T5⟩ := TZ.out.deed hD (rot_names _ _ _ _)
              have C5 : w5.cell? ⟨wr.heap.size, 0, none⟩ = some (.int .u8 x.kind) ∧ w5.cell? ⟨wr.heap.size, 2, none⟩ = some (.int .i64 x.n) ∧ w5.cell? ⟨wr.heap.size, 3, none⟩ = some (.int .i64 x.m) ∧ w5.cell? ⟨wr.heap.size, 4, none⟩ = some (.int .i64 x.by_) := by
                obtain ⟨_, _, _, _, _, st⟩ := hD
                have hS : SdAt ((wr.alloc (.cells x.cells 38)).drew.alloc (.cells #[.int .u8 7, .int .u8 9, .int .u8 8] 5)) wr.heap.size x := (bb.block _ SA.out.lt).trans SA.out
                obtain ⟨y0, y1, y2, y3, y4⟩ := (hS.step st (fun hm => by
                  rcases List.mem_append.1 hm with e | e
                  · exact NF.out e
                  · exact NR.out e)).1.cells
                exact ⟨y0, y2, y3, y4⟩
              have T6 := asd T5
              clear hD T5
              go_simp
              refine hK.out _ _ C5 (fun hHeld => ?_)
              clear hK K
              try simp only [Act.put, List.setIfInBounds_toArray, List.set_cons_zero, List.set_cons_succ]
              refine takeH_to (i := 17) (v := .bool true) (some 17) rfl rfl (by kernel_rfl) (by kernel_rfl) (by kernel_rfl) (fun _ _ _ h => h) (Or.inl ⟨by rfl, fun u hu => by (try dsimp only at hu); (try obtain ⟨hu1, hu2, hu3, hu4⟩ := hu); go_simp <;> (first | rfl | omega)⟩) (by assumption) ?_
              try simp only [Act.put, List.setIfInBounds_toArray, List.set_cons_zero, List.set_cons_succ]
              refine wpAnyH_done (by kernel_rfl) ?_ _
              go_wp2_with fail
              go_meet
              exact ⟨rfl, .inr ⟨l, y, d5, r5, rfl, rfl, T6.out⟩⟩
      case rest =>
      obtain ⟨rfl, R2⟩ := hcut
      clear R SA FF hk0 hk1 hxs c0 c1 c2 c3 c4
      rcases R2.out with ⟨e1, e2, d, r, T⟩ | ⟨l, y, d, r, e1, e2, T⟩
      · subst e1 e2
        have TT := asd T
        clear T R2
        go_wp2_with (first
          | (go_at_call 21; refine (Dk.same_any TT.out.both (by have := TT.out.cnt; omega)).mono ?_; rintro e w4 ⟨rfl, b4⟩; have T4 := asd (TT.out.later b4); clear b4)
          | (go_at_call 22; refine (first_nil _).mono ?_; rintro e w5 ⟨rfl, rfl⟩)
          | (go_at_call 23; refine (last_nil' _).mono ?_; rintro e w6 ⟨rfl, rfl⟩)
          | (go_at_call 24; refine (bytes_nil _).mono ?_; rintro e w7 ⟨rfl, rfl⟩))
        go_roundg (n - (k + 1))
        case measure => omega
        case rel => exact ⟨k + 1, Nat.le_refl _, by omega, by go_num, .inl ⟨rfl, rfl, d, r, T4.out⟩⟩
      · subst e1 e2
        have TT := asd T
        have hsz := lsize_eq T.td.both.ok T.f1 T.f2 T.row
        have hbd := llast_bd d.pl T.f1 T.f2
        have KS := asd (fun (u : World) (hu : TL W B b c f (wi lim) l y (k + 1) d r u) => rlsize_any hu.td.rb (by have := hu.td.cnt; omega) hu.lr hu.f1 hbd.2.1)
        have KB := asd (fun (u : World) (hu : TL W B b c f (wi lim) l y (k + 1) d r u) => lbytes_any hu.sys)
        have KL := asd (fun (u : World) (hu : TL W B b c f (wi lim) l y (k + 1) d r u) => llast_any hu.sys)
        have KF := asd (fun (u : World) (hu : TL W B b c f (wi lim) l y (k + 1) d r u) => first_any hu.sys)
        have CY := asd (fun (u : World) (hu : TL W B b c f (wi lim) l y (k + 1) d r u) => hu.lr.cells)
        rw [hsz] at KS
        clear T R2 hsz hbd
        go_wp2_with (go_at_call 21; refine (Dk.same_any TT.out.td.both (by have := TT.out.td.cnt; omega)).mono ?_; rintro e w4 ⟨rfl, b4⟩; have T4 := asd (TT.out.later b4); clear b4)
        have bD : Below w4.heap.size w4 w4.drew := ⟨rfl, rfl, rfl, Nat.le_refl _, fun _ _ => rfl⟩
        have T5 := asd (T4.out.later bD)
        generalize lLast d.pl f = LA at *
        generalize lBytes d.pl f = BY at *
        have q1 : (f != f) = false := by unfold bne; rw [beq_self_eq_true]; rfl
        have q2 : (LA != LA) = false := by unfold bne; rw [beq_self_eq_true]; rfl
        have q3' : ((BY : Int) != (BY : Int)) = false := by unfold bne; rw [beq_self_eq_true]; rfl
        obtain ⟨y0, y1, y2, y3⟩ := CY.out _ T5.out
        go_region_held3 (fun u => u.cell? ⟨y, 1, none⟩ = some (.int .i64 f) ∧ u.cell? ⟨y, 2, none⟩ = some (.int .i64 LA)) (go_keep) ((first
          | (go_at_call 22; refine (KF.out _ T5.out).mono ?_; rintro e w5 ⟨rfl, rfl⟩)
          | (go_at_call 23; refine (KL.out _ T5.out).mono ?_; rintro e w6 ⟨rfl, b6⟩; have T6 := asd (T5.out.later b6); obtain ⟨x0, x1, x2, x3⟩ := CY.out _ T6.out; clear b6)
          | (go_at_call 24; refine (KB.out _ T6.out).mono ?_; rintro e w7 ⟨rfl, b7⟩; have T7 := asd (T6.out.later b7); obtain ⟨v0, v1, v2, v3⟩ := CY.out _ T7.out; clear b7)
          | (go_at_call 25; refine (KS.out _ T7.out).mono ?_; rintro e w8 ⟨rfl, b8⟩; have T8 := asd (T7.out.later b8); obtain ⟨t0, t1, t2, t3⟩ := CY.out _ T8.out; clear b8)))
        go_wp2
        go_roundg (n - (k + 1))
        case measure => omega
        case rel => exact ⟨k + 1, Nat.le_refl _, by omega, by go_num, .inr ⟨l, y, d, r, rfl, rfl, T8.out⟩⟩
    · obtain rfl : k = n := by omega
      have q3 : decide (k < k) = false := by simp
      have BB := asd BE
      clear R BE
      go_wp2
      go_ret
      exact ⟨rfl, BB.out⟩
theorem runs_any (W : World) (hV : Vars W) (ad : Option Addr) (n cap : Nat) (X : Nat → Sd) (f lim : Int) (h : Sds W ad n X) :
    Calls Tryz.prog 3 #[.int .i64 f, .int .i64 lim, .slice ad n cap] W fun e w' => e = .returned (.bool true) ∧ Below W.heap.size W w' := by
  cases hsm : smallOf n X with
  | true => exact runs_big W hV ad n cap X f lim h hsm
  | false =>
    have k0 := awake_any W hV
    have K1 : Aside (∀ u, Below W.heap.size W u → Calls Tryz.prog 8 #[.slice ad n cap] u fun e w' => e = .returned (.bool false) ∧ Below u.heap.size u w') := fun u hu => by
      have := small_any ad n cap X u (h.below hu)
      rwa [hsm] at this
    clear h hsm
    go_enter Tryz.func3, Tryz.ntmps3
    go_wp2_with (first
      | (go_at_call 7; refine k0.mono ?_; rintro e w1 ⟨rfl, hb1⟩)
      | (go_at_call 8; refine (K1.out _ hb1).mono ?_; rintro e w2 ⟨rfl, hb2⟩))
    go_ret
    exact ⟨rfl, hb1.trans (hb2.mono hb1.size)⟩
end Go.Proofs.YtajjcfacbnicnaaGreatDoor
