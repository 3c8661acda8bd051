/-
  YtajjcfacbnicnaaGreatDoor: the texts C13, C14, one behind the other.
-/
import Derived.Test.YtajjcfacbnicnaaGreatDoorV37
import Derived.Deep.RegionHeld3
import Derived.Deep.DeepCutAuto
import Derived.SliceStrings
import Derived.ProofKit
import Derived.OpenShut
import Derived.WalkKit
import Derived.WalkSpells
import Derived.WalkLawsBesides
import Derived.Deep.LoopGhost
import Derived.Laws.Externs
import Derived.Below
import Derived.BigQuiet
import Derived.Deep.RegionWith
import Derived.OwnWalk
import Derived.Maps.AppendAt
import Derived.WalkSmall
/-
  SeglogAny's walk.
-/
namespace Go.Proofs.YtajjcfacbnicnaaGreatDoor
open Go.RowKit
set_option maxRecDepth 100000
open Fm (cellsS)
theorem cells3of : Tryz.prog.cellsOf 3 = 1 := by kernel_rfl
theorem add_plain' (b o j : Nat) : (⟨b, o, none⟩ : Addr).add j = ⟨b, o + j, none⟩ := by
  unfold Addr.add
  split <;> simp_all
/-- A slice of numbers that came in. -/
def Numz (w : World) (ad : Option Addr) (n : Nat) (z : Nat → Int) : Prop := ∀ i, i < n → ∃ g o, ad = some ⟨g, o, none⟩ ∧ g < w.heap.size ∧ w.cell? ⟨g, o + i, none⟩ = some (.int .i64 (z i))
open Go.ChangeShapes Go.WideShapes Go.ChangeAt in
theorem open_nums {H : Type} {enc : TypeId × Value → H} {W : World} {ad : Option Addr} {n cap : Nat} {d : DataW H} {p : List MemPlace} (h : DataW.Trod enc Tryz.prog W 0 (fun _ => true) true 60 (.slice ad n cap) d p) : ∃ z, Numz W ad n z := by
  obtain ⟨fuel, hf⟩ := h
  rcases open_ints Tryz.underlying60 Tryz.underlying3 cells3of hf with ⟨hcs, _⟩ | ⟨a, len, cap', ss, hcs, _, hl, _, hlen, _, hcell, _⟩
  · simp [Value.cells] at hcs
    obtain ⟨rfl, rfl, rfl⟩ := hcs
    exact ⟨fun _ => 0, fun i hi => by omega⟩
  · simp [Value.cells] at hcs
    obtain ⟨rfl, rfl, rfl⟩ := hcs
    simp only [if_true] at hlen
    rcases Nat.eq_zero_or_pos n with h0 | hp
    · subst h0
      exact ⟨fun _ => 0, fun i hi => by omega⟩
    · obtain ⟨b, o, spot⟩ := a
      have h00 := hcell 0 (by omega)
      have hspot : spot = none := by simpa [Addr.add] using World.cell?_spot h00
      subst hspot
      rw [add_plain'] at h00
      refine ⟨fun i => ss.getD i 0, fun j hj => ⟨b, o, rfl, World.block_lt_of_cell? W _ h00, ?_⟩⟩
      have hc := hcell j (by omega)
      rw [add_plain'] at hc
      exact hc
theorem dapp_any {w : World} {B b : Nat} {d : Dk.Ds} (h : Dsk B b d w) (k : Int) (x : ByteArray) :
    Calls Tryz.prog 33 #[.pointer (some ⟨b, 0, none⟩), .string (nmL k), .string x] w fun e w' => ∃ E d', e = .returned (.int .i64 E) ∧ Dsk B b d' w' ∧ d'.pl = (Dk.opAppend d.pl (nmL k) x).2 ∧ Dk.Step (d.foot b) (d'.foot b) w w' := by
  refine (Dk.append_any h.rep h.ok (nmL k) x).mono ?_
  rintro e w' ⟨h1, d', r, p, s⟩
  exact ⟨_, d', h1, h.step r (by rw [p]; exact h.ok.opAppend _ _) (app_sz h.sz p) s, p, s⟩
theorem rapp_any {w : World} {B c : Nat} {d : Dk.Ds} {r : Dk.Rs} (h : Rb w B c d r) (hc : r.count ≤ 900000) (k : Int) (x : ByteArray) (hx : x.size ≤ 300) :
    Calls Tryz.prog 34 #[.pointer (some ⟨c, 0, none⟩), .string (nmL k), .string x] w fun e w' => ∃ E r', e = .returned (.int .i64 E) ∧ Dk.RRep w' B c r' ∧ (∃ T, Dk.Rel (Dk.opAppend d.pl (nmL k) x).2 r'.pl T) ∧ r'.count ≤ r.count + 310 ∧ Dk.Step (r.foot c) (r'.foot c) w w' := by
  refine (rb_append h hc (nmL k) x (by have := nmL_size k; omega) (by omega)).mono ?_
  rintro e w' ⟨h1, r', h2, h3, h4, h5⟩
  exact ⟨_, r', h1, h2, h3, by omega, h5⟩
theorem TR.same {W : World} {B b c : Nat} {f m : Int} {N : Nat} {vx vy : Value} {u : World} (h : TR W B b c f m N vx vy u) (hN : 310 * N ≤ 100000) :
    Calls Tryz.prog 21 #[.pointer (some ⟨b, 0, none⟩), .pointer (some ⟨c, 0, none⟩)] u fun e w' => e = .returned (.bool true) ∧ TR W B b c f m N vx vy w' := by
  rcases h with ⟨e1, e2, d, r, h⟩ | ⟨l, y, d, r, e1, e2, h⟩
  · refine (Dk.same_any h.both (by have := h.cnt; omega)).mono ?_
    rintro e w' ⟨rfl, hb⟩
    exact ⟨rfl, .inl ⟨e1, e2, d, r, h.later hb⟩⟩
  · refine (Dk.same_any h.td.both (by have := h.td.cnt; omega)).mono ?_
    rintro e w' ⟨rfl, hb⟩
    exact ⟨rfl, .inr ⟨l, y, d, r, e1, e2, h.later hb⟩⟩
open Dk (takeH_to)
set_option maxHeartbeats 40000000 in
theorem any_big {L : List ByteArray} (W : World) (hV : Vars W) (ad : Option Addr) (cap : Nat) (z : Nat → Int) (hz : Numz W ad L.length z) (a1 : Option Addr) (c1 : Nat) (hL : Fm.Strs W.heap.size (.slice a1 L.length c1) L W) (f : Int) (hn : L.length ≤ 6) :
    Calls Tryz.prog 6 #[.slice ad L.length cap, .slice a1 L.length c1, .int .i64 f] W fun e w' => e = .returned (.bool true) ∧ Below W.heap.size W w' := by
  have k7 := awake_any W hV
  have HZ := asd hz
  have HL : Aside (∀ j, j < L.length → ∃ g o, a1 = some ⟨g, o, none⟩ ∧ g < W.heap.size ∧ W.cell? ⟨g, o + j, none⟩ = some (.string (L.getD j ⟨#[]⟩))) := by
    obtain ⟨a, c, e, h⟩ := hL
    simp only [Value.slice.injEq] at e
    obtain ⟨rfl, _, rfl⟩ := e
    exact h
  have BV := asd hV
  have KN := asd (fun (n : Int) (u : World) => refName_any LG n u)
  have n0 : decide (6 < L.length) = false := decide_eq_false (by omega)
  have n1 : ((L.length : Int) != (L.length : Int)) = false := by unfold bne; rw [beq_self_eq_true]; rfl
  clear hz hL hV
  generalize hN : L.length = N at *
  clear hN
  go_enter Tryz.func6, Tryz.ntmps6
  go_wp2_with (first
    | (go_at_call 7; refine k7.mono ?_; rintro e w1 ⟨rfl, b1⟩; have B1 := asd b1; clear b1 k7)
    | (go_at_call 9; refine (dnew_any 9000 w1 (BV.out.below B1.out)).mono ?_; rintro e w3 ⟨b, d0, rfl, D0, p0, f0, b3⟩; have H0 := asd D0; have P0 := asd p0; have B3 := asd (B1.out.trans (b3.mono B1.out.size)); have HL3 := asd b3.size; have hle := asd B1.out.size; clear D0 p0 f0 b3)
    | (go_at_call 10; refine (Dk.rnew_any 9000 w3 w1.heap.size HL3.out).mono ?_; rintro e w4 ⟨c, r0, rfl, R0, q0, g0, b4⟩; have T0 := asd (td_new H0.out P0.out R0 q0 g0 b4 B3.out hle.out); clear R0 q0 g0 b4))
  generalize hBB : w1.heap.size = B at *
  clear H0 P0 B1 B3 hBB HL3 hle n1
  go_loopg [34, 9, 10, 11] N (fun gh s34 _ _ _ wr => ∃ (k : Nat) (d : Dk.Ds) (r : Dk.Rs), N - k ≤ gh ∧ k ≤ N ∧ s34 = .int .i64 (k : Int) ∧ Aside (TD W B b c k d r wr))
  case atStart => exact ⟨0, d0, r0, by omega, by omega, rfl, T0⟩
  case round =>
    obtain ⟨k, d, r, hgh, hk, rfl, T⟩ := hrel
    clear T0
    by_cases hlt : k < N
    · have q3 : decide (k < N) = true := by simpa using hlt
      obtain ⟨g, o, rfl, gl, gc⟩ := HZ.out k hlt
      obtain ⟨g1, o1, rfl, gl1, gc1⟩ := HL.out k hlt
      have BE := T.out.bel
      have cz := Dk.cell_below gc BE
      have cs := Dk.cell_below gc1 BE
      have CS := asd (fun (u : World) (hu : Below W.heap.size W u) => Dk.cell_below gc1 hu)
      have BB := asd BE
      clear gc gc1 BE
      generalize L.getD k ⟨#[]⟩ = x at *
      generalize z k = n at *
      by_cases hx : 300 < x.size
      · have p1 : decide (300 < x.size) = true := decide_eq_true hx
        go_wp2
        go_ret
        exact ⟨rfl, BB.out⟩
      · have p1 : decide (300 < x.size) = false := decide_eq_false hx
        go_wp2_with (first
          | (go_at_call 32; refine (KN.out n _).mono ?_; rintro e w5 ⟨rfl, b5⟩; have T5 := asd (T.out.later b5); have cs5 := CS.out _ T5.out.bel; clear b5)
          | (go_at_call 33; refine (dapp_any T5.out.dsk n x).mono ?_; rintro e w6 ⟨E, d6, rfl, D6, p6, st6⟩; have H6 := asd (T5.out.half st6).1; have DD6 := asd D6; have ST6 := asd st6; have P6 := asd p6; have cs6 := CS.out w6 (T5.out.bel.trans ((st6.below (fun j hj => (T5.out.both.rep.lt j hj).1) T5.out.hs).mono T5.out.le)); clear D6 p6 st6)
          | (go_at_call 34; refine (rapp_any H6.out (by have := T5.out.cnt; omega) n x (by omega)).mono ?_; rintro e w7 ⟨E7, r7, rfl, R7, T7, n7, st7⟩; have TT := asd (T5.out.whole (Y := []) DD6.out ST6.out R7 (by rw [P6.out]; exact T7) (count310 T5.out.cnt n7) st7 (fun k hk => by cases hk)); clear R7 T7 n7 st7))
        go_roundg (N - (k + 1))
        case measure => omega
        case rel => exact ⟨k + 1, d6, r7, Nat.le_refl _, by omega, by go_num, TT⟩
    · obtain rfl : k = N := by omega
      have q3 : decide (k < k) = false := by simp
      have TC := asd T.out
      have qA : (erO (lOpen (Dk.opCrash d.pl 9000) f).1 != erO (lOpen (Dk.opCrash d.pl 9000) f).1) = false := by unfold bne; rw [beq_self_eq_true]; rfl
      generalize hEE2 : erO (lOpen (Dk.opCrash d.pl 9000) f).1 = E2 at *
      have HE2 := asd hEE2
      clear hEE2 T
      go_upto_region 21 with (first
        | (go_at_call 17; refine (dcrash_any TC.out.dsk 9000 (by decide)).mono ?_; rintro e w4 ⟨rfl, d4, D4, p4, st4⟩; have H4 := asd (TC.out.half st4).1; have DD4 := asd D4; have ST4 := asd st4; have P4 := asd p4; clear D4 st4 p4)
        | (go_at_call 18; refine (rb_crash H4.out (by have := TC.out.cnt; omega) 9000).mono ?_; rintro e w5 ⟨rfl, r5, R5, T5, n5, st5⟩; have TT := asd (TC.out.whole (Y := []) DD4.out ST4.out R5 (by rw [P4.out]; exact T5) (by rw [n5]; exact TC.out.cnt) st5 (fun k hk => by cases hk)); clear R5 T5 n5 st5)
        | (go_at_call 11; refine (open_gen TT.out.dsk f 500).mono ?_; rw [P4.out, HE2.out]; rintro e w6 ⟨vx6, rv6, d6, rfl, G6⟩; have GG := asd G6; clear G6)
        | (go_at_call 12; refine (rlopen_gen TT.out (by omega) GG.out).mono ?_; rw [P4.out, HE2.out]; rintro e w7 ⟨vy7, rv7, rfl, TR7, o1, o2⟩; have RR := asd TR7; have O1 := asd o1; have O2 := asd o2; clear TR7 o1 o2)
        | (go_at_call 19; refine (same_yes _ _ _ _ (Fm.Strs.of_row O1.out) (Fm.Strs.of_row O2.out) (few_recs (by have := TT.out.both.ok; rwa [P4.out] at this) f)).mono ?_; rintro e w8 ⟨rfl, b8⟩; have R8 := asd (RR.out.later b8); clear b8)
        | (go_at_call 21; refine (R8.out.same (by omega)).mono ?_; rintro e w9 ⟨rfl, R9'⟩; have R9 := asd R9'; clear R9'))

      rcases R9.out with ⟨e1, e2, d9, r9, T⟩ | ⟨l, y, d9, r9, e1, e2, T⟩
      · subst e1 e2
        have BB := asd T.bel
        clear T R9 R8 RR O1 O2
        go_wp2_with (go_at_call 23; refine (last_nil' _).mono ?_; rintro e w6 ⟨rfl, rfl⟩)
        go_ret
        exact ⟨rfl, BB.out⟩
      · subst e1 e2
        have T4 := asd T
        have ROW := asd (alike_append T.td.both.ok T.f1 T.f2 T.row (m := wi 500) ⟨#[97, 98, 99]⟩ 0).1
        have KL := asd (fun (u : World) (hu : TL W B b c f (wi 500) l y k d9 r9 u) => llast_any hu.sys)
        have KC := asd (fun (u : World) (hu : TL W B b c f (wi 500) l y k d9 r9 u) => lappend_any hu.sys hu.f1 hu.f2 ⟨#[97, 98, 99]⟩ 0 (by decide))
        have KD := asd (fun (u : World) (h1 : Rb u B c d9 r9) (h2 : LrAt u y c f (lLast d9.pl f) (wi 500)) => rlappend_any h1 (by have := T4.out.td.cnt; omega) h2 T4.out.y2 T4.out.f1 T4.out.f2 T4.out.row ⟨#[97, 98, 99]⟩ 0 (by decide))
        unfold RAp at KD
        clear T R9 R8 RR O1 O2
        generalize lAppend d9.pl f (wi 500) ⟨#[97, 98, 99]⟩ 0 = A at *
        generalize hLA : lLast d9.pl f = LA at *
        go_wp2
        have bD : Below w9.heap.size w9 w9.drew := ⟨rfl, rfl, rfl, Nat.le_refl _, fun _ _ => rfl⟩
        have T5 := asd (T4.out.later bD)
        have S5 := T5.out.lr.cells.2.2.1; rw [hLA] at S5
        refine wp_region_held_drew (S := fun _ => True) (by kernel_rfl) trivial (fun hHeld => ?_)
        change wpAnyH _ _ _ _ _ _ _ _ (World.drew _)
        refine takeH_to (i := 0) (v := .pointer (some ⟨l, 0, none⟩)) (some 100) rfl rfl (by kernel_rfl) (by kernel_rfl) (by kernel_rfl) (fun _ _ _ h => h) (Or.inl ⟨by rfl, fun u hu => by (try dsimp only at hu); go_simp <;> (first | rfl | omega)⟩) (by assumption) ?_
        try simp only [Act.put, List.setIfInBounds_toArray, List.set_cons_zero, List.set_cons_succ]
        refine takeH_to (i := 2) (v := .pointer (some ⟨y, 0, none⟩)) (some 102) rfl rfl (by kernel_rfl) (by kernel_rfl) (by kernel_rfl) (fun _ _ _ h => h) (Or.inl ⟨by rfl, fun u hu => by (try dsimp only at hu); go_simp <;> (first | rfl | omega)⟩) (by assumption) ?_
        try simp only [Act.put, List.setIfInBounds_toArray, List.set_cons_zero, List.set_cons_succ]
        refine takeH_to (i := 3) (v := .pointer (some ⟨y, 0, none⟩)) (some 103) rfl rfl (by kernel_rfl) (by kernel_rfl) (by kernel_rfl) (fun _ _ _ h => h) (Or.inl ⟨by rfl, fun u hu => by (try dsimp only at hu); go_simp <;> (first | rfl | omega)⟩) (by assumption) ?_
        try simp only [Act.put, List.setIfInBounds_toArray, List.set_cons_zero, List.set_cons_succ]
        refine takeH_to (i := 4) (v := .pointer (some ⟨y, 2, none⟩)) (some 104) rfl rfl (by kernel_rfl) (by kernel_rfl) (by kernel_rfl) (fun _ _ _ h => h) (Or.inl ⟨by rfl, fun u hu => by (try dsimp only at hu); go_simp <;> (first | rfl | omega)⟩) (by assumption) ?_
        try simp only [Act.put, List.setIfInBounds_toArray, List.set_cons_zero, List.set_cons_succ]
        refine wpAnyH_ready (rs := [1, 5]) (by kernel_rfl) (by simp) ?_
        refine AllReadyH.cons rfl (fun K hK => ?_) (AllReadyH.cons rfl (fun K hK => ?_) AllReadyH.nil)
        · rw [if_pos (by rfl)]
          go_simp
          go_at_call 23
          refine (KL.out _ T5.out).mono ?_
          rintro e w6 ⟨rfl, b6⟩
          have T6 := asd (T5.out.later b6)
          have S6 := T6.out.lr.cells.2.2.1; rw [hLA] at S6
          clear b6
          go_simp
          refine hK.out _ _ trivial (fun hHeld => ?_)
          clear hK K
          try simp only [Act.put, List.setIfInBounds_toArray, List.set_cons_zero, List.set_cons_succ]
          refine wpAnyH_ready (rs := [5]) (by kernel_rfl) (by simp) ?_
          refine AllReadyH.cons rfl (fun K hK => ?_) AllReadyH.nil
          rw [if_pos (by rfl)]
          go_simp
          refine hK.out _ _ trivial (fun hHeld => ?_)
          clear hK K
          try simp only [Act.put, List.setIfInBounds_toArray, List.set_cons_zero, List.set_cons_succ]
          refine takeH_to (i := 6) (v := .bool true) (some 106) rfl rfl (by kernel_rfl) (by kernel_rfl) (by kernel_rfl) (fun _ _ _ h => h) (Or.inl ⟨by rfl, fun u hu => by (try dsimp only at hu); go_simp <;> (first | rfl | omega)⟩) (by assumption) ?_
          try simp only [Act.put, List.setIfInBounds_toArray, List.set_cons_zero, List.set_cons_succ]
          refine takeH_to (i := 7) (v := .bool true) (some 107) rfl rfl (by kernel_rfl) (by kernel_rfl) (by kernel_rfl) (fun _ _ _ h => h) (Or.inl ⟨by rfl, fun u hu => by (try dsimp only at hu); go_simp <;> (first | rfl | omega)⟩) (by assumption) ?_
          try simp only [Act.put, List.setIfInBounds_toArray, List.set_cons_zero, List.set_cons_succ]
          refine takeH_to (i := 8) (v := .pointer (some ⟨l, 0, none⟩)) (some 108) rfl rfl (by kernel_rfl) (by kernel_rfl) (by kernel_rfl) (fun _ _ _ h => h) (Or.inl ⟨by rfl, fun u hu => by (try dsimp only at hu); go_simp <;> (first | rfl | omega)⟩) (by assumption) ?_
          try simp only [Act.put, List.setIfInBounds_toArray, List.set_cons_zero, List.set_cons_succ]
          refine takeH_to (i := 10) (v := .pointer (some ⟨y, 0, none⟩)) (some 110) rfl rfl (by kernel_rfl) (by kernel_rfl) (by kernel_rfl) (fun _ _ _ h => h) (Or.inl ⟨by rfl, fun u hu => by (try dsimp only at hu); go_simp <;> (first | rfl | omega)⟩) (by assumption) ?_
          try simp only [Act.put, List.setIfInBounds_toArray, List.set_cons_zero, List.set_cons_succ]
          refine wpAnyH_ready (rs := [9]) (by kernel_rfl) (by simp) ?_
          refine AllReadyH.cons rfl (fun K hK => ?_) AllReadyH.nil
          rw [if_pos (by rfl)]
          go_simp
          go_at_call 13
          refine (KC.out _ T6.out).mono ?_
          rintro e w7 ⟨rfl, d7, s7, p7, st7⟩
          have H7 := asd (T6.out.half st7)
          go_simp
          refine hK.out _ _ trivial (fun hHeld => ?_)
          clear hK K
          try simp only [Act.put, List.setIfInBounds_toArray, List.set_cons_zero, List.set_cons_succ]
          refine wpAnyH_ready (rs := [11]) (by kernel_rfl) (by simp) ?_
          refine AllReadyH.cons rfl (fun K hK => ?_) AllReadyH.nil
          rw [if_pos (by rfl)]
          go_simp
          go_at_call 14
          refine (KD.out _ H7.out.1 (by rw [← hLA]; exact H7.out.2)).mono ?_
          rintro e w8 ⟨rfl, r8, R8, T8, n8, L8, st8⟩
          have TT := asd (T6.out.whole s7 st7 R8 (by rw [p7]; exact T8) (count310 T6.out.td.cnt n8) st8 (by rw [p7]; exact L8) (by rw [p7]; exact ROW.out))
          clear R8 T8 n8 L8 st8 s7 p7 st7
          go_simp
          refine hK.out _ _ trivial (fun hHeld => ?_)
          clear hK K
          try simp only [Act.put, List.setIfInBounds_toArray, List.set_cons_zero, List.set_cons_succ]
          refine takeH_to (i := 12) (v := .bool true) (some 112) rfl rfl (by kernel_rfl) (by kernel_rfl) (by kernel_rfl) (fun _ _ _ h => h) (Or.inl ⟨by rfl, fun u hu => by (try dsimp only at hu); go_simp <;> (first | rfl | omega)⟩) (by assumption) ?_
          try simp only [Act.put, List.setIfInBounds_toArray, List.set_cons_zero, List.set_cons_succ]
          refine takeH_to (i := 13) (v := .bool true) (some 113) rfl rfl (by kernel_rfl) (by kernel_rfl) (by kernel_rfl) (fun _ _ _ h => h) (Or.inl ⟨by rfl, fun u hu => by (try dsimp only at hu); go_simp <;> (first | rfl | omega)⟩) (by assumption) ?_
          try simp only [Act.put, List.setIfInBounds_toArray, List.set_cons_zero, List.set_cons_succ]
          refine takeH_to (i := 14) (v := .bool true) (some 114) rfl rfl (by kernel_rfl) (by kernel_rfl) (by kernel_rfl) (fun _ _ _ h => h) (Or.inl ⟨by rfl, fun u hu => by (try dsimp only at hu); go_simp <;> (first | rfl | omega)⟩) (by assumption) ?_
          try simp only [Act.put, List.setIfInBounds_toArray, List.set_cons_zero, List.set_cons_succ]
          refine takeH_to (i := 15) (v := .pointer (some ⟨b, 0, none⟩)) (some 115) rfl rfl (by kernel_rfl) (by kernel_rfl) (by kernel_rfl) (fun _ _ _ h => h) (Or.inl ⟨by rfl, fun u hu => by (try dsimp only at hu); go_simp <;> (first | rfl | omega)⟩) (by assumption) ?_
          try simp only [Act.put, List.setIfInBounds_toArray, List.set_cons_zero, List.set_cons_succ]
          refine takeH_to (i := 16) (v := .pointer (some ⟨c, 0, none⟩)) (some 116) rfl rfl (by kernel_rfl) (by kernel_rfl) (by kernel_rfl) (fun _ _ _ h => h) (Or.inl ⟨by rfl, fun u hu => by (try dsimp only at hu); go_simp <;> (first | rfl | omega)⟩) (by assumption) ?_
          try simp only [Act.put, List.setIfInBounds_toArray, List.set_cons_zero, List.set_cons_succ]
          refine wpAnyH_ready (rs := [17]) (by kernel_rfl) (by simp) ?_
          refine AllReadyH.cons rfl (fun K hK => ?_) AllReadyH.nil
          rw [if_pos (by rfl)]
          go_simp
          go_at_call 21
          refine (Dk.same_any TT.out.td.both (by have := TT.out.td.cnt; omega)).mono ?_
          rintro e w9 ⟨rfl, b9⟩
          have T9 := asd (TT.out.later b9)
          clear b9
          go_simp
          refine hK.out _ _ trivial (fun hHeld => ?_)
          clear hK K
          try simp only [Act.put, List.setIfInBounds_toArray, List.set_cons_zero, List.set_cons_succ]
          refine takeH_to (i := 18) (v := .bool true) (some 118) rfl rfl (by kernel_rfl) (by kernel_rfl) (by kernel_rfl) (fun _ _ _ h => h) (Or.inl ⟨by rfl, fun u hu => by (try dsimp only at hu); go_simp <;> (first | rfl | omega)⟩) (by assumption) ?_
          try simp only [Act.put, List.setIfInBounds_toArray, List.set_cons_zero, List.set_cons_succ]
          refine takeH_to (i := 19) (v := .bool true) (some 6) rfl rfl (by kernel_rfl) (by kernel_rfl) (by kernel_rfl) (fun _ _ _ h => h) (Or.inl ⟨by rfl, fun u hu => by (try dsimp only at hu); go_simp <;> (first | rfl | omega)⟩) (by assumption) ?_
          try simp only [Act.put, List.setIfInBounds_toArray, List.set_cons_zero, List.set_cons_succ]
          refine wpAnyH_done (by kernel_rfl) ?_ _
          go_wp2_with fail
          go_ret
          exact ⟨rfl, T9.out.td.bel⟩
        · rw [if_pos (by rfl)]
          go_simp
          refine hK.out _ _ trivial (fun hHeld => ?_)
          clear hK K
          try simp only [Act.put, List.setIfInBounds_toArray, List.set_cons_zero, List.set_cons_succ]
          refine wpAnyH_ready (rs := [1]) (by kernel_rfl) (by simp) ?_
          refine AllReadyH.cons rfl (fun K hK => ?_) AllReadyH.nil
          rw [if_pos (by rfl)]
          go_simp
          go_at_call 23
          refine (KL.out _ T5.out).mono ?_
          rintro e w6 ⟨rfl, b6⟩
          have T6 := asd (T5.out.later b6)
          have S6 := T6.out.lr.cells.2.2.1; rw [hLA] at S6
          clear b6
          go_simp
          refine hK.out _ _ trivial (fun hHeld => ?_)
          clear hK K
          try simp only [Act.put, List.setIfInBounds_toArray, List.set_cons_zero, List.set_cons_succ]
          refine takeH_to (i := 6) (v := .bool true) (some 106) rfl rfl (by kernel_rfl) (by kernel_rfl) (by kernel_rfl) (fun _ _ _ h => h) (Or.inl ⟨by rfl, fun u hu => by (try dsimp only at hu); go_simp <;> (first | rfl | omega)⟩) (by assumption) ?_
          try simp only [Act.put, List.setIfInBounds_toArray, List.set_cons_zero, List.set_cons_succ]
          refine takeH_to (i := 7) (v := .bool true) (some 107) rfl rfl (by kernel_rfl) (by kernel_rfl) (by kernel_rfl) (fun _ _ _ h => h) (Or.inl ⟨by rfl, fun u hu => by (try dsimp only at hu); go_simp <;> (first | rfl | omega)⟩) (by assumption) ?_
          try simp only [Act.put, List.setIfInBounds_toArray, List.set_cons_zero, List.set_cons_succ]
          refine takeH_to (i := 8) (v := .pointer (some ⟨l, 0, none⟩)) (some 108) rfl rfl (by kernel_rfl) (by kernel_rfl) (by kernel_rfl) (fun _ _ _ h => h) (Or.inl ⟨by rfl, fun u hu => by (try dsimp only at hu); go_simp <;> (first | rfl | omega)⟩) (by assumption) ?_
          try simp only [Act.put, List.setIfInBounds_toArray, List.set_cons_zero, List.set_cons_succ]
          refine takeH_to (i := 10) (v := .pointer (some ⟨y, 0, none⟩)) (some 110) rfl rfl (by kernel_rfl) (by kernel_rfl) (by kernel_rfl) (fun _ _ _ h => h) (Or.inl ⟨by rfl, fun u hu => by (try dsimp only at hu); go_simp <;> (first | rfl | omega)⟩) (by assumption) ?_
          try simp only [Act.put, List.setIfInBounds_toArray, List.set_cons_zero, List.set_cons_succ]
          refine wpAnyH_ready (rs := [9]) (by kernel_rfl) (by simp) ?_
          refine AllReadyH.cons rfl (fun K hK => ?_) AllReadyH.nil
          rw [if_pos (by rfl)]
          go_simp
          go_at_call 13
          refine (KC.out _ T6.out).mono ?_
          rintro e w7 ⟨rfl, d7, s7, p7, st7⟩
          have H7 := asd (T6.out.half st7)
          go_simp
          refine hK.out _ _ trivial (fun hHeld => ?_)
          clear hK K
          try simp only [Act.put, List.setIfInBounds_toArray, List.set_cons_zero, List.set_cons_succ]
          refine wpAnyH_ready (rs := [11]) (by kernel_rfl) (by simp) ?_
          refine AllReadyH.cons rfl (fun K hK => ?_) AllReadyH.nil
          rw [if_pos (by rfl)]
          go_simp
          go_at_call 14
          refine (KD.out _ H7.out.1 (by rw [← hLA]; exact H7.out.2)).mono ?_
          rintro e w8 ⟨rfl, r8, R8, T8, n8, L8, st8⟩
          have TT := asd (T6.out.whole s7 st7 R8 (by rw [p7]; exact T8) (count310 T6.out.td.cnt n8) st8 (by rw [p7]; exact L8) (by rw [p7]; exact ROW.out))
          clear R8 T8 n8 L8 st8 s7 p7 st7
          go_simp
          refine hK.out _ _ trivial (fun hHeld => ?_)
          clear hK K
          try simp only [Act.put, List.setIfInBounds_toArray, List.set_cons_zero, List.set_cons_succ]
          refine takeH_to (i := 12) (v := .bool true) (some 112) rfl rfl (by kernel_rfl) (by kernel_rfl) (by kernel_rfl) (fun _ _ _ h => h) (Or.inl ⟨by rfl, fun u hu => by (try dsimp only at hu); go_simp <;> (first | rfl | omega)⟩) (by assumption) ?_
          try simp only [Act.put, List.setIfInBounds_toArray, List.set_cons_zero, List.set_cons_succ]
          refine takeH_to (i := 13) (v := .bool true) (some 113) rfl rfl (by kernel_rfl) (by kernel_rfl) (by kernel_rfl) (fun _ _ _ h => h) (Or.inl ⟨by rfl, fun u hu => by (try dsimp only at hu); go_simp <;> (first | rfl | omega)⟩) (by assumption) ?_
          try simp only [Act.put, List.setIfInBounds_toArray, List.set_cons_zero, List.set_cons_succ]
          refine takeH_to (i := 14) (v := .bool true) (some 114) rfl rfl (by kernel_rfl) (by kernel_rfl) (by kernel_rfl) (fun _ _ _ h => h) (Or.inl ⟨by rfl, fun u hu => by (try dsimp only at hu); go_simp <;> (first | rfl | omega)⟩) (by assumption) ?_
          try simp only [Act.put, List.setIfInBounds_toArray, List.set_cons_zero, List.set_cons_succ]
          refine takeH_to (i := 15) (v := .pointer (some ⟨b, 0, none⟩)) (some 115) rfl rfl (by kernel_rfl) (by kernel_rfl) (by kernel_rfl) (fun _ _ _ h => h) (Or.inl ⟨by rfl, fun u hu => by (try dsimp only at hu); go_simp <;> (first | rfl | omega)⟩) (by assumption) ?_
          try simp only [Act.put, List.setIfInBounds_toArray, List.set_cons_zero, List.set_cons_succ]
          refine takeH_to (i := 16) (v := .pointer (some ⟨c, 0, none⟩)) (some 116) rfl rfl (by kernel_rfl) (by kernel_rfl) (by kernel_rfl) (fun _ _ _ h => h) (Or.inl ⟨by rfl, fun u hu => by (try dsimp only at hu); go_simp <;> (first | rfl | omega)⟩) (by assumption) ?_
          try simp only [Act.put, List.setIfInBounds_toArray, List.set_cons_zero, List.set_cons_succ]
          refine wpAnyH_ready (rs := [17]) (by kernel_rfl) (by simp) ?_
          refine AllReadyH.cons rfl (fun K hK => ?_) AllReadyH.nil
          rw [if_pos (by rfl)]
          go_simp
          go_at_call 21
          refine (Dk.same_any TT.out.td.both (by have := TT.out.td.cnt; omega)).mono ?_
          rintro e w9 ⟨rfl, b9⟩
          have T9 := asd (TT.out.later b9)
          clear b9
          go_simp
          refine hK.out _ _ trivial (fun hHeld => ?_)
          clear hK K
          try simp only [Act.put, List.setIfInBounds_toArray, List.set_cons_zero, List.set_cons_succ]
          refine takeH_to (i := 18) (v := .bool true) (some 118) rfl rfl (by kernel_rfl) (by kernel_rfl) (by kernel_rfl) (fun _ _ _ h => h) (Or.inl ⟨by rfl, fun u hu => by (try dsimp only at hu); go_simp <;> (first | rfl | omega)⟩) (by assumption) ?_
          try simp only [Act.put, List.setIfInBounds_toArray, List.set_cons_zero, List.set_cons_succ]
          refine takeH_to (i := 19) (v := .bool true) (some 6) rfl rfl (by kernel_rfl) (by kernel_rfl) (by kernel_rfl) (fun _ _ _ h => h) (Or.inl ⟨by rfl, fun u hu => by (try dsimp only at hu); go_simp <;> (first | rfl | omega)⟩) (by assumption) ?_
          try simp only [Act.put, List.setIfInBounds_toArray, List.set_cons_zero, List.set_cons_succ]
          refine wpAnyH_done (by kernel_rfl) ?_ _
          go_wp2_with fail
          go_ret
          exact ⟨rfl, T9.out.td.bel⟩
end Go.Proofs.YtajjcfacbnicnaaGreatDoor

/-
  SeglogAny, whatever came in.
-/
namespace Go.Proofs.YtajjcfacbnicnaaGreatDoor
open Go.RowKit
set_option maxRecDepth 100000
theorem any_any (W : World) (hV : Vars W) (ad : Option Addr) (n cap : Nat) (z : Nat → Int) (hz : Numz W ad n z) (a1 : Option Addr) (n1 c1 : Nat) (L : List ByteArray) (hL : Fm.Strs W.heap.size (.slice a1 n1 c1) L W) (f : Int) :
    Calls Tryz.prog 6 #[.slice ad n cap, .slice a1 n1 c1, .int .i64 f] W fun e w' => e = .returned (.bool true) ∧ Below W.heap.size W w' := by
  have k7 := awake_any W hV
  by_cases h6 : 6 < n
  · have q1 : decide (6 < n) = true := decide_eq_true h6
    clear hz hL
    go_enter Tryz.func6, Tryz.ntmps6
    go_wp2_with (go_at_call 7; refine k7.mono ?_; rintro e w1 ⟨rfl, b1⟩)
    go_ret
    exact ⟨rfl, b1⟩
  · by_cases h1 : n1 = n
    · obtain ⟨a, c, e, _⟩ := id hL
      simp only [Value.slice.injEq] at e
      obtain ⟨_, e2, _⟩ := e
      rw [h1] at e2
      subst h1
      subst e2
      exact any_big W hV ad cap z hz a1 c1 hL f (by omega)
    · have q1 : decide (6 < n) = false := decide_eq_false h6
      have q2 : ((n1 : Int) != (n : Int)) = true := by rw [bne_iff_ne]; omega
      have q3 : ((n1 : Int) == (n : Int)) = false := by rw [beq_eq_false_iff_ne]; omega
      clear hz hL
      go_enter Tryz.func6, Tryz.ntmps6
      go_wp2_with (go_at_call 7; refine k7.mono ?_; rintro e w1 ⟨rfl, b1⟩)
      go_ret
      exact ⟨rfl, b1⟩
end Go.Proofs.YtajjcfacbnicnaaGreatDoor
