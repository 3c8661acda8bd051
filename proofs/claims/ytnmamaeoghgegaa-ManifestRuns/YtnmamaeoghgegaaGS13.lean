/-
  ManifestRuns' walk; deeds that came in.
-/
import Derived.Test.YtnmamaeoghgegaaG25
import Derived.Deep.DeepCutAuto
import Derived.Deep.CutBlock
import Derived.Deep.RegionHeld3
import Derived.Deep.Slices
import Derived.ProofKit
import Derived.OpenShut
import Derived.WalkKit
import Derived.WalkSpells
import Derived.WalkLawsBesides
import Derived.Deep.LoopGhost
import Derived.Laws.Externs
import Derived.Below
import Derived.BigQuiet
import Derived.Deep.RegionWith
import Derived.OwnWalk
import Derived.Maps.AppendAt
import Derived.WalkSmall
namespace Go.Proofs.Ytnmamaeoghgegaa
open Go.RowKit
set_option maxRecDepth 100000
open Go.ChangeShapes Go.WideShapes Go.ChangeAt
/-- A deed. -/
structure Sd where
  kind : Int
  n : Int
def Sd.cells (d : Sd) : Array Value := #[.int .u8 d.kind, .int .i64 d.n]
instance : Inhabited Sd := ⟨⟨0, 0⟩⟩
structure Sd.Fit (d : Sd) : Prop where
  k0 : 0 ≤ d.kind
  k1 : d.kind ≤ 255
  n : d.n ≤ 9223372036854775807
/-- A row of deeds in memory. -/
def Sds (w : World) (ad : Option Addr) (n : Nat) (X : Nat → Sd) : Prop := n = 0 ∨ ∃ g o, ad = some ⟨g, o, none⟩ ∧ ∀ i, i < n → (w.cell? ⟨g, o + i * 2, none⟩ = some (.int .u8 (X i).kind) ∧ w.cell? ⟨g, o + i * 2 + 1, none⟩ = some (.int .i64 (X i).n)) ∧ (X i).Fit
theorem c44of : Try.prog.cellsOf 44 = 2 := by kernel_rfl
theorem c3of' : Try.prog.cellsOf 3 = 1 := by kernel_rfl
theorem c5of' : Try.prog.cellsOf 5 = 1 := by kernel_rfl
theorem wf8 {z : Int} (h : (Lit.int .u8 z).wf = true) : 0 ≤ z ∧ z ≤ 255 := by
  have h' : (decide (IntKind.u8.min ≤ z) && decide (z ≤ IntKind.u8.max)) = true := h
  rw [Bool.and_eq_true, decide_eq_true_eq, decide_eq_true_eq] at h'
  exact h'
theorem wf64 {z : Int} (h : (Lit.int .i64 z).wf = true) : z ≤ 9223372036854775807 := by
  have h' : (decide (IntKind.i64.min ≤ z) && decide (z ≤ IntKind.i64.max)) = true := h
  rw [Bool.and_eq_true, decide_eq_true_eq, decide_eq_true_eq] at h'
  exact h'.2
theorem open_sd {H : Type} {enc : TypeId × Value → H} {W : World} {n : Nat} {cs : List Value} {x : DataW H × List MemPlace} (h : DataW.trod enc Try.prog W 0 (fun _ => true) true n 44 cs = some x) : ∃ d : Sd, cs = d.cells.toList ∧ d.Fit := by
  obtain ⟨xs, m, _, _, hl, hlen, hfs⟩ := DataW.trod_struct Try.underlying44 h
  rw [c44of] at hl
  have hlen : xs.length = 2 := hlen
  match xs, hlen, cs, hl with
  | [y0, y1], _, [c0, c1], _ =>
    have f0 : DataW.trod enc Try.prog W 0 (fun _ => true) true m 5 (([c0, c1].drop 0).take (Try.prog.cellsOf 5)) = some y0 := hfs 0 _ rfl
    rw [c5of'] at f0
    have f1 : DataW.trod enc Try.prog W 0 (fun _ => true) true m 3 (([c0, c1].drop 1).take (Try.prog.cellsOf 3)) = some y1 := hfs 1 _ rfl
    rw [c3of'] at f1
    obtain ⟨n0, e0, _, w0⟩ := DataW.trod_int Try.underlying5 f0
    obtain ⟨n1, e1, _, w1⟩ := DataW.trod_int Try.underlying3 f1
    simp at e0 e1
    subst e0 e1
    exact ⟨⟨n0, n1⟩, rfl, (wf8 w0).1, (wf8 w0).2, wf64 w1⟩
theorem open_sds {H : Type} {enc : TypeId × Value → H} {W : World} {ad : Option Addr} {n cap : Nat} {d : DataW H} {p : List MemPlace} (h : DataW.Trod enc Try.prog W 0 (fun _ => true) true 40 (.slice ad n cap) d p) : ∃ X, Sds W ad n X := by
  obtain ⟨fuel, hf⟩ := h
  rcases Deep.open_slice Try.underlying40 hf with ⟨hcs, _⟩ | ⟨a, len, cap', m, k, D, Pl, hcs, _, hl, _, hm, _, hx⟩
  · simp [Value.cells] at hcs
    obtain ⟨rfl, rfl, rfl⟩ := hcs
    exact ⟨fun _ => default, .inl rfl⟩
  · simp [Value.cells] at hcs
    obtain ⟨rfl, rfl, rfl⟩ := hcs
    have hm' : m = cap := by simpa using hm
    subst hm'
    rw [c44of] at hx
    rcases Nat.eq_zero_or_pos n with h0 | hp
    · exact ⟨fun _ => default, .inl h0⟩
    · have each : ∀ i, i < n → ∃ x : Sd, W.cells? 0 (a.add (i * 2)) 2 = some x.cells.toList ∧ x.Fit := fun i hi => by
        obtain ⟨cs', h1, h2⟩ := hx i (by omega)
        obtain ⟨x, e, r⟩ := open_sd h2
        exact ⟨x, by rw [h1, e], r⟩
      obtain ⟨X, hX⟩ := Deep.choose_lt each
      refine ⟨X, .inr ?_⟩
      obtain ⟨g, o, spot⟩ := a
      have hc : ∀ i, i < n → ∀ j, j < 2 → W.cell? ((⟨g, o, spot⟩ : Addr).add (i * 2 + j)) = (X i).cells.toList[j]? := fun i hi j hj => by
        obtain ⟨_, hlen, hcell⟩ := World.cells?_some (hX i hi).1
        have := hcell j hj
        rw [Deep.add_add] at this
        exact this
      have h00 := hc 0 hp 0 (by omega)
      have hspot : spot = none := by simpa [Addr.add] using World.cell?_spot (h00.trans rfl)
      subst hspot
      have hadd : ∀ k, (⟨g, o, none⟩ : Addr).add k = ⟨g, o + k, none⟩ := fun k => by
        unfold Addr.add
        split
        · rename_i e; rw [e]; rfl
        · rfl
      refine ⟨g, o, rfl, fun i hi => ⟨?_, (hX i hi).2⟩⟩
      have e0 := hc i hi 0 (by omega)
      have e1 := hc i hi 1 (by omega)
      rw [hadd] at e0 e1
      exact ⟨e0, e1⟩
/-- A deed in a block of its own. -/
def SdAt (u : World) (X : Nat) (x : Sd) : Prop := u.heap[X]? = some (.cells x.cells 44 (0, 0))
theorem SdAt.cells {u : World} {X : Nat} {x : Sd} (h : SdAt u X x) : u.cell? ⟨X, 0, none⟩ = some (.int .u8 x.kind) ∧ u.cell? ⟨X, 1, none⟩ = some (.int .i64 x.n) :=
  ⟨by rw [cell_of_row u X 0 _ _ _ h]; rfl, by rw [cell_of_row u X 1 _ _ _ h]; rfl⟩
theorem SdAt.lt {u : World} {X : Nat} {x : Sd} (h : SdAt u X x) : X < u.heap.size := (Array.getElem?_eq_some_iff.1 h).1
theorem SdAt.step {u u' : World} {X : Nat} {x : Sd} {fo fo' : List Nat} (h : SdAt u X x) (st : Dk.Step fo fo' u u') (hn : X ∉ fo) : SdAt u' X x := (st.block X h.lt hn).trans h
theorem SdAt.new (u : World) (x : Sd) : SdAt (u.alloc (.cells x.cells 44)) u.heap.size x := heap_alloc_new u _
theorem kinds6 {k : Int} (_h : 0 ≤ k) : k % 6 = 0 ∨ k % 6 = 1 ∨ k % 6 = 2 ∨ k % 6 = 3 ∨ k % 6 = 4 ∨ k % 6 = 5 := by omega
open Dk (takeH_to)
set_option maxHeartbeats 40000000 in
/-- ManifestRuns' walk. -/
theorem runs_any (ad : Option Addr) (n cap : Nat) (X : Nat → Sd) (W : World) (h : Sds W ad n X) :
    Calls Try.prog 5 #[.slice ad n cap] W fun e w' => e = .returned (.bool true) ∧ Below W.heap.size W w' := by
  have k6 := awake_any W
  have H := asd h
  clear h
  by_cases hn : 60 < n
  · have q1 : decide (60 < n) = true := decide_eq_true hn
    go_enter Try.func5, Try.ntmps5
    go_wp2_with (go_at_call 6; refine k6.mono ?_; rintro e w1 ⟨rfl, b1⟩)
    go_ret
    exact ⟨rfl, b1⟩
  have q1 : decide (60 < n) = false := decide_eq_false hn
  go_enter Try.func5, Try.ntmps5
  go_wp2_with (first
    | (go_at_call 6; refine k6.mono ?_; rintro e w2 ⟨rfl, b1⟩; have B2 := asd b1; clear b1 k6)
    | (go_at_call 8; refine (dnew 60 w2).mono ?_; rintro e w3 ⟨b, d0, rfl, D0, p0, b3⟩; have H0 := asd D0; have P0 := asd p0; have B3 := asd (B2.out.trans (b3.mono B2.out.size)); have HL3 := asd b3.size; have hle := asd B2.out.size; clear D0 p0 b3)
    | (go_at_call 17; refine (Dk.rnew_any 60 w3 w2.heap.size HL3.out).mono ?_; rintro e w4 ⟨c, r0, rfl, R0, q0, g0, b4⟩; have T0 := asd (mt_new H0.out P0.out R0 q0 g0 b4 B3.out hle.out); clear R0 q0 g0 b4))
  generalize hBB : w2.heap.size = B at *
  clear H0 P0 B2 B3 hBB HL3 hle
  go_loopg [21, 5, 7, 8, 9, 10, 11] n (fun gh s21 s5 _ _ _ _ _ wr => ∃ (k : Nat) (now : Int) (d : Dk.Ds) (r : Dk.Rs), n - k ≤ gh ∧ k ≤ n ∧ s21 = .int .i64 (k : Int) ∧ s5 = .int .i64 now ∧ Aside (MT W B b c k d r now wr))
  case atStart => exact ⟨0, 1, d0, r0, by omega, by omega, rfl, rfl, T0⟩
  case round =>
    obtain ⟨k, now, d, r, hgh, hk, rfl, rfl, R⟩ := hrel
    clear T0
    have BE := R.out.bel
    by_cases hlt : k < n
    · have q3 : decide (k < n) = true := by simpa using hlt
      rcases H.out with h0 | ⟨g, o, rfl, hc⟩
      · omega
      obtain ⟨⟨a0, a1⟩, F⟩ := hc k hlt
      have c0 := Dk.cell_below a0 BE
      have c1 := Dk.cell_below a1 BE
      have SA := asd (SdAt.new wr (X k))
      have FF := asd F
      have hk0 := F.k0
      have hk1 := F.k1
      have TA := asd (R.out.later ((Below.refl _ _).alloc (Nat.le_refl _) (.cells (X k).cells 44)))
      have NF := asd (fun hm => by have := (R.out.both.rep.lt _ hm).2; omega : wr.heap.size ∉ d.foot b)
      have NR := asd (fun hm => by have := (R.out.both.rrep.lt _ hm).2; omega : wr.heap.size ∉ r.foot c)
      clear a0 a1 hc F BE R
      generalize X k = x at *
      unfold Sd.cells at SA TA
      go_upto_block 2 with fail
      go_cut [5, 8, 9] from 22 to 87 (fun z5 z8 _ wx => ∃ (now' : Int) (d' : Dk.Ds) (r' : Dk.Rs), z5 = .int .i64 now' ∧ z8 = .bool true ∧ Aside (MT W B b c (k + 1) d' r' now' wx))
      case first =>
        rcases kinds6 hk0 with hq | hq | hq | hq | hq | hq
        · as_aux_lemma =>
            have qA : ((mWrite d.pl x.n).1 == (mWrite d.pl x.n).1) = true := beq_self_eq_true _
            have KC := asd (mwrite_any TA.out.dsk x.n)
            have KD := asd (fun (u : World) (h1 : Rb u B c d.pl r) => rwrite_any h1 (by have := TA.out.cnt; omega) x.n)
            have KK := asd (TA.out.kn.write TA.out.both.ok x.n).2
            unfold DO at KC
            unfold RO at KD
            generalize mWrite d.pl x.n = A at *
            by_cases hA : A.1 = 0
            · rw [if_pos hA] at KK
              rw [hA] at KC KD qA
              clear hA
              go_wp2_with (first
                | (go_at_call 9; refine KC.out.mono ?_; rintro e w4 ⟨rfl, d4, D4, p4, st4⟩; have H4 := asd (TA.out.half st4).1; have DD4 := asd D4; have ST4 := asd st4; have P4 := asd p4; have SD4 := asd (SA.out.step st4 NF.out); obtain ⟨z0, z1⟩ := SD4.out.cells; clear D4 st4 p4)
                | (go_at_call 18; refine (KD.out _ H4.out).mono ?_; rintro e w5 ⟨rfl, r5, R5, n5, st5⟩; have TT := asd (TA.out.whole DD4.out ST4.out P4.out R5 (Nat.le_trans n5 (by omega)) st5 KK.out); obtain ⟨y0, y1⟩ := (SD4.out.step st5 NR.out).cells; clear R5 n5 st5))
              go_meet
              exact ⟨x.n, d4, r5, rfl, rfl, TT.out⟩
            · rw [if_neg hA] at KK
              have q0 : (A.1 == 0) = false := by rw [beq_eq_false_iff_ne]; exact hA
              go_wp2_with (first
                | (go_at_call 9; refine KC.out.mono ?_; rintro e w4 ⟨rfl, d4, D4, p4, st4⟩; have H4 := asd (TA.out.half st4).1; have DD4 := asd D4; have ST4 := asd st4; have P4 := asd p4; have SD4 := asd (SA.out.step st4 NF.out); obtain ⟨z0, z1⟩ := SD4.out.cells; clear D4 st4 p4)
                | (go_at_call 18; refine (KD.out _ H4.out).mono ?_; rintro e w5 ⟨rfl, r5, R5, n5, st5⟩; have TT := asd (TA.out.whole DD4.out ST4.out P4.out R5 (Nat.le_trans n5 (by omega)) st5 KK.out); obtain ⟨y0, y1⟩ := (SD4.out.step st5 NR.out).cells; clear R5 n5 st5))
              go_meet
              exact ⟨now, d4, r5, rfl, rfl, TT.out⟩
        · as_aux_lemma =>
            have qA : ((mWrite d.pl x.n).1 == (mWrite d.pl x.n).1) = true := beq_self_eq_true _
            have KC := asd (mwrite_any TA.out.dsk x.n)
            have KD := asd (fun (u : World) (h1 : Rb u B c d.pl r) => rwrite_any h1 (by have := TA.out.cnt; omega) x.n)
            have KK := asd (TA.out.kn.write TA.out.both.ok x.n).2
            unfold DO at KC
            unfold RO at KD
            generalize mWrite d.pl x.n = A at *
            by_cases hA : A.1 = 0
            · rw [if_pos hA] at KK
              rw [hA] at KC KD qA
              clear hA
              go_wp2_with (first
                | (go_at_call 9; refine KC.out.mono ?_; rintro e w4 ⟨rfl, d4, D4, p4, st4⟩; have H4 := asd (TA.out.half st4).1; have DD4 := asd D4; have ST4 := asd st4; have P4 := asd p4; have SD4 := asd (SA.out.step st4 NF.out); obtain ⟨z0, z1⟩ := SD4.out.cells; clear D4 st4 p4)
                | (go_at_call 18; refine (KD.out _ H4.out).mono ?_; rintro e w5 ⟨rfl, r5, R5, n5, st5⟩; have TT := asd (TA.out.whole DD4.out ST4.out P4.out R5 (Nat.le_trans n5 (by omega)) st5 KK.out); obtain ⟨y0, y1⟩ := (SD4.out.step st5 NR.out).cells; clear R5 n5 st5))
              go_meet
              exact ⟨x.n, d4, r5, rfl, rfl, TT.out⟩
            · rw [if_neg hA] at KK
              have q0 : (A.1 == 0) = false := by rw [beq_eq_false_iff_ne]; exact hA
              go_wp2_with (first
                | (go_at_call 9; refine KC.out.mono ?_; rintro e w4 ⟨rfl, d4, D4, p4, st4⟩; have H4 := asd (TA.out.half st4).1; have DD4 := asd D4; have ST4 := asd st4; have P4 := asd p4; have SD4 := asd (SA.out.step st4 NF.out); obtain ⟨z0, z1⟩ := SD4.out.cells; clear D4 st4 p4)
                | (go_at_call 18; refine (KD.out _ H4.out).mono ?_; rintro e w5 ⟨rfl, r5, R5, n5, st5⟩; have TT := asd (TA.out.whole DD4.out ST4.out P4.out R5 (Nat.le_trans n5 (by omega)) st5 KK.out); obtain ⟨y0, y1⟩ := (SD4.out.step st5 NR.out).cells; clear R5 n5 st5))
              go_meet
              exact ⟨now, d4, r5, rfl, rfl, TT.out⟩
        · as_aux_lemma =>
            have qA : ((mClean d.pl).1 == (mClean d.pl).1) = true := beq_self_eq_true _
            have KC := asd (mclean_any TA.out.dsk)
            have KD := asd (fun (u : World) (h1 : Rb u B c d.pl r) => rclean_any h1 (by have := TA.out.cnt; omega))
            have KK := asd (TA.out.kn.clean TA.out.both.ok).1
            unfold DO at KC
            unfold RO at KD
            generalize mClean d.pl = A at *
            go_wp2_with (first
              | (go_at_call 19; refine KC.out.mono ?_; rintro e w4 ⟨rfl, d4, D4, p4, st4⟩; have H4 := asd (TA.out.half st4).1; have DD4 := asd D4; have ST4 := asd st4; have P4 := asd p4; clear D4 st4 p4)
              | (go_at_call 20; refine (KD.out _ H4.out).mono ?_; rintro e w5 ⟨rfl, r5, R5, n5, st5⟩; have TT := asd (TA.out.whole DD4.out ST4.out P4.out R5 (Nat.le_trans n5 (by omega)) st5 KK.out); clear R5 n5 st5))
            go_meet
            exact ⟨now, d4, r5, rfl, rfl, TT.out⟩
        · as_aux_lemma =>
            have qT : x.kind.tmod 6 = 3 := by rw [Int.tmod_eq_emod_of_nonneg hk0]; exact hq
            go_wp2
            have bD : Below (wr.alloc (.cells x.cells 44)).heap.size (wr.alloc (.cells x.cells 44)) (wr.alloc (.cells x.cells 44)).drew := ⟨rfl, rfl, rfl, Nat.le_refl _, fun _ _ => rfl⟩
            have bZ : Below (wr.alloc (.cells x.cells 44)).drew.heap.size (wr.alloc (.cells x.cells 44)).drew ((wr.alloc (.cells x.cells 44)).drew.alloc (.cells #[.int .u8 6, .int .u8 9, .int .u8 7] 5)) := (Below.refl _ _).alloc (Nat.le_refl _) _
            have bb : Below (wr.alloc (.cells x.cells 44)).heap.size (wr.alloc (.cells x.cells 44)) ((wr.alloc (.cells x.cells 44)).drew.alloc (.cells #[.int .u8 6, .int .u8 9, .int .u8 7] 5)) := bD.trans (bZ.mono bD.size)
            have TZ := asd (TA.out.later bb)
            have CZ : Aside (∀ u : World, Below (wr.alloc (.cells x.cells 44)).heap.size (wr.alloc (.cells x.cells 44)) u → u.cell? ⟨wr.heap.size, 0, none⟩ = some (.int .u8 x.kind) ∧ u.cell? ⟨wr.heap.size, 1, none⟩ = some (.int .i64 x.n)) := fun u hu => SdAt.cells (x := x) ((hu.block _ SA.out.lt).trans SA.out)
            have DO := asd (fun (u : World) (hB : Dk.Both u B b c d r) (hc : r.count ≤ 100000) => Dk.do_crash2 hB ⟨6, ⟨#[]⟩, ⟨#[]⟩, x.n, 0, 0⟩ (show (6 : Int) % 10 = 6 by decide) (show (0 : Int) ≤ 6 by decide) (show (6 : Int) ≤ 255 by decide) hc (show (0 : Nat) ≤ 101 by decide) (show (0 : Nat) ≤ 101 by decide) FF.out.n)
            have cd := CZ.out _ bD
            refine wp_region_held_drew (S := (fun u => u.cell? ⟨wr.heap.size, 0, none⟩ = some (.int .u8 x.kind) ∧ u.cell? ⟨wr.heap.size, 1, none⟩ = some (.int .i64 x.n))) (by kernel_rfl) cd (fun hHeld => ?_)
            change wpAnyH _ _ _ _ _ _ _ _ (World.drew _)
            refine takeH_to (i := 0) (v := .pointer (some ⟨b, 0, none⟩)) (some 28) rfl rfl (by kernel_rfl) (by kernel_rfl) (by kernel_rfl) (fun _ _ _ h => h) (Or.inl ⟨by rfl, fun u hu => by (try dsimp only at hu); (try obtain ⟨hu1, hu2⟩ := hu); go_simp <;> (first | rfl | omega)⟩) (by assumption) ?_
            try simp only [Act.put, List.setIfInBounds_toArray, List.set_cons_zero, List.set_cons_succ]
            refine takeH_to (i := 1) (v := .pointer (some ⟨c, 0, none⟩)) (some 29) rfl rfl (by kernel_rfl) (by kernel_rfl) (by kernel_rfl) (fun _ _ _ h => h) (Or.inl ⟨by rfl, fun u hu => by (try dsimp only at hu); (try obtain ⟨hu1, hu2⟩ := hu); go_simp <;> (first | rfl | omega)⟩) (by assumption) ?_
            try simp only [Act.put, List.setIfInBounds_toArray, List.set_cons_zero, List.set_cons_succ]
            refine takeH_to (i := 3) (v := .pointer (some ⟨wr.heap.size, 0, none⟩)) (some 31) rfl rfl (by kernel_rfl) (by kernel_rfl) (by kernel_rfl) (fun _ _ _ h => h) (Or.inl ⟨by rfl, fun u hu => by (try dsimp only at hu); (try obtain ⟨hu1, hu2⟩ := hu); go_simp <;> (first | rfl | omega)⟩) (by assumption) ?_
            try simp only [Act.put, List.setIfInBounds_toArray, List.set_cons_zero, List.set_cons_succ]
            refine takeH_to (i := 4) (v := .int .u8 x.kind) (some 32) rfl rfl (by kernel_rfl) (by kernel_rfl) (by kernel_rfl) (fun _ _ _ h => h) (Or.inl ⟨by rfl, fun u hu => by (try dsimp only at hu); (try obtain ⟨hu1, hu2⟩ := hu); go_simp <;> (first | rfl | omega)⟩) (by assumption) ?_
            try simp only [Act.put, List.setIfInBounds_toArray, List.set_cons_zero, List.set_cons_succ]
            refine takeH_to (i := 5) (v := .int .u8 3) (some 33) rfl rfl (by kernel_rfl) (by kernel_rfl) (by kernel_rfl) (fun _ _ _ h => h) (Or.inl ⟨by rfl, fun u hu => by (try dsimp only at hu); (try obtain ⟨hu1, hu2⟩ := hu); go_simp <;> (first | rfl | omega)⟩) (by assumption) ?_
            try simp only [Act.put, List.setIfInBounds_toArray, List.set_cons_zero, List.set_cons_succ]
            refine takeH_to (i := 6) (v := .int .u8 0) (some 34) rfl rfl (by kernel_rfl) (by kernel_rfl) (by kernel_rfl) (fun _ _ _ h => h) (Or.inl ⟨by rfl, fun u hu => by (try dsimp only at hu); (try obtain ⟨hu1, hu2⟩ := hu); go_simp <;> (first | rfl | omega)⟩) (by assumption) ?_
            try simp only [Act.put, List.setIfInBounds_toArray, List.set_cons_zero, List.set_cons_succ]
            refine takeH_to (i := 9) (v := .pointer (some ⟨wr.heap.size, 1, none⟩)) (some 37) rfl rfl (by kernel_rfl) (by kernel_rfl) (by kernel_rfl) (fun _ _ _ h => h) (Or.inl ⟨by rfl, fun u hu => by (try dsimp only at hu); (try obtain ⟨hu1, hu2⟩ := hu); go_simp <;> (first | rfl | omega)⟩) (by assumption) ?_
            try simp only [Act.put, List.setIfInBounds_toArray, List.set_cons_zero, List.set_cons_succ]
            refine takeH_to (i := 10) (v := .int .i64 x.n) (some 38) rfl rfl (by kernel_rfl) (by kernel_rfl) (by kernel_rfl) (fun _ _ _ h => h) (Or.inl ⟨by rfl, fun u hu => by (try dsimp only at hu); (try obtain ⟨hu1, hu2⟩ := hu); go_simp <;> (first | rfl | omega)⟩) (by assumption) ?_
            try simp only [Act.put, List.setIfInBounds_toArray, List.set_cons_zero, List.set_cons_succ]
            refine wpAnyH_ready (rs := [2]) (by kernel_rfl) (by simp) ?_
            refine AllReadyH.cons rfl (fun K hK => ?_) AllReadyH.nil
            rw [if_pos (by rfl)]
            go_simp
            refine hK.out _ _ (CZ.out _ bb) (fun hHeld => ?_)
            clear hK K
            try simp only [Act.put, List.setIfInBounds_toArray, List.set_cons_zero, List.set_cons_succ]
            refine takeH_to (i := 7) (v := .pointer (some ⟨wr.heap.size + 1, 0, none⟩)) (some 35) rfl rfl (by kernel_rfl) (by kernel_rfl) (by kernel_rfl) (fun _ _ _ h => h) (Or.inl ⟨by rfl, fun u hu => by (try dsimp only at hu); (try obtain ⟨hu1, hu2⟩ := hu); go_simp <;> (first | rfl | omega)⟩) (by assumption) ?_
            try simp only [Act.put, List.setIfInBounds_toArray, List.set_cons_zero, List.set_cons_succ]
            refine wpAnyH_ready (rs := [8]) (by kernel_rfl) (by simp) ?_
            refine AllReadyH.cons rfl (fun K hK => ?_) AllReadyH.nil
            rw [if_pos (by rfl)]
            go_simp
            refine hK.out _ _ (CZ.out _ bb) (fun hHeld => ?_)
            clear hK K
            try simp only [Act.put, List.setIfInBounds_toArray, List.set_cons_zero, List.set_cons_succ]
            refine takeH_to (i := 11) (v := .agg #[.int .u8 6, .string ⟨#[]⟩, .string ⟨#[]⟩, .int .i64 x.n, .int .i64 0, .int .i64 0]) (some 39) rfl rfl (by kernel_rfl) (by kernel_rfl) (by kernel_rfl) (fun _ _ _ h => h) (Or.inl ⟨by rfl, fun u hu => by (try dsimp only at hu); (try obtain ⟨hu1, hu2⟩ := hu); go_simp <;> (first | rfl | omega)⟩) (by assumption) ?_
            try simp only [Act.put, List.setIfInBounds_toArray, List.set_cons_zero, List.set_cons_succ]
            refine wpAnyH_ready (rs := [12]) (by kernel_rfl) (by simp) ?_
            refine AllReadyH.cons rfl (fun K hK => ?_) AllReadyH.nil
            rw [if_pos (by rfl)]
            go_simp
            go_at_call 21
            refine (DO.out _ TZ.out.both (by have := TZ.out.cnt; omega)).mono ?_
            rintro e w5 ⟨rfl, hD⟩
            obtain ⟨d5, r5, T5⟩ := TZ.out.deed hD (TA.out.kn.crash TA.out.both.ok x.n)
            have C5 : w5.cell? ⟨wr.heap.size, 0, none⟩ = some (.int .u8 x.kind) ∧ w5.cell? ⟨wr.heap.size, 1, none⟩ = some (.int .i64 x.n) := by
              obtain ⟨_, _, _, _, _, st⟩ := hD
              have hS : SdAt ((wr.alloc (.cells x.cells 44)).drew.alloc (.cells #[.int .u8 6, .int .u8 9, .int .u8 7] 5)) wr.heap.size x := (bb.block _ SA.out.lt).trans SA.out
              exact (hS.step st (fun hm => by
                rcases List.mem_append.1 hm with e | e
                · exact NF.out e
                · exact NR.out e)).cells
            have T6 := asd T5
            clear hD T5
            go_simp
            refine hK.out _ _ C5 (fun hHeld => ?_)
            clear hK K
            try simp only [Act.put, List.setIfInBounds_toArray, List.set_cons_zero, List.set_cons_succ]
            refine takeH_to (i := 13) (v := .bool true) (some 8) rfl rfl (by kernel_rfl) (by kernel_rfl) (by kernel_rfl) (fun _ _ _ h => h) (Or.inl ⟨by rfl, fun u hu => by (try dsimp only at hu); (try obtain ⟨hu1, hu2⟩ := hu); go_simp <;> (first | rfl | omega)⟩) (by assumption) ?_
            try simp only [Act.put, List.setIfInBounds_toArray, List.set_cons_zero, List.set_cons_succ]
            refine wpAnyH_done (by kernel_rfl) ?_ _
            go_wp2_with fail
            go_meet
            exact ⟨now, d5, r5, rfl, rfl, T6.out⟩
        · as_aux_lemma =>
            have qT : x.kind.tmod 6 = 4 := by rw [Int.tmod_eq_emod_of_nonneg hk0]; exact hq
            go_wp2
            have bD : Below (wr.alloc (.cells x.cells 44)).heap.size (wr.alloc (.cells x.cells 44)) (wr.alloc (.cells x.cells 44)).drew := ⟨rfl, rfl, rfl, Nat.le_refl _, fun _ _ => rfl⟩
            have bZ : Below (wr.alloc (.cells x.cells 44)).drew.heap.size (wr.alloc (.cells x.cells 44)).drew ((wr.alloc (.cells x.cells 44)).drew.alloc (.cells #[.int .u8 6, .int .u8 9, .int .u8 7] 5)) := (Below.refl _ _).alloc (Nat.le_refl _) _
            have bb : Below (wr.alloc (.cells x.cells 44)).heap.size (wr.alloc (.cells x.cells 44)) ((wr.alloc (.cells x.cells 44)).drew.alloc (.cells #[.int .u8 6, .int .u8 9, .int .u8 7] 5)) := bD.trans (bZ.mono bD.size)
            have TZ := asd (TA.out.later bb)
            have CZ : Aside (∀ u : World, Below (wr.alloc (.cells x.cells 44)).heap.size (wr.alloc (.cells x.cells 44)) u → u.cell? ⟨wr.heap.size, 0, none⟩ = some (.int .u8 x.kind) ∧ u.cell? ⟨wr.heap.size, 1, none⟩ = some (.int .i64 x.n)) := fun u hu => SdAt.cells (x := x) ((hu.block _ SA.out.lt).trans SA.out)
            have DO := asd (fun (u : World) (hB : Dk.Both u B b c d r) (hc : r.count ≤ 100000) => Dk.do_fuse2 hB ⟨9, ⟨#[]⟩, ⟨#[]⟩, x.n, 0, 0⟩ (show (9 : Int) % 10 = 9 by decide) (show (0 : Int) ≤ 9 by decide) (show (9 : Int) ≤ 255 by decide) hc (show (0 : Nat) ≤ 101 by decide) (show (0 : Nat) ≤ 101 by decide) FF.out.n)
            have cd := CZ.out _ bD
            refine wp_region_held_drew (S := (fun u => u.cell? ⟨wr.heap.size, 0, none⟩ = some (.int .u8 x.kind) ∧ u.cell? ⟨wr.heap.size, 1, none⟩ = some (.int .i64 x.n))) (by kernel_rfl) cd (fun hHeld => ?_)
            change wpAnyH _ _ _ _ _ _ _ _ (World.drew _)
            refine takeH_to (i := 0) (v := .pointer (some ⟨b, 0, none⟩)) (some 28) rfl rfl (by kernel_rfl) (by kernel_rfl) (by kernel_rfl) (fun _ _ _ h => h) (Or.inl ⟨by rfl, fun u hu => by (try dsimp only at hu); (try obtain ⟨hu1, hu2⟩ := hu); go_simp <;> (first | rfl | omega)⟩) (by assumption) ?_
            try simp only [Act.put, List.setIfInBounds_toArray, List.set_cons_zero, List.set_cons_succ]
            refine takeH_to (i := 1) (v := .pointer (some ⟨c, 0, none⟩)) (some 29) rfl rfl (by kernel_rfl) (by kernel_rfl) (by kernel_rfl) (fun _ _ _ h => h) (Or.inl ⟨by rfl, fun u hu => by (try dsimp only at hu); (try obtain ⟨hu1, hu2⟩ := hu); go_simp <;> (first | rfl | omega)⟩) (by assumption) ?_
            try simp only [Act.put, List.setIfInBounds_toArray, List.set_cons_zero, List.set_cons_succ]
            refine takeH_to (i := 3) (v := .pointer (some ⟨wr.heap.size, 0, none⟩)) (some 31) rfl rfl (by kernel_rfl) (by kernel_rfl) (by kernel_rfl) (fun _ _ _ h => h) (Or.inl ⟨by rfl, fun u hu => by (try dsimp only at hu); (try obtain ⟨hu1, hu2⟩ := hu); go_simp <;> (first | rfl | omega)⟩) (by assumption) ?_
            try simp only [Act.put, List.setIfInBounds_toArray, List.set_cons_zero, List.set_cons_succ]
            refine takeH_to (i := 4) (v := .int .u8 x.kind) (some 32) rfl rfl (by kernel_rfl) (by kernel_rfl) (by kernel_rfl) (fun _ _ _ h => h) (Or.inl ⟨by rfl, fun u hu => by (try dsimp only at hu); (try obtain ⟨hu1, hu2⟩ := hu); go_simp <;> (first | rfl | omega)⟩) (by assumption) ?_
            try simp only [Act.put, List.setIfInBounds_toArray, List.set_cons_zero, List.set_cons_succ]
            refine takeH_to (i := 5) (v := .int .u8 4) (some 33) rfl rfl (by kernel_rfl) (by kernel_rfl) (by kernel_rfl) (fun _ _ _ h => h) (Or.inl ⟨by rfl, fun u hu => by (try dsimp only at hu); (try obtain ⟨hu1, hu2⟩ := hu); go_simp <;> (first | rfl | omega)⟩) (by assumption) ?_
            try simp only [Act.put, List.setIfInBounds_toArray, List.set_cons_zero, List.set_cons_succ]
            refine takeH_to (i := 6) (v := .int .u8 1) (some 34) rfl rfl (by kernel_rfl) (by kernel_rfl) (by kernel_rfl) (fun _ _ _ h => h) (Or.inl ⟨by rfl, fun u hu => by (try dsimp only at hu); (try obtain ⟨hu1, hu2⟩ := hu); go_simp <;> (first | rfl | omega)⟩) (by assumption) ?_
            try simp only [Act.put, List.setIfInBounds_toArray, List.set_cons_zero, List.set_cons_succ]
            refine takeH_to (i := 9) (v := .pointer (some ⟨wr.heap.size, 1, none⟩)) (some 37) rfl rfl (by kernel_rfl) (by kernel_rfl) (by kernel_rfl) (fun _ _ _ h => h) (Or.inl ⟨by rfl, fun u hu => by (try dsimp only at hu); (try obtain ⟨hu1, hu2⟩ := hu); go_simp <;> (first | rfl | omega)⟩) (by assumption) ?_
            try simp only [Act.put, List.setIfInBounds_toArray, List.set_cons_zero, List.set_cons_succ]
            refine takeH_to (i := 10) (v := .int .i64 x.n) (some 38) rfl rfl (by kernel_rfl) (by kernel_rfl) (by kernel_rfl) (fun _ _ _ h => h) (Or.inl ⟨by rfl, fun u hu => by (try dsimp only at hu); (try obtain ⟨hu1, hu2⟩ := hu); go_simp <;> (first | rfl | omega)⟩) (by assumption) ?_
            try simp only [Act.put, List.setIfInBounds_toArray, List.set_cons_zero, List.set_cons_succ]
            refine wpAnyH_ready (rs := [2]) (by kernel_rfl) (by simp) ?_
            refine AllReadyH.cons rfl (fun K hK => ?_) AllReadyH.nil
            rw [if_pos (by rfl)]
            go_simp
            refine hK.out _ _ (CZ.out _ bb) (fun hHeld => ?_)
            clear hK K
            try simp only [Act.put, List.setIfInBounds_toArray, List.set_cons_zero, List.set_cons_succ]
            refine takeH_to (i := 7) (v := .pointer (some ⟨wr.heap.size + 1, 1, none⟩)) (some 35) rfl rfl (by kernel_rfl) (by kernel_rfl) (by kernel_rfl) (fun _ _ _ h => h) (Or.inl ⟨by rfl, fun u hu => by (try dsimp only at hu); (try obtain ⟨hu1, hu2⟩ := hu); go_simp <;> (first | rfl | omega)⟩) (by assumption) ?_
            try simp only [Act.put, List.setIfInBounds_toArray, List.set_cons_zero, List.set_cons_succ]
            refine wpAnyH_ready (rs := [8]) (by kernel_rfl) (by simp) ?_
            refine AllReadyH.cons rfl (fun K hK => ?_) AllReadyH.nil
            rw [if_pos (by rfl)]
            go_simp
            refine hK.out _ _ (CZ.out _ bb) (fun hHeld => ?_)
            clear hK K
            try simp only [Act.put, List.setIfInBounds_toArray, List.set_cons_zero, List.set_cons_succ]
            refine takeH_to (i := 11) (v := .agg #[.int .u8 9, .string ⟨#[]⟩, .string ⟨#[]⟩, .int .i64 x.n, .int .i64 0, .int .i64 0]) (some 39) rfl rfl (by kernel_rfl) (by kernel_rfl) (by kernel_rfl) (fun _ _ _ h => h) (Or.inl ⟨by rfl, fun u hu => by (try dsimp only at hu); (try obtain ⟨hu1, hu2⟩ := hu); go_simp <;> (first | rfl | omega)⟩) (by assumption) ?_
            try simp only [Act.put, List.setIfInBounds_toArray, List.set_cons_zero, List.set_cons_succ]
            refine wpAnyH_ready (rs := [12]) (by kernel_rfl) (by simp) ?_
            refine AllReadyH.cons rfl (fun K hK => ?_) AllReadyH.nil
            rw [if_pos (by rfl)]
            go_simp
            go_at_call 21
            refine (DO.out _ TZ.out.both (by have := TZ.out.cnt; omega)).mono ?_
            rintro e w5 ⟨rfl, hD⟩
            obtain ⟨d5, r5, T5⟩ := TZ.out.deed hD (TA.out.kn.same (mt_fuse _ _))
            have C5 : w5.cell? ⟨wr.heap.size, 0, none⟩ = some (.int .u8 x.kind) ∧ w5.cell? ⟨wr.heap.size, 1, none⟩ = some (.int .i64 x.n) := by
              obtain ⟨_, _, _, _, _, st⟩ := hD
              have hS : SdAt ((wr.alloc (.cells x.cells 44)).drew.alloc (.cells #[.int .u8 6, .int .u8 9, .int .u8 7] 5)) wr.heap.size x := (bb.block _ SA.out.lt).trans SA.out
              exact (hS.step st (fun hm => by
                rcases List.mem_append.1 hm with e | e
                · exact NF.out e
                · exact NR.out e)).cells
            have T6 := asd T5
            clear hD T5
            go_simp
            refine hK.out _ _ C5 (fun hHeld => ?_)
            clear hK K
            try simp only [Act.put, List.setIfInBounds_toArray, List.set_cons_zero, List.set_cons_succ]
            refine takeH_to (i := 13) (v := .bool true) (some 8) rfl rfl (by kernel_rfl) (by kernel_rfl) (by kernel_rfl) (fun _ _ _ h => h) (Or.inl ⟨by rfl, fun u hu => by (try dsimp only at hu); (try obtain ⟨hu1, hu2⟩ := hu); go_simp <;> (first | rfl | omega)⟩) (by assumption) ?_
            try simp only [Act.put, List.setIfInBounds_toArray, List.set_cons_zero, List.set_cons_succ]
            refine wpAnyH_done (by kernel_rfl) ?_ _
            go_wp2_with fail
            go_meet
            exact ⟨now, d5, r5, rfl, rfl, T6.out⟩
        · as_aux_lemma =>
            have qT : x.kind.tmod 6 = 5 := by rw [Int.tmod_eq_emod_of_nonneg hk0]; exact hq
            go_wp2
            have bD : Below (wr.alloc (.cells x.cells 44)).heap.size (wr.alloc (.cells x.cells 44)) (wr.alloc (.cells x.cells 44)).drew := ⟨rfl, rfl, rfl, Nat.le_refl _, fun _ _ => rfl⟩
            have bZ : Below (wr.alloc (.cells x.cells 44)).drew.heap.size (wr.alloc (.cells x.cells 44)).drew ((wr.alloc (.cells x.cells 44)).drew.alloc (.cells #[.int .u8 6, .int .u8 9, .int .u8 7] 5)) := (Below.refl _ _).alloc (Nat.le_refl _) _
            have bb : Below (wr.alloc (.cells x.cells 44)).heap.size (wr.alloc (.cells x.cells 44)) ((wr.alloc (.cells x.cells 44)).drew.alloc (.cells #[.int .u8 6, .int .u8 9, .int .u8 7] 5)) := bD.trans (bZ.mono bD.size)
            have TZ := asd (TA.out.later bb)
            have CZ : Aside (∀ u : World, Below (wr.alloc (.cells x.cells 44)).heap.size (wr.alloc (.cells x.cells 44)) u → u.cell? ⟨wr.heap.size, 0, none⟩ = some (.int .u8 x.kind) ∧ u.cell? ⟨wr.heap.size, 1, none⟩ = some (.int .i64 x.n)) := fun u hu => SdAt.cells (x := x) ((hu.block _ SA.out.lt).trans SA.out)
            have DO := asd (fun (u : World) (hB : Dk.Both u B b c d r) (hc : r.count ≤ 100000) => Dk.do_room2 hB ⟨7, ⟨#[]⟩, ⟨#[]⟩, x.n, 0, 0⟩ (show (7 : Int) % 10 = 7 by decide) (show (0 : Int) ≤ 7 by decide) (show (7 : Int) ≤ 255 by decide) hc (show (0 : Nat) ≤ 101 by decide) (show (0 : Nat) ≤ 101 by decide) FF.out.n)
            have cd := CZ.out _ bD
            refine wp_region_held_drew (S := (fun u => u.cell? ⟨wr.heap.size, 0, none⟩ = some (.int .u8 x.kind) ∧ u.cell? ⟨wr.heap.size, 1, none⟩ = some (.int .i64 x.n))) (by kernel_rfl) cd (fun hHeld => ?_)
            change wpAnyH _ _ _ _ _ _ _ _ (World.drew _)
            refine takeH_to (i := 0) (v := .pointer (some ⟨b, 0, none⟩)) (some 28) rfl rfl (by kernel_rfl) (by kernel_rfl) (by kernel_rfl) (fun _ _ _ h => h) (Or.inl ⟨by rfl, fun u hu => by (try dsimp only at hu); (try obtain ⟨hu1, hu2⟩ := hu); go_simp <;> (first | rfl | omega)⟩) (by assumption) ?_
            try simp only [Act.put, List.setIfInBounds_toArray, List.set_cons_zero, List.set_cons_succ]
            refine takeH_to (i := 1) (v := .pointer (some ⟨c, 0, none⟩)) (some 29) rfl rfl (by kernel_rfl) (by kernel_rfl) (by kernel_rfl) (fun _ _ _ h => h) (Or.inl ⟨by rfl, fun u hu => by (try dsimp only at hu); (try obtain ⟨hu1, hu2⟩ := hu); go_simp <;> (first | rfl | omega)⟩) (by assumption) ?_
            try simp only [Act.put, List.setIfInBounds_toArray, List.set_cons_zero, List.set_cons_succ]
            refine takeH_to (i := 3) (v := .pointer (some ⟨wr.heap.size, 0, none⟩)) (some 31) rfl rfl (by kernel_rfl) (by kernel_rfl) (by kernel_rfl) (fun _ _ _ h => h) (Or.inl ⟨by rfl, fun u hu => by (try dsimp only at hu); (try obtain ⟨hu1, hu2⟩ := hu); go_simp <;> (first | rfl | omega)⟩) (by assumption) ?_
            try simp only [Act.put, List.setIfInBounds_toArray, List.set_cons_zero, List.set_cons_succ]
            refine takeH_to (i := 4) (v := .int .u8 x.kind) (some 32) rfl rfl (by kernel_rfl) (by kernel_rfl) (by kernel_rfl) (fun _ _ _ h => h) (Or.inl ⟨by rfl, fun u hu => by (try dsimp only at hu); (try obtain ⟨hu1, hu2⟩ := hu); go_simp <;> (first | rfl | omega)⟩) (by assumption) ?_
            try simp only [Act.put, List.setIfInBounds_toArray, List.set_cons_zero, List.set_cons_succ]
            refine takeH_to (i := 5) (v := .int .u8 5) (some 33) rfl rfl (by kernel_rfl) (by kernel_rfl) (by kernel_rfl) (fun _ _ _ h => h) (Or.inl ⟨by rfl, fun u hu => by (try dsimp only at hu); (try obtain ⟨hu1, hu2⟩ := hu); go_simp <;> (first | rfl | omega)⟩) (by assumption) ?_
            try simp only [Act.put, List.setIfInBounds_toArray, List.set_cons_zero, List.set_cons_succ]
            refine takeH_to (i := 6) (v := .int .u8 2) (some 34) rfl rfl (by kernel_rfl) (by kernel_rfl) (by kernel_rfl) (fun _ _ _ h => h) (Or.inl ⟨by rfl, fun u hu => by (try dsimp only at hu); (try obtain ⟨hu1, hu2⟩ := hu); go_simp <;> (first | rfl | omega)⟩) (by assumption) ?_
            try simp only [Act.put, List.setIfInBounds_toArray, List.set_cons_zero, List.set_cons_succ]
            refine takeH_to (i := 9) (v := .pointer (some ⟨wr.heap.size, 1, none⟩)) (some 37) rfl rfl (by kernel_rfl) (by kernel_rfl) (by kernel_rfl) (fun _ _ _ h => h) (Or.inl ⟨by rfl, fun u hu => by (try dsimp only at hu); (try obtain ⟨hu1, hu2⟩ := hu); go_simp <;> (first | rfl | omega)⟩) (by assumption) ?_
            try simp only [Act.put, List.setIfInBounds_toArray, List.set_cons_zero, List.set_cons_succ]
            refine takeH_to (i := 10) (v := .int .i64 x.n) (some 38) rfl rfl (by kernel_rfl) (by kernel_rfl) (by kernel_rfl) (fun _ _ _ h => h) (Or.inl ⟨by rfl, fun u hu => by (try dsimp only at hu); (try obtain ⟨hu1, hu2⟩ := hu); go_simp <;> (first | rfl | omega)⟩) (by assumption) ?_
            try simp only [Act.put, List.setIfInBounds_toArray, List.set_cons_zero, List.set_cons_succ]
            refine wpAnyH_ready (rs := [2]) (by kernel_rfl) (by simp) ?_
            refine AllReadyH.cons rfl (fun K hK => ?_) AllReadyH.nil
            rw [if_pos (by rfl)]
            go_simp
            refine hK.out _ _ (CZ.out _ bb) (fun hHeld => ?_)
            clear hK K
            try simp only [Act.put, List.setIfInBounds_toArray, List.set_cons_zero, List.set_cons_succ]
            refine takeH_to (i := 7) (v := .pointer (some ⟨wr.heap.size + 1, 2, none⟩)) (some 35) rfl rfl (by kernel_rfl) (by kernel_rfl) (by kernel_rfl) (fun _ _ _ h => h) (Or.inl ⟨by rfl, fun u hu => by (try dsimp only at hu); (try obtain ⟨hu1, hu2⟩ := hu); go_simp <;> (first | rfl | omega)⟩) (by assumption) ?_
            try simp only [Act.put, List.setIfInBounds_toArray, List.set_cons_zero, List.set_cons_succ]
            refine wpAnyH_ready (rs := [8]) (by kernel_rfl) (by simp) ?_
            refine AllReadyH.cons rfl (fun K hK => ?_) AllReadyH.nil
            rw [if_pos (by rfl)]
            go_simp
            refine hK.out _ _ (CZ.out _ bb) (fun hHeld => ?_)
            clear hK K
            try simp only [Act.put, List.setIfInBounds_toArray, List.set_cons_zero, List.set_cons_succ]
            refine takeH_to (i := 11) (v := .agg #[.int .u8 7, .string ⟨#[]⟩, .string ⟨#[]⟩, .int .i64 x.n, .int .i64 0, .int .i64 0]) (some 39) rfl rfl (by kernel_rfl) (by kernel_rfl) (by kernel_rfl) (fun _ _ _ h => h) (Or.inl ⟨by rfl, fun u hu => by (try dsimp only at hu); (try obtain ⟨hu1, hu2⟩ := hu); go_simp <;> (first | rfl | omega)⟩) (by assumption) ?_
            try simp only [Act.put, List.setIfInBounds_toArray, List.set_cons_zero, List.set_cons_succ]
            refine wpAnyH_ready (rs := [12]) (by kernel_rfl) (by simp) ?_
            refine AllReadyH.cons rfl (fun K hK => ?_) AllReadyH.nil
            rw [if_pos (by rfl)]
            go_simp
            go_at_call 21
            refine (DO.out _ TZ.out.both (by have := TZ.out.cnt; omega)).mono ?_
            rintro e w5 ⟨rfl, hD⟩
            obtain ⟨d5, r5, T5⟩ := TZ.out.deed hD (TA.out.kn.same rfl)
            have C5 : w5.cell? ⟨wr.heap.size, 0, none⟩ = some (.int .u8 x.kind) ∧ w5.cell? ⟨wr.heap.size, 1, none⟩ = some (.int .i64 x.n) := by
              obtain ⟨_, _, _, _, _, st⟩ := hD
              have hS : SdAt ((wr.alloc (.cells x.cells 44)).drew.alloc (.cells #[.int .u8 6, .int .u8 9, .int .u8 7] 5)) wr.heap.size x := (bb.block _ SA.out.lt).trans SA.out
              exact (hS.step st (fun hm => by
                rcases List.mem_append.1 hm with e | e
                · exact NF.out e
                · exact NR.out e)).cells
            have T6 := asd T5
            clear hD T5
            go_simp
            refine hK.out _ _ C5 (fun hHeld => ?_)
            clear hK K
            try simp only [Act.put, List.setIfInBounds_toArray, List.set_cons_zero, List.set_cons_succ]
            refine takeH_to (i := 13) (v := .bool true) (some 8) rfl rfl (by kernel_rfl) (by kernel_rfl) (by kernel_rfl) (fun _ _ _ h => h) (Or.inl ⟨by rfl, fun u hu => by (try dsimp only at hu); (try obtain ⟨hu1, hu2⟩ := hu); go_simp <;> (first | rfl | omega)⟩) (by assumption) ?_
            try simp only [Act.put, List.setIfInBounds_toArray, List.set_cons_zero, List.set_cons_succ]
            refine wpAnyH_done (by kernel_rfl) ?_ _
            go_wp2_with fail
            go_meet
            exact ⟨now, d5, r5, rfl, rfl, T6.out⟩
      case rest =>
      obtain ⟨now', d', r', rfl, rfl, T⟩ := hcut
      have KR := asd (fun (u : World) (hu : MT W B b c (k + 1) d' r' now' u) => dmread hu.dsk)
      have ER := asd (Kn.read T.out.kn T.out.both.ok)
      have q5 : (now' != now') = false := by unfold bne; rw [beq_self_eq_true]; rfl
      rw [ER.out] at KR
      clear SA FF hk0 hk1 c0 c1 TA NF NR
      go_wp2_with (first
        | (go_at_call 10; refine (KR.out _ T.out).mono ?_; rintro e w4 ⟨rfl, b4⟩; have T4 := asd (T.out.later b4); clear b4)
        | (go_at_call 22; refine (Dk.same_any T4.out.both (by have := T4.out.cnt; omega)).mono ?_; rintro e w5 ⟨rfl, b5⟩; have T5 := asd (T4.out.later b5); clear b5))
      go_roundg (n - (k + 1))
      case measure => omega
      case rel => exact ⟨k + 1, now', d', r', Nat.le_refl _, by omega, by go_num, rfl, T5⟩
    · obtain rfl : k = n := by omega
      have q3 : decide (k < k) = false := by simp
      have BB := asd BE
      clear R BE
      go_wp2_with (first
        | (go_at_call 9; refine (mwrite_nil _ _).mono ?_; rintro e w4 ⟨rfl, rfl⟩)
        | (go_at_call 19; refine (mclean_nil _).mono ?_; rintro e w5 ⟨rfl, rfl⟩))
      go_ret
      exact ⟨rfl, BB.out⟩
end Go.Proofs.Ytnmamaeoghgegaa
