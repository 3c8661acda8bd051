/-
  YtpeioecpilmpiaaGreatDoor: the texts G4, O1, O2, O3, one behind the other.
-/
import Derived.Test.YtpeioecpilmpiaaGreatDoorMF29
import Derived.WalkKit
import Derived.WalkSpells
import Derived.WalkLawsBesides
import Derived.Deep.LoopGhost
import Derived.Laws.Externs
import Derived.Below
import Derived.BigQuiet
import Derived.Deep.RegionWith
import Derived.OwnWalk
import Derived.Maps.AppendAt
import Derived.WalkSmall
/-
  The document's list: too deep.
-/
namespace Go.Proofs.YtpeioecpilmpiaaGreatDoor
open Go.RowKit
set_option maxHeartbeats 8000000 in
set_option maxRecDepth 100000 in
/-- A list that lies too deep. -/
theorem dlist_top (r : Nat) (s : ByteArray) (p : Nat) (w : World) (h : Rq r s p 8 0 w) (hp : p < s.size) (hs : s.size ≤ 1000) :
    Calls Tryz.prog 38 #[.pointer (some ⟨r, 0, none⟩)] w fun en w' => ∃ q, en = .returned (.agg (vc6 5 [91, 93] [] 0 noS noS)) ∧ Rq r s q 9 10 w' ∧ w.grownBy w' (some r) ∧ q ≤ s.size := by
  have rlt := h.lt
  have BV0 := asd (bv0 w)
  have L0 := asd (LW.start h (vc6 5 [] [] 0 noS noS))
  have KO := asd (fun w1 h1 => dopen_any r s p 8 w1 h1 hp hs (by omega))
  have hq0 := sk_le s (p + 1)
  generalize sk s (p + 1) = q0 at *
  rw [if_pos rfl] at KO
  have IZ : iz s q0 10 93 = false := iz_bad _ _ _ _ (by decide)
  clear h
  go_enter Tryz.func38, Tryz.ntmps38
  go_wp2_with (first
    | (refine wpList_store_row rfl 28 _ _ rfl _ (vc6 5 [] [] 0 noS noS) rfl rfl 28 _ BV0.out (sz28 _ _ _ _ _ _) rfl (vc6_one _ _ _ _ _ _ rfl rfl) ?_; generalize hwA : World.setRow _ (w.heap.size + 1) _ = wA; have A0 : Aside (LW r s (vc6 5 [] [] 0 noS noS) w p 8 0 wA) := (by rw [← hwA]; exact L0); clear hwA L0 BV0)
    | (go_at_call 56; refine (KO.out _ A0.out.rq).mono ?_; rintro en w1 ⟨rfl, h1, g1⟩; have A1 := asd (A0.out.next rlt g1 h1); clear h1 g1 A0 KO)
    | (go_at_call 36; refine (is_any r s q0 (8 + 1) 10 93 _ A1.out.rq).mono ?_; rw [IZ]; rintro en w2 ⟨rfl, h2, g2⟩; have A2 := asd (A1.out.next rlt ⟨g2.os, g2.tape, g2.output, g2.size, fun k hk _ => g2.block k hk (fun e => by cases e)⟩ h2); clear h2 g2 A1))
  go_loopg [] 0 (fun gh wr => Aside (LW r s (vc6 5 [] [] 0 noS noS) w q0 9 10 wr))
  case atStart => exact A2.out
  case round =>
    clear A2
    have LR : Aside (LW r s (vc6 5 [] [] 0 noS noS) w q0 9 10 wr) := hrel
    clear hrel
    have c3 : wr.cell? ⟨r, 3, none⟩ = some (.int .i64 10) := LR.out.rq.c3
    go_wp2_with fail
    go_loopg [4] 0 (fun gh s4 wj => s4 = .int .i64 0 ∧ Aside (LW r s (vc6 5 [] [] 0 noS noS) w q0 9 10 wj))
    case atStart => exact ⟨rfl, LR.out⟩
    case round =>
      obtain ⟨rfl, LJ⟩ := hrel
      clear LR c3
      have j5 : wr.cell? ⟨w.heap.size + 1, 5, none⟩ = some (.slice none 0 0) := LJ.out.bv.cell 5
      have j1 : wr.cell? ⟨w.heap.size + 1, 1, none⟩ = some (.string (bs [])) := LJ.out.bv.cell 1
      have jf := LJ.out.bv.fz 1
      have zl : (bs []).size ≤ 1 := by show 0 ≤ 1; omega
      have LF : Aside (LW r s (vc6 5 [91, 93] [] 0 noS noS) w q0 9 10 (wr.setCell ⟨w.heap.size + 1, 1, none⟩ (.string (bs [91] ++ bs [] ++ bs [93])))) := by
        have EQF : bs [91] ++ bs [] ++ bs [93] = bs [91, 93] := by rw [bs_app, bs_app]; rfl
        rw [EQF]
        have h := LJ.out.set rlt 1 (.string (bs [91, 93]))
        rw [vc6_set1] at h
        exact h
      have p5 : noS.oneCell' = true := rfl
      generalize hA : bs [] = A at *
      clear hA
      go_wp2_with (first
        | (refine wpList_load_row rfl 28 _ rfl _ rfl 28 _ (0, 0) _ LF.out.bv Tryz.underlying28 rfl (sz28 _ _ _ _ _ _) ?_)
        | (refine wpList_store_row rfl 28 _ _ rfl _ (vc6 5 [91, 93] [] 0 noS noS) rfl rfl 28 _ LF.out.bz (sz28 _ _ _ _ _ _) rfl (vc6_one _ _ _ _ _ _ rfl p5) ?_))
      have g4 := grown_row LF.out.gr w.heap.size (vc6 5 [91, 93] [] 0 noS noS) (Nat.le_refl _)
      refine bodyPost_ret (results_cell_row Tryz.results38 _ _ w.heap.size 28 (vc6 5 [91, 93] [] 0 noS noS) (0, 0) _ rfl (setRow_heap _ _ _ _ _ _ LF.out.bz) Tryz.underlying28 rfl (sz28 _ _ _ _ _ _)) rfl ?_
      exact ⟨q0, rfl, LF.out.rq.keep (setRow_other _ _ _ _ (by omega)), g4, hq0⟩
end Go.Proofs.YtpeioecpilmpiaaGreatDoor

/-
  The document's object: nothing in it; too deep.
-/
namespace Go.Proofs.YtpeioecpilmpiaaGreatDoor
open Go.RowKit
/-- How an object ends: its names and its values' forms. -/
def OEnd (T : Except Nat (List (Js.B × Js.X) × Js.B)) (s : ByteArray) (n q e d : Nat) (ns is : List Js.B) : Prop :=
  (∃ l, T = .ok (l, L s q) ∧ e = 0 ∧ d + (n + 1) = 8 ∧ ns = l.map (·.1) ∧ is = l.map (·.2.form)) ∨ (∃ fa, T = .error fa ∧ fa ≠ 0 ∧ e = fa)
/-- Names and forms, as they are written. -/
def pairs (ns is : List Js.B) : List Js.B := List.zipWith (fun a b => Js.quote a ++ 58 :: b) ns is
/-- What an object leaves. -/
def OOutD (r : Nat) (s : ByteArray) (p n : Nat) (w : World) (en : Ending) (w' : World) : Prop :=
  ∃ (q e d : Nat) (nv iv : Value) (ns is : List Js.B), en = .returned (.agg (vc6 6 (123 :: (Js.joins (pairs ns is) ++ [125])) [] 0 nv iv)) ∧ Rq r s q d e w' ∧ w.grownBy w' (some r) ∧ q ≤ s.size ∧ d ≤ 1000 ∧ 8 ≤ d + (n + 1) ∧ Sl w.heap.size w' nv ns ∧ Sl w.heap.size w' iv is ∧ (123 :: (Js.joins (pairs ns is) ++ [125])).length ≤ bnd (n + 1) ∧ OEnd (Js.obT (Js.pv n) (L s (p + 1))) s n q e d ns is

set_option maxHeartbeats 8000000 in
set_option maxRecDepth 100000 in
/-- An empty object. -/
theorem dobj_empty (r : Nat) (s : ByteArray) (p d n : Nat) (w : World) (h : Rq r s p d 0 w) (hp : p < s.size) (hs : s.size ≤ 1000) (hdn : d + (n + 1) = 8) (h125 : iz s (sk s (p + 1)) 0 125 = true) :
    Calls Tryz.prog 37 #[.pointer (some ⟨r, 0, none⟩)] w fun en w' => OOutD r s p n w en w' := by
  have rlt := h.lt
  have BV0 := asd (bv0 w)
  have L0 := asd (LW.start h (vc6 6 [] [] 0 noS noS))
  have KO := asd (fun w1 h1 => dopen_any r s p d w1 h1 hp hs (by omega))
  have HI := asd (iz_true h125)
  have HSK := asd (L_sk s (p + 1))
  have hq1 := iz_le h125
  generalize sk s (p + 1) = q0 at *
  have d8 : ¬ d = 8 := by omega
  rw [if_neg d8] at KO
  have IZ := h125
  clear h h125
  go_enter Tryz.func37, Tryz.ntmps37
  go_wp2_with (first
    | (refine wpList_store_row rfl 28 _ _ rfl _ (vc6 6 [] [] 0 noS noS) rfl rfl 28 _ BV0.out (sz28 _ _ _ _ _ _) rfl (vc6_one _ _ _ _ _ _ rfl rfl) ?_; generalize hwA : World.setRow _ (w.heap.size + 1) _ = wA; have A0 : Aside (LW r s (vc6 6 [] [] 0 noS noS) w p d 0 wA) := (by rw [← hwA]; exact L0); clear hwA L0 BV0)
    | (go_at_call 56; refine (KO.out _ A0.out.rq).mono ?_; rintro en w1 ⟨rfl, h1, g1⟩; have A1 := asd (A0.out.next rlt g1 h1); clear h1 g1 A0 KO)
    | (go_at_call 36; refine (is_any r s q0 (d + 1) 0 125 _ A1.out.rq).mono ?_; rw [IZ]; rintro en w2 ⟨rfl, h2, g2⟩; have A2 := asd (A1.out.next rlt ⟨g2.os, g2.tape, g2.output, g2.size, fun k hk _ => g2.block k hk (fun e => by cases e)⟩ h2); have c1 := A2.out.rq.c1; have f1 := A2.out.rq.fz 1; have A3 := asd (A2.out.next rlt (grown_set w2 r 1 (.int .i64 ((q0 : Int) + 1))) A2.out.rq.inc1); have c2 := A3.out.rq.c2; have f2 := A3.out.rq.fz 2; have A4 := asd (A3.out.next rlt (grown_set (w2.setCell ⟨r, 1, none⟩ (.int .i64 ((q0 : Int) + 1))) r 2 (.int .i64 (d : Int))) (A3.out.rq.set2 d)); have c3 := A4.out.bv.cell 1; have f3 := A4.out.bv.fz 1; have A5 : Aside (LW r s (vc6 6 [123, 125] [] 0 noS noS) w (q0 + 1) d 0 (((w2.setCell ⟨r, 1, none⟩ (.int .i64 ((q0 : Int) + 1))).setCell ⟨r, 2, none⟩ (.int .i64 (d : Int))).setCell ⟨w.heap.size + 1, 1, none⟩ (.string (bs [123, 125])))) := A4.out.set rlt 1 (.string (bs [123, 125])); clear h2 g2 A1)
    | (refine wpList_load_row rfl 28 _ rfl _ rfl 28 _ (0, 0) _ A5.out.bv Tryz.underlying28 rfl (sz28 _ _ _ _ _ _) ?_)
    | (refine wpList_store_row rfl 28 _ _ rfl _ (vc6 6 [123, 125] [] 0 noS noS) rfl rfl 28 _ A5.out.bz (sz28 _ _ _ _ _ _) rfl (vc6_one _ _ _ _ _ _ rfl rfl) ?_))
  have g4 := grown_row A5.out.gr w.heap.size (vc6 6 [123, 125] [] 0 noS noS) (Nat.le_refl _)
  refine bodyPost_ret (results_cell_row Tryz.results37 _ _ w.heap.size 28 (vc6 6 [123, 125] [] 0 noS noS) (0, 0) _ rfl (setRow_heap _ _ _ _ _ _ A5.out.bz) Tryz.underlying28 rfl (sz28 _ _ _ _ _ _)) rfl ?_
  exact ⟨q0 + 1, 0, d, noS, noS, [], [], rfl, A5.out.rq.keep (setRow_other _ _ _ _ (by omega)), g4, hq1, by omega, by omega, sl_nil _ _, sl_nil _ _, (by show 2 ≤ 100000 * (n + 1 + 1); omega), .inl ⟨[], Js.obT_end _ _ _ (by rw [← HSK.out]; exact HI.out.2.2), rfl, hdn, rfl, rfl⟩⟩

set_option maxHeartbeats 8000000 in
set_option maxRecDepth 100000 in
/-- An object that lies too deep. -/
theorem dobj_top (r : Nat) (s : ByteArray) (p : Nat) (w : World) (h : Rq r s p 8 0 w) (hp : p < s.size) (hs : s.size ≤ 1000) :
    Calls Tryz.prog 37 #[.pointer (some ⟨r, 0, none⟩)] w fun en w' => ∃ q, en = .returned (.agg (vc6 6 [123, 125] [] 0 noS noS)) ∧ Rq r s q 9 10 w' ∧ w.grownBy w' (some r) ∧ q ≤ s.size := by
  have rlt := h.lt
  have BV0 := asd (bv0 w)
  have L0 := asd (LW.start h (vc6 6 [] [] 0 noS noS))
  have KO := asd (fun w1 h1 => dopen_any r s p 8 w1 h1 hp hs (by omega))
  have hq0 := sk_le s (p + 1)
  generalize sk s (p + 1) = q0 at *
  rw [if_pos rfl] at KO
  have IZ : iz s q0 10 125 = false := iz_bad _ _ _ _ (by decide)
  clear h
  go_enter Tryz.func37, Tryz.ntmps37
  go_wp2_with (first
    | (refine wpList_store_row rfl 28 _ _ rfl _ (vc6 6 [] [] 0 noS noS) rfl rfl 28 _ BV0.out (sz28 _ _ _ _ _ _) rfl (vc6_one _ _ _ _ _ _ rfl rfl) ?_; generalize hwA : World.setRow _ (w.heap.size + 1) _ = wA; have A0 : Aside (LW r s (vc6 6 [] [] 0 noS noS) w p 8 0 wA) := (by rw [← hwA]; exact L0); clear hwA L0 BV0)
    | (go_at_call 56; refine (KO.out _ A0.out.rq).mono ?_; rintro en w1 ⟨rfl, h1, g1⟩; have A1 := asd (A0.out.next rlt g1 h1); clear h1 g1 A0 KO)
    | (go_at_call 36; refine (is_any r s q0 (8 + 1) 10 125 _ A1.out.rq).mono ?_; rw [IZ]; rintro en w2 ⟨rfl, h2, g2⟩; have A2 := asd (A1.out.next rlt ⟨g2.os, g2.tape, g2.output, g2.size, fun k hk _ => g2.block k hk (fun e => by cases e)⟩ h2); clear h2 g2 A1))
  go_loopg [] 0 (fun gh wr => Aside (LW r s (vc6 6 [] [] 0 noS noS) w q0 9 10 wr))
  case atStart => exact A2.out
  case round =>
    clear A2
    have LR : Aside (LW r s (vc6 6 [] [] 0 noS noS) w q0 9 10 wr) := hrel
    clear hrel
    have c3 : wr.cell? ⟨r, 3, none⟩ = some (.int .i64 10) := LR.out.rq.c3
    go_wp2_with fail
    go_loopg [4] 0 (fun gh s4 wj => s4 = .int .i64 0 ∧ Aside (LW r s (vc6 6 [] [] 0 noS noS) w q0 9 10 wj))
    case atStart => exact ⟨rfl, LR.out⟩
    case round =>
      obtain ⟨rfl, LJ⟩ := hrel
      clear LR c3
      have j5 : wr.cell? ⟨w.heap.size + 1, 4, none⟩ = some (.slice none 0 0) := LJ.out.bv.cell 4
      have j1 : wr.cell? ⟨w.heap.size + 1, 1, none⟩ = some (.string (bs [])) := LJ.out.bv.cell 1
      have jf := LJ.out.bv.fz 1
      have zl : (bs []).size ≤ 1 := by show 0 ≤ 1; omega
      have LF : Aside (LW r s (vc6 6 [123, 125] [] 0 noS noS) w q0 9 10 (wr.setCell ⟨w.heap.size + 1, 1, none⟩ (.string (bs [123] ++ bs [] ++ bs [125])))) := by
        have EQF : bs [123] ++ bs [] ++ bs [125] = bs [123, 125] := by rw [bs_app, bs_app]; rfl
        rw [EQF]
        have h := LJ.out.set rlt 1 (.string (bs [123, 125]))
        rw [vc6_set1] at h
        exact h
      have p5 : noS.oneCell' = true := rfl
      generalize hA : bs [] = A at *
      clear hA
      go_wp2_with (first
        | (refine wpList_load_row rfl 28 _ rfl _ rfl 28 _ (0, 0) _ LF.out.bv Tryz.underlying28 rfl (sz28 _ _ _ _ _ _) ?_)
        | (refine wpList_store_row rfl 28 _ _ rfl _ (vc6 6 [123, 125] [] 0 noS noS) rfl rfl 28 _ LF.out.bz (sz28 _ _ _ _ _ _) rfl (vc6_one _ _ _ _ _ _ rfl p5) ?_))
      have g4 := grown_row LF.out.gr w.heap.size (vc6 6 [123, 125] [] 0 noS noS) (Nat.le_refl _)
      refine bodyPost_ret (results_cell_row Tryz.results37 _ _ w.heap.size 28 (vc6 6 [123, 125] [] 0 noS noS) (0, 0) _ rfl (setRow_heap _ _ _ _ _ _ LF.out.bz) Tryz.underlying28 rfl (sz28 _ _ _ _ _ _)) rfl ?_
      exact ⟨q0, rfl, LF.out.rq.keep (setRow_other _ _ _ _ (by omega)), g4, hq0⟩
end Go.Proofs.YtpeioecpilmpiaaGreatDoor

/-
  The document's object: what it says of the text.
-/
namespace Go.Proofs.YtpeioecpilmpiaaGreatDoor
open Go.RowKit
theorem ins_forms (l : List (Js.B × Js.X)) (n : Js.B) (x : Js.X) : (Js.ins l n x).map (·.2.form) = (l.map (·.2.form)).take (Js.place (l.map (·.1)) n) ++ x.form :: (l.map (·.2.form)).drop (Js.place (l.map (·.1)) n) := by
  unfold Js.ins
  rw [List.map_append, List.map_cons, List.map_take, List.map_drop]

/-- What a member's reading says of the text. -/
def MX (n : Nat) (s : ByteArray) (p q e d : Nat) (ns is ns' is' : List Js.B) : Prop :=
  (∃ name x, obS (Js.pv n) (L s p) ns = .ok (name, x, L s q) ∧ name ∉ ns ∧ e = 0 ∧ d + n = 8 ∧ ns' = ns.take (Js.place ns name) ++ name :: ns.drop (Js.place ns name) ∧ is' = is.take (Js.place ns name) ++ x.form :: is.drop (Js.place ns name)) ∨
    (∃ fa, obS (Js.pv n) (L s p) ns = .error fa ∧ fa ≠ 0 ∧ (e = fa ∨ (fa = 3 ∧ e = 0 ∧ d + n = 8 ∧ q < s.size ∧ Js.isDg (s.get! q) = true)))

theorem ox_more {n : Nat} {s : ByteArray} {T : Except Nat (List (Js.B × Js.X) × Js.B)} {p q e d : Nat} {ns' is' : List Js.B} {l : List (Js.B × Js.X)} (hT : Js.obx (Js.pv n) (L s p) l = T) (hv : MX n s p q e d (l.map (·.1)) (l.map (·.2.form)) ns' is') (h44 : iz s (sk s q) e 44 = true) :
    e = 0 ∧ d + n = 8 ∧ ∃ name x, ns' = (Js.ins l name x).map (·.1) ∧ is' = (Js.ins l name x).map (·.2.form) ∧ Js.obx (Js.pv n) (L s (sk s q + 1)) (Js.ins l name x) = T ∧ name ∉ l.map (·.1) ∧ obS (Js.pv n) (L s p) (l.map (·.1)) = .ok (name, x, L s q) := by
  obtain ⟨rfl, h1, h2⟩ := iz_true h44
  rw [L_sk] at h2
  rcases hv with ⟨name, x, hx, hm, _, hd, hns, his⟩ | ⟨fa, hx, hfa, he⟩
  · refine ⟨rfl, hd, name, x, by rw [hns, Js.ins_names], by rw [his, ins_forms], ?_, hm, hx⟩
    rw [← hT, obx_obS (Js.pv n) (Js.pv_shr n) (L s p), hx]
    simp only [h2]
  · rcases he with rfl | ⟨_, _, _, hq, hg⟩
    · exact absurd rfl hfa
    · exfalso
      rw [sk_dg hq hg, iz_dg hg (by decide)] at h44
      cases h44

theorem ox_end {n : Nat} {s : ByteArray} {T : Except Nat (List (Js.B × Js.X) × Js.B)} {p q e d : Nat} {ns' is' : List Js.B} {l : List (Js.B × Js.X)} (hT : Js.obx (Js.pv n) (L s p) l = T) (hv : MX n s p q e (d + 1) (l.map (·.1)) (l.map (·.2.form)) ns' is') (h44 : iz s (sk s q) e 44 = false) :
    OEnd T s n (if iz s (sk s q) e 125 then sk s q + 1 else sk s q) (if iz s (sk s q) e 125 then e else fl e 3) (if iz s (sk s q) e 125 then d else d + 1) ns' is' := by
  rw [obx_obS (Js.pv n) (Js.pv_shr n) (L s p)] at hT
  rcases hv with ⟨name, x, hx, hm, rfl, hd, hns, his⟩ | ⟨fa, hx, hfa, he⟩
  · rw [hx] at hT
    simp only at hT
    cases h93 : iz s (sk s q) 0 125 with
    | true =>
      obtain ⟨_, h1, h2⟩ := iz_true h93
      rw [L_sk] at h2
      simp only [h2] at hT
      exact .inl ⟨_, hT.symm, rfl, by simp only [if_true]; omega, by rw [hns, Js.ins_names], by rw [his, ins_forms]⟩
    | false =>
      have n1 := iz_false h44
      have n2 := iz_false h93
      rw [L_sk] at n1 n2
      refine .inr ⟨3, ?_, by decide, rfl⟩
      rw [← hT]
      split
      · rename_i r e
        exact absurd e (n1 r)
      · rename_i r e
        exact absurd e (n2 r)
      · rfl
  · rw [hx] at hT
    simp only at hT
    rcases he with rfl | ⟨rfl, rfl, _, hq, hg⟩
    · rw [iz_bad _ _ _ 125 hfa]
      exact .inr ⟨e, hT.symm, hfa, by simp only [Bool.false_eq_true, if_false]; exact fl_bad e 3 hfa⟩
    · rw [sk_dg hq hg, iz_dg hg (by decide)]
      exact .inr ⟨3, hT.symm, by decide, rfl⟩

/-- How a member's reading goes on in the text, and how long it is. -/
theorem obS_adv {n : Nat} {s : ByteArray} {p q : Nat} {ns : List Js.B} {name : Js.B} {x : Js.X} (h : obS (Js.pv n) (L s p) ns = .ok (name, x, L s q)) (hp : p ≤ s.size) (hq : q ≤ s.size) : p < q ∧ (Js.pairB (name, x)).length + p ≤ q := by
  unfold obS at h
  split at h
  · rename_i t e
    split at h
    · cases h
    · rename_i nm r ht
      split at h
      · cases h
      · split at h
        · rename_i r1 e1
          split at h
          · cases h
          · rename_i y r2 hx
            simp only [Except.ok.injEq, Prod.mk.injEq] at h
            obtain ⟨rfl, rfl, rfl⟩ := h
            have a := Js.pv_shr n _ _ _ hx
            have a2 := (Js.pv_bd n _ _ _ hx).1
            have b := Js.skip_len r
            have c := Js.skip_len (L s p)
            have d := Js.txx_len _ _ _ _ ht
            have f := (Js.txx_q _ _ _ _ ht rfl).1
            have g : (Js.q ([] : Js.B)).length = 0 := rfl
            have k : (Js.pairB (nm, y)).length = (Js.q nm).length + 3 + y.form.length := by simp [Js.pairB, Js.quote_q]; omega
            rw [L_len] at a a2
            rw [e1, List.length_cons] at b
            rw [e, List.length_cons, L_len] at c
            rw [k]
            omega
        · cases h
  · cases h
end Go.Proofs.YtpeioecpilmpiaaGreatDoor

/-
  The document's object: names and forms as they are written.
-/
namespace Go.Proofs.YtpeioecpilmpiaaGreatDoor
open Go.RowKit
/-- A name and a form, as they are written. -/
def pair1 (a b : Js.B) : Js.B := Js.quote a ++ 58 :: b
theorem pairs_mem (l : List (Js.B × Js.X)) : pairs (l.map (·.1)) (l.map (·.2.form)) = l.map Js.pairB := by
  induction l with
  | nil => rfl
  | cons m t ih =>
    show (Js.quote m.1 ++ 58 :: m.2.form) :: pairs (t.map (·.1)) (t.map (·.2.form)) = _
    rw [ih]
    rfl
theorem pairs_ins (a b : Js.B) : ∀ (j : Nat) (ns is : List Js.B), ns.length = is.length → pairs (ns.take j ++ a :: ns.drop j) (is.take j ++ b :: is.drop j) = (pairs ns is).take j ++ pair1 a b :: (pairs ns is).drop j
  | 0, ns, is, _ => rfl
  | j + 1, [], [], _ => rfl
  | j + 1, x :: ns, y :: is, h => by
    have := pairs_ins a b j ns is (by simpa using h)
    show (Js.quote x ++ 58 :: y) :: pairs (ns.take j ++ a :: ns.drop j) (is.take j ++ b :: is.drop j) = _
    rw [this]
    rfl
  | _ + 1, [], _ :: _, h => by simp at h
  | _ + 1, _ :: _, [], h => by simp at h
theorem pairs_len (ns is : List Js.B) (h : ns.length = is.length) : (pairs ns is).length = ns.length := by
  unfold pairs
  rw [List.length_zipWith]
  omega
theorem pairs_get (ns is : List Js.B) (i : Nat) (h1 : i < ns.length) (h2 : i < is.length) (h3 : i < (pairs ns is).length) : (pairs ns is)[i] = pair1 ns[i] is[i] := by
  exact List.getElem_zipWith
theorem q_le6 (t : Js.B) : (Js.q t).length ≤ 6 * t.length := by
  induction t with
  | nil => simp [Js.q]
  | cons a r ih =>
    have := (Js.qb_len a).2
    unfold Js.q at ih ⊢
    rw [List.flatMap_cons, List.length_append, List.length_cons]
    omega
theorem S_take_drop (l : List Js.B) (j : Nat) : Js.S (l.take j) + Js.S (l.drop j) = Js.S l := by
  rw [← Js.S_app, List.take_append_drop]
/-- What a member leaves is no longer than this. -/
theorem pairs_bound {_B _r n : Nat} {ns' is' : List Js.B} {l : List (Js.B × Js.X)} {s : ByteArray} {p q e d : Nat} (hq : q ≤ s.size) (hp : p ≤ s.size) (hs : s.size ≤ 1000) (hS : Js.S (l.map Js.pairB) ≤ p)
    (h : (∃ name x, obS (Js.pv n) (L s p) (l.map (·.1)) = .ok (name, x, L s q) ∧ name ∉ l.map (·.1) ∧ e = 0 ∧ d + n = 8 ∧ ns' = (l.map (·.1)).take (Js.place (l.map (·.1)) name) ++ name :: (l.map (·.1)).drop (Js.place (l.map (·.1)) name) ∧ is' = (l.map (·.2.form)).take (Js.place (l.map (·.1)) name) ++ x.form :: (l.map (·.2.form)).drop (Js.place (l.map (·.1)) name)) ∨
      (∃ fa, obS (Js.pv n) (L s p) (l.map (·.1)) = .error fa ∧ fa ≠ 0 ∧ (e = fa ∨ (fa = 3 ∧ e = 0 ∧ d + n = 8 ∧ q < s.size ∧ Js.isDg (s.get! q) = true)) ∧
        ((ns' = l.map (·.1) ∧ is' = l.map (·.2.form)) ∨ ∃ name f j, name.length ≤ 4000 ∧ f.length ≤ bnd n ∧ j ≤ (l.map (·.1)).length ∧ ns' = (l.map (·.1)).take j ++ name :: (l.map (·.1)).drop j ∧ is' = (l.map (·.2.form)).take j ++ f :: (l.map (·.2.form)).drop j))) :
    ns'.length = is'.length ∧ Js.S (pairs ns' is') ≤ 30000 + bnd n ∧ ns'.length ≤ l.length + 1 := by
  have hl : (l.map (·.1)).length = (l.map (·.2.form)).length := by rw [List.length_map, List.length_map]
  have key : ∀ (a b : Js.B) (j : Nat), ((l.map (·.1)).take j ++ a :: (l.map (·.1)).drop j).length = ((l.map (·.2.form)).take j ++ b :: (l.map (·.2.form)).drop j).length ∧
      Js.S (pairs ((l.map (·.1)).take j ++ a :: (l.map (·.1)).drop j) ((l.map (·.2.form)).take j ++ b :: (l.map (·.2.form)).drop j)) = Js.S (l.map Js.pairB) + ((pair1 a b).length + 1) ∧ ((l.map (·.1)).take j ++ a :: (l.map (·.1)).drop j).length ≤ l.length + 1 := fun a b j => by
    refine ⟨?_, ?_, ?_⟩
    · simp only [List.length_append, List.length_cons, List.length_take, List.length_drop, List.length_map]
    · rw [pairs_ins a b j _ _ hl, pairs_mem, Js.S_app, Js.S_cons]
      have := S_take_drop (l.map Js.pairB) j
      omega
    · simp only [List.length_append, List.length_cons, List.length_take, List.length_drop, List.length_map]
      omega
  rcases h with ⟨name, x, h1, _, _, _, rfl, rfl⟩ | ⟨_, _, _, _, ⟨rfl, rfl⟩ | ⟨name, f, j, h1, h2, _, rfl, rfl⟩⟩
  · obtain ⟨a1, a2, a3⟩ := key name x.form (Js.place (l.map (·.1)) name)
    have := (obS_adv h1 hp hq).2
    have e : (pair1 name x.form).length = (Js.pairB (name, x)).length := rfl
    exact ⟨a1, by rw [a2, e]; omega, a3⟩
  · refine ⟨hl, ?_, by rw [List.length_map]; omega⟩
    rw [pairs_mem]
    omega
  · obtain ⟨a1, a2, a3⟩ := key name f j
    have e : (pair1 name f).length ≤ 6 * name.length + 3 + f.length := by
      have h6 := q_le6 name
      unfold pair1
      rw [Js.quote_q]
      simp only [List.length_append, List.length_cons, List.length_nil]
      omega
    exact ⟨a1, by rw [a2]; omega, a3⟩
end Go.Proofs.YtpeioecpilmpiaaGreatDoor
