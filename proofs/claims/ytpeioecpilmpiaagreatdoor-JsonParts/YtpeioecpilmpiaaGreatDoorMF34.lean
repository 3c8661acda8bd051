/-
  YtpeioecpilmpiaaGreatDoor: the texts Y1, X3, X4, X5, X6, X8, one behind the other.
-/
import Derived.Test.YtpeioecpilmpiaaGreatDoorMF33
import Derived.WalkKit
import Derived.WalkSpells
import Derived.WalkLawsBesides
import Derived.Deep.LoopGhost
import Derived.Laws.Externs
import Derived.Below
import Derived.BigQuiet
import Derived.Deep.RegionWith
import Derived.OwnWalk
import Derived.Maps.AppendAt
import Derived.WalkSmall
import Derived.Test.YtpeioecpilmpiaaGreatDoorMF23
/-
  The document's Of: plain, its memory.
-/
namespace Go.Proofs.YtpeioecpilmpiaaGreatDoor
open Go.RowKit
theorem fl_zero : fl 0 3 = 3 := rfl
/-- How the document's reading ends, plain. -/
theorem of_end {s : ByteArray} {q e d : Nat} {k m : Int} {f t : Js.B} {ns is : List Js.B} (hs : s.size ≤ 400) (_hq : q ≤ s.size) (H : VP s 0 8 q e d k f t m ns is) :
    (sk s q = s.size ∧ e = 0 ∧ ∃ x, Js.of s.data.toList = .ok x ∧ k = (x.kind : Int) ∧ f = x.form ∧ t = x.text ∧ m = x.num ∧ ns = x.names ∧ is = x.items) ∨
    (∃ fa, Js.of s.data.toList = .error fa ∧ fa ≠ 0 ∧ ((sk s q < s.size ∧ fl e 3 = fa) ∨ (sk s q = s.size ∧ e = fa))) := by
  have hsz : s.data.toList.length = s.size := rfl
  have hof : Js.of s.data.toList = match Js.pv 8 (L s 0) with
      | .error e => .error e
      | .ok (x, r) => match Js.skip r with
        | [] => .ok x
        | _ => .error 3 := by
    unfold Js.of
    rw [hsz, if_neg (by omega)]
    rfl
  have hk := sk_le s q
  rw [hof]
  rcases H with ⟨x, h1, rfl, _, hx⟩ | ⟨fa, h1, h2, h3⟩
  · rw [h1]
    simp only
    rw [← L_sk]
    by_cases hlt : sk s q < s.size
    · rw [L_cons s _ hlt]
      exact .inr ⟨3, rfl, by decide, .inl ⟨hlt, rfl⟩⟩
    · have he : sk s q = s.size := by omega
      rw [he, L_end s s.size (Nat.le_refl _)]
      exact .inl ⟨rfl, by trivial, x, rfl, hx⟩
  · rw [h1]
    refine .inr ⟨fa, rfl, h2, ?_⟩
    rcases h3 with rfl | ⟨rfl, rfl, _, h5, h6⟩
    · by_cases hlt : sk s q < s.size
      · exact .inl ⟨hlt, fl_bad e 3 h2⟩
      · exact .inr ⟨by omega, rfl⟩
    · rw [sk_dg h5 h6]
      exact .inl ⟨h5, rfl⟩
/-- The document's value of a text, and its fault. -/
def ofP (b : Js.B) : Js.X × Nat := match Js.of b with
  | .ok x => (x, 0)
  | .error e => (Js.nil, e)
/-- A value of the document, in hand. -/
def XV (B : Nat) (w : World) (v : Value) (x : Js.X) : Prop := ∃ nv iv, v = .agg (vc6 (x.kind : Int) x.form x.text x.num nv iv) ∧ Sl B w nv x.names ∧ Sl B w iv x.items
theorem XV.nil (B : Nat) (w : World) : XV B w (.agg z6) Js.nil := ⟨noS, noS, rfl, sl_nil _ _, sl_nil _ _⟩
/-- What Of leaves. -/
def OfO (s : ByteArray) (w : World) (en : Ending) (w' : World) : Prop :=
  ∃ v, en = .returned (.tuple #[v, .int .i64 ((ofP s.data.toList).2 : Int)]) ∧ XV w.heap.size w' v (ofP s.data.toList).1 ∧ Below w.heap.size w w'
/-- The reader, the result's block. -/
structure OW (s : ByteArray) (w : World) (q d e : Nat) (u : World) : Prop where
  rq : Rq (w.heap.size + 1) s q d e u
  bel : Below w.heap.size w u
  bz : Bk u w.heap.size z6
theorem OW.start (s : ByteArray) (w : World) : OW s w 0 0 0 ((w.alloc (.cells z6 28)).alloc (.cells #[.string s, .int .i64 0, .int .i64 0, .int .i64 0] 51)) := by
  have e1 : (w.alloc (.cells z6 28)).heap.size = w.heap.size + 1 := by simp
  have b1 : Below w.heap.size w (w.alloc (.cells z6 28)) := (Below.refl _ _).alloc (Nat.le_refl _) _
  have h := heap_alloc_new (w.alloc (.cells z6 28)) (.cells #[.string s, .int .i64 0, .int .i64 0, .int .i64 0] 51)
  rw [e1] at h
  refine ⟨h, b1.alloc (by omega) _, (Bk.new w z6).keep ?_⟩
  exact alloc_old _ _ _ (by omega)
theorem OW.next {s : ByteArray} {w u u' : World} {q d e q' d' e' : Nat} (h : OW s w q d e u) (g : u.grownBy u' (some (w.heap.size + 1))) (k : Rq (w.heap.size + 1) s q' d' e' u') : OW s w q' d' e' u' :=
  ⟨k, ⟨g.os.trans h.bel.os, g.tape.trans h.bel.tape, g.output.trans h.bel.output, by have := g.size; have := h.bel.size; omega, fun b hb => (g.block b (by have := h.bel.size; omega) (fun e => by injection e; omega)).trans (h.bel.block b hb)⟩, h.bz.grown g (by omega)⟩
theorem OW.below {s : ByteArray} {w u u' : World} {q d e : Nat} (h : OW s w q d e u) (g : Below u.heap.size u u') : OW s w q d e u' := h.next (gbelow g) (h.rq.below h.rq.lt g)
theorem OW.row {s : ByteArray} {w u : World} {q d e : Nat} (h : OW s w q d e u) (c : Array Value) : Below w.heap.size w (u.setRow w.heap.size c) :=
  ⟨h.bel.os, h.bel.tape, h.bel.output, by rw [size_setRow]; exact h.bel.size, fun b hb => (setRow_other u w.heap.size b c (by omega)).trans (h.bel.block b hb)⟩
theorem results_mix {P : Program} {fn : Func} {p q : Tmp} {t1 : TypeId} (h : fn.results = #[.cell p t1, .tmp q]) (tmps : Array Value) (w : World) (a : Addr) (v1 v2 : Value)
    (hp : tmps.getD p undef = .pointer (some a)) (hq : tmps.getD q undef = v2) (l1 : (loadVar t1 a).run P w = .ok v1 w) : (results fn tmps).run P w = .ok (.tuple #[v1, v2]) w := by
  have hp' : tmps[p]?.getD undef = .pointer (some a) := by simpa using hp
  have hq' : tmps[q]?.getD undef = v2 := by simpa using hq
  simp [results, h, hp', hq', asAddr, l1]
end Go.Proofs.YtpeioecpilmpiaaGreatDoor

/-
  A value: an object.
-/
namespace Go.Proofs.YtpeioecpilmpiaaGreatDoor
open Go.RowKit

set_option maxHeartbeats 4000000 in
set_option maxRecDepth 100000 in
theorem dvalue_obj (r : Nat) (s : ByteArray) (p d n : Nat) (w : World) (h : Rq r s p d 0 w) (hp : p ≤ s.size) (hs : s.size ≤ 1000) (hdn : d + n = 8) (m : Nat) (hnm : n = m + 1) (hvc : VCd m) (h123 : iz s (sk s p) 0 123 = true) :
    Calls Tryz.prog 23 #[.pointer (some ⟨r, 0, none⟩)] w fun en w' => VOut r s p n w en w' := by
  have rlt := h.lt
  have L0 := asd (VW.start h)
  have hq := sk_le s p
  have K0 := asd (fun w1 h1 => dblanks_sk r s p d 0 w1 h1 hp hs)
  subst hnm
  have HV := asd hvc
  have HD := asd hdn
  have HC := asd h123
  have hp1 : sk s p < s.size := (iz_true h123).2.1
  have I1 := asd (fun w1 h1 => is_any r s (sk s p) d 0 123 w1 h1)
  rw [h123] at I1
  have T1 := asd trivial
  clear hvc
  clear h
  go_enter Tryz.func23, Tryz.ntmps23
  go_wp2_with (first
    | (go_at_call 24; refine (K0.out _ L0.out.rq).mono ?_; rintro en w1 ⟨rfl, h1, g1⟩; have A0 := asd (L0.out.next rlt g1 h1); have c3 : w1.cell? ⟨r, 3, none⟩ = some (.int .i64 0) := A0.out.rq.c3; clear h1 g1 L0 K0)
    | (clear T1; go_at_call 36; refine (I1.out _ A0.out.rq).mono ?_; rintro en w2 ⟨rfl, h2, g2⟩; have A1 := asd (A0.out.none rlt g2 h2); clear h2 g2 A0 I1)
    | (go_at_call 37; refine (dobj_any r s (sk s p) d m _ A1.out.rq hp1 hs HD.out HV.out).mono ?_; rintro en w9 ⟨q, e, dx, nv, iv, ns, is, rfl, h9, g9, hqx, hdx, hdx8, sx1, sx2, hfx, OX0⟩; have A9 := asd (A1.out.next rlt g9 h9); have zz := A1.out.bz.lt; have ox1 := sx1.one; have SX1 := asd (sx1.base (show w.heap.size + 1 ≤ _ by omega)); clear sx1; have ox2 := sx2.one; have SX2 := asd (sx2.base (show w.heap.size + 1 ≤ _ by omega)); have OX := asd OX0; clear h9 g9 sx2 OX0 A1 HV)
    | (refine wpList_store_row rfl 28 _ _ rfl _ (vc6 6 (123 :: (Js.joins (pairs ns is) ++ [125])) [] 0 nv iv) rfl rfl 28 _ A9.out.bz (sz28 _ _ _ _ _ _) rfl (vc6_one _ _ _ _ _ _ ox1 ox2) ?_))
  refine bodyPost_ret (results_cell_row Tryz.results23 _ _ w.heap.size 28 (vc6 6 (123 :: (Js.joins (pairs ns is) ++ [125])) [] 0 nv iv) (0, 0) _ rfl (setRow_heap _ _ _ _ _ _ A9.out.bz) Tryz.underlying28 rfl (sz28 _ _ _ _ _ _)) rfl ?_
  exact A9.out.out rlt hqx hdx hdx8 SX1.out SX2.out hfx (vp_obj HC.out OX.out)

set_option maxHeartbeats 4000000 in
set_option maxRecDepth 100000 in
theorem dvalue_obj_top (r : Nat) (s : ByteArray) (p d n : Nat) (w : World) (h : Rq r s p d 0 w) (hp : p ≤ s.size) (hs : s.size ≤ 1000) (hdn : d + n = 8) (hn : n = 0) (h123 : iz s (sk s p) 0 123 = true) :
    Calls Tryz.prog 23 #[.pointer (some ⟨r, 0, none⟩)] w fun en w' => VOut r s p n w en w' := by
  subst hn
  obtain rfl : d = 8 := by omega
  have rlt := h.lt
  have L0 := asd (VW.start h)
  have hq := sk_le s p
  have K0 := asd (fun w1 h1 => dblanks_sk r s p 8 0 w1 h1 hp hs)
  have HC := asd h123
  have hp1 : sk s p < s.size := (iz_true h123).2.1
  have I1 := asd (fun w1 h1 => is_any r s (sk s p) 8 0 123 w1 h1)
  rw [h123] at I1
  have T1 := asd trivial
  clear h
  go_enter Tryz.func23, Tryz.ntmps23
  go_wp2_with (first
    | (go_at_call 24; refine (K0.out _ L0.out.rq).mono ?_; rintro en w1 ⟨rfl, h1, g1⟩; have A0 := asd (L0.out.next rlt g1 h1); have c3 : w1.cell? ⟨r, 3, none⟩ = some (.int .i64 0) := A0.out.rq.c3; clear h1 g1 L0 K0)
    | (clear T1; go_at_call 36; refine (I1.out _ A0.out.rq).mono ?_; rintro en w2 ⟨rfl, h2, g2⟩; have A1 := asd (A0.out.none rlt g2 h2); clear h2 g2 A0 I1)
    | (go_at_call 37; refine (dobj_top r s (sk s p) _ A1.out.rq hp1 hs).mono ?_; rintro en w9 ⟨q, rfl, h9, g9, hqx⟩; have A9 := asd (A1.out.next rlt g9 h9); clear h9 g9 A1)
    | (refine wpList_store_row rfl 28 _ _ rfl _ (vc6 6 [123, 125] [] 0 noS noS) rfl rfl 28 _ A9.out.bz (sz28 _ _ _ _ _ _) rfl (vc6_one _ _ _ _ _ _ rfl rfl) ?_))
  refine bodyPost_ret (results_cell_row Tryz.results23 _ _ w.heap.size 28 (vc6 6 [123, 125] [] 0 noS noS) (0, 0) _ rfl (setRow_heap _ _ _ _ _ _ A9.out.bz) Tryz.underlying28 rfl (sz28 _ _ _ _ _ _)) rfl ?_
  exact A9.out.out rlt hqx (by omega) (by omega) (sl_nil _ _) (sl_nil _ _) (by have := bnd_one 0; simp; omega) (vp_obj_top HC.out)
end Go.Proofs.YtpeioecpilmpiaaGreatDoor

/-
  A value: a list.
-/
namespace Go.Proofs.YtpeioecpilmpiaaGreatDoor
open Go.RowKit

set_option maxHeartbeats 4000000 in
set_option maxRecDepth 100000 in
theorem dvalue_list (r : Nat) (s : ByteArray) (p d n : Nat) (w : World) (h : Rq r s p d 0 w) (hp : p ≤ s.size) (hs : s.size ≤ 1000) (hdn : d + n = 8) (m : Nat) (hnm : n = m + 1) (hvc : VCd m) (h123 : iz s (sk s p) 0 123 = false) (h91 : iz s (sk s p) 0 91 = true) :
    Calls Tryz.prog 23 #[.pointer (some ⟨r, 0, none⟩)] w fun en w' => VOut r s p n w en w' := by
  have rlt := h.lt
  have L0 := asd (VW.start h)
  have hq := sk_le s p
  have K0 := asd (fun w1 h1 => dblanks_sk r s p d 0 w1 h1 hp hs)
  subst hnm
  have HV := asd hvc
  have HD := asd hdn
  have HC := asd h91
  have hp1 : sk s p < s.size := (iz_true h91).2.1
  have I1 := asd (fun w1 h1 => is_any r s (sk s p) d 0 123 w1 h1)
  rw [h123] at I1
  have T1 := asd trivial
  have I2 := asd (fun w1 h1 => is_any r s (sk s p) d 0 91 w1 h1)
  rw [h91] at I2
  have T2 := asd trivial
  clear hvc
  clear h
  go_enter Tryz.func23, Tryz.ntmps23
  go_wp2_with (first
    | (go_at_call 24; refine (K0.out _ L0.out.rq).mono ?_; rintro en w1 ⟨rfl, h1, g1⟩; have A0 := asd (L0.out.next rlt g1 h1); have c3 : w1.cell? ⟨r, 3, none⟩ = some (.int .i64 0) := A0.out.rq.c3; clear h1 g1 L0 K0)
    | (clear T1; go_at_call 36; refine (I1.out _ A0.out.rq).mono ?_; rintro en w2 ⟨rfl, h2, g2⟩; have A1 := asd (A0.out.none rlt g2 h2); clear h2 g2 A0 I1)
    | (clear T2; go_at_call 36; refine (I2.out _ A1.out.rq).mono ?_; rintro en w3 ⟨rfl, h2, g2⟩; have A2 := asd (A1.out.none rlt g2 h2); clear h2 g2 A1 I2)
    | (go_at_call 38; refine (dlist_any r s (sk s p) d m _ A2.out.rq hp1 hs HD.out HV.out).mono ?_; rintro en w9 ⟨q, e, dx, iv, is, rfl, h9, g9, hqx, hdx, hdx8, sx2, hfx, OX0⟩; have A9 := asd (A2.out.next rlt g9 h9); have zz := A2.out.bz.lt; have ox2 := sx2.one; have SX2 := asd (sx2.base (show w.heap.size + 1 ≤ _ by omega)); have OX := asd OX0; clear h9 g9 sx2 OX0 A2 HV)
    | (refine wpList_store_row rfl 28 _ _ rfl _ (vc6 5 (91 :: (Js.joins is ++ [93])) [] 0 noS iv) rfl rfl 28 _ A9.out.bz (sz28 _ _ _ _ _ _) rfl (vc6_one _ _ _ _ _ _ rfl ox2) ?_))
  refine bodyPost_ret (results_cell_row Tryz.results23 _ _ w.heap.size 28 (vc6 5 (91 :: (Js.joins is ++ [93])) [] 0 noS iv) (0, 0) _ rfl (setRow_heap _ _ _ _ _ _ A9.out.bz) Tryz.underlying28 rfl (sz28 _ _ _ _ _ _)) rfl ?_
  exact A9.out.out rlt hqx hdx hdx8 (sl_nil _ _) SX2.out hfx (vp_list HC.out OX.out)

set_option maxHeartbeats 4000000 in
set_option maxRecDepth 100000 in
theorem dvalue_list_top (r : Nat) (s : ByteArray) (p d n : Nat) (w : World) (h : Rq r s p d 0 w) (hp : p ≤ s.size) (hs : s.size ≤ 1000) (hdn : d + n = 8) (hn : n = 0) (h123 : iz s (sk s p) 0 123 = false) (h91 : iz s (sk s p) 0 91 = true) :
    Calls Tryz.prog 23 #[.pointer (some ⟨r, 0, none⟩)] w fun en w' => VOut r s p n w en w' := by
  subst hn
  obtain rfl : d = 8 := by omega
  have rlt := h.lt
  have L0 := asd (VW.start h)
  have hq := sk_le s p
  have K0 := asd (fun w1 h1 => dblanks_sk r s p 8 0 w1 h1 hp hs)
  have HC := asd h91
  have hp1 : sk s p < s.size := (iz_true h91).2.1
  have I1 := asd (fun w1 h1 => is_any r s (sk s p) 8 0 123 w1 h1)
  rw [h123] at I1
  have T1 := asd trivial
  have I2 := asd (fun w1 h1 => is_any r s (sk s p) 8 0 91 w1 h1)
  rw [h91] at I2
  have T2 := asd trivial
  clear h
  go_enter Tryz.func23, Tryz.ntmps23
  go_wp2_with (first
    | (go_at_call 24; refine (K0.out _ L0.out.rq).mono ?_; rintro en w1 ⟨rfl, h1, g1⟩; have A0 := asd (L0.out.next rlt g1 h1); have c3 : w1.cell? ⟨r, 3, none⟩ = some (.int .i64 0) := A0.out.rq.c3; clear h1 g1 L0 K0)
    | (clear T1; go_at_call 36; refine (I1.out _ A0.out.rq).mono ?_; rintro en w2 ⟨rfl, h2, g2⟩; have A1 := asd (A0.out.none rlt g2 h2); clear h2 g2 A0 I1)
    | (clear T2; go_at_call 36; refine (I2.out _ A1.out.rq).mono ?_; rintro en w3 ⟨rfl, h2, g2⟩; have A2 := asd (A1.out.none rlt g2 h2); clear h2 g2 A1 I2)
    | (go_at_call 38; refine (dlist_top r s (sk s p) _ A2.out.rq hp1 hs).mono ?_; rintro en w9 ⟨q, rfl, h9, g9, hqx⟩; have A9 := asd (A2.out.next rlt g9 h9); clear h9 g9 A2)
    | (refine wpList_store_row rfl 28 _ _ rfl _ (vc6 5 [91, 93] [] 0 noS noS) rfl rfl 28 _ A9.out.bz (sz28 _ _ _ _ _ _) rfl (vc6_one _ _ _ _ _ _ rfl rfl) ?_))
  refine bodyPost_ret (results_cell_row Tryz.results23 _ _ w.heap.size 28 (vc6 5 [91, 93] [] 0 noS noS) (0, 0) _ rfl (setRow_heap _ _ _ _ _ _ A9.out.bz) Tryz.underlying28 rfl (sz28 _ _ _ _ _ _)) rfl ?_
  exact A9.out.out rlt hqx (by omega) (by omega) (sl_nil _ _) (sl_nil _ _) (by have := bnd_one 0; simp; omega) (vp_list_top HC.out)
end Go.Proofs.YtpeioecpilmpiaaGreatDoor

/-
  A value: a string.
-/
namespace Go.Proofs.YtpeioecpilmpiaaGreatDoor
open Go.RowKit

set_option maxHeartbeats 4000000 in
set_option maxRecDepth 100000 in
theorem dvalue_text (r : Nat) (s : ByteArray) (p d n : Nat) (w : World) (h : Rq r s p d 0 w) (hp : p ≤ s.size) (hs : s.size ≤ 1000) (hdn : d + n = 8) (h123 : iz s (sk s p) 0 123 = false) (h91 : iz s (sk s p) 0 91 = false) (h34 : iz s (sk s p) 0 34 = true) :
    Calls Tryz.prog 23 #[.pointer (some ⟨r, 0, none⟩)] w fun en w' => VOut r s p n w en w' := by
  have rlt := h.lt
  have L0 := asd (VW.start h)
  have hq := sk_le s p
  have K0 := asd (fun w1 h1 => dblanks_sk r s p d 0 w1 h1 hp hs)
  have HC := asd h34
  have hp1 : sk s p < s.size := (iz_true h34).2.1
  have I1 := asd (fun w1 h1 => is_any r s (sk s p) d 0 123 w1 h1)
  rw [h123] at I1
  have T1 := asd trivial
  have I2 := asd (fun w1 h1 => is_any r s (sk s p) d 0 91 w1 h1)
  rw [h91] at I2
  have T2 := asd trivial
  have I3 := asd (fun w1 h1 => is_any r s (sk s p) d 0 34 w1 h1)
  rw [h34] at I3
  have T3 := asd trivial
  clear h
  go_enter Tryz.func23, Tryz.ntmps23
  go_wp2_with (first
    | (go_at_call 24; refine (K0.out _ L0.out.rq).mono ?_; rintro en w1 ⟨rfl, h1, g1⟩; have A0 := asd (L0.out.next rlt g1 h1); have c3 : w1.cell? ⟨r, 3, none⟩ = some (.int .i64 0) := A0.out.rq.c3; clear h1 g1 L0 K0)
    | (clear T1; go_at_call 36; refine (I1.out _ A0.out.rq).mono ?_; rintro en w2 ⟨rfl, h2, g2⟩; have A1 := asd (A0.out.none rlt g2 h2); clear h2 g2 A0 I1)
    | (clear T2; go_at_call 36; refine (I2.out _ A1.out.rq).mono ?_; rintro en w3 ⟨rfl, h2, g2⟩; have A2 := asd (A1.out.none rlt g2 h2); clear h2 g2 A1 I2)
    | (clear T3; go_at_call 36; refine (I3.out _ A2.out.rq).mono ?_; rintro en w4 ⟨rfl, h2, g2⟩; have A3 := asd (A2.out.none rlt g2 h2); clear h2 g2 A2 I3)
    | (go_at_call 39; refine (dtext_any r s (sk s p) d _ A3.out.rq hp1 hs).mono ?_; rintro en w9 ⟨t, q, e, rfl, T0, h9, g9⟩; have A9 := asd (A3.out.next rlt g9 h9); have TT := asd T0; have htl : t.length ≤ 4000 := T0.len; have KQ : Aside (∀ u : World, Calls Tryz.prog 19 #[.string (bs t)] u fun en w' => en = .returned (.string (bs (Js.quote t))) ∧ Below u.heap.size u w') := fun u => (by have h := dquote_any (bs t) u (by rw [bs_size]; omega); rw [bs_list] at h; exact h); clear h9 g9 T0 A3)
    | (go_at_call 19; refine (KQ.out _).mono ?_; rintro en w10 ⟨rfl, b10⟩; have A10 := asd (A9.out.below rlt b10); clear b10 A9 KQ)
    | (refine wpList_store_row rfl 28 _ _ rfl _ (vc6 4 (Js.quote t) t 0 noS noS) rfl rfl 28 _ A10.out.bz (sz28 _ _ _ _ _ _) rfl (vc6_one _ _ _ _ _ _ rfl rfl) ?_))
  refine bodyPost_ret (results_cell_row Tryz.results23 _ _ w.heap.size 28 (vc6 4 (Js.quote t) t 0 noS noS) (0, 0) _ rfl (setRow_heap _ _ _ _ _ _ A10.out.bz) Tryz.underlying28 rfl (sz28 _ _ _ _ _ _)) rfl ?_
  exact A10.out.out rlt TT.out.1 (by omega) (by omega) (sl_nil _ _) (sl_nil _ _) (by have := bnd_one n; have := quote_len t; omega) (vp_text HC.out hdn TT.out)
end Go.Proofs.YtpeioecpilmpiaaGreatDoor

/-
  A value: null, true.
-/
namespace Go.Proofs.YtpeioecpilmpiaaGreatDoor
open Go.RowKit

set_option maxHeartbeats 4000000 in
set_option maxRecDepth 100000 in
theorem dvalue_null (r : Nat) (s : ByteArray) (p d n : Nat) (w : World) (h : Rq r s p d 0 w) (hp : p ≤ s.size) (hs : s.size ≤ 1000) (hdn : d + n = 8) (h123 : iz s (sk s p) 0 123 = false) (h91 : iz s (sk s p) 0 91 = false) (h34 : iz s (sk s p) 0 34 = false) (hnull : nullB.data.toList.isPrefixOf (L s (sk s p)) = true) :
    Calls Tryz.prog 23 #[.pointer (some ⟨r, 0, none⟩)] w fun en w' => VOut r s p n w en w' := by
  have rlt := h.lt
  have L0 := asd (VW.start h)
  have hq := sk_le s p
  have K0 := asd (fun w1 h1 => dblanks_sk r s p d 0 w1 h1 hp hs)
  have HC := asd hnull
  have hz : sk s p + nullB.size ≤ s.size := pre_size hnull hq
  have I1 := asd (fun w1 h1 => is_any r s (sk s p) d 0 123 w1 h1)
  rw [h123] at I1
  have T1 := asd trivial
  have I2 := asd (fun w1 h1 => is_any r s (sk s p) d 0 91 w1 h1)
  rw [h91] at I2
  have T2 := asd trivial
  have I3 := asd (fun w1 h1 => is_any r s (sk s p) d 0 34 w1 h1)
  rw [h34] at I3
  have T3 := asd trivial
  have W1 := asd (fun w1 h1 => dword_any r s nullB (sk s p) d 0 w1 h1 hq hs (by decide))
  rw [hnull] at W1
  simp only [if_true] at W1
  have S1 := asd trivial
  clear h
  go_enter Tryz.func23, Tryz.ntmps23
  go_wp2_with (first
    | (go_at_call 24; refine (K0.out _ L0.out.rq).mono ?_; rintro en w1 ⟨rfl, h1, g1⟩; have A0 := asd (L0.out.next rlt g1 h1); have c3 : w1.cell? ⟨r, 3, none⟩ = some (.int .i64 0) := A0.out.rq.c3; clear h1 g1 L0 K0)
    | (clear T1; go_at_call 36; refine (I1.out _ A0.out.rq).mono ?_; rintro en w2 ⟨rfl, h2, g2⟩; have A1 := asd (A0.out.none rlt g2 h2); clear h2 g2 A0 I1)
    | (clear T2; go_at_call 36; refine (I2.out _ A1.out.rq).mono ?_; rintro en w3 ⟨rfl, h2, g2⟩; have A2 := asd (A1.out.none rlt g2 h2); clear h2 g2 A1 I2)
    | (clear T3; go_at_call 36; refine (I3.out _ A2.out.rq).mono ?_; rintro en w4 ⟨rfl, h2, g2⟩; have A3 := asd (A2.out.none rlt g2 h2); clear h2 g2 A2 I3)
    | (clear S1; go_at_call 40; refine (W1.out _ A3.out.rq).mono ?_; rintro en w5 ⟨rfl, h2, g2⟩; have B1 := asd (A3.out.next rlt g2 h2); clear h2 g2 A3 W1)
    | (refine wpList_store_row rfl 28 _ _ rfl _ (vc6 1 nullB.data.toList [] 0 noS noS) rfl rfl 28 _ B1.out.bz (sz28 _ _ _ _ _ _) rfl (vc6_one _ _ _ _ _ _ rfl rfl) ?_))
  refine bodyPost_ret (results_cell_row Tryz.results23 _ _ w.heap.size 28 (vc6 1 nullB.data.toList [] 0 noS noS) (0, 0) _ rfl (setRow_heap _ _ _ _ _ _ B1.out.bz) Tryz.underlying28 rfl (sz28 _ _ _ _ _ _)) rfl ?_
  exact B1.out.out rlt hz (by omega) (by omega) (sl_nil _ _) (sl_nil _ _) (by have := bnd_one n; have h5 : (nullB.data.toList).length ≤ 5 := (by decide); omega) (vp_word (x := Js.mkNull) (va_null n) hdn HC.out)

set_option maxHeartbeats 4000000 in
set_option maxRecDepth 100000 in
theorem dvalue_true (r : Nat) (s : ByteArray) (p d n : Nat) (w : World) (h : Rq r s p d 0 w) (hp : p ≤ s.size) (hs : s.size ≤ 1000) (hdn : d + n = 8) (h123 : iz s (sk s p) 0 123 = false) (h91 : iz s (sk s p) 0 91 = false) (h34 : iz s (sk s p) 0 34 = false) (hnull : nullB.data.toList.isPrefixOf (L s (sk s p)) = false) (htrue : trueB.data.toList.isPrefixOf (L s (sk s p)) = true) :
    Calls Tryz.prog 23 #[.pointer (some ⟨r, 0, none⟩)] w fun en w' => VOut r s p n w en w' := by
  have rlt := h.lt
  have L0 := asd (VW.start h)
  have hq := sk_le s p
  have K0 := asd (fun w1 h1 => dblanks_sk r s p d 0 w1 h1 hp hs)
  have HC := asd htrue
  have hz : sk s p + trueB.size ≤ s.size := pre_size htrue hq
  have I1 := asd (fun w1 h1 => is_any r s (sk s p) d 0 123 w1 h1)
  rw [h123] at I1
  have T1 := asd trivial
  have I2 := asd (fun w1 h1 => is_any r s (sk s p) d 0 91 w1 h1)
  rw [h91] at I2
  have T2 := asd trivial
  have I3 := asd (fun w1 h1 => is_any r s (sk s p) d 0 34 w1 h1)
  rw [h34] at I3
  have T3 := asd trivial
  have W1 := asd (fun w1 h1 => dword_any r s nullB (sk s p) d 0 w1 h1 hq hs (by decide))
  rw [hnull] at W1
  simp only [if_false, Bool.false_eq_true] at W1
  have S1 := asd trivial
  have W2 := asd (fun w1 h1 => dword_any r s trueB (sk s p) d 0 w1 h1 hq hs (by decide))
  rw [htrue] at W2
  simp only [if_true] at W2
  have S2 := asd trivial
  clear h
  go_enter Tryz.func23, Tryz.ntmps23
  go_wp2_with (first
    | (go_at_call 24; refine (K0.out _ L0.out.rq).mono ?_; rintro en w1 ⟨rfl, h1, g1⟩; have A0 := asd (L0.out.next rlt g1 h1); have c3 : w1.cell? ⟨r, 3, none⟩ = some (.int .i64 0) := A0.out.rq.c3; clear h1 g1 L0 K0)
    | (clear T1; go_at_call 36; refine (I1.out _ A0.out.rq).mono ?_; rintro en w2 ⟨rfl, h2, g2⟩; have A1 := asd (A0.out.none rlt g2 h2); clear h2 g2 A0 I1)
    | (clear T2; go_at_call 36; refine (I2.out _ A1.out.rq).mono ?_; rintro en w3 ⟨rfl, h2, g2⟩; have A2 := asd (A1.out.none rlt g2 h2); clear h2 g2 A1 I2)
    | (clear T3; go_at_call 36; refine (I3.out _ A2.out.rq).mono ?_; rintro en w4 ⟨rfl, h2, g2⟩; have A3 := asd (A2.out.none rlt g2 h2); clear h2 g2 A2 I3)
    | (clear S1; go_at_call 40; refine (W1.out _ A3.out.rq).mono ?_; rintro en w5 ⟨rfl, h2, g2⟩; have B1 := asd (A3.out.next rlt g2 h2); clear h2 g2 A3 W1)
    | (clear S2; go_at_call 40; refine (W2.out _ B1.out.rq).mono ?_; rintro en w6 ⟨rfl, h2, g2⟩; have B2 := asd (B1.out.next rlt g2 h2); clear h2 g2 B1 W2)
    | (refine wpList_store_row rfl 28 _ _ rfl _ (vc6 2 trueB.data.toList [] 0 noS noS) rfl rfl 28 _ B2.out.bz (sz28 _ _ _ _ _ _) rfl (vc6_one _ _ _ _ _ _ rfl rfl) ?_))
  refine bodyPost_ret (results_cell_row Tryz.results23 _ _ w.heap.size 28 (vc6 2 trueB.data.toList [] 0 noS noS) (0, 0) _ rfl (setRow_heap _ _ _ _ _ _ B2.out.bz) Tryz.underlying28 rfl (sz28 _ _ _ _ _ _)) rfl ?_
  exact B2.out.out rlt hz (by omega) (by omega) (sl_nil _ _) (sl_nil _ _) (by have := bnd_one n; have h5 : (trueB.data.toList).length ≤ 5 := (by decide); omega) (vp_word (x := (Js.mkTruth true)) (va_true n) hdn HC.out)
end Go.Proofs.YtpeioecpilmpiaaGreatDoor

/-
  A value of the document's reader: any.
-/
namespace Go.Proofs.YtpeioecpilmpiaaGreatDoor
open Go.RowKit
theorem dvalue_of (n : Nat) (ih : ∀ m, n = m + 1 → VCd m) : VCd n := by
  intro r s p d w h hdn hp hs
  cases h123 : iz s (sk s p) 0 123 with
  | true =>
    cases n with
    | zero => exact dvalue_obj_top r s p d 0 w h hp hs hdn rfl h123
    | succ m => exact dvalue_obj r s p d (m + 1) w h hp hs hdn m rfl (ih m rfl) h123
  | false =>
    cases h91 : iz s (sk s p) 0 91 with
    | true =>
      cases n with
      | zero => exact dvalue_list_top r s p d 0 w h hp hs hdn rfl h123 h91
      | succ m => exact dvalue_list r s p d (m + 1) w h hp hs hdn m rfl (ih m rfl) h123 h91
    | false =>
      cases h34 : iz s (sk s p) 0 34 with
      | true => exact dvalue_text r s p d n w h hp hs hdn h123 h91 h34
      | false =>
        cases h1 : nullB.data.toList.isPrefixOf (L s (sk s p)) with
        | true => exact dvalue_null r s p d n w h hp hs hdn h123 h91 h34 h1
        | false =>
          cases h2 : trueB.data.toList.isPrefixOf (L s (sk s p)) with
          | true => exact dvalue_true r s p d n w h hp hs hdn h123 h91 h34 h1 h2
          | false =>
            cases h3 : falseB.data.toList.isPrefixOf (L s (sk s p)) with
            | true => exact dvalue_false r s p d n w h hp hs hdn h123 h91 h34 h1 h2 h3
            | false => exact dvalue_number r s p d n w h hp hs hdn h123 h91 h34 h1 h2 h3
theorem dvalue_every : ∀ n, VCd n
  | 0 => dvalue_of 0 (fun m h => by omega)
  | n + 1 => dvalue_of (n + 1) (fun m h => by
    obtain rfl : n = m := by omega
    exact dvalue_every n)
theorem dvalue_all (n r : Nat) (s : ByteArray) (p d : Nat) (w : World) (h : Rq r s p d 0 w) (hdn : d + n = 8) (hp : p ≤ s.size) (hs : s.size ≤ 1000) :
    Calls Tryz.prog 23 #[.pointer (some ⟨r, 0, none⟩)] w fun en w' => VOut r s p n w en w' := dvalue_every n r s p d w h hdn hp hs
end Go.Proofs.YtpeioecpilmpiaaGreatDoor
