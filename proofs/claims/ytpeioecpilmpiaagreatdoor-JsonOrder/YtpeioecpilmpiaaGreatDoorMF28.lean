/-
  YtpeioecpilmpiaaGreatDoor: the texts V2, G1, G2, one behind the other.
-/
import Derived.Test.YtpeioecpilmpiaaGreatDoorMF27
import Derived.WalkKit
import Derived.WalkSpells
import Derived.WalkLawsBesides
import Derived.Deep.LoopGhost
import Derived.Laws.Externs
import Derived.Below
import Derived.BigQuiet
import Derived.Deep.RegionWith
import Derived.OwnWalk
import Derived.Maps.AppendAt
import Derived.WalkSmall
/-
  A member of an object.
-/
namespace Go.Proofs.YtpeioecpilmpiaaGreatDoor
open Go.RowKit
theorem grown_cell {w u : World} {r : Option Nat} (h : w.grownBy u r) (b i : Nat) (v : Value) (hb : w.heap.size ≤ b) : w.grownBy (u.setCell ⟨b, i, none⟩ v) r :=
  ⟨h.os, h.tape, h.output, by have : (u.setCell ⟨b, i, none⟩ v).heap.size = u.heap.size := by simp
                              rw [this]; exact h.size, fun k hk hne => (Below.heap_setCell u ⟨b, i, none⟩ v k (by show k ≠ b; omega)).trans (h.block k hk hne)⟩
theorem Sl.cellset {B : Nat} {w : World} {v : Value} {l : List Js.B} (h : Sl B w v l) (b i : Nat) (x : Value) (hb : b < B) : Sl B (w.setCell ⟨b, i, none⟩ x) v l :=
  own_frame h fun k hk => Below.heap_setCell w ⟨b, i, none⟩ x k (by show k ≠ b; have := (own_place h hk).1; omega)
theorem Sl.rowset {B : Nat} {w : World} {v : Value} {l : List Js.B} (h : Sl B w v l) (b : Nat) (c : Array Value) (hb : b < B) : Sl B (w.setRow b c) v l :=
  own_frame h fun k hk => setRow_other w b k c (by have := (own_place h hk).1; omega)
theorem Bk.cellother {w : World} {b : Nat} {c : Array Value} (h : Bk w b c) (b2 i : Nat) (x : Value) (hb : b ≠ b2) : Bk (w.setCell ⟨b2, i, none⟩ x) b c := h.keep (Below.heap_setCell w ⟨b2, i, none⟩ x b hb)
theorem Rq.cellother {r : Nat} {s : ByteArray} {p d e : Nat} {w : World} (h : Rq r s p d e w) (b2 i : Nat) (x : Value) (hb : r ≠ b2) : Rq r s p d e (w.setCell ⟨b2, i, none⟩ x) := h.keep (Below.heap_setCell w ⟨b2, i, none⟩ x r hb)
theorem below_lay (w : World) (c c' : Array Value) : Below w.heap.size w ((w.alloc (.cells c 28)).setRow w.heap.size c') := by
  have h : Below w.heap.size w (w.alloc (.cells c 28)) := (Below.refl _ _).alloc (Nat.le_refl _) _
  exact ⟨h.os, h.tape, h.output, by rw [setRow_size]; exact h.size, fun k hk => (setRow_other _ _ k _ (by omega)).trans (h.block k hk)⟩
theorem lay_size (w : World) (c c' : Array Value) : ((w.alloc (.cells c 28)).setRow w.heap.size c').heap.size = w.heap.size + 1 := by rw [setRow_size]; simp

set_option maxHeartbeats 8000000 in
set_option maxRecDepth 100000 in
/-- A name stands there. -/
theorem dmember_yes (B r : Nat) (s : ByteArray) (p d n : Nat) (nv iv : Value) (ns is : List Js.B) (w : World) (h : Rq r s p d 0 w) (hr : r < B) (hp : p ≤ s.size) (hs : s.size ≤ 1000) (hd : d ≤ 1000) (hdn : d + n = 8) (hB : B ≤ w.heap.size) (sn : Sl B w nv ns) (si : Sl B w iv is)
    (hrise : Js.Rise ns) (hln : ns.length ≤ 500) (hni : ns.length = is.length) (hvc : VCd n) (h34 : iz s (sk s p) 0 34 = true) :
    Calls Tryz.prog 57 #[.pointer (some ⟨r, 0, none⟩), .agg (vc6 6 [] [] 0 nv iv)] w fun en w' => MOut B r s p n ns is w en w' := by
  have rlt := h.lt
  have M0 := asd (MS.start h sn si)
  have hq := sk_le s p
  have hq1 := (iz_true h34).2.1
  have esk := asd ((L_sk s p).symm.trans (iz_true h34).2.2)
  have K1 := asd (fun w1 h1 => dblanks_sk r s p d 0 w1 h1 hp hs)
  have K2 := asd (fun w1 h1 => is_any r s (sk s p) d 0 34 w1 h1)
  rw [h34] at K2
  have o1 := sn.one
  have o2 := si.one
  have SN := asd sn
  have SI := asd si
  have KP := asd (fun (t : Js.B) (u : World) (hu : Sl B u nv ns) => dplace_any B nv ns t u hu hrise (by omega))
  have HV := asd hvc
  clear h sn si h34 hvc
  generalize sk s p = q1 at *
  go_enter Tryz.func57, Tryz.ntmps57
  go_wp2_with (first
    | (go_at_call 24; refine (K1.out _ M0.out.rq).mono ?_; rintro en w1 ⟨rfl, h1, g1⟩; have M1 := asd (M0.out.next hr rlt g1 h1); clear h1 g1 M0 K1)
    | (go_at_call 36; refine (K2.out _ M1.out.rq).mono ?_; rintro en w2 ⟨rfl, h2, g2⟩; have M2 := asd (M1.out.next hr rlt ⟨g2.os, g2.tape, g2.output, g2.size, fun k hk _ => g2.block k hk (fun e => by cases e)⟩ h2); clear h2 g2 M1 K2)
    | (go_at_call 39; refine (dtext_any r s q1 d _ M2.out.rq hq1 hs).mono ?_; rintro en w3 ⟨t, q2, e2, rfl, T, h3, g3⟩; have M3 := asd (M2.out.next hr rlt g3 h3); have TT := asd T; have c4 : w3.cell? ⟨w.heap.size, 4, none⟩ = some nv := M3.out.bv.cell 4; clear h3 g3 M2 T))
  have hq2 := TT.out.1
  have hq3 := sk_le s q2
  have KQ := asd (fun e w1 h1 => dblanks_sk r s q2 d e w1 h1 hq2 hs)
  generalize hsk : sk s q2 = q3 at *
  have HSK := asd hsk
  clear hsk
  rcases TT.out.2 with ⟨rfl, htx, htl, hqq⟩ | ⟨rfl, htx, -⟩
  · by_cases hm : t ∈ ns
    · have E := asd (obS_there (g := Js.pv n) (ns := ns) esk.out htx hm)
      have TH : decide (t ∈ ns) = true := decide_eq_true hm
      have IZ : iz s q3 (fl 0 7) 58 = false := iz_bad _ _ _ _ (by decide)
      have T7 := asd trivial
      clear TT htx
      go_wp2_with (first
        | (go_at_call 74; refine (KP.out t _ M3.out.sn).mono ?_; rw [TH]; rintro en w4 ⟨rfl, b4⟩; have M4 := asd (M3.out.below hr rlt b4); clear b4 M3 KP)
        | (clear T7; go_at_call 25; refine (bad_any r s q2 d 0 7 _ M4.out.rq).mono ?_; rintro en w5 ⟨rfl, h5, g5⟩; have M5 := asd (M4.out.next hr rlt g5 h5); clear h5 g5 M4)
        | (go_at_call 24; refine (KQ.out _ _ M5.out.rq).mono ?_; rintro en w6 ⟨rfl, h6, g6⟩; have M6 := asd (M5.out.next hr rlt g6 h6); clear h6 g6 M5 KQ)
        | (go_at_call 36; refine (is_any r s q3 d (fl 0 7) 58 _ M6.out.rq).mono ?_; rw [IZ]; rintro en w7 ⟨rfl, h7, g7⟩; have M7 := asd (M6.out.next hr rlt ⟨g7.os, g7.tape, g7.output, g7.size, fun k hk _ => g7.block k hk (fun e => by cases e)⟩ h7); clear h7 g7 M6)
        | (go_at_call 25; refine (bad_any r s q3 d (fl 0 7) 3 _ M7.out.rq).mono ?_; rintro en w8 ⟨rfl, h8, g8⟩; have M8 := asd (M7.out.next hr rlt g8 h8); clear h8 g8 M7)
        | (refine wpList_load_row rfl 28 _ rfl _ rfl 28 _ (0, 0) _ M8.out.bv Tryz.underlying28 rfl (sz28 _ _ _ _ _ _) ?_)
        | (refine wpList_store_row rfl 28 _ _ rfl _ (vc6 6 [] [] 0 nv iv) rfl rfl 28 _ M8.out.bz (sz28 _ _ _ _ _ _) rfl (vc6_one _ _ _ _ _ _ o1 o2) ?_))
      have g4 := grown_row M8.out.gr (w.heap.size + 1) (vc6 6 [] [] 0 nv iv) (by omega)
      refine bodyPost_ret (results_cell_row Tryz.results57 _ _ (w.heap.size + 1) 28 (vc6 6 [] [] 0 nv iv) (0, 0) _ rfl (setRow_heap _ _ _ _ _ _ M8.out.bz) Tryz.underlying28 rfl (sz28 _ _ _ _ _ _)) rfl ?_
      exact ⟨q3, _, d, nv, iv, ns, is, rfl, M8.out.rq.keep (setRow_other _ _ _ _ (by omega)), g4, hq3, hd, by omega, SN.out.grown g4 hr, SI.out.grown g4 hr, .inr ⟨7, E.out, by decide, .inl rfl, .inl ⟨rfl, rfl⟩⟩⟩
    · have TH : decide (t ∈ ns) = false := decide_eq_false hm
      by_cases hc : iz s q3 0 58 = false
      · have E := asd (obS_colon (g := Js.pv n) (ns := ns) esk.out htx hm (by rw [← L_sk, HSK.out]; exact iz_false hc))
        have IZ := hc
        clear TT htx hc
        go_wp2_with (first
          | (go_at_call 74; refine (KP.out t _ M3.out.sn).mono ?_; rw [TH]; rintro en w4 ⟨rfl, b4⟩; have M4 := asd (M3.out.below hr rlt b4); clear b4 M3 KP)
          | (go_at_call 24; refine (KQ.out _ _ M4.out.rq).mono ?_; rintro en w6 ⟨rfl, h6, g6⟩; have M6 := asd (M4.out.next hr rlt g6 h6); clear h6 g6 M4 KQ)
          | (go_at_call 36; refine (is_any r s q3 d 0 58 _ M6.out.rq).mono ?_; rw [IZ]; rintro en w7 ⟨rfl, h7, g7⟩; have M7 := asd (M6.out.next hr rlt ⟨g7.os, g7.tape, g7.output, g7.size, fun k hk _ => g7.block k hk (fun e => by cases e)⟩ h7); clear h7 g7 M6)
          | (go_at_call 25; refine (bad_any r s q3 d 0 3 _ M7.out.rq).mono ?_; rintro en w8 ⟨rfl, h8, g8⟩; have M8 := asd (M7.out.next hr rlt g8 h8); clear h8 g8 M7)
          | (refine wpList_load_row rfl 28 _ rfl _ rfl 28 _ (0, 0) _ M8.out.bv Tryz.underlying28 rfl (sz28 _ _ _ _ _ _) ?_)
          | (refine wpList_store_row rfl 28 _ _ rfl _ (vc6 6 [] [] 0 nv iv) rfl rfl 28 _ M8.out.bz (sz28 _ _ _ _ _ _) rfl (vc6_one _ _ _ _ _ _ o1 o2) ?_))
        have g4 := grown_row M8.out.gr (w.heap.size + 1) (vc6 6 [] [] 0 nv iv) (by omega)
        refine bodyPost_ret (results_cell_row Tryz.results57 _ _ (w.heap.size + 1) 28 (vc6 6 [] [] 0 nv iv) (0, 0) _ rfl (setRow_heap _ _ _ _ _ _ M8.out.bz) Tryz.underlying28 rfl (sz28 _ _ _ _ _ _)) rfl ?_
        exact ⟨q3, _, d, nv, iv, ns, is, rfl, M8.out.rq.keep (setRow_other _ _ _ _ (by omega)), g4, hq3, hd, by omega, SN.out.grown g4 hr, SI.out.grown g4 hr, .inr ⟨3, E.out, by decide, .inl rfl, .inl ⟨rfl, rfl⟩⟩⟩
      · skip
        have hc' : iz s q3 0 58 = true := by simpa using hc
        have hq4 : q3 < s.size := (iz_true hc').2.1
        have EG := asd (obS_go (g := Js.pv n) (ns := ns) esk.out htx hm (by rw [← L_sk, HSK.out]; exact (iz_true hc').2.2))
        have IZ := hc'
        have hpl : Js.place ns t ≤ ns.length := Js.place_le ns t
        have htl4 : t.length ≤ 4000 := htl
        generalize hPL : Js.place ns t = pl at *
        have HPL := asd hPL
        clear TT htx hc hc' hPL
        go_wp2_with (first
          | (go_at_call 74; refine (KP.out t _ M3.out.sn).mono ?_; rw [TH, HPL.out]; rintro en w4 ⟨rfl, b4⟩; have M4 := asd (M3.out.below hr rlt b4); clear b4 M3 KP c4)
          | (go_at_call 24; refine (KQ.out _ _ M4.out.rq).mono ?_; rintro en w6 ⟨rfl, h6, g6⟩; have M6 := asd (M4.out.next hr rlt g6 h6); clear h6 g6 M4 KQ)
          | (go_at_call 36; refine (is_any r s q3 d 0 58 _ M6.out.rq).mono ?_; rw [IZ]; rintro en w7 ⟨rfl, h7, g7⟩; have M7 := asd (M6.out.next hr rlt ⟨g7.os, g7.tape, g7.output, g7.size, fun k hk _ => g7.block k hk (fun e => by cases e)⟩ h7); have c17 := M7.out.rq.c1; have f17 := M7.out.rq.fz 1; have M8 := asd (M7.out.next hr rlt (grown_set w7 r 1 (.int .i64 ((q3 : Int) + 1))) M7.out.rq.inc1); clear h7 g7 M6)
          | (go_at_call 23; refine (HV.out r s (q3 + 1) d _ M8.out.rq hdn hq4 hs).mono ?_; rintro en w9 ⟨qx, ex, dx, kx, fx, tx, mx, nvx, ivx, nsx, isx, rfl, h9, g9, hqx, hdx, hdx8, sx1, sx2, hfx, OX0⟩; have OX := asd OX0; have M9 := asd (M8.out.next hr rlt g9 h9); have ox1 := sx1.one; have ox2 := sx2.one; have BN := asd (Bk.new w9 z6); have z9 : w.heap.size + 1 < w9.heap.size := M9.out.bz.lt; clear h9 g9 sx1 sx2 OX0 M8 M7 c17 f17)
          | (refine wpList_store_row rfl 28 _ _ rfl _ (vc6 kx fx tx mx nvx ivx) rfl rfl 28 _ BN.out (sz28 _ _ _ _ _ _) rfl (vc6_one _ _ _ _ _ _ ox1 ox2) ?_; generalize hwA : World.setRow _ w9.heap.size _ = wA; have MA : Aside (MS B r s (vc6 6 [] [] 0 nv iv) nv iv ns is w qx dx ex wA) := (by rw [← hwA]; exact asd (M9.out.below hr rlt (below_lay w9 z6 _))); have BX : Aside (Bk wA w9.heap.size (vc6 kx fx tx mx nvx ivx)) := (by rw [← hwA]; exact asd (setRow_heap _ _ _ _ _ _ BN.out)); have zA : wA.heap.size = w9.heap.size + 1 := (by rw [← hwA]; exact lay_size w9 z6 _); have c4A : wA.cell? ⟨w.heap.size, 4, none⟩ = some nv := MA.out.bv.cell 4; clear hwA M9 BN)
          | (go_at_call 75; refine (dput_any B nv ns pl t _ MA.out.sn hpl (by omega)).mono ?_; rintro en wB ⟨nvp, rfl, sB, bB⟩; obtain ⟨na, nc, hna, _⟩ := sB.form; generalize hnl : (ns.take pl ++ t :: ns.drop pl).length = nl at hna; subst hna; clear hnl; have MB := asd (MA.out.below hr rlt bB); rw [zA] at sB bB; have yB := MB.out.bz.lt; have cB4 : wB.cell? ⟨w.heap.size, 4, none⟩ = some nv := MB.out.bv.cell 4; have fB4 := MB.out.bv.fz 4; have gC := asd (grown_cell MB.out.gr w.heap.size 4 (Value.slice na nl nc) (Nat.le_refl _)); have MC := asd (show MS B r s (vc6 6 [] [] 0 (Value.slice na nl nc) iv) nv iv ns is w qx dx ex (wB.setCell ⟨w.heap.size, 4, none⟩ (Value.slice na nl nc)) from ⟨MB.out.rq.cellother _ 4 (Value.slice na nl nc) (by omega), gC.out, MB.out.bv.set 4 (Value.slice na nl nc), MB.out.bz.cellother _ 4 (Value.slice na nl nc) (by omega), SN.out.grown gC.out hr, SI.out.grown gC.out hr⟩); have BXC := asd ((BX.out.keep (bB.block _ (by omega))).cellother w.heap.size 4 (Value.slice na nl nc) (by omega)); have SC := asd (sB.cellset w.heap.size 4 (Value.slice na nl nc) (by omega)); have p1 := sB.one; have c5C : (wB.setCell ⟨w.heap.size, 4, none⟩ (Value.slice na nl nc)).cell? ⟨w.heap.size, 5, none⟩ = some iv := MC.out.bv.cell 5; have c1C : (wB.setCell ⟨w.heap.size, 4, none⟩ (Value.slice na nl nc)).cell? ⟨w9.heap.size, 1, none⟩ = some (.string (bs fx)) := BXC.out.cell 1; have zC : (wB.setCell ⟨w.heap.size, 4, none⟩ (Value.slice na nl nc)).heap.size = wB.heap.size := (by simp); clear sB bB MA BX c4A gC)
          | (go_at_call 75; refine (dput_any B iv is pl fx _ MC.out.si (by omega) (by omega)).mono ?_; rintro en wD ⟨ivp, rfl, sD, bD⟩; obtain ⟨ia, ic, hia, _⟩ := sD.form; generalize hil : (is.take pl ++ fx :: is.drop pl).length = il at hia; subst hia; clear hil; have MD := asd (MC.out.below hr rlt bD); have SC1 := asd (SC.out.below bD); rw [zC] at sD; have yD := MD.out.bz.lt; have cD5 : wD.cell? ⟨w.heap.size, 5, none⟩ = some iv := MD.out.bv.cell 5; have fD5 := MD.out.bv.fz 5; have gE := asd (grown_cell MD.out.gr w.heap.size 5 (Value.slice ia il ic) (Nat.le_refl _)); have ME := asd (show MS B r s (vc6 6 [] [] 0 (Value.slice na nl nc) (Value.slice ia il ic)) nv iv ns is w qx dx ex (wD.setCell ⟨w.heap.size, 5, none⟩ (Value.slice ia il ic)) from ⟨MD.out.rq.cellother _ 5 (Value.slice ia il ic) (by omega), gE.out, MD.out.bv.set 5 (Value.slice ia il ic), MD.out.bz.cellother _ 5 (Value.slice ia il ic) (by omega), SN.out.grown gE.out hr, SI.out.grown gE.out hr⟩); have SE := asd (SC1.out.cellset w.heap.size 5 (Value.slice ia il ic) (by omega)); have SF := asd (sD.cellset w.heap.size 5 (Value.slice ia il ic) (by omega)); have p2 := sD.one; clear sD bD MC BXC SC SC1 c5C c1C cB4 fB4 gE)
          | (refine wpList_load_row rfl 28 _ rfl _ rfl 28 _ (0, 0) _ ME.out.bv Tryz.underlying28 rfl (sz28 _ _ _ _ _ _) ?_)
          | (refine wpList_store_row rfl 28 _ _ rfl _ (vc6 6 [] [] 0 (Value.slice na nl nc) (Value.slice ia il ic)) rfl rfl 28 _ ME.out.bz (sz28 _ _ _ _ _ _) rfl (vc6_one _ _ _ _ _ _ p1 p2) ?_))
        have g4 := grown_row ME.out.gr (w.heap.size + 1) (vc6 6 [] [] 0 (Value.slice na nl nc) (Value.slice ia il ic)) (by omega)
        refine bodyPost_ret (results_cell_row Tryz.results57 _ _ (w.heap.size + 1) 28 (vc6 6 [] [] 0 (Value.slice na nl nc) (Value.slice ia il ic)) (0, 0) _ rfl (setRow_heap _ _ _ _ _ _ ME.out.bz) Tryz.underlying28 rfl (sz28 _ _ _ _ _ _)) rfl ?_
        refine ⟨qx, ex, dx, (Value.slice na nl nc), (Value.slice ia il ic), _, _, rfl, ME.out.rq.keep (setRow_other _ _ _ _ (by omega)), g4, hqx, hdx, hdx8, (SE.out.rowset (w.heap.size + 1) _ (by omega)).base (by omega), (SF.out.rowset (w.heap.size + 1) _ (by omega)).base (by omega), ?_⟩
        rcases OX.out with ⟨x, hx, he, hdx', hk, hf, htx, hm', hns, his⟩ | ⟨fa, hx, hfa, he⟩
        · refine .inl ⟨t, x, ?_, hm, he, hdx', ?_, ?_⟩
          · rw [EG.out, hx]
          · rw [HPL.out]
          · rw [HPL.out, hf]
        · refine .inr ⟨fa, ?_, hfa, he, .inr ⟨t, fx, pl, htl4, hfx, hpl, rfl, rfl⟩⟩
          rw [EG.out, hx]
  · have E := asd (obS_text (g := Js.pv n) (ns := ns) esk.out htx)
    have IZ : iz s q3 3 58 = false := iz_bad _ _ _ _ (by decide)
    clear TT htx
    by_cases hm : t ∈ ns
    · have TH : decide (t ∈ ns) = true := decide_eq_true hm
      have T7 := asd trivial
      go_wp2_with (first
        | (go_at_call 74; refine (KP.out t _ M3.out.sn).mono ?_; rw [TH]; rintro en w4 ⟨rfl, b4⟩; have M4 := asd (M3.out.below hr rlt b4); clear b4 M3 KP)
        | (clear T7; go_at_call 25; refine (bad_any r s q2 d 3 7 _ M4.out.rq).mono ?_; rintro en w5 ⟨rfl, h5, g5⟩; have M5 := asd (M4.out.next hr rlt g5 h5); clear h5 g5 M4)
        | (go_at_call 24; refine (KQ.out _ _ M5.out.rq).mono ?_; rintro en w6 ⟨rfl, h6, g6⟩; have M6 := asd (M5.out.next hr rlt g6 h6); clear h6 g6 M5 KQ)
        | (go_at_call 36; refine (is_any r s q3 d (fl 3 7) 58 _ M6.out.rq).mono ?_; rw [show fl 3 7 = 3 from rfl, IZ]; rintro en w7 ⟨rfl, h7, g7⟩; have M7 := asd (M6.out.next hr rlt ⟨g7.os, g7.tape, g7.output, g7.size, fun k hk _ => g7.block k hk (fun e => by cases e)⟩ h7); clear h7 g7 M6)
        | (go_at_call 25; refine (bad_any r s q3 d (fl 3 7) 3 _ M7.out.rq).mono ?_; rintro en w8 ⟨rfl, h8, g8⟩; have M8 := asd (M7.out.next hr rlt g8 h8); clear h8 g8 M7)
        | (refine wpList_load_row rfl 28 _ rfl _ rfl 28 _ (0, 0) _ M8.out.bv Tryz.underlying28 rfl (sz28 _ _ _ _ _ _) ?_)
        | (refine wpList_store_row rfl 28 _ _ rfl _ (vc6 6 [] [] 0 nv iv) rfl rfl 28 _ M8.out.bz (sz28 _ _ _ _ _ _) rfl (vc6_one _ _ _ _ _ _ o1 o2) ?_))
      have g4 := grown_row M8.out.gr (w.heap.size + 1) (vc6 6 [] [] 0 nv iv) (by omega)
      refine bodyPost_ret (results_cell_row Tryz.results57 _ _ (w.heap.size + 1) 28 (vc6 6 [] [] 0 nv iv) (0, 0) _ rfl (setRow_heap _ _ _ _ _ _ M8.out.bz) Tryz.underlying28 rfl (sz28 _ _ _ _ _ _)) rfl ?_
      exact ⟨q3, _, d, nv, iv, ns, is, rfl, M8.out.rq.keep (setRow_other _ _ _ _ (by omega)), g4, hq3, hd, by omega, SN.out.grown g4 hr, SI.out.grown g4 hr, .inr ⟨3, E.out, by decide, .inl rfl, .inl ⟨rfl, rfl⟩⟩⟩
    · have TH : decide (t ∈ ns) = false := decide_eq_false hm
      go_wp2_with (first
        | (go_at_call 74; refine (KP.out t _ M3.out.sn).mono ?_; rw [TH]; rintro en w4 ⟨rfl, b4⟩; have M4 := asd (M3.out.below hr rlt b4); clear b4 M3 KP)
        | (go_at_call 24; refine (KQ.out _ _ M4.out.rq).mono ?_; rintro en w6 ⟨rfl, h6, g6⟩; have M6 := asd (M4.out.next hr rlt g6 h6); clear h6 g6 M4 KQ)
        | (go_at_call 36; refine (is_any r s q3 d 3 58 _ M6.out.rq).mono ?_; rw [IZ]; rintro en w7 ⟨rfl, h7, g7⟩; have M7 := asd (M6.out.next hr rlt ⟨g7.os, g7.tape, g7.output, g7.size, fun k hk _ => g7.block k hk (fun e => by cases e)⟩ h7); clear h7 g7 M6)
        | (go_at_call 25; refine (bad_any r s q3 d 3 3 _ M7.out.rq).mono ?_; rintro en w8 ⟨rfl, h8, g8⟩; have M8 := asd (M7.out.next hr rlt g8 h8); clear h8 g8 M7)
        | (refine wpList_load_row rfl 28 _ rfl _ rfl 28 _ (0, 0) _ M8.out.bv Tryz.underlying28 rfl (sz28 _ _ _ _ _ _) ?_)
        | (refine wpList_store_row rfl 28 _ _ rfl _ (vc6 6 [] [] 0 nv iv) rfl rfl 28 _ M8.out.bz (sz28 _ _ _ _ _ _) rfl (vc6_one _ _ _ _ _ _ o1 o2) ?_))
      have g4 := grown_row M8.out.gr (w.heap.size + 1) (vc6 6 [] [] 0 nv iv) (by omega)
      refine bodyPost_ret (results_cell_row Tryz.results57 _ _ (w.heap.size + 1) 28 (vc6 6 [] [] 0 nv iv) (0, 0) _ rfl (setRow_heap _ _ _ _ _ _ M8.out.bz) Tryz.underlying28 rfl (sz28 _ _ _ _ _ _)) rfl ?_
      exact ⟨q3, _, d, nv, iv, ns, is, rfl, M8.out.rq.keep (setRow_other _ _ _ _ (by omega)), g4, hq3, hd, by omega, SN.out.grown g4 hr, SI.out.grown g4 hr, .inr ⟨3, E.out, by decide, .inl rfl, .inl ⟨rfl, rfl⟩⟩⟩

/-- Whatever stands there. -/
theorem dmember_any (B r : Nat) (s : ByteArray) (p d n : Nat) (nv iv : Value) (ns is : List Js.B) (w : World) (h : Rq r s p d 0 w) (hr : r < B) (hp : p ≤ s.size) (hs : s.size ≤ 1000) (hd : d ≤ 1000) (hdn : d + n = 8) (hB : B ≤ w.heap.size) (sn : Sl B w nv ns) (si : Sl B w iv is)
    (hrise : Js.Rise ns) (hln : ns.length ≤ 500) (hni : ns.length = is.length) (hvc : VCd n) :
    Calls Tryz.prog 57 #[.pointer (some ⟨r, 0, none⟩), .agg (vc6 6 [] [] 0 nv iv)] w fun en w' => MOut B r s p n ns is w en w' := by
  cases h34 : iz s (sk s p) 0 34 with
  | true => exact dmember_yes B r s p d n nv iv ns is w h hr hp hs hd hdn hB sn si hrise hln hni hvc h34
  | false => exact dmember_no B r s p d n nv iv ns is w h hr hp hs hd hdn sn si h34
end Go.Proofs.YtpeioecpilmpiaaGreatDoor

/-
  The document's list: what it says of the text, and its memory.
-/
namespace Go.Proofs.YtpeioecpilmpiaaGreatDoor
open Go.RowKit
/-- What more leaves: whether there is another one, where, how deep, and the fault. -/
def m44 (s : ByteArray) (q e : Nat) : Bool := iz s (sk s q) e 44
theorem sk_dg {s : ByteArray} {q : Nat} (hq : q < s.size) (h : Js.isDg (s.get! q) = true) : sk s q = q := by
  have hb : Js.isBl (s.get! q) = false := by
    rw [Js.isDg_iff] at h
    cases hb : Js.isBl (s.get! q) with
    | false => rfl
    | true =>
      exfalso
      simp only [Js.isBl, Bool.or_eq_true, beq_iff_eq] at hb
      rcases hb with ((hb | hb) | hb) | hb <;> rw [hb] at h <;> revert h <;> decide
  refine (sk_eq (by omega) ?_).symm
  rw [L_cons s q hq, Js.skip_id _ _ hb]
theorem iz_dg {s : ByteArray} {q e : Nat} {c : UInt8} (h : Js.isDg (s.get! q) = true) (hc : Js.isDg c = false) : iz s q e c = false := by
  cases hi : iz s q e c with
  | false => rfl
  | true =>
    simp only [iz, Bool.and_eq_true, decide_eq_true_eq, beq_iff_eq] at hi
    rw [hi.2.2, hc] at h
    cases h

/-- What a value's reading says of the text. -/
def VX (n : Nat) (s : ByteArray) (p : Nat) (q e d : Nat) (f : Js.B) : Prop :=
  (∃ x, Js.pv n (L s p) = .ok (x, L s q) ∧ e = 0 ∧ d + n = 8 ∧ f = x.form) ∨
    (∃ fa, Js.pv n (L s p) = .error fa ∧ fa ≠ 0 ∧ (e = fa ∨ (fa = 3 ∧ e = 0 ∧ d + n = 8 ∧ q < s.size ∧ Js.isDg (s.get! q) = true)))
/-- How a list ends. -/
def LEnd (T : Except Nat (List Js.X × Js.B)) (s : ByteArray) (n q e d : Nat) (is : List Js.B) : Prop :=
  (∃ l, T = .ok (l, L s q) ∧ e = 0 ∧ d + (n + 1) = 8 ∧ is = l.map Js.X.form) ∨ (∃ fa, T = .error fa ∧ fa ≠ 0 ∧ e = fa)

theorem lx_more {n : Nat} {s : ByteArray} {T : Except Nat (List Js.X × Js.B)} {p q e d : Nat} {f : Js.B} {l : List Js.X} (hT : Js.lix (Js.pv n) (L s p) l = T) (hv : VX n s p q e d f) (h44 : iz s (sk s q) e 44 = true) :
    e = 0 ∧ d + n = 8 ∧ ∃ x, f = x.form ∧ Js.lix (Js.pv n) (L s (sk s q + 1)) (l ++ [x]) = T ∧ Js.pv n (L s p) = .ok (x, L s q) := by
  obtain ⟨rfl, h1, h2⟩ := iz_true h44
  rw [L_sk] at h2
  rcases hv with ⟨x, hx, _, hd, hf⟩ | ⟨fa, hx, hfa, he⟩
  · refine ⟨rfl, hd, x, hf, ?_, hx⟩
    rw [← hT, Js.lix_eq (Js.pv n) (Js.pv_shr n) (L s p), hx]
    simp only [h2]
  · rcases he with rfl | ⟨_, _, _, hq, hg⟩
    · exact absurd rfl hfa
    · exfalso
      rw [sk_dg hq hg, iz_dg hg (by decide)] at h44
      cases h44

theorem lx_end {n : Nat} {s : ByteArray} {T : Except Nat (List Js.X × Js.B)} {p q e d : Nat} {f : Js.B} {l : List Js.X} (hT : Js.lix (Js.pv n) (L s p) l = T) (hv : VX n s p q e (d + 1) f) (h44 : iz s (sk s q) e 44 = false) :
    LEnd T s n (if iz s (sk s q) e 93 then sk s q + 1 else sk s q) (if iz s (sk s q) e 93 then e else fl e 3) (if iz s (sk s q) e 93 then d else d + 1) (l.map Js.X.form ++ [f]) := by
  rw [Js.lix_eq (Js.pv n) (Js.pv_shr n) (L s p)] at hT
  rcases hv with ⟨x, hx, rfl, hd, rfl⟩ | ⟨fa, hx, hfa, he⟩
  · rw [hx] at hT
    simp only at hT
    cases h93 : iz s (sk s q) 0 93 with
    | true =>
      obtain ⟨_, h1, h2⟩ := iz_true h93
      rw [L_sk] at h2
      simp only [h2] at hT
      exact .inl ⟨_, hT.symm, rfl, by simp only [if_true]; omega, by simp⟩
    | false =>
      have n1 := iz_false h44
      have n2 := iz_false h93
      rw [L_sk] at n1 n2
      refine .inr ⟨3, ?_, by decide, rfl⟩
      rw [← hT]
      split
      · rename_i r e
        exact absurd e (n1 r)
      · rename_i r e
        exact absurd e (n2 r)
      · rfl
  · rw [hx] at hT
    simp only at hT
    rcases he with rfl | ⟨rfl, rfl, _, hq, hg⟩
    · rw [iz_bad _ _ _ 93 hfa]
      exact .inr ⟨e, hT.symm, hfa, by simp only [Bool.false_eq_true, if_false]; exact fl_bad e 3 hfa⟩
    · rw [sk_dg hq hg, iz_dg hg (by decide)]
      exact .inr ⟨3, hT.symm, by decide, rfl⟩

/-- The memory of list: both blocks that it makes first. -/
structure LW (r : Nat) (s : ByteArray) (V : Array Value) (w : World) (q d e : Nat) (u : World) : Prop where
  rq : Rq r s q d e u
  gr : w.grownBy u (some r)
  bz : Bk u w.heap.size z6
  bv : Bk u (w.heap.size + 1) V
theorem LW.next {r : Nat} {s : ByteArray} {V : Array Value} {w u u' : World} {q d e q' d' e' : Nat} (h : LW r s V w q d e u) (hw : r < w.heap.size) (g : u.grownBy u' (some r)) (k : Rq r s q' d' e' u') : LW r s V w q' d' e' u' :=
  ⟨k, gtrans h.gr g, h.bz.grown g (by omega), h.bv.grown g (by omega)⟩
theorem LW.below {r : Nat} {s : ByteArray} {V : Array Value} {w u u' : World} {q d e : Nat} (h : LW r s V w q d e u) (hw : r < w.heap.size) (g : Below u.heap.size u u') : LW r s V w q d e u' :=
  h.next hw (gbelow g) (h.rq.below h.rq.lt g)
theorem LW.set {r : Nat} {s : ByteArray} {V : Array Value} {w u : World} {q d e : Nat} (h : LW r s V w q d e u) (hw : r < w.heap.size) (i : Nat) (v : Value) :
    LW r s (V.setIfInBounds i v) w q d e (u.setCell ⟨w.heap.size + 1, i, none⟩ v) :=
  ⟨h.rq.cellother _ i v (by omega), grown_cell h.gr _ i v (by omega), h.bz.cellother _ i v (by omega), h.bv.set i v⟩
end Go.Proofs.YtpeioecpilmpiaaGreatDoor

/-
  The document's list: nothing in it.
-/
namespace Go.Proofs.YtpeioecpilmpiaaGreatDoor
open Go.RowKit
theorem LW.start {r : Nat} {s : ByteArray} {w : World} {p d : Nat} (h : Rq r s p d 0 w) (c : Array Value) :
    LW r s c w p d 0 (((w.alloc (.cells z6 28)).alloc (.cells z6 28)).setRow (w.heap.size + 1) c) := by
  have e1 : (w.alloc (.cells z6 28)).heap.size = w.heap.size + 1 := by simp
  have b1 : Below w.heap.size w ((w.alloc (.cells z6 28)).alloc (.cells z6 28)) := ((Below.refl _ _).alloc (Nat.le_refl _) _).alloc (by simp) _
  have k := h.lt
  have hb := Bk.new (w.alloc (.cells z6 28)) z6
  rw [e1] at hb
  have hz : Bk ((w.alloc (.cells z6 28)).alloc (.cells z6 28)) w.heap.size z6 := (Bk.new w z6).below ((Below.refl _ _).alloc (Nat.le_refl _) _)
  exact ⟨(h.below h.lt b1).keep (setRow_other _ _ _ _ (by omega)), grown_row (gbelow b1) _ _ (by omega), hz.keep (setRow_other _ _ _ _ (by omega)), setRow_heap _ _ _ _ _ _ hb⟩
theorem bv0 (w : World) : Bk ((w.alloc (.cells z6 28)).alloc (.cells z6 28)) (w.heap.size + 1) z6 := by
  have e1 : (w.alloc (.cells z6 28)).heap.size = w.heap.size + 1 := by simp
  have hb := Bk.new (w.alloc (.cells z6 28)) z6
  rw [e1] at hb
  exact hb

/-- What a list leaves. -/
def LOutD (r : Nat) (s : ByteArray) (p n : Nat) (w : World) (en : Ending) (w' : World) : Prop :=
  ∃ (q e d : Nat) (iv : Value) (is : List Js.B), en = .returned (.agg (vc6 5 (91 :: (Js.joins is ++ [93])) [] 0 noS iv)) ∧ Rq r s q d e w' ∧ w.grownBy w' (some r) ∧ q ≤ s.size ∧ d ≤ 1000 ∧ 8 ≤ d + (n + 1) ∧ Sl w.heap.size w' iv is ∧ (91 :: (Js.joins is ++ [93])).length ≤ bnd (n + 1) ∧ LEnd (Js.liT (Js.pv n) (L s (p + 1))) s n q e d is

theorem sl_nil (B : Nat) (w : World) : Sl B w noS [] := ⟨rfl, .inl ⟨rfl, rfl⟩⟩

set_option maxHeartbeats 8000000 in
set_option maxRecDepth 100000 in
/-- An empty list. -/
theorem dlist_empty (r : Nat) (s : ByteArray) (p d n : Nat) (w : World) (h : Rq r s p d 0 w) (hp : p < s.size) (hs : s.size ≤ 1000) (hdn : d + (n + 1) = 8) (h93 : iz s (sk s (p + 1)) 0 93 = true) :
    Calls Tryz.prog 38 #[.pointer (some ⟨r, 0, none⟩)] w fun en w' => LOutD r s p n w en w' := by
  have rlt := h.lt
  have BV0 := asd (bv0 w)
  have L0 := asd (LW.start h (vc6 5 [] [] 0 noS noS))
  have KO := asd (fun w1 h1 => dopen_any r s p d w1 h1 hp hs (by omega))
  have HI := asd (iz_true h93)
  have HSK := asd (L_sk s (p + 1))
  have hq1 := iz_le h93
  generalize sk s (p + 1) = q0 at *
  have d8 : ¬ d = 8 := by omega
  rw [if_neg d8] at KO
  have IZ := h93
  clear h h93
  go_enter Tryz.func38, Tryz.ntmps38
  go_wp2_with (first
    | (refine wpList_store_row rfl 28 _ _ rfl _ (vc6 5 [] [] 0 noS noS) rfl rfl 28 _ BV0.out (sz28 _ _ _ _ _ _) rfl (vc6_one _ _ _ _ _ _ rfl rfl) ?_; generalize hwA : World.setRow _ (w.heap.size + 1) _ = wA; have A0 : Aside (LW r s (vc6 5 [] [] 0 noS noS) w p d 0 wA) := (by rw [← hwA]; exact L0); clear hwA L0 BV0)
    | (go_at_call 56; refine (KO.out _ A0.out.rq).mono ?_; rintro en w1 ⟨rfl, h1, g1⟩; have A1 := asd (A0.out.next rlt g1 h1); clear h1 g1 A0 KO)
    | (go_at_call 36; refine (is_any r s q0 (d + 1) 0 93 _ A1.out.rq).mono ?_; rw [IZ]; rintro en w2 ⟨rfl, h2, g2⟩; have A2 := asd (A1.out.next rlt ⟨g2.os, g2.tape, g2.output, g2.size, fun k hk _ => g2.block k hk (fun e => by cases e)⟩ h2); have c1 := A2.out.rq.c1; have f1 := A2.out.rq.fz 1; have A3 := asd (A2.out.next rlt (grown_set w2 r 1 (.int .i64 ((q0 : Int) + 1))) A2.out.rq.inc1); have c2 := A3.out.rq.c2; have f2 := A3.out.rq.fz 2; have A4 := asd (A3.out.next rlt (grown_set (w2.setCell ⟨r, 1, none⟩ (.int .i64 ((q0 : Int) + 1))) r 2 (.int .i64 (d : Int))) (A3.out.rq.set2 d)); have c3 := A4.out.bv.cell 1; have f3 := A4.out.bv.fz 1; have A5 : Aside (LW r s (vc6 5 [91, 93] [] 0 noS noS) w (q0 + 1) d 0 (((w2.setCell ⟨r, 1, none⟩ (.int .i64 ((q0 : Int) + 1))).setCell ⟨r, 2, none⟩ (.int .i64 (d : Int))).setCell ⟨w.heap.size + 1, 1, none⟩ (.string (bs [91, 93])))) := A4.out.set rlt 1 (.string (bs [91, 93])); clear h2 g2 A1)
    | (refine wpList_load_row rfl 28 _ rfl _ rfl 28 _ (0, 0) _ A5.out.bv Tryz.underlying28 rfl (sz28 _ _ _ _ _ _) ?_)
    | (refine wpList_store_row rfl 28 _ _ rfl _ (vc6 5 [91, 93] [] 0 noS noS) rfl rfl 28 _ A5.out.bz (sz28 _ _ _ _ _ _) rfl (vc6_one _ _ _ _ _ _ rfl rfl) ?_))
  have g4 := grown_row A5.out.gr w.heap.size (vc6 5 [91, 93] [] 0 noS noS) (Nat.le_refl _)
  refine bodyPost_ret (results_cell_row Tryz.results38 _ _ w.heap.size 28 (vc6 5 [91, 93] [] 0 noS noS) (0, 0) _ rfl (setRow_heap _ _ _ _ _ _ A5.out.bz) Tryz.underlying28 rfl (sz28 _ _ _ _ _ _)) rfl ?_
  exact ⟨q0 + 1, 0, d, noS, [], rfl, A5.out.rq.keep (setRow_other _ _ _ _ (by omega)), g4, hq1, by omega, by omega, sl_nil _ _, (by show 2 ≤ 100000 * (n + 1 + 1); omega), .inl ⟨[], Js.liT_end _ _ _ (by rw [← HSK.out]; exact HI.out.2.2), rfl, hdn, rfl⟩⟩
end Go.Proofs.YtpeioecpilmpiaaGreatDoor
