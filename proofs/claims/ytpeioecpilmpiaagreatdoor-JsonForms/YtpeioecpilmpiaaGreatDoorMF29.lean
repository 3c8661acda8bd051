/-
  YtpeioecpilmpiaaGreatDoor: the texts G3, one behind the other.
-/
import Derived.Test.YtpeioecpilmpiaaGreatDoorMF28
import Derived.Test.YtpeioecpilmpiaaGreatDoorMF18
import Derived.Deep.RegionHeld
import Derived.WalkKit
import Derived.WalkSpells
import Derived.WalkLawsBesides
import Derived.Deep.LoopGhost
import Derived.Laws.Externs
import Derived.Below
import Derived.BigQuiet
import Derived.Deep.RegionWith
import Derived.OwnWalk
import Derived.Maps.AppendAt
import Derived.WalkSmall
/-
  The document's list.
-/
namespace Go.Proofs.YtpeioecpilmpiaaGreatDoor
open Go.RowKit
/-- One text more in a slice. -/
theorem push_sl (B : Nat) (w : World) (sl : Value) (ls : List Js.B) (b : Js.B) (h : Sl B w sl ls) (hl : ls.length ≤ 100000) (hB : B ≤ w.heap.size) :
    ∃ v' w', (Builtin.append_ #[26, 26] 26 #[sl, .slice (some ⟨w.heap.size, 0, none⟩) 1 1]).run Tryz.prog (w.alloc (.cells #[.string (bs b)] 9)) = .ok v' w' ∧ Sl B w' v' (ls ++ [b]) ∧ Below B w w' := pushS_run B w sl ls b h hl hB 26

theorem joins_snoc (l : List Js.B) (x : Js.B) (h : l ≠ []) : Js.joins (l ++ [x]) = Js.joins l ++ [44] ++ x := by
  induction l with
  | nil => exact absurd rfl h
  | cons y t ih =>
    cases t with
    | nil => rw [List.cons_append, List.nil_append]; simp [Js.joins, Lib.join]
    | cons z t2 =>
      have := ih (by simp)
      rw [List.cons_append, List.cons_append, Js.joins_two, Js.joins_two, ← List.cons_append, this]
      simp
theorem joins_take {l : List Js.B} {i : Nat} (h : i < l.length) : Js.joins (l.take (i + 1)) = (if 0 < i then Js.joins (l.take i) ++ [44] else Js.joins (l.take i)) ++ l[i] := by
  rw [List.take_succ_eq_append_getElem h]
  cases i with
  | zero => rw [if_neg (by omega), List.take_zero, List.nil_append, Js.joins_one]; rfl
  | succ i =>
    rw [if_pos (by omega)]
    refine joins_snoc _ _ fun e => ?_
    have := congrArg List.length e
    rw [List.length_take, List.length_nil] at this
    omega

theorem joins_take_len (l : List Js.B) (i : Nat) : (Js.joins (l.take i)).length ≤ Js.S l := by
  have h1 : Js.S (l.take i) ≤ Js.S l := by
    have := Js.S_app (l.take i) (l.drop i)
    rw [List.take_append_drop] at this
    omega
  by_cases h : l.take i = []
  · rw [h]; simp [Js.joins, Lib.join]
  · have := Js.joins_len _ h
    omega

theorem vc6_set1 (k : Int) (f f2 t : Js.B) (n : Int) (nv iv : Value) : (vc6 k f t n nv iv).setIfInBounds 1 (.string (bs f2)) = vc6 k f2 t n nv iv := by rfl
theorem takeH_to {P : Program} {md : Region.Mode} {ops : Array Oper} {Q : Exit → Act → World → Prop} {S : World → Prop} {i : Nat} {oi : Oper} {v : Value} {fuel : Nat} {listed : Array Bool} {a : Act} {w : World} (d : Option Tmp) (hi : ops[i]? = some oi) (hd : oi.dst = d)
    (hs : Region.noSelect ops = true) (hf : Region.free md ops listed i = true) (hr : (Region.ready md ops listed).contains i = true)
    (hQ : ∀ c a w, Q (.panic c) (a.put oi.dst v) w → Q (.panic c) a w) (hy : YieldsIf P ops S oi v a) (hS : S w)
    (h : wpAnyH P md ops Q S fuel (listed.setIfInBounds i true) (a.put d v) w) : wpAnyH P md ops Q S (fuel + 1) listed a w := by
  subst hd
  exact wpAnyH_take hi hs hf hr hQ hy hS h

theorem fld1 (k : Int) (f t : Js.B) (n : Int) (nv iv : Value) (u : World) : Sem.run Tryz.prog (Instr.field 28 (Value.agg (vc6 k f t n nv iv)) 1) u = .ok (.string (bs f)) u := by kernel_rfl

set_option maxHeartbeats 8000000 in
set_option maxRecDepth 100000 in
/-- A list of something. -/
theorem dlist_go (r : Nat) (s : ByteArray) (p d n : Nat) (w : World) (h : Rq r s p d 0 w) (hp : p < s.size) (hs : s.size ≤ 1000) (hdn : d + (n + 1) = 8) (hvc : VCd n) (h93 : iz s (sk s (p + 1)) 0 93 = false) :
    Calls Tryz.prog 38 #[.pointer (some ⟨r, 0, none⟩)] w fun en w' => LOutD r s p n w en w' := by
  have rlt := h.lt
  have BV0 := asd (bv0 w)
  have L0 := asd (LW.start h (vc6 5 [] [] 0 noS noS))
  have KO := asd (fun w1 h1 => dopen_any r s p d w1 h1 hp hs (by omega))
  have hq0 := sk_le s (p + 1)
  have HT : Aside (Js.lix (Js.pv n) (L s (sk s (p + 1))) [] = Js.liT (Js.pv n) (L s (p + 1))) := by
    show _ = _
    rw [Js.liT_other _ _ (by rw [← L_sk]; exact iz_false h93), L_sk]
  generalize sk s (p + 1) = q0 at *
  have d8 : ¬ d = 8 := by omega
  rw [if_neg d8] at KO
  have HV := asd hvc
  have IZ := h93
  clear h h93 hvc
  go_enter Tryz.func38, Tryz.ntmps38
  go_wp2_with (first
    | (refine wpList_store_row rfl 28 _ _ rfl _ (vc6 5 [] [] 0 noS noS) rfl rfl 28 _ BV0.out (sz28 _ _ _ _ _ _) rfl (vc6_one _ _ _ _ _ _ rfl rfl) ?_; generalize hwA : World.setRow _ (w.heap.size + 1) _ = wA; have A0 : Aside (LW r s (vc6 5 [] [] 0 noS noS) w p d 0 wA) := (by rw [← hwA]; exact L0); clear hwA L0 BV0)
    | (go_at_call 56; refine (KO.out _ A0.out.rq).mono ?_; rintro en w1 ⟨rfl, h1, g1⟩; have A1 := asd (A0.out.next rlt g1 h1); clear h1 g1 A0 KO)
    | (go_at_call 36; refine (is_any r s q0 (d + 1) 0 93 _ A1.out.rq).mono ?_; rw [IZ]; rintro en w2 ⟨rfl, h2, g2⟩; have A2 := asd (A1.out.next rlt ⟨g2.os, g2.tape, g2.output, g2.size, fun k hk _ => g2.block k hk (fun e => by cases e)⟩ h2); clear h2 g2 A1))
  go_loopg [] s.size (fun gh wr => ∃ (q : Nat) (l : List Js.X) (sl : Value), s.size - q ≤ gh ∧ q ≤ s.size ∧ l.length ≤ q ∧ Aside (Js.S (l.map Js.X.form) ≤ q) ∧ Aside (Js.lix (Js.pv n) (L s q) l = Js.liT (Js.pv n) (L s (p + 1))) ∧ Aside (LW r s (vc6 5 [] [] 0 noS sl) w q (d + 1) 0 wr) ∧ Aside (Sl (w.heap.size + 2) wr sl (l.map Js.X.form)))
  case atStart => exact ⟨q0, [], noS, by omega, hq0, by simp, Nat.zero_le _, HT, A2.out, sl_nil _ _⟩
  case round =>
    obtain ⟨q, l, sl, hgh, hq, hlq, HSQ, HL, LR, SR⟩ := hrel
    clear A2 HT
    have c3 := LR.out.rq.c3
    have cv : wr.cell? ⟨w.heap.size + 1, 5, none⟩ = some sl := LR.out.bv.cell 5
    have hsz := LR.out.gr.size
    have T1 : Aside True := trivial
    have GD : wr.grownBy wr.drew (some r) := gbelow (Below.drew (Below.refl _ _))
    have LD := asd (LR.out.next rlt GD (LR.out.rq.keep rfl))
    have SD := asd (SR.out.grown GD (by omega))
    have cvd : wr.drew.cell? ⟨w.heap.size + 1, 5, none⟩ = some sl := LD.out.bv.cell 5
    have V9 := asd (HV.out r s q (d + 1) wr.drew LD.out.rq (by omega) hq hs)
    have KV : Aside (∀ w2 : World, wr.drew.grownBy w2 (some r) → w2.cell? ⟨w.heap.size + 1, 5, none⟩ = some sl) := fun w2 g => by
      rw [(LD.out.bv.grown g (by have := LD.out.gr.size; omega)).cell 5]
      rfl
    have hszd : w.heap.size ≤ wr.drew.heap.size := LD.out.gr.size
    clear GD
    go_wp2_with fail
    refine wp_region_held_drew (S := fun _ => True) (by kernel_rfl) trivial (fun _ => ?_)
    change wpAnyH _ _ _ _ _ _ _ _ (World.drew _)
    refine takeH_to (i := 0) (v := .pointer (some ⟨w.heap.size + 1, 5, none⟩)) (some 31) rfl rfl (by kernel_rfl) (by kernel_rfl) (by kernel_rfl) (fun _ _ _ h => h) (Or.inl ⟨by rfl, fun u hu => by go_simp⟩) trivial ?_
    try simp only [Act.put, List.setIfInBounds_toArray, List.set_cons_zero, List.set_cons_succ]
    refine takeH_to (i := 2) (v := .pointer (some ⟨r, 0, none⟩)) (some 33) rfl rfl (by kernel_rfl) (by kernel_rfl) (by kernel_rfl) (fun _ _ _ h => h) (Or.inl ⟨by rfl, fun u hu => by go_simp⟩) trivial ?_
    try simp only [Act.put, List.setIfInBounds_toArray, List.set_cons_zero, List.set_cons_succ]
    refine wpAnyH_ready (rs := [1, 3]) (by kernel_rfl) (by simp) ?_
    refine AllReadyH.cons rfl (fun K hK => ?_) (AllReadyH.cons rfl (fun K hK => ?_) AllReadyH.nil)
    · skip
      rw [if_pos (by rfl)]
      go_simp
      refine hK.out _ _ trivial (fun _ => ?_)
      clear hK K
      try simp only [Act.put, List.setIfInBounds_toArray, List.set_cons_zero, List.set_cons_succ]
      refine wpAnyH_ready (rs := [3]) (by kernel_rfl) (by simp) ?_
      refine AllReadyH.cons rfl (fun K hK => ?_) AllReadyH.nil
      rw [if_pos (by rfl)]
      go_simp
      go_at_call 23
      refine V9.out.mono ?_
      rintro en w3 ⟨qx, ex, dx, kx, fx, tx, mx, nvx, ivx, nsx, isx, rfl, h9, g9, hqx, hdx, hdx8, _, _, hfx, OX0⟩
      have OX := asd OX0
      have M9 := asd (LD.out.next rlt g9 h9)
      have S9 := asd (SD.out.grown g9 (by omega))
      have k9 : w3.cell? ⟨w.heap.size + 1, 5, none⟩ = some sl := KV.out _ g9
      have z9 := g9.size
      have zz9 : w.heap.size + 1 < w3.heap.size := M9.out.bv.lt
      have n1 : ¬ w.heap.size + 1 = w3.heap.size := by omega
      have n2 : ¬ w3.heap.size = w.heap.size + 1 := by omega
      have k9A : ∀ o : Obj, (w3.alloc o).cell? ⟨w.heap.size + 1, 5, none⟩ = some sl := fun o => cell_below k9 ((Below.refl _ _).alloc (Nat.le_refl _) o)
      have FLD : ∀ u : World, Sem.run Tryz.prog (Instr.field 28 (Value.agg (vc6 kx fx tx mx nvx ivx)) 1) u = .ok (.string (bs fx)) u := fun u => fld1 _ _ _ _ _ _ u
      obtain ⟨v', w4, e4, o4, b4⟩ := push_sl (w.heap.size + 2) w3 sl (l.map Js.X.form) fx S9.out (by rw [List.length_map]; omega) (by omega)
      obtain ⟨va, vc, hva, _⟩ := o4.form
      generalize hnl : (l.map Js.X.form ++ [fx]).length = nl at hva
      subst hva
      clear hnl
      have HRUN := asd e4
      have L4 : Aside (LW r s (vc6 5 [] [] 0 noS sl) w qx dx ex w4) := asd ⟨M9.out.rq.keep (b4.block r (by omega)), gbel M9.out.gr (b4.mono (by omega)), M9.out.bz.keep (b4.block _ (by omega)), M9.out.bv.keep (b4.block _ (by omega))⟩
      have f4 : w4.frozen? ⟨w.heap.size + 1, 5, none⟩ = false := L4.out.bv.fz 5
      have k4 : w4.cell? ⟨w.heap.size + 1, 5, none⟩ = some sl := L4.out.bv.cell 5
      have L5 : Aside (LW r s (vc6 5 [] [] 0 noS (.slice va nl vc)) w qx dx ex (w4.setCell ⟨w.heap.size + 1, 5, none⟩ (.slice va nl vc))) := L4.out.set rlt 5 (.slice va nl vc)
      have S5 := asd (o4.cellset (w.heap.size + 1) 5 (.slice va nl vc) (by omega))
      clear e4 o4 b4 h9 g9 OX0 L4 S9 M9
      go_simp
      refine hK.out _ _ trivial (fun _ => ?_)
      clear hK K
      try simp only [Act.put, List.setIfInBounds_toArray, List.set_cons_zero, List.set_cons_succ]
      refine takeH_to (i := 4) (v := .string (bs fx)) (some 35) rfl rfl (by kernel_rfl) (by kernel_rfl) (by kernel_rfl) (fun _ _ _ h => h) (Or.inl ⟨by rfl, fun u hu => by go_simp⟩) trivial ?_
      try simp only [Act.put, List.setIfInBounds_toArray, List.set_cons_zero, List.set_cons_succ]
      refine wpAnyH_ready (rs := [5]) (by kernel_rfl) (by simp) ?_
      refine AllReadyH.cons rfl (fun K hK => ?_) AllReadyH.nil
      rw [if_pos (by rfl)]
      go_simp
      refine hK.out _ _ trivial (fun _ => ?_)
      clear hK K
      try simp only [Act.put, List.setIfInBounds_toArray, List.set_cons_zero, List.set_cons_succ]
      refine wpAnyH_ready (rs := [6]) (by kernel_rfl) (by simp) ?_
      refine AllReadyH.cons rfl (fun K hK => ?_) AllReadyH.nil
      refine step_append_run rfl _ _ 26 26 rfl sl (.slice (some ⟨w3.heap.size, 0, none⟩) 1 1) rfl rfl HRUN.out ?_
      refine hK.out _ _ trivial (fun _ => ?_)
      clear hK K
      try simp only [Act.put, List.setIfInBounds_toArray]
      refine takeH_to (i := 7) (v := .pointer (some ⟨w.heap.size + 1, 5, none⟩)) (some 38) rfl rfl (by kernel_rfl) (by kernel_rfl) (by kernel_rfl) (fun _ _ _ h => h) (Or.inl ⟨by rfl, fun u hu => by go_simp⟩) trivial ?_
      try simp only [Act.put]
      refine wpAnyH_ready (rs := [8]) (by kernel_rfl) (by simp) ?_
      refine AllReadyH.cons rfl (fun K hK => ?_) AllReadyH.nil
      rw [if_pos (by rfl)]
      go_simp
      refine hK.out _ _ trivial (fun _ => ?_)
      clear hK K
      try simp only [Act.put, List.setIfInBounds_toArray, List.set_cons_zero, List.set_cons_succ]
      refine wpAnyH_done (by kernel_rfl) ?_ _
      have HVX : Aside (VX n s q qx ex dx fx) := asd (OX.out.imp (fun ⟨x, a1, a2, a3, _, a5, _⟩ => ⟨x, a1, a2, a3, a5⟩) id)
      obtain ⟨d2, rfl⟩ : ∃ d2, dx = d2 + 1 := ⟨dx - 1, by omega⟩
      have KM := asd (dmore_any r s qx d2 ex 93 _ L5.out.rq hqx hs (by omega))
      clear OX LD SD LR SR c3 cv cvd k9 k4 k9A f4 FLD HRUN n1 n2
      generalize w4.setCell ⟨w.heap.size + 1, 5, none⟩ (.slice va nl vc) = w5 at *
      have hqs := sk_le s qx
      cases h44 : iz s (sk s qx) ex 44 with
      | true =>
        obtain ⟨rfl, hd8', x, hxf, HL2, hpv⟩ := lx_more HL.out HVX.out h44
        rw [h44] at KM
        have hlt : sk s qx < s.size := (iz_true h44).2.1
        have hqx1 : q < sk s qx + 1 := by
          have a := Js.pv_shr n _ _ _ hpv
          rw [L_len, L_len] at a
          have b := Js.skip_len (L s qx)
          rw [← L_sk, L_len, L_len] at b
          omega
        have HL3 := asd HL2
        have HSN : Aside (Js.S ((l ++ [x]).map Js.X.form) ≤ sk s qx + 1) := by
          show _ ≤ _
          have a := (Js.pv_bd n _ _ _ hpv).1
          rw [L_len, L_len] at a
          have b := Js.skip_len (L s qx)
          rw [← L_sk, L_len, L_len] at b
          have c := HSQ.out
          rw [List.map_append, Js.S_app, List.map_cons, List.map_nil, Js.S_cons]
          simp only [Js.S, List.map_nil, List.sum_nil] at c ⊢
          omega
        have FM := asd hxf
        clear HL HL2 hpv HVX hxf hfx
        go_wp2_with (first
          | (go_at_call 58; refine KM.out.mono ?_; rintro en w6 ⟨rfl, g6, h6⟩; simp only [Bool.true_or, if_true] at h6; have L6 := asd (L5.out.next rlt g6 h6); have S6 := asd (S5.out.grown g6 (by omega)); clear KM L5 S5 h6 g6))
        go_roundg (s.size - (sk s qx + 1))
        case measure => omega
        case rel =>
          refine ⟨sk s qx + 1, l ++ [x], .slice va nl vc, Nat.le_refl _, hlt, by rw [List.length_append]; simp only [List.length_cons, List.length_nil]; omega, HSN, HL3, ?_, ?_⟩
          · rw [show d2 + 1 = d + 1 by omega] at L6; exact L6
          · rw [List.map_append, List.map_cons, List.map_nil, ← FM.out]; exact S6
      | false =>
        have HE := asd (lx_end HL.out HVX.out h44)
        rw [h44] at KM
        simp only [Bool.false_or, Bool.false_eq_true, if_false] at KM
        have hqz : (if iz s (sk s qx) ex 93 then sk s qx + 1 else sk s qx) ≤ s.size := by
          split
          · rename_i h; exact iz_le h
          · exact hqs
        have hdz : (if iz s (sk s qx) ex 93 then d2 else d2 + 1) ≤ 1000 ∧ 8 ≤ (if iz s (sk s qx) ex 93 then d2 else d2 + 1) + (n + 1) := by split <;> omega
        generalize (if iz s (sk s qx) ex 93 then sk s qx + 1 else sk s qx) = qz at *
        generalize (if iz s (sk s qx) ex 93 then d2 else d2 + 1) = dz at *
        generalize (if iz s (sk s qx) ex 93 then ex else fl ex 3) = ez at *
        have hnl : nl = (l.map Js.X.form ++ [fx]).length := by
          obtain ⟨_, _, e, _⟩ := S5.out.form
          injection e
        have hil : (l.map Js.X.form ++ [fx]).length ≤ 1001 := by rw [List.length_append, List.length_map]; simp only [List.length_cons, List.length_nil]; omega
        have FXL : Aside (Js.S (l.map Js.X.form ++ [fx]) ≤ 1000 + (bnd n + 1)) := by
          show _ ≤ _
          rw [Js.S_app, Js.S_cons]
          have h1 := HSQ.out
          have h0 : Js.S ([] : List Js.B) = 0 := rfl
          rw [h0]
          omega
        generalize l.map Js.X.form ++ [fx] = is at *
        subst hnl
        have hbn : bnd n ≤ 900000 := by unfold bnd; omega
        have hS : Js.S is ≤ 1000 + (bnd n + 1) := by have := FXL.out; omega
        clear HL HVX h44
        go_wp2_with (first
          | (go_at_call 58; refine KM.out.mono ?_; rintro en w6 ⟨rfl, g6, h6⟩; have L6 := asd (L5.out.next rlt g6 h6); have S6 := asd (S5.out.grown g6 (by omega)); clear KM L5 S5 h6 g6))
        go_loopg [4] is.length (fun gh s4 wj => ∃ i : Nat, is.length - i ≤ gh ∧ i ≤ is.length ∧ s4 = .int .i64 (i : Int) ∧ Aside (LW r s (vc6 5 (Js.joins (is.take i)) [] 0 noS (.slice va is.length vc)) w qz dz ez wj) ∧ Aside (Sl (w.heap.size + 2) wj (.slice va is.length vc) is))
        case atStart => exact ⟨0, by omega, by omega, rfl, L6.out, S6.out⟩
        case round =>
          obtain ⟨i, hgh2, hi, rfl, LJ, SJ⟩ := hrel
          clear L6 S6
          have j5 : wr.cell? ⟨w.heap.size + 1, 5, none⟩ = some (.slice va is.length vc) := LJ.out.bv.cell 5
          by_cases hlt : i < is.length
          · have e1 : decide ((i : Int) < (is.length : Int)) = true := decide_eq_true (by omega)
            have HTK := asd (joins_take hlt)
            have hjl := joins_take_len is i
            have hjl2 := joins_take_len is (i + 1)
            have zl : (bs (Js.joins (is.take i))).size ≤ 1000000 := by show (Js.joins (is.take i)).length ≤ _; omega
            have zx : (bs is[i]).size ≤ 1000000 := by
              show (is[i]).length ≤ _
              rw [HTK.out, List.length_append] at hjl2
              omega
            obtain ⟨_, _, efm, hel⟩ := SJ.out.form
            obtain ⟨g, hg1, hg2, hg3⟩ := hel i hlt
            have hva : va = some ⟨g, 0, none⟩ := by
              injection efm with e1 _ _
              rw [e1, hg1]
            subst hva
            clear efm hel hg1
            have j1 : wr.cell? ⟨w.heap.size + 1, 1, none⟩ = some (.string (bs (Js.joins (is.take i)))) := LJ.out.bv.cell 1
            have jf := LJ.out.bv.fz 1
            have i1 : (0 : Int) ≤ (i : Int) := by omega
            have i2 : (i : Int) < (is.length : Int) := by omega
            have AFT : Aside (∀ (u : World) (F : Js.B), LW r s (vc6 5 F [] 0 noS (.slice (some ⟨g, 0, none⟩) is.length vc)) w qz dz ez u → Sl (w.heap.size + 2) u (.slice (some ⟨g, 0, none⟩) is.length vc) is → F ++ is[i] = Js.joins (is.take (i + 1)) →
                LW r s (vc6 5 (Js.joins (is.take (i + 1))) [] 0 noS (.slice (some ⟨g, 0, none⟩) is.length vc)) w qz dz ez (u.drew.setCell ⟨w.heap.size + 1, 1, none⟩ (.string (bs F ++ bs is[i]))) ∧ Sl (w.heap.size + 2) (u.drew.setCell ⟨w.heap.size + 1, 1, none⟩ (.string (bs F ++ bs is[i]))) (.slice (some ⟨g, 0, none⟩) is.length vc) is) := fun u F h1 h2 h3 => by
              have a1 := (h1.below rlt (Below.drew (Below.refl _ _))).set rlt 1 (.string (bs (F ++ is[i])))
              rw [vc6_set1, h3] at a1
              have e : bs F ++ bs is[i] = bs (Js.joins (is.take (i + 1))) := by rw [bs_app, ← h3]
              rw [e]
              exact ⟨a1, (h2.below (Below.drew (Below.refl _ _))).cellset _ _ _ (by omega)⟩
            by_cases h0 : 0 < i
            · have e2 : decide ((0 : Int) < (i : Int)) = true := decide_eq_true (by omega)
              have HF : Aside ((Js.joins (is.take i) ++ [44]) ++ is[i] = Js.joins (is.take (i + 1))) := by show _ = _; rw [HTK.out, if_pos h0]
              have LV : Aside (LW r s (vc6 5 (Js.joins (is.take i) ++ [44]) [] 0 noS (.slice (some ⟨g, 0, none⟩) is.length vc)) w qz dz ez (wr.setCell ⟨w.heap.size + 1, 1, none⟩ (.string (bs (Js.joins (is.take i)) ++ bs [44])))) := by
                have EQF : bs (Js.joins (is.take i)) ++ bs [44] = bs (Js.joins (is.take i) ++ [44]) := by rw [bs_app]
                rw [EQF]
                have h := LJ.out.set rlt 1 (.string (bs (Js.joins (is.take i) ++ [44])))
                rw [vc6_set1] at h
                exact h
              have SV := asd (SJ.out.cellset (w.heap.size + 1) 1 (.string (bs (Js.joins (is.take i)) ++ bs [44])) (by omega))
              clear LJ SJ HTK hg3
              go_wp2_with fail
              generalize hwv : World.setCell wr ⟨w.heap.size + 1, 1, none⟩ _ = wv
              have LV2 : Aside (LW r s (vc6 5 (Js.joins (is.take i) ++ [44]) [] 0 noS (.slice (some ⟨g, 0, none⟩) is.length vc)) w qz dz ez wv) := by rw [← hwv]; exact LV
              have SV2 : Aside (Sl (w.heap.size + 2) wv (.slice (some ⟨g, 0, none⟩) is.length vc) is) := by rw [← hwv]; exact SV
              have hg3 : wv.cell? ⟨g, i, none⟩ = some (.string (bs is[i])) := by
                obtain ⟨_, _, e3, h3⟩ := SV2.out.form
                obtain ⟨g', hg', _, h4⟩ := h3 i hlt
                injection e3 with e4 _ _
                rw [← e4] at hg'
                injection hg' with hg'
                injection hg' with hg'
                rw [hg']
                exact h4
              clear j1 j5 jf LV SV hwv
              have j1 : wv.cell? ⟨w.heap.size + 1, 1, none⟩ = some (.string (bs (Js.joins (is.take i) ++ [44]))) := LV2.out.bv.cell 1
              have j5 : wv.cell? ⟨w.heap.size + 1, 5, none⟩ = some (.slice (some ⟨g, 0, none⟩) is.length vc) := LV2.out.bv.cell 5
              have jf := LV2.out.bv.fz 1
              have AF := asd (AFT.out wv _ LV2.out SV2.out HF.out)
              have zl : (bs (Js.joins (is.take i) ++ [44])).size ≤ 1000001 := by show (Js.joins (is.take i) ++ [44]).length ≤ _; rw [List.length_append]; simp only [List.length_singleton]; omega
              clear LV2 SV2 AFT HF
              generalize bs (Js.joins (is.take i) ++ [44]) = A at *
              generalize bs is[i] = C at *
              go_region
              all_goals go_wp2_with fail
              all_goals go_roundg (is.length - (i + 1))
              all_goals first
                | omega
                | exact ⟨i + 1, Nat.le_refl _, hlt, by go_num, AF.out.1, AF.out.2⟩
            · have e2 : decide ((0 : Int) < (i : Int)) = false := decide_eq_false (by omega)
              have HF : Aside (Js.joins (is.take i) ++ is[i] = Js.joins (is.take (i + 1))) := by show _ = _; rw [HTK.out, if_neg h0]
              have AF := asd (AFT.out wr _ LJ.out SJ.out HF.out)
              clear LJ SJ HTK AFT HF
              generalize bs (Js.joins (is.take i)) = A at *
              generalize bs is[i] = C at *
              go_wp2_with fail
              go_region
              all_goals go_wp2_with fail
              all_goals go_roundg (is.length - (i + 1))
              all_goals first
                | omega
                | exact ⟨i + 1, Nat.le_refl _, hlt, by go_num, AF.out.1, AF.out.2⟩
          · obtain rfl : i = is.length := by omega
            have e1 : decide ((is.length : Int) < (is.length : Int)) = false := decide_eq_false (by omega)
            have j1 : wr.cell? ⟨w.heap.size + 1, 1, none⟩ = some (.string (bs (Js.joins (is.take is.length)))) := LJ.out.bv.cell 1
            have jf := LJ.out.bv.fz 1
            rw [List.take_length] at j1 LJ
            have LF : Aside (LW r s (vc6 5 (91 :: (Js.joins is ++ [93])) [] 0 noS (.slice va is.length vc)) w qz dz ez (wr.setCell ⟨w.heap.size + 1, 1, none⟩ (.string (bs [91] ++ bs (Js.joins is) ++ bs [93])))) := by
              have EQF : bs [91] ++ bs (Js.joins is) ++ bs [93] = bs ([91] ++ Js.joins is ++ [93]) := by rw [bs_app, bs_app]
              rw [EQF]
              have h := LJ.out.set rlt 1 (.string (bs ([91] ++ Js.joins is ++ [93])))
              rw [vc6_set1] at h
              exact h
            have SF := asd (SJ.out.cellset (w.heap.size + 1) 1 (.string (bs [91] ++ bs (Js.joins is) ++ bs [93])) (by omega))
            have p5 : (Value.slice va is.length vc).oneCell' = true := rfl
            have hjl := joins_take_len is is.length
            rw [List.take_length] at hjl
            have zl : (bs (Js.joins is)).size ≤ 1000000 := by show (Js.joins is).length ≤ _; omega
            have ZB : Aside ((91 :: (Js.joins is ++ [93])).length ≤ bnd (n + 1)) := by
              show _ ≤ _
              rw [List.length_cons, List.length_append, List.length_singleton]
              unfold bnd at *
              omega
            generalize hJ : Js.joins is = J at *
            generalize hA : bs J = A at *
            have HJ := asd hJ
            have HA := asd hA
            clear hJ hA
            go_wp2_with (first
              | (refine wpList_load_row rfl 28 _ rfl _ rfl 28 _ (0, 0) _ LF.out.bv Tryz.underlying28 rfl (sz28 _ _ _ _ _ _) ?_)
              | (refine wpList_store_row rfl 28 _ _ rfl _ (vc6 5 (91 :: (J ++ [93])) [] 0 noS (.slice va is.length vc)) rfl rfl 28 _ LF.out.bz (sz28 _ _ _ _ _ _) rfl (vc6_one _ _ _ _ _ _ rfl p5) ?_))
            have g4 := grown_row LF.out.gr w.heap.size (vc6 5 (91 :: (J ++ [93])) [] 0 noS (.slice va is.length vc)) (Nat.le_refl _)
            refine bodyPost_ret (results_cell_row Tryz.results38 _ _ w.heap.size 28 (vc6 5 (91 :: (J ++ [93])) [] 0 noS (.slice va is.length vc)) (0, 0) _ rfl (setRow_heap _ _ _ _ _ _ LF.out.bz) Tryz.underlying28 rfl (sz28 _ _ _ _ _ _)) rfl ?_
            refine ⟨qz, ez, dz, _, is, by rw [HJ.out], LF.out.rq.keep (setRow_other _ _ _ _ (by omega)), g4, hqz, hdz.1, hdz.2, (SF.out.rowset w.heap.size _ (by omega)).base (by omega), by rw [HJ.out]; exact ZB.out, HE.out⟩
    · skip
      rw [if_pos (by rfl)]
      go_simp
      go_at_call 23
      refine V9.out.mono ?_
      rintro en w3 ⟨qx, ex, dx, kx, fx, tx, mx, nvx, ivx, nsx, isx, rfl, h9, g9, hqx, hdx, hdx8, _, _, hfx, OX0⟩
      have OX := asd OX0
      have M9 := asd (LD.out.next rlt g9 h9)
      have S9 := asd (SD.out.grown g9 (by omega))
      have k9 : w3.cell? ⟨w.heap.size + 1, 5, none⟩ = some sl := KV.out _ g9
      have z9 := g9.size
      have zz9 : w.heap.size + 1 < w3.heap.size := M9.out.bv.lt
      have n1 : ¬ w.heap.size + 1 = w3.heap.size := by omega
      have n2 : ¬ w3.heap.size = w.heap.size + 1 := by omega
      have k9A : ∀ o : Obj, (w3.alloc o).cell? ⟨w.heap.size + 1, 5, none⟩ = some sl := fun o => cell_below k9 ((Below.refl _ _).alloc (Nat.le_refl _) o)
      have FLD : ∀ u : World, Sem.run Tryz.prog (Instr.field 28 (Value.agg (vc6 kx fx tx mx nvx ivx)) 1) u = .ok (.string (bs fx)) u := fun u => fld1 _ _ _ _ _ _ u
      obtain ⟨v', w4, e4, o4, b4⟩ := push_sl (w.heap.size + 2) w3 sl (l.map Js.X.form) fx S9.out (by rw [List.length_map]; omega) (by omega)
      obtain ⟨va, vc, hva, _⟩ := o4.form
      generalize hnl : (l.map Js.X.form ++ [fx]).length = nl at hva
      subst hva
      clear hnl
      have HRUN := asd e4
      have L4 : Aside (LW r s (vc6 5 [] [] 0 noS sl) w qx dx ex w4) := asd ⟨M9.out.rq.keep (b4.block r (by omega)), gbel M9.out.gr (b4.mono (by omega)), M9.out.bz.keep (b4.block _ (by omega)), M9.out.bv.keep (b4.block _ (by omega))⟩
      have f4 : w4.frozen? ⟨w.heap.size + 1, 5, none⟩ = false := L4.out.bv.fz 5
      have k4 : w4.cell? ⟨w.heap.size + 1, 5, none⟩ = some sl := L4.out.bv.cell 5
      have L5 : Aside (LW r s (vc6 5 [] [] 0 noS (.slice va nl vc)) w qx dx ex (w4.setCell ⟨w.heap.size + 1, 5, none⟩ (.slice va nl vc))) := L4.out.set rlt 5 (.slice va nl vc)
      have S5 := asd (o4.cellset (w.heap.size + 1) 5 (.slice va nl vc) (by omega))
      clear e4 o4 b4 h9 g9 OX0 L4 S9 M9
      go_simp
      refine hK.out _ _ trivial (fun _ => ?_)
      clear hK K
      try simp only [Act.put, List.setIfInBounds_toArray, List.set_cons_zero, List.set_cons_succ]
      refine takeH_to (i := 4) (v := .string (bs fx)) (some 35) rfl rfl (by kernel_rfl) (by kernel_rfl) (by kernel_rfl) (fun _ _ _ h => h) (Or.inl ⟨by rfl, fun u hu => by go_simp⟩) trivial ?_
      try simp only [Act.put, List.setIfInBounds_toArray, List.set_cons_zero, List.set_cons_succ]
      refine wpAnyH_ready (rs := [1, 5]) (by kernel_rfl) (by simp) ?_
      refine AllReadyH.cons rfl (fun K hK => ?_) (AllReadyH.cons rfl (fun K hK => ?_) AllReadyH.nil)
      · skip
        rw [if_pos (by rfl)]
        go_simp
        refine hK.out _ _ trivial (fun _ => ?_)
        clear hK K
        try simp only [Act.put, List.setIfInBounds_toArray, List.set_cons_zero, List.set_cons_succ]
        refine wpAnyH_ready (rs := [5]) (by kernel_rfl) (by simp) ?_
        refine AllReadyH.cons rfl (fun K hK => ?_) AllReadyH.nil
        rw [if_pos (by rfl)]
        go_simp
        refine hK.out _ _ trivial (fun _ => ?_)
        clear hK K
        try simp only [Act.put, List.setIfInBounds_toArray, List.set_cons_zero, List.set_cons_succ]
        refine wpAnyH_ready (rs := [6]) (by kernel_rfl) (by simp) ?_
        refine AllReadyH.cons rfl (fun K hK => ?_) AllReadyH.nil
        refine step_append_run rfl _ _ 26 26 rfl sl (.slice (some ⟨w3.heap.size, 0, none⟩) 1 1) rfl rfl HRUN.out ?_
        refine hK.out _ _ trivial (fun _ => ?_)
        clear hK K
        try simp only [Act.put, List.setIfInBounds_toArray]
        refine takeH_to (i := 7) (v := .pointer (some ⟨w.heap.size + 1, 5, none⟩)) (some 38) rfl rfl (by kernel_rfl) (by kernel_rfl) (by kernel_rfl) (fun _ _ _ h => h) (Or.inl ⟨by rfl, fun u hu => by go_simp⟩) trivial ?_
        try simp only [Act.put]
        refine wpAnyH_ready (rs := [8]) (by kernel_rfl) (by simp) ?_
        refine AllReadyH.cons rfl (fun K hK => ?_) AllReadyH.nil
        rw [if_pos (by rfl)]
        go_simp
        refine hK.out _ _ trivial (fun _ => ?_)
        clear hK K
        try simp only [Act.put, List.setIfInBounds_toArray, List.set_cons_zero, List.set_cons_succ]
        refine wpAnyH_done (by kernel_rfl) ?_ _
        have HVX : Aside (VX n s q qx ex dx fx) := asd (OX.out.imp (fun ⟨x, a1, a2, a3, _, a5, _⟩ => ⟨x, a1, a2, a3, a5⟩) id)
        obtain ⟨d2, rfl⟩ : ∃ d2, dx = d2 + 1 := ⟨dx - 1, by omega⟩
        have KM := asd (dmore_any r s qx d2 ex 93 _ L5.out.rq hqx hs (by omega))
        clear OX LD SD LR SR c3 cv cvd k9 k4 k9A f4 FLD HRUN n1 n2
        generalize w4.setCell ⟨w.heap.size + 1, 5, none⟩ (.slice va nl vc) = w5 at *
        have hqs := sk_le s qx
        cases h44 : iz s (sk s qx) ex 44 with
        | true =>
          obtain ⟨rfl, hd8', x, hxf, HL2, hpv⟩ := lx_more HL.out HVX.out h44
          rw [h44] at KM
          have hlt : sk s qx < s.size := (iz_true h44).2.1
          have hqx1 : q < sk s qx + 1 := by
            have a := Js.pv_shr n _ _ _ hpv
            rw [L_len, L_len] at a
            have b := Js.skip_len (L s qx)
            rw [← L_sk, L_len, L_len] at b
            omega
          have HL3 := asd HL2
          have HSN : Aside (Js.S ((l ++ [x]).map Js.X.form) ≤ sk s qx + 1) := by
            show _ ≤ _
            have a := (Js.pv_bd n _ _ _ hpv).1
            rw [L_len, L_len] at a
            have b := Js.skip_len (L s qx)
            rw [← L_sk, L_len, L_len] at b
            have c := HSQ.out
            rw [List.map_append, Js.S_app, List.map_cons, List.map_nil, Js.S_cons]
            simp only [Js.S, List.map_nil, List.sum_nil] at c ⊢
            omega
          have FM := asd hxf
          clear HL HL2 hpv HVX hxf hfx
          go_wp2_with (first
            | (go_at_call 58; refine KM.out.mono ?_; rintro en w6 ⟨rfl, g6, h6⟩; simp only [Bool.true_or, if_true] at h6; have L6 := asd (L5.out.next rlt g6 h6); have S6 := asd (S5.out.grown g6 (by omega)); clear KM L5 S5 h6 g6))
          go_roundg (s.size - (sk s qx + 1))
          case measure => omega
          case rel =>
            refine ⟨sk s qx + 1, l ++ [x], .slice va nl vc, Nat.le_refl _, hlt, by rw [List.length_append]; simp only [List.length_cons, List.length_nil]; omega, HSN, HL3, ?_, ?_⟩
            · rw [show d2 + 1 = d + 1 by omega] at L6; exact L6
            · rw [List.map_append, List.map_cons, List.map_nil, ← FM.out]; exact S6
        | false =>
          have HE := asd (lx_end HL.out HVX.out h44)
          rw [h44] at KM
          simp only [Bool.false_or, Bool.false_eq_true, if_false] at KM
          have hqz : (if iz s (sk s qx) ex 93 then sk s qx + 1 else sk s qx) ≤ s.size := by
            split
            · rename_i h; exact iz_le h
            · exact hqs
          have hdz : (if iz s (sk s qx) ex 93 then d2 else d2 + 1) ≤ 1000 ∧ 8 ≤ (if iz s (sk s qx) ex 93 then d2 else d2 + 1) + (n + 1) := by split <;> omega
          generalize (if iz s (sk s qx) ex 93 then sk s qx + 1 else sk s qx) = qz at *
          generalize (if iz s (sk s qx) ex 93 then d2 else d2 + 1) = dz at *
          generalize (if iz s (sk s qx) ex 93 then ex else fl ex 3) = ez at *
          have hnl : nl = (l.map Js.X.form ++ [fx]).length := by
            obtain ⟨_, _, e, _⟩ := S5.out.form
            injection e
          have hil : (l.map Js.X.form ++ [fx]).length ≤ 1001 := by rw [List.length_append, List.length_map]; simp only [List.length_cons, List.length_nil]; omega
          have FXL : Aside (Js.S (l.map Js.X.form ++ [fx]) ≤ 1000 + (bnd n + 1)) := by
            show _ ≤ _
            rw [Js.S_app, Js.S_cons]
            have h1 := HSQ.out
            have h0 : Js.S ([] : List Js.B) = 0 := rfl
            rw [h0]
            omega
          generalize l.map Js.X.form ++ [fx] = is at *
          subst hnl
          have hbn : bnd n ≤ 900000 := by unfold bnd; omega
          have hS : Js.S is ≤ 1000 + (bnd n + 1) := by have := FXL.out; omega
          clear HL HVX h44
          go_wp2_with (first
            | (go_at_call 58; refine KM.out.mono ?_; rintro en w6 ⟨rfl, g6, h6⟩; have L6 := asd (L5.out.next rlt g6 h6); have S6 := asd (S5.out.grown g6 (by omega)); clear KM L5 S5 h6 g6))
          go_loopg [4] is.length (fun gh s4 wj => ∃ i : Nat, is.length - i ≤ gh ∧ i ≤ is.length ∧ s4 = .int .i64 (i : Int) ∧ Aside (LW r s (vc6 5 (Js.joins (is.take i)) [] 0 noS (.slice va is.length vc)) w qz dz ez wj) ∧ Aside (Sl (w.heap.size + 2) wj (.slice va is.length vc) is))
          case atStart => exact ⟨0, by omega, by omega, rfl, L6.out, S6.out⟩
          case round =>
            obtain ⟨i, hgh2, hi, rfl, LJ, SJ⟩ := hrel
            clear L6 S6
            have j5 : wr.cell? ⟨w.heap.size + 1, 5, none⟩ = some (.slice va is.length vc) := LJ.out.bv.cell 5
            by_cases hlt : i < is.length
            · have e1 : decide ((i : Int) < (is.length : Int)) = true := decide_eq_true (by omega)
              have HTK := asd (joins_take hlt)
              have hjl := joins_take_len is i
              have hjl2 := joins_take_len is (i + 1)
              have zl : (bs (Js.joins (is.take i))).size ≤ 1000000 := by show (Js.joins (is.take i)).length ≤ _; omega
              have zx : (bs is[i]).size ≤ 1000000 := by
                show (is[i]).length ≤ _
                rw [HTK.out, List.length_append] at hjl2
                omega
              obtain ⟨_, _, efm, hel⟩ := SJ.out.form
              obtain ⟨g, hg1, hg2, hg3⟩ := hel i hlt
              have hva : va = some ⟨g, 0, none⟩ := by
                injection efm with e1 _ _
                rw [e1, hg1]
              subst hva
              clear efm hel hg1
              have j1 : wr.cell? ⟨w.heap.size + 1, 1, none⟩ = some (.string (bs (Js.joins (is.take i)))) := LJ.out.bv.cell 1
              have jf := LJ.out.bv.fz 1
              have i1 : (0 : Int) ≤ (i : Int) := by omega
              have i2 : (i : Int) < (is.length : Int) := by omega
              have AFT : Aside (∀ (u : World) (F : Js.B), LW r s (vc6 5 F [] 0 noS (.slice (some ⟨g, 0, none⟩) is.length vc)) w qz dz ez u → Sl (w.heap.size + 2) u (.slice (some ⟨g, 0, none⟩) is.length vc) is → F ++ is[i] = Js.joins (is.take (i + 1)) →
                  LW r s (vc6 5 (Js.joins (is.take (i + 1))) [] 0 noS (.slice (some ⟨g, 0, none⟩) is.length vc)) w qz dz ez (u.drew.setCell ⟨w.heap.size + 1, 1, none⟩ (.string (bs F ++ bs is[i]))) ∧ Sl (w.heap.size + 2) (u.drew.setCell ⟨w.heap.size + 1, 1, none⟩ (.string (bs F ++ bs is[i]))) (.slice (some ⟨g, 0, none⟩) is.length vc) is) := fun u F h1 h2 h3 => by
                have a1 := (h1.below rlt (Below.drew (Below.refl _ _))).set rlt 1 (.string (bs (F ++ is[i])))
                rw [vc6_set1, h3] at a1
                have e : bs F ++ bs is[i] = bs (Js.joins (is.take (i + 1))) := by rw [bs_app, ← h3]
                rw [e]
                exact ⟨a1, (h2.below (Below.drew (Below.refl _ _))).cellset _ _ _ (by omega)⟩
              by_cases h0 : 0 < i
              · have e2 : decide ((0 : Int) < (i : Int)) = true := decide_eq_true (by omega)
                have HF : Aside ((Js.joins (is.take i) ++ [44]) ++ is[i] = Js.joins (is.take (i + 1))) := by show _ = _; rw [HTK.out, if_pos h0]
                have LV : Aside (LW r s (vc6 5 (Js.joins (is.take i) ++ [44]) [] 0 noS (.slice (some ⟨g, 0, none⟩) is.length vc)) w qz dz ez (wr.setCell ⟨w.heap.size + 1, 1, none⟩ (.string (bs (Js.joins (is.take i)) ++ bs [44])))) := by
                  have EQF : bs (Js.joins (is.take i)) ++ bs [44] = bs (Js.joins (is.take i) ++ [44]) := by rw [bs_app]
                  rw [EQF]
                  have h := LJ.out.set rlt 1 (.string (bs (Js.joins (is.take i) ++ [44])))
                  rw [vc6_set1] at h
                  exact h
                have SV := asd (SJ.out.cellset (w.heap.size + 1) 1 (.string (bs (Js.joins (is.take i)) ++ bs [44])) (by omega))
                clear LJ SJ HTK hg3
                go_wp2_with fail
                generalize hwv : World.setCell wr ⟨w.heap.size + 1, 1, none⟩ _ = wv
                have LV2 : Aside (LW r s (vc6 5 (Js.joins (is.take i) ++ [44]) [] 0 noS (.slice (some ⟨g, 0, none⟩) is.length vc)) w qz dz ez wv) := by rw [← hwv]; exact LV
                have SV2 : Aside (Sl (w.heap.size + 2) wv (.slice (some ⟨g, 0, none⟩) is.length vc) is) := by rw [← hwv]; exact SV
                have hg3 : wv.cell? ⟨g, i, none⟩ = some (.string (bs is[i])) := by
                  obtain ⟨_, _, e3, h3⟩ := SV2.out.form
                  obtain ⟨g', hg', _, h4⟩ := h3 i hlt
                  injection e3 with e4 _ _
                  rw [← e4] at hg'
                  injection hg' with hg'
                  injection hg' with hg'
                  rw [hg']
                  exact h4
                clear j1 j5 jf LV SV hwv
                have j1 : wv.cell? ⟨w.heap.size + 1, 1, none⟩ = some (.string (bs (Js.joins (is.take i) ++ [44]))) := LV2.out.bv.cell 1
                have j5 : wv.cell? ⟨w.heap.size + 1, 5, none⟩ = some (.slice (some ⟨g, 0, none⟩) is.length vc) := LV2.out.bv.cell 5
                have jf := LV2.out.bv.fz 1
                have AF := asd (AFT.out wv _ LV2.out SV2.out HF.out)
                have zl : (bs (Js.joins (is.take i) ++ [44])).size ≤ 1000001 := by show (Js.joins (is.take i) ++ [44]).length ≤ _; rw [List.length_append]; simp only [List.length_singleton]; omega
                clear LV2 SV2 AFT HF
                generalize bs (Js.joins (is.take i) ++ [44]) = A at *
                generalize bs is[i] = C at *
                go_region
                all_goals go_wp2_with fail
                all_goals go_roundg (is.length - (i + 1))
                all_goals first
                  | omega
                  | exact ⟨i + 1, Nat.le_refl _, hlt, by go_num, AF.out.1, AF.out.2⟩
              · have e2 : decide ((0 : Int) < (i : Int)) = false := decide_eq_false (by omega)
                have HF : Aside (Js.joins (is.take i) ++ is[i] = Js.joins (is.take (i + 1))) := by show _ = _; rw [HTK.out, if_neg h0]
                have AF := asd (AFT.out wr _ LJ.out SJ.out HF.out)
                clear LJ SJ HTK AFT HF
                generalize bs (Js.joins (is.take i)) = A at *
                generalize bs is[i] = C at *
                go_wp2_with fail
                go_region
                all_goals go_wp2_with fail
                all_goals go_roundg (is.length - (i + 1))
                all_goals first
                  | omega
                  | exact ⟨i + 1, Nat.le_refl _, hlt, by go_num, AF.out.1, AF.out.2⟩
            · obtain rfl : i = is.length := by omega
              have e1 : decide ((is.length : Int) < (is.length : Int)) = false := decide_eq_false (by omega)
              have j1 : wr.cell? ⟨w.heap.size + 1, 1, none⟩ = some (.string (bs (Js.joins (is.take is.length)))) := LJ.out.bv.cell 1
              have jf := LJ.out.bv.fz 1
              rw [List.take_length] at j1 LJ
              have LF : Aside (LW r s (vc6 5 (91 :: (Js.joins is ++ [93])) [] 0 noS (.slice va is.length vc)) w qz dz ez (wr.setCell ⟨w.heap.size + 1, 1, none⟩ (.string (bs [91] ++ bs (Js.joins is) ++ bs [93])))) := by
                have EQF : bs [91] ++ bs (Js.joins is) ++ bs [93] = bs ([91] ++ Js.joins is ++ [93]) := by rw [bs_app, bs_app]
                rw [EQF]
                have h := LJ.out.set rlt 1 (.string (bs ([91] ++ Js.joins is ++ [93])))
                rw [vc6_set1] at h
                exact h
              have SF := asd (SJ.out.cellset (w.heap.size + 1) 1 (.string (bs [91] ++ bs (Js.joins is) ++ bs [93])) (by omega))
              have p5 : (Value.slice va is.length vc).oneCell' = true := rfl
              have hjl := joins_take_len is is.length
              rw [List.take_length] at hjl
              have zl : (bs (Js.joins is)).size ≤ 1000000 := by show (Js.joins is).length ≤ _; omega
              have ZB : Aside ((91 :: (Js.joins is ++ [93])).length ≤ bnd (n + 1)) := by
                show _ ≤ _
                rw [List.length_cons, List.length_append, List.length_singleton]
                unfold bnd at *
                omega
              generalize hJ : Js.joins is = J at *
              generalize hA : bs J = A at *
              have HJ := asd hJ
              have HA := asd hA
              clear hJ hA
              go_wp2_with (first
                | (refine wpList_load_row rfl 28 _ rfl _ rfl 28 _ (0, 0) _ LF.out.bv Tryz.underlying28 rfl (sz28 _ _ _ _ _ _) ?_)
                | (refine wpList_store_row rfl 28 _ _ rfl _ (vc6 5 (91 :: (J ++ [93])) [] 0 noS (.slice va is.length vc)) rfl rfl 28 _ LF.out.bz (sz28 _ _ _ _ _ _) rfl (vc6_one _ _ _ _ _ _ rfl p5) ?_))
              have g4 := grown_row LF.out.gr w.heap.size (vc6 5 (91 :: (J ++ [93])) [] 0 noS (.slice va is.length vc)) (Nat.le_refl _)
              refine bodyPost_ret (results_cell_row Tryz.results38 _ _ w.heap.size 28 (vc6 5 (91 :: (J ++ [93])) [] 0 noS (.slice va is.length vc)) (0, 0) _ rfl (setRow_heap _ _ _ _ _ _ LF.out.bz) Tryz.underlying28 rfl (sz28 _ _ _ _ _ _)) rfl ?_
              refine ⟨qz, ez, dz, _, is, by rw [HJ.out], LF.out.rq.keep (setRow_other _ _ _ _ (by omega)), g4, hqz, hdz.1, hdz.2, (SF.out.rowset w.heap.size _ (by omega)).base (by omega), by rw [HJ.out]; exact ZB.out, HE.out⟩
      · skip
        rw [if_pos (by rfl)]
        go_simp
        refine hK.out _ _ trivial (fun _ => ?_)
        clear hK K
        try simp only [Act.put, List.setIfInBounds_toArray, List.set_cons_zero, List.set_cons_succ]
        refine wpAnyH_ready (rs := [1]) (by kernel_rfl) (by simp) ?_
        refine AllReadyH.cons rfl (fun K hK => ?_) AllReadyH.nil
        rw [if_pos (by rfl)]
        go_simp
        refine hK.out _ _ trivial (fun _ => ?_)
        clear hK K
        try simp only [Act.put, List.setIfInBounds_toArray, List.set_cons_zero, List.set_cons_succ]
        refine wpAnyH_ready (rs := [6]) (by kernel_rfl) (by simp) ?_
        refine AllReadyH.cons rfl (fun K hK => ?_) AllReadyH.nil
        refine step_append_run rfl _ _ 26 26 rfl sl (.slice (some ⟨w3.heap.size, 0, none⟩) 1 1) rfl rfl HRUN.out ?_
        refine hK.out _ _ trivial (fun _ => ?_)
        clear hK K
        try simp only [Act.put, List.setIfInBounds_toArray]
        refine takeH_to (i := 7) (v := .pointer (some ⟨w.heap.size + 1, 5, none⟩)) (some 38) rfl rfl (by kernel_rfl) (by kernel_rfl) (by kernel_rfl) (fun _ _ _ h => h) (Or.inl ⟨by rfl, fun u hu => by go_simp⟩) trivial ?_
        try simp only [Act.put]
        refine wpAnyH_ready (rs := [8]) (by kernel_rfl) (by simp) ?_
        refine AllReadyH.cons rfl (fun K hK => ?_) AllReadyH.nil
        rw [if_pos (by rfl)]
        go_simp
        refine hK.out _ _ trivial (fun _ => ?_)
        clear hK K
        try simp only [Act.put, List.setIfInBounds_toArray, List.set_cons_zero, List.set_cons_succ]
        refine wpAnyH_done (by kernel_rfl) ?_ _
        have HVX : Aside (VX n s q qx ex dx fx) := asd (OX.out.imp (fun ⟨x, a1, a2, a3, _, a5, _⟩ => ⟨x, a1, a2, a3, a5⟩) id)
        obtain ⟨d2, rfl⟩ : ∃ d2, dx = d2 + 1 := ⟨dx - 1, by omega⟩
        have KM := asd (dmore_any r s qx d2 ex 93 _ L5.out.rq hqx hs (by omega))
        clear OX LD SD LR SR c3 cv cvd k9 k4 k9A f4 FLD HRUN n1 n2
        generalize w4.setCell ⟨w.heap.size + 1, 5, none⟩ (.slice va nl vc) = w5 at *
        have hqs := sk_le s qx
        cases h44 : iz s (sk s qx) ex 44 with
        | true =>
          obtain ⟨rfl, hd8', x, hxf, HL2, hpv⟩ := lx_more HL.out HVX.out h44
          rw [h44] at KM
          have hlt : sk s qx < s.size := (iz_true h44).2.1
          have hqx1 : q < sk s qx + 1 := by
            have a := Js.pv_shr n _ _ _ hpv
            rw [L_len, L_len] at a
            have b := Js.skip_len (L s qx)
            rw [← L_sk, L_len, L_len] at b
            omega
          have HL3 := asd HL2
          have HSN : Aside (Js.S ((l ++ [x]).map Js.X.form) ≤ sk s qx + 1) := by
            show _ ≤ _
            have a := (Js.pv_bd n _ _ _ hpv).1
            rw [L_len, L_len] at a
            have b := Js.skip_len (L s qx)
            rw [← L_sk, L_len, L_len] at b
            have c := HSQ.out
            rw [List.map_append, Js.S_app, List.map_cons, List.map_nil, Js.S_cons]
            simp only [Js.S, List.map_nil, List.sum_nil] at c ⊢
            omega
          have FM := asd hxf
          clear HL HL2 hpv HVX hxf hfx
          go_wp2_with (first
            | (go_at_call 58; refine KM.out.mono ?_; rintro en w6 ⟨rfl, g6, h6⟩; simp only [Bool.true_or, if_true] at h6; have L6 := asd (L5.out.next rlt g6 h6); have S6 := asd (S5.out.grown g6 (by omega)); clear KM L5 S5 h6 g6))
          go_roundg (s.size - (sk s qx + 1))
          case measure => omega
          case rel =>
            refine ⟨sk s qx + 1, l ++ [x], .slice va nl vc, Nat.le_refl _, hlt, by rw [List.length_append]; simp only [List.length_cons, List.length_nil]; omega, HSN, HL3, ?_, ?_⟩
            · rw [show d2 + 1 = d + 1 by omega] at L6; exact L6
            · rw [List.map_append, List.map_cons, List.map_nil, ← FM.out]; exact S6
        | false =>
          have HE := asd (lx_end HL.out HVX.out h44)
          rw [h44] at KM
          simp only [Bool.false_or, Bool.false_eq_true, if_false] at KM
          have hqz : (if iz s (sk s qx) ex 93 then sk s qx + 1 else sk s qx) ≤ s.size := by
            split
            · rename_i h; exact iz_le h
            · exact hqs
          have hdz : (if iz s (sk s qx) ex 93 then d2 else d2 + 1) ≤ 1000 ∧ 8 ≤ (if iz s (sk s qx) ex 93 then d2 else d2 + 1) + (n + 1) := by split <;> omega
          generalize (if iz s (sk s qx) ex 93 then sk s qx + 1 else sk s qx) = qz at *
          generalize (if iz s (sk s qx) ex 93 then d2 else d2 + 1) = dz at *
          generalize (if iz s (sk s qx) ex 93 then ex else fl ex 3) = ez at *
          have hnl : nl = (l.map Js.X.form ++ [fx]).length := by
            obtain ⟨_, _, e, _⟩ := S5.out.form
            injection e
          have hil : (l.map Js.X.form ++ [fx]).length ≤ 1001 := by rw [List.length_append, List.length_map]; simp only [List.length_cons, List.length_nil]; omega
          have FXL : Aside (Js.S (l.map Js.X.form ++ [fx]) ≤ 1000 + (bnd n + 1)) := by
            show _ ≤ _
            rw [Js.S_app, Js.S_cons]
            have h1 := HSQ.out
            have h0 : Js.S ([] : List Js.B) = 0 := rfl
            rw [h0]
            omega
          generalize l.map Js.X.form ++ [fx] = is at *
          subst hnl
          have hbn : bnd n ≤ 900000 := by unfold bnd; omega
          have hS : Js.S is ≤ 1000 + (bnd n + 1) := by have := FXL.out; omega
          clear HL HVX h44
          go_wp2_with (first
            | (go_at_call 58; refine KM.out.mono ?_; rintro en w6 ⟨rfl, g6, h6⟩; have L6 := asd (L5.out.next rlt g6 h6); have S6 := asd (S5.out.grown g6 (by omega)); clear KM L5 S5 h6 g6))
          go_loopg [4] is.length (fun gh s4 wj => ∃ i : Nat, is.length - i ≤ gh ∧ i ≤ is.length ∧ s4 = .int .i64 (i : Int) ∧ Aside (LW r s (vc6 5 (Js.joins (is.take i)) [] 0 noS (.slice va is.length vc)) w qz dz ez wj) ∧ Aside (Sl (w.heap.size + 2) wj (.slice va is.length vc) is))
          case atStart => exact ⟨0, by omega, by omega, rfl, L6.out, S6.out⟩
          case round =>
            obtain ⟨i, hgh2, hi, rfl, LJ, SJ⟩ := hrel
            clear L6 S6
            have j5 : wr.cell? ⟨w.heap.size + 1, 5, none⟩ = some (.slice va is.length vc) := LJ.out.bv.cell 5
            by_cases hlt : i < is.length
            · have e1 : decide ((i : Int) < (is.length : Int)) = true := decide_eq_true (by omega)
              have HTK := asd (joins_take hlt)
              have hjl := joins_take_len is i
              have hjl2 := joins_take_len is (i + 1)
              have zl : (bs (Js.joins (is.take i))).size ≤ 1000000 := by show (Js.joins (is.take i)).length ≤ _; omega
              have zx : (bs is[i]).size ≤ 1000000 := by
                show (is[i]).length ≤ _
                rw [HTK.out, List.length_append] at hjl2
                omega
              obtain ⟨_, _, efm, hel⟩ := SJ.out.form
              obtain ⟨g, hg1, hg2, hg3⟩ := hel i hlt
              have hva : va = some ⟨g, 0, none⟩ := by
                injection efm with e1 _ _
                rw [e1, hg1]
              subst hva
              clear efm hel hg1
              have j1 : wr.cell? ⟨w.heap.size + 1, 1, none⟩ = some (.string (bs (Js.joins (is.take i)))) := LJ.out.bv.cell 1
              have jf := LJ.out.bv.fz 1
              have i1 : (0 : Int) ≤ (i : Int) := by omega
              have i2 : (i : Int) < (is.length : Int) := by omega
              have AFT : Aside (∀ (u : World) (F : Js.B), LW r s (vc6 5 F [] 0 noS (.slice (some ⟨g, 0, none⟩) is.length vc)) w qz dz ez u → Sl (w.heap.size + 2) u (.slice (some ⟨g, 0, none⟩) is.length vc) is → F ++ is[i] = Js.joins (is.take (i + 1)) →
                  LW r s (vc6 5 (Js.joins (is.take (i + 1))) [] 0 noS (.slice (some ⟨g, 0, none⟩) is.length vc)) w qz dz ez (u.drew.setCell ⟨w.heap.size + 1, 1, none⟩ (.string (bs F ++ bs is[i]))) ∧ Sl (w.heap.size + 2) (u.drew.setCell ⟨w.heap.size + 1, 1, none⟩ (.string (bs F ++ bs is[i]))) (.slice (some ⟨g, 0, none⟩) is.length vc) is) := fun u F h1 h2 h3 => by
                have a1 := (h1.below rlt (Below.drew (Below.refl _ _))).set rlt 1 (.string (bs (F ++ is[i])))
                rw [vc6_set1, h3] at a1
                have e : bs F ++ bs is[i] = bs (Js.joins (is.take (i + 1))) := by rw [bs_app, ← h3]
                rw [e]
                exact ⟨a1, (h2.below (Below.drew (Below.refl _ _))).cellset _ _ _ (by omega)⟩
              by_cases h0 : 0 < i
              · have e2 : decide ((0 : Int) < (i : Int)) = true := decide_eq_true (by omega)
                have HF : Aside ((Js.joins (is.take i) ++ [44]) ++ is[i] = Js.joins (is.take (i + 1))) := by show _ = _; rw [HTK.out, if_pos h0]
                have LV : Aside (LW r s (vc6 5 (Js.joins (is.take i) ++ [44]) [] 0 noS (.slice (some ⟨g, 0, none⟩) is.length vc)) w qz dz ez (wr.setCell ⟨w.heap.size + 1, 1, none⟩ (.string (bs (Js.joins (is.take i)) ++ bs [44])))) := by
                  have EQF : bs (Js.joins (is.take i)) ++ bs [44] = bs (Js.joins (is.take i) ++ [44]) := by rw [bs_app]
                  rw [EQF]
                  have h := LJ.out.set rlt 1 (.string (bs (Js.joins (is.take i) ++ [44])))
                  rw [vc6_set1] at h
                  exact h
                have SV := asd (SJ.out.cellset (w.heap.size + 1) 1 (.string (bs (Js.joins (is.take i)) ++ bs [44])) (by omega))
                clear LJ SJ HTK hg3
                go_wp2_with fail
                generalize hwv : World.setCell wr ⟨w.heap.size + 1, 1, none⟩ _ = wv
                have LV2 : Aside (LW r s (vc6 5 (Js.joins (is.take i) ++ [44]) [] 0 noS (.slice (some ⟨g, 0, none⟩) is.length vc)) w qz dz ez wv) := by rw [← hwv]; exact LV
                have SV2 : Aside (Sl (w.heap.size + 2) wv (.slice (some ⟨g, 0, none⟩) is.length vc) is) := by rw [← hwv]; exact SV
                have hg3 : wv.cell? ⟨g, i, none⟩ = some (.string (bs is[i])) := by
                  obtain ⟨_, _, e3, h3⟩ := SV2.out.form
                  obtain ⟨g', hg', _, h4⟩ := h3 i hlt
                  injection e3 with e4 _ _
                  rw [← e4] at hg'
                  injection hg' with hg'
                  injection hg' with hg'
                  rw [hg']
                  exact h4
                clear j1 j5 jf LV SV hwv
                have j1 : wv.cell? ⟨w.heap.size + 1, 1, none⟩ = some (.string (bs (Js.joins (is.take i) ++ [44]))) := LV2.out.bv.cell 1
                have j5 : wv.cell? ⟨w.heap.size + 1, 5, none⟩ = some (.slice (some ⟨g, 0, none⟩) is.length vc) := LV2.out.bv.cell 5
                have jf := LV2.out.bv.fz 1
                have AF := asd (AFT.out wv _ LV2.out SV2.out HF.out)
                have zl : (bs (Js.joins (is.take i) ++ [44])).size ≤ 1000001 := by show (Js.joins (is.take i) ++ [44]).length ≤ _; rw [List.length_append]; simp only [List.length_singleton]; omega
                clear LV2 SV2 AFT HF
                generalize bs (Js.joins (is.take i) ++ [44]) = A at *
                generalize bs is[i] = C at *
                go_region
                all_goals go_wp2_with fail
                all_goals go_roundg (is.length - (i + 1))
                all_goals first
                  | omega
                  | exact ⟨i + 1, Nat.le_refl _, hlt, by go_num, AF.out.1, AF.out.2⟩
              · have e2 : decide ((0 : Int) < (i : Int)) = false := decide_eq_false (by omega)
                have HF : Aside (Js.joins (is.take i) ++ is[i] = Js.joins (is.take (i + 1))) := by show _ = _; rw [HTK.out, if_neg h0]
                have AF := asd (AFT.out wr _ LJ.out SJ.out HF.out)
                clear LJ SJ HTK AFT HF
                generalize bs (Js.joins (is.take i)) = A at *
                generalize bs is[i] = C at *
                go_wp2_with fail
                go_region
                all_goals go_wp2_with fail
                all_goals go_roundg (is.length - (i + 1))
                all_goals first
                  | omega
                  | exact ⟨i + 1, Nat.le_refl _, hlt, by go_num, AF.out.1, AF.out.2⟩
            · obtain rfl : i = is.length := by omega
              have e1 : decide ((is.length : Int) < (is.length : Int)) = false := decide_eq_false (by omega)
              have j1 : wr.cell? ⟨w.heap.size + 1, 1, none⟩ = some (.string (bs (Js.joins (is.take is.length)))) := LJ.out.bv.cell 1
              have jf := LJ.out.bv.fz 1
              rw [List.take_length] at j1 LJ
              have LF : Aside (LW r s (vc6 5 (91 :: (Js.joins is ++ [93])) [] 0 noS (.slice va is.length vc)) w qz dz ez (wr.setCell ⟨w.heap.size + 1, 1, none⟩ (.string (bs [91] ++ bs (Js.joins is) ++ bs [93])))) := by
                have EQF : bs [91] ++ bs (Js.joins is) ++ bs [93] = bs ([91] ++ Js.joins is ++ [93]) := by rw [bs_app, bs_app]
                rw [EQF]
                have h := LJ.out.set rlt 1 (.string (bs ([91] ++ Js.joins is ++ [93])))
                rw [vc6_set1] at h
                exact h
              have SF := asd (SJ.out.cellset (w.heap.size + 1) 1 (.string (bs [91] ++ bs (Js.joins is) ++ bs [93])) (by omega))
              have p5 : (Value.slice va is.length vc).oneCell' = true := rfl
              have hjl := joins_take_len is is.length
              rw [List.take_length] at hjl
              have zl : (bs (Js.joins is)).size ≤ 1000000 := by show (Js.joins is).length ≤ _; omega
              have ZB : Aside ((91 :: (Js.joins is ++ [93])).length ≤ bnd (n + 1)) := by
                show _ ≤ _
                rw [List.length_cons, List.length_append, List.length_singleton]
                unfold bnd at *
                omega
              generalize hJ : Js.joins is = J at *
              generalize hA : bs J = A at *
              have HJ := asd hJ
              have HA := asd hA
              clear hJ hA
              go_wp2_with (first
                | (refine wpList_load_row rfl 28 _ rfl _ rfl 28 _ (0, 0) _ LF.out.bv Tryz.underlying28 rfl (sz28 _ _ _ _ _ _) ?_)
                | (refine wpList_store_row rfl 28 _ _ rfl _ (vc6 5 (91 :: (J ++ [93])) [] 0 noS (.slice va is.length vc)) rfl rfl 28 _ LF.out.bz (sz28 _ _ _ _ _ _) rfl (vc6_one _ _ _ _ _ _ rfl p5) ?_))
              have g4 := grown_row LF.out.gr w.heap.size (vc6 5 (91 :: (J ++ [93])) [] 0 noS (.slice va is.length vc)) (Nat.le_refl _)
              refine bodyPost_ret (results_cell_row Tryz.results38 _ _ w.heap.size 28 (vc6 5 (91 :: (J ++ [93])) [] 0 noS (.slice va is.length vc)) (0, 0) _ rfl (setRow_heap _ _ _ _ _ _ LF.out.bz) Tryz.underlying28 rfl (sz28 _ _ _ _ _ _)) rfl ?_
              refine ⟨qz, ez, dz, _, is, by rw [HJ.out], LF.out.rq.keep (setRow_other _ _ _ _ (by omega)), g4, hqz, hdz.1, hdz.2, (SF.out.rowset w.heap.size _ (by omega)).base (by omega), by rw [HJ.out]; exact ZB.out, HE.out⟩

/-- A list, not too deep. -/
theorem dlist_any (r : Nat) (s : ByteArray) (p d n : Nat) (w : World) (h : Rq r s p d 0 w) (hp : p < s.size) (hs : s.size ≤ 1000) (hdn : d + (n + 1) = 8) (hvc : VCd n) :
    Calls Tryz.prog 38 #[.pointer (some ⟨r, 0, none⟩)] w fun en w' => LOutD r s p n w en w' := by
  cases h93 : iz s (sk s (p + 1)) 0 93 with
  | true => exact dlist_empty r s p d n w h hp hs hdn h93
  | false => exact dlist_go r s p d n w h hp hs hdn hvc h93
end Go.Proofs.YtpeioecpilmpiaaGreatDoor
