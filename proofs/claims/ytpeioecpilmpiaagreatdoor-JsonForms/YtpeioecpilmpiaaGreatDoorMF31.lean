/-
  YtpeioecpilmpiaaGreatDoor: the texts O4, one behind the other.
-/
import Derived.Test.YtpeioecpilmpiaaGreatDoorMF30
import Derived.Test.YtpeioecpilmpiaaGreatDoorMF23
import Derived.WalkKit
import Derived.WalkSpells
import Derived.WalkLawsBesides
import Derived.Deep.LoopGhost
import Derived.Laws.Externs
import Derived.Below
import Derived.BigQuiet
import Derived.Deep.RegionWith
import Derived.OwnWalk
import Derived.Maps.AppendAt
import Derived.WalkSmall
/-
  The document's object.
-/
namespace Go.Proofs.YtpeioecpilmpiaaGreatDoor
open Go.RowKit
theorem names_le {n : Nat} {ns' is' : List Js.B} {l : List (Js.B × Js.X)} {s : ByteArray} {p q e d : Nat} (hp : p ≤ s.size) (hq : q ≤ s.size) (hs : s.size ≤ 1000) (hS : Js.S (l.map Js.pairB) ≤ p)
    (h : (∃ name x, obS (Js.pv n) (L s p) (l.map (·.1)) = .ok (name, x, L s q) ∧ name ∉ l.map (·.1) ∧ e = 0 ∧ d + n = 8 ∧ ns' = (l.map (·.1)).take (Js.place (l.map (·.1)) name) ++ name :: (l.map (·.1)).drop (Js.place (l.map (·.1)) name) ∧ is' = (l.map (·.2.form)).take (Js.place (l.map (·.1)) name) ++ x.form :: (l.map (·.2.form)).drop (Js.place (l.map (·.1)) name)) ∨
      (∃ fa, obS (Js.pv n) (L s p) (l.map (·.1)) = .error fa ∧ fa ≠ 0 ∧ (e = fa ∨ (fa = 3 ∧ e = 0 ∧ d + n = 8 ∧ q < s.size ∧ Js.isDg (s.get! q) = true)) ∧
        ((ns' = l.map (·.1) ∧ is' = l.map (·.2.form)) ∨ ∃ name f j, name.length ≤ 4000 ∧ f.length ≤ bnd n ∧ j ≤ (l.map (·.1)).length ∧ ns' = (l.map (·.1)).take j ++ name :: (l.map (·.1)).drop j ∧ is' = (l.map (·.2.form)).take j ++ f :: (l.map (·.2.form)).drop j))) :
    ∀ y ∈ ns', y.length ≤ 4000 := by
  have hold : ∀ (l : List (Js.B × Js.X)), ∀ y ∈ l.map (·.1), y.length ≤ Js.S (l.map Js.pairB) := by
    intro l
    induction l with
    | nil => intro y hy; simp at hy
    | cons m t ih =>
      intro y hy
      rw [List.map_cons, Js.S_cons]
      rcases List.mem_cons.1 (by rw [List.map_cons] at hy; exact hy) with rfl | hy
      · have h1 := Js.q_len m.1
        have : (Js.pairB m).length = (Js.q m.1).length + 3 + m.2.form.length := by simp [Js.pairB, Js.quote_q]; omega
        omega
      · have := ih y hy
        omega
  have key : ∀ (a : Js.B) (j : Nat), a.length ≤ 4000 → ∀ y ∈ (l.map (·.1)).take j ++ a :: (l.map (·.1)).drop j, y.length ≤ 4000 := by
    intro a j ha y hy
    rcases List.mem_append.1 hy with hy | hy
    · have := hold l y (List.mem_of_mem_take hy); omega
    · rcases List.mem_cons.1 hy with rfl | hy
      · exact ha
      · have := hold l y (List.mem_of_mem_drop hy); omega
  rcases h with ⟨name, x, h1, _, _, _, rfl, _⟩ | ⟨_, _, _, _, ⟨rfl, _⟩ | ⟨name, f, j, h1, h2, _, rfl, _⟩⟩
  · have h2 := (obS_adv h1 hp hq).2
    have h3 := Js.q_len name
    have : (Js.pairB (name, x)).length = (Js.q name).length + 3 + x.form.length := by simp [Js.pairB, Js.quote_q]; omega
    exact key name _ (by omega)
  · intro y hy
    have := hold l y hy
    omega
  · exact key name j h1

set_option maxHeartbeats 8000000 in
set_option maxRecDepth 100000 in
/-- An object of something. -/
theorem dobj_go (r : Nat) (s : ByteArray) (p d n : Nat) (w : World) (h : Rq r s p d 0 w) (hp : p < s.size) (hs : s.size ≤ 1000) (hdn : d + (n + 1) = 8) (hvc : VCd n) (h125 : iz s (sk s (p + 1)) 0 125 = false) :
    Calls Tryz.prog 37 #[.pointer (some ⟨r, 0, none⟩)] w fun en w' => OOutD r s p n w en w' := by
  have rlt := h.lt
  have BV0 := asd (bv0 w)
  have L0 := asd (LW.start h (vc6 6 [] [] 0 noS noS))
  have KO := asd (fun w1 h1 => dopen_any r s p d w1 h1 hp hs (by omega))
  have hq0 := sk_le s (p + 1)
  have HT : Aside (Js.obx (Js.pv n) (L s (sk s (p + 1))) [] = Js.obT (Js.pv n) (L s (p + 1))) := by
    show _ = _
    rw [Js.obT_other _ _ (by rw [← L_sk]; exact iz_false h125), L_sk]
  generalize sk s (p + 1) = q0 at *
  have d8 : ¬ d = 8 := by omega
  rw [if_neg d8] at KO
  have HV := asd hvc
  have IZ := h125
  clear h h125 hvc
  go_enter Tryz.func37, Tryz.ntmps37
  go_wp2_with (first
    | (refine wpList_store_row rfl 28 _ _ rfl _ (vc6 6 [] [] 0 noS noS) rfl rfl 28 _ BV0.out (sz28 _ _ _ _ _ _) rfl (vc6_one _ _ _ _ _ _ rfl rfl) ?_; generalize hwA : World.setRow _ (w.heap.size + 1) _ = wA; have A0 : Aside (LW r s (vc6 6 [] [] 0 noS noS) w p d 0 wA) := (by rw [← hwA]; exact L0); clear hwA L0 BV0)
    | (go_at_call 56; refine (KO.out _ A0.out.rq).mono ?_; rintro en w1 ⟨rfl, h1, g1⟩; have A1 := asd (A0.out.next rlt g1 h1); clear h1 g1 A0 KO)
    | (go_at_call 36; refine (is_any r s q0 (d + 1) 0 125 _ A1.out.rq).mono ?_; rw [IZ]; rintro en w2 ⟨rfl, h2, g2⟩; have A2 := asd (A1.out.next rlt ⟨g2.os, g2.tape, g2.output, g2.size, fun k hk _ => g2.block k hk (fun e => by cases e)⟩ h2); clear h2 g2 A1))
  go_loopg [] s.size (fun gh wr => ∃ (q : Nat) (l : List (Js.B × Js.X)) (nv iv : Value), s.size - q ≤ gh ∧ q ≤ s.size ∧ 2 * l.length ≤ q ∧ Aside (Js.S (l.map Js.pairB) ≤ q) ∧ Aside (Js.Rise (l.map (·.1))) ∧ Aside (Js.obx (Js.pv n) (L s q) l = Js.obT (Js.pv n) (L s (p + 1))) ∧ Aside (LW r s (vc6 6 [] [] 0 nv iv) w q (d + 1) 0 wr) ∧ Aside (Sl (w.heap.size + 2) wr nv (l.map (·.1)) ∧ Sl (w.heap.size + 2) wr iv (l.map (·.2.form))))
  case atStart => exact ⟨q0, [], noS, noS, by omega, hq0, by simp, Nat.zero_le _, (by show Js.Rise []; simp [Js.Rise]), HT, A2.out, sl_nil _ _, sl_nil _ _⟩
  case round =>
    obtain ⟨q, l, nv, iv, hgh, hq, hlq, HSQ, HR, HL, LR, SR⟩ := hrel
    clear A2 HT
    have c3 := LR.out.rq.c3
    have hsz := LR.out.bv.lt
    have o1 := SR.out.1.one
    have o2 := SR.out.2.one
    have KM := asd (dmember_any (w.heap.size + 2) r s q (d + 1) n nv iv _ _ wr LR.out.rq (by omega) hq hs (by omega) (by omega) (by omega) SR.out.1 SR.out.2 HR.out (by rw [List.length_map]; omega) (by rw [List.length_map, List.length_map]) HV.out)
    go_wp2_with (first
      | (refine wpList_load_row rfl 28 _ rfl _ rfl 28 _ (0, 0) _ LR.out.bv Tryz.underlying28 rfl (sz28 _ _ _ _ _ _) ?_)
      | (go_at_call 57; refine KM.out.mono ?_; rintro en w3 ⟨qx, ex, dx, nv2, iv2, ns2, is2, rfl, h9, g9, hqx, hdx, hdx8, s1, s2, OX0⟩; have OX := asd OX0; have M9 := asd (LR.out.next rlt g9 h9); have p1 := s1.one; have p2 := s2.one; have S9 := asd (And.intro s1 s2); clear h9 g9 s1 s2 OX0 KM)
      | (refine wpList_store_row rfl 28 _ _ rfl _ (vc6 6 [] [] 0 nv2 iv2) rfl rfl 28 _ M9.out.bv (sz28 _ _ _ _ _ _) rfl (vc6_one _ _ _ _ _ _ p1 p2) ?_; generalize hwA : World.setRow _ (w.heap.size + 1) _ = wA; have L5 : Aside (LW r s (vc6 6 [] [] 0 nv2 iv2) w qx dx ex wA) := (by rw [← hwA]; exact asd ⟨M9.out.rq.keep (setRow_other _ _ _ _ (by omega)), grown_row M9.out.gr _ _ (by omega), M9.out.bz.keep (setRow_other _ _ _ _ (by omega)), setRow_heap _ _ _ _ _ _ M9.out.bv⟩); have S5 : Aside (Sl (w.heap.size + 2) wA nv2 ns2 ∧ Sl (w.heap.size + 2) wA iv2 is2) := (by rw [← hwA]; exact asd ⟨S9.out.1.rowset _ _ (by omega), S9.out.2.rowset _ _ (by omega)⟩); clear hwA M9 S9))
    have PB := asd (pairs_bound (_B := 0) (_r := 0) hqx hq hs HSQ.out OX.out)
    have NL : Aside (∀ y ∈ ns2, y.length ≤ 4000) := asd (names_le hq hqx hs HSQ.out OX.out)
    have HVX : Aside (MX n s q qx ex dx (l.map (·.1)) (l.map (·.2.form)) ns2 is2) := asd (OX.out.imp id (fun ⟨fa, a1, a2, a3, _⟩ => ⟨fa, a1, a2, a3⟩))
    obtain ⟨d2, rfl⟩ : ∃ d2, dx = d2 + 1 := ⟨dx - 1, by omega⟩
    have KM := asd (dmore_any r s qx d2 ex 125 _ L5.out.rq hqx hs (by omega))
    clear LR SR c3
    have hqs := sk_le s qx
    cases h44 : iz s (sk s qx) ex 44 with
    | true =>
      obtain ⟨rfl, hd8', name, x, hns, his, HL2, hnm, hob⟩ := ox_more HL.out HVX.out h44
      rw [h44] at KM
      have hlt : sk s qx < s.size := (iz_true h44).2.1
      have adv := obS_adv hob hq hqx
      have hsk : qx ≤ sk s qx := by
        have b := Js.skip_len (L s qx)
        rw [← L_sk, L_len, L_len] at b
        omega
      have HSN : Aside (Js.S ((Js.ins l name x).map Js.pairB) ≤ sk s qx + 1) := by
        show _ ≤ _
        rw [Js.ins_sum]
        have := HSQ.out
        omega
      have HRN : Aside (Js.Rise ((Js.ins l name x).map (·.1))) := by
        show Js.Rise _
        rw [Js.ins_names]
        exact Js.Rise.insert HR.out name hnm
      have hlen : (Js.ins l name x).length = l.length + 1 := by
        have h1 := Js.place_le (l.map (·.1)) name
        rw [List.length_map] at h1
        unfold Js.ins
        rw [List.length_append, List.length_cons, List.length_take, List.length_drop]
        omega
      have hpb : 3 ≤ (Js.pairB (name, x)).length := by simp [Js.pairB, Js.quote_q]; omega
      have HL3 := asd HL2
      have FM := asd (And.intro hns his)
      clear HL HL2 HVX hns his hob OX HSQ HR PB NL
      go_wp2_with (first
        | (go_at_call 58; refine KM.out.mono ?_; rintro en w6 ⟨rfl, g6, h6⟩; simp only [Bool.true_or, if_true] at h6; have L6 := asd (L5.out.next rlt g6 h6); have S6 := asd (And.intro (S5.out.1.grown g6 (by omega)) (S5.out.2.grown g6 (by omega))); clear KM L5 S5 h6 g6))
      go_roundg (s.size - (sk s qx + 1))
      case measure => omega
      case rel =>
        refine ⟨sk s qx + 1, Js.ins l name x, nv2, iv2, Nat.le_refl _, hlt, by rw [hlen]; omega, HSN, HRN, HL3, ?_, ?_⟩
        · rw [show d2 + 1 = d + 1 by omega] at L6; exact L6
        · rw [← FM.out.1, ← FM.out.2]; exact S6
    | false =>
      have HE := asd (ox_end HL.out HVX.out h44)
      rw [h44] at KM
      simp only [Bool.false_or, Bool.false_eq_true, if_false] at KM
      have hqz : (if iz s (sk s qx) ex 125 then sk s qx + 1 else sk s qx) ≤ s.size := by
        split
        · rename_i h; exact iz_le h
        · exact hqs
      have hdz : (if iz s (sk s qx) ex 125 then d2 else d2 + 1) ≤ 1000 ∧ 8 ≤ (if iz s (sk s qx) ex 125 then d2 else d2 + 1) + (n + 1) := by split <;> omega
      generalize (if iz s (sk s qx) ex 125 then sk s qx + 1 else sk s qx) = qz at *
      generalize (if iz s (sk s qx) ex 125 then d2 else d2 + 1) = dz at *
      generalize (if iz s (sk s qx) ex 125 then ex else fl ex 3) = ez at *
      have hbn : bnd n ≤ 900000 := by unfold bnd; omega
      have hle := PB.out.1
      have hS : Js.S (pairs ns2 is2) ≤ 30000 + bnd n := PB.out.2.1
      have hpl := pairs_len ns2 is2 hle
      clear HL HVX h44 OX HSQ HR
      obtain ⟨na, nc, hna, _⟩ := S5.out.1.form
      obtain ⟨ia, ic, hia, _⟩ := S5.out.2.form
      rw [← hle] at hia
      subst hna hia
      have hns1 : ns2.length ≤ 1001 := by have := PB.out.2.2; omega
      clear PB
      go_wp2_with (first
        | (go_at_call 58; refine KM.out.mono ?_; rintro en w6 ⟨rfl, g6, h6⟩; have L6 := asd (L5.out.next rlt g6 h6); have S6 := asd (And.intro (S5.out.1.grown g6 (by omega)) (S5.out.2.grown g6 (by omega))); clear KM L5 S5 h6 g6))
      go_loopg [4] ns2.length (fun gh s4 wj => ∃ i : Nat, ns2.length - i ≤ gh ∧ i ≤ ns2.length ∧ s4 = .int .i64 (i : Int) ∧ Aside (LW r s (vc6 6 (Js.joins ((pairs ns2 is2).take i)) [] 0 (.slice na ns2.length nc) (.slice ia ns2.length ic)) w qz dz ez wj) ∧ Aside (Sl (w.heap.size + 2) wj (.slice na ns2.length nc) ns2 ∧ Sl (w.heap.size + 2) wj (.slice ia ns2.length ic) is2))
      case atStart => exact ⟨0, by omega, by omega, rfl, L6.out, S6.out⟩
      case round =>
        obtain ⟨i, hgh2, hi, rfl, LJ, SJ⟩ := hrel
        clear L6 S6
        have j4 : wr.cell? ⟨w.heap.size + 1, 4, none⟩ = some (.slice na ns2.length nc) := LJ.out.bv.cell 4
        by_cases hlt : i < ns2.length
        · have e1 : decide ((i : Int) < (ns2.length : Int)) = true := decide_eq_true (by omega)
          have hip : i < (pairs ns2 is2).length := by rw [hpl]; exact hlt
          have HTK := asd (joins_take hip)
          have HPG := asd (pairs_get ns2 is2 i hlt (by omega) hip)
          have hjl := joins_take_len (pairs ns2 is2) i
          have hjl2 := joins_take_len (pairs ns2 is2) (i + 1)
          have hlt2 : i < is2.length := by omega
          have hnz : (bs ns2[i]).size ≤ 10000 := by have := NL.out ns2[i] (List.getElem_mem hlt); show (ns2[i]).length ≤ _; omega
          have hpz : (pair1 ns2[i] is2[i]).length ≤ 1000000 := by
            rw [HTK.out, List.length_append, HPG.out] at hjl2
            omega
          have zq : (bs (Js.quote ns2[i])).size ≤ 1000000 := by
            show (Js.quote ns2[i]).length ≤ _
            unfold pair1 at hpz
            rw [List.length_append] at hpz
            omega
          have zx : (bs is2[i]).size ≤ 1000000 := by
            show (is2[i]).length ≤ _
            unfold pair1 at hpz
            rw [List.length_append, List.length_cons] at hpz
            omega
          have zx2 : (is2[i]).length ≤ 1000000 := zx
          obtain ⟨_, _, efm, hel⟩ := SJ.out.1.form
          obtain ⟨g, hg1, _, _⟩ := hel i hlt
          have hva : na = some ⟨g, 0, none⟩ := by
            injection efm with e1 _ _
            rw [e1, hg1]
          obtain ⟨_, _, efm2, hel2⟩ := SJ.out.2.form
          obtain ⟨g2, hg21, _, _⟩ := hel2 i hlt2
          have hvb : ia = some ⟨g2, 0, none⟩ := by
            injection efm2 with e1 _ _
            rw [e1, hg21]
          subst hva hvb
          clear efm hel hg1 efm2 hel2 hg21
          have EL : Aside (∀ u : World, Sl (w.heap.size + 2) u (.slice (some ⟨g, 0, none⟩) ns2.length nc) ns2 ∧ Sl (w.heap.size + 2) u (.slice (some ⟨g2, 0, none⟩) ns2.length ic) is2 → u.cell? ⟨g, i, none⟩ = some (.string (bs ns2[i])) ∧ u.cell? ⟨g2, i, none⟩ = some (.string (bs is2[i]))) := fun u hu => by
            constructor
            · obtain ⟨_, _, e3, h3⟩ := hu.1.form
              obtain ⟨g', hg', _, h4⟩ := h3 i hlt
              injection e3 with e4 _ _
              rw [← e4] at hg'
              injection hg' with hg'
              injection hg' with hg'
              rw [hg']
              exact h4
            · obtain ⟨_, _, e3, h3⟩ := hu.2.form
              obtain ⟨g', hg', _, h4⟩ := h3 i hlt2
              injection e3 with e4 _ _
              rw [← e4] at hg'
              injection hg' with hg'
              injection hg' with hg'
              rw [hg']
              exact h4
          have i1 : (0 : Int) ≤ (i : Int) := by omega
          have i2 : (i : Int) < (ns2.length : Int) := by omega
          have AFT : Aside (∀ (u : World) (F : Js.B) (w7 : World), Below u.drew.heap.size u.drew w7 → LW r s (vc6 6 F [] 0 (.slice (some ⟨g, 0, none⟩) ns2.length nc) (.slice (some ⟨g2, 0, none⟩) ns2.length ic)) w qz dz ez u → (Sl (w.heap.size + 2) u (.slice (some ⟨g, 0, none⟩) ns2.length nc) ns2 ∧ Sl (w.heap.size + 2) u (.slice (some ⟨g2, 0, none⟩) ns2.length ic) is2) → F ++ pair1 ns2[i] is2[i] = Js.joins ((pairs ns2 is2).take (i + 1)) →
              w7.frozen? ⟨w.heap.size + 1, 1, none⟩ = false ∧ LW r s (vc6 6 (Js.joins ((pairs ns2 is2).take (i + 1))) [] 0 (.slice (some ⟨g, 0, none⟩) ns2.length nc) (.slice (some ⟨g2, 0, none⟩) ns2.length ic)) w qz dz ez (w7.setCell ⟨w.heap.size + 1, 1, none⟩ (.string (bs F ++ bs (Js.quote ns2[i]) ++ bs [58] ++ bs is2[i]))) ∧
                (Sl (w.heap.size + 2) (w7.setCell ⟨w.heap.size + 1, 1, none⟩ (.string (bs F ++ bs (Js.quote ns2[i]) ++ bs [58] ++ bs is2[i]))) (.slice (some ⟨g, 0, none⟩) ns2.length nc) ns2 ∧ Sl (w.heap.size + 2) (w7.setCell ⟨w.heap.size + 1, 1, none⟩ (.string (bs F ++ bs (Js.quote ns2[i]) ++ bs [58] ++ bs is2[i]))) (.slice (some ⟨g2, 0, none⟩) ns2.length ic) is2) ∧
                ((w7.setCell ⟨w.heap.size + 1, 1, none⟩ (.string (bs F ++ bs (Js.quote ns2[i]) ++ bs [58] ++ bs is2[i]))).cell? ⟨w.heap.size + 1, 4, none⟩ = some (.slice (some ⟨g, 0, none⟩) ns2.length nc) ∧ (w7.setCell ⟨w.heap.size + 1, 1, none⟩ (.string (bs F ++ bs (Js.quote ns2[i]) ++ bs [58] ++ bs is2[i]))).cell? ⟨w.heap.size + 1, 5, none⟩ = some (.slice (some ⟨g2, 0, none⟩) ns2.length ic) ∧
                  (w7.setCell ⟨w.heap.size + 1, 1, none⟩ (.string (bs F ++ bs (Js.quote ns2[i]) ++ bs [58] ++ bs is2[i]))).cell? ⟨g, i, none⟩ = some (.string (bs ns2[i])) ∧ (w7.setCell ⟨w.heap.size + 1, 1, none⟩ (.string (bs F ++ bs (Js.quote ns2[i]) ++ bs [58] ++ bs is2[i]))).cell? ⟨g2, i, none⟩ = some (.string (bs is2[i])))) := fun u F w7 b7 h1 h2 h3 => by
            have b0 : Below u.heap.size u w7 := (Below.drew (Below.refl _ _)).trans b7
            have a0 := h1.below rlt b0
            have a1 := a0.set rlt 1 (.string (bs (F ++ pair1 ns2[i] is2[i])))
            rw [vc6_set1, h3] at a1
            have e : bs F ++ bs (Js.quote ns2[i]) ++ bs [58] ++ bs is2[i] = bs (Js.joins ((pairs ns2 is2).take (i + 1))) := by
              rw [bs_app, bs_app, bs_app, ← h3]
              congr 1
              show (F ++ Js.quote ns2[i] ++ [58]) ++ is2[i] = F ++ (Js.quote ns2[i] ++ 58 :: is2[i])
              simp
            rw [e]
            have s7 := And.intro ((h2.1.below b0).cellset (w.heap.size + 1) 1 (.string (bs (Js.joins ((pairs ns2 is2).take (i + 1))))) (by omega)) ((h2.2.below b0).cellset (w.heap.size + 1) 1 (.string (bs (Js.joins ((pairs ns2 is2).take (i + 1))))) (by omega))
            exact ⟨a0.bv.fz 1, a1, s7, a1.bv.cell 4, a1.bv.cell 5, (EL.out _ s7).1, (EL.out _ s7).2⟩
          by_cases h0 : 0 < i
          · have e2 : decide ((0 : Int) < (i : Int)) = true := decide_eq_true (by omega)
            have HF : Aside ((Js.joins ((pairs ns2 is2).take i) ++ [44]) ++ pair1 ns2[i] is2[i] = Js.joins ((pairs ns2 is2).take (i + 1))) := by show _ = _; rw [HTK.out, if_pos h0, HPG.out]
            have j1 : wr.cell? ⟨w.heap.size + 1, 1, none⟩ = some (.string (bs (Js.joins ((pairs ns2 is2).take i)))) := LJ.out.bv.cell 1
            have jf := LJ.out.bv.fz 1
            have zl0 : (bs (Js.joins ((pairs ns2 is2).take i))).size ≤ 1000000 := by show (Js.joins ((pairs ns2 is2).take i)).length ≤ _; omega
            have LV : Aside (LW r s (vc6 6 (Js.joins ((pairs ns2 is2).take i) ++ [44]) [] 0 (.slice (some ⟨g, 0, none⟩) ns2.length nc) (.slice (some ⟨g2, 0, none⟩) ns2.length ic)) w qz dz ez (wr.setCell ⟨w.heap.size + 1, 1, none⟩ (.string (bs (Js.joins ((pairs ns2 is2).take i)) ++ bs [44])))) := by
              have EQF : bs (Js.joins ((pairs ns2 is2).take i)) ++ bs [44] = bs (Js.joins ((pairs ns2 is2).take i) ++ [44]) := by rw [bs_app]
              rw [EQF]
              have h := LJ.out.set rlt 1 (.string (bs (Js.joins ((pairs ns2 is2).take i) ++ [44])))
              rw [vc6_set1] at h
              exact h
            have SV := asd (And.intro (SJ.out.1.cellset (w.heap.size + 1) 1 (.string (bs (Js.joins ((pairs ns2 is2).take i)) ++ bs [44])) (by omega)) (SJ.out.2.cellset (w.heap.size + 1) 1 (.string (bs (Js.joins ((pairs ns2 is2).take i)) ++ bs [44])) (by omega)))
            clear LJ SJ HTK
            go_wp2_with fail
            generalize hwv : World.setCell wr ⟨w.heap.size + 1, 1, none⟩ _ = wv
            have LVX : Aside (LW r s (vc6 6 (Js.joins ((pairs ns2 is2).take i) ++ [44]) [] 0 (.slice (some ⟨g, 0, none⟩) ns2.length nc) (.slice (some ⟨g2, 0, none⟩) ns2.length ic)) w qz dz ez wv) := by rw [← hwv]; exact LV
            have SVX : Aside (Sl (w.heap.size + 2) wv (.slice (some ⟨g, 0, none⟩) ns2.length nc) ns2 ∧ Sl (w.heap.size + 2) wv (.slice (some ⟨g2, 0, none⟩) ns2.length ic) is2) := by rw [← hwv]; exact SV
            clear j1 j4 jf LV SV hwv zl0
            have zl : (bs (Js.joins ((pairs ns2 is2).take i) ++ [44])).size ≤ 1000001 := by show (Js.joins ((pairs ns2 is2).take i) ++ [44]).length ≤ _; rw [List.length_append]; simp only [List.length_singleton]; omega
            generalize hFF : Js.joins ((pairs ns2 is2).take i) ++ [44] = FF at *
            have SD := asd (And.intro (SVX.out.1.below (Below.drew (Below.refl _ _))) (SVX.out.2.below (Below.drew (Below.refl _ _))))
            have LD := asd (LVX.out.below rlt (Below.drew (Below.refl _ _)))
            have hd1 : wv.drew.cell? ⟨w.heap.size + 1, 1, none⟩ = some (.string (bs FF)) := LD.out.bv.cell 1
            have hd4 : wv.drew.cell? ⟨w.heap.size + 1, 4, none⟩ = some (.slice (some ⟨g, 0, none⟩) ns2.length nc) := LD.out.bv.cell 4
            have hd5 : wv.drew.cell? ⟨w.heap.size + 1, 5, none⟩ = some (.slice (some ⟨g2, 0, none⟩) ns2.length ic) := LD.out.bv.cell 5
            have hdg := (EL.out _ SD.out).1
            have hdh := (EL.out _ SD.out).2
            have AFU := asd (fun w7 (b7 : Below wv.drew.heap.size wv.drew w7) => AFT.out wv FF w7 b7 LVX.out SVX.out HF.out)
            clear AFT EL HF LVX SVX SD LD hFF
            have HQ : Aside (∀ u : World, Calls Tryz.prog 19 #[.string (bs ns2[i])] u fun en w' => en = .returned (.string (bs (Js.quote ns2[i]))) ∧ Below u.heap.size u w') := fun u => dquote_any (bs ns2[i]) u hnz
            generalize bs FF = A at *
            generalize bs (Js.quote ns2[i]) = Z at *
            clear hnz hjl hjl2 hpz
            refine wp_region_held_drew (S := (fun u => u.cell? ⟨w.heap.size + 1, 4, none⟩ = some (.slice (some ⟨g, 0, none⟩) ns2.length nc) ∧ u.cell? ⟨w.heap.size + 1, 5, none⟩ = some (.slice (some ⟨g2, 0, none⟩) ns2.length ic) ∧ u.cell? ⟨g, i, none⟩ = some (.string (bs ns2[i])) ∧ u.cell? ⟨g2, i, none⟩ = some (.string (bs is2[i])))) (by kernel_rfl) ⟨hd4, hd5, hdg, hdh⟩ (fun hHeld => ?_)
            change wpAnyH _ _ _ _ _ _ _ _ (World.drew _)
            refine takeH_to (i := 0) (v := .pointer (some ⟨w.heap.size + 1, 1, none⟩)) (some 50) rfl rfl (by kernel_rfl) (by kernel_rfl) (by kernel_rfl) (fun _ _ _ h => h) (Or.inl ⟨by rfl, fun u hu => by (try dsimp only at hu); obtain ⟨hu1, hu2, hu3, hu4⟩ := hu; go_simp <;> omega⟩) (by assumption) ?_
            try simp only [Act.put, List.setIfInBounds_toArray, List.set_cons_zero, List.set_cons_succ]
            refine takeH_to (i := 2) (v := .pointer (some ⟨w.heap.size + 1, 4, none⟩)) (some 52) rfl rfl (by kernel_rfl) (by kernel_rfl) (by kernel_rfl) (fun _ _ _ h => h) (Or.inl ⟨by rfl, fun u hu => by (try dsimp only at hu); obtain ⟨hu1, hu2, hu3, hu4⟩ := hu; go_simp <;> omega⟩) (by assumption) ?_
            try simp only [Act.put, List.setIfInBounds_toArray, List.set_cons_zero, List.set_cons_succ]
            refine takeH_to (i := 3) (v := .slice (some ⟨g, 0, none⟩) ns2.length nc) (some 53) rfl rfl (by kernel_rfl) (by kernel_rfl) (by kernel_rfl) (fun _ _ _ h => h) (Or.inl ⟨by rfl, fun u hu => by (try dsimp only at hu); obtain ⟨hu1, hu2, hu3, hu4⟩ := hu; go_simp <;> omega⟩) (by assumption) ?_
            try simp only [Act.put, List.setIfInBounds_toArray, List.set_cons_zero, List.set_cons_succ]
            refine takeH_to (i := 4) (v := .int .i64 (i : Int)) (some 54) rfl rfl (by kernel_rfl) (by kernel_rfl) (by kernel_rfl) (fun _ _ _ h => h) (Or.inl ⟨by rfl, fun u hu => by (try dsimp only at hu); obtain ⟨hu1, hu2, hu3, hu4⟩ := hu; go_simp <;> omega⟩) (by assumption) ?_
            try simp only [Act.put, List.setIfInBounds_toArray, List.set_cons_zero, List.set_cons_succ]
            refine takeH_to (i := 5) (v := .pointer (some ⟨g, i, none⟩)) (some 55) rfl rfl (by kernel_rfl) (by kernel_rfl) (by kernel_rfl) (fun _ _ _ h => h) (Or.inl ⟨by rfl, fun u hu => by (try dsimp only at hu); obtain ⟨hu1, hu2, hu3, hu4⟩ := hu; go_simp <;> omega⟩) (by assumption) ?_
            try simp only [Act.put, List.setIfInBounds_toArray, List.set_cons_zero, List.set_cons_succ]
            refine takeH_to (i := 6) (v := .string (bs ns2[i])) (some 56) rfl rfl (by kernel_rfl) (by kernel_rfl) (by kernel_rfl) (fun _ _ _ h => h) (Or.inl ⟨by rfl, fun u hu => by (try dsimp only at hu); obtain ⟨hu1, hu2, hu3, hu4⟩ := hu; go_simp <;> omega⟩) (by assumption) ?_
            try simp only [Act.put, List.setIfInBounds_toArray, List.set_cons_zero, List.set_cons_succ]
            refine takeH_to (i := 10) (v := .pointer (some ⟨w.heap.size + 1, 5, none⟩)) (some 60) rfl rfl (by kernel_rfl) (by kernel_rfl) (by kernel_rfl) (fun _ _ _ h => h) (Or.inl ⟨by rfl, fun u hu => by (try dsimp only at hu); obtain ⟨hu1, hu2, hu3, hu4⟩ := hu; go_simp <;> omega⟩) (by assumption) ?_
            try simp only [Act.put, List.setIfInBounds_toArray, List.set_cons_zero, List.set_cons_succ]
            refine takeH_to (i := 11) (v := .slice (some ⟨g2, 0, none⟩) ns2.length ic) (some 61) rfl rfl (by kernel_rfl) (by kernel_rfl) (by kernel_rfl) (fun _ _ _ h => h) (Or.inl ⟨by rfl, fun u hu => by (try dsimp only at hu); obtain ⟨hu1, hu2, hu3, hu4⟩ := hu; go_simp <;> omega⟩) (by assumption) ?_
            try simp only [Act.put, List.setIfInBounds_toArray, List.set_cons_zero, List.set_cons_succ]
            refine takeH_to (i := 12) (v := .int .i64 (i : Int)) (some 62) rfl rfl (by kernel_rfl) (by kernel_rfl) (by kernel_rfl) (fun _ _ _ h => h) (Or.inl ⟨by rfl, fun u hu => by (try dsimp only at hu); obtain ⟨hu1, hu2, hu3, hu4⟩ := hu; go_simp <;> omega⟩) (by assumption) ?_
            try simp only [Act.put, List.setIfInBounds_toArray, List.set_cons_zero, List.set_cons_succ]
            refine takeH_to (i := 13) (v := .pointer (some ⟨g2, i, none⟩)) (some 63) rfl rfl (by kernel_rfl) (by kernel_rfl) (by kernel_rfl) (fun _ _ _ h => h) (Or.inl ⟨by rfl, fun u hu => by (try dsimp only at hu); obtain ⟨hu1, hu2, hu3, hu4⟩ := hu; go_simp <;> omega⟩) (by assumption) ?_
            try simp only [Act.put, List.setIfInBounds_toArray, List.set_cons_zero, List.set_cons_succ]
            refine takeH_to (i := 14) (v := .string (bs is2[i])) (some 64) rfl rfl (by kernel_rfl) (by kernel_rfl) (by kernel_rfl) (fun _ _ _ h => h) (Or.inl ⟨by rfl, fun u hu => by (try dsimp only at hu); obtain ⟨hu1, hu2, hu3, hu4⟩ := hu; go_simp <;> omega⟩) (by assumption) ?_
            try simp only [Act.put, List.setIfInBounds_toArray, List.set_cons_zero, List.set_cons_succ]
            refine wpAnyH_ready (rs := [1, 7]) (by kernel_rfl) (by simp) ?_
            refine AllReadyH.cons rfl (fun K hK => ?_) (AllReadyH.cons rfl (fun K hK => ?_) AllReadyH.nil)
            · skip
              rw [if_pos (by rfl)]
              go_simp
              refine hK.out _ _ (by assumption) (fun hHeld => ?_)
              clear hK K
              try simp only [Act.put, List.setIfInBounds_toArray, List.set_cons_zero, List.set_cons_succ]
              refine wpAnyH_ready (rs := [7]) (by kernel_rfl) (by simp) ?_
              refine AllReadyH.cons rfl (fun K hK => ?_) AllReadyH.nil
              rw [if_pos (by rfl)]
              go_simp
              go_at_call 19
              refine (HQ.out _).mono ?_
              rintro en w7 ⟨rfl, b7⟩
              have AF := asd (AFU.out w7 b7)
              have HS7 := And.intro (cell_below hd4 b7) (And.intro (cell_below hd5 b7) (And.intro (cell_below hdg b7) (cell_below hdh b7)))
              have k1 : w7.cell? ⟨w.heap.size + 1, 1, none⟩ = some (.string A) := cell_below hd1 b7
              have kf : w7.frozen? ⟨w.heap.size + 1, 1, none⟩ = false := AF.out.1
              go_simp
              refine hK.out _ _ HS7 (fun hHeld => ?_)
              clear hK K
              try simp only [Act.put, List.setIfInBounds_toArray, List.set_cons_zero, List.set_cons_succ]
              refine takeH_to (i := 8) (v := .string (A ++ Z)) (some 58) rfl rfl (by kernel_rfl) (by kernel_rfl) (by kernel_rfl) (fun _ _ _ h => h) (Or.inl ⟨by rfl, fun u hu => by (try dsimp only at hu); obtain ⟨hu1, hu2, hu3, hu4⟩ := hu; go_simp <;> omega⟩) (by assumption) ?_
              try simp only [Act.put, List.setIfInBounds_toArray, List.set_cons_zero, List.set_cons_succ]
              refine takeH_to (i := 9) (v := .string (A ++ Z ++ bs [58])) (some 59) rfl rfl (by kernel_rfl) (by kernel_rfl) (by kernel_rfl) (fun _ _ _ h => h) (Or.inl ⟨by rfl, fun u hu => by (try dsimp only at hu); obtain ⟨hu1, hu2, hu3, hu4⟩ := hu; go_simp <;> omega⟩) (by assumption) ?_
              try simp only [Act.put, List.setIfInBounds_toArray, List.set_cons_zero, List.set_cons_succ]
              refine takeH_to (i := 15) (v := .string (A ++ Z ++ bs [58] ++ bs is2[i])) (some 65) rfl rfl (by kernel_rfl) (by kernel_rfl) (by kernel_rfl) (fun _ _ _ h => h) (Or.inl ⟨by rfl, fun u hu => by (try dsimp only at hu); obtain ⟨hu1, hu2, hu3, hu4⟩ := hu; go_simp <;> omega⟩) (by assumption) ?_
              try simp only [Act.put, List.setIfInBounds_toArray, List.set_cons_zero, List.set_cons_succ]
              refine takeH_to (i := 16) (v := .pointer (some ⟨w.heap.size + 1, 1, none⟩)) (some 66) rfl rfl (by kernel_rfl) (by kernel_rfl) (by kernel_rfl) (fun _ _ _ h => h) (Or.inl ⟨by rfl, fun u hu => by (try dsimp only at hu); obtain ⟨hu1, hu2, hu3, hu4⟩ := hu; go_simp <;> omega⟩) (by assumption) ?_
              try simp only [Act.put, List.setIfInBounds_toArray, List.set_cons_zero, List.set_cons_succ]
              refine wpAnyH_ready (rs := [17]) (by kernel_rfl) (by simp) ?_
              refine AllReadyH.cons rfl (fun K hK => ?_) AllReadyH.nil
              rw [if_pos (by rfl)]
              go_simp
              refine hK.out _ _ AF.out.2.2.2 (fun hHeld => ?_)
              clear hK K
              try simp only [Act.put, List.setIfInBounds_toArray, List.set_cons_zero, List.set_cons_succ]
              refine wpAnyH_done (by kernel_rfl) ?_ _
              go_wp2_with fail
              go_roundg (ns2.length - (i + 1))
              case measure => omega
              case rel => exact ⟨i + 1, Nat.le_refl _, hlt, by go_num, AF.out.2.1, AF.out.2.2.1⟩
            · skip
              rw [if_pos (by rfl)]
              go_simp
              go_at_call 19
              refine (HQ.out _).mono ?_
              rintro en w7 ⟨rfl, b7⟩
              have AF := asd (AFU.out w7 b7)
              have HS7 := And.intro (cell_below hd4 b7) (And.intro (cell_below hd5 b7) (And.intro (cell_below hdg b7) (cell_below hdh b7)))
              have k1 : w7.cell? ⟨w.heap.size + 1, 1, none⟩ = some (.string A) := cell_below hd1 b7
              have kf : w7.frozen? ⟨w.heap.size + 1, 1, none⟩ = false := AF.out.1
              go_simp
              refine hK.out _ _ HS7 (fun hHeld => ?_)
              clear hK K
              try simp only [Act.put, List.setIfInBounds_toArray, List.set_cons_zero, List.set_cons_succ]
              refine wpAnyH_ready (rs := [1]) (by kernel_rfl) (by simp) ?_
              refine AllReadyH.cons rfl (fun K hK => ?_) AllReadyH.nil
              rw [if_pos (by rfl)]
              go_simp
              refine hK.out _ _ (by assumption) (fun hHeld => ?_)
              clear hK K
              try simp only [Act.put, List.setIfInBounds_toArray, List.set_cons_zero, List.set_cons_succ]
              refine takeH_to (i := 8) (v := .string (A ++ Z)) (some 58) rfl rfl (by kernel_rfl) (by kernel_rfl) (by kernel_rfl) (fun _ _ _ h => h) (Or.inl ⟨by rfl, fun u hu => by (try dsimp only at hu); obtain ⟨hu1, hu2, hu3, hu4⟩ := hu; go_simp <;> omega⟩) (by assumption) ?_
              try simp only [Act.put, List.setIfInBounds_toArray, List.set_cons_zero, List.set_cons_succ]
              refine takeH_to (i := 9) (v := .string (A ++ Z ++ bs [58])) (some 59) rfl rfl (by kernel_rfl) (by kernel_rfl) (by kernel_rfl) (fun _ _ _ h => h) (Or.inl ⟨by rfl, fun u hu => by (try dsimp only at hu); obtain ⟨hu1, hu2, hu3, hu4⟩ := hu; go_simp <;> omega⟩) (by assumption) ?_
              try simp only [Act.put, List.setIfInBounds_toArray, List.set_cons_zero, List.set_cons_succ]
              refine takeH_to (i := 15) (v := .string (A ++ Z ++ bs [58] ++ bs is2[i])) (some 65) rfl rfl (by kernel_rfl) (by kernel_rfl) (by kernel_rfl) (fun _ _ _ h => h) (Or.inl ⟨by rfl, fun u hu => by (try dsimp only at hu); obtain ⟨hu1, hu2, hu3, hu4⟩ := hu; go_simp <;> omega⟩) (by assumption) ?_
              try simp only [Act.put, List.setIfInBounds_toArray, List.set_cons_zero, List.set_cons_succ]
              refine takeH_to (i := 16) (v := .pointer (some ⟨w.heap.size + 1, 1, none⟩)) (some 66) rfl rfl (by kernel_rfl) (by kernel_rfl) (by kernel_rfl) (fun _ _ _ h => h) (Or.inl ⟨by rfl, fun u hu => by (try dsimp only at hu); obtain ⟨hu1, hu2, hu3, hu4⟩ := hu; go_simp <;> omega⟩) (by assumption) ?_
              try simp only [Act.put, List.setIfInBounds_toArray, List.set_cons_zero, List.set_cons_succ]
              refine wpAnyH_ready (rs := [17]) (by kernel_rfl) (by simp) ?_
              refine AllReadyH.cons rfl (fun K hK => ?_) AllReadyH.nil
              rw [if_pos (by rfl)]
              go_simp
              refine hK.out _ _ AF.out.2.2.2 (fun hHeld => ?_)
              clear hK K
              try simp only [Act.put, List.setIfInBounds_toArray, List.set_cons_zero, List.set_cons_succ]
              refine wpAnyH_done (by kernel_rfl) ?_ _
              go_wp2_with fail
              go_roundg (ns2.length - (i + 1))
              case measure => omega
              case rel => exact ⟨i + 1, Nat.le_refl _, hlt, by go_num, AF.out.2.1, AF.out.2.2.1⟩
          · have e2 : decide ((0 : Int) < (i : Int)) = false := decide_eq_false (by omega)
            have HF : Aside (Js.joins ((pairs ns2 is2).take i) ++ pair1 ns2[i] is2[i] = Js.joins ((pairs ns2 is2).take (i + 1))) := by show _ = _; rw [HTK.out, if_neg h0, HPG.out]
            have LVX := LJ
            have SVX := SJ
            have zl : (bs (Js.joins ((pairs ns2 is2).take i))).size ≤ 1000001 := by show (Js.joins ((pairs ns2 is2).take i)).length ≤ _; omega
            clear LJ SJ HTK
            go_wp2_with fail
            generalize hFF : Js.joins ((pairs ns2 is2).take i) = FF at *
            have SD := asd (And.intro (SVX.out.1.below (Below.drew (Below.refl _ _))) (SVX.out.2.below (Below.drew (Below.refl _ _))))
            have LD := asd (LVX.out.below rlt (Below.drew (Below.refl _ _)))
            have hd1 : wr.drew.cell? ⟨w.heap.size + 1, 1, none⟩ = some (.string (bs FF)) := LD.out.bv.cell 1
            have hd4 : wr.drew.cell? ⟨w.heap.size + 1, 4, none⟩ = some (.slice (some ⟨g, 0, none⟩) ns2.length nc) := LD.out.bv.cell 4
            have hd5 : wr.drew.cell? ⟨w.heap.size + 1, 5, none⟩ = some (.slice (some ⟨g2, 0, none⟩) ns2.length ic) := LD.out.bv.cell 5
            have hdg := (EL.out _ SD.out).1
            have hdh := (EL.out _ SD.out).2
            have AFU := asd (fun w7 (b7 : Below wr.drew.heap.size wr.drew w7) => AFT.out wr FF w7 b7 LVX.out SVX.out HF.out)
            clear AFT EL HF LVX SVX SD LD hFF
            have HQ : Aside (∀ u : World, Calls Tryz.prog 19 #[.string (bs ns2[i])] u fun en w' => en = .returned (.string (bs (Js.quote ns2[i]))) ∧ Below u.heap.size u w') := fun u => dquote_any (bs ns2[i]) u hnz
            generalize bs FF = A at *
            generalize bs (Js.quote ns2[i]) = Z at *
            clear hnz hjl hjl2 hpz
            refine wp_region_held_drew (S := (fun u => u.cell? ⟨w.heap.size + 1, 4, none⟩ = some (.slice (some ⟨g, 0, none⟩) ns2.length nc) ∧ u.cell? ⟨w.heap.size + 1, 5, none⟩ = some (.slice (some ⟨g2, 0, none⟩) ns2.length ic) ∧ u.cell? ⟨g, i, none⟩ = some (.string (bs ns2[i])) ∧ u.cell? ⟨g2, i, none⟩ = some (.string (bs is2[i])))) (by kernel_rfl) ⟨hd4, hd5, hdg, hdh⟩ (fun hHeld => ?_)
            change wpAnyH _ _ _ _ _ _ _ _ (World.drew _)
            refine takeH_to (i := 0) (v := .pointer (some ⟨w.heap.size + 1, 1, none⟩)) (some 50) rfl rfl (by kernel_rfl) (by kernel_rfl) (by kernel_rfl) (fun _ _ _ h => h) (Or.inl ⟨by rfl, fun u hu => by (try dsimp only at hu); obtain ⟨hu1, hu2, hu3, hu4⟩ := hu; go_simp <;> omega⟩) (by assumption) ?_
            try simp only [Act.put, List.setIfInBounds_toArray, List.set_cons_zero, List.set_cons_succ]
            refine takeH_to (i := 2) (v := .pointer (some ⟨w.heap.size + 1, 4, none⟩)) (some 52) rfl rfl (by kernel_rfl) (by kernel_rfl) (by kernel_rfl) (fun _ _ _ h => h) (Or.inl ⟨by rfl, fun u hu => by (try dsimp only at hu); obtain ⟨hu1, hu2, hu3, hu4⟩ := hu; go_simp <;> omega⟩) (by assumption) ?_
            try simp only [Act.put, List.setIfInBounds_toArray, List.set_cons_zero, List.set_cons_succ]
            refine takeH_to (i := 3) (v := .slice (some ⟨g, 0, none⟩) ns2.length nc) (some 53) rfl rfl (by kernel_rfl) (by kernel_rfl) (by kernel_rfl) (fun _ _ _ h => h) (Or.inl ⟨by rfl, fun u hu => by (try dsimp only at hu); obtain ⟨hu1, hu2, hu3, hu4⟩ := hu; go_simp <;> omega⟩) (by assumption) ?_
            try simp only [Act.put, List.setIfInBounds_toArray, List.set_cons_zero, List.set_cons_succ]
            refine takeH_to (i := 4) (v := .int .i64 (i : Int)) (some 54) rfl rfl (by kernel_rfl) (by kernel_rfl) (by kernel_rfl) (fun _ _ _ h => h) (Or.inl ⟨by rfl, fun u hu => by (try dsimp only at hu); obtain ⟨hu1, hu2, hu3, hu4⟩ := hu; go_simp <;> omega⟩) (by assumption) ?_
            try simp only [Act.put, List.setIfInBounds_toArray, List.set_cons_zero, List.set_cons_succ]
            refine takeH_to (i := 5) (v := .pointer (some ⟨g, i, none⟩)) (some 55) rfl rfl (by kernel_rfl) (by kernel_rfl) (by kernel_rfl) (fun _ _ _ h => h) (Or.inl ⟨by rfl, fun u hu => by (try dsimp only at hu); obtain ⟨hu1, hu2, hu3, hu4⟩ := hu; go_simp <;> omega⟩) (by assumption) ?_
            try simp only [Act.put, List.setIfInBounds_toArray, List.set_cons_zero, List.set_cons_succ]
            refine takeH_to (i := 6) (v := .string (bs ns2[i])) (some 56) rfl rfl (by kernel_rfl) (by kernel_rfl) (by kernel_rfl) (fun _ _ _ h => h) (Or.inl ⟨by rfl, fun u hu => by (try dsimp only at hu); obtain ⟨hu1, hu2, hu3, hu4⟩ := hu; go_simp <;> omega⟩) (by assumption) ?_
            try simp only [Act.put, List.setIfInBounds_toArray, List.set_cons_zero, List.set_cons_succ]
            refine takeH_to (i := 10) (v := .pointer (some ⟨w.heap.size + 1, 5, none⟩)) (some 60) rfl rfl (by kernel_rfl) (by kernel_rfl) (by kernel_rfl) (fun _ _ _ h => h) (Or.inl ⟨by rfl, fun u hu => by (try dsimp only at hu); obtain ⟨hu1, hu2, hu3, hu4⟩ := hu; go_simp <;> omega⟩) (by assumption) ?_
            try simp only [Act.put, List.setIfInBounds_toArray, List.set_cons_zero, List.set_cons_succ]
            refine takeH_to (i := 11) (v := .slice (some ⟨g2, 0, none⟩) ns2.length ic) (some 61) rfl rfl (by kernel_rfl) (by kernel_rfl) (by kernel_rfl) (fun _ _ _ h => h) (Or.inl ⟨by rfl, fun u hu => by (try dsimp only at hu); obtain ⟨hu1, hu2, hu3, hu4⟩ := hu; go_simp <;> omega⟩) (by assumption) ?_
            try simp only [Act.put, List.setIfInBounds_toArray, List.set_cons_zero, List.set_cons_succ]
            refine takeH_to (i := 12) (v := .int .i64 (i : Int)) (some 62) rfl rfl (by kernel_rfl) (by kernel_rfl) (by kernel_rfl) (fun _ _ _ h => h) (Or.inl ⟨by rfl, fun u hu => by (try dsimp only at hu); obtain ⟨hu1, hu2, hu3, hu4⟩ := hu; go_simp <;> omega⟩) (by assumption) ?_
            try simp only [Act.put, List.setIfInBounds_toArray, List.set_cons_zero, List.set_cons_succ]
            refine takeH_to (i := 13) (v := .pointer (some ⟨g2, i, none⟩)) (some 63) rfl rfl (by kernel_rfl) (by kernel_rfl) (by kernel_rfl) (fun _ _ _ h => h) (Or.inl ⟨by rfl, fun u hu => by (try dsimp only at hu); obtain ⟨hu1, hu2, hu3, hu4⟩ := hu; go_simp <;> omega⟩) (by assumption) ?_
            try simp only [Act.put, List.setIfInBounds_toArray, List.set_cons_zero, List.set_cons_succ]
            refine takeH_to (i := 14) (v := .string (bs is2[i])) (some 64) rfl rfl (by kernel_rfl) (by kernel_rfl) (by kernel_rfl) (fun _ _ _ h => h) (Or.inl ⟨by rfl, fun u hu => by (try dsimp only at hu); obtain ⟨hu1, hu2, hu3, hu4⟩ := hu; go_simp <;> omega⟩) (by assumption) ?_
            try simp only [Act.put, List.setIfInBounds_toArray, List.set_cons_zero, List.set_cons_succ]
            refine wpAnyH_ready (rs := [1, 7]) (by kernel_rfl) (by simp) ?_
            refine AllReadyH.cons rfl (fun K hK => ?_) (AllReadyH.cons rfl (fun K hK => ?_) AllReadyH.nil)
            · skip
              rw [if_pos (by rfl)]
              go_simp
              refine hK.out _ _ (by assumption) (fun hHeld => ?_)
              clear hK K
              try simp only [Act.put, List.setIfInBounds_toArray, List.set_cons_zero, List.set_cons_succ]
              refine wpAnyH_ready (rs := [7]) (by kernel_rfl) (by simp) ?_
              refine AllReadyH.cons rfl (fun K hK => ?_) AllReadyH.nil
              rw [if_pos (by rfl)]
              go_simp
              go_at_call 19
              refine (HQ.out _).mono ?_
              rintro en w7 ⟨rfl, b7⟩
              have AF := asd (AFU.out w7 b7)
              have HS7 := And.intro (cell_below hd4 b7) (And.intro (cell_below hd5 b7) (And.intro (cell_below hdg b7) (cell_below hdh b7)))
              have k1 : w7.cell? ⟨w.heap.size + 1, 1, none⟩ = some (.string A) := cell_below hd1 b7
              have kf : w7.frozen? ⟨w.heap.size + 1, 1, none⟩ = false := AF.out.1
              go_simp
              refine hK.out _ _ HS7 (fun hHeld => ?_)
              clear hK K
              try simp only [Act.put, List.setIfInBounds_toArray, List.set_cons_zero, List.set_cons_succ]
              refine takeH_to (i := 8) (v := .string (A ++ Z)) (some 58) rfl rfl (by kernel_rfl) (by kernel_rfl) (by kernel_rfl) (fun _ _ _ h => h) (Or.inl ⟨by rfl, fun u hu => by (try dsimp only at hu); obtain ⟨hu1, hu2, hu3, hu4⟩ := hu; go_simp <;> omega⟩) (by assumption) ?_
              try simp only [Act.put, List.setIfInBounds_toArray, List.set_cons_zero, List.set_cons_succ]
              refine takeH_to (i := 9) (v := .string (A ++ Z ++ bs [58])) (some 59) rfl rfl (by kernel_rfl) (by kernel_rfl) (by kernel_rfl) (fun _ _ _ h => h) (Or.inl ⟨by rfl, fun u hu => by (try dsimp only at hu); obtain ⟨hu1, hu2, hu3, hu4⟩ := hu; go_simp <;> omega⟩) (by assumption) ?_
              try simp only [Act.put, List.setIfInBounds_toArray, List.set_cons_zero, List.set_cons_succ]
              refine takeH_to (i := 15) (v := .string (A ++ Z ++ bs [58] ++ bs is2[i])) (some 65) rfl rfl (by kernel_rfl) (by kernel_rfl) (by kernel_rfl) (fun _ _ _ h => h) (Or.inl ⟨by rfl, fun u hu => by (try dsimp only at hu); obtain ⟨hu1, hu2, hu3, hu4⟩ := hu; go_simp <;> omega⟩) (by assumption) ?_
              try simp only [Act.put, List.setIfInBounds_toArray, List.set_cons_zero, List.set_cons_succ]
              refine takeH_to (i := 16) (v := .pointer (some ⟨w.heap.size + 1, 1, none⟩)) (some 66) rfl rfl (by kernel_rfl) (by kernel_rfl) (by kernel_rfl) (fun _ _ _ h => h) (Or.inl ⟨by rfl, fun u hu => by (try dsimp only at hu); obtain ⟨hu1, hu2, hu3, hu4⟩ := hu; go_simp <;> omega⟩) (by assumption) ?_
              try simp only [Act.put, List.setIfInBounds_toArray, List.set_cons_zero, List.set_cons_succ]
              refine wpAnyH_ready (rs := [17]) (by kernel_rfl) (by simp) ?_
              refine AllReadyH.cons rfl (fun K hK => ?_) AllReadyH.nil
              rw [if_pos (by rfl)]
              go_simp
              refine hK.out _ _ AF.out.2.2.2 (fun hHeld => ?_)
              clear hK K
              try simp only [Act.put, List.setIfInBounds_toArray, List.set_cons_zero, List.set_cons_succ]
              refine wpAnyH_done (by kernel_rfl) ?_ _
              go_wp2_with fail
              go_roundg (ns2.length - (i + 1))
              case measure => omega
              case rel => exact ⟨i + 1, Nat.le_refl _, hlt, by go_num, AF.out.2.1, AF.out.2.2.1⟩
            · skip
              rw [if_pos (by rfl)]
              go_simp
              go_at_call 19
              refine (HQ.out _).mono ?_
              rintro en w7 ⟨rfl, b7⟩
              have AF := asd (AFU.out w7 b7)
              have HS7 := And.intro (cell_below hd4 b7) (And.intro (cell_below hd5 b7) (And.intro (cell_below hdg b7) (cell_below hdh b7)))
              have k1 : w7.cell? ⟨w.heap.size + 1, 1, none⟩ = some (.string A) := cell_below hd1 b7
              have kf : w7.frozen? ⟨w.heap.size + 1, 1, none⟩ = false := AF.out.1
              go_simp
              refine hK.out _ _ HS7 (fun hHeld => ?_)
              clear hK K
              try simp only [Act.put, List.setIfInBounds_toArray, List.set_cons_zero, List.set_cons_succ]
              refine wpAnyH_ready (rs := [1]) (by kernel_rfl) (by simp) ?_
              refine AllReadyH.cons rfl (fun K hK => ?_) AllReadyH.nil
              rw [if_pos (by rfl)]
              go_simp
              refine hK.out _ _ (by assumption) (fun hHeld => ?_)
              clear hK K
              try simp only [Act.put, List.setIfInBounds_toArray, List.set_cons_zero, List.set_cons_succ]
              refine takeH_to (i := 8) (v := .string (A ++ Z)) (some 58) rfl rfl (by kernel_rfl) (by kernel_rfl) (by kernel_rfl) (fun _ _ _ h => h) (Or.inl ⟨by rfl, fun u hu => by (try dsimp only at hu); obtain ⟨hu1, hu2, hu3, hu4⟩ := hu; go_simp <;> omega⟩) (by assumption) ?_
              try simp only [Act.put, List.setIfInBounds_toArray, List.set_cons_zero, List.set_cons_succ]
              refine takeH_to (i := 9) (v := .string (A ++ Z ++ bs [58])) (some 59) rfl rfl (by kernel_rfl) (by kernel_rfl) (by kernel_rfl) (fun _ _ _ h => h) (Or.inl ⟨by rfl, fun u hu => by (try dsimp only at hu); obtain ⟨hu1, hu2, hu3, hu4⟩ := hu; go_simp <;> omega⟩) (by assumption) ?_
              try simp only [Act.put, List.setIfInBounds_toArray, List.set_cons_zero, List.set_cons_succ]
              refine takeH_to (i := 15) (v := .string (A ++ Z ++ bs [58] ++ bs is2[i])) (some 65) rfl rfl (by kernel_rfl) (by kernel_rfl) (by kernel_rfl) (fun _ _ _ h => h) (Or.inl ⟨by rfl, fun u hu => by (try dsimp only at hu); obtain ⟨hu1, hu2, hu3, hu4⟩ := hu; go_simp <;> omega⟩) (by assumption) ?_
              try simp only [Act.put, List.setIfInBounds_toArray, List.set_cons_zero, List.set_cons_succ]
              refine takeH_to (i := 16) (v := .pointer (some ⟨w.heap.size + 1, 1, none⟩)) (some 66) rfl rfl (by kernel_rfl) (by kernel_rfl) (by kernel_rfl) (fun _ _ _ h => h) (Or.inl ⟨by rfl, fun u hu => by (try dsimp only at hu); obtain ⟨hu1, hu2, hu3, hu4⟩ := hu; go_simp <;> omega⟩) (by assumption) ?_
              try simp only [Act.put, List.setIfInBounds_toArray, List.set_cons_zero, List.set_cons_succ]
              refine wpAnyH_ready (rs := [17]) (by kernel_rfl) (by simp) ?_
              refine AllReadyH.cons rfl (fun K hK => ?_) AllReadyH.nil
              rw [if_pos (by rfl)]
              go_simp
              refine hK.out _ _ AF.out.2.2.2 (fun hHeld => ?_)
              clear hK K
              try simp only [Act.put, List.setIfInBounds_toArray, List.set_cons_zero, List.set_cons_succ]
              refine wpAnyH_done (by kernel_rfl) ?_ _
              go_wp2_with fail
              go_roundg (ns2.length - (i + 1))
              case measure => omega
              case rel => exact ⟨i + 1, Nat.le_refl _, hlt, by go_num, AF.out.2.1, AF.out.2.2.1⟩
        · obtain rfl : i = ns2.length := by omega
          have e1 : decide ((ns2.length : Int) < (ns2.length : Int)) = false := decide_eq_false (by omega)
          have htk : (pairs ns2 is2).take ns2.length = pairs ns2 is2 := by rw [← hpl, List.take_length]
          rw [htk] at LJ
          have j1 : wr.cell? ⟨w.heap.size + 1, 1, none⟩ = some (.string (bs (Js.joins (pairs ns2 is2)))) := LJ.out.bv.cell 1
          have jf := LJ.out.bv.fz 1
          have LF : Aside (LW r s (vc6 6 (123 :: (Js.joins (pairs ns2 is2) ++ [125])) [] 0 (.slice na ns2.length nc) (.slice ia ns2.length ic)) w qz dz ez (wr.setCell ⟨w.heap.size + 1, 1, none⟩ (.string (bs [123] ++ bs (Js.joins (pairs ns2 is2)) ++ bs [125])))) := by
            have EQF : bs [123] ++ bs (Js.joins (pairs ns2 is2)) ++ bs [125] = bs ([123] ++ Js.joins (pairs ns2 is2) ++ [125]) := by rw [bs_app, bs_app]
            rw [EQF]
            have h := LJ.out.set rlt 1 (.string (bs ([123] ++ Js.joins (pairs ns2 is2) ++ [125])))
            rw [vc6_set1] at h
            exact h
          have SF := asd (And.intro (SJ.out.1.cellset (w.heap.size + 1) 1 (.string (bs [123] ++ bs (Js.joins (pairs ns2 is2)) ++ bs [125])) (by omega)) (SJ.out.2.cellset (w.heap.size + 1) 1 (.string (bs [123] ++ bs (Js.joins (pairs ns2 is2)) ++ bs [125])) (by omega)))
          have p5 : (Value.slice na ns2.length nc).oneCell' = true := rfl
          have p6 : (Value.slice ia ns2.length ic).oneCell' = true := rfl
          have hjl := joins_take_len (pairs ns2 is2) ns2.length
          rw [htk] at hjl
          have zl : (bs (Js.joins (pairs ns2 is2))).size ≤ 1000000 := by show (Js.joins (pairs ns2 is2)).length ≤ _; omega
          have ZB : Aside ((123 :: (Js.joins (pairs ns2 is2) ++ [125])).length ≤ bnd (n + 1)) := by
            show _ ≤ _
            rw [List.length_cons, List.length_append, List.length_singleton]
            unfold bnd at *
            omega
          generalize hJ : Js.joins (pairs ns2 is2) = J at *
          generalize hA : bs J = A at *
          have HJ := asd hJ
          have HA := asd hA
          clear hJ hA
          go_wp2_with (first
            | (refine wpList_load_row rfl 28 _ rfl _ rfl 28 _ (0, 0) _ LF.out.bv Tryz.underlying28 rfl (sz28 _ _ _ _ _ _) ?_)
            | (refine wpList_store_row rfl 28 _ _ rfl _ (vc6 6 (123 :: (J ++ [125])) [] 0 (.slice na ns2.length nc) (.slice ia ns2.length ic)) rfl rfl 28 _ LF.out.bz (sz28 _ _ _ _ _ _) rfl (vc6_one _ _ _ _ _ _ p5 p6) ?_))
          have g4 := grown_row LF.out.gr w.heap.size (vc6 6 (123 :: (J ++ [125])) [] 0 (.slice na ns2.length nc) (.slice ia ns2.length ic)) (Nat.le_refl _)
          refine bodyPost_ret (results_cell_row Tryz.results37 _ _ w.heap.size 28 (vc6 6 (123 :: (J ++ [125])) [] 0 (.slice na ns2.length nc) (.slice ia ns2.length ic)) (0, 0) _ rfl (setRow_heap _ _ _ _ _ _ LF.out.bz) Tryz.underlying28 rfl (sz28 _ _ _ _ _ _)) rfl ?_
          exact ⟨qz, ez, dz, _, _, ns2, is2, by rw [HJ.out], LF.out.rq.keep (setRow_other _ _ _ _ (by omega)), g4, hqz, hdz.1, hdz.2, (SF.out.1.rowset w.heap.size _ (by omega)).base (by omega), (SF.out.2.rowset w.heap.size _ (by omega)).base (by omega), by rw [HJ.out]; exact ZB.out, HE.out⟩


/-- An object, not too deep. -/
theorem dobj_any (r : Nat) (s : ByteArray) (p d n : Nat) (w : World) (h : Rq r s p d 0 w) (hp : p < s.size) (hs : s.size ≤ 1000) (hdn : d + (n + 1) = 8) (hvc : VCd n) :
    Calls Tryz.prog 37 #[.pointer (some ⟨r, 0, none⟩)] w fun en w' => OOutD r s p n w en w' := by
  cases h125 : iz s (sk s (p + 1)) 0 125 with
  | true => exact dobj_empty r s p d n w h hp hs hdn h125
  | false => exact dobj_go r s p d n w h hp hs hdn hvc h125
end Go.Proofs.YtpeioecpilmpiaaGreatDoor
