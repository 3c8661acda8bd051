/-
  slices.Delete at files; a file is dropped; Remove.
-/
import Derived.Test.YtblhkhgcaheplaaGreatDoorDX4
namespace Go.Proofs.YtblhkhgcaheplaaGreatDoor.Dk
open Go.RowKit
set_option maxRecDepth 100000

theorem forget_any2 {w : World} {B b : Nat} {d : Ds} (h : Rep w B b d) (hl : d.pieces.length ≤ 100000) (n : ByteArray) :
    Calls Tryz.prog 58 #[.pointer (some ⟨b, 0, none⟩), .string n] w fun e w' => e = .returned (.tuple #[]) ∧ ∃ v', v'.ownBlock = d.vp.ownBlock ∧ Rep w' B b { d with pieces := keepOf n d.pieces, vp := v' } ∧ Step (d.foot b) (d.foot b) w w' ∧ ∀ k, k < w.heap.size → k ≠ b → d.vp.ownBlock ≠ some k → w'.heap[k]? = w.heap[k]? := by
  have hw : w.heap.size < (w.alloc (.cells #[.string n] 9)).heap.size := by simp
  have hb0 : Below w.heap.size w (w.alloc (.cells #[.string n] 9)) := (Below.refl _ _).alloc (Nat.le_refl _) _
  have h1 := h.below hb0
  have hne : d.vp.ownBlock ≠ some w.heap.size := fun e => by have := (h.pcs.lt _ e).2; omega
  have hx : (w.alloc (.cells #[.string n] 9)).cell? ⟨w.heap.size, 0, none⟩ = some (.string n) := by simp
  have c1 := h1.c1
  have kd := deleteFunc_any B w.heap.size d.vp d.pieces n _ h1.pcs hl hx hne
  have H1 : Aside (Rep (w.alloc (.cells #[.string n] 9)) B b d ∧ Step (d.foot b) (d.foot b) w (w.alloc (.cells #[.string n] 9))) := ⟨h1, Step.ofBelow hb0⟩
  clear h h1 hb0 hx hne
  go_enter Tryz.func58, Tryz.ntmps58
  go_wp2_with (go_at_call 75; refine kd.mono ?_; rintro e w1 ⟨v', rfl, ho, hv, hg⟩; have hc1 := (H1.out.1.repieces_cell hg); have hf1 := H1.out.1.repieces_fz hg; obtain ⟨a', cap', rfl⟩ := own_any ho)
  go_end0
  have := H1.out.1.repieces ho hv hg
  refine ⟨rfl, _, hv, this.1, H1.out.2.trans this.2, fun k hk hb hp => ?_⟩
  exact (Below.heap_setCell w1 ⟨b, 1, none⟩ _ k hb).trans ((hg.block k (by omega) (fun e => hp e.symm)).trans (alloc_old w _ k hk))

theorem del_math (X C : List Value) (p q N : Nat) (hC : X.take N = C) (hN : C.length = N) (hp : p + q ≤ N) :
    ((X.take p ++ C.drop (p + q) ++ X.drop (p + (C.drop (p + q)).length)).take N).take (N - q) = C.take p ++ C.drop (p + q) := by
  have hX : N ≤ X.length := by rw [← hN, ← hC, List.length_take]; omega
  have e1 : X.take p = C.take p := by rw [← hC, List.take_take, Nat.min_eq_left (by omega)]
  rw [List.take_take, Nat.min_eq_left (by omega), e1]
  refine List.take_left' ?_
  rw [List.length_append, List.length_take, List.length_drop, hN]
  omega

theorem flat_erase (l : List Fv) (i : Nat) : (l.flatMap Fv.cells).take (i * 3) ++ (l.flatMap Fv.cells).drop (i * 3 + 3) = (l.eraseIdx i).flatMap Fv.cells := by
  rw [show i * 3 + 3 = (i + 1) * 3 by omega, flat_take, flat_drop, List.eraseIdx_eq_take_drop_succ, List.flatMap_append]

theorem step_append_run {P : Program} {ops : Array Oper} {o : Oper} {a : Act} {w : World} {K : Act → World → Prop} {Q : Exit → Act → World → Prop} {E : Prop}
    (hg : o.guard = none) (d x : Operand) (dT sT : TypeId) (hop : o.op = Op.call { callee := Callee.builtin Builtin.append, args := #[d, x], argTypes := #[dT, sT] })
    (v u : Value) (hd : a.eval d = v) (hx : a.eval x = u) {v' : Value} {w' : World} (hr : (Builtin.append_ #[dT, sT] o.type #[v, u]).run P w = .ok v' w') (hK : K (a.put o.dst v') w') :
    if Region.wanted o (yielded ops a.tmps) = true then Oper.wp P o a w K Q else E := by
  have hw : Region.wanted o (yielded ops a.tmps) = true := by simp [Region.wanted, hg]
  rw [if_pos hw]
  unfold Oper.wp
  simp [execOp, hop, resolve, invoke, builtin, hd, hx, hr, Result.andThen]
  exact hK

set_option maxHeartbeats 4000000 in
theorem delete_any (B g cap i : Nat) (l : List Fv) (w : World) (h : w.ownsRow B 52 3 (.slice (some ⟨g, 0, none⟩) l.length cap) l.length (l.flatMap Fv.cells)) (hi : i < l.length) (hl : l.length ≤ 1000) (h1 : ∀ x ∈ l, x.v.oneCell' = true) :
    Calls Tryz.prog 59 #[.slice (some ⟨g, 0, none⟩) l.length cap, .int .i64 (i : Int), .int .i64 ((i : Int) + 1)] w fun e w' => ∃ v', e = .returned v' ∧ w'.ownsRow B 52 3 v' (l.eraseIdx i).length ((l.eraseIdx i).flatMap Fv.cells) ∧ v'.ownBlock = some g ∧ w.grownBy w' (some g) := by
  obtain ⟨cur, hcur, hcs, hnc, hcm, hBg, htk⟩ := own_setRow h
  obtain ⟨i0, hi0, hz0, hzs, hzb⟩ := info_parts info64
  have hlen : (l.flatMap Fv.cells).length = l.length * 3 := flat_len l
  have hcell : ∀ j v, (l.flatMap Fv.cells)[j]? = some v → w.cell? ⟨g, j, none⟩ = some v := fun j v hj => own_cell h rfl hj
  have hc63 : cap ≤ 9223372036854775807 := by unfold maxLen at hcm; omega
  have hdl : ((l.flatMap Fv.cells).drop ((i + 1) * 3)).length = (l.length - (i + 1)) * 3 := by rw [List.length_drop, hlen]; omega
  have hap : ∀ A : Addr, (cap ≠ i + 1 → A = ⟨g, (i + 1) * 3, none⟩) → ∀ ty c, (Builtin.append_ #[41, 41] ty #[.slice (some ⟨g, 0, none⟩) i cap, .slice (some A) (l.length - (i + 1)) c]).run Tryz.prog w.drew = .ok (.slice (some ⟨g, 0, none⟩) (i + (l.length - (i + 1))) cap) (w.drew.setRow g (cur.toList.take (i * 3) ++ (l.flatMap Fv.cells).drop ((i + 1) * 3) ++ cur.toList.drop (i * 3 + ((l.flatMap Fv.cells).drop ((i + 1) * 3)).length)).toArray) := fun A hA ty c => by
    have := run_append_room (P := Tryz.prog) w.drew 41 ty 52 i0 Tryz.underlying41 hi0 g i cap cur hcur A (l.length - (i + 1)) c ((l.flatMap Fv.cells).drop ((i + 1) * 3)) (by rw [hzs]; exact hdl) (fun j u hj => by
      by_cases he : cap = i + 1
      · have := (List.getElem?_eq_some_iff.1 hj).1
        omega
      · rw [hA he, Addr.add_lit]
        exact hcell ((i + 1) * 3 + j) u (by rwa [List.getElem?_drop] at hj)) (fun v hv => cells_one h1 v (List.mem_of_mem_drop hv)) (by omega) (by rw [hzs]; omega)
    rw [hzs] at this
    exact this
  generalize hX1 : (cur.toList.take (i * 3) ++ (l.flatMap Fv.cells).drop ((i + 1) * 3) ++ cur.toList.drop (i * 3 + ((l.flatMap Fv.cells).drop ((i + 1) * 3)).length)).toArray = X1 at hap
  have hX1s : X1.size = cap * 3 := by rw [← hX1]; simp only [List.size_toArray, List.length_append, List.length_take, List.length_drop, Array.length_toList, hcs, hlen]; omega
  have hX1h : (w.drew.setRow g X1).heap[g]? = some (.cells X1 52 (0, 0)) := setRow_heap w.drew g cur X1 52 _ hcur
  have hO1 : (w.drew.setRow g X1).ownsRow B 52 3 (.slice (some ⟨g, 0, none⟩) l.length cap) l.length (X1.toList.take (l.length * 3)) :=
    ⟨by have := Array.length_toList (xs := X1); rw [List.length_take]; omega, .inr ⟨g, cap, X1, rfl, hBg, hX1h, hnc, hcm, hX1s, rfl⟩⟩
  have hz : (Builtin.zeroCells #[.string ⟨#[]⟩, .slice none 0 0, .int .i64 0] 1).toList.length = 3 := by rw [Array.length_toList, size_zeroCells]; rfl
  have hcl : ∀ ty c, (Builtin.clear_ #[41] ty #[.slice (some ⟨g, (l.length - 1) * 3, none⟩) 1 c]).run Tryz.prog (w.drew.setRow g X1) = .ok (.tuple #[]) _ := fun ty c =>
    run_clear_row (w.drew.setRow g X1) 41 52 ty #[.string ⟨#[]⟩, .slice none 0 0, .int .i64 0] Tryz.underlying41 zero64 (by simp [Value.oneCell']) (by simp) g (l.length - 1) 1 c X1 hX1h (by omega) (by simp; omega)
  have C := own_cleared hO1 hX1h (Builtin.zeroCells #[.string ⟨#[]⟩, .slice none 0 0, .int .i64 0] 1).toList (i := l.length - 1) (by omega) (by rw [hz]; omega)
  generalize hW : (w.drew.setRow g X1).setRow g _ = W at hcl C
  have G : Aside (w.grownBy W (some g)) := by
    rw [← hW]
    exact grown_setRow (grown_setRow (⟨rfl, rfl, rfl, Nat.le_refl _, fun _ _ _ => rfl⟩ : w.grownBy w.drew (some g)) X1) _
  have F : Aside (W.ownsRow B 52 3 (.slice (some ⟨g, 0, none⟩) (l.length - 1) cap) (l.eraseIdx i).length ((l.eraseIdx i).flatMap Fv.cells)) := by
    have e := del_math cur.toList (l.flatMap Fv.cells) (i * 3) 3 (l.length * 3) htk hlen (by omega)
    rw [flat_erase, show i * 3 + 3 = (i + 1) * 3 by omega, show l.length * 3 - 3 = (l.length - 1) * 3 by omega] at e
    have e2 : X1.toList = cur.toList.take (i * 3) ++ (l.flatMap Fv.cells).drop ((i + 1) * 3) ++ cur.toList.drop (i * 3 + ((l.flatMap Fv.cells).drop ((i + 1) * 3)).length) := by rw [← hX1]
    rw [e2, e] at C
    rw [List.length_eraseIdx_of_lt hi]
    exact C
  generalize hW1 : w.drew.setRow g X1 = W1 at hcl hap
  clear hW hW1 C hO1 hX1 hX1s hX1h hcur hcell htk hcs hdl hlen h h1 hz hz0 hzs hzb hi0
  generalize (l.eraseIdx i).flatMap Fv.cells = XS at *
  generalize (l.eraseIdx i).length = m at *
  generalize l.length = n at *
  have hik : i + (n - (i + 1)) = n - 1 := by omega
  rw [hik] at hap
  have hin : (i : Int) ≤ (n : Int) := by omega
  have hw1 : IntKind.i64.wrap ((i : Int) + 1) = (i : Int) + 1 := by rw [IntKind.wrap_i64]; omega
  have htn : ((i : Int) + 1).toNat = i + 1 := by omega
  have hb1 : (0 : Int) ≤ (i : Int) + 1 := by omega
  have hb2 : (i : Int) + 1 ≤ (n : Int) := by omega
  have hb5 : (i : Int) ≤ (i : Int) + 1 := by omega
  have hz2 : ((i : Int) == (i : Int) + 1) = false := by simp; omega
  have hz3 : ¬ ((i : Int) = (i : Int) + 1) := by omega
  have hic : i ≤ cap := by omega
  have hm1 : n - 1 ≤ cap := by omega
  have hm2 : n - (n - 1) = 1 := by omega
  have hm3 : ¬ cap = n - 1 := by omega
  have hm4 : n - 1 ≤ n := by omega
  have hm5 : (i + 1) ≤ n := by omega
  by_cases hce : cap = i + 1
  · obtain rfl : n = i + 1 := by omega
    subst hce
    have hap' := hap ⟨g, 0, none⟩ (fun h => absurd rfl h)
    clear hap hm1 hm2 hm3 hm4 hm5 hik hin hic hb2 hi hnc hc63 hcm
    simp only [Nat.add_sub_cancel, Nat.sub_self] at hap' hcl F
    go_enter Tryz.func59, Tryz.ntmps59
    go_wp2
    go_region_law (refine step_append_run rfl _ _ 41 41 rfl (.slice (some ⟨g, 0, none⟩) i (i + 1)) (.slice (some ⟨g, 0, none⟩) 0 0) (by simp [Act.eval, Act.put]) (by simp [Act.eval, Act.put]) (hap' 41 0) ?_)
    all_goals
      go_wp2
      go_ret
      exact ⟨_, rfl, F.out, rfl, G.out⟩
  · have hap' := hap ⟨g, (i + 1) * 3, none⟩ (fun _ => rfl)
    clear hap
    go_enter Tryz.func59, Tryz.ntmps59
    go_wp2
    go_region_law (refine step_append_run rfl _ _ 41 41 rfl (.slice (some ⟨g, 0, none⟩) i cap) (.slice (some ⟨g, (i + 1) * 3, none⟩) (n - (i + 1)) (cap - (i + 1))) (by simp [Act.eval, Act.put]) (by simp [Act.eval, Act.put]) (hap' 41 (cap - (i + 1))) ?_)
    all_goals
      go_wp2
      go_ret
      exact ⟨_, rfl, F.out, rfl, G.out⟩
end Go.Proofs.YtblhkhgcaheplaaGreatDoor.Dk
