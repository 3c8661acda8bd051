/-
  YtajjcfacbnicnaaGreatDoor: the texts DX5, DX6, DX7, DQ, DX8, one behind the other.
-/
import Derived.Test.YtajjcfacbnicnaaGreatDoorV3
import Derived.Lib.AppendStr
import Derived.WalkKit
import Derived.BigQuiet
/-
  slices.Delete at files; a file is dropped; Remove.
-/
namespace Go.Proofs.YtajjcfacbnicnaaGreatDoor.Dk
open Go.RowKit
set_option maxRecDepth 100000

theorem forget_any2 {w : World} {B b : Nat} {d : Ds} (h : Rep w B b d) (hl : d.pieces.length ≤ 100000) (n : ByteArray) :
    Calls Tryz.prog 108 #[.pointer (some ⟨b, 0, none⟩), .string n] w fun e w' => e = .returned (.tuple #[]) ∧ ∃ v', v'.ownBlock = d.vp.ownBlock ∧ Rep w' B b { d with pieces := keepOf n d.pieces, vp := v' } ∧ Step (d.foot b) (d.foot b) w w' ∧ ∀ k, k < w.heap.size → k ≠ b → d.vp.ownBlock ≠ some k → w'.heap[k]? = w.heap[k]? := by
  have hw : w.heap.size < (w.alloc (.cells #[.string n] 9)).heap.size := by simp
  have hb0 : Below w.heap.size w (w.alloc (.cells #[.string n] 9)) := (Below.refl _ _).alloc (Nat.le_refl _) _
  have h1 := h.below hb0
  have hne : d.vp.ownBlock ≠ some w.heap.size := fun e => by have := (h.pcs.lt _ e).2; omega
  have hx : (w.alloc (.cells #[.string n] 9)).cell? ⟨w.heap.size, 0, none⟩ = some (.string n) := by simp
  have c1 := h1.c1
  have kd := deleteFunc_any B w.heap.size d.vp d.pieces n _ h1.pcs hl hx hne
  have H1 : Aside (Rep (w.alloc (.cells #[.string n] 9)) B b d ∧ Step (d.foot b) (d.foot b) w (w.alloc (.cells #[.string n] 9))) := ⟨h1, Step.ofBelow hb0⟩
  clear h h1 hb0 hx hne
  go_enter Tryz.func108, Tryz.ntmps108
  go_wp2_with (go_at_call 123; refine kd.mono ?_; rintro e w1 ⟨v', rfl, ho, hv, hg⟩; have hc1 := (H1.out.1.repieces_cell hg); have hf1 := H1.out.1.repieces_fz hg; obtain ⟨a', cap', rfl⟩ := own_any ho)
  go_end0
  have := H1.out.1.repieces ho hv hg
  refine ⟨rfl, _, hv, this.1, H1.out.2.trans this.2, fun k hk hb hp => ?_⟩
  exact (Below.heap_setCell w1 ⟨b, 1, none⟩ _ k hb).trans ((hg.block k (by omega) (fun e => hp e.symm)).trans (alloc_old w _ k hk))

theorem del_math (X C : List Value) (p q N : Nat) (hC : X.take N = C) (hN : C.length = N) (hp : p + q ≤ N) :
    ((X.take p ++ C.drop (p + q) ++ X.drop (p + (C.drop (p + q)).length)).take N).take (N - q) = C.take p ++ C.drop (p + q) := by
  have hX : N ≤ X.length := by rw [← hN, ← hC, List.length_take]; omega
  have e1 : X.take p = C.take p := by rw [← hC, List.take_take, Nat.min_eq_left (by omega)]
  rw [List.take_take, Nat.min_eq_left (by omega), e1]
  refine List.take_left' ?_
  rw [List.length_append, List.length_take, List.length_drop, hN]
  omega

theorem flat_erase (l : List Fv) (i : Nat) : (l.flatMap Fv.cells).take (i * 3) ++ (l.flatMap Fv.cells).drop (i * 3 + 3) = (l.eraseIdx i).flatMap Fv.cells := by
  rw [show i * 3 + 3 = (i + 1) * 3 by omega, flat_take, flat_drop, List.eraseIdx_eq_take_drop_succ, List.flatMap_append]

theorem step_append_run {P : Program} {ops : Array Oper} {o : Oper} {a : Act} {w : World} {K : Act → World → Prop} {Q : Exit → Act → World → Prop} {E : Prop}
    (hg : o.guard = none) (d x : Operand) (dT sT : TypeId) (hop : o.op = Op.call { callee := Callee.builtin Builtin.append, args := #[d, x], argTypes := #[dT, sT] })
    (v u : Value) (hd : a.eval d = v) (hx : a.eval x = u) {v' : Value} {w' : World} (hr : (Builtin.append_ #[dT, sT] o.type #[v, u]).run P w = .ok v' w') (hK : K (a.put o.dst v') w') :
    if Region.wanted o (yielded ops a.tmps) = true then Oper.wp P o a w K Q else E := by
  have hw : Region.wanted o (yielded ops a.tmps) = true := by simp [Region.wanted, hg]
  rw [if_pos hw]
  unfold Oper.wp
  simp [execOp, hop, resolve, invoke, builtin, hd, hx, hr, Result.andThen]
  exact hK

set_option maxHeartbeats 4000000 in
theorem delete_any (B g cap i : Nat) (l : List Fv) (w : World) (h : w.ownsRow B 99 3 (.slice (some ⟨g, 0, none⟩) l.length cap) l.length (l.flatMap Fv.cells)) (hi : i < l.length) (hl : l.length ≤ 1000) (h1 : ∀ x ∈ l, x.v.oneCell' = true) :
    Calls Tryz.prog 111 #[.slice (some ⟨g, 0, none⟩) l.length cap, .int .i64 (i : Int), .int .i64 ((i : Int) + 1)] w fun e w' => ∃ v', e = .returned v' ∧ w'.ownsRow B 99 3 v' (l.eraseIdx i).length ((l.eraseIdx i).flatMap Fv.cells) ∧ v'.ownBlock = some g ∧ w.grownBy w' (some g) := by
  obtain ⟨cur, hcur, hcs, hnc, hcm, hBg, htk⟩ := own_setRow h
  obtain ⟨i0, hi0, hz0, hzs, hzb⟩ := info_parts info64
  have hlen : (l.flatMap Fv.cells).length = l.length * 3 := flat_len l
  have hcell : ∀ j v, (l.flatMap Fv.cells)[j]? = some v → w.cell? ⟨g, j, none⟩ = some v := fun j v hj => own_cell h rfl hj
  have hc63 : cap ≤ 9223372036854775807 := by unfold maxLen at hcm; omega
  have hdl : ((l.flatMap Fv.cells).drop ((i + 1) * 3)).length = (l.length - (i + 1)) * 3 := by rw [List.length_drop, hlen]; omega
  have hap : ∀ A : Addr, (cap ≠ i + 1 → A = ⟨g, (i + 1) * 3, none⟩) → ∀ ty c, (Builtin.append_ #[65, 65] ty #[.slice (some ⟨g, 0, none⟩) i cap, .slice (some A) (l.length - (i + 1)) c]).run Tryz.prog w.drew = .ok (.slice (some ⟨g, 0, none⟩) (i + (l.length - (i + 1))) cap) (w.drew.setRow g (cur.toList.take (i * 3) ++ (l.flatMap Fv.cells).drop ((i + 1) * 3) ++ cur.toList.drop (i * 3 + ((l.flatMap Fv.cells).drop ((i + 1) * 3)).length)).toArray) := fun A hA ty c => by
    have := run_append_room (P := Tryz.prog) w.drew 65 ty 99 i0 Tryz.underlying65 hi0 g i cap cur hcur A (l.length - (i + 1)) c ((l.flatMap Fv.cells).drop ((i + 1) * 3)) (by rw [hzs]; exact hdl) (fun j u hj => by
      by_cases he : cap = i + 1
      · have := (List.getElem?_eq_some_iff.1 hj).1
        omega
      · rw [hA he, Addr.add_lit]
        exact hcell ((i + 1) * 3 + j) u (by rwa [List.getElem?_drop] at hj)) (fun v hv => cells_one h1 v (List.mem_of_mem_drop hv)) (by omega) (by rw [hzs]; omega)
    rw [hzs] at this
    exact this
  generalize hX1 : (cur.toList.take (i * 3) ++ (l.flatMap Fv.cells).drop ((i + 1) * 3) ++ cur.toList.drop (i * 3 + ((l.flatMap Fv.cells).drop ((i + 1) * 3)).length)).toArray = X1 at hap
  have hX1s : X1.size = cap * 3 := by rw [← hX1]; simp only [List.size_toArray, List.length_append, List.length_take, List.length_drop, Array.length_toList, hcs, hlen]; omega
  have hX1h : (w.drew.setRow g X1).heap[g]? = some (.cells X1 99 (0, 0)) := setRow_heap w.drew g cur X1 99 _ hcur
  have hO1 : (w.drew.setRow g X1).ownsRow B 99 3 (.slice (some ⟨g, 0, none⟩) l.length cap) l.length (X1.toList.take (l.length * 3)) :=
    ⟨by have := Array.length_toList (xs := X1); rw [List.length_take]; omega, .inr ⟨g, cap, X1, rfl, hBg, hX1h, hnc, hcm, hX1s, rfl⟩⟩
  have hz : (Builtin.zeroCells #[.string ⟨#[]⟩, .slice none 0 0, .int .i64 0] 1).toList.length = 3 := by rw [Array.length_toList, size_zeroCells]; rfl
  have hcl : ∀ ty c, (Builtin.clear_ #[65] ty #[.slice (some ⟨g, (l.length - 1) * 3, none⟩) 1 c]).run Tryz.prog (w.drew.setRow g X1) = .ok (.tuple #[]) _ := fun ty c =>
    run_clear_row (w.drew.setRow g X1) 65 99 ty #[.string ⟨#[]⟩, .slice none 0 0, .int .i64 0] Tryz.underlying65 zero64 (by simp [Value.oneCell']) (by simp) g (l.length - 1) 1 c X1 hX1h (by omega) (by simp; omega)
  have C := own_cleared hO1 hX1h (Builtin.zeroCells #[.string ⟨#[]⟩, .slice none 0 0, .int .i64 0] 1).toList (i := l.length - 1) (by omega) (by rw [hz]; omega)
  generalize hW : (w.drew.setRow g X1).setRow g _ = W at hcl C
  have G : Aside (w.grownBy W (some g)) := by
    rw [← hW]
    exact grown_setRow (grown_setRow (⟨rfl, rfl, rfl, Nat.le_refl _, fun _ _ _ => rfl⟩ : w.grownBy w.drew (some g)) X1) _
  have F : Aside (W.ownsRow B 99 3 (.slice (some ⟨g, 0, none⟩) (l.length - 1) cap) (l.eraseIdx i).length ((l.eraseIdx i).flatMap Fv.cells)) := by
    have e := del_math cur.toList (l.flatMap Fv.cells) (i * 3) 3 (l.length * 3) htk hlen (by omega)
    rw [flat_erase, show i * 3 + 3 = (i + 1) * 3 by omega, show l.length * 3 - 3 = (l.length - 1) * 3 by omega] at e
    have e2 : X1.toList = cur.toList.take (i * 3) ++ (l.flatMap Fv.cells).drop ((i + 1) * 3) ++ cur.toList.drop (i * 3 + ((l.flatMap Fv.cells).drop ((i + 1) * 3)).length) := by rw [← hX1]
    rw [e2, e] at C
    rw [List.length_eraseIdx_of_lt hi]
    exact C
  generalize hW1 : w.drew.setRow g X1 = W1 at hcl hap
  clear hW hW1 C hO1 hX1 hX1s hX1h hcur hcell htk hcs hdl hlen h h1 hz hz0 hzs hzb hi0
  generalize (l.eraseIdx i).flatMap Fv.cells = XS at *
  generalize (l.eraseIdx i).length = m at *
  generalize l.length = n at *
  have hik : i + (n - (i + 1)) = n - 1 := by omega
  rw [hik] at hap
  have hin : (i : Int) ≤ (n : Int) := by omega
  have hw1 : IntKind.i64.wrap ((i : Int) + 1) = (i : Int) + 1 := by rw [IntKind.wrap_i64]; omega
  have htn : ((i : Int) + 1).toNat = i + 1 := by omega
  have hb1 : (0 : Int) ≤ (i : Int) + 1 := by omega
  have hb2 : (i : Int) + 1 ≤ (n : Int) := by omega
  have hb5 : (i : Int) ≤ (i : Int) + 1 := by omega
  have hz2 : ((i : Int) == (i : Int) + 1) = false := by simp; omega
  have hz3 : ¬ ((i : Int) = (i : Int) + 1) := by omega
  have hic : i ≤ cap := by omega
  have hm1 : n - 1 ≤ cap := by omega
  have hm2 : n - (n - 1) = 1 := by omega
  have hm3 : ¬ cap = n - 1 := by omega
  have hm4 : n - 1 ≤ n := by omega
  have hm5 : (i + 1) ≤ n := by omega
  by_cases hce : cap = i + 1
  · obtain rfl : n = i + 1 := by omega
    subst hce
    have hap' := hap ⟨g, 0, none⟩ (fun h => absurd rfl h)
    clear hap hm1 hm2 hm3 hm4 hm5 hik hin hic hb2 hi hnc hc63 hcm
    simp only [Nat.add_sub_cancel, Nat.sub_self] at hap' hcl F
    go_enter Tryz.func111, Tryz.ntmps111
    go_wp2
    go_region_law (refine step_append_run rfl _ _ 65 65 rfl (.slice (some ⟨g, 0, none⟩) i (i + 1)) (.slice (some ⟨g, 0, none⟩) 0 0) (by simp [Act.eval, Act.put]) (by simp [Act.eval, Act.put]) (hap' 65 0) ?_)
    all_goals
      go_wp2
      go_ret
      exact ⟨_, rfl, F.out, rfl, G.out⟩
  · have hap' := hap ⟨g, (i + 1) * 3, none⟩ (fun _ => rfl)
    clear hap
    go_enter Tryz.func111, Tryz.ntmps111
    go_wp2
    go_region_law (refine step_append_run rfl _ _ 65 65 rfl (.slice (some ⟨g, 0, none⟩) i cap) (.slice (some ⟨g, (i + 1) * 3, none⟩) (n - (i + 1)) (cap - (i + 1))) (by simp [Act.eval, Act.put]) (by simp [Act.eval, Act.put]) (hap' 65 (cap - (i + 1))) ?_)
    all_goals
      go_wp2
      go_ret
      exact ⟨_, rfl, F.out, rfl, G.out⟩
end Go.Proofs.YtajjcfacbnicnaaGreatDoor.Dk

/-
  A file is dropped; Remove.
-/
namespace Go.Proofs.YtajjcfacbnicnaaGreatDoor.Dk
open Go.RowKit
set_option maxRecDepth 100000

theorem Rep.one {w : World} {B b : Nat} {d : Ds} (h : Rep w B b d) : ∀ x ∈ d.files, x.v.oneCell' = true := fun x hx => own_one (h.rows x hx)

theorem sub_flatMap {α β : Type} (g : α → List β) : ∀ {l m : List α}, l.Sublist m → (l.flatMap g).Sublist (m.flatMap g)
  | _, _, .slnil => .slnil
  | _, _, .cons a h => by rw [List.flatMap_cons]; exact (sub_flatMap g h).trans (List.sublist_append_right _ _)
  | _, _, .cons_cons a h => by rw [List.flatMap_cons, List.flatMap_cons]; exact (sub_flatMap g h).append_left _

theorem foot_sub {b : Nat} {d : Ds} {L : List Fv} {v' v'' : Value} {P : List Pc} (hL : L.Sublist d.files) (hv : v'.ownBlock = d.vf.ownBlock) (hp : v''.ownBlock = d.vp.ownBlock) : (Ds.foot b { d with files := L, pieces := P, vf := v', vp := v'' }).Sublist (d.foot b) := by
  unfold Ds.foot ob
  simp only
  rw [hv, hp]
  exact (((sub_flatMap _ hL).append_left _).append_left _).cons_cons _

/-- The table is another one, of files that were there. -/
theorem Rep.refiles {w w1 : World} {B b : Nat} {d : Ds} {v' : Value} {L : List Fv} (h : Rep w B b d) (hL : L.Sublist d.files) (ho : w1.ownsRow B 99 3 v' L.length (L.flatMap Fv.cells)) (hv : v'.ownBlock = d.vf.ownBlock) (hg : w.grownBy w1 d.vf.ownBlock) :
    Rep (w1.setCell ⟨b, 0, none⟩ v') B b { d with files := L, vf := v' } ∧ (∀ k, k < w.heap.size → k ≠ b → d.vf.ownBlock ≠ some k → (w1.setCell ⟨b, 0, none⟩ v').heap[k]? = w.heap[k]?) := by
  have hblk : w1.heap[b]? = some (.cells d.cells 68 (0, 0)) := (hg.block b h.b_lt (fun e => h.b_vf e.symm rfl)).trans h.blk
  have keep : ∀ k, k < w.heap.size → k ≠ b → d.vf.ownBlock ≠ some k → (w1.setCell ⟨b, 0, none⟩ v').heap[k]? = w.heap[k]? := fun k hk hb hp =>
    (Below.heap_setCell w1 ⟨b, 0, none⟩ v' k hb).trans (hg.block k hk (fun e => hp e.symm))
  refine ⟨⟨h.ge, set_same hblk rfl, own_frame ho fun k hk => Below.heap_setCell w1 ⟨b, 0, none⟩ v' k (h.b_vf (hv ▸ hk)), own_frame h.pcs fun k hk => keep k (h.pcs.lt k hk).2 (h.b_vp hk) (fun e => h.vf_vp e hk), fun f hf => own_frame (h.rows f (hL.subset hf)) fun k hk => keep k ((h.rows f (hL.subset hf)).lt k hk).2 (h.b_f (hL.subset hf) hk) (fun e => h.vf_f (hL.subset hf) e hk), ?_⟩, keep⟩
  exact h.nodup.sublist (foot_sub (P := d.pieces) hL hv rfl)

theorem Rep.refiles_cell {w w1 : World} {B b : Nat} {d : Ds} (h : Rep w B b d) (hg : w.grownBy w1 d.vf.ownBlock) : w1.cell? ⟨b, 0, none⟩ = some d.vf ∧ w1.frozen? ⟨b, 0, none⟩ = false := by
  have hblk : w1.heap[b]? = some (.cells d.cells 68 (0, 0)) := (hg.block b h.b_lt (fun e => h.b_vf e.symm rfl)).trans h.blk
  exact ⟨by rw [cell_of_row w1 b 0 _ _ _ hblk]; rfl, frozen_of_row w1 b 0 _ _ hblk⟩

set_option maxHeartbeats 800000 in
theorem drop_any {w : World} {B b i : Nat} {d : Ds} {f : Fv} (h : Rep w B b d) (hl : d.pieces.length ≤ 100000) (hll : d.files.length ≤ 1000) (hf : d.files[i]? = some f) :
    Calls Tryz.prog 94 #[.pointer (some ⟨b, 0, none⟩), .int .i64 (i : Int)] w fun e w' => e = .returned (.tuple #[]) ∧ ∃ v' v'', v'.ownBlock = d.vf.ownBlock ∧ v''.ownBlock = d.vp.ownBlock ∧
      Rep w' B b { d with files := d.files.eraseIdx i, pieces := keepOf f.name d.pieces, vf := v', vp := v'' } ∧ Step (d.foot b) (Ds.foot b { d with files := d.files.eraseIdx i, pieces := keepOf f.name d.pieces, vf := v', vp := v'' }) w w' ∧ (∀ k, k < w.heap.size → k ≠ b → d.vf.ownBlock ≠ some k → d.vp.ownBlock ≠ some k → w'.heap[k]? = w.heap[k]?) := by
  have hi : i < d.files.length := (List.getElem?_eq_some_iff.1 hf).1
  obtain ⟨g, cap, ev, hcap, hcm, hg⟩ := h.vf_form hf
  obtain ⟨e0, e1, e2⟩ := h.fcells hf hg
  have c0 := h.c0
  have hci : i < cap := by omega
  have kf := forget_any2 h hl f.name
  have kd : Aside (∀ (v'' : Value) (u : World), Rep u B b { d with pieces := keepOf f.name d.pieces, vp := v'' } → _) := fun (v'' : Value) (u : World) hu => by
    have ht := hu.tab
    simp only at ht
    rw [ev] at ht
    exact delete_any B g cap i d.files u ht hi hll hu.one
  have HC : Aside (∀ (v'' : Value) (u : World), Rep u B b { d with pieces := keepOf f.name d.pieces, vp := v'' } → u.cell? ⟨b, 0, none⟩ = some (.slice (some ⟨g, 0, none⟩) d.files.length cap)) := fun v'' u hu => by rw [← ev]; exact hu.c0
  have HF : Aside (∀ (v'' : Value) (u u1 : World), Rep u B b { d with pieces := keepOf f.name d.pieces, vp := v'' } → u.grownBy u1 (some g) → u1.cell? ⟨b, 0, none⟩ = some (.slice (some ⟨g, 0, none⟩) d.files.length cap) ∧ u1.frozen? ⟨b, 0, none⟩ = false) := fun v'' u u1 hu hgr => by
    have := hu.refiles_cell (w1 := u1) (by simp only; rw [hg]; exact hgr)
    rw [← ev]
    exact this
  have EV : Aside (d.vf = .slice (some ⟨g, 0, none⟩) d.files.length cap ∧ d.vf.ownBlock = some g) := ⟨ev, hg⟩
  rw [ev] at c0
  clear h hf ev hg
  have hw1 : IntKind.i64.wrap ((i : Int) + 1) = (i : Int) + 1 := by rw [IntKind.wrap_i64]; omega
  go_enter Tryz.func94, Tryz.ntmps94
  go_wp2_with (first
    | (go_at_call 108; refine kf.mono ?_; rintro e w1 ⟨rfl, v'', hv'', hr1, s1, k1⟩; have x0 := HC.out _ _ hr1)
    | (go_at_call 111; refine (kd.out _ _ hr1).mono ?_; rintro e w2 ⟨v', rfl, ho, hv', hgr⟩; obtain ⟨x1, x2⟩ := HF.out _ _ _ hr1 hgr; obtain ⟨a', cap', rfl⟩ := own_any ho))
  go_end0
  obtain ⟨ev, hg⟩ := EV.out
  have := hr1.refiles (L := d.files.eraseIdx i) (List.eraseIdx_sublist _ _) ho (by rw [hv']; exact hg.symm) (by show w1.grownBy w2 d.vf.ownBlock; rw [hg]; exact hgr)
  refine ⟨rfl, _, v'', hv'.trans hg.symm, hv'', this.1, ?_, ?_⟩
  · refine ⟨hgr.os.trans s1.os, hgr.tape.trans s1.tape, hgr.output.trans s1.output, ?_, ?_, ?_⟩
    · have := hgr.size
      have := s1.size
      simp
      omega
    · intro k hk hn
      have hk1 : k < w1.heap.size := by have := s1.size; omega
      exact (this.2 k hk1 (fun e => hn (e ▸ foot_b)) (fun e => hn (foot_vf e))).trans (s1.block k hk hn)
    · intro k hk
      exact .inl ((foot_sub (d := d) (List.eraseIdx_sublist _ _) (hv'.trans hg.symm) hv'').subset hk)
  · intro k hk hb hvf hvp
    have hk1 : k < w1.heap.size := by have := s1.size; omega
    exact (this.2 k hk1 hb hvf).trans (k1 k hk hb hvp)

theorem pl_drop {d : Ds} {i : Nat} {f : Fv} {v' v'' : Value} (hf : d.files[i]? = some f) : Ds.pl { d with files := d.files.eraseIdx i, pieces := keepOf f.name d.pieces, vf := v', vp := v'' } = d.pl.drop i := by
  unfold St.drop
  rw [pl_get hf]
  simp only [Ds.pl, List.eraseIdx_eq_take_drop_succ, List.map_append, List.map_take, List.map_drop]
  rfl

theorem Ok.dpieces {d : Ds} (h : Ok d.pl) : d.pieces.length ≤ 100000 := Nat.le_trans h.pieces (by omega)

set_option maxHeartbeats 800000 in
theorem remove_any {w : World} {B b : Nat} {d : Ds} (h : Rep w B b d) (ok : Ok d.pl) (n : ByteArray) :
    Calls Tryz.prog 59 #[.pointer (some ⟨b, 0, none⟩), .string n] w fun e w' => e = .returned (.int .i64 (opRemove d.pl n).1) ∧ ∃ d', Rep w' B b d' ∧ d'.pl = (opRemove d.pl n).2 ∧ Step (d.foot b) (d'.foot b) w w' := by
  have ko := open_any h ok.fuse ok.rise (by have := ok.dfew; omega) n
  unfold opRemove
  rw [power_pl, names_pl]
  cases hp : d.power with
  | false =>
    rw [hp] at ko
    simp only [Bool.false_and, Bool.false_eq_true, if_false] at ko ⊢
    clear h
    go_enter Tryz.func59, Tryz.ntmps59
    go_wp2_with (go_at_call 88; refine ko.mono ?_; rintro e w1 ⟨rfl, h1, s1⟩)
    go_ret
    exact ⟨rfl, d.spent, h1, rfl, s1⟩
  | true =>
    cases hh : has d.names n with
    | false =>
      rw [hp, hh] at ko
      simp only [Bool.and_false, Bool.false_eq_true, if_false, if_true] at ko ⊢
      clear h
      go_enter Tryz.func59, Tryz.ntmps59
      go_wp2_with (go_at_call 88; refine ko.mono ?_; rintro e w1 ⟨rfl, h1, s1⟩)
      go_ret
      exact ⟨rfl, d.spent, h1, rfl, s1⟩
    | true =>
      rw [hp, hh] at ko
      simp only [Bool.and_true, if_true] at ko ⊢
      obtain ⟨f, hf, hfn, hfm⟩ := dhas_get ok.rise hh
      generalize hi : place d.names n = i at *
      have hfew := ok.dfew
      have hpc := ok.dpieces
      have ks : Aside (∀ u : World, Rep u B b d.spent → _) := fun (u : World) hu => drop_any (d := d.spent) hu hpc (by show d.files.length ≤ _; omega) hf
      have HF : Aside (d.files[i]? = some f) := hf
      clear h hfn hfm hf hi
      go_enter Tryz.func59, Tryz.ntmps59
      go_wp2_with (first
        | (go_at_call 88; refine ko.mono ?_; rintro e w1 ⟨rfl, h1, s1⟩)
        | (go_at_call 94; refine (ks.out _ h1).mono ?_; rintro e w2 ⟨rfl, v', v'', hv, hv2, h2, s2, _⟩))
      go_ret
      exact ⟨rfl, _, h2, pl_drop (d := d.spent) HF.out, s1.trans s2⟩
end Go.Proofs.YtajjcfacbnicnaaGreatDoor.Dk

/-
  What Append does to a disk's memory: a file is put at its place, has more bytes, there is one piece more.
-/
namespace Go.Proofs.YtajjcfacbnicnaaGreatDoor.Dk
open Go.RowKit
set_option maxRecDepth 100000

theorem nodup_swap {A X C Y : List Nat} (h : (A ++ (X ++ C)).Nodup) (hY : Y = X ∨ ∃ k, Y = [k] ∧ k ∉ A ∧ k ∉ C) : (A ++ (Y ++ C)).Nodup := by
  rcases hY with rfl | ⟨k, rfl, hA, hC⟩
  · exact h
  · obtain ⟨a, b, c⟩ := List.nodup_append.1 h
    obtain ⟨_, b2, _⟩ := List.nodup_append.1 b
    refine List.nodup_append.2 ⟨a, ?_, ?_⟩
    · exact List.nodup_cons.2 ⟨hC, b2⟩
    · intro x hx y hy e
      subst e
      rcases List.mem_cons.1 hy with rfl | hy
      · exact hA hx
      · exact c x hx x (List.mem_append_right _ hy) rfl

theorem ob_eq {v v' : Value} (h : v'.ownBlock = v.ownBlock) : ob v' = ob v := by unfold ob; rw [h]
theorem ob_some {v : Value} {k : Nat} (h : v.ownBlock = some k) : ob v = [k] := by unfold ob; rw [h]; rfl

/-- The same block, or a new one. -/
def At (w : World) (v v' : Value) : Prop := v'.ownBlock = v.ownBlock ∨ ∃ k, v'.ownBlock = some k ∧ w.heap.size ≤ k

theorem At.ne {w : World} {v v' : Value} (h : At w v v') {j : Nat} (hj : j < w.heap.size) (hv : v.ownBlock ≠ some j) : v'.ownBlock ≠ some j := by
  rcases h with h | ⟨k, h, hk⟩
  · rw [h]; exact hv
  · rw [h]; intro e; injection e; omega
theorem At.sub {w : World} {v v' : Value} (h : At w v v') {k : Nat} (hk : v'.ownBlock = some k) : v.ownBlock = some k ∨ w.heap.size ≤ k := by
  rcases h with h | ⟨j, h, hj⟩
  · exact .inl (h ▸ hk)
  · rw [h] at hk; injection hk with hk; subst hk; exact .inr hj

/-- One piece more. -/
theorem Rep.morePieces {w w1 : World} {B b : Nat} {d : Ds} {v' : Value} {L : List Pc} (h : Rep w B b d) (ho : w1.ownsRow B 96 2 v' L.length (L.flatMap Pc.cells)) (hat : At w d.vp v') (hg : w.grownBy w1 d.vp.ownBlock) :
    Rep (w1.setCell ⟨b, 1, none⟩ v') B b { d with pieces := L, vp := v' } ∧ Step (d.foot b) (Ds.foot b { d with pieces := L, vp := v' }) w (w1.setCell ⟨b, 1, none⟩ v') := by
  have hblk : w1.heap[b]? = some (.cells d.cells 68 (0, 0)) := (hg.block b h.b_lt (fun e => h.b_vp e.symm rfl)).trans h.blk
  have keep : ∀ k, k < w.heap.size → k ≠ b → d.vp.ownBlock ≠ some k → (w1.setCell ⟨b, 1, none⟩ v').heap[k]? = w.heap[k]? := fun k hk hb hp =>
    (Below.heap_setCell w1 ⟨b, 1, none⟩ v' k hb).trans (hg.block k hk (fun e => hp e.symm))
  have hlt := h.lt
  have hvb : ∀ k, v'.ownBlock = some k → k ≠ b := fun k hk e => hat.ne h.b_lt (fun e' => h.b_vp e' rfl) (e ▸ hk)
  have hnd : (Ds.foot b { d with pieces := L, vp := v' }).Nodup := by
    have h0 : (([b] ++ ob d.vf) ++ (ob d.vp ++ d.files.flatMap fun f => ob f.v)).Nodup := by have := h.nodup; rwa [show d.foot b = ([b] ++ ob d.vf) ++ (ob d.vp ++ d.files.flatMap fun f => ob f.v) by simp [Ds.foot]] at this
    have : (([b] ++ ob d.vf) ++ (ob v' ++ d.files.flatMap fun f => ob f.v)).Nodup := by
      refine nodup_swap h0 ?_
      rcases hat with e | ⟨k, e, hk⟩
      · exact .inl (ob_eq e)
      · refine .inr ⟨k, ob_some e, fun hm => ?_, fun hm => ?_⟩
        · have : k ∈ d.foot b := by
            rcases List.mem_append.1 hm with hm | hm
            · rw [List.mem_singleton.1 hm]; exact foot_b
            · exact foot_vf (mem_ob.1 hm)
          have := (hlt k this).2
          omega
        · obtain ⟨f, hf, hm⟩ := List.mem_flatMap.1 hm
          have := (hlt k (foot_f hf (mem_ob.1 hm))).2
          omega
    rw [show Ds.foot b { d with pieces := L, vp := v' } = ([b] ++ ob d.vf) ++ (ob v' ++ d.files.flatMap fun f => ob f.v) by simp [Ds.foot]]
    exact this
  refine ⟨⟨h.ge, set_same hblk rfl, own_frame h.tab fun k hk => keep k (h.tab.lt k hk).2 (h.b_vf hk) (h.vf_vp hk), own_frame ho fun k hk => Below.heap_setCell w1 ⟨b, 1, none⟩ v' k (hvb k hk), fun f hf => own_frame (h.rows f hf) fun k hk => keep k ((h.rows f hf).lt k hk).2 (h.b_f hf hk) (fun e => h.vp_f hf e hk), hnd⟩, ?_⟩
  refine ⟨hg.os, hg.tape, hg.output, by simpa using hg.size, fun k hk hn => keep k hk (fun e => hn (e ▸ foot_b)) (fun e => hn (foot_vp e)), fun k hk => ?_⟩
  rcases foot_cases hk with rfl | hk | hk | ⟨f, hf, hk⟩
  · exact .inl foot_b
  · exact .inl (foot_vf hk)
  · rcases hat.sub hk with e | e
    · exact .inl (foot_vp e)
    · exact .inr e
  · exact .inl (foot_f hf hk)

theorem flat_setv : ∀ (l : List Fv) (i : Nat) (f g : Fv), l[i]? = some f → g.name = f.name → g.sure = f.sure → (l.set i g).flatMap Fv.cells = (l.flatMap Fv.cells).set (i * 3 + 1) g.v
  | [], i, f, g, h, _, _ => by simp at h
  | a :: r, 0, f, g, h, hn, hs => by
    simp at h
    subst h
    simp [List.flatMap_cons, Fv.cells, hn, hs]
  | a :: r, i + 1, f, g, h, hn, hs => by
    have ih := flat_setv r i f g (by simpa using h) hn hs
    simp only [List.set_cons_succ, List.flatMap_cons, ih]
    rw [show (i + 1) * 3 + 1 = (i * 3 + 1) + 3 by omega]
    simp [Fv.cells]
theorem flat_sets : ∀ (l : List Fv) (i : Nat) (f g : Fv), l[i]? = some f → g.name = f.name → g.v = f.v → (l.set i g).flatMap Fv.cells = (l.flatMap Fv.cells).set (i * 3 + 2) (.int .i64 (g.sure : Int))
  | [], i, f, g, h, _, _ => by simp at h
  | a :: r, 0, f, g, h, hn, hs => by
    simp at h
    subst h
    simp [List.flatMap_cons, Fv.cells, hn, hs]
  | a :: r, i + 1, f, g, h, hn, hs => by
    have ih := flat_sets r i f g (by simpa using h) hn hs
    simp only [List.set_cons_succ, List.flatMap_cons, ih]
    rw [show (i + 1) * 3 + 2 = (i * 3 + 2) + 3 by omega]
    simp [Fv.cells]

theorem split_at {α : Type} {l : List α} {i : Nat} {f : α} (h : l[i]? = some f) (f' : α) : ∃ A C, l = A ++ f :: C ∧ l.set i f' = A ++ f' :: C ∧ A.length = i := by
  have hi := (List.getElem?_eq_some_iff.1 h).1
  have he := (List.getElem?_eq_some_iff.1 h).2
  refine ⟨l.take i, l.drop (i + 1), ?_, ?_, by rw [List.length_take]; omega⟩
  · have e := List.drop_eq_getElem_cons hi
    rw [he] at e
    rw [← e, List.take_append_drop]
  · rw [List.set_eq_take_append_cons_drop, if_pos hi]

/-- A file's bytes are others, in the same block or in a new one. -/
theorem Rep.growFile {w w1 : World} {B b g i : Nat} {d : Ds} {f : Fv} {v' : Value} {bs : List UInt8} (h : Rep w B b d) (hf : d.files[i]? = some f) (hg : d.vf.ownBlock = some g)
    (ho : w1.ownsRow B 5 1 v' bs.length (bcells bs)) (hat : At w f.v v') (hgr : w.grownBy w1 f.v.ownBlock) :
    Rep (w1.setCell ⟨g, i * 3 + 1, none⟩ v') B b { d with files := d.files.set i ⟨f.name, bs, f.sure, v'⟩ } ∧ Step (d.foot b) (Ds.foot b { d with files := d.files.set i ⟨f.name, bs, f.sure, v'⟩ }) w (w1.setCell ⟨g, i * 3 + 1, none⟩ v') := by
  have hi : i < d.files.length := (List.getElem?_eq_some_iff.1 hf).1
  have hm : f ∈ d.files := List.mem_of_getElem? hf
  have hlt := h.lt
  have hgl := (h.tab.lt g hg).2
  have hgf : f.v.ownBlock ≠ some g := h.vf_f hm hg
  have keep : ∀ k, k < w.heap.size → k ≠ g → f.v.ownBlock ≠ some k → (w1.setCell ⟨g, i * 3 + 1, none⟩ v').heap[k]? = w.heap[k]? := fun k hk hn hp =>
    (Below.heap_setCell w1 ⟨g, i * 3 + 1, none⟩ v' k hn).trans (hgr.block k hk (fun e => hp e.symm))
  have htab : w1.ownsRow B 99 3 d.vf d.files.length (d.files.flatMap Fv.cells) := own_frame h.tab fun k hk => hgr.block k (h.tab.lt k hk).2 (fun e => by rw [hg] at hk; injection hk with hk; subst hk; exact hgf e.symm)
  have hset := own_set htab hg (i * 3 + 1) (by omega) v'
  rw [← flat_setv d.files i f ⟨f.name, bs, f.sure, v'⟩ hf rfl rfl] at hset
  obtain ⟨A, C, e1, e2, _⟩ := split_at hf (⟨f.name, bs, f.sure, v'⟩ : Fv)
  have hfoot : d.foot b = ([b] ++ ob d.vf ++ ob d.vp ++ A.flatMap (fun f => ob f.v)) ++ (ob f.v ++ C.flatMap fun f => ob f.v) := by
    unfold Ds.foot; rw [e1]; simp
  have hfoot' : Ds.foot b { d with files := d.files.set i ⟨f.name, bs, f.sure, v'⟩ } = ([b] ++ ob d.vf ++ ob d.vp ++ A.flatMap (fun f => ob f.v)) ++ (ob v' ++ C.flatMap fun f => ob f.v) := by
    unfold Ds.foot; simp only; rw [e2]; simp
  have hn0 := h.nodup
  rw [hfoot] at hn0
  have hAC : ∀ x, x ∈ A ∨ x ∈ C → ∀ k, x.v.ownBlock = some k → f.v.ownBlock ≠ some k := by
    intro x hx k hk hfk
    rcases hx with hx | hx
    · exact (List.nodup_append.1 hn0).2.2 k (List.mem_append_right _ (List.mem_flatMap.2 ⟨x, hx, mem_ob.2 hk⟩)) k (List.mem_append_left _ (mem_ob.2 hfk)) rfl
    · exact app_ne (List.nodup_append.1 hn0).2.1 (mem_ob.2 hfk) (List.mem_flatMap.2 ⟨x, hx, mem_ob.2 hk⟩)
  have hin : ∀ x, x ∈ A ∨ x ∈ C → x ∈ d.files := fun x hx => by
    rw [e1]
    rcases hx with hx | hx
    · exact List.mem_append_left _ hx
    · exact List.mem_append_right _ (List.mem_cons_of_mem _ hx)
  refine ⟨⟨h.ge, ?_, by simpa using hset, ?_, ?_, ?_⟩, ?_⟩
  · exact (keep b h.b_lt (fun e => h.b_vf hg e.symm) (fun e => h.b_f hm e rfl)).trans h.blk
  · exact own_frame h.pcs fun k hk => keep k (h.pcs.lt k hk).2 (fun e => h.vf_vp hg (e ▸ hk)) (fun e => h.vp_f hm hk e)
  · intro x hx
    simp only at hx
    rw [e2] at hx
    have : x = ⟨f.name, bs, f.sure, v'⟩ ∨ (x ∈ A ∨ x ∈ C) := by
      rcases List.mem_append.1 hx with hx | hx
      · exact .inr (.inl hx)
      · rcases List.mem_cons.1 hx with hx | hx
        · exact .inl hx
        · exact .inr (.inr hx)
    rcases this with rfl | hx
    · exact own_frame ho fun k hk => Below.heap_setCell w1 ⟨g, i * 3 + 1, none⟩ v' k (fun e => hat.ne hgl hgf (by rw [← show k = g from e]; exact hk))
    · exact own_frame (h.rows x (hin x hx)) fun k hk => keep k ((h.rows x (hin x hx)).lt k hk).2 (fun e => h.vf_f (hin x hx) hg (e ▸ hk)) (hAC x hx k hk)
  · rw [hfoot']
    refine nodup_swap hn0 ?_
    rcases hat with e | ⟨k, e, hk⟩
    · exact .inl (ob_eq e)
    · refine .inr ⟨k, ob_some e, fun hm => ?_, fun hm => ?_⟩
      · have : k ∈ d.foot b := by rw [hfoot]; exact List.mem_append_left _ hm
        have := (hlt k this).2
        omega
      · have : k ∈ d.foot b := by rw [hfoot]; exact List.mem_append_right _ (List.mem_append_right _ hm)
        have := (hlt k this).2
        omega
  · refine ⟨hgr.os, hgr.tape, hgr.output, by simpa using hgr.size, fun k hk hn => keep k hk (fun e => hn (foot_vf (e ▸ hg))) (fun e => hn (foot_f hm e)), fun k hk => ?_⟩
    rw [hfoot'] at hk
    rcases List.mem_append.1 hk with hk | hk
    · exact .inl (by rw [hfoot]; exact List.mem_append_left _ hk)
    · rcases List.mem_append.1 hk with hk | hk
      · rcases hat.sub (mem_ob.1 hk) with e | e
        · exact .inl (foot_f hm e)
        · exact .inr e
      · exact .inl (by rw [hfoot]; exact List.mem_append_right _ (List.mem_append_right _ hk))

theorem flatMap_middle {α β : Type} (g : α → List β) (A C : List α) (f : α) : ((A ++ f :: C).flatMap g).Perm (g f ++ (A ++ C).flatMap g) := by
  simp only [List.flatMap_append, List.flatMap_cons]
  rw [← List.append_assoc, ← List.append_assoc]
  exact List.perm_append_comm.append_right _

/-- A file is put at a place. -/
theorem Rep.insert {w w1 : World} {B b i : Nat} {d : Ds} {f : Fv} {v' : Value} (h : Rep w B b d)
    (ho : w1.ownsRow B 99 3 v' (d.files.length + 1) ((d.files.take i ++ f :: d.files.drop i).flatMap Fv.cells)) (hat : At w d.vf v') (hgr : w.grownBy w1 d.vf.ownBlock) (hi : i ≤ d.files.length)
    (hrow : w.ownsRow B 5 1 f.v f.bytes.length (bcells f.bytes)) (hfr : ∀ k, f.v.ownBlock = some k → k ∉ d.foot b) :
    Rep (w1.setCell ⟨b, 0, none⟩ v') B b { d with files := d.files.take i ++ f :: d.files.drop i, vf := v' } ∧ Step (d.foot b ++ ob f.v) (Ds.foot b { d with files := d.files.take i ++ f :: d.files.drop i, vf := v' }) w (w1.setCell ⟨b, 0, none⟩ v') := by
  have hblk : w1.heap[b]? = some (.cells d.cells 68 (0, 0)) := (hgr.block b h.b_lt (fun e => h.b_vf e.symm rfl)).trans h.blk
  have keep : ∀ k, k < w.heap.size → k ≠ b → d.vf.ownBlock ≠ some k → (w1.setCell ⟨b, 0, none⟩ v').heap[k]? = w.heap[k]? := fun k hk hb hp =>
    (Below.heap_setCell w1 ⟨b, 0, none⟩ v' k hb).trans (hgr.block k hk (fun e => hp e.symm))
  have hlt := h.lt
  have hvb : ∀ k, v'.ownBlock = some k → k ≠ b := fun k hk e => hat.ne h.b_lt (fun e' => h.b_vf e' rfl) (e ▸ hk)
  have hmem : ∀ x, x ∈ d.files.take i ++ f :: d.files.drop i → x = f ∨ x ∈ d.files := fun x hx => by
    rcases List.mem_append.1 hx with hx | hx
    · exact .inr (List.mem_of_mem_take hx)
    · rcases List.mem_cons.1 hx with hx | hx
      · exact .inl hx
      · exact .inr (List.mem_of_mem_drop hx)
  have hnd : (Ds.foot b { d with files := d.files.take i ++ f :: d.files.drop i, vf := v' }).Nodup := by
    have h0 : ([b] ++ (ob d.vf ++ (ob d.vp ++ d.files.flatMap fun f => ob f.v))).Nodup := h.nodup
    have h1 : ([b] ++ (ob v' ++ (ob d.vp ++ d.files.flatMap fun f => ob f.v))).Nodup := by
      refine nodup_swap h0 ?_
      rcases hat with e | ⟨k, e, hk⟩
      · exact .inl (ob_eq e)
      · refine .inr ⟨k, ob_some e, fun hm => ?_, fun hm => ?_⟩
        · have := (hlt k (by rw [List.mem_singleton.1 hm]; exact foot_b)).2
          omega
        · have := (hlt k (List.mem_cons_of_mem _ (List.mem_append_right _ hm))).2
          omega
    have hp : (Ds.foot b { d with files := d.files.take i ++ f :: d.files.drop i, vf := v' }).Perm (ob f.v ++ ([b] ++ (ob v' ++ (ob d.vp ++ d.files.flatMap fun f => ob f.v)))) := by
      have := flatMap_middle (fun f : Fv => ob f.v) (d.files.take i) (d.files.drop i) f
      rw [List.take_append_drop] at this
      unfold Ds.foot
      simp only
      rw [List.perm_iff_count]
      intro a
      have := this.count_eq a
      simp only [List.count_append, List.count_cons, List.count_nil] at this ⊢
      omega
    rw [hp.nodup_iff]
    cases hq : f.v.ownBlock with
    | none => unfold ob; rw [hq]; exact h1
    | some k =>
      rw [ob_some hq]
      refine List.nodup_cons.2 ⟨fun hm => ?_, h1⟩
      replace hm : k ∈ [b] ++ (ob v' ++ (ob d.vp ++ d.files.flatMap fun f => ob f.v)) := hm
      have hkf := hfr k hq
      have hkl := (hrow.lt k hq).2
      rcases List.mem_append.1 hm with hm | hm
      · rw [List.mem_singleton] at hm
        exact hkf (hm ▸ foot_b)
      · rcases List.mem_append.1 hm with hm | hm
        · exact hat.ne hkl (fun e => hkf (foot_vf e)) (mem_ob.1 hm)
        · exact hkf (List.mem_cons_of_mem _ (List.mem_append_right _ hm))
  refine ⟨⟨h.ge, set_same hblk rfl, ?_, own_frame h.pcs fun k hk => keep k (h.pcs.lt k hk).2 (h.b_vp hk) (fun e => h.vf_vp e hk), ?_, hnd⟩, ?_⟩
  · have e : (d.files.take i ++ f :: d.files.drop i).length = d.files.length + 1 := by rw [List.length_append, List.length_cons, List.length_take, List.length_drop]; omega
    simp only
    rw [e]
    exact own_frame ho fun k hk => Below.heap_setCell w1 ⟨b, 0, none⟩ v' k (hvb k hk)
  · intro x hx
    rcases hmem x hx with rfl | hx
    · exact own_frame hrow fun k hk => keep k (hrow.lt k hk).2 (fun e => hfr k hk (e ▸ foot_b)) (fun e => hfr k hk (foot_vf e))
    · exact own_frame (h.rows x hx) fun k hk => keep k ((h.rows x hx).lt k hk).2 (h.b_f hx hk) (fun e => h.vf_f hx e hk)
  · refine ⟨hgr.os, hgr.tape, hgr.output, by simpa using hgr.size, fun k hk hn => keep k hk (fun e => hn (List.mem_append_left _ (e ▸ foot_b))) (fun e => hn (List.mem_append_left _ (foot_vf e))), fun k hk => ?_⟩
    rcases foot_cases hk with rfl | hk | hk | ⟨x, hx, hkx⟩
    · exact .inl (List.mem_append_left _ foot_b)
    · rcases hat.sub hk with e | e
      · exact .inl (List.mem_append_left _ (foot_vf e))
      · exact .inr e
    · exact .inl (List.mem_append_left _ (foot_vp hk))
    · rcases hmem x hx with e | hx
      · exact .inl (List.mem_append_right _ (mem_ob.2 (e ▸ hkx)))
      · exact .inl (List.mem_append_left _ (foot_f hx hkx))

theorem bcells_str (s : ByteArray) : Lib.strCells s = bcells s.data.toList := rfl
theorem bcells_app (a c : List UInt8) : bcells (a ++ c) = bcells a ++ bcells c := by simp [bcells]
theorem info5 : (Tryz.prog.info? 5).map (fun i => (i.zero, i.size, i.bytes)) = some (some (.int .u8 0), 1, 1) := by kernel_rfl

/-- Bytes of a text are put behind a row of bytes. -/
theorem append_str {w : World} {B : Nat} {v : Value} {l : List UInt8} (h : w.ownsRow B 5 1 v l.length (bcells l)) (s : ByteArray) (hl : l.length + s.size ≤ 1000000) (hB : B ≤ w.heap.size) (ty : TypeId) :
    ∃ v' w', (Builtin.append_ #[46, 9] ty #[v, .string s]).run Tryz.prog w = .ok v' w' ∧ w'.ownsRow B 5 1 v' (l ++ s.data.toList).length (bcells (l ++ s.data.toList)) ∧ w.grownBy w' v.ownBlock ∧ At w v v' := by
  obtain ⟨i0, hi0, hz0, hzs, hzb⟩ := info_parts info5
  obtain ⟨v', w', hr, h1, h2, h3⟩ := Lib.run_append_own_string w B 46 9 ty 5 i0 Tryz.underlying46 Tryz.underlying9 hi0 hz0 hzs hzb v l.length (bcells l) h s (by unfold maxLen; omega) (by omega) hB
  have hs : s.data.toList.length = s.size := by rw [Array.length_toList]; rfl
  refine ⟨v', w', hr, by rw [List.length_append, hs, bcells_app]; exact h1, h2, ?_⟩
  have hxl := bcells_len l
  rcases h.2 with ⟨rfl, h0⟩ | ⟨g, cap, cur, rfl, hbg, hg, hnc, hcm, hcs, htake⟩
  · by_cases hm : s.size = 0
    · rw [h3.2 ⟨rfl, hm⟩]
      exact .inl rfl
    · have hr2 := run_append_nil_string (P := Tryz.prog) w 46 9 ty 5 i0 (.int .u8 0) Tryz.underlying46 Tryz.underlying9 hi0 hz0 s (by omega) (by omega) (by rw [hzb]; omega)
      rw [hr2] at hr
      injection hr with e1 e2
      exact .inr ⟨w.heap.size, by rw [← e1]; rfl, Nat.le_refl _⟩
  · by_cases hroom : l.length + s.size ≤ cap
    · have hr2 := Lib.run_append_room_string (P := Tryz.prog) w 46 9 ty 5 i0 Tryz.underlying46 Tryz.underlying9 hi0 hzs g l.length cap cur hg s hroom (by omega)
      rw [hr2] at hr
      injection hr with e1 e2
      exact .inl (by rw [← e1]; rfl)
    · have holds : ∀ j u, (bcells l)[j]? = some u → w.cell? ((⟨g, 0, none⟩ : Addr).add j) = some u := h.cells (g := g) rfl
      have hr2 := Lib.run_append_grow_string (P := Tryz.prog) w 46 9 ty 5 i0 (.int .u8 0) Tryz.underlying46 Tryz.underlying9 hi0 hz0 ⟨g, 0, none⟩ l.length cap (bcells l) (by rw [hzs]; omega) holds s (by omega) (by omega) (by rw [hzb]; exact growslice_fits (by omega) (by omega))
      rw [hr2] at hr
      injection hr with e1 e2
      exact .inr ⟨w.heap.size, by rw [← e1]; rfl, Nat.le_refl _⟩
end Go.Proofs.YtajjcfacbnicnaaGreatDoor.Dk

/-
  A region whose order is left open, whose operations only read and whose callees may make memory of their own: one walk, in the order of the text, serves every order.
-/
namespace Go.Proofs.YtajjcfacbnicnaaGreatDoor.Dk
open Go.RowKit
set_option maxRecDepth 100000

/-- A world that has come of w: what lay in w is as it was. -/
structure Later (w : World) where
  u : World
  bel : Below w.heap.size w u

theorem later_some (w : World) : Nonempty (Later w) := ⟨⟨w, Below.refl _ _⟩⟩

theorem wp_region_later {P : Program} {id : Nat} {Q : Exit → Act → World → Prop} {a : Act} {w : World} {l : List Oper} (hm : P.follows .mixedOrders = true) (hB : Region.lexB .any l.toArray = true)
    (h : wpQuiet P l.toArray (fun w' => ∃ q : Later w, w' = q.u) (fun a' => ∀ w', (∃ q : Later w, w' = q.u) → Q .normal a' w') l a) : (Code.region id l.toArray true).wp P Q a w :=
  wp_region_quiet (C := fun w' => ∃ q : Later w, w' = q.u) hm hB ⟨⟨_, (Below.refl _ _).drew⟩, rfl⟩ (by simpa using h)

theorem calls_later {P : Program} {f : FuncId} {args : Array Value} {w : World} {q : Later w} {v : Value} (h : Calls P f args q.u fun e w' => e = .returned v ∧ Below q.u.heap.size q.u w') :
    Calls P f args q.u fun e w' => e = .returned v ∧ ∃ p : Later w, w' = p.u :=
  h.mono fun _ w' ⟨he, hb⟩ => ⟨he, ⟨w', q.bel.trans (hb.mono q.bel.size)⟩, rfl⟩
end Go.Proofs.YtajjcfacbnicnaaGreatDoor.Dk

/-
  Append, step by step: what each of its steps leaves.
-/
namespace Go.Proofs.YtajjcfacbnicnaaGreatDoor.Dk
open Go.RowKit
set_option maxRecDepth 100000

theorem Step.weak {a a' c : List Nat} {u w : World} (h : Step a c u w) (hs : ∀ k ∈ a, k ∈ a' ∨ u.heap.size ≤ k) : Step a' c u w where
  os := h.os
  tape := h.tape
  output := h.output
  size := h.size
  block := fun k hk hn => h.block k hk (fun hm => by
    rcases hs k hm with e | e
    · exact hn e
    · omega)
  sub := fun k hk => by
    rcases h.sub k hk with e | e
    · exact hs k e
    · exact .inr e

theorem own_slice {w : World} {base : Nat} {e : TypeId} {size : Nat} {v : Value} {n : Nat} {xs : List Value} (h : w.ownsRow base e size v n xs) : ∃ a cap, v = .slice a n cap := own_any h

theorem insert_rep {u : World} {B b i : Nat} {d : Ds} {f : Fv} (h : Rep u B b d) (hll : d.files.length ≤ 1000) (hi : i ≤ d.files.length) (hrow : u.ownsRow B 5 1 f.v f.bytes.length (bcells f.bytes)) (hfr : ∀ k, f.v.ownBlock = some k → k ∉ d.foot b) :
    Calls Tryz.prog 75 #[d.vf, .int .i64 (i : Int), .slice (some ⟨u.heap.size, 0, none⟩) 1 1] (u.alloc (.cells #[.string f.name, f.v, .int .i64 (f.sure : Int)] 99)) fun e w' => ∃ a c, e = .returned (.slice a (d.files.length + 1) c) ∧ w'.cell? ⟨b, 0, none⟩ = some d.vf ∧ w'.frozen? ⟨b, 0, none⟩ = false ∧
      Rep (w'.setCell ⟨b, 0, none⟩ (.slice a (d.files.length + 1) c)) B b { d with files := d.files.take i ++ f :: d.files.drop i, vf := .slice a (d.files.length + 1) c } ∧ Step (d.foot b ++ ob f.v) (Ds.foot b { d with files := d.files.take i ++ f :: d.files.drop i, vf := .slice a (d.files.length + 1) c }) u (w'.setCell ⟨b, 0, none⟩ (.slice a (d.files.length + 1) c)) := by
  have hb0 : Below u.heap.size u (u.alloc (.cells #[.string f.name, f.v, .int .i64 (f.sure : Int)] 99)) := (Below.refl _ _).alloc (Nat.le_refl _) _
  have h1 := h.below hb0
  have hB : B ≤ u.heap.size := by have := h.lt b foot_b; omega
  have hne : d.vf.ownBlock ≠ some u.heap.size := fun e => by have := (h.tab.lt _ e).2; omega
  refine (insert_any B u.heap.size i d.vf d.files f _ h1.tab hi hll (by simp; omega) (heap_alloc_new u _) hne (own_one hrow) h1.one).mono ?_
  rintro e w' ⟨v', rfl, ho, hat, hg⟩
  obtain ⟨a, c, rfl⟩ := own_any ho
  have hat' : At (u.alloc (.cells #[.string f.name, f.v, .int .i64 (f.sure : Int)] 99)) d.vf (.slice a (d.files.length + 1) c) := by
    rcases hat with e | e
    · exact .inl e
    · exact .inr ⟨_, e, Nat.le_refl _⟩
  have hrow1 := own_frame (w' := u.alloc (.cells #[.string f.name, f.v, .int .i64 (f.sure : Int)] 99)) hrow (fun k hk => alloc_old u _ k (hrow.lt k hk).2)
  have := h1.insert ho hat' hg hi hrow1 hfr
  obtain ⟨x1, x2⟩ := h1.refiles_cell hg
  exact ⟨a, c, rfl, x1, x2, this.1, (Step.ofBelow hb0).trans this.2⟩

theorem info66 : (Tryz.prog.info? 96).map (fun i => (i.zero, i.size, i.bytes)) = some (some (.agg #[.string ⟨#[]⟩, .int .i64 0]), 2, 24) := by kernel_rfl

theorem pieces_rep {u : World} {B b : Nat} {d : Ds} (h : Rep u B b d) (hl : d.pieces.length ≤ 100000) (p : Pc) : ∃ a c w', (Builtin.append_ #[66, 66] 66 #[d.vp, .slice (some ⟨u.heap.size, 0, none⟩) 1 1]).run Tryz.prog (u.alloc (.cells #[.string p.name, .int .i64 (p.size : Int)] 96)) = .ok (.slice a (d.pieces.length + 1) c) w' ∧ w'.cell? ⟨b, 1, none⟩ = some d.vp ∧ w'.frozen? ⟨b, 1, none⟩ = false ∧
      Rep (w'.setCell ⟨b, 1, none⟩ (.slice a (d.pieces.length + 1) c)) B b { d with pieces := d.pieces ++ [p], vp := .slice a (d.pieces.length + 1) c } ∧ Step (d.foot b) (Ds.foot b { d with pieces := d.pieces ++ [p], vp := .slice a (d.pieces.length + 1) c }) u (w'.setCell ⟨b, 1, none⟩ (.slice a (d.pieces.length + 1) c)) := by
  obtain ⟨i0, hi0, hz0, hzs, hzb⟩ := info_parts info66
  have hb0 : Below u.heap.size u (u.alloc (.cells #[.string p.name, .int .i64 (p.size : Int)] 96)) := (Below.refl _ _).alloc (Nat.le_refl _) _
  have h1 := h.below hb0
  have hB : B ≤ u.heap.size := by have := h.lt b foot_b; omega
  obtain ⟨v', w', hr, ho, hg, _, hat⟩ := run_append_own_at (P := Tryz.prog) (u.alloc (.cells #[.string p.name, .int .i64 (p.size : Int)] 96)) B 66 66 96 i0 (.agg #[.string ⟨#[]⟩, .int .i64 0]) 2 24 Tryz.underlying66 hi0 hz0 hzs hzb rfl (by omega) d.vp d.pieces.length (d.pieces.flatMap Pc.cells) h1.pcs ⟨u.heap.size, 0, none⟩ 1 1 p.cells rfl (fun j v hj => by
      rw [Addr.add_lit, Nat.zero_add, cell_of_row _ u.heap.size j _ _ _ (heap_alloc_new u _), ← hj, ← Array.getElem?_toList]
      rfl) (by simp [Pc.cells, Value.oneCell']) (by unfold maxLen; omega) (by omega) (by simp; omega)
  obtain ⟨a, c, rfl⟩ := own_any ho
  have hat' : At (u.alloc (.cells #[.string p.name, .int .i64 (p.size : Int)] 96)) d.vp (.slice a (d.pieces.length + 1) c) := by
    rcases hat with e | e
    · exact .inl e
    · exact .inr ⟨_, e, Nat.le_refl _⟩
  have ho' : w'.ownsRow B 96 2 (.slice a (d.pieces.length + 1) c) (d.pieces ++ [p]).length ((d.pieces ++ [p]).flatMap Pc.cells) := by
    rw [List.length_append, List.flatMap_append, List.flatMap_cons, List.flatMap_nil, List.append_nil]
    exact ho
  have := h1.morePieces ho' hat' hg
  exact ⟨a, c, w', hr, h1.repieces_cell hg, h1.repieces_fz hg, this.1, (Step.ofBelow hb0).trans this.2⟩

theorem bytes_rep {u : World} {B b g i : Nat} {d : Ds} {f : Fv} (h : Rep u B b d) (hf : d.files[i]? = some f) (hg : d.vf.ownBlock = some g) (s : ByteArray) (hl : f.bytes.length + s.size ≤ 1000000) : ∃ a c w', (Builtin.append_ #[46, 9] 46 #[f.v, .string s]).run Tryz.prog u = .ok (.slice a (f.bytes.length + s.size) c) w' ∧ w'.cell? ⟨b, 0, none⟩ = some d.vf ∧ w'.cell? ⟨g, i * 3 + 1, none⟩ = some f.v ∧ w'.frozen? ⟨g, i * 3 + 1, none⟩ = false ∧
      Rep (w'.setCell ⟨g, i * 3 + 1, none⟩ (.slice a (f.bytes.length + s.size) c)) B b { d with files := d.files.set i ⟨f.name, f.bytes ++ s.data.toList, f.sure, .slice a (f.bytes.length + s.size) c⟩ } ∧ Step (d.foot b) (Ds.foot b { d with files := d.files.set i ⟨f.name, f.bytes ++ s.data.toList, f.sure, .slice a (f.bytes.length + s.size) c⟩ }) u (w'.setCell ⟨g, i * 3 + 1, none⟩ (.slice a (f.bytes.length + s.size) c)) := by
  have hm : f ∈ d.files := List.mem_of_getElem? hf
  have hB : B ≤ u.heap.size := by have := h.lt b foot_b; omega
  obtain ⟨v', w', hr, ho, hgr, hat⟩ := append_str (h.rows f hm) s hl hB 46
  have hs : (f.bytes ++ s.data.toList).length = f.bytes.length + s.size := by rw [List.length_append, Array.length_toList]; rfl
  obtain ⟨a, c, rfl⟩ := own_any ho
  rw [hs] at hr ho hat
  rw [← hs] at ho
  rw [← hs] at hr hat ⊢
  have := h.growFile hf hg ho hat hgr
  refine ⟨a, c, w', hr, ?_, ?_, ?_, this.1, this.2⟩
  · exact hgr.cell h.c0 (fun e => h.b_f hm e.symm rfl)
  · exact hgr.cell (h.fcells hf hg).2.1 (fun e => h.vf_f hm hg e.symm)
  · have htab : w'.ownsRow B 99 3 d.vf d.files.length (d.files.flatMap Fv.cells) := own_frame h.tab fun k hk => hgr.block k (h.tab.lt k hk).2 (fun e => by rw [hg] at hk; injection hk with hk; subst hk; exact h.vf_f hm hg e.symm)
    exact own_frozen htab hg _

def St.more (s : St) (i : Nat) (n x : ByteArray) : St := match s.files[i]? with
  | some f => { s with files := s.files.set i ⟨f.name, f.bytes ++ x.data.toList, f.sure⟩, pieces := s.pieces ++ [⟨n, x.size⟩] }
  | none => s
def St.make (s : St) (n : ByteArray) : St := if has s.names n then s else { s with files := s.files.take (place s.names n) ++ ⟨n, [], 0⟩ :: s.files.drop (place s.names n) }
def St.full (s : St) (n x : ByteArray) : Bool := (!has s.names n && decide (s.files.length = 16)) || decide (s.room < s.total + x.size)
def opAppend (s : St) (n x : ByteArray) : Int × St :=
  if s.power then if mayBe n then if s.full n x then (2, s.spent) else (0, if x.size = 0 then s.spent.make n else (s.spent.make n).more (place s.names n) n x) else (1, s.spent) else (12, s.spent)
end Go.Proofs.YtajjcfacbnicnaaGreatDoor.Dk
