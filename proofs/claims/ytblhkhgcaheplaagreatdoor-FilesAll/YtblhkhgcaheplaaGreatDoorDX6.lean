/-
  A file is dropped; Remove.
-/
import Derived.Test.YtblhkhgcaheplaaGreatDoorDX5
namespace Go.Proofs.YtblhkhgcaheplaaGreatDoor.Dk
open Go.RowKit
set_option maxRecDepth 100000

theorem Rep.one {w : World} {B b : Nat} {d : Ds} (h : Rep w B b d) : ∀ x ∈ d.files, x.v.oneCell' = true := fun x hx => own_one (h.rows x hx)

theorem sub_flatMap {α β : Type} (g : α → List β) : ∀ {l m : List α}, l.Sublist m → (l.flatMap g).Sublist (m.flatMap g)
  | _, _, .slnil => .slnil
  | _, _, .cons a h => by rw [List.flatMap_cons]; exact (sub_flatMap g h).trans (List.sublist_append_right _ _)
  | _, _, .cons_cons a h => by rw [List.flatMap_cons, List.flatMap_cons]; exact (sub_flatMap g h).append_left _

theorem foot_sub {b : Nat} {d : Ds} {L : List Fv} {v' v'' : Value} {P : List Pc} (hL : L.Sublist d.files) (hv : v'.ownBlock = d.vf.ownBlock) (hp : v''.ownBlock = d.vp.ownBlock) : (Ds.foot b { d with files := L, pieces := P, vf := v', vp := v'' }).Sublist (d.foot b) := by
  unfold Ds.foot ob
  simp only
  rw [hv, hp]
  exact (((sub_flatMap _ hL).append_left _).append_left _).cons_cons _

/-- The table is another one, of files that were there. -/
theorem Rep.refiles {w w1 : World} {B b : Nat} {d : Ds} {v' : Value} {L : List Fv} (h : Rep w B b d) (hL : L.Sublist d.files) (ho : w1.ownsRow B 52 3 v' L.length (L.flatMap Fv.cells)) (hv : v'.ownBlock = d.vf.ownBlock) (hg : w.grownBy w1 d.vf.ownBlock) :
    Rep (w1.setCell ⟨b, 0, none⟩ v') B b { d with files := L, vf := v' } ∧ (∀ k, k < w.heap.size → k ≠ b → d.vf.ownBlock ≠ some k → (w1.setCell ⟨b, 0, none⟩ v').heap[k]? = w.heap[k]?) := by
  have hblk : w1.heap[b]? = some (.cells d.cells 44 (0, 0)) := (hg.block b h.b_lt (fun e => h.b_vf e.symm rfl)).trans h.blk
  have keep : ∀ k, k < w.heap.size → k ≠ b → d.vf.ownBlock ≠ some k → (w1.setCell ⟨b, 0, none⟩ v').heap[k]? = w.heap[k]? := fun k hk hb hp =>
    (Below.heap_setCell w1 ⟨b, 0, none⟩ v' k hb).trans (hg.block k hk (fun e => hp e.symm))
  refine ⟨⟨h.ge, set_same hblk rfl, own_frame ho fun k hk => Below.heap_setCell w1 ⟨b, 0, none⟩ v' k (h.b_vf (hv ▸ hk)), own_frame h.pcs fun k hk => keep k (h.pcs.lt k hk).2 (h.b_vp hk) (fun e => h.vf_vp e hk), fun f hf => own_frame (h.rows f (hL.subset hf)) fun k hk => keep k ((h.rows f (hL.subset hf)).lt k hk).2 (h.b_f (hL.subset hf) hk) (fun e => h.vf_f (hL.subset hf) e hk), ?_⟩, keep⟩
  exact h.nodup.sublist (foot_sub (P := d.pieces) hL hv rfl)

theorem Rep.refiles_cell {w w1 : World} {B b : Nat} {d : Ds} (h : Rep w B b d) (hg : w.grownBy w1 d.vf.ownBlock) : w1.cell? ⟨b, 0, none⟩ = some d.vf ∧ w1.frozen? ⟨b, 0, none⟩ = false := by
  have hblk : w1.heap[b]? = some (.cells d.cells 44 (0, 0)) := (hg.block b h.b_lt (fun e => h.b_vf e.symm rfl)).trans h.blk
  exact ⟨by rw [cell_of_row w1 b 0 _ _ _ hblk]; rfl, frozen_of_row w1 b 0 _ _ hblk⟩

set_option maxHeartbeats 800000 in
theorem drop_any {w : World} {B b i : Nat} {d : Ds} {f : Fv} (h : Rep w B b d) (hl : d.pieces.length ≤ 100000) (hll : d.files.length ≤ 1000) (hf : d.files[i]? = some f) :
    Calls Tryz.prog 40 #[.pointer (some ⟨b, 0, none⟩), .int .i64 (i : Int)] w fun e w' => e = .returned (.tuple #[]) ∧ ∃ v' v'', v'.ownBlock = d.vf.ownBlock ∧ v''.ownBlock = d.vp.ownBlock ∧
      Rep w' B b { d with files := d.files.eraseIdx i, pieces := keepOf f.name d.pieces, vf := v', vp := v'' } ∧ Step (d.foot b) (Ds.foot b { d with files := d.files.eraseIdx i, pieces := keepOf f.name d.pieces, vf := v', vp := v'' }) w w' ∧ (∀ k, k < w.heap.size → k ≠ b → d.vf.ownBlock ≠ some k → d.vp.ownBlock ≠ some k → w'.heap[k]? = w.heap[k]?) := by
  have hi : i < d.files.length := (List.getElem?_eq_some_iff.1 hf).1
  obtain ⟨g, cap, ev, hcap, hcm, hg⟩ := h.vf_form hf
  obtain ⟨e0, e1, e2⟩ := h.fcells hf hg
  have c0 := h.c0
  have hci : i < cap := by omega
  have kf := forget_any2 h hl f.name
  have kd : Aside (∀ (v'' : Value) (u : World), Rep u B b { d with pieces := keepOf f.name d.pieces, vp := v'' } → _) := fun (v'' : Value) (u : World) hu => by
    have ht := hu.tab
    simp only at ht
    rw [ev] at ht
    exact delete_any B g cap i d.files u ht hi hll hu.one
  have HC : Aside (∀ (v'' : Value) (u : World), Rep u B b { d with pieces := keepOf f.name d.pieces, vp := v'' } → u.cell? ⟨b, 0, none⟩ = some (.slice (some ⟨g, 0, none⟩) d.files.length cap)) := fun v'' u hu => by rw [← ev]; exact hu.c0
  have HF : Aside (∀ (v'' : Value) (u u1 : World), Rep u B b { d with pieces := keepOf f.name d.pieces, vp := v'' } → u.grownBy u1 (some g) → u1.cell? ⟨b, 0, none⟩ = some (.slice (some ⟨g, 0, none⟩) d.files.length cap) ∧ u1.frozen? ⟨b, 0, none⟩ = false) := fun v'' u u1 hu hgr => by
    have := hu.refiles_cell (w1 := u1) (by simp only; rw [hg]; exact hgr)
    rw [← ev]
    exact this
  have EV : Aside (d.vf = .slice (some ⟨g, 0, none⟩) d.files.length cap ∧ d.vf.ownBlock = some g) := ⟨ev, hg⟩
  rw [ev] at c0
  clear h hf ev hg
  have hw1 : IntKind.i64.wrap ((i : Int) + 1) = (i : Int) + 1 := by rw [IntKind.wrap_i64]; omega
  go_enter Tryz.func40, Tryz.ntmps40
  go_wp2_with (first
    | (go_at_call 58; refine kf.mono ?_; rintro e w1 ⟨rfl, v'', hv'', hr1, s1, k1⟩; have x0 := HC.out _ _ hr1)
    | (go_at_call 59; refine (kd.out _ _ hr1).mono ?_; rintro e w2 ⟨v', rfl, ho, hv', hgr⟩; obtain ⟨x1, x2⟩ := HF.out _ _ _ hr1 hgr; obtain ⟨a', cap', rfl⟩ := own_any ho))
  go_end0
  obtain ⟨ev, hg⟩ := EV.out
  have := hr1.refiles (L := d.files.eraseIdx i) (List.eraseIdx_sublist _ _) ho (by rw [hv']; exact hg.symm) (by show w1.grownBy w2 d.vf.ownBlock; rw [hg]; exact hgr)
  refine ⟨rfl, _, v'', hv'.trans hg.symm, hv'', this.1, ?_, ?_⟩
  · refine ⟨hgr.os.trans s1.os, hgr.tape.trans s1.tape, hgr.output.trans s1.output, ?_, ?_, ?_⟩
    · have := hgr.size
      have := s1.size
      simp
      omega
    · intro k hk hn
      have hk1 : k < w1.heap.size := by have := s1.size; omega
      exact (this.2 k hk1 (fun e => hn (e ▸ foot_b)) (fun e => hn (foot_vf e))).trans (s1.block k hk hn)
    · intro k hk
      exact .inl ((foot_sub (d := d) (List.eraseIdx_sublist _ _) (hv'.trans hg.symm) hv'').subset hk)
  · intro k hk hb hvf hvp
    have hk1 : k < w1.heap.size := by have := s1.size; omega
    exact (this.2 k hk1 hb hvf).trans (k1 k hk hb hvp)

theorem pl_drop {d : Ds} {i : Nat} {f : Fv} {v' v'' : Value} (hf : d.files[i]? = some f) : Ds.pl { d with files := d.files.eraseIdx i, pieces := keepOf f.name d.pieces, vf := v', vp := v'' } = d.pl.drop i := by
  unfold St.drop
  rw [pl_get hf]
  simp only [Ds.pl, List.eraseIdx_eq_take_drop_succ, List.map_append, List.map_take, List.map_drop]
  rfl

theorem Ok.dpieces {d : Ds} (h : Ok d.pl) : d.pieces.length ≤ 100000 := Nat.le_trans h.pieces (by omega)

set_option maxHeartbeats 800000 in
theorem remove_any {w : World} {B b : Nat} {d : Ds} (h : Rep w B b d) (ok : Ok d.pl) (n : ByteArray) :
    Calls Tryz.prog 25 #[.pointer (some ⟨b, 0, none⟩), .string n] w fun e w' => e = .returned (.int .i64 (opRemove d.pl n).1) ∧ ∃ d', Rep w' B b d' ∧ d'.pl = (opRemove d.pl n).2 ∧ Step (d.foot b) (d'.foot b) w w' := by
  have ko := open_any h ok.fuse ok.rise (by have := ok.dfew; omega) n
  unfold opRemove
  rw [power_pl, names_pl]
  cases hp : d.power with
  | false =>
    rw [hp] at ko
    simp only [Bool.false_and, Bool.false_eq_true, if_false] at ko ⊢
    clear h
    go_enter Tryz.func25, Tryz.ntmps25
    go_wp2_with (go_at_call 39; refine ko.mono ?_; rintro e w1 ⟨rfl, h1, s1⟩)
    go_ret
    exact ⟨rfl, d.spent, h1, rfl, s1⟩
  | true =>
    cases hh : has d.names n with
    | false =>
      rw [hp, hh] at ko
      simp only [Bool.and_false, Bool.false_eq_true, if_false, if_true] at ko ⊢
      clear h
      go_enter Tryz.func25, Tryz.ntmps25
      go_wp2_with (go_at_call 39; refine ko.mono ?_; rintro e w1 ⟨rfl, h1, s1⟩)
      go_ret
      exact ⟨rfl, d.spent, h1, rfl, s1⟩
    | true =>
      rw [hp, hh] at ko
      simp only [Bool.and_true, if_true] at ko ⊢
      obtain ⟨f, hf, hfn, hfm⟩ := dhas_get ok.rise hh
      generalize hi : place d.names n = i at *
      have hfew := ok.dfew
      have hpc := ok.dpieces
      have ks : Aside (∀ u : World, Rep u B b d.spent → _) := fun (u : World) hu => drop_any (d := d.spent) hu hpc (by show d.files.length ≤ _; omega) hf
      have HF : Aside (d.files[i]? = some f) := hf
      clear h hfn hfm hf hi
      go_enter Tryz.func25, Tryz.ntmps25
      go_wp2_with (first
        | (go_at_call 39; refine ko.mono ?_; rintro e w1 ⟨rfl, h1, s1⟩)
        | (go_at_call 40; refine (ks.out _ h1).mono ?_; rintro e w2 ⟨rfl, v', v'', hv, hv2, h2, s2, _⟩))
      go_ret
      exact ⟨rfl, _, h2, pl_drop (d := d.spent) HF.out, s1.trans s2⟩
end Go.Proofs.YtblhkhgcaheplaaGreatDoor.Dk
