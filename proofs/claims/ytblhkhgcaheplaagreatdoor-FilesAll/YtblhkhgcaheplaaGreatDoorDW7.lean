/-
  A file's pieces are forgotten.
-/
import Derived.Test.YtblhkhgcaheplaaGreatDoorDW6
namespace Go.Proofs.YtblhkhgcaheplaaGreatDoor.Dk
open Go.RowKit
set_option maxRecDepth 100000

def keepOf (n : ByteArray) (l : List Pc) : List Pc := l.filter fun p => !isOf n p

theorem deleteFunc_any (B bx : Nat) (v : Value) (l : List Pc) (n : ByteArray) (w : World) (h : w.ownsRow B 54 2 v l.length (l.flatMap Pc.cells)) (hl : l.length ≤ 100000) (hx : w.cell? ⟨bx, 0, none⟩ = some (.string n)) (hne : v.ownBlock ≠ some bx) :
    Calls Tryz.prog 75 #[v, .func (.func 76) #[] #[.pointer (some ⟨bx, 0, none⟩)]] w fun e w' => ∃ v', e = .returned v' ∧ w'.ownsRow B 54 2 v' (keepOf n l).length ((keepOf n l).flatMap Pc.cells) ∧ v'.ownBlock = v.ownBlock ∧ w.grownBy w' v.ownBlock := by
  by_cases ha : l.any (isOf n) = true
  · have hlt : l.findIdx (isOf n) < l.length := by
      rw [List.findIdx_lt_length]
      simpa using ha
    obtain ⟨g, cap, rfl, _, _, _⟩ := own_form h (by omega)
    exact deleteFunc_hit B bx g cap (l.findIdx (isOf n)) l n w h hl hx (fun e => hne (by rw [e]; rfl)) (by rw [firstOf, if_pos ha]) hlt rfl
  · have ki := indexFunc_any B bx v l n w h hl hx
    have hk : keepOf n l = l := by
      unfold keepOf
      rw [List.filter_eq_self]
      intro x hx
      have := ha
      rw [List.any_eq_true] at this
      cases hq : isOf n x with
      | false => rfl
      | true => exact absurd ⟨x, hx, hq⟩ this
    rw [hk]
    rw [firstOf, if_neg ha] at ki
    have H : Aside (w.ownsRow B 54 2 v l.length (l.flatMap Pc.cells)) := h
    clear hk ha h hx hne
    go_enter Tryz.func75, Tryz.ntmps75
    go_wp2_with (go_at_call 89; refine ki.mono ?_; rintro e w1 ⟨rfl, hb1⟩)
    go_ret
    exact ⟨_, rfl, own_frame H.out (fun k hk => hb1.block k (H.out.lt k hk).2), rfl, grown_below hb1⟩

theorem app_ne {α : Type} {l m : List α} (h : (l ++ m).Nodup) {x : α} (hx : x ∈ l) : x ∉ m := by
  intro hm
  have := (List.nodup_append.1 h).2.2 x hx x hm
  exact this rfl

theorem Rep.b_vf {w : World} {B b : Nat} {d : Ds} (h : Rep w B b d) {k : Nat} (hk : d.vf.ownBlock = some k) : k ≠ b := fun e =>
  (List.nodup_cons.1 h.nodup).1 (List.mem_append_left _ (mem_ob.2 (e ▸ hk)))
theorem Rep.b_vp {w : World} {B b : Nat} {d : Ds} (h : Rep w B b d) {k : Nat} (hk : d.vp.ownBlock = some k) : k ≠ b := fun e =>
  (List.nodup_cons.1 h.nodup).1 (List.mem_append_right _ (List.mem_append_left _ (mem_ob.2 (e ▸ hk))))
theorem Rep.b_f {w : World} {B b : Nat} {d : Ds} (h : Rep w B b d) {f : Fv} (hf : f ∈ d.files) {k : Nat} (hk : f.v.ownBlock = some k) : k ≠ b := fun e =>
  (List.nodup_cons.1 h.nodup).1 (List.mem_append_right _ (List.mem_append_right _ (List.mem_flatMap.2 ⟨f, hf, mem_ob.2 (e ▸ hk)⟩)))
theorem Rep.vf_vp {w : World} {B b : Nat} {d : Ds} (h : Rep w B b d) {k : Nat} (hk : d.vf.ownBlock = some k) : d.vp.ownBlock ≠ some k := fun e =>
  app_ne (List.nodup_cons.1 h.nodup).2 (mem_ob.2 hk) (List.mem_append_left _ (mem_ob.2 e))
theorem Rep.vf_f {w : World} {B b : Nat} {d : Ds} (h : Rep w B b d) {f : Fv} (hf : f ∈ d.files) {k : Nat} (hk : d.vf.ownBlock = some k) : f.v.ownBlock ≠ some k := fun e =>
  app_ne (List.nodup_cons.1 h.nodup).2 (mem_ob.2 hk) (List.mem_append_right _ (List.mem_flatMap.2 ⟨f, hf, mem_ob.2 e⟩))
theorem Rep.vp_f {w : World} {B b : Nat} {d : Ds} (h : Rep w B b d) {f : Fv} (hf : f ∈ d.files) {k : Nat} (hk : d.vp.ownBlock = some k) : f.v.ownBlock ≠ some k := fun e =>
  app_ne (List.nodup_append.1 (List.nodup_cons.1 h.nodup).2).2.1 (mem_ob.2 hk) (List.mem_flatMap.2 ⟨f, hf, mem_ob.2 e⟩)

theorem Rep.b_lt {w : World} {B b : Nat} {d : Ds} (h : Rep w B b d) : b < w.heap.size := (h.lt b foot_b).2

theorem Rep.repieces {w w1 : World} {B b : Nat} {d : Ds} {v' : Value} {L : List Pc} (h : Rep w B b d) (ho : w1.ownsRow B 54 2 v' L.length (L.flatMap Pc.cells)) (hv : v'.ownBlock = d.vp.ownBlock) (hg : w.grownBy w1 d.vp.ownBlock) :
    Rep (w1.setCell ⟨b, 1, none⟩ v') B b { d with pieces := L, vp := v' } ∧ Step (d.foot b) (d.foot b) w (w1.setCell ⟨b, 1, none⟩ v') := by
  have hfo : Ds.foot b { d with pieces := L, vp := v' } = d.foot b := by unfold Ds.foot ob; simp only; rw [hv]
  have hblk : w1.heap[b]? = some (.cells d.cells 44 (0, 0)) := (hg.block b h.b_lt (fun e => h.b_vp e.symm rfl)).trans h.blk
  have keep : ∀ k, k < w.heap.size → k ≠ b → d.vp.ownBlock ≠ some k → (w1.setCell ⟨b, 1, none⟩ v').heap[k]? = w.heap[k]? := fun k hk hb hp =>
    (Below.heap_setCell w1 ⟨b, 1, none⟩ v' k hb).trans (hg.block k hk (fun e => hp e.symm))
  refine ⟨⟨h.ge, set_same hblk rfl, own_frame h.tab fun k hk => keep k (h.tab.lt k hk).2 (h.b_vf hk) (h.vf_vp hk), own_frame ho fun k hk => Below.heap_setCell w1 ⟨b, 1, none⟩ v' k (h.b_vp (hv ▸ hk)), fun f hf => own_frame (h.rows f hf) fun k hk => keep k ((h.rows f hf).lt k hk).2 (h.b_f hf hk) (fun e => h.vp_f hf e hk), by rw [hfo]; exact h.nodup⟩, ?_⟩
  refine ⟨hg.os, hg.tape, hg.output, by simpa using hg.size, fun k hk hn => keep k hk (fun e => hn (e ▸ foot_b)) (fun e => hn (foot_vp e)), fun k hk => .inl hk⟩

theorem Rep.repieces_cell {w w1 : World} {B b : Nat} {d : Ds} (h : Rep w B b d) (hg : w.grownBy w1 d.vp.ownBlock) : w1.cell? ⟨b, 1, none⟩ = some d.vp := by
  rw [cell_of_row w1 b 1 _ _ _ ((hg.block b h.b_lt (fun e => h.b_vp e.symm rfl)).trans h.blk)]
  rfl
theorem Rep.repieces_fz {w w1 : World} {B b : Nat} {d : Ds} (h : Rep w B b d) (hg : w.grownBy w1 d.vp.ownBlock) : w1.frozen? ⟨b, 1, none⟩ = false :=
  frozen_of_row w1 b 1 _ _ ((hg.block b h.b_lt (fun e => h.b_vp e.symm rfl)).trans h.blk)

theorem forget_any {w : World} {B b : Nat} {d : Ds} (h : Rep w B b d) (hl : d.pieces.length ≤ 100000) (n : ByteArray) :
    Calls Tryz.prog 58 #[.pointer (some ⟨b, 0, none⟩), .string n] w fun e w' => e = .returned (.tuple #[]) ∧ ∃ v', v'.ownBlock = d.vp.ownBlock ∧ Rep w' B b { d with pieces := keepOf n d.pieces, vp := v' } ∧ Step (d.foot b) (d.foot b) w w' := by
  have hw : w.heap.size < (w.alloc (.cells #[.string n] 9)).heap.size := by simp
  have hb0 : Below w.heap.size w (w.alloc (.cells #[.string n] 9)) := (Below.refl _ _).alloc (Nat.le_refl _) _
  have h1 := h.below hb0
  have hne : d.vp.ownBlock ≠ some w.heap.size := fun e => by have := (h.pcs.lt _ e).2; omega
  have hx : (w.alloc (.cells #[.string n] 9)).cell? ⟨w.heap.size, 0, none⟩ = some (.string n) := by simp
  have c1 := h1.c1
  have kd := deleteFunc_any B w.heap.size d.vp d.pieces n _ h1.pcs hl hx hne
  have H1 : Aside (Rep (w.alloc (.cells #[.string n] 9)) B b d ∧ Step (d.foot b) (d.foot b) w (w.alloc (.cells #[.string n] 9))) := ⟨h1, Step.ofBelow hb0⟩
  clear h h1 hb0 hx hne
  go_enter Tryz.func58, Tryz.ntmps58
  go_wp2_with (go_at_call 75; refine kd.mono ?_; rintro e w1 ⟨v', rfl, ho, hv, hg⟩; have hc1 := (H1.out.1.repieces_cell hg); have hf1 := H1.out.1.repieces_fz hg; obtain ⟨a', cap', rfl⟩ := own_any ho)
  go_end0
  have := H1.out.1.repieces ho hv hg
  exact ⟨rfl, _, hv, this.1, H1.out.2.trans this.2⟩
end Go.Proofs.YtblhkhgcaheplaaGreatDoor.Dk
