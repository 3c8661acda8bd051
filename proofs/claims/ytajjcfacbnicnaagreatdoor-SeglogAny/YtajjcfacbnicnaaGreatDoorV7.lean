/-
  YtajjcfacbnicnaaGreatDoor: the texts DR5, DR6, DR7, DR8, one behind the other.
-/
import Derived.Test.YtajjcfacbnicnaaGreatDoorV6
import Derived.Deep.RegionHeld3
/-
  The document's disk: a file is dropped; Remove.
-/
namespace Go.Proofs.YtajjcfacbnicnaaGreatDoor.Dk
open Go.RowKit
set_option maxRecDepth 100000

theorem gerase (l : List Gv) (i : Nat) : (l.flatMap Gv.cells).take (i * 3) ++ (l.flatMap Gv.cells).drop ((i + 1) * 3) = (l.eraseIdx i).flatMap Gv.cells := by
  rw [gflat_take, gflat_drop, List.eraseIdx_eq_take_drop_succ, List.flatMap_append]

theorem RRep.outs {w : World} {B b : Nat} {d : Rs} (h : RRep w B b d) {L : List Gv} (hL : ∀ f ∈ L, f ∈ d.files) : ∀ f ∈ L, ∀ k ∈ f.obs, k ≠ b ∧ d.vf.ownBlock ≠ some k ∧ k < w.heap.size := fun f hf k hk =>
  ⟨h.b_f (hL f hf) hk, fun e => h.vf_f (hL f hf) e hk, (h.lt k (rfoot_f (hL f hf) hk)).2⟩

set_option maxHeartbeats 4000000 in
theorem rdrop_any {w : World} {B b i : Nat} {d : Rs} {f : Gv} (h : RRep w B b d) (hll : d.files.length ≤ 500) (hf : d.files[i]? = some f) :
    Calls Tryz.prog 95 #[.pointer (some ⟨b, 0, none⟩), .int .i64 (i : Int)] w fun e w' => e = .returned (.tuple #[]) ∧ ∃ v', RRep w' B b { d with files := d.files.eraseIdx i, vf := v' } ∧ Step (d.foot b) (Rs.foot b { d with files := d.files.eraseIdx i, vf := v' }) w w' ∧ (∀ k, k < w.heap.size → k ≠ b → w'.heap[k]? = w.heap[k]?)  ∧ (∀ k, v'.ownBlock = some k → w.heap.size ≤ k) := by
  have hi : i < d.files.length := (List.getElem?_eq_some_iff.1 hf).1
  obtain ⟨g, cap, ev, hcap, hcm, hg⟩ := h.vf_form hf
  have hB : B ≤ w.heap.size := by have := h.lt b rfoot_b; omega
  have hgl : g < w.heap.size := (h.tab.lt g hg).2
  have hone := gcells_one h
  have hlen := gflat_len d.files
  have hC : ∀ j u, (d.files.flatMap Gv.cells)[j]? = some u → w.cell? ⟨g, j, none⟩ = some u := fun j u hj => own_cell h.tab hg hj
  have hE : (w.drew.alloc (.cells #[] 101)).ownsRow B 101 3 (.slice (some ⟨w.heap.size, 0, none⟩) 0 0) 0 [] := World.ownsRow_made w.drew #[] 0 hB (by unfold maxLen; omega) rfl
  have hb1 : Below w.heap.size w (w.drew.alloc (.cells #[] 101)) := ((Below.refl _ _).drew).alloc (Nat.le_refl _) _
  obtain ⟨v2, w2, hr1, ho2, hg2, hat2⟩ := append_files hE (by simp; omega) ⟨g, 0, none⟩ i cap ((d.files.flatMap Gv.cells).take (i * 3)) (by rw [List.length_take, hlen]; omega) (fun j u hj => by
    rw [Addr.add_lit, Nat.zero_add]
    rw [List.getElem?_take] at hj
    split at hj
    · exact cell_below (hC j u hj) hb1
    · cases hj) (fun u hu => hone u (List.mem_of_mem_take hu)) (by omega) 69
  have hv2 : ∃ k2, v2.ownBlock = some k2 ∧ w.heap.size ≤ k2 := by
    rcases hat2 with e | ⟨k, e, hk⟩
    · exact ⟨w.heap.size, e, Nat.le_refl _⟩
    · exact ⟨k, e, by simp at hk; omega⟩
  obtain ⟨k2, hk2, hk2'⟩ := hv2
  have hkeep2 : ∀ k, k < w.heap.size → w2.heap[k]? = w.heap[k]? := fun k hk => (hg2.block k (by simp; omega) (fun e => by injection e with e; have e' : k = w.heap.size := e; omega)).trans (hb1.block k hk)
  have hs2 : w.heap.size ≤ w2.heap.size := Nat.le_trans hb1.size hg2.size
  have hcell2 : ∀ j u, (d.files.flatMap Gv.cells)[j]? = some u → w2.cell? ⟨g, j, none⟩ = some u := fun j u hj => (World.cell?_of_block (hkeep2 g hgl)).trans (hC j u hj)
  have AP : Aside (∀ A : Addr, (cap ≠ i + 1 → A = ⟨g, (i + 1) * 3, none⟩) → ∃ v3 w3, (Builtin.append_ #[69, 69] 69 #[v2, .slice (some A) (d.files.length - (i + 1)) (cap - (i + 1))]).run Tryz.prog w2 = .ok v3 w3 ∧ w3.ownsRow B 101 3 v3 (0 + i + (d.files.length - (i + 1))) ([] ++ (d.files.flatMap Gv.cells).take (i * 3) ++ (d.files.flatMap Gv.cells).drop ((i + 1) * 3)) ∧ w2.grownBy w3 v2.ownBlock ∧ At w2 v2 v3) := fun A hA =>
    append_files ho2 (by omega) A (d.files.length - (i + 1)) (cap - (i + 1)) ((d.files.flatMap Gv.cells).drop ((i + 1) * 3)) (by rw [List.length_drop, hlen]; omega) (fun j u hj => by
      by_cases he : cap = i + 1
      · have := (List.getElem?_eq_some_iff.1 hj).1
        rw [List.length_drop, hlen] at this
        omega
      · rw [hA he, Addr.add_lit]
        exact hcell2 ((i + 1) * 3 + j) u (by rwa [List.getElem?_drop] at hj)) (fun u hu => hone u (List.mem_of_mem_drop hu)) (by omega) 69
  have FIN : Aside (∀ v3 w3, w3.ownsRow B 101 3 v3 (0 + i + (d.files.length - (i + 1))) ([] ++ (d.files.flatMap Gv.cells).take (i * 3) ++ (d.files.flatMap Gv.cells).drop ((i + 1) * 3)) → w2.grownBy w3 v2.ownBlock → At w2 v2 v3 →
      RRep (w3.setCell ⟨b, 0, none⟩ v3) B b { d with files := d.files.eraseIdx i, vf := v3 } ∧ Step (d.foot b) (Rs.foot b { d with files := d.files.eraseIdx i, vf := v3 }) w (w3.setCell ⟨b, 0, none⟩ v3) ∧ (∀ k, k < w.heap.size → k ≠ b → (w3.setCell ⟨b, 0, none⟩ v3).heap[k]? = w.heap[k]?) ∧ (∀ k, v3.ownBlock = some k → w.heap.size ≤ k)) := fun v3 w3 ho3 hg3 hat3 => by
    have hkeep3 : ∀ k, k < w.heap.size → w3.heap[k]? = w.heap[k]? := fun k hk => (hg3.block k (by omega) (fun e => by rw [hk2] at e; injection e with e; omega)).trans (hkeep2 k hk)
    have hat : At w d.vf v3 := by
      rcases hat3 with e | ⟨k, e, hk⟩
      · exact .inr ⟨k2, e.trans hk2, hk2'⟩
      · exact .inr ⟨k, e, by omega⟩
    have hgr : w.grownBy w3 d.vf.ownBlock := ⟨hg3.os.trans (hg2.os.trans hb1.os), hg3.tape.trans (hg2.tape.trans hb1.tape), hg3.output.trans (hg2.output.trans hb1.output), Nat.le_trans hs2 hg3.size, fun k hk _ => hkeep3 k hk⟩
    have hsub : (d.files.eraseIdx i).Sublist d.files := List.eraseIdx_sublist _ _
    have hown : w3.ownsRow B 101 3 v3 (d.files.eraseIdx i).length ((d.files.eraseIdx i).flatMap Gv.cells) := by
      rw [← gerase, List.length_eraseIdx_of_lt hi, show d.files.length - 1 = 0 + i + (d.files.length - (i + 1)) by omega]
      exact ho3
    have hT := h.table hown hat hgr (fun x hx => h.rb x (hsub.subset hx)) (fun x hx => h.rl x (hsub.subset hx)) (by
      have := (List.nodup_append.1 (List.nodup_cons.1 h.nodup).2).2.1
      exact this.sublist (sub_flatMap _ hsub)) (h.outs fun x hx => hsub.subset hx)
    refine ⟨hT.1, hT.2.weak fun k hk => ?_, fun k hk hkb => (Below.heap_setCell w3 ⟨b, 0, none⟩ v3 k hkb).trans (hkeep3 k hk), fun k ek => by
      rcases hat3 with e | ⟨k', e, hk'⟩
      · rw [e, hk2] at ek
        injection ek with ek
        omega
      · rw [e] at ek
        injection ek with ek
        omega⟩
    rcases List.mem_append.1 hk with hk | hk
    · exact .inl hk
    · obtain ⟨x, hx, hk⟩ := List.mem_flatMap.1 hk
      exact .inl (rfoot_f (hsub.subset hx) hk)
  have c0 := h.c0
  have hc0A : ∀ o : Obj, (w.alloc o).cell? ⟨b, 0, none⟩ = some d.vf := fun o => cell_below c0 ((Below.refl _ _).alloc (Nat.le_refl _) o)
  have hc02 : w2.cell? ⟨b, 0, none⟩ = some d.vf := (World.cell?_of_block (hkeep2 b h.b_lt)).trans c0
  have HC3 : Aside (∀ w3 : World, w2.grownBy w3 v2.ownBlock → w3.cell? ⟨b, 0, none⟩ = some d.vf ∧ w3.frozen? ⟨b, 0, none⟩ = false) := fun w3 hg3 => by
    have e : w3.heap[b]? = w.heap[b]? := (hg3.block b (by have := h.b_lt; omega) (fun e => by rw [hk2] at e; injection e with e; have := h.b_lt; omega)).trans (hkeep2 b h.b_lt)
    exact ⟨(World.cell?_of_block e).trans c0, by rw [World.frozen?_of_block (a := ⟨b, 0, none⟩) e]; exact h.fz 0⟩
  have n1 : ¬ b = w.heap.size := by have := h.b_lt; omega
  have n2 : ¬ w.heap.size = b := fun e => n1 e.symm
  rw [ev] at c0 hc0A hc02 HC3
  obtain ⟨a2, c2, ea2⟩ := own_any ho2
  rw [ea2] at hr1 AP FIN HC3
  clear h hE hb1 hC hone hcell2 hkeep2 hs2 ho2 hg2 hat2 ev hg hlen hf
  generalize d.files.length = N at *
  have hw1 : IntKind.i64.wrap ((i : Int) + 1) = (i : Int) + 1 := by rw [IntKind.wrap_i64]; omega
  have hic : i ≤ cap := by omega
  have hc63 : cap ≤ 9223372036854775807 := by unfold maxLen at hcm; omega
  have htn : ((i : Int) + 1).toNat = i + 1 := by omega
  have hb1 : (0 : Int) ≤ (i : Int) + 1 := by omega
  have hb2 : (i : Int) + 1 ≤ (N : Int) := by omega
  have hin : (i : Int) ≤ (N : Int) := by omega
  have hicc : (i : Int) ≤ (cap : Int) := by omega
  have hic1 : (i : Int) ≤ (i : Int) + 1 := by omega
  by_cases hce : cap = i + 1
  · obtain ⟨v3, w3, hr3, ho3, hg3, hat3⟩ := AP.out ⟨g, 0, none⟩ (fun e => absurd hce e)
    obtain ⟨x1, x2⟩ := HC3.out w3 hg3
    obtain ⟨a3, c3, ea3⟩ := own_any ho3
    have FF : Aside _ := FIN.out v3 w3 ho3 hg3 hat3
    rw [ea3] at hr3 FF
    clear AP FIN HC3 ho3 hg3 hat3 ea3 ea2 hcm
    obtain rfl : N = i + 1 := by omega
    subst hce
    simp only [Nat.sub_self, Nat.zero_add, Nat.add_zero] at hr3 FF hr1
    go_enter Tryz.func95, Tryz.ntmps95
    go_wp2
    go_region_law (first
      | (refine step_append_run rfl _ _ 69 69 rfl (.slice (some ⟨w.heap.size, 0, none⟩) 0 0) (.slice (some ⟨g, 0, none⟩) i (i + 1)) (by simp [Act.eval, Act.put]) (by simp [Act.eval, Act.put]) hr1 ?_)
      | (refine step_append_run rfl _ _ 69 69 rfl (.slice a2 i c2) (.slice (some ⟨g, 0, none⟩) 0 0) (by simp [Act.eval, Act.put]) (by simp [Act.eval, Act.put]) hr3 ?_))
    all_goals
      go_wp2
      go_end0
      exact ⟨rfl, _, FF.out⟩
  · obtain ⟨v3, w3, hr3, ho3, hg3, hat3⟩ := AP.out ⟨g, (i + 1) * 3, none⟩ (fun _ => rfl)
    obtain ⟨x1, x2⟩ := HC3.out w3 hg3
    obtain ⟨a3, c3, ea3⟩ := own_any ho3
    have FF : Aside _ := FIN.out v3 w3 ho3 hg3 hat3
    rw [ea3] at hr3 FF
    clear AP FIN HC3 ho3 hg3 hat3 ea3 ea2 hcm
    simp only [Nat.zero_add] at hr3 FF hr1
    go_enter Tryz.func95, Tryz.ntmps95
    go_wp2
    go_region_law (first
      | (refine step_append_run rfl _ _ 69 69 rfl (.slice (some ⟨w.heap.size, 0, none⟩) 0 0) (.slice (some ⟨g, 0, none⟩) i cap) (by simp [Act.eval, Act.put]) (by simp [Act.eval, Act.put]) hr1 ?_)
      | (refine step_append_run rfl _ _ 69 69 rfl (.slice a2 i c2) (.slice (some ⟨g, (i + 1) * 3, none⟩) (N - (i + 1)) (cap - (i + 1))) (by simp [Act.eval, Act.put]) (by simp [Act.eval, Act.put]) hr3 ?_))
    all_goals
      go_wp2
      go_end0
      exact ⟨rfl, _, FF.out⟩
end Go.Proofs.YtajjcfacbnicnaaGreatDoor.Dk

/-
  The document's disk: Remove, Sync, Cut.
-/
namespace Go.Proofs.YtajjcfacbnicnaaGreatDoor.Dk
open Go.RowKit
set_option maxRecDepth 100000

theorem info3 : (Tryz.prog.info? 3).map (fun i => (i.zero, i.size, i.bytes)) = some (some (.int .i64 0), 1, 8) := by kernel_rfl

theorem mk_ints (n : Nat) (hn : n ≤ 10000000) (u : World) : (Instr.makeSlice 60 (.int .i64 (n : Int)) (.int .i64 (n : Int))).run Tryz.prog u = .ok (.slice (some ⟨u.heap.size, 0, none⟩) n n) (u.alloc (.cells (lcells (List.replicate n 0)).toArray 3)) := by
  obtain ⟨i0, hi0, hz0, hzs, hzb⟩ := info_parts info3
  have := run_make (P := Tryz.prog) u 60 3 i0 (.int .i64 0) Tryz.underlying60 hi0 hz0 .i64 .i64 n n (by omega) (Int.le_refl _) (by rw [hzb]; omega) (by omega)
  rw [this]
  simp only [Int.toNat_natCast, hzs, Nat.mul_one]
  have e : madeCells (Value.int IntKind.i64 0).cells n = (lcells (List.replicate n 0)).toArray := by
    apply Array.ext'
    apply List.ext_getElem?
    intro j
    have hz1 : (Value.int IntKind.i64 0).cells = #[Value.int IntKind.i64 0] := rfl
    by_cases hj : j < n
    · simp [madeCells, lcells, hz1, hj, Nat.mod_one]
    · simp [madeCells, lcells, hz1, hj]
  rw [e]

theorem RRep.heap {w w' : World} {B b : Nat} {d : Rs} (h : RRep w B b d) (hh : w'.heap = w.heap) : RRep w' B b d := h.frame fun k _ => by rw [hh]

theorem ints_row (u : World) (L : List Nat) (B : Nat) (hB : B ≤ u.heap.size) (hL : L.length ≤ 10000000) : (u.alloc (.cells (lcells L).toArray 3)).ownsRow B 3 1 (.slice (some ⟨u.heap.size, 0, none⟩) L.length L.length) L.length (lcells L) :=
  ⟨by simp [lcells], .inr ⟨u.heap.size, L.length, (lcells L).toArray, rfl, hB, heap_alloc_new u _, Nat.le_refl _, by unfold maxLen; omega, by simp [lcells], by simp only [Nat.mul_one]; exact List.take_of_length_le (by simp [lcells])⟩⟩

theorem RRep.nodup_f {w : World} {B b : Nat} {d : Rs} (h : RRep w B b d) {f : Gv} (hf : f ∈ d.files) : f.obs.Nodup := by
  have := (List.nodup_append.1 (List.nodup_cons.1 h.nodup).2).2.1
  obtain ⟨i, hi, rfl⟩ := List.getElem_of_mem hf
  obtain ⟨A, C, ea, _, _⟩ := split_at (List.getElem?_eq_getElem hi) (d.files[i])
  rw [ea] at this
  simp only [List.flatMap_append, List.flatMap_cons] at this
  exact (List.nodup_append.1 (List.nodup_append.1 this).2.1).1

/-- A file's places are new ones. -/
theorem RRep.newLate {u W : World} {B b g i : Nat} {d : Rs} {f : Gv} (h : RRep u B b d) (hf : d.files[i]? = some f) (hg : d.vf.ownBlock = some g) (L : List Nat) (hL : L.length ≤ 10000000)
    (hW : W.heap = ((u.alloc (.cells (lcells L).toArray 3)).setCell ⟨g, i * 3 + 2, none⟩ (.slice (some ⟨u.heap.size, 0, none⟩) L.length L.length)).heap) (e1 : W.os = u.os) (e2 : W.tape = u.tape) (e3 : W.output = u.output) :
    RRep W B b { d with files := d.files.set i ⟨f.name, f.bytes, L, f.vb, .slice (some ⟨u.heap.size, 0, none⟩) L.length L.length⟩ } ∧ Step (d.foot b) (Rs.foot b { d with files := d.files.set i ⟨f.name, f.bytes, L, f.vb, .slice (some ⟨u.heap.size, 0, none⟩) L.length L.length⟩ }) u W := by
  have hi : i < d.files.length := (List.getElem?_eq_some_iff.1 hf).1
  have hm : f ∈ d.files := List.mem_of_getElem? hf
  have hB : B ≤ u.heap.size := by have := h.lt b rfoot_b; omega
  have hgl : g < u.heap.size := (h.tab.lt g hg).2
  have hother : ∀ k, k ≠ g → W.heap[k]? = (u.alloc (.cells (lcells L).toArray 3)).heap[k]? := fun k hk => by rw [hW]; exact Below.heap_setCell _ ⟨g, i * 3 + 2, none⟩ _ k hk
  have hkeep : ∀ k, k < u.heap.size → k ≠ g → W.heap[k]? = u.heap[k]? := fun k hk hn => (hother k hn).trans (alloc_old u _ k hk)
  refine h.reset hf hg ?_ ?_ ?_ (fun k hk hn _ => hkeep k hk hn) ?_ ?_ e1 e2 e3 (by rw [hW]; simp)
  · rw [gflat_setl d.files i f ⟨f.name, f.bytes, L, f.vb, .slice (some ⟨u.heap.size, 0, none⟩) L.length L.length⟩ hf rfl rfl]
    refine own_heap (own_set (own_frame h.tab fun k hk => alloc_old u _ k (h.tab.lt k hk).2) hg (i * 3 + 2) (by omega) _) hW
  · exact own_frame (h.rb f hm) fun k hk => hkeep k ((h.rb f hm).lt k hk).2 (fun e => h.vf_f hm hg (e ▸ obs_b hk))
  · exact own_frame (ints_row u L B hB hL) fun k hk => hother k (fun e => by injection hk with hk; have e' : u.heap.size = k := hk; omega)
  · intro k hk
    rcases List.mem_append.1 hk with hk | hk
    · exact .inl (List.mem_append_left _ hk)
    · have := mem_ob.1 hk
      injection this with this
      have e' : u.heap.size = k := this
      exact .inr (by omega)
  · have hnd := h.nodup_f hm
    refine List.nodup_append.2 ⟨(List.nodup_append.1 hnd).1, by simp [ob, Value.ownBlock], fun x hx y hy e => ?_⟩
    subst e
    have h1 := ((h.rb f hm).lt x (mem_ob.1 hx)).2
    have h2 := mem_ob.1 hy
    injection h2 with h2
    have e' : u.heap.size = x := h2
    omega

/-- A file's bytes are cut. -/
theorem RRep.cutBytes {u : World} {B b g i n : Nat} {d : Rs} {f : Gv} (h : RRep u B b d) (hf : d.files[i]? = some f) (hg : d.vf.ownBlock = some g) (hn : n ≤ f.bytes.length) :
    RRep (u.setCell ⟨g, i * 3 + 1, none⟩ (cutV f.vb n)) B b { d with files := d.files.set i ⟨f.name, f.bytes.take n, f.late, cutV f.vb n, f.vl⟩ } ∧ Step (d.foot b) (Rs.foot b { d with files := d.files.set i ⟨f.name, f.bytes.take n, f.late, cutV f.vb n, f.vl⟩ }) u (u.setCell ⟨g, i * 3 + 1, none⟩ (cutV f.vb n)) := by
  have hi : i < d.files.length := (List.getElem?_eq_some_iff.1 hf).1
  have hm : f ∈ d.files := List.mem_of_getElem? hf
  have hkeep : ∀ k, k ≠ g → (u.setCell ⟨g, i * 3 + 1, none⟩ (cutV f.vb n)).heap[k]? = u.heap[k]? := fun k hk => Below.heap_setCell u ⟨g, i * 3 + 1, none⟩ _ k hk
  obtain ⟨h1, h2⟩ := own_cutV (h.rb f hm) n hn
  have hob : Gv.obs ⟨f.name, f.bytes.take n, f.late, cutV f.vb n, f.vl⟩ = f.obs := by unfold Gv.obs; simp only; rw [ob_eq h2]
  refine h.reset hf hg ?_ ?_ ?_ (fun k _ hn _ => hkeep k hn) (fun k hk => .inl (hob ▸ hk)) (by rw [hob]; exact h.nodup_f hm) rfl rfl rfl (by simp)
  · rw [gflat_setb d.files i f ⟨f.name, f.bytes.take n, f.late, cutV f.vb n, f.vl⟩ hf rfl rfl]
    exact own_set h.tab hg (i * 3 + 1) (by omega) _
  · have e : (f.bytes.take n).length = n := by rw [List.length_take]; omega
    show (u.setCell ⟨g, i * 3 + 1, none⟩ (cutV f.vb n)).ownsRow B 5 1 (cutV f.vb n) (f.bytes.take n).length (bcells (f.bytes.take n))
    rw [e, ← bcells_take]
    exact own_frame h1 fun k hk => hkeep k (fun e => h.vf_f hm hg (e ▸ obs_b (h2 ▸ hk)))
  · exact own_frame (h.rl f hm) fun k hk => hkeep k (fun e => h.vf_f hm hg (e ▸ obs_l hk))

def RS.dropAt (s : RS) (i : Nat) : RS := { s with files := s.files.eraseIdx i }
def RS.setAt (s : RS) (i : Nat) (φ : G → G) : RS := match s.files[i]? with
  | some f => { s with files := s.files.set i (φ f) }
  | none => s
def rRemove (s : RS) (n : ByteArray) : Int × RS :=
  if s.power then if has s.names n then (0, s.spent.dropAt (atOf s.names n).toNat) else (6, s.spent) else (12, s.spent)
def rSync (s : RS) (n : ByteArray) : Int × RS :=
  if s.power then if has s.names n then (0, s.spent.setAt (atOf s.names n).toNat fun f => ⟨f.name, f.bytes, List.replicate f.bytes.length 0⟩) else (6, s.spent) else (12, s.spent)
def rCut (s : RS) (n : ByteArray) (k : Int) : Int × RS :=
  if s.power then if has s.names n then (0, s.spent.setAt (atOf s.names n).toNat fun f => ⟨f.name, f.bytes.take (min (max k 0) (f.bytes.length : Int)).toNat, List.replicate (min (max k 0) (f.bytes.length : Int)).toNat 0⟩) else (6, s.spent) else (12, s.spent)

theorem rpower_pl (d : Rs) : d.pl.power = !(d.down || decide (d.left = 0)) := rfl

theorem at_none {l : List ByteArray} {n : ByteArray} (h : has l n = false) : atOf l n = -1 := by rw [atOf, if_neg (by rw [h]; simp)]

set_option maxHeartbeats 800000 in
theorem rremove_any {w : World} {B b : Nat} {d : Rs} (h : RRep w B b d) (ok : ROk d.pl) (n : ByteArray) :
    Calls Tryz.prog 60 #[.pointer (some ⟨b, 0, none⟩), .string n] w fun e w' => e = .returned (.int .i64 (rRemove d.pl n).1) ∧ ∃ d', RRep w' B b d' ∧ d'.pl = (rRemove d.pl n).2 ∧ Step (d.foot b) (d'.foot b) w w' := by
  have kp := rpower_any h ok.left
  have hfew := ok.dfew
  unfold rRemove
  rw [rnames_pl]
  cases hp : d.pl.power with
  | false =>
    rw [hp] at kp
    simp only [Bool.false_eq_true, if_false]
    clear h
    go_enter Tryz.func60, Tryz.ntmps60
    go_wp2_with (go_at_call 76; refine kp.mono ?_; rintro e w1 ⟨rfl, d1, h1, p1, f1, g1, s1⟩)
    go_ret
    exact ⟨rfl, d1, h1, p1, g1 ▸ s1⟩
  | true =>
    rw [hp] at kp
    have KA : Aside (∀ (d1 : Rs) (u : World), RRep u B b d1 → d1.files = d.files → Calls Tryz.prog 78 #[.pointer (some ⟨b, 0, none⟩), .string n] u fun e w' => e = .returned (.int .i64 (atOf d.names n)) ∧ w' = u) := fun d1 u hu hf => by
      have := at_any hu (by rw [hf]; omega) n
      rwa [show d1.names = d.names by unfold Rs.names; rw [hf]] at this
    cases hh : has d.names n with
    | false =>
      rw [at_none hh] at KA
      simp only [Bool.false_eq_true, if_false, if_true]
      clear h
      go_enter Tryz.func60, Tryz.ntmps60
      go_wp2_with (first
        | (go_at_call 76; refine kp.mono ?_; rintro e w1 ⟨rfl, d1, h1, p1, f1, g1, s1⟩)
        | (go_at_call 78; refine (KA.out _ _ h1 f1).mono ?_; rintro e w2 ⟨rfl, rfl⟩))
      go_ret
      exact ⟨rfl, d1, h1, p1, g1 ▸ s1⟩
    | true =>
      obtain ⟨i, f, hat, hf, hfn, hfm⟩ := atOf_get hh
      rw [hat] at KA ⊢
      simp only [if_true, Int.toNat_natCast]
      have KD : Aside (∀ (d1 : Rs) (u : World), RRep u B b d1 → d1.files = d.files → _) := fun (d1 : Rs) (u : World) hu hf1 => rdrop_any (d := d1) (i := i) (f := f) hu (by rw [hf1]; omega) (by rw [hf1]; exact hf)
      have PL : Aside (∀ (d1 : Rs) (v' : Value), d1.pl = d.pl.spent → d1.files = d.files → Rs.pl { d1 with files := d1.files.eraseIdx i, vf := v' } = d.pl.spent.dropAt i) := fun d1 v' hp1 hf1 => by
        unfold RS.dropAt
        rw [← hp1]
        simp only [Rs.pl, List.eraseIdx_eq_take_drop_succ, List.map_append, List.map_take, List.map_drop]
      clear h hat hf hfn hfm hh
      go_enter Tryz.func60, Tryz.ntmps60
      go_wp2_with (first
        | (go_at_call 76; refine kp.mono ?_; rintro e w1 ⟨rfl, d1, h1, p1, f1, g1, s1⟩)
        | (go_at_call 78; refine (KA.out _ _ h1 f1).mono ?_; rintro e w2 ⟨rfl, rfl⟩)
        | (go_at_call 95; refine (KD.out _ _ h1 f1).mono ?_; rintro e w3 ⟨rfl, v', h3, s3, _⟩))
      go_ret
      exact ⟨rfl, _, h3, PL.out d1 v' p1 f1, (g1 ▸ s1 : Step (d.foot b) (d1.foot b) w _).trans s3⟩
end Go.Proofs.YtajjcfacbnicnaaGreatDoor.Dk

/-
  The document's disk: Sync and Cut.
-/
namespace Go.Proofs.YtajjcfacbnicnaaGreatDoor.Dk
open Go.RowKit
set_option maxRecDepth 100000

theorem rpl_setAt {d d1 : Rs} {i : Nat} {f f' : Gv} {φ : G → G} (hp : d1.pl = d.pl.spent) (hf : d1.files[i]? = some f) (he : φ f.pl = f'.pl) : Rs.pl { d1 with files := d1.files.set i f' } = d.pl.spent.setAt i φ := by
  unfold RS.setAt
  rw [← hp, rpl_get hf]
  simp only [he, Rs.pl, List.map_set]

set_option maxHeartbeats 2000000 in
theorem rsync_any {w : World} {B b : Nat} {d : Rs} (h : RRep w B b d) (ok : ROk d.pl) (n : ByteArray) :
    Calls Tryz.prog 52 #[.pointer (some ⟨b, 0, none⟩), .string n] w fun e w' => e = .returned (.int .i64 (rSync d.pl n).1) ∧ ∃ d', RRep w' B b d' ∧ d'.pl = (rSync d.pl n).2 ∧ Step (d.foot b) (d'.foot b) w w' := by
  have kp := rpower_any h ok.left
  have hfew := ok.dfew
  unfold rSync
  rw [rnames_pl]
  cases hp : d.pl.power with
  | false =>
    rw [hp] at kp
    simp only [Bool.false_eq_true, if_false]
    clear h
    go_enter Tryz.func52, Tryz.ntmps52
    go_wp2_with (go_at_call 76; refine kp.mono ?_; rintro e w1 ⟨rfl, d1, h1, p1, f1, g1, s1⟩)
    go_ret
    exact ⟨rfl, d1, h1, p1, g1 ▸ s1⟩
  | true =>
    rw [hp] at kp
    have KA : Aside (∀ (d1 : Rs) (u : World), RRep u B b d1 → d1.files = d.files → Calls Tryz.prog 78 #[.pointer (some ⟨b, 0, none⟩), .string n] u fun e w' => e = .returned (.int .i64 (atOf d.names n)) ∧ w' = u) := fun d1 u hu hf => by
      have := at_any hu (by rw [hf]; omega) n
      rwa [show d1.names = d.names by unfold Rs.names; rw [hf]] at this
    cases hh : has d.names n with
    | false =>
      rw [at_none hh] at KA
      simp only [Bool.false_eq_true, if_false, if_true]
      clear h
      go_enter Tryz.func52, Tryz.ntmps52
      go_wp2_with (first
        | (go_at_call 76; refine kp.mono ?_; rintro e w1 ⟨rfl, d1, h1, p1, f1, g1, s1⟩)
        | (go_at_call 78; refine (KA.out _ _ h1 f1).mono ?_; rintro e w2 ⟨rfl, rfl⟩))
      go_ret
      exact ⟨rfl, d1, h1, p1, g1 ▸ s1⟩
    | true =>
      obtain ⟨i, f, hat, hf, hfn, hfm⟩ := atOf_get hh
      rw [hat] at KA ⊢
      simp only [if_true, Int.toNat_natCast]
      have hi : i < d.files.length := (List.getElem?_eq_some_iff.1 hf).1
      obtain ⟨hl1, hl2⟩ := ok.dlate hfm
      have hmk := mk_ints f.bytes.length (by omega)
      have HF : Aside (∀ d1 : Rs, d1.files = d.files → d1.files[i]? = some f) := fun d1 hd => by rw [hd]; exact hf
      clear h hat hf hfn hfm hh ok
      go_enter Tryz.func52, Tryz.ntmps52
      go_wp2_with (first
        | (go_at_call 76; refine kp.mono ?_; rintro e w1 ⟨rfl, d1, h1, p1, f1, g1, s1⟩)
        | (go_at_call 78; refine (KA.out _ _ h1 f1).mono ?_; rintro e w2 ⟨rfl, rfl⟩))
      have hf1 := HF.out d1 f1
      obtain ⟨g, cap, ev, hcap, hcm, hg⟩ := h1.vf_form hf1
      have x0 := h1.c0
      obtain ⟨y0, y1, y2⟩ := h1.fcells hf1 hg
      have yf := own_frozen h1.tab hg (i * 3 + 2)
      obtain ⟨av, cv, eav⟩ := own_any (h1.rb f (List.mem_of_getElem? hf1))
      obtain ⟨al, cl, eal⟩ := own_any (h1.rl f (List.mem_of_getElem? hf1))
      have hgl := (h1.tab.lt g hg).2
      have hbl := h1.b_lt
      have NL : Aside (∀ W : World, _ → W.os = w2.os → W.tape = w2.tape → W.output = w2.output → _) := fun W hW e1 e2 e3 => h1.newLate (W := W) hf1 hg (List.replicate f.bytes.length 0) (by rw [List.length_replicate]; omega) hW e1 e2 e3
      have hlr : (List.replicate f.bytes.length 0).length = f.bytes.length := List.length_replicate
      rw [hlr] at NL
      have PL : Aside _ := And.intro p1 (And.intro hf1 (And.intro g1 s1))
      have ex0 : w2.cell? ⟨b, 0, none⟩ = some (.slice (some ⟨g, 0, none⟩) d1.files.length cap) := by rw [x0, ev]
      have ey1 : w2.cell? ⟨g, i * 3 + 1, none⟩ = some (.slice av f.bytes.length cv) := by rw [y1, eav]
      have ey2 : w2.cell? ⟨g, i * 3 + 2, none⟩ = some (.slice al f.late.length cl) := by rw [y2, eal]
      have hN1 : i < d1.files.length := (List.getElem?_eq_some_iff.1 hf1).1
      have hN2 : d1.files.length ≤ 16 := by rw [f1]; exact hfew
      generalize hNN : d1.files.length = NN at *
      have n1 : ¬ b = w2.heap.size := by omega
      have n2 : ¬ g = w2.heap.size := by omega
      have n1' : ¬ w2.heap.size = b := fun e => n1 e.symm
      have n2' : ¬ w2.heap.size = g := fun e => n2 e.symm
      have x0A : ∀ o : Obj, (w2.alloc o).cell? ⟨b, 0, none⟩ = some (.slice (some ⟨g, 0, none⟩) NN cap) := fun o => cell_below ex0 ((Below.refl _ _).alloc (Nat.le_refl _) o)
      have y2A : ∀ o : Obj, (w2.alloc o).cell? ⟨g, i * 3 + 2, none⟩ = some (.slice al f.late.length cl) := fun o => cell_below ey2 ((Below.refl _ _).alloc (Nat.le_refl _) o)
      have yfA : ∀ o : Obj, (w2.alloc o).frozen? ⟨g, i * 3 + 2, none⟩ = false := fun o => (World.frozen?_of_block (a := ⟨g, i * 3 + 2, none⟩) (alloc_old w2 o g hgl)).trans yf
      clear x0 y0 y1 y2 ev eav eal HF KA kp h1 p1 s1 hf1 f1 hlr g1 hg hcm
      go_region
      all_goals
        go_wp2
        go_ret
        obtain ⟨p1, hf1, g1, s1⟩ := PL.out
        have hh := NL.out (((w2.setCell ⟨g, i * 3 + 2, none⟩ (.slice (some ⟨w2.heap.size, 0, none⟩) f.bytes.length f.bytes.length)).alloc (.cells (lcells (List.replicate f.bytes.length 0)).toArray 3)).drew) (by rw [World.setCell_alloc_past (hn := hgl)]; rfl) rfl rfl rfl
        have s2 : Step (d.foot b) (d1.foot b) w w2 := by rw [g1]; exact s1
        exact ⟨rfl, _, hh.1, rpl_setAt p1 hf1 rfl, s2.trans hh.2⟩
end Go.Proofs.YtajjcfacbnicnaaGreatDoor.Dk

/-
  The document's disk: Cut.
-/
namespace Go.Proofs.YtajjcfacbnicnaaGreatDoor.Dk
open Go.RowKit
set_option maxRecDepth 100000

theorem rcut_early {w : World} {B b : Nat} {d : Rs} (h : RRep w B b d) (ok : ROk d.pl) (n : ByteArray) (k : Int) (hq : d.pl.power = false ∨ has d.names n = false) :
    Calls Tryz.prog 44 #[.pointer (some ⟨b, 0, none⟩), .string n, .int .i64 k] w fun e w' => e = .returned (.int .i64 (if d.pl.power then 6 else 12)) ∧ ∃ d', RRep w' B b d' ∧ d'.pl = d.pl.spent ∧ Step (d.foot b) (d'.foot b) w w' := by
  have kp := rpower_any h ok.left
  have hfew := ok.dfew
  cases hp : d.pl.power with
  | false =>
    rw [hp] at kp
    clear h
    go_enter Tryz.func44, Tryz.ntmps44
    go_wp2_with (go_at_call 76; refine kp.mono ?_; rintro e w1 ⟨rfl, d1, h1, p1, f1, g1, s1⟩)
    go_ret
    exact ⟨rfl, d1, h1, p1, g1 ▸ s1⟩
  | true =>
    rw [hp] at kp hq
    have hh : has d.names n = false := by
      rcases hq with e | e
      · cases e
      · exact e
    have KA : Aside (∀ (d1 : Rs) (u : World), RRep u B b d1 → d1.files = d.files → Calls Tryz.prog 78 #[.pointer (some ⟨b, 0, none⟩), .string n] u fun e w' => e = .returned (.int .i64 (atOf d.names n)) ∧ w' = u) := fun d1 u hu hf => by
      have := at_any hu (by rw [hf]; omega) n
      rwa [show d1.names = d.names by unfold Rs.names; rw [hf]] at this
    rw [at_none hh] at KA
    clear h hq
    go_enter Tryz.func44, Tryz.ntmps44
    go_wp2_with (first
      | (go_at_call 76; refine kp.mono ?_; rintro e w1 ⟨rfl, d1, h1, p1, f1, g1, s1⟩)
      | (go_at_call 78; refine (KA.out _ _ h1 f1).mono ?_; rintro e w2 ⟨rfl, rfl⟩))
    go_ret
    exact ⟨rfl, d1, h1, p1, g1 ▸ s1⟩

set_option maxHeartbeats 4000000 in
theorem rcut_neg0 {w : World} {B b i : Nat} {d : Rs} {f : Gv} (h : RRep w B b d) (ok : ROk d.pl) (n : ByteArray) (k : Int) (hp : d.pl.power = true) (hat : atOf d.names n = (i : Int)) (hf : d.files[i]? = some f) (m : Nat) (hk : k < 0) (hm : f.bytes.length = m) (hm0 : m = 0) :
    Calls Tryz.prog 44 #[.pointer (some ⟨b, 0, none⟩), .string n, .int .i64 k] w fun e w' => e = .returned (.int .i64 0) ∧ ∃ d', RRep w' B b d' ∧ d'.pl = (d.pl.spent.setAt i fun f => ⟨f.name, f.bytes.take m, List.replicate m 0⟩) ∧ Step (d.foot b) (d'.foot b) w w' := by
  have kp := rpower_any h ok.left
  have hfew := ok.dfew
  rw [hp] at kp
  have KA : Aside (∀ (d1 : Rs) (u : World), RRep u B b d1 → d1.files = d.files → Calls Tryz.prog 78 #[.pointer (some ⟨b, 0, none⟩), .string n] u fun e w' => e = .returned (.int .i64 (i : Int)) ∧ w' = u) := fun d1 u hu hf => by
    have := at_any hu (by rw [hf]; omega) n
    rwa [show d1.names = d.names by unfold Rs.names; rw [hf], hat] at this
  have hi : i < d.files.length := (List.getElem?_eq_some_iff.1 hf).1
  obtain ⟨hl1, hl2⟩ := ok.dlate (List.mem_of_getElem? hf)
  have HF : Aside (∀ d1 : Rs, d1.files = d.files → d1.files[i]? = some f) := fun d1 hd => by rw [hd]; exact hf
  have d2 : decide (k < 0) = true := by simp; omega
  have d3 : decide ((0 : Int) < (f.bytes.length : Int)) = false := decide_eq_false (by omega)
  have d3' : decide (0 < f.bytes.length) = false := decide_eq_false (by omega)
  have d3'' : decide (0 < m) = false := decide_eq_false (by omega)
  have d4 : decide ((0 : Int) < (m : Int)) = false := decide_eq_false (by omega)
  clear hm0 hk
  have hmk := mk_ints m (by omega)
  clear h hat hf ok hp
  go_enter Tryz.func44, Tryz.ntmps44
  go_wp2_with (first
    | (go_at_call 76; refine kp.mono ?_; rintro e w1 ⟨rfl, d1, h1, p1, f1, g1, s1⟩)
    | (go_at_call 78; refine (KA.out _ _ h1 f1).mono ?_; rintro e w2 ⟨rfl, rfl⟩; have hf1 := HF.out d1 f1
       obtain ⟨g, cap, ev, hcap, hcm, hg⟩ := h1.vf_form hf1
       have x0 := h1.c0
       obtain ⟨y0, y1, y2⟩ := h1.fcells hf1 hg
       have yf := own_frozen h1.tab hg (i * 3 + 2)
       have yfb := own_frozen h1.tab hg (i * 3 + 1)
       obtain ⟨av, cv, eav⟩ := own_any (h1.rb f (List.mem_of_getElem? hf1))
       obtain ⟨al, cl, eal⟩ := own_any (h1.rl f (List.mem_of_getElem? hf1))
       have hgl := (h1.tab.lt g hg).2
       have hbl := h1.b_lt
       have ex0 : w2.cell? ⟨b, 0, none⟩ = some (.slice (some ⟨g, 0, none⟩) d1.files.length cap) := by rw [x0, ev]
       have ey1 : w2.cell? ⟨g, i * 3 + 1, none⟩ = some (.slice av f.bytes.length cv) := by rw [y1, eav]
       have ey2 : w2.cell? ⟨g, i * 3 + 2, none⟩ = some (.slice al f.late.length cl) := by rw [y2, eal]
       have hN1 : i < d1.files.length := (List.getElem?_eq_some_iff.1 hf1).1
       have hN2 : d1.files.length ≤ 16 := by rw [f1]; exact hfew
       have hgb : g ≠ b := h1.b_vf hg
))
  have NL : Aside (∀ W : World, _ → W.os = w2.os → W.tape = w2.tape → W.output = w2.output → _) := fun W hW e1 e2 e3 => h1.newLate (W := W) hf1 hg (List.replicate m 0) (by rw [List.length_replicate]; omega) hW e1 e2 e3
  rw [List.length_replicate] at NL
  have PL : Aside _ := And.intro p1 (And.intro hf1 (And.intro g1 s1))
  have hmm : Aside (f.bytes.length = m) := hm
  rw [hm] at ey1
  generalize hNN : d1.files.length = NN at *
  have n1 : ¬ b = w2.heap.size := by omega
  have n2 : ¬ g = w2.heap.size := by omega
  have n1' : ¬ w2.heap.size = b := fun e => n1 e.symm
  have n2' : ¬ w2.heap.size = g := fun e => n2 e.symm
  have x0A : ∀ o : Obj, (w2.alloc o).cell? ⟨b, 0, none⟩ = some (.slice (some ⟨g, 0, none⟩) NN cap) := fun o => cell_below ex0 ((Below.refl _ _).alloc (Nat.le_refl _) o)
  have y2A : ∀ o : Obj, (w2.alloc o).cell? ⟨g, i * 3 + 2, none⟩ = some (.slice al f.late.length cl) := fun o => cell_below ey2 ((Below.refl _ _).alloc (Nat.le_refl _) o)
  have yfA : ∀ o : Obj, (w2.alloc o).frozen? ⟨g, i * 3 + 2, none⟩ = false := fun o => (World.frozen?_of_block (a := ⟨g, i * 3 + 2, none⟩) (alloc_old w2 o g hgl)).trans yf
  clear x0 y0 y1 y2 ev eav eal HF KA kp h1 p1 s1 hf1 f1 g1 hg hcm hl1 hl2 hm
  go_wp2
  go_region
  all_goals
    go_wp2
    go_ret
    obtain ⟨p1, hf1, g1, s1⟩ := PL.out
    have hh := NL.out (((w2.setCell ⟨g, i * 3 + 2, none⟩ (.slice (some ⟨w2.heap.size, 0, none⟩) m m)).alloc (.cells (lcells (List.replicate m 0)).toArray 3)).drew) (by rw [World.setCell_alloc_past (hn := hgl)]; rfl) rfl rfl rfl
    have s2 : Step (d.foot b) (d1.foot b) w w2 := by rw [g1]; exact s1
    exact ⟨rfl, _, hh.1, rpl_setAt p1 hf1 (by rw [← hmm.out]; simp [Gv.pl]), s2.trans hh.2⟩


set_option maxHeartbeats 4000000 in
theorem rcut_pos0 {w : World} {B b i : Nat} {d : Rs} {f : Gv} (h : RRep w B b d) (ok : ROk d.pl) (n : ByteArray) (k : Int) (hp : d.pl.power = true) (hat : atOf d.names n = (i : Int)) (hf : d.files[i]? = some f) (m : Nat) (hk : ¬ k < 0) (hm : f.bytes.length = m) (hm0 : (m : Int) ≤ k) :
    Calls Tryz.prog 44 #[.pointer (some ⟨b, 0, none⟩), .string n, .int .i64 k] w fun e w' => e = .returned (.int .i64 0) ∧ ∃ d', RRep w' B b d' ∧ d'.pl = (d.pl.spent.setAt i fun f => ⟨f.name, f.bytes.take m, List.replicate m 0⟩) ∧ Step (d.foot b) (d'.foot b) w w' := by
  have kp := rpower_any h ok.left
  have hfew := ok.dfew
  rw [hp] at kp
  have KA : Aside (∀ (d1 : Rs) (u : World), RRep u B b d1 → d1.files = d.files → Calls Tryz.prog 78 #[.pointer (some ⟨b, 0, none⟩), .string n] u fun e w' => e = .returned (.int .i64 (i : Int)) ∧ w' = u) := fun d1 u hu hf => by
    have := at_any hu (by rw [hf]; omega) n
    rwa [show d1.names = d.names by unfold Rs.names; rw [hf], hat] at this
  have hi : i < d.files.length := (List.getElem?_eq_some_iff.1 hf).1
  obtain ⟨hl1, hl2⟩ := ok.dlate (List.mem_of_getElem? hf)
  have HF : Aside (∀ d1 : Rs, d1.files = d.files → d1.files[i]? = some f) := fun d1 hd => by rw [hd]; exact hf
  have d2 : decide (k < 0) = false := by simp; omega
  have d3 : decide (k < (f.bytes.length : Int)) = false := by simp; omega
  have d4 : decide (k < (m : Int)) = false := by simp; omega
  clear hm0 hk
  have hmk := mk_ints m (by omega)
  clear h hat hf ok hp
  go_enter Tryz.func44, Tryz.ntmps44
  go_wp2_with (first
    | (go_at_call 76; refine kp.mono ?_; rintro e w1 ⟨rfl, d1, h1, p1, f1, g1, s1⟩)
    | (go_at_call 78; refine (KA.out _ _ h1 f1).mono ?_; rintro e w2 ⟨rfl, rfl⟩; have hf1 := HF.out d1 f1
       obtain ⟨g, cap, ev, hcap, hcm, hg⟩ := h1.vf_form hf1
       have x0 := h1.c0
       obtain ⟨y0, y1, y2⟩ := h1.fcells hf1 hg
       have yf := own_frozen h1.tab hg (i * 3 + 2)
       have yfb := own_frozen h1.tab hg (i * 3 + 1)
       obtain ⟨av, cv, eav⟩ := own_any (h1.rb f (List.mem_of_getElem? hf1))
       obtain ⟨al, cl, eal⟩ := own_any (h1.rl f (List.mem_of_getElem? hf1))
       have hgl := (h1.tab.lt g hg).2
       have hbl := h1.b_lt
       have ex0 : w2.cell? ⟨b, 0, none⟩ = some (.slice (some ⟨g, 0, none⟩) d1.files.length cap) := by rw [x0, ev]
       have ey1 : w2.cell? ⟨g, i * 3 + 1, none⟩ = some (.slice av f.bytes.length cv) := by rw [y1, eav]
       have ey2 : w2.cell? ⟨g, i * 3 + 2, none⟩ = some (.slice al f.late.length cl) := by rw [y2, eal]
       have hN1 : i < d1.files.length := (List.getElem?_eq_some_iff.1 hf1).1
       have hN2 : d1.files.length ≤ 16 := by rw [f1]; exact hfew
       have hgb : g ≠ b := h1.b_vf hg
))
  have NL : Aside (∀ W : World, _ → W.os = w2.os → W.tape = w2.tape → W.output = w2.output → _) := fun W hW e1 e2 e3 => h1.newLate (W := W) hf1 hg (List.replicate m 0) (by rw [List.length_replicate]; omega) hW e1 e2 e3
  rw [List.length_replicate] at NL
  have PL : Aside _ := And.intro p1 (And.intro hf1 (And.intro g1 s1))
  have hmm : Aside (f.bytes.length = m) := hm
  rw [hm] at ey1
  generalize hNN : d1.files.length = NN at *
  have n1 : ¬ b = w2.heap.size := by omega
  have n2 : ¬ g = w2.heap.size := by omega
  have n1' : ¬ w2.heap.size = b := fun e => n1 e.symm
  have n2' : ¬ w2.heap.size = g := fun e => n2 e.symm
  have x0A : ∀ o : Obj, (w2.alloc o).cell? ⟨b, 0, none⟩ = some (.slice (some ⟨g, 0, none⟩) NN cap) := fun o => cell_below ex0 ((Below.refl _ _).alloc (Nat.le_refl _) o)
  have y2A : ∀ o : Obj, (w2.alloc o).cell? ⟨g, i * 3 + 2, none⟩ = some (.slice al f.late.length cl) := fun o => cell_below ey2 ((Below.refl _ _).alloc (Nat.le_refl _) o)
  have yfA : ∀ o : Obj, (w2.alloc o).frozen? ⟨g, i * 3 + 2, none⟩ = false := fun o => (World.frozen?_of_block (a := ⟨g, i * 3 + 2, none⟩) (alloc_old w2 o g hgl)).trans yf
  clear x0 y0 y1 y2 ev eav eal HF KA kp h1 p1 s1 hf1 f1 g1 hg hcm hl1 hl2 hm
  go_wp2
  go_region
  all_goals
    go_wp2
    go_ret
    obtain ⟨p1, hf1, g1, s1⟩ := PL.out
    have hh := NL.out (((w2.setCell ⟨g, i * 3 + 2, none⟩ (.slice (some ⟨w2.heap.size, 0, none⟩) m m)).alloc (.cells (lcells (List.replicate m 0)).toArray 3)).drew) (by rw [World.setCell_alloc_past (hn := hgl)]; rfl) rfl rfl rfl
    have s2 : Step (d.foot b) (d1.foot b) w w2 := by rw [g1]; exact s1
    exact ⟨rfl, _, hh.1, rpl_setAt p1 hf1 (by rw [← hmm.out]; simp [Gv.pl]), s2.trans hh.2⟩


set_option maxHeartbeats 4000000 in
theorem rcut_neg1 {w : World} {B b i : Nat} {d : Rs} {f : Gv} (h : RRep w B b d) (ok : ROk d.pl) (n : ByteArray) (k : Int) (hp : d.pl.power = true) (hat : atOf d.names n = (i : Int)) (hf : d.files[i]? = some f) (m : Nat) (hk : k < 0) (hm : m < f.bytes.length) (hm0 : m = 0) :
    Calls Tryz.prog 44 #[.pointer (some ⟨b, 0, none⟩), .string n, .int .i64 k] w fun e w' => e = .returned (.int .i64 0) ∧ ∃ d', RRep w' B b d' ∧ d'.pl = (d.pl.spent.setAt i fun f => ⟨f.name, f.bytes.take m, List.replicate m 0⟩) ∧ Step (d.foot b) (d'.foot b) w w' := by
  have kp := rpower_any h ok.left
  have hfew := ok.dfew
  rw [hp] at kp
  have KA : Aside (∀ (d1 : Rs) (u : World), RRep u B b d1 → d1.files = d.files → Calls Tryz.prog 78 #[.pointer (some ⟨b, 0, none⟩), .string n] u fun e w' => e = .returned (.int .i64 (i : Int)) ∧ w' = u) := fun d1 u hu hf => by
    have := at_any hu (by rw [hf]; omega) n
    rwa [show d1.names = d.names by unfold Rs.names; rw [hf], hat] at this
  have hi : i < d.files.length := (List.getElem?_eq_some_iff.1 hf).1
  obtain ⟨hl1, hl2⟩ := ok.dlate (List.mem_of_getElem? hf)
  have HF : Aside (∀ d1 : Rs, d1.files = d.files → d1.files[i]? = some f) := fun d1 hd => by rw [hd]; exact hf
  have d2 : decide (k < 0) = true := by simp; omega
  have d3 : decide ((0 : Int) < (f.bytes.length : Int)) = true := decide_eq_true (by omega)
  have d3' : decide (0 < f.bytes.length) = true := decide_eq_true (by omega)
  have hbb : 0 < f.bytes.length := by omega
  have hmk := mk_ints m (by omega)
  clear h hat hf ok hp
  go_enter Tryz.func44, Tryz.ntmps44
  go_wp2_with (first
    | (go_at_call 76; refine kp.mono ?_; rintro e w1 ⟨rfl, d1, h1, p1, f1, g1, s1⟩)
    | (go_at_call 78; refine (KA.out _ _ h1 f1).mono ?_; rintro e w2 ⟨rfl, rfl⟩; have hf1 := HF.out d1 f1
       obtain ⟨g, cap, ev, hcap, hcm, hg⟩ := h1.vf_form hf1
       have x0 := h1.c0
       obtain ⟨y0, y1, y2⟩ := h1.fcells hf1 hg
       have yf := own_frozen h1.tab hg (i * 3 + 2)
       have yfb := own_frozen h1.tab hg (i * 3 + 1)
       obtain ⟨av, cv, eav⟩ := own_any (h1.rb f (List.mem_of_getElem? hf1))
       obtain ⟨al, cl, eal⟩ := own_any (h1.rl f (List.mem_of_getElem? hf1))
       have hgl := (h1.tab.lt g hg).2
       have hbl := h1.b_lt
       have ex0 : w2.cell? ⟨b, 0, none⟩ = some (.slice (some ⟨g, 0, none⟩) d1.files.length cap) := by rw [x0, ev]
       have ey1 : w2.cell? ⟨g, i * 3 + 1, none⟩ = some (.slice av f.bytes.length cv) := by rw [y1, eav]
       have ey2 : w2.cell? ⟨g, i * 3 + 2, none⟩ = some (.slice al f.late.length cl) := by rw [y2, eal]
       have hN1 : i < d1.files.length := (List.getElem?_eq_some_iff.1 hf1).1
       have hN2 : d1.files.length ≤ 16 := by rw [f1]; exact hfew
       have hgb : g ≠ b := h1.b_vf hg
))
  subst hm0
  rw [show ((0 : Nat) : Int) = 0 from rfl] at hmk
  have hcut := h1.cutBytes hf1 hg (n := 0) (by omega)
  have hav : ∃ gb, av = some ⟨gb, 0, none⟩ := by
    obtain ⟨gb, c', e, _⟩ := own_form (h1.rb f (List.mem_of_getElem? hf1)) (by omega)
    rw [eav] at e
    injection e with e1 e2 e3
    exact ⟨gb, e1⟩
  obtain ⟨gb, rfl⟩ := hav
  have hcv : f.bytes.length ≤ cv ∧ cv ≤ 9223372036854775807 := by
    obtain ⟨gb', c', e, e1, e2, _⟩ := own_form (h1.rb f (List.mem_of_getElem? hf1)) (by omega)
    rw [eav] at e
    injection e with e3 e4 e5
    unfold maxLen at e2
    omega
  obtain ⟨hcv1, hcv2⟩ := hcv
  have hmc : 0 ≤ cv := by omega
  have hm6 : 0 ≤ 60000 := by omega
  have ecv : cutV f.vb 0 = .slice (some ⟨gb, 0, none⟩) 0 cv := by rw [eav]; rfl
  rw [ecv] at hcut
  have hcf : ({ d1 with files := d1.files.set i ⟨f.name, f.bytes.take 0, f.late, .slice (some ⟨gb, 0, none⟩) 0 cv, f.vl⟩ } : Rs).files[i]? = some ⟨f.name, f.bytes.take 0, f.late, .slice (some ⟨gb, 0, none⟩) 0 cv, f.vl⟩ := by
    show (d1.files.set i _)[i]? = _
    rw [List.getElem?_set]
    simp [hN1]
  have z0 := hcut.1.c0
  obtain ⟨_, z1, z2⟩ := hcut.1.fcells hcf hg
  have zf := own_frozen hcut.1.tab hg (i * 3 + 2)
  dsimp only at z0 z1 z2
  rw [ev] at z0
  rw [eal] at z2
  have PL : Aside _ := And.intro p1 (And.intro hf1 (And.intro g1 (And.intro s1 (And.intro hcut hcf))))
  have HG : Aside (d1.vf.ownBlock = some g) := hg
  have hsz : (w2.setCell ⟨g, i * 3 + 1, none⟩ (.slice (some ⟨gb, 0, none⟩) 0 cv)).heap.size = w2.heap.size := by simp
  have hlm : Aside ((f.bytes.take 0).length = 0) := by show _ = _; rw [List.length_take]; omega
  generalize hNN : d1.files.length = NN at *
  clear x0 y0 y1 y2 ev eal HF KA kp h1 p1 s1 hf1 f1 g1 hg hcm hl1 hl2 hcut ecv eav hcf hm
  go_wp2
  go_region
  all_goals
    generalize hW3 : w2.setCell ⟨g, i * 3 + 1, none⟩ (.slice (some ⟨gb, 0, none⟩) 0 cv) = w3 at *
    clear ey1 ey2 ex0 yf yfb
    have ex0 := z0
    have ey2 := z2
    have yf := zf
    rw [← hsz] at hgl hbl
    clear hsz hW3
    have n1 : ¬ b = w3.heap.size := by omega
    have n2 : ¬ g = w3.heap.size := by omega
    have n1' : ¬ w3.heap.size = b := fun e => n1 e.symm
    have n2' : ¬ w3.heap.size = g := fun e => n2 e.symm
    have x0A : ∀ o : Obj, (w3.alloc o).cell? ⟨b, 0, none⟩ = some (.slice (some ⟨g, 0, none⟩) NN cap) := fun o => cell_below ex0 ((Below.refl _ _).alloc (Nat.le_refl _) o)
    have y2A : ∀ o : Obj, (w3.alloc o).cell? ⟨g, i * 3 + 2, none⟩ = some (.slice al f.late.length cl) := fun o => cell_below ey2 ((Below.refl _ _).alloc (Nat.le_refl _) o)
    have yfA : ∀ o : Obj, (w3.alloc o).frozen? ⟨g, i * 3 + 2, none⟩ = false := fun o => (World.frozen?_of_block (a := ⟨g, i * 3 + 2, none⟩) (alloc_old w3 o g hgl)).trans yf
    go_wp2
    go_region
    all_goals
      go_wp2
      go_ret
      obtain ⟨p1, hf1, g1, s1, hcut, hcf⟩ := PL.out
      have hh := hcut.1.newLate (W := (((w3.setCell ⟨g, i * 3 + 2, none⟩ (.slice (some ⟨w3.heap.size, 0, none⟩) 0 0)).alloc (.cells (lcells (List.replicate 0 0)).toArray 3)).drew.drew)) hcf HG.out (List.replicate 0 0) (by rw [List.length_replicate]; omega) (by rw [List.length_replicate, World.setCell_alloc_past (hn := hgl)]; rfl) rfl rfl rfl
      have s2 : Step (d.foot b) (d1.foot b) w w2 := by rw [g1]; exact s1
      refine ⟨rfl, _, hh.1, ?_, s2.trans (hcut.2.trans hh.2)⟩
      simp only [List.set_set]
      exact rpl_setAt p1 hf1 rfl


set_option maxHeartbeats 4000000 in
theorem rcut_pos1 {w : World} {B b i : Nat} {d : Rs} {f : Gv} (h : RRep w B b d) (ok : ROk d.pl) (n : ByteArray) (k : Int) (hp : d.pl.power = true) (hat : atOf d.names n = (i : Int)) (hf : d.files[i]? = some f) (m : Nat) (hm : m < f.bytes.length) (hm0 : (m : Int) = k) :
    Calls Tryz.prog 44 #[.pointer (some ⟨b, 0, none⟩), .string n, .int .i64 k] w fun e w' => e = .returned (.int .i64 0) ∧ ∃ d', RRep w' B b d' ∧ d'.pl = (d.pl.spent.setAt i fun f => ⟨f.name, f.bytes.take m, List.replicate m 0⟩) ∧ Step (d.foot b) (d'.foot b) w w' := by
  have kp := rpower_any h ok.left
  have hfew := ok.dfew
  rw [hp] at kp
  have KA : Aside (∀ (d1 : Rs) (u : World), RRep u B b d1 → d1.files = d.files → Calls Tryz.prog 78 #[.pointer (some ⟨b, 0, none⟩), .string n] u fun e w' => e = .returned (.int .i64 (i : Int)) ∧ w' = u) := fun d1 u hu hf => by
    have := at_any hu (by rw [hf]; omega) n
    rwa [show d1.names = d.names by unfold Rs.names; rw [hf], hat] at this
  have hi : i < d.files.length := (List.getElem?_eq_some_iff.1 hf).1
  obtain ⟨hl1, hl2⟩ := ok.dlate (List.mem_of_getElem? hf)
  have HF : Aside (∀ d1 : Rs, d1.files = d.files → d1.files[i]? = some f) := fun d1 hd => by rw [hd]; exact hf
  subst hm0
  have d3 : decide ((m : Int) < (f.bytes.length : Int)) = true := decide_eq_true (by omega)
  have d3' : decide (m < f.bytes.length) = true := decide_eq_true (by omega)
  have hmk := mk_ints m (by omega)
  clear h hat hf ok hp
  go_enter Tryz.func44, Tryz.ntmps44
  go_wp2_with (first
    | (go_at_call 76; refine kp.mono ?_; rintro e w1 ⟨rfl, d1, h1, p1, f1, g1, s1⟩)
    | (go_at_call 78; refine (KA.out _ _ h1 f1).mono ?_; rintro e w2 ⟨rfl, rfl⟩; have hf1 := HF.out d1 f1
       obtain ⟨g, cap, ev, hcap, hcm, hg⟩ := h1.vf_form hf1
       have x0 := h1.c0
       obtain ⟨y0, y1, y2⟩ := h1.fcells hf1 hg
       have yf := own_frozen h1.tab hg (i * 3 + 2)
       have yfb := own_frozen h1.tab hg (i * 3 + 1)
       obtain ⟨av, cv, eav⟩ := own_any (h1.rb f (List.mem_of_getElem? hf1))
       obtain ⟨al, cl, eal⟩ := own_any (h1.rl f (List.mem_of_getElem? hf1))
       have hgl := (h1.tab.lt g hg).2
       have hbl := h1.b_lt
       have ex0 : w2.cell? ⟨b, 0, none⟩ = some (.slice (some ⟨g, 0, none⟩) d1.files.length cap) := by rw [x0, ev]
       have ey1 : w2.cell? ⟨g, i * 3 + 1, none⟩ = some (.slice av f.bytes.length cv) := by rw [y1, eav]
       have ey2 : w2.cell? ⟨g, i * 3 + 2, none⟩ = some (.slice al f.late.length cl) := by rw [y2, eal]
       have hN1 : i < d1.files.length := (List.getElem?_eq_some_iff.1 hf1).1
       have hN2 : d1.files.length ≤ 16 := by rw [f1]; exact hfew
       have hgb : g ≠ b := h1.b_vf hg
))
  have hcut := h1.cutBytes hf1 hg (n := m) (by omega)
  have hav : ∃ gb, av = some ⟨gb, 0, none⟩ := by
    obtain ⟨gb, c', e, _⟩ := own_form (h1.rb f (List.mem_of_getElem? hf1)) (by omega)
    rw [eav] at e
    injection e with e1 e2 e3
    exact ⟨gb, e1⟩
  obtain ⟨gb, rfl⟩ := hav
  have hcv : f.bytes.length ≤ cv ∧ cv ≤ 9223372036854775807 := by
    obtain ⟨gb', c', e, e1, e2, _⟩ := own_form (h1.rb f (List.mem_of_getElem? hf1)) (by omega)
    rw [eav] at e
    injection e with e3 e4 e5
    unfold maxLen at e2
    omega
  obtain ⟨hcv1, hcv2⟩ := hcv
  have hmc : m ≤ cv := by omega
  have hm6 : m ≤ 60000 := by omega
  have ecv : cutV f.vb m = .slice (some ⟨gb, 0, none⟩) m cv := by rw [eav]; rfl
  rw [ecv] at hcut
  have hcf : ({ d1 with files := d1.files.set i ⟨f.name, f.bytes.take m, f.late, .slice (some ⟨gb, 0, none⟩) m cv, f.vl⟩ } : Rs).files[i]? = some ⟨f.name, f.bytes.take m, f.late, .slice (some ⟨gb, 0, none⟩) m cv, f.vl⟩ := by
    show (d1.files.set i _)[i]? = _
    rw [List.getElem?_set]
    simp [hN1]
  have z0 := hcut.1.c0
  obtain ⟨_, z1, z2⟩ := hcut.1.fcells hcf hg
  have zf := own_frozen hcut.1.tab hg (i * 3 + 2)
  dsimp only at z0 z1 z2
  rw [ev] at z0
  rw [eal] at z2
  have PL : Aside _ := And.intro p1 (And.intro hf1 (And.intro g1 (And.intro s1 (And.intro hcut hcf))))
  have HG : Aside (d1.vf.ownBlock = some g) := hg
  have hsz : (w2.setCell ⟨g, i * 3 + 1, none⟩ (.slice (some ⟨gb, 0, none⟩) m cv)).heap.size = w2.heap.size := by simp
  have hlm : Aside ((f.bytes.take m).length = m) := by show _ = _; rw [List.length_take]; omega
  generalize hNN : d1.files.length = NN at *
  clear x0 y0 y1 y2 ev eal HF KA kp h1 p1 s1 hf1 f1 g1 hg hcm hl1 hl2 hcut ecv eav hcf hm
  go_wp2
  go_region
  all_goals
    generalize hW3 : w2.setCell ⟨g, i * 3 + 1, none⟩ (.slice (some ⟨gb, 0, none⟩) m cv) = w3 at *
    clear ey1 ey2 ex0 yf yfb
    have ex0 := z0
    have ey2 := z2
    have yf := zf
    rw [← hsz] at hgl hbl
    clear hsz hW3
    have n1 : ¬ b = w3.heap.size := by omega
    have n2 : ¬ g = w3.heap.size := by omega
    have n1' : ¬ w3.heap.size = b := fun e => n1 e.symm
    have n2' : ¬ w3.heap.size = g := fun e => n2 e.symm
    have x0A : ∀ o : Obj, (w3.alloc o).cell? ⟨b, 0, none⟩ = some (.slice (some ⟨g, 0, none⟩) NN cap) := fun o => cell_below ex0 ((Below.refl _ _).alloc (Nat.le_refl _) o)
    have y2A : ∀ o : Obj, (w3.alloc o).cell? ⟨g, i * 3 + 2, none⟩ = some (.slice al f.late.length cl) := fun o => cell_below ey2 ((Below.refl _ _).alloc (Nat.le_refl _) o)
    have yfA : ∀ o : Obj, (w3.alloc o).frozen? ⟨g, i * 3 + 2, none⟩ = false := fun o => (World.frozen?_of_block (a := ⟨g, i * 3 + 2, none⟩) (alloc_old w3 o g hgl)).trans yf
    go_wp2
    go_region
    all_goals
      go_wp2
      go_ret
      obtain ⟨p1, hf1, g1, s1, hcut, hcf⟩ := PL.out
      have hh := hcut.1.newLate (W := (((w3.setCell ⟨g, i * 3 + 2, none⟩ (.slice (some ⟨w3.heap.size, 0, none⟩) m m)).alloc (.cells (lcells (List.replicate m 0)).toArray 3)).drew.drew)) hcf HG.out (List.replicate m 0) (by rw [List.length_replicate]; omega) (by rw [List.length_replicate, World.setCell_alloc_past (hn := hgl)]; rfl) rfl rfl rfl
      have s2 : Step (d.foot b) (d1.foot b) w w2 := by rw [g1]; exact s1
      refine ⟨rfl, _, hh.1, ?_, s2.trans (hcut.2.trans hh.2)⟩
      simp only [List.set_set]
      exact rpl_setAt p1 hf1 rfl

end Go.Proofs.YtajjcfacbnicnaaGreatDoor.Dk
