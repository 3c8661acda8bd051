/-
  Ytnmamaeoghgegaa: the texts DX7, DQ, DX8, DR1, one behind the other.
-/
import Derived.Test.YtnmamaeoghgegaaG10
import Derived.Lib.AppendStr
import Derived.WalkKit
import Derived.BigQuiet
/-
  What Append does to a disk's memory: a file is put at its place, has more bytes, there is one piece more.
-/
namespace Go.Proofs.Ytnmamaeoghgegaa.Dk
open Go.RowKit
set_option maxRecDepth 100000

theorem nodup_swap {A X C Y : List Nat} (h : (A ++ (X ++ C)).Nodup) (hY : Y = X ∨ ∃ k, Y = [k] ∧ k ∉ A ∧ k ∉ C) : (A ++ (Y ++ C)).Nodup := by
  rcases hY with rfl | ⟨k, rfl, hA, hC⟩
  · exact h
  · obtain ⟨a, b, c⟩ := List.nodup_append.1 h
    obtain ⟨_, b2, _⟩ := List.nodup_append.1 b
    refine List.nodup_append.2 ⟨a, ?_, ?_⟩
    · exact List.nodup_cons.2 ⟨hC, b2⟩
    · intro x hx y hy e
      subst e
      rcases List.mem_cons.1 hy with rfl | hy
      · exact hA hx
      · exact c x hx x (List.mem_append_right _ hy) rfl

theorem ob_eq {v v' : Value} (h : v'.ownBlock = v.ownBlock) : ob v' = ob v := by unfold ob; rw [h]
theorem ob_some {v : Value} {k : Nat} (h : v.ownBlock = some k) : ob v = [k] := by unfold ob; rw [h]; rfl

/-- The same block, or a new one. -/
def At (w : World) (v v' : Value) : Prop := v'.ownBlock = v.ownBlock ∨ ∃ k, v'.ownBlock = some k ∧ w.heap.size ≤ k

theorem At.ne {w : World} {v v' : Value} (h : At w v v') {j : Nat} (hj : j < w.heap.size) (hv : v.ownBlock ≠ some j) : v'.ownBlock ≠ some j := by
  rcases h with h | ⟨k, h, hk⟩
  · rw [h]; exact hv
  · rw [h]; intro e; injection e; omega
theorem At.sub {w : World} {v v' : Value} (h : At w v v') {k : Nat} (hk : v'.ownBlock = some k) : v.ownBlock = some k ∨ w.heap.size ≤ k := by
  rcases h with h | ⟨j, h, hj⟩
  · exact .inl (h ▸ hk)
  · rw [h] at hk; injection hk with hk; subst hk; exact .inr hj

/-- One piece more. -/
theorem Rep.morePieces {w w1 : World} {B b : Nat} {d : Ds} {v' : Value} {L : List Pc} (h : Rep w B b d) (ho : w1.ownsRow B 75 2 v' L.length (L.flatMap Pc.cells)) (hat : At w d.vp v') (hg : w.grownBy w1 d.vp.ownBlock) :
    Rep (w1.setCell ⟨b, 1, none⟩ v') B b { d with pieces := L, vp := v' } ∧ Step (d.foot b) (Ds.foot b { d with pieces := L, vp := v' }) w (w1.setCell ⟨b, 1, none⟩ v') := by
  have hblk : w1.heap[b]? = some (.cells d.cells 63 (0, 0)) := (hg.block b h.b_lt (fun e => h.b_vp e.symm rfl)).trans h.blk
  have keep : ∀ k, k < w.heap.size → k ≠ b → d.vp.ownBlock ≠ some k → (w1.setCell ⟨b, 1, none⟩ v').heap[k]? = w.heap[k]? := fun k hk hb hp =>
    (Below.heap_setCell w1 ⟨b, 1, none⟩ v' k hb).trans (hg.block k hk (fun e => hp e.symm))
  have hlt := h.lt
  have hvb : ∀ k, v'.ownBlock = some k → k ≠ b := fun k hk e => hat.ne h.b_lt (fun e' => h.b_vp e' rfl) (e ▸ hk)
  have hnd : (Ds.foot b { d with pieces := L, vp := v' }).Nodup := by
    have h0 : (([b] ++ ob d.vf) ++ (ob d.vp ++ d.files.flatMap fun f => ob f.v)).Nodup := by have := h.nodup; rwa [show d.foot b = ([b] ++ ob d.vf) ++ (ob d.vp ++ d.files.flatMap fun f => ob f.v) by simp [Ds.foot]] at this
    have : (([b] ++ ob d.vf) ++ (ob v' ++ d.files.flatMap fun f => ob f.v)).Nodup := by
      refine nodup_swap h0 ?_
      rcases hat with e | ⟨k, e, hk⟩
      · exact .inl (ob_eq e)
      · refine .inr ⟨k, ob_some e, fun hm => ?_, fun hm => ?_⟩
        · have : k ∈ d.foot b := by
            rcases List.mem_append.1 hm with hm | hm
            · rw [List.mem_singleton.1 hm]; exact foot_b
            · exact foot_vf (mem_ob.1 hm)
          have := (hlt k this).2
          omega
        · obtain ⟨f, hf, hm⟩ := List.mem_flatMap.1 hm
          have := (hlt k (foot_f hf (mem_ob.1 hm))).2
          omega
    rw [show Ds.foot b { d with pieces := L, vp := v' } = ([b] ++ ob d.vf) ++ (ob v' ++ d.files.flatMap fun f => ob f.v) by simp [Ds.foot]]
    exact this
  refine ⟨⟨h.ge, set_same hblk rfl, own_frame h.tab fun k hk => keep k (h.tab.lt k hk).2 (h.b_vf hk) (h.vf_vp hk), own_frame ho fun k hk => Below.heap_setCell w1 ⟨b, 1, none⟩ v' k (hvb k hk), fun f hf => own_frame (h.rows f hf) fun k hk => keep k ((h.rows f hf).lt k hk).2 (h.b_f hf hk) (fun e => h.vp_f hf e hk), hnd⟩, ?_⟩
  refine ⟨hg.os, hg.tape, hg.output, by simpa using hg.size, fun k hk hn => keep k hk (fun e => hn (e ▸ foot_b)) (fun e => hn (foot_vp e)), fun k hk => ?_⟩
  rcases foot_cases hk with rfl | hk | hk | ⟨f, hf, hk⟩
  · exact .inl foot_b
  · exact .inl (foot_vf hk)
  · rcases hat.sub hk with e | e
    · exact .inl (foot_vp e)
    · exact .inr e
  · exact .inl (foot_f hf hk)

theorem flat_setv : ∀ (l : List Fv) (i : Nat) (f g : Fv), l[i]? = some f → g.name = f.name → g.sure = f.sure → (l.set i g).flatMap Fv.cells = (l.flatMap Fv.cells).set (i * 3 + 1) g.v
  | [], i, f, g, h, _, _ => by simp at h
  | a :: r, 0, f, g, h, hn, hs => by
    simp at h
    subst h
    simp [List.flatMap_cons, Fv.cells, hn, hs]
  | a :: r, i + 1, f, g, h, hn, hs => by
    have ih := flat_setv r i f g (by simpa using h) hn hs
    simp only [List.set_cons_succ, List.flatMap_cons, ih]
    rw [show (i + 1) * 3 + 1 = (i * 3 + 1) + 3 by omega]
    simp [Fv.cells]
theorem flat_sets : ∀ (l : List Fv) (i : Nat) (f g : Fv), l[i]? = some f → g.name = f.name → g.v = f.v → (l.set i g).flatMap Fv.cells = (l.flatMap Fv.cells).set (i * 3 + 2) (.int .i64 (g.sure : Int))
  | [], i, f, g, h, _, _ => by simp at h
  | a :: r, 0, f, g, h, hn, hs => by
    simp at h
    subst h
    simp [List.flatMap_cons, Fv.cells, hn, hs]
  | a :: r, i + 1, f, g, h, hn, hs => by
    have ih := flat_sets r i f g (by simpa using h) hn hs
    simp only [List.set_cons_succ, List.flatMap_cons, ih]
    rw [show (i + 1) * 3 + 2 = (i * 3 + 2) + 3 by omega]
    simp [Fv.cells]

theorem split_at {α : Type} {l : List α} {i : Nat} {f : α} (h : l[i]? = some f) (f' : α) : ∃ A C, l = A ++ f :: C ∧ l.set i f' = A ++ f' :: C ∧ A.length = i := by
  have hi := (List.getElem?_eq_some_iff.1 h).1
  have he := (List.getElem?_eq_some_iff.1 h).2
  refine ⟨l.take i, l.drop (i + 1), ?_, ?_, by rw [List.length_take]; omega⟩
  · have e := List.drop_eq_getElem_cons hi
    rw [he] at e
    rw [← e, List.take_append_drop]
  · rw [List.set_eq_take_append_cons_drop, if_pos hi]

/-- A file's bytes are others, in the same block or in a new one. -/
theorem Rep.growFile {w w1 : World} {B b g i : Nat} {d : Ds} {f : Fv} {v' : Value} {bs : List UInt8} (h : Rep w B b d) (hf : d.files[i]? = some f) (hg : d.vf.ownBlock = some g)
    (ho : w1.ownsRow B 5 1 v' bs.length (bcells bs)) (hat : At w f.v v') (hgr : w.grownBy w1 f.v.ownBlock) :
    Rep (w1.setCell ⟨g, i * 3 + 1, none⟩ v') B b { d with files := d.files.set i ⟨f.name, bs, f.sure, v'⟩ } ∧ Step (d.foot b) (Ds.foot b { d with files := d.files.set i ⟨f.name, bs, f.sure, v'⟩ }) w (w1.setCell ⟨g, i * 3 + 1, none⟩ v') := by
  have hi : i < d.files.length := (List.getElem?_eq_some_iff.1 hf).1
  have hm : f ∈ d.files := List.mem_of_getElem? hf
  have hlt := h.lt
  have hgl := (h.tab.lt g hg).2
  have hgf : f.v.ownBlock ≠ some g := h.vf_f hm hg
  have keep : ∀ k, k < w.heap.size → k ≠ g → f.v.ownBlock ≠ some k → (w1.setCell ⟨g, i * 3 + 1, none⟩ v').heap[k]? = w.heap[k]? := fun k hk hn hp =>
    (Below.heap_setCell w1 ⟨g, i * 3 + 1, none⟩ v' k hn).trans (hgr.block k hk (fun e => hp e.symm))
  have htab : w1.ownsRow B 70 3 d.vf d.files.length (d.files.flatMap Fv.cells) := own_frame h.tab fun k hk => hgr.block k (h.tab.lt k hk).2 (fun e => by rw [hg] at hk; injection hk with hk; subst hk; exact hgf e.symm)
  have hset := own_set htab hg (i * 3 + 1) (by omega) v'
  rw [← flat_setv d.files i f ⟨f.name, bs, f.sure, v'⟩ hf rfl rfl] at hset
  obtain ⟨A, C, e1, e2, _⟩ := split_at hf (⟨f.name, bs, f.sure, v'⟩ : Fv)
  have hfoot : d.foot b = ([b] ++ ob d.vf ++ ob d.vp ++ A.flatMap (fun f => ob f.v)) ++ (ob f.v ++ C.flatMap fun f => ob f.v) := by
    unfold Ds.foot; rw [e1]; simp
  have hfoot' : Ds.foot b { d with files := d.files.set i ⟨f.name, bs, f.sure, v'⟩ } = ([b] ++ ob d.vf ++ ob d.vp ++ A.flatMap (fun f => ob f.v)) ++ (ob v' ++ C.flatMap fun f => ob f.v) := by
    unfold Ds.foot; simp only; rw [e2]; simp
  have hn0 := h.nodup
  rw [hfoot] at hn0
  have hAC : ∀ x, x ∈ A ∨ x ∈ C → ∀ k, x.v.ownBlock = some k → f.v.ownBlock ≠ some k := by
    intro x hx k hk hfk
    rcases hx with hx | hx
    · exact (List.nodup_append.1 hn0).2.2 k (List.mem_append_right _ (List.mem_flatMap.2 ⟨x, hx, mem_ob.2 hk⟩)) k (List.mem_append_left _ (mem_ob.2 hfk)) rfl
    · exact app_ne (List.nodup_append.1 hn0).2.1 (mem_ob.2 hfk) (List.mem_flatMap.2 ⟨x, hx, mem_ob.2 hk⟩)
  have hin : ∀ x, x ∈ A ∨ x ∈ C → x ∈ d.files := fun x hx => by
    rw [e1]
    rcases hx with hx | hx
    · exact List.mem_append_left _ hx
    · exact List.mem_append_right _ (List.mem_cons_of_mem _ hx)
  refine ⟨⟨h.ge, ?_, by simpa using hset, ?_, ?_, ?_⟩, ?_⟩
  · exact (keep b h.b_lt (fun e => h.b_vf hg e.symm) (fun e => h.b_f hm e rfl)).trans h.blk
  · exact own_frame h.pcs fun k hk => keep k (h.pcs.lt k hk).2 (fun e => h.vf_vp hg (e ▸ hk)) (fun e => h.vp_f hm hk e)
  · intro x hx
    simp only at hx
    rw [e2] at hx
    have : x = ⟨f.name, bs, f.sure, v'⟩ ∨ (x ∈ A ∨ x ∈ C) := by
      rcases List.mem_append.1 hx with hx | hx
      · exact .inr (.inl hx)
      · rcases List.mem_cons.1 hx with hx | hx
        · exact .inl hx
        · exact .inr (.inr hx)
    rcases this with rfl | hx
    · exact own_frame ho fun k hk => Below.heap_setCell w1 ⟨g, i * 3 + 1, none⟩ v' k (fun e => hat.ne hgl hgf (by rw [← show k = g from e]; exact hk))
    · exact own_frame (h.rows x (hin x hx)) fun k hk => keep k ((h.rows x (hin x hx)).lt k hk).2 (fun e => h.vf_f (hin x hx) hg (e ▸ hk)) (hAC x hx k hk)
  · rw [hfoot']
    refine nodup_swap hn0 ?_
    rcases hat with e | ⟨k, e, hk⟩
    · exact .inl (ob_eq e)
    · refine .inr ⟨k, ob_some e, fun hm => ?_, fun hm => ?_⟩
      · have : k ∈ d.foot b := by rw [hfoot]; exact List.mem_append_left _ hm
        have := (hlt k this).2
        omega
      · have : k ∈ d.foot b := by rw [hfoot]; exact List.mem_append_right _ (List.mem_append_right _ hm)
        have := (hlt k this).2
        omega
  · refine ⟨hgr.os, hgr.tape, hgr.output, by simpa using hgr.size, fun k hk hn => keep k hk (fun e => hn (foot_vf (e ▸ hg))) (fun e => hn (foot_f hm e)), fun k hk => ?_⟩
    rw [hfoot'] at hk
    rcases List.mem_append.1 hk with hk | hk
    · exact .inl (by rw [hfoot]; exact List.mem_append_left _ hk)
    · rcases List.mem_append.1 hk with hk | hk
      · rcases hat.sub (mem_ob.1 hk) with e | e
        · exact .inl (foot_f hm e)
        · exact .inr e
      · exact .inl (by rw [hfoot]; exact List.mem_append_right _ (List.mem_append_right _ hk))

theorem flatMap_middle {α β : Type} (g : α → List β) (A C : List α) (f : α) : ((A ++ f :: C).flatMap g).Perm (g f ++ (A ++ C).flatMap g) := by
  simp only [List.flatMap_append, List.flatMap_cons]
  rw [← List.append_assoc, ← List.append_assoc]
  exact List.perm_append_comm.append_right _

/-- A file is put at a place. -/
theorem Rep.insert {w w1 : World} {B b i : Nat} {d : Ds} {f : Fv} {v' : Value} (h : Rep w B b d)
    (ho : w1.ownsRow B 70 3 v' (d.files.length + 1) ((d.files.take i ++ f :: d.files.drop i).flatMap Fv.cells)) (hat : At w d.vf v') (hgr : w.grownBy w1 d.vf.ownBlock) (hi : i ≤ d.files.length)
    (hrow : w.ownsRow B 5 1 f.v f.bytes.length (bcells f.bytes)) (hfr : ∀ k, f.v.ownBlock = some k → k ∉ d.foot b) :
    Rep (w1.setCell ⟨b, 0, none⟩ v') B b { d with files := d.files.take i ++ f :: d.files.drop i, vf := v' } ∧ Step (d.foot b ++ ob f.v) (Ds.foot b { d with files := d.files.take i ++ f :: d.files.drop i, vf := v' }) w (w1.setCell ⟨b, 0, none⟩ v') := by
  have hblk : w1.heap[b]? = some (.cells d.cells 63 (0, 0)) := (hgr.block b h.b_lt (fun e => h.b_vf e.symm rfl)).trans h.blk
  have keep : ∀ k, k < w.heap.size → k ≠ b → d.vf.ownBlock ≠ some k → (w1.setCell ⟨b, 0, none⟩ v').heap[k]? = w.heap[k]? := fun k hk hb hp =>
    (Below.heap_setCell w1 ⟨b, 0, none⟩ v' k hb).trans (hgr.block k hk (fun e => hp e.symm))
  have hlt := h.lt
  have hvb : ∀ k, v'.ownBlock = some k → k ≠ b := fun k hk e => hat.ne h.b_lt (fun e' => h.b_vf e' rfl) (e ▸ hk)
  have hmem : ∀ x, x ∈ d.files.take i ++ f :: d.files.drop i → x = f ∨ x ∈ d.files := fun x hx => by
    rcases List.mem_append.1 hx with hx | hx
    · exact .inr (List.mem_of_mem_take hx)
    · rcases List.mem_cons.1 hx with hx | hx
      · exact .inl hx
      · exact .inr (List.mem_of_mem_drop hx)
  have hnd : (Ds.foot b { d with files := d.files.take i ++ f :: d.files.drop i, vf := v' }).Nodup := by
    have h0 : ([b] ++ (ob d.vf ++ (ob d.vp ++ d.files.flatMap fun f => ob f.v))).Nodup := h.nodup
    have h1 : ([b] ++ (ob v' ++ (ob d.vp ++ d.files.flatMap fun f => ob f.v))).Nodup := by
      refine nodup_swap h0 ?_
      rcases hat with e | ⟨k, e, hk⟩
      · exact .inl (ob_eq e)
      · refine .inr ⟨k, ob_some e, fun hm => ?_, fun hm => ?_⟩
        · have := (hlt k (by rw [List.mem_singleton.1 hm]; exact foot_b)).2
          omega
        · have := (hlt k (List.mem_cons_of_mem _ (List.mem_append_right _ hm))).2
          omega
    have hp : (Ds.foot b { d with files := d.files.take i ++ f :: d.files.drop i, vf := v' }).Perm (ob f.v ++ ([b] ++ (ob v' ++ (ob d.vp ++ d.files.flatMap fun f => ob f.v)))) := by
      have := flatMap_middle (fun f : Fv => ob f.v) (d.files.take i) (d.files.drop i) f
      rw [List.take_append_drop] at this
      unfold Ds.foot
      simp only
      rw [List.perm_iff_count]
      intro a
      have := this.count_eq a
      simp only [List.count_append, List.count_cons, List.count_nil] at this ⊢
      omega
    rw [hp.nodup_iff]
    cases hq : f.v.ownBlock with
    | none => unfold ob; rw [hq]; exact h1
    | some k =>
      rw [ob_some hq]
      refine List.nodup_cons.2 ⟨fun hm => ?_, h1⟩
      replace hm : k ∈ [b] ++ (ob v' ++ (ob d.vp ++ d.files.flatMap fun f => ob f.v)) := hm
      have hkf := hfr k hq
      have hkl := (hrow.lt k hq).2
      rcases List.mem_append.1 hm with hm | hm
      · rw [List.mem_singleton] at hm
        exact hkf (hm ▸ foot_b)
      · rcases List.mem_append.1 hm with hm | hm
        · exact hat.ne hkl (fun e => hkf (foot_vf e)) (mem_ob.1 hm)
        · exact hkf (List.mem_cons_of_mem _ (List.mem_append_right _ hm))
  refine ⟨⟨h.ge, set_same hblk rfl, ?_, own_frame h.pcs fun k hk => keep k (h.pcs.lt k hk).2 (h.b_vp hk) (fun e => h.vf_vp e hk), ?_, hnd⟩, ?_⟩
  · have e : (d.files.take i ++ f :: d.files.drop i).length = d.files.length + 1 := by rw [List.length_append, List.length_cons, List.length_take, List.length_drop]; omega
    simp only
    rw [e]
    exact own_frame ho fun k hk => Below.heap_setCell w1 ⟨b, 0, none⟩ v' k (hvb k hk)
  · intro x hx
    rcases hmem x hx with rfl | hx
    · exact own_frame hrow fun k hk => keep k (hrow.lt k hk).2 (fun e => hfr k hk (e ▸ foot_b)) (fun e => hfr k hk (foot_vf e))
    · exact own_frame (h.rows x hx) fun k hk => keep k ((h.rows x hx).lt k hk).2 (h.b_f hx hk) (fun e => h.vf_f hx e hk)
  · refine ⟨hgr.os, hgr.tape, hgr.output, by simpa using hgr.size, fun k hk hn => keep k hk (fun e => hn (List.mem_append_left _ (e ▸ foot_b))) (fun e => hn (List.mem_append_left _ (foot_vf e))), fun k hk => ?_⟩
    rcases foot_cases hk with rfl | hk | hk | ⟨x, hx, hkx⟩
    · exact .inl (List.mem_append_left _ foot_b)
    · rcases hat.sub hk with e | e
      · exact .inl (List.mem_append_left _ (foot_vf e))
      · exact .inr e
    · exact .inl (List.mem_append_left _ (foot_vp hk))
    · rcases hmem x hx with e | hx
      · exact .inl (List.mem_append_right _ (mem_ob.2 (e ▸ hkx)))
      · exact .inl (List.mem_append_left _ (foot_f hx hkx))

theorem bcells_str (s : ByteArray) : Lib.strCells s = bcells s.data.toList := rfl
theorem bcells_app (a c : List UInt8) : bcells (a ++ c) = bcells a ++ bcells c := by simp [bcells]
theorem info5 : (Try.prog.info? 5).map (fun i => (i.zero, i.size, i.bytes)) = some (some (.int .u8 0), 1, 1) := by kernel_rfl

/-- Bytes of a text are put behind a row of bytes. -/
theorem append_str {w : World} {B : Nat} {v : Value} {l : List UInt8} (h : w.ownsRow B 5 1 v l.length (bcells l)) (s : ByteArray) (hl : l.length + s.size ≤ 1000000) (hB : B ≤ w.heap.size) (ty : TypeId) :
    ∃ v' w', (Builtin.append_ #[49, 9] ty #[v, .string s]).run Try.prog w = .ok v' w' ∧ w'.ownsRow B 5 1 v' (l ++ s.data.toList).length (bcells (l ++ s.data.toList)) ∧ w.grownBy w' v.ownBlock ∧ At w v v' := by
  obtain ⟨i0, hi0, hz0, hzs, hzb⟩ := info_parts info5
  obtain ⟨v', w', hr, h1, h2, h3⟩ := Lib.run_append_own_string w B 49 9 ty 5 i0 Try.underlying49 Try.underlying9 hi0 hz0 hzs hzb v l.length (bcells l) h s (by unfold maxLen; omega) (by omega) hB
  have hs : s.data.toList.length = s.size := by rw [Array.length_toList]; rfl
  refine ⟨v', w', hr, by rw [List.length_append, hs, bcells_app]; exact h1, h2, ?_⟩
  have hxl := bcells_len l
  rcases h.2 with ⟨rfl, h0⟩ | ⟨g, cap, cur, rfl, hbg, hg, hnc, hcm, hcs, htake⟩
  · by_cases hm : s.size = 0
    · rw [h3.2 ⟨rfl, hm⟩]
      exact .inl rfl
    · have hr2 := run_append_nil_string (P := Try.prog) w 49 9 ty 5 i0 (.int .u8 0) Try.underlying49 Try.underlying9 hi0 hz0 s (by omega) (by omega) (by rw [hzb]; omega)
      rw [hr2] at hr
      injection hr with e1 e2
      exact .inr ⟨w.heap.size, by rw [← e1]; rfl, Nat.le_refl _⟩
  · by_cases hroom : l.length + s.size ≤ cap
    · have hr2 := Lib.run_append_room_string (P := Try.prog) w 49 9 ty 5 i0 Try.underlying49 Try.underlying9 hi0 hzs g l.length cap cur hg s hroom (by omega)
      rw [hr2] at hr
      injection hr with e1 e2
      exact .inl (by rw [← e1]; rfl)
    · have holds : ∀ j u, (bcells l)[j]? = some u → w.cell? ((⟨g, 0, none⟩ : Addr).add j) = some u := h.cells (g := g) rfl
      have hr2 := Lib.run_append_grow_string (P := Try.prog) w 49 9 ty 5 i0 (.int .u8 0) Try.underlying49 Try.underlying9 hi0 hz0 ⟨g, 0, none⟩ l.length cap (bcells l) (by rw [hzs]; omega) holds s (by omega) (by omega) (by rw [hzb]; exact growslice_fits (by omega) (by omega))
      rw [hr2] at hr
      injection hr with e1 e2
      exact .inr ⟨w.heap.size, by rw [← e1]; rfl, Nat.le_refl _⟩
end Go.Proofs.Ytnmamaeoghgegaa.Dk

/-
  A region whose order is left open, whose operations only read and whose callees may make memory of their own: one walk, in the order of the text, serves every order.
-/
namespace Go.Proofs.Ytnmamaeoghgegaa.Dk
open Go.RowKit
set_option maxRecDepth 100000

/-- A world that has come of w: what lay in w is as it was. -/
structure Later (w : World) where
  u : World
  bel : Below w.heap.size w u

theorem later_some (w : World) : Nonempty (Later w) := ⟨⟨w, Below.refl _ _⟩⟩

theorem wp_region_later {P : Program} {id : Nat} {Q : Exit → Act → World → Prop} {a : Act} {w : World} {l : List Oper} (hm : P.follows .mixedOrders = true) (hB : Region.lexB .any l.toArray = true)
    (h : wpQuiet P l.toArray (fun w' => ∃ q : Later w, w' = q.u) (fun a' => ∀ w', (∃ q : Later w, w' = q.u) → Q .normal a' w') l a) : (Code.region id l.toArray true).wp P Q a w :=
  wp_region_quiet (C := fun w' => ∃ q : Later w, w' = q.u) hm hB ⟨⟨_, (Below.refl _ _).drew⟩, rfl⟩ (by simpa using h)

theorem calls_later {P : Program} {f : FuncId} {args : Array Value} {w : World} {q : Later w} {v : Value} (h : Calls P f args q.u fun e w' => e = .returned v ∧ Below q.u.heap.size q.u w') :
    Calls P f args q.u fun e w' => e = .returned v ∧ ∃ p : Later w, w' = p.u :=
  h.mono fun _ w' ⟨he, hb⟩ => ⟨he, ⟨w', q.bel.trans (hb.mono q.bel.size)⟩, rfl⟩
end Go.Proofs.Ytnmamaeoghgegaa.Dk

/-
  Append, step by step: what each of its steps leaves.
-/
namespace Go.Proofs.Ytnmamaeoghgegaa.Dk
open Go.RowKit
set_option maxRecDepth 100000

theorem Step.weak {a a' c : List Nat} {u w : World} (h : Step a c u w) (hs : ∀ k ∈ a, k ∈ a' ∨ u.heap.size ≤ k) : Step a' c u w where
  os := h.os
  tape := h.tape
  output := h.output
  size := h.size
  block := fun k hk hn => h.block k hk (fun hm => by
    rcases hs k hm with e | e
    · exact hn e
    · omega)
  sub := fun k hk => by
    rcases h.sub k hk with e | e
    · exact hs k e
    · exact .inr e

theorem own_slice {w : World} {base : Nat} {e : TypeId} {size : Nat} {v : Value} {n : Nat} {xs : List Value} (h : w.ownsRow base e size v n xs) : ∃ a cap, v = .slice a n cap := own_any h

theorem insert_rep {u : World} {B b i : Nat} {d : Ds} {f : Fv} (h : Rep u B b d) (hll : d.files.length ≤ 1000) (hi : i ≤ d.files.length) (hrow : u.ownsRow B 5 1 f.v f.bytes.length (bcells f.bytes)) (hfr : ∀ k, f.v.ownBlock = some k → k ∉ d.foot b) :
    Calls Try.prog 40 #[d.vf, .int .i64 (i : Int), .slice (some ⟨u.heap.size, 0, none⟩) 1 1] (u.alloc (.cells #[.string f.name, f.v, .int .i64 (f.sure : Int)] 70)) fun e w' => ∃ a c, e = .returned (.slice a (d.files.length + 1) c) ∧ w'.cell? ⟨b, 0, none⟩ = some d.vf ∧ w'.frozen? ⟨b, 0, none⟩ = false ∧
      Rep (w'.setCell ⟨b, 0, none⟩ (.slice a (d.files.length + 1) c)) B b { d with files := d.files.take i ++ f :: d.files.drop i, vf := .slice a (d.files.length + 1) c } ∧ Step (d.foot b ++ ob f.v) (Ds.foot b { d with files := d.files.take i ++ f :: d.files.drop i, vf := .slice a (d.files.length + 1) c }) u (w'.setCell ⟨b, 0, none⟩ (.slice a (d.files.length + 1) c)) := by
  have hb0 : Below u.heap.size u (u.alloc (.cells #[.string f.name, f.v, .int .i64 (f.sure : Int)] 70)) := (Below.refl _ _).alloc (Nat.le_refl _) _
  have h1 := h.below hb0
  have hB : B ≤ u.heap.size := by have := h.lt b foot_b; omega
  have hne : d.vf.ownBlock ≠ some u.heap.size := fun e => by have := (h.tab.lt _ e).2; omega
  refine (insert_any B u.heap.size i d.vf d.files f _ h1.tab hi hll (by simp; omega) (heap_alloc_new u _) hne (own_one hrow) h1.one).mono ?_
  rintro e w' ⟨v', rfl, ho, hat, hg⟩
  obtain ⟨a, c, rfl⟩ := own_any ho
  have hat' : At (u.alloc (.cells #[.string f.name, f.v, .int .i64 (f.sure : Int)] 70)) d.vf (.slice a (d.files.length + 1) c) := by
    rcases hat with e | e
    · exact .inl e
    · exact .inr ⟨_, e, Nat.le_refl _⟩
  have hrow1 := own_frame (w' := u.alloc (.cells #[.string f.name, f.v, .int .i64 (f.sure : Int)] 70)) hrow (fun k hk => alloc_old u _ k (hrow.lt k hk).2)
  have := h1.insert ho hat' hg hi hrow1 hfr
  obtain ⟨x1, x2⟩ := h1.refiles_cell hg
  exact ⟨a, c, rfl, x1, x2, this.1, (Step.ofBelow hb0).trans this.2⟩

theorem info66 : (Try.prog.info? 75).map (fun i => (i.zero, i.size, i.bytes)) = some (some (.agg #[.string ⟨#[]⟩, .int .i64 0]), 2, 24) := by kernel_rfl

theorem pieces_rep {u : World} {B b : Nat} {d : Ds} (h : Rep u B b d) (hl : d.pieces.length ≤ 100000) (p : Pc) : ∃ a c w', (Builtin.append_ #[61, 61] 61 #[d.vp, .slice (some ⟨u.heap.size, 0, none⟩) 1 1]).run Try.prog (u.alloc (.cells #[.string p.name, .int .i64 (p.size : Int)] 75)) = .ok (.slice a (d.pieces.length + 1) c) w' ∧ w'.cell? ⟨b, 1, none⟩ = some d.vp ∧ w'.frozen? ⟨b, 1, none⟩ = false ∧
      Rep (w'.setCell ⟨b, 1, none⟩ (.slice a (d.pieces.length + 1) c)) B b { d with pieces := d.pieces ++ [p], vp := .slice a (d.pieces.length + 1) c } ∧ Step (d.foot b) (Ds.foot b { d with pieces := d.pieces ++ [p], vp := .slice a (d.pieces.length + 1) c }) u (w'.setCell ⟨b, 1, none⟩ (.slice a (d.pieces.length + 1) c)) := by
  obtain ⟨i0, hi0, hz0, hzs, hzb⟩ := info_parts info66
  have hb0 : Below u.heap.size u (u.alloc (.cells #[.string p.name, .int .i64 (p.size : Int)] 75)) := (Below.refl _ _).alloc (Nat.le_refl _) _
  have h1 := h.below hb0
  have hB : B ≤ u.heap.size := by have := h.lt b foot_b; omega
  obtain ⟨v', w', hr, ho, hg, _, hat⟩ := run_append_own_at (P := Try.prog) (u.alloc (.cells #[.string p.name, .int .i64 (p.size : Int)] 75)) B 61 61 75 i0 (.agg #[.string ⟨#[]⟩, .int .i64 0]) 2 24 Try.underlying61 hi0 hz0 hzs hzb rfl (by omega) d.vp d.pieces.length (d.pieces.flatMap Pc.cells) h1.pcs ⟨u.heap.size, 0, none⟩ 1 1 p.cells rfl (fun j v hj => by
      rw [Addr.add_lit, Nat.zero_add, cell_of_row _ u.heap.size j _ _ _ (heap_alloc_new u _), ← hj, ← Array.getElem?_toList]
      rfl) (by simp [Pc.cells, Value.oneCell']) (by unfold maxLen; omega) (by omega) (by simp; omega)
  obtain ⟨a, c, rfl⟩ := own_any ho
  have hat' : At (u.alloc (.cells #[.string p.name, .int .i64 (p.size : Int)] 75)) d.vp (.slice a (d.pieces.length + 1) c) := by
    rcases hat with e | e
    · exact .inl e
    · exact .inr ⟨_, e, Nat.le_refl _⟩
  have ho' : w'.ownsRow B 75 2 (.slice a (d.pieces.length + 1) c) (d.pieces ++ [p]).length ((d.pieces ++ [p]).flatMap Pc.cells) := by
    rw [List.length_append, List.flatMap_append, List.flatMap_cons, List.flatMap_nil, List.append_nil]
    exact ho
  have := h1.morePieces ho' hat' hg
  exact ⟨a, c, w', hr, h1.repieces_cell hg, h1.repieces_fz hg, this.1, (Step.ofBelow hb0).trans this.2⟩

theorem bytes_rep {u : World} {B b g i : Nat} {d : Ds} {f : Fv} (h : Rep u B b d) (hf : d.files[i]? = some f) (hg : d.vf.ownBlock = some g) (s : ByteArray) (hl : f.bytes.length + s.size ≤ 1000000) : ∃ a c w', (Builtin.append_ #[49, 9] 49 #[f.v, .string s]).run Try.prog u = .ok (.slice a (f.bytes.length + s.size) c) w' ∧ w'.cell? ⟨b, 0, none⟩ = some d.vf ∧ w'.cell? ⟨g, i * 3 + 1, none⟩ = some f.v ∧ w'.frozen? ⟨g, i * 3 + 1, none⟩ = false ∧
      Rep (w'.setCell ⟨g, i * 3 + 1, none⟩ (.slice a (f.bytes.length + s.size) c)) B b { d with files := d.files.set i ⟨f.name, f.bytes ++ s.data.toList, f.sure, .slice a (f.bytes.length + s.size) c⟩ } ∧ Step (d.foot b) (Ds.foot b { d with files := d.files.set i ⟨f.name, f.bytes ++ s.data.toList, f.sure, .slice a (f.bytes.length + s.size) c⟩ }) u (w'.setCell ⟨g, i * 3 + 1, none⟩ (.slice a (f.bytes.length + s.size) c)) := by
  have hm : f ∈ d.files := List.mem_of_getElem? hf
  have hB : B ≤ u.heap.size := by have := h.lt b foot_b; omega
  obtain ⟨v', w', hr, ho, hgr, hat⟩ := append_str (h.rows f hm) s hl hB 49
  have hs : (f.bytes ++ s.data.toList).length = f.bytes.length + s.size := by rw [List.length_append, Array.length_toList]; rfl
  obtain ⟨a, c, rfl⟩ := own_any ho
  rw [hs] at hr ho hat
  rw [← hs] at ho
  rw [← hs] at hr hat ⊢
  have := h.growFile hf hg ho hat hgr
  refine ⟨a, c, w', hr, ?_, ?_, ?_, this.1, this.2⟩
  · exact hgr.cell h.c0 (fun e => h.b_f hm e.symm rfl)
  · exact hgr.cell (h.fcells hf hg).2.1 (fun e => h.vf_f hm hg e.symm)
  · have htab : w'.ownsRow B 70 3 d.vf d.files.length (d.files.flatMap Fv.cells) := own_frame h.tab fun k hk => hgr.block k (h.tab.lt k hk).2 (fun e => by rw [hg] at hk; injection hk with hk; subst hk; exact h.vf_f hm hg e.symm)
    exact own_frozen htab hg _

def St.more (s : St) (i : Nat) (n x : ByteArray) : St := match s.files[i]? with
  | some f => { s with files := s.files.set i ⟨f.name, f.bytes ++ x.data.toList, f.sure⟩, pieces := s.pieces ++ [⟨n, x.size⟩] }
  | none => s
def St.make (s : St) (n : ByteArray) : St := if has s.names n then s else { s with files := s.files.take (place s.names n) ++ ⟨n, [], 0⟩ :: s.files.drop (place s.names n) }
def St.full (s : St) (n x : ByteArray) : Bool := (!has s.names n && decide (s.files.length = 16)) || decide (s.room < s.total + x.size)
def opAppend (s : St) (n x : ByteArray) : Int × St :=
  if s.power then if mayBe n then if s.full n x then (2, s.spent) else (0, if x.size = 0 then s.spent.make n else (s.spent.make n).more (place s.names n) n x) else (1, s.spent) else (12, s.spent)
end Go.Proofs.Ytnmamaeoghgegaa.Dk

/-
  A disk of the document in memory: its block, the table of its files, their bytes and places.
-/
namespace Go.Proofs.Ytnmamaeoghgegaa.Dk
open Go.RowKit
set_option maxRecDepth 100000

structure Gv where
  name : ByteArray
  bytes : List UInt8
  late : List Nat
  vb : Value
  vl : Value
instance : Inhabited Gv := ⟨⟨⟨#[]⟩, [], [], .slice none 0 0, .slice none 0 0⟩⟩

def Gv.cells (f : Gv) : List Value := [.string f.name, f.vb, f.vl]
def lcells (l : List Nat) : List Value := l.map fun n : Nat => Value.int .i64 (n : Int)
def Gv.obs (f : Gv) : List Nat := ob f.vb ++ ob f.vl

structure Rs where
  files : List Gv
  vf : Value
  count : Nat
  most : Nat
  left : Int
  down : Bool
def Rs.cells (d : Rs) : Array Value := #[d.vf, .int .i64 (d.count : Int), .int .i64 (d.most : Int), .int .i64 d.left, .bool d.down]
def Rs.foot (b : Nat) (d : Rs) : List Nat := b :: (ob d.vf ++ d.files.flatMap Gv.obs)
def Rs.names (d : Rs) : List ByteArray := d.files.map Gv.name

structure RRep (w : World) (B b : Nat) (d : Rs) : Prop where
  ge : B ≤ b
  blk : w.heap[b]? = some (.cells d.cells 82 (0, 0))
  tab : w.ownsRow B 89 3 d.vf d.files.length (d.files.flatMap Gv.cells)
  rb : ∀ f ∈ d.files, w.ownsRow B 5 1 f.vb f.bytes.length (bcells f.bytes)
  rl : ∀ f ∈ d.files, w.ownsRow B 3 1 f.vl f.late.length (lcells f.late)
  nodup : (d.foot b).Nodup

theorem rfoot_b {b : Nat} {d : Rs} : b ∈ d.foot b := List.mem_cons_self
theorem rfoot_vf {b k : Nat} {d : Rs} (h : d.vf.ownBlock = some k) : k ∈ d.foot b := List.mem_cons_of_mem _ (List.mem_append_left _ (mem_ob.2 h))
theorem rfoot_f {b k : Nat} {d : Rs} {f : Gv} (hf : f ∈ d.files) (h : k ∈ f.obs) : k ∈ d.foot b := List.mem_cons_of_mem _ (List.mem_append_right _ (List.mem_flatMap.2 ⟨f, hf, h⟩))
theorem obs_b {f : Gv} {k : Nat} (h : f.vb.ownBlock = some k) : k ∈ f.obs := List.mem_append_left _ (mem_ob.2 h)
theorem obs_l {f : Gv} {k : Nat} (h : f.vl.ownBlock = some k) : k ∈ f.obs := List.mem_append_right _ (mem_ob.2 h)
theorem rfoot_cases {b k : Nat} {d : Rs} (h : k ∈ d.foot b) : k = b ∨ d.vf.ownBlock = some k ∨ ∃ f ∈ d.files, f.vb.ownBlock = some k ∨ f.vl.ownBlock = some k := by
  rcases List.mem_cons.1 h with h | h
  · exact .inl h
  · rcases List.mem_append.1 h with h | h
    · exact .inr (.inl (mem_ob.1 h))
    · obtain ⟨f, hf, hk⟩ := List.mem_flatMap.1 h
      rcases List.mem_append.1 hk with hk | hk
      · exact .inr (.inr ⟨f, hf, .inl (mem_ob.1 hk)⟩)
      · exact .inr (.inr ⟨f, hf, .inr (mem_ob.1 hk)⟩)

theorem RRep.frame {w w' : World} {B b : Nat} {d : Rs} (h : RRep w B b d) (hf : ∀ k ∈ d.foot b, w'.heap[k]? = w.heap[k]?) : RRep w' B b d where
  ge := h.ge
  blk := (hf b rfoot_b).trans h.blk
  tab := own_frame h.tab fun _ hk => hf _ (rfoot_vf hk)
  rb := fun f hm => own_frame (h.rb f hm) fun _ hk => hf _ (rfoot_f hm (obs_b hk))
  rl := fun f hm => own_frame (h.rl f hm) fun _ hk => hf _ (rfoot_f hm (obs_l hk))
  nodup := h.nodup
theorem RRep.lt {w : World} {B b : Nat} {d : Rs} (h : RRep w B b d) : ∀ k ∈ d.foot b, B ≤ k ∧ k < w.heap.size := by
  intro k hk
  rcases rfoot_cases hk with rfl | hk | ⟨f, hf, hk | hk⟩
  · exact ⟨h.ge, (Array.getElem?_eq_some_iff.1 h.blk).1⟩
  · exact h.tab.lt k hk
  · exact (h.rb f hf).lt k hk
  · exact (h.rl f hf).lt k hk
theorem RRep.below {w w' : World} {B b : Nat} {d : Rs} (h : RRep w B b d) (hb : Below w.heap.size w w') : RRep w' B b d := h.frame fun k hk => hb.block k (h.lt k hk).2
theorem RRep.drew {w : World} {B b : Nat} {d : Rs} (h : RRep w B b d) : RRep w.drew B b d := h.frame fun _ _ => rfl
theorem RRep.b_lt {w : World} {B b : Nat} {d : Rs} (h : RRep w B b d) : b < w.heap.size := (h.lt b rfoot_b).2
theorem RRep.c0 {w : World} {B b : Nat} {d : Rs} (h : RRep w B b d) : w.cell? ⟨b, 0, none⟩ = some d.vf := by rw [cell_of_row w b 0 _ _ _ h.blk]; rfl
theorem RRep.c1 {w : World} {B b : Nat} {d : Rs} (h : RRep w B b d) : w.cell? ⟨b, 1, none⟩ = some (.int .i64 (d.count : Int)) := by rw [cell_of_row w b 1 _ _ _ h.blk]; rfl
theorem RRep.c2 {w : World} {B b : Nat} {d : Rs} (h : RRep w B b d) : w.cell? ⟨b, 2, none⟩ = some (.int .i64 (d.most : Int)) := by rw [cell_of_row w b 2 _ _ _ h.blk]; rfl
theorem RRep.c3 {w : World} {B b : Nat} {d : Rs} (h : RRep w B b d) : w.cell? ⟨b, 3, none⟩ = some (.int .i64 d.left) := by rw [cell_of_row w b 3 _ _ _ h.blk]; rfl
theorem RRep.c4 {w : World} {B b : Nat} {d : Rs} (h : RRep w B b d) : w.cell? ⟨b, 4, none⟩ = some (.bool d.down) := by rw [cell_of_row w b 4 _ _ _ h.blk]; rfl
theorem RRep.fz {w : World} {B b : Nat} {d : Rs} (h : RRep w B b d) (j : Nat) : w.frozen? ⟨b, j, none⟩ = false := frozen_of_row w b j _ _ h.blk

theorem RRep.b_vf {w : World} {B b : Nat} {d : Rs} (h : RRep w B b d) {k : Nat} (hk : d.vf.ownBlock = some k) : k ≠ b := fun e =>
  (List.nodup_cons.1 h.nodup).1 (List.mem_append_left _ (mem_ob.2 (e ▸ hk)))
theorem RRep.b_f {w : World} {B b : Nat} {d : Rs} (h : RRep w B b d) {f : Gv} (hf : f ∈ d.files) {k : Nat} (hk : k ∈ f.obs) : k ≠ b := fun e =>
  (List.nodup_cons.1 h.nodup).1 (List.mem_append_right _ (List.mem_flatMap.2 ⟨f, hf, e ▸ hk⟩))
theorem RRep.vf_f {w : World} {B b : Nat} {d : Rs} (h : RRep w B b d) {f : Gv} (hf : f ∈ d.files) {k : Nat} (hk : d.vf.ownBlock = some k) : k ∉ f.obs := fun e =>
  app_ne (List.nodup_cons.1 h.nodup).2 (mem_ob.2 hk) (List.mem_flatMap.2 ⟨f, hf, e⟩)

theorem gflat_len (l : List Gv) : (l.flatMap Gv.cells).length = l.length * 3 := by
  induction l with
  | nil => rfl
  | cons a r ih => simp [List.flatMap_cons, ih, Gv.cells]; omega
theorem gflat_at : ∀ {l : List Gv} {i : Nat} {f : Gv}, l[i]? = some f → (l.flatMap Gv.cells)[i * 3]? = some (.string f.name) ∧ (l.flatMap Gv.cells)[i * 3 + 1]? = some f.vb ∧ (l.flatMap Gv.cells)[i * 3 + 2]? = some f.vl
  | [], i, f, h => by simp at h
  | a :: r, 0, f, h => by
    simp at h
    subst h
    simp [List.flatMap_cons, Gv.cells]
  | a :: r, i + 1, f, h => by
    have ih := gflat_at (l := r) (i := i) (f := f) (by simpa using h)
    simp only [List.flatMap_cons]
    rw [show (i + 1) * 3 = i * 3 + 3 by omega, show i * 3 + 3 + 1 = (i * 3 + 1) + 3 by omega, show i * 3 + 3 + 2 = (i * 3 + 2) + 3 by omega]
    have e : ∀ k, (a.cells ++ r.flatMap Gv.cells)[k + 3]? = (r.flatMap Gv.cells)[k]? := fun k => by
      rw [List.getElem?_append_right (by simp [Gv.cells])]
      congr 1
    rw [e, e, e]
    exact ih
theorem gflat_setb : ∀ (l : List Gv) (i : Nat) (f g : Gv), l[i]? = some f → g.name = f.name → g.vl = f.vl → (l.set i g).flatMap Gv.cells = (l.flatMap Gv.cells).set (i * 3 + 1) g.vb
  | [], i, f, g, h, _, _ => by simp at h
  | a :: r, 0, f, g, h, hn, hs => by
    simp at h
    subst h
    simp [List.flatMap_cons, Gv.cells, hn, hs]
  | a :: r, i + 1, f, g, h, hn, hs => by
    have ih := gflat_setb r i f g (by simpa using h) hn hs
    simp only [List.set_cons_succ, List.flatMap_cons, ih]
    rw [show (i + 1) * 3 + 1 = (i * 3 + 1) + 3 by omega]
    simp [Gv.cells]
theorem gflat_setl : ∀ (l : List Gv) (i : Nat) (f g : Gv), l[i]? = some f → g.name = f.name → g.vb = f.vb → (l.set i g).flatMap Gv.cells = (l.flatMap Gv.cells).set (i * 3 + 2) g.vl
  | [], i, f, g, h, _, _ => by simp at h
  | a :: r, 0, f, g, h, hn, hs => by
    simp at h
    subst h
    simp [List.flatMap_cons, Gv.cells, hn, hs]
  | a :: r, i + 1, f, g, h, hn, hs => by
    have ih := gflat_setl r i f g (by simpa using h) hn hs
    simp only [List.set_cons_succ, List.flatMap_cons, ih]
    rw [show (i + 1) * 3 + 2 = (i * 3 + 2) + 3 by omega]
    simp [Gv.cells]

theorem RRep.vf_form {w : World} {B b i : Nat} {d : Rs} {f : Gv} (h : RRep w B b d) (hf : d.files[i]? = some f) : ∃ g cap, d.vf = .slice (some ⟨g, 0, none⟩) d.files.length cap ∧ d.files.length ≤ cap ∧ cap ≤ maxLen ∧ d.vf.ownBlock = some g := by
  have := (List.getElem?_eq_some_iff.1 hf).1
  exact own_form h.tab (by omega)
theorem RRep.fcells {w : World} {B b i g : Nat} {d : Rs} {f : Gv} (h : RRep w B b d) (hf : d.files[i]? = some f) (hg : d.vf.ownBlock = some g) : w.cell? ⟨g, i * 3, none⟩ = some (.string f.name) ∧ w.cell? ⟨g, i * 3 + 1, none⟩ = some f.vb ∧ w.cell? ⟨g, i * 3 + 2, none⟩ = some f.vl := by
  obtain ⟨c0, c1, c2⟩ := gflat_at hf
  exact ⟨own_cell h.tab hg c0, own_cell h.tab hg c1, own_cell h.tab hg c2⟩

/-- Any file's cells, its slices as such. -/
theorem RRep.row {w : World} {B b : Nat} {d : Rs} (h : RRep w B b d) : ∃ a cap, d.vf = .slice a d.files.length cap ∧ ∀ t, t < d.files.length → ∃ g a' c' a'' c'', a = some ⟨g, 0, none⟩ ∧ w.cell? ⟨g, t * 3, none⟩ = some (.string d.files[t]!.name) ∧ w.cell? ⟨g, t * 3 + 1, none⟩ = some (.slice a' d.files[t]!.bytes.length c') ∧ w.cell? ⟨g, t * 3 + 2, none⟩ = some (.slice a'' d.files[t]!.late.length c'') ∧ ∀ k, k < d.files[t]!.late.length → ∃ gl, a'' = some ⟨gl, 0, none⟩ ∧ w.cell? ⟨gl, k, none⟩ = some (.int .i64 (d.files[t]!.late[k]! : Int)) := by
  obtain ⟨a, cap, e⟩ := own_any h.tab
  refine ⟨a, cap, e, fun t ht => ?_⟩
  obtain ⟨g, c', e', _, _, hg⟩ := own_form h.tab (by omega)
  have hf := getbang d.files t ht
  have hm := List.mem_of_getElem? hf
  obtain ⟨c0, c1, c2⟩ := gflat_at hf
  obtain ⟨a', c'', e''⟩ := own_any (h.rb _ hm)
  obtain ⟨a2, c2', e2'⟩ := own_any (h.rl _ hm)
  have c1' := own_cell h.tab hg c1
  have c2x := own_cell h.tab hg c2
  rw [e''] at c1'
  rw [e2'] at c2x
  rw [e] at e'
  injection e' with e1 e2 e3
  refine ⟨g, a', c'', a2, c2', e1, own_cell h.tab hg c0, c1', c2x, fun k hk => ?_⟩
  obtain ⟨gl, cl, el, _, _, hgl⟩ := own_form (h.rl _ hm) (by omega)
  rw [e2'] at el
  injection el with el1 el2 el3
  refine ⟨gl, el1, own_cell (h.rl _ hm) hgl ?_⟩
  unfold lcells
  rw [List.getElem?_map, getbang _ k hk]
  rfl

/-- Its plain data. -/
structure G where
  name : ByteArray
  bytes : List UInt8
  late : List Nat
structure RS where
  files : List G
  count : Nat
  most : Nat
  left : Int
  down : Bool
def Gv.pl (f : Gv) : G := ⟨f.name, f.bytes, f.late⟩
def Rs.pl (d : Rs) : RS := ⟨d.files.map Gv.pl, d.count, d.most, d.left, d.down⟩
def RS.names (s : RS) : List ByteArray := s.files.map G.name
theorem rnames_pl (d : Rs) : d.pl.names = d.names := by simp [RS.names, Rs.pl, Rs.names, Gv.pl]
theorem rpl_get {d : Rs} {i : Nat} {f : Gv} (h : d.files[i]? = some f) : d.pl.files[i]? = some f.pl := by
  show (d.files.map Gv.pl)[i]? = _
  rw [List.getElem?_map, h]
  rfl

theorem RRep.scal {w w' : World} {B b : Nat} {d d' : Rs} (h : RRep w B b d) (hf : d'.files = d.files) (hvf : d'.vf = d.vf)
    (hblk : w'.heap[b]? = some (.cells d'.cells 82 (0, 0))) (ho : ∀ k, k ≠ b → w'.heap[k]? = w.heap[k]?) : RRep w' B b d' := by
  have hfo : d'.foot b = d.foot b := by unfold Rs.foot; rw [hf, hvf]
  refine ⟨h.ge, hblk, ?_, ?_, ?_, by rw [hfo]; exact h.nodup⟩
  · rw [hf, hvf]
    exact own_frame h.tab fun k hk => ho k (h.b_vf hk)
  · rw [hf]
    exact fun f hm => own_frame (h.rb f hm) fun k hk => ho k (h.b_f hm (obs_b hk))
  · rw [hf]
    exact fun f hm => own_frame (h.rl f hm) fun k hk => ho k (h.b_f hm (obs_l hk))

/-! What is asked of it, and what is set. -/
def rRoom (s : RS) (n : Int) : RS := { s with most := (min (max n 0) 60000).toNat }
def rFuse (s : RS) (n : Int) : RS := if s.down then s else { s with left := if n < 0 then -1 else n }
def RS.power (s : RS) : Bool := !(s.down || decide (s.left = 0))
def RS.spent (s : RS) : RS := { s with down := !s.power, left := if 0 < s.left then s.left - 1 else s.left }

theorem rroom_any {w : World} {B b : Nat} {d : Rs} (h : RRep w B b d) (n : Int) :
    Calls Try.prog 43 #[.pointer (some ⟨b, 0, none⟩), .int .i64 n] w fun e w' => e = .returned (.tuple #[]) ∧ ∃ d', RRep w' B b d' ∧ d'.pl = rRoom d.pl n ∧ Step (d.foot b) (d'.foot b) w w' := by
  have c2 := h.c2
  have f2 := h.fz 2
  have A : Aside (RRep w B b d) := h
  unfold rRoom
  clear h
  have fin : Aside (∀ m : Nat, (m : Int) = min (max n 0) 60000 → RRep (w.setCell ⟨b, 2, none⟩ (.int .i64 (m : Int))) B b { d with most := m } ∧ Rs.pl { d with most := m } = { d.pl with most := (min (max n 0) 60000).toNat }) := fun m hm => ⟨A.out.scal rfl rfl (set_same A.out.blk rfl) (fun k hk => Below.heap_setCell _ _ _ _ hk), by rw [show (min (max n 0) 60000).toNat = m by omega]; rfl⟩
  by_cases h1 : n < 0
  · go_enter Try.func43, Try.ntmps43
    go_wp2
    go_end0
    exact ⟨rfl, { d with most := 0 }, (fin.out 0 (by omega)).1, (fin.out 0 (by omega)).2, Step.setb _ rfoot_b _ _⟩
  · by_cases h2 : 60000 < n
    · have d1 : decide (n < 0) = false := by simpa using h1
      go_enter Try.func43, Try.ntmps43
      go_wp2
      go_end0
      exact ⟨rfl, { d with most := 60000 }, (fin.out 60000 (by omega)).1, (fin.out 60000 (by omega)).2, Step.setb _ rfoot_b _ _⟩
    · have d1 : decide (n < 0) = false := by simpa using h1
      have d2 : decide (60000 < n) = false := by simpa using h2
      obtain ⟨m, hm⟩ : ∃ m : Nat, (m : Int) = n := ⟨n.toNat, by omega⟩
      have F2 : Aside _ := fin.out m (by omega)
      rw [hm] at F2
      clear hm fin
      go_enter Try.func43, Try.ntmps43
      go_wp2
      go_end0
      exact ⟨rfl, { d with most := m }, F2.out.1, F2.out.2, Step.setb _ rfoot_b _ _⟩

theorem rfuse_any {w : World} {B b : Nat} {d : Rs} (h : RRep w B b d) (n : Int) :
    Calls Try.prog 57 #[.pointer (some ⟨b, 0, none⟩), .int .i64 n] w fun e w' => e = .returned (.tuple #[]) ∧ ∃ d', RRep w' B b d' ∧ d'.pl = rFuse d.pl n ∧ Step (d.foot b) (d'.foot b) w w' := by
  have c3 := h.c3
  have c4 := h.c4
  have f3 := h.fz 3
  have A : Aside (RRep w B b d) := h
  unfold rFuse
  show Calls Try.prog 57 _ w fun e w' => e = .returned (.tuple #[]) ∧ ∃ d', RRep w' B b d' ∧ d'.pl = (if d.down then d.pl else _) ∧ Step (d.foot b) (d'.foot b) w w'
  clear h
  cases hd : d.down with
  | true =>
    rw [hd] at c4
    go_enter Try.func57, Try.ntmps57
    go_wp2
    try simp only [Exit.inBlock, Exit.then]
    refine bodyPost_ret (results_none rfl _ _ _) rfl ?_
    exact ⟨rfl, d, A.out, by simp, Step.refl _ _⟩
  | false =>
    rw [hd] at c4
    by_cases hn : n < 0
    · have d1 : decide (n < 0) = true := by simpa using hn
      go_enter Try.func57, Try.ntmps57
      go_wp2
      go_end0
      exact ⟨rfl, { d with left := -1 }, A.out.scal rfl rfl (set_same (set_same A.out.blk rfl) rfl) (fun k hk => (Below.heap_setCell _ _ _ _ hk).trans (Below.heap_setCell _ _ _ _ hk)), by simp [Rs.pl], (Step.setb _ rfoot_b _ _).trans (Step.setb _ rfoot_b _ _)⟩
    · have d1 : decide (n < 0) = false := by simpa using hn
      go_enter Try.func57, Try.ntmps57
      go_wp2
      go_end0
      exact ⟨rfl, { d with left := n }, A.out.scal rfl rfl (set_same A.out.blk rfl) (fun k hk => Below.heap_setCell _ _ _ _ hk), by simp [Rs.pl], Step.setb _ rfoot_b _ _⟩

theorem rpower_any {w : World} {B b : Nat} {d : Rs} (h : RRep w B b d) (hl : d.left ≤ 9223372036854775807) :
    Calls Try.prog 86 #[.pointer (some ⟨b, 0, none⟩)] w fun e w' => e = .returned (.bool d.pl.power) ∧ ∃ d', RRep w' B b d' ∧ d'.pl = d.pl.spent ∧ d'.files = d.files ∧ d'.foot b = d.foot b ∧ Step (d.foot b) (d.foot b) w w' := by
  have c3 := h.c3
  have c4 := h.c4
  have f3 := h.fz 3
  have f4 := h.fz 4
  have A : Aside (RRep w B b d) := h
  clear h
  obtain ⟨files, vf, count, most, left, down⟩ := d
  simp only at c3 c4 hl
  by_cases h0 : left = 0
  · subst h0
    go_enter Try.func86, Try.ntmps86
    go_wp2
    go_ret
    refine ⟨by simp [RS.power, Rs.pl], ⟨files, vf, count, most, 0, true⟩, A.out.scal rfl rfl (set_same A.out.blk rfl) (fun k hk => Below.heap_setCell _ _ _ _ hk), by simp [RS.spent, RS.power, Rs.pl], rfl, rfl, Step.setb _ rfoot_b _ _⟩
  · have d0 : (left == 0) = false := by simpa using h0
    by_cases hp : 0 < left
    · have d1 : decide (0 < left) = true := by simpa using hp
      have hw : IntKind.i64.wrap (left - 1) = left - 1 := by rw [IntKind.wrap_i64]; omega
      cases down <;> (go_enter Try.func86, Try.ntmps86; go_wp2; go_ret)
      · exact ⟨by simp [RS.power, Rs.pl, h0], ⟨files, vf, count, most, left - 1, false⟩, A.out.scal rfl rfl (set_same A.out.blk rfl) (fun k hk => Below.heap_setCell _ _ _ _ hk), by simp [RS.spent, RS.power, Rs.pl, h0, hp], rfl, rfl, Step.setb _ rfoot_b _ _⟩
      · exact ⟨by simp [RS.power, Rs.pl], ⟨files, vf, count, most, left - 1, true⟩, A.out.scal rfl rfl (set_same A.out.blk rfl) (fun k hk => Below.heap_setCell _ _ _ _ hk), by simp [RS.spent, RS.power, Rs.pl, hp], rfl, rfl, Step.setb _ rfoot_b _ _⟩
    · have d1 : decide (0 < left) = false := by simpa using hp
      cases down <;> (go_enter Try.func86, Try.ntmps86; go_wp2; go_ret)
      · exact ⟨by simp [RS.power, Rs.pl, h0], ⟨files, vf, count, most, left, false⟩, A.out, by unfold RS.spent RS.power Rs.pl; simp only [if_neg (Int.not_lt.2 hp)]; simp [h0], rfl, rfl, Step.refl _ _⟩
      · exact ⟨by simp [RS.power, Rs.pl], ⟨files, vf, count, most, left, true⟩, A.out, by unfold RS.spent RS.power Rs.pl; simp only [if_neg (Int.not_lt.2 hp)]; simp, rfl, rfl, Step.refl _ _⟩
end Go.Proofs.Ytnmamaeoghgegaa.Dk
