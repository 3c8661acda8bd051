/-
  What Append does to a disk's memory: a file is put at its place, has more bytes, there is one piece more.
-/
import Derived.Test.YtblhkhgcaheplaaGreatDoorDX6
import Derived.Lib.AppendStr
namespace Go.Proofs.YtblhkhgcaheplaaGreatDoor.Dk
open Go.RowKit
set_option maxRecDepth 100000

theorem nodup_swap {A X C Y : List Nat} (h : (A ++ (X ++ C)).Nodup) (hY : Y = X ∨ ∃ k, Y = [k] ∧ k ∉ A ∧ k ∉ C) : (A ++ (Y ++ C)).Nodup := by
  rcases hY with rfl | ⟨k, rfl, hA, hC⟩
  · exact h
  · obtain ⟨a, b, c⟩ := List.nodup_append.1 h
    obtain ⟨_, b2, _⟩ := List.nodup_append.1 b
    refine List.nodup_append.2 ⟨a, ?_, ?_⟩
    · exact List.nodup_cons.2 ⟨hC, b2⟩
    · intro x hx y hy e
      subst e
      rcases List.mem_cons.1 hy with rfl | hy
      · exact hA hx
      · exact c x hx x (List.mem_append_right _ hy) rfl

theorem ob_eq {v v' : Value} (h : v'.ownBlock = v.ownBlock) : ob v' = ob v := by unfold ob; rw [h]
theorem ob_some {v : Value} {k : Nat} (h : v.ownBlock = some k) : ob v = [k] := by unfold ob; rw [h]; rfl

/-- The same block, or a new one. -/
def At (w : World) (v v' : Value) : Prop := v'.ownBlock = v.ownBlock ∨ ∃ k, v'.ownBlock = some k ∧ w.heap.size ≤ k

theorem At.ne {w : World} {v v' : Value} (h : At w v v') {j : Nat} (hj : j < w.heap.size) (hv : v.ownBlock ≠ some j) : v'.ownBlock ≠ some j := by
  rcases h with h | ⟨k, h, hk⟩
  · rw [h]; exact hv
  · rw [h]; intro e; injection e; omega
theorem At.sub {w : World} {v v' : Value} (h : At w v v') {k : Nat} (hk : v'.ownBlock = some k) : v.ownBlock = some k ∨ w.heap.size ≤ k := by
  rcases h with h | ⟨j, h, hj⟩
  · exact .inl (h ▸ hk)
  · rw [h] at hk; injection hk with hk; subst hk; exact .inr hj

/-- One piece more. -/
theorem Rep.morePieces {w w1 : World} {B b : Nat} {d : Ds} {v' : Value} {L : List Pc} (h : Rep w B b d) (ho : w1.ownsRow B 54 2 v' L.length (L.flatMap Pc.cells)) (hat : At w d.vp v') (hg : w.grownBy w1 d.vp.ownBlock) :
    Rep (w1.setCell ⟨b, 1, none⟩ v') B b { d with pieces := L, vp := v' } ∧ Step (d.foot b) (Ds.foot b { d with pieces := L, vp := v' }) w (w1.setCell ⟨b, 1, none⟩ v') := by
  have hblk : w1.heap[b]? = some (.cells d.cells 44 (0, 0)) := (hg.block b h.b_lt (fun e => h.b_vp e.symm rfl)).trans h.blk
  have keep : ∀ k, k < w.heap.size → k ≠ b → d.vp.ownBlock ≠ some k → (w1.setCell ⟨b, 1, none⟩ v').heap[k]? = w.heap[k]? := fun k hk hb hp =>
    (Below.heap_setCell w1 ⟨b, 1, none⟩ v' k hb).trans (hg.block k hk (fun e => hp e.symm))
  have hlt := h.lt
  have hvb : ∀ k, v'.ownBlock = some k → k ≠ b := fun k hk e => hat.ne h.b_lt (fun e' => h.b_vp e' rfl) (e ▸ hk)
  have hnd : (Ds.foot b { d with pieces := L, vp := v' }).Nodup := by
    have h0 : (([b] ++ ob d.vf) ++ (ob d.vp ++ d.files.flatMap fun f => ob f.v)).Nodup := by have := h.nodup; rwa [show d.foot b = ([b] ++ ob d.vf) ++ (ob d.vp ++ d.files.flatMap fun f => ob f.v) by simp [Ds.foot]] at this
    have : (([b] ++ ob d.vf) ++ (ob v' ++ d.files.flatMap fun f => ob f.v)).Nodup := by
      refine nodup_swap h0 ?_
      rcases hat with e | ⟨k, e, hk⟩
      · exact .inl (ob_eq e)
      · refine .inr ⟨k, ob_some e, fun hm => ?_, fun hm => ?_⟩
        · have : k ∈ d.foot b := by
            rcases List.mem_append.1 hm with hm | hm
            · rw [List.mem_singleton.1 hm]; exact foot_b
            · exact foot_vf (mem_ob.1 hm)
          have := (hlt k this).2
          omega
        · obtain ⟨f, hf, hm⟩ := List.mem_flatMap.1 hm
          have := (hlt k (foot_f hf (mem_ob.1 hm))).2
          omega
    rw [show Ds.foot b { d with pieces := L, vp := v' } = ([b] ++ ob d.vf) ++ (ob v' ++ d.files.flatMap fun f => ob f.v) by simp [Ds.foot]]
    exact this
  refine ⟨⟨h.ge, set_same hblk rfl, own_frame h.tab fun k hk => keep k (h.tab.lt k hk).2 (h.b_vf hk) (h.vf_vp hk), own_frame ho fun k hk => Below.heap_setCell w1 ⟨b, 1, none⟩ v' k (hvb k hk), fun f hf => own_frame (h.rows f hf) fun k hk => keep k ((h.rows f hf).lt k hk).2 (h.b_f hf hk) (fun e => h.vp_f hf e hk), hnd⟩, ?_⟩
  refine ⟨hg.os, hg.tape, hg.output, by simpa using hg.size, fun k hk hn => keep k hk (fun e => hn (e ▸ foot_b)) (fun e => hn (foot_vp e)), fun k hk => ?_⟩
  rcases foot_cases hk with rfl | hk | hk | ⟨f, hf, hk⟩
  · exact .inl foot_b
  · exact .inl (foot_vf hk)
  · rcases hat.sub hk with e | e
    · exact .inl (foot_vp e)
    · exact .inr e
  · exact .inl (foot_f hf hk)

theorem flat_setv : ∀ (l : List Fv) (i : Nat) (f g : Fv), l[i]? = some f → g.name = f.name → g.sure = f.sure → (l.set i g).flatMap Fv.cells = (l.flatMap Fv.cells).set (i * 3 + 1) g.v
  | [], i, f, g, h, _, _ => by simp at h
  | a :: r, 0, f, g, h, hn, hs => by
    simp at h
    subst h
    simp [List.flatMap_cons, Fv.cells, hn, hs]
  | a :: r, i + 1, f, g, h, hn, hs => by
    have ih := flat_setv r i f g (by simpa using h) hn hs
    simp only [List.set_cons_succ, List.flatMap_cons, ih]
    rw [show (i + 1) * 3 + 1 = (i * 3 + 1) + 3 by omega]
    simp [Fv.cells]
theorem flat_sets : ∀ (l : List Fv) (i : Nat) (f g : Fv), l[i]? = some f → g.name = f.name → g.v = f.v → (l.set i g).flatMap Fv.cells = (l.flatMap Fv.cells).set (i * 3 + 2) (.int .i64 (g.sure : Int))
  | [], i, f, g, h, _, _ => by simp at h
  | a :: r, 0, f, g, h, hn, hs => by
    simp at h
    subst h
    simp [List.flatMap_cons, Fv.cells, hn, hs]
  | a :: r, i + 1, f, g, h, hn, hs => by
    have ih := flat_sets r i f g (by simpa using h) hn hs
    simp only [List.set_cons_succ, List.flatMap_cons, ih]
    rw [show (i + 1) * 3 + 2 = (i * 3 + 2) + 3 by omega]
    simp [Fv.cells]

theorem split_at {α : Type} {l : List α} {i : Nat} {f : α} (h : l[i]? = some f) (f' : α) : ∃ A C, l = A ++ f :: C ∧ l.set i f' = A ++ f' :: C ∧ A.length = i := by
  have hi := (List.getElem?_eq_some_iff.1 h).1
  have he := (List.getElem?_eq_some_iff.1 h).2
  refine ⟨l.take i, l.drop (i + 1), ?_, ?_, by rw [List.length_take]; omega⟩
  · have e := List.drop_eq_getElem_cons hi
    rw [he] at e
    rw [← e, List.take_append_drop]
  · rw [List.set_eq_take_append_cons_drop, if_pos hi]

/-- A file's bytes are others, in the same block or in a new one. -/
theorem Rep.growFile {w w1 : World} {B b g i : Nat} {d : Ds} {f : Fv} {v' : Value} {bs : List UInt8} (h : Rep w B b d) (hf : d.files[i]? = some f) (hg : d.vf.ownBlock = some g)
    (ho : w1.ownsRow B 5 1 v' bs.length (bcells bs)) (hat : At w f.v v') (hgr : w.grownBy w1 f.v.ownBlock) :
    Rep (w1.setCell ⟨g, i * 3 + 1, none⟩ v') B b { d with files := d.files.set i ⟨f.name, bs, f.sure, v'⟩ } ∧ Step (d.foot b) (Ds.foot b { d with files := d.files.set i ⟨f.name, bs, f.sure, v'⟩ }) w (w1.setCell ⟨g, i * 3 + 1, none⟩ v') := by
  have hi : i < d.files.length := (List.getElem?_eq_some_iff.1 hf).1
  have hm : f ∈ d.files := List.mem_of_getElem? hf
  have hlt := h.lt
  have hgl := (h.tab.lt g hg).2
  have hgf : f.v.ownBlock ≠ some g := h.vf_f hm hg
  have keep : ∀ k, k < w.heap.size → k ≠ g → f.v.ownBlock ≠ some k → (w1.setCell ⟨g, i * 3 + 1, none⟩ v').heap[k]? = w.heap[k]? := fun k hk hn hp =>
    (Below.heap_setCell w1 ⟨g, i * 3 + 1, none⟩ v' k hn).trans (hgr.block k hk (fun e => hp e.symm))
  have htab : w1.ownsRow B 52 3 d.vf d.files.length (d.files.flatMap Fv.cells) := own_frame h.tab fun k hk => hgr.block k (h.tab.lt k hk).2 (fun e => by rw [hg] at hk; injection hk with hk; subst hk; exact hgf e.symm)
  have hset := own_set htab hg (i * 3 + 1) (by omega) v'
  rw [← flat_setv d.files i f ⟨f.name, bs, f.sure, v'⟩ hf rfl rfl] at hset
  obtain ⟨A, C, e1, e2, _⟩ := split_at hf (⟨f.name, bs, f.sure, v'⟩ : Fv)
  have hfoot : d.foot b = ([b] ++ ob d.vf ++ ob d.vp ++ A.flatMap (fun f => ob f.v)) ++ (ob f.v ++ C.flatMap fun f => ob f.v) := by
    unfold Ds.foot; rw [e1]; simp
  have hfoot' : Ds.foot b { d with files := d.files.set i ⟨f.name, bs, f.sure, v'⟩ } = ([b] ++ ob d.vf ++ ob d.vp ++ A.flatMap (fun f => ob f.v)) ++ (ob v' ++ C.flatMap fun f => ob f.v) := by
    unfold Ds.foot; simp only; rw [e2]; simp
  have hn0 := h.nodup
  rw [hfoot] at hn0
  have hAC : ∀ x, x ∈ A ∨ x ∈ C → ∀ k, x.v.ownBlock = some k → f.v.ownBlock ≠ some k := by
    intro x hx k hk hfk
    rcases hx with hx | hx
    · exact (List.nodup_append.1 hn0).2.2 k (List.mem_append_right _ (List.mem_flatMap.2 ⟨x, hx, mem_ob.2 hk⟩)) k (List.mem_append_left _ (mem_ob.2 hfk)) rfl
    · exact app_ne (List.nodup_append.1 hn0).2.1 (mem_ob.2 hfk) (List.mem_flatMap.2 ⟨x, hx, mem_ob.2 hk⟩)
  have hin : ∀ x, x ∈ A ∨ x ∈ C → x ∈ d.files := fun x hx => by
    rw [e1]
    rcases hx with hx | hx
    · exact List.mem_append_left _ hx
    · exact List.mem_append_right _ (List.mem_cons_of_mem _ hx)
  refine ⟨⟨h.ge, ?_, by simpa using hset, ?_, ?_, ?_⟩, ?_⟩
  · exact (keep b h.b_lt (fun e => h.b_vf hg e.symm) (fun e => h.b_f hm e rfl)).trans h.blk
  · exact own_frame h.pcs fun k hk => keep k (h.pcs.lt k hk).2 (fun e => h.vf_vp hg (e ▸ hk)) (fun e => h.vp_f hm hk e)
  · intro x hx
    simp only at hx
    rw [e2] at hx
    have : x = ⟨f.name, bs, f.sure, v'⟩ ∨ (x ∈ A ∨ x ∈ C) := by
      rcases List.mem_append.1 hx with hx | hx
      · exact .inr (.inl hx)
      · rcases List.mem_cons.1 hx with hx | hx
        · exact .inl hx
        · exact .inr (.inr hx)
    rcases this with rfl | hx
    · exact own_frame ho fun k hk => Below.heap_setCell w1 ⟨g, i * 3 + 1, none⟩ v' k (fun e => hat.ne hgl hgf (by rw [← show k = g from e]; exact hk))
    · exact own_frame (h.rows x (hin x hx)) fun k hk => keep k ((h.rows x (hin x hx)).lt k hk).2 (fun e => h.vf_f (hin x hx) hg (e ▸ hk)) (hAC x hx k hk)
  · rw [hfoot']
    refine nodup_swap hn0 ?_
    rcases hat with e | ⟨k, e, hk⟩
    · exact .inl (ob_eq e)
    · refine .inr ⟨k, ob_some e, fun hm => ?_, fun hm => ?_⟩
      · have : k ∈ d.foot b := by rw [hfoot]; exact List.mem_append_left _ hm
        have := (hlt k this).2
        omega
      · have : k ∈ d.foot b := by rw [hfoot]; exact List.mem_append_right _ (List.mem_append_right _ hm)
        have := (hlt k this).2
        omega
  · refine ⟨hgr.os, hgr.tape, hgr.output, by simpa using hgr.size, fun k hk hn => keep k hk (fun e => hn (foot_vf (e ▸ hg))) (fun e => hn (foot_f hm e)), fun k hk => ?_⟩
    rw [hfoot'] at hk
    rcases List.mem_append.1 hk with hk | hk
    · exact .inl (by rw [hfoot]; exact List.mem_append_left _ hk)
    · rcases List.mem_append.1 hk with hk | hk
      · rcases hat.sub (mem_ob.1 hk) with e | e
        · exact .inl (foot_f hm e)
        · exact .inr e
      · exact .inl (by rw [hfoot]; exact List.mem_append_right _ (List.mem_append_right _ hk))

theorem flatMap_middle {α β : Type} (g : α → List β) (A C : List α) (f : α) : ((A ++ f :: C).flatMap g).Perm (g f ++ (A ++ C).flatMap g) := by
  simp only [List.flatMap_append, List.flatMap_cons]
  rw [← List.append_assoc, ← List.append_assoc]
  exact List.perm_append_comm.append_right _

/-- A file is put at a place. -/
theorem Rep.insert {w w1 : World} {B b i : Nat} {d : Ds} {f : Fv} {v' : Value} (h : Rep w B b d)
    (ho : w1.ownsRow B 52 3 v' (d.files.length + 1) ((d.files.take i ++ f :: d.files.drop i).flatMap Fv.cells)) (hat : At w d.vf v') (hgr : w.grownBy w1 d.vf.ownBlock) (hi : i ≤ d.files.length)
    (hrow : w.ownsRow B 5 1 f.v f.bytes.length (bcells f.bytes)) (hfr : ∀ k, f.v.ownBlock = some k → k ∉ d.foot b) :
    Rep (w1.setCell ⟨b, 0, none⟩ v') B b { d with files := d.files.take i ++ f :: d.files.drop i, vf := v' } ∧ Step (d.foot b ++ ob f.v) (Ds.foot b { d with files := d.files.take i ++ f :: d.files.drop i, vf := v' }) w (w1.setCell ⟨b, 0, none⟩ v') := by
  have hblk : w1.heap[b]? = some (.cells d.cells 44 (0, 0)) := (hgr.block b h.b_lt (fun e => h.b_vf e.symm rfl)).trans h.blk
  have keep : ∀ k, k < w.heap.size → k ≠ b → d.vf.ownBlock ≠ some k → (w1.setCell ⟨b, 0, none⟩ v').heap[k]? = w.heap[k]? := fun k hk hb hp =>
    (Below.heap_setCell w1 ⟨b, 0, none⟩ v' k hb).trans (hgr.block k hk (fun e => hp e.symm))
  have hlt := h.lt
  have hvb : ∀ k, v'.ownBlock = some k → k ≠ b := fun k hk e => hat.ne h.b_lt (fun e' => h.b_vf e' rfl) (e ▸ hk)
  have hmem : ∀ x, x ∈ d.files.take i ++ f :: d.files.drop i → x = f ∨ x ∈ d.files := fun x hx => by
    rcases List.mem_append.1 hx with hx | hx
    · exact .inr (List.mem_of_mem_take hx)
    · rcases List.mem_cons.1 hx with hx | hx
      · exact .inl hx
      · exact .inr (List.mem_of_mem_drop hx)
  have hnd : (Ds.foot b { d with files := d.files.take i ++ f :: d.files.drop i, vf := v' }).Nodup := by
    have h0 : ([b] ++ (ob d.vf ++ (ob d.vp ++ d.files.flatMap fun f => ob f.v))).Nodup := h.nodup
    have h1 : ([b] ++ (ob v' ++ (ob d.vp ++ d.files.flatMap fun f => ob f.v))).Nodup := by
      refine nodup_swap h0 ?_
      rcases hat with e | ⟨k, e, hk⟩
      · exact .inl (ob_eq e)
      · refine .inr ⟨k, ob_some e, fun hm => ?_, fun hm => ?_⟩
        · have := (hlt k (by rw [List.mem_singleton.1 hm]; exact foot_b)).2
          omega
        · have := (hlt k (List.mem_cons_of_mem _ (List.mem_append_right _ hm))).2
          omega
    have hp : (Ds.foot b { d with files := d.files.take i ++ f :: d.files.drop i, vf := v' }).Perm (ob f.v ++ ([b] ++ (ob v' ++ (ob d.vp ++ d.files.flatMap fun f => ob f.v)))) := by
      have := flatMap_middle (fun f : Fv => ob f.v) (d.files.take i) (d.files.drop i) f
      rw [List.take_append_drop] at this
      unfold Ds.foot
      simp only
      rw [List.perm_iff_count]
      intro a
      have := this.count_eq a
      simp only [List.count_append, List.count_cons, List.count_nil] at this ⊢
      omega
    rw [hp.nodup_iff]
    cases hq : f.v.ownBlock with
    | none => unfold ob; rw [hq]; exact h1
    | some k =>
      rw [ob_some hq]
      refine List.nodup_cons.2 ⟨fun hm => ?_, h1⟩
      replace hm : k ∈ [b] ++ (ob v' ++ (ob d.vp ++ d.files.flatMap fun f => ob f.v)) := hm
      have hkf := hfr k hq
      have hkl := (hrow.lt k hq).2
      rcases List.mem_append.1 hm with hm | hm
      · rw [List.mem_singleton] at hm
        exact hkf (hm ▸ foot_b)
      · rcases List.mem_append.1 hm with hm | hm
        · exact hat.ne hkl (fun e => hkf (foot_vf e)) (mem_ob.1 hm)
        · exact hkf (List.mem_cons_of_mem _ (List.mem_append_right _ hm))
  refine ⟨⟨h.ge, set_same hblk rfl, ?_, own_frame h.pcs fun k hk => keep k (h.pcs.lt k hk).2 (h.b_vp hk) (fun e => h.vf_vp e hk), ?_, hnd⟩, ?_⟩
  · have e : (d.files.take i ++ f :: d.files.drop i).length = d.files.length + 1 := by rw [List.length_append, List.length_cons, List.length_take, List.length_drop]; omega
    simp only
    rw [e]
    exact own_frame ho fun k hk => Below.heap_setCell w1 ⟨b, 0, none⟩ v' k (hvb k hk)
  · intro x hx
    rcases hmem x hx with rfl | hx
    · exact own_frame hrow fun k hk => keep k (hrow.lt k hk).2 (fun e => hfr k hk (e ▸ foot_b)) (fun e => hfr k hk (foot_vf e))
    · exact own_frame (h.rows x hx) fun k hk => keep k ((h.rows x hx).lt k hk).2 (h.b_f hx hk) (fun e => h.vf_f hx e hk)
  · refine ⟨hgr.os, hgr.tape, hgr.output, by simpa using hgr.size, fun k hk hn => keep k hk (fun e => hn (List.mem_append_left _ (e ▸ foot_b))) (fun e => hn (List.mem_append_left _ (foot_vf e))), fun k hk => ?_⟩
    rcases foot_cases hk with rfl | hk | hk | ⟨x, hx, hkx⟩
    · exact .inl (List.mem_append_left _ foot_b)
    · rcases hat.sub hk with e | e
      · exact .inl (List.mem_append_left _ (foot_vf e))
      · exact .inr e
    · exact .inl (List.mem_append_left _ (foot_vp hk))
    · rcases hmem x hx with e | hx
      · exact .inl (List.mem_append_right _ (mem_ob.2 (e ▸ hkx)))
      · exact .inl (List.mem_append_left _ (foot_f hx hkx))

theorem bcells_str (s : ByteArray) : Lib.strCells s = bcells s.data.toList := rfl
theorem bcells_app (a c : List UInt8) : bcells (a ++ c) = bcells a ++ bcells c := by simp [bcells]
theorem info5 : (Tryz.prog.info? 5).map (fun i => (i.zero, i.size, i.bytes)) = some (some (.int .u8 0), 1, 1) := by kernel_rfl

/-- Bytes of a text are put behind a row of bytes. -/
theorem append_str {w : World} {B : Nat} {v : Value} {l : List UInt8} (h : w.ownsRow B 5 1 v l.length (bcells l)) (s : ByteArray) (hl : l.length + s.size ≤ 1000000) (hB : B ≤ w.heap.size) (ty : TypeId) :
    ∃ v' w', (Builtin.append_ #[30, 9] ty #[v, .string s]).run Tryz.prog w = .ok v' w' ∧ w'.ownsRow B 5 1 v' (l ++ s.data.toList).length (bcells (l ++ s.data.toList)) ∧ w.grownBy w' v.ownBlock ∧ At w v v' := by
  obtain ⟨i0, hi0, hz0, hzs, hzb⟩ := info_parts info5
  obtain ⟨v', w', hr, h1, h2, h3⟩ := Lib.run_append_own_string w B 30 9 ty 5 i0 Tryz.underlying30 Tryz.underlying9 hi0 hz0 hzs hzb v l.length (bcells l) h s (by unfold maxLen; omega) (by omega) hB
  have hs : s.data.toList.length = s.size := by rw [Array.length_toList]; rfl
  refine ⟨v', w', hr, by rw [List.length_append, hs, bcells_app]; exact h1, h2, ?_⟩
  have hxl := bcells_len l
  rcases h.2 with ⟨rfl, h0⟩ | ⟨g, cap, cur, rfl, hbg, hg, hnc, hcm, hcs, htake⟩
  · by_cases hm : s.size = 0
    · rw [h3.2 ⟨rfl, hm⟩]
      exact .inl rfl
    · have hr2 := run_append_nil_string (P := Tryz.prog) w 30 9 ty 5 i0 (.int .u8 0) Tryz.underlying30 Tryz.underlying9 hi0 hz0 s (by omega) (by omega) (by rw [hzb]; omega)
      rw [hr2] at hr
      injection hr with e1 e2
      exact .inr ⟨w.heap.size, by rw [← e1]; rfl, Nat.le_refl _⟩
  · by_cases hroom : l.length + s.size ≤ cap
    · have hr2 := Lib.run_append_room_string (P := Tryz.prog) w 30 9 ty 5 i0 Tryz.underlying30 Tryz.underlying9 hi0 hzs g l.length cap cur hg s hroom (by omega)
      rw [hr2] at hr
      injection hr with e1 e2
      exact .inl (by rw [← e1]; rfl)
    · have holds : ∀ j u, (bcells l)[j]? = some u → w.cell? ((⟨g, 0, none⟩ : Addr).add j) = some u := h.cells (g := g) rfl
      have hr2 := Lib.run_append_grow_string (P := Tryz.prog) w 30 9 ty 5 i0 (.int .u8 0) Tryz.underlying30 Tryz.underlying9 hi0 hz0 ⟨g, 0, none⟩ l.length cap (bcells l) (by rw [hzs]; omega) holds s (by omega) (by omega) (by rw [hzb]; exact growslice_fits (by omega) (by omega))
      rw [hr2] at hr
      injection hr with e1 e2
      exact .inr ⟨w.heap.size, by rw [← e1]; rfl, Nat.le_refl _⟩
end Go.Proofs.YtblhkhgcaheplaaGreatDoor.Dk
