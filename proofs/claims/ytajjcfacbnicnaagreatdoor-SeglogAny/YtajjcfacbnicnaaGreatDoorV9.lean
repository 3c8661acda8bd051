/-
  YtajjcfacbnicnaaGreatDoor: the texts DP3, DP4, DP5, DX9, one behind the other.
-/
import Derived.Test.YtajjcfacbnicnaaGreatDoorV8
import Derived.Test.YtajjcfacbnicnaaGreatDoorV4
/-
  The document's disk: put, whatever comes; a file has one byte more.
-/
namespace Go.Proofs.YtajjcfacbnicnaaGreatDoor.Dk
open Go.RowKit
set_option maxRecDepth 100000

theorem rput_any {w : World} {B b : Nat} {d : Rs} {f : Gv} (h : RRep w B b d) (hll : d.files.length ≤ 400) (hr : Rising d.names)
    (hrb : w.ownsRow B 5 1 f.vb f.bytes.length (bcells f.bytes)) (hrl : w.ownsRow B 3 1 f.vl f.late.length (lcells f.late)) (hfr : ∀ j ∈ f.obs, j ∉ d.foot b) (hnd : f.obs.Nodup) :
    Calls Tryz.prog 79 #[.pointer (some ⟨b, 0, none⟩), .agg #[.string f.name, f.vb, f.vl]] w fun e w' => e = .returned (.tuple #[]) ∧ ∃ v', RRep w' B b { d with files := d.files.take (place d.names f.name) ++ f :: d.files.drop (place d.names f.name), vf := v' } ∧ Step (d.foot b ++ f.obs) (Rs.foot b { d with files := d.files.take (place d.names f.name) ++ f :: d.files.drop (place d.names f.name), vf := v' }) w w' := by
  have hpl : place d.names f.name ≤ d.files.length := by have := place_le d.names f.name; simpa [Rs.names] using this
  by_cases hlt : place d.names f.name < d.files.length
  · obtain ⟨g, cap, ev, h1, h2, _⟩ := own_form h.tab (by omega)
    exact rput_mid h hll hr ev ⟨h1, h2⟩ hlt hrb hrl hfr hnd
  · have hpn : place d.names f.name = d.files.length := by omega
    rcases h.tab.2 with ⟨ev, hn⟩ | ⟨g, cap, cur, ev, _, _, h1, h2, _⟩
    · exact rput_nil (g := 0) (cap := 0) h hll hr ev hn (by omega) rfl hrb hrl hfr hnd
    · by_cases hc : d.files.length = cap
      · exact rput_full h hll hr ev ⟨hc, h2⟩ hpn hrb hrl hfr hnd
      · exact rput_room h hll hr ev ⟨by omega, h2⟩ hpn hrb hrl hfr hnd

theorem append_byte {w : World} {B : Nat} {v : Value} {l : List UInt8} (h : w.ownsRow B 5 1 v l.length (bcells l)) (hB : B ≤ w.heap.size) (hl : l.length ≤ 1000000) (x : UInt8) (r : Nat) (c : Nat) (hx : w.cell? ⟨r, 0, none⟩ = some (.int .u8 (x.toNat : Int))) :
    ∃ v' w', (Builtin.append_ #[46, 46] 46 #[v, .slice (some ⟨r, 0, none⟩) 1 c]).run Tryz.prog w = .ok v' w' ∧ w'.ownsRow B 5 1 v' (l ++ [x]).length (bcells (l ++ [x])) ∧ w.grownBy w' v.ownBlock ∧ At w v v' := by
  obtain ⟨i0, hi0, hz0, hzs, hzb⟩ := info_parts info5
  obtain ⟨v', w', hr, h2, h3, _, h5⟩ := run_append_own_at (P := Tryz.prog) w B 46 46 5 i0 (.int .u8 0) 1 1 Tryz.underlying46 hi0 hz0 hzs hzb rfl (by omega) v l.length (bcells l) h ⟨r, 0, none⟩ 1 c [.int .u8 (x.toNat : Int)] rfl (fun j u hj => by
    match j, hj with
    | 0, hj =>
      simp at hj
      rw [← hj, Addr.add_lit]
      exact hx
    | j + 1, hj => simp at hj) (by simp [Value.oneCell']) (by unfold maxLen; omega) (by omega) hB
  refine ⟨v', w', hr, by rw [List.length_append, bcells_app]; exact h2, h3, ?_⟩
  rcases h5 with e | e
  · exact .inl e
  · exact .inr ⟨_, e, Nat.le_refl _⟩

theorem append_int {w : World} {B : Nat} {v : Value} {l : List Nat} (h : w.ownsRow B 3 1 v l.length (lcells l)) (hB : B ≤ w.heap.size) (hl : l.length ≤ 1000000) (x : Nat) (r : Nat) (c : Nat) (hx : w.cell? ⟨r, 0, none⟩ = some (.int .i64 (x : Int))) :
    ∃ v' w', (Builtin.append_ #[60, 60] 60 #[v, .slice (some ⟨r, 0, none⟩) 1 c]).run Tryz.prog w = .ok v' w' ∧ w'.ownsRow B 3 1 v' (l ++ [x]).length (lcells (l ++ [x])) ∧ w.grownBy w' v.ownBlock ∧ At w v v' := by
  obtain ⟨i0, hi0, hz0, hzs, hzb⟩ := info_parts info3
  obtain ⟨v', w', hr, h2, h3, _, h5⟩ := run_append_own_at (P := Tryz.prog) w B 60 60 3 i0 (.int .i64 0) 1 8 Tryz.underlying60 hi0 hz0 hzs hzb rfl (by omega) v l.length (lcells l) h ⟨r, 0, none⟩ 1 c [.int .i64 (x : Int)] rfl (fun j u hj => by
    match j, hj with
    | 0, hj =>
      simp at hj
      rw [← hj, Addr.add_lit]
      exact hx
    | j + 1, hj => simp at hj) (by simp [Value.oneCell']) (by unfold maxLen; omega) (by omega) hB
  refine ⟨v', w', hr, by rw [List.length_append, show lcells (l ++ [x]) = lcells l ++ [.int .i64 (x : Int)] by simp [lcells]]; exact h2, h3, ?_⟩
  rcases h5 with e | e
  · exact .inl e
  · exact .inr ⟨_, e, Nat.le_refl _⟩

/-- A file's bytes are others, in the same block or in a new one. -/
theorem RRep.growB {w w1 : World} {B b g i : Nat} {d : Rs} {f : Gv} {v' : Value} {bs : List UInt8} (h : RRep w B b d) (hf : d.files[i]? = some f) (hg : d.vf.ownBlock = some g)
    (ho : w1.ownsRow B 5 1 v' bs.length (bcells bs)) (hat : At w f.vb v') (hgr : w.grownBy w1 f.vb.ownBlock) :
    RRep (w1.setCell ⟨g, i * 3 + 1, none⟩ v') B b { d with files := d.files.set i ⟨f.name, bs, f.late, v', f.vl⟩ } ∧ Step (d.foot b) (Rs.foot b { d with files := d.files.set i ⟨f.name, bs, f.late, v', f.vl⟩ }) w (w1.setCell ⟨g, i * 3 + 1, none⟩ v') := by
  have hi : i < d.files.length := (List.getElem?_eq_some_iff.1 hf).1
  have hm : f ∈ d.files := List.mem_of_getElem? hf
  have hnd := h.nodup_f hm
  have hgl := (h.tab.lt g hg).2
  have hgf : f.vb.ownBlock ≠ some g := fun e => h.vf_f hm hg (obs_b e)
  have hgl2 : f.vl.ownBlock ≠ some g := fun e => h.vf_f hm hg (obs_l e)
  have keep : ∀ k, k < w.heap.size → k ≠ g → f.vb.ownBlock ≠ some k → (w1.setCell ⟨g, i * 3 + 1, none⟩ v').heap[k]? = w.heap[k]? := fun k hk hn hp =>
    (Below.heap_setCell w1 ⟨g, i * 3 + 1, none⟩ v' k hn).trans (hgr.block k hk (fun e => hp e.symm))
  have htab : w1.ownsRow B 101 3 d.vf d.files.length (d.files.flatMap Gv.cells) := own_frame h.tab fun k hk => hgr.block k (h.tab.lt k hk).2 (fun e => by rw [hg] at hk; injection hk with hk; subst hk; exact hgf e.symm)
  refine h.reset hf hg ?_ ?_ ?_ (fun k hk hn hf => keep k hk hn (fun e => hf (obs_b e))) ?_ ?_ hgr.os hgr.tape hgr.output (by simpa using hgr.size)
  · rw [gflat_setb d.files i f ⟨f.name, bs, f.late, v', f.vl⟩ hf rfl rfl]
    exact own_set htab hg (i * 3 + 1) (by omega) v'
  · exact own_frame ho fun k hk => Below.heap_setCell w1 ⟨g, i * 3 + 1, none⟩ v' k (fun e => hat.ne hgl hgf (by rw [← show k = g from e]; exact hk))
  · exact own_frame (h.rl f hm) fun k hk => keep k ((h.rl f hm).lt k hk).2 (fun e => hgl2 (e ▸ hk)) (fun e => app_ne hnd (mem_ob.2 e) (mem_ob.2 hk))
  · intro k hk
    rcases List.mem_append.1 hk with hk | hk
    · rcases hat.sub (mem_ob.1 hk) with e | e
      · exact .inl (obs_b e)
      · exact .inr e
    · exact .inl (List.mem_append_right _ hk)
  · refine List.nodup_append.2 ⟨by unfold ob; cases v'.ownBlock <;> simp, (List.nodup_append.1 hnd).2.1, fun x hx y hy e => ?_⟩
    subst e
    have hxl := ((h.rl f hm).lt x (mem_ob.1 hy)).2
    exact hat.ne hxl (fun e => app_ne hnd (mem_ob.2 e) hy) (mem_ob.1 hx)

/-- A file's places are others, in the same block or in a new one. -/
theorem RRep.growL {w w1 : World} {B b g i : Nat} {d : Rs} {f : Gv} {v' : Value} {ls : List Nat} (h : RRep w B b d) (hf : d.files[i]? = some f) (hg : d.vf.ownBlock = some g)
    (ho : w1.ownsRow B 3 1 v' ls.length (lcells ls)) (hat : At w f.vl v') (hgr : w.grownBy w1 f.vl.ownBlock) :
    RRep (w1.setCell ⟨g, i * 3 + 2, none⟩ v') B b { d with files := d.files.set i ⟨f.name, f.bytes, ls, f.vb, v'⟩ } ∧ Step (d.foot b) (Rs.foot b { d with files := d.files.set i ⟨f.name, f.bytes, ls, f.vb, v'⟩ }) w (w1.setCell ⟨g, i * 3 + 2, none⟩ v') := by
  have hi : i < d.files.length := (List.getElem?_eq_some_iff.1 hf).1
  have hm : f ∈ d.files := List.mem_of_getElem? hf
  have hnd := h.nodup_f hm
  have hgl := (h.tab.lt g hg).2
  have hgf : f.vl.ownBlock ≠ some g := fun e => h.vf_f hm hg (obs_l e)
  have hgb2 : f.vb.ownBlock ≠ some g := fun e => h.vf_f hm hg (obs_b e)
  have keep : ∀ k, k < w.heap.size → k ≠ g → f.vl.ownBlock ≠ some k → (w1.setCell ⟨g, i * 3 + 2, none⟩ v').heap[k]? = w.heap[k]? := fun k hk hn hp =>
    (Below.heap_setCell w1 ⟨g, i * 3 + 2, none⟩ v' k hn).trans (hgr.block k hk (fun e => hp e.symm))
  have htab : w1.ownsRow B 101 3 d.vf d.files.length (d.files.flatMap Gv.cells) := own_frame h.tab fun k hk => hgr.block k (h.tab.lt k hk).2 (fun e => by rw [hg] at hk; injection hk with hk; subst hk; exact hgf e.symm)
  refine h.reset hf hg ?_ ?_ ?_ (fun k hk hn hf => keep k hk hn (fun e => hf (obs_l e))) ?_ ?_ hgr.os hgr.tape hgr.output (by simpa using hgr.size)
  · rw [gflat_setl d.files i f ⟨f.name, f.bytes, ls, f.vb, v'⟩ hf rfl rfl]
    exact own_set htab hg (i * 3 + 2) (by omega) v'
  · exact own_frame (h.rb f hm) fun k hk => keep k ((h.rb f hm).lt k hk).2 (fun e => hgb2 (e ▸ hk)) (fun e => app_ne hnd (mem_ob.2 hk) (mem_ob.2 e))
  · exact own_frame ho fun k hk => Below.heap_setCell w1 ⟨g, i * 3 + 2, none⟩ v' k (fun e => hat.ne hgl hgf (by rw [← show k = g from e]; exact hk))
  · intro k hk
    rcases List.mem_append.1 hk with hk | hk
    · exact .inl (List.mem_append_left _ hk)
    · rcases hat.sub (mem_ob.1 hk) with e | e
      · exact .inl (obs_l e)
      · exact .inr e
  · refine List.nodup_append.2 ⟨(List.nodup_append.1 hnd).1, by unfold ob; cases v'.ownBlock <;> simp, fun x hx y hy e => ?_⟩
    subst e
    have hxl := ((h.rb f hm).lt x (mem_ob.1 hx)).2
    exact hat.ne hxl (fun e => app_ne hnd hx (mem_ob.2 e)) (mem_ob.1 hy)

/-- One byte more, at a world in which it was laid into a block of its own. -/
theorem RRep.byteStep {u : World} {B b g i : Nat} {d : Rs} {f : Gv} (h : RRep u B b d) (hf : d.files[i]? = some f) (hg : d.vf.ownBlock = some g) (hl : f.bytes.length ≤ 1000000) (x : UInt8) :
    ∃ a c w', (Builtin.append_ #[46, 46] 46 #[f.vb, .slice (some ⟨u.heap.size, 0, none⟩) 1 1]).run Tryz.prog (u.alloc (.cells #[.int .u8 (x.toNat : Int)] 5)).drew = .ok (.slice a (f.bytes.length + 1) c) w' ∧ w'.cell? ⟨b, 0, none⟩ = some d.vf ∧ w'.cell? ⟨g, i * 3 + 1, none⟩ = some f.vb ∧ w'.frozen? ⟨g, i * 3 + 1, none⟩ = false ∧
      RRep (w'.setCell ⟨g, i * 3 + 1, none⟩ (.slice a (f.bytes.length + 1) c)) B b { d with files := d.files.set i ⟨f.name, f.bytes ++ [x], f.late, .slice a (f.bytes.length + 1) c, f.vl⟩ } ∧ Step (d.foot b) (Rs.foot b { d with files := d.files.set i ⟨f.name, f.bytes ++ [x], f.late, .slice a (f.bytes.length + 1) c, f.vl⟩ }) u (w'.setCell ⟨g, i * 3 + 1, none⟩ (.slice a (f.bytes.length + 1) c)) := by
  have hm : f ∈ d.files := List.mem_of_getElem? hf
  have hb0 : Below u.heap.size u (u.alloc (.cells #[.int .u8 (x.toNat : Int)] 5)).drew := ((Below.refl _ _).alloc (Nat.le_refl _) _).drew
  have h1 := h.below hb0
  have hB : B ≤ u.heap.size := by have := h.lt b rfoot_b; omega
  obtain ⟨v', w', hr, ho, hgr, hat⟩ := append_byte (h1.rb f hm) (by have := hb0.size; omega) hl x u.heap.size 1 (by
    show (u.alloc (.cells #[.int .u8 (x.toNat : Int)] 5)).cell? _ = _
    rw [cell_of_row _ u.heap.size 0 _ _ _ (heap_alloc_new u _)]
    rfl)
  have hlen : (f.bytes ++ [x]).length = f.bytes.length + 1 := by simp
  obtain ⟨a, c, rfl⟩ := own_any ho
  rw [hlen] at hr ho hat
  rw [← hlen] at ho
  rw [← hlen] at hr hat ⊢
  have := h1.growB hf hg ho hat hgr
  refine ⟨a, c, w', hr, ?_, ?_, ?_, this.1, (Step.ofBelow hb0).trans this.2⟩
  · exact hgr.cell h1.c0 (fun e => h1.b_f hm (obs_b e.symm) rfl)
  · exact hgr.cell (h1.fcells hf hg).2.1 (fun e => h1.vf_f hm hg (obs_b e.symm))
  · have htab : w'.ownsRow B 101 3 d.vf d.files.length (d.files.flatMap Gv.cells) := own_frame h1.tab fun k hk => hgr.block k (h1.tab.lt k hk).2 (fun e => by rw [hg] at hk; injection hk with hk; subst hk; exact h1.vf_f hm hg (obs_b e.symm))
    exact own_frozen htab hg _

/-- One place more. -/
theorem RRep.lateStep {u : World} {B b g i : Nat} {d : Rs} {f : Gv} (h : RRep u B b d) (hf : d.files[i]? = some f) (hg : d.vf.ownBlock = some g) (hl : f.late.length ≤ 1000000) (x : Nat) :
    ∃ a c w', (Builtin.append_ #[60, 60] 60 #[f.vl, .slice (some ⟨u.heap.size, 0, none⟩) 1 1]).run Tryz.prog (u.alloc (.cells #[.int .i64 (x : Int)] 3)).drew = .ok (.slice a (f.late.length + 1) c) w' ∧ w'.cell? ⟨b, 0, none⟩ = some d.vf ∧ w'.cell? ⟨g, i * 3 + 2, none⟩ = some f.vl ∧ w'.frozen? ⟨g, i * 3 + 2, none⟩ = false ∧ w'.cell? ⟨b, 1, none⟩ = some (.int .i64 (d.count : Int)) ∧
      RRep (w'.setCell ⟨g, i * 3 + 2, none⟩ (.slice a (f.late.length + 1) c)) B b { d with files := d.files.set i ⟨f.name, f.bytes, f.late ++ [x], f.vb, .slice a (f.late.length + 1) c⟩ } ∧ Step (d.foot b) (Rs.foot b { d with files := d.files.set i ⟨f.name, f.bytes, f.late ++ [x], f.vb, .slice a (f.late.length + 1) c⟩ }) u (w'.setCell ⟨g, i * 3 + 2, none⟩ (.slice a (f.late.length + 1) c)) := by
  have hm : f ∈ d.files := List.mem_of_getElem? hf
  have hb0 : Below u.heap.size u (u.alloc (.cells #[.int .i64 (x : Int)] 3)).drew := ((Below.refl _ _).alloc (Nat.le_refl _) _).drew
  have h1 := h.below hb0
  have hB : B ≤ u.heap.size := by have := h.lt b rfoot_b; omega
  obtain ⟨v', w', hr, ho, hgr, hat⟩ := append_int (h1.rl f hm) (by have := hb0.size; omega) hl x u.heap.size 1 (by
    show (u.alloc (.cells #[.int .i64 (x : Int)] 3)).cell? _ = _
    rw [cell_of_row _ u.heap.size 0 _ _ _ (heap_alloc_new u _)]
    rfl)
  have hlen : (f.late ++ [x]).length = f.late.length + 1 := by simp
  obtain ⟨a, c, rfl⟩ := own_any ho
  rw [hlen] at hr ho hat
  rw [← hlen] at ho
  rw [← hlen] at hr hat ⊢
  have := h1.growL hf hg ho hat hgr
  refine ⟨a, c, w', hr, ?_, ?_, ?_, ?_, this.1, (Step.ofBelow hb0).trans this.2⟩
  · exact hgr.cell h1.c0 (fun e => h1.b_f hm (obs_l e.symm) rfl)
  · exact hgr.cell (h1.fcells hf hg).2.2 (fun e => h1.vf_f hm hg (obs_l e.symm))
  · have htab : w'.ownsRow B 101 3 d.vf d.files.length (d.files.flatMap Gv.cells) := own_frame h1.tab fun k hk => hgr.block k (h1.tab.lt k hk).2 (fun e => by rw [hg] at hk; injection hk with hk; subst hk; exact h1.vf_f hm hg (obs_l e.symm))
    exact own_frozen htab hg _
  · exact hgr.cell h1.c1 (fun e => h1.b_f hm (obs_l e.symm) rfl)
end Go.Proofs.YtajjcfacbnicnaaGreatDoor.Dk

/-
  The document's disk: bytes are put behind a file, one by one.
-/
namespace Go.Proofs.YtajjcfacbnicnaaGreatDoor.Dk
open Go.RowKit
set_option maxRecDepth 100000

def RS.rmake (s : RS) (n : ByteArray) : RS := if has s.names n then s else { s with files := s.files.take (place s.names n) ++ ⟨n, [], []⟩ :: s.files.drop (place s.names n) }
def RS.more (s : RS) (i : Nat) (x : List UInt8) : RS := match s.files[i]? with
  | some f => { s with count := s.count + x.length, files := s.files.set i ⟨f.name, f.bytes ++ x, f.late ++ List.range' (s.count + 1) x.length⟩ }
  | none => s
def RS.full (s : RS) (n x : ByteArray) : Bool := (!has s.names n && decide (16 ≤ s.files.length)) || decide (s.most < s.used + x.size)
def rAppend (s : RS) (n x : ByteArray) : Int × RS :=
  if s.power then if mayBe n then if s.full n x then (2, s.spent) else (0, (s.spent.rmake n).more (place s.names n) x.data.toList) else (1, s.spent) else (12, s.spent)

theorem more_nil {s : RS} {i : Nat} {f : G} (hf : s.files[i]? = some f) : s.more i [] = s := by
  unfold RS.more
  rw [hf]
  have e : s.files.set i f = s.files := by
    obtain ⟨A, C, e1, e2, _⟩ := split_at hf f
    rw [e2, ← e1]
  simp [e]

/-- In the midst of it. -/
structure Put (w0 w : World) (B b i N : Nat) (fo : List Nat) (s : RS) (x : List UInt8) (k : Nat) (d : Rs) (f : Gv) : Prop where
  rep : RRep w B b d
  get : d.files[i]? = some f
  pl : d.pl = s.more i (x.take k)
  nb : f.bytes.length ≤ 60000 + k
  nl : f.late.length ≤ 60000 + k
  nc : d.count ≤ 900000 + k
  len : d.files.length = N
  step : Step fo (d.foot b) w0 w

theorem Put.next {w0 w w' : World} {B b i N k : Nat} {fo : List Nat} {s : RS} {x : List UInt8} {d d' : Rs} {f f' : Gv} {g0 : G} (h : Put w0 w B b i N fo s x k d f) (hk : k < x.length) (hs : s.files[i]? = some g0)
    (hr : RRep w' B b d') (hd : d'.files = d.files.set i f') (hcn : d'.count = d.count + 1) (hmo : d'.most = d.most) (hle : d'.left = d.left) (hdo : d'.down = d.down)
    (hn : f'.name = f.name) (hb : f'.bytes = f.bytes ++ [x[k]!]) (hl : f'.late = f.late ++ [d.count + 1]) (hst : Step (d.foot b) (d'.foot b) w w') : Put w0 w' B b i N fo s x (k + 1) d' f' := by
  have hi : i < d.files.length := (List.getElem?_eq_some_iff.1 h.get).1
  refine ⟨hr, by rw [hd, List.getElem?_set]; simp [hi], ?_, by rw [hb, List.length_append]; have := h.nb; simp; omega, by rw [hl, List.length_append]; have := h.nl; simp; omega, by have := h.nc; omega, by rw [hd, List.length_set]; exact h.len, h.step.trans hst⟩
  have hp := h.pl
  have hg := rpl_get h.get
  rw [hp] at hg
  unfold RS.more at hp hg ⊢
  rw [hs] at hp hg ⊢
  simp only at hp hg ⊢
  have hi2 : i < s.files.length := (List.getElem?_eq_some_iff.1 hs).1
  rw [List.getElem?_set] at hg
  simp [hi2] at hg
  have e1 : d.count = s.count + (x.take k).length := congrArg RS.count hp
  have hf' : f'.pl = ⟨g0.name, g0.bytes ++ x.take (k + 1), g0.late ++ List.range' (s.count + 1) (x.take (k + 1)).length⟩ := by
    have q1 : f.name = g0.name := (congrArg G.name hg).symm
    have q2 : f.bytes = g0.bytes ++ x.take k := (congrArg G.bytes hg).symm
    have q3 : f.late = g0.late ++ List.range' (s.count + 1) (min k x.length) := (congrArg G.late hg).symm
    have hmin : min k x.length = k := by omega
    rw [hmin] at q3
    unfold Gv.pl
    have l2 : (x.take (k + 1)).length = k + 1 := by rw [List.length_take]; omega
    have l1 : (x.take k).length = k := by rw [List.length_take]; omega
    rw [hn, q1, hb, q2, hl, q3, l2, take_next x k hk, e1, l1, List.append_assoc, List.append_assoc, List.range'_concat]
    simp
    omega
  have hfm : d.files.map Gv.pl = s.files.set i ⟨g0.name, g0.bytes ++ x.take k, g0.late ++ List.range' (s.count + 1) (x.take k).length⟩ := congrArg RS.files hp
  have e2 : d.most = s.most := congrArg RS.most hp
  have e3 : d.left = s.left := congrArg RS.left hp
  have e4 : d.down = s.down := congrArg RS.down hp
  unfold Rs.pl
  rw [hd, List.map_set, hfm, List.set_set, hf', hcn, hmo, hle, hdo, e1, e2, e3, e4]
  have l2 : (x.take (k + 1)).length = k + 1 := by rw [List.length_take]; omega
  have l1 : (x.take k).length = k := by rw [List.length_take]; omega
  rw [l1, l2, Nat.add_assoc]
end Go.Proofs.YtajjcfacbnicnaaGreatDoor.Dk

/-
  The document's disk: Append.
-/
namespace Go.Proofs.YtajjcfacbnicnaaGreatDoor.Dk
open Go.RowKit
set_option maxRecDepth 100000

theorem set_cell1 {w : World} {B b : Nat} {d : Rs} (h : RRep w B b d) (m : Nat) : RRep (w.setCell ⟨b, 1, none⟩ (.int .i64 (m : Int))) B b { d with count := m } ∧ Step (d.foot b) (d.foot b) w (w.setCell ⟨b, 1, none⟩ (.int .i64 (m : Int))) :=
  ⟨h.scal rfl rfl (set_same h.blk rfl) (fun _k hk => Below.heap_setCell _ _ _ _ hk), Step.setb _ rfoot_b _ _⟩

set_option maxHeartbeats 8000000 in
theorem rappend_fullB {w : World} {B b : Nat} {d : Rs} (h : RRep w B b d) (ok : ROk d.pl) (hr : Rising d.names) (n x : ByteArray) (hns : n.size ≤ 1000) (hxs : x.size ≤ 1000) (_hcnt : d.count ≤ 900000) (hp : d.pl.power = true) (hm : mayBe n = true) (hh : has d.names n = true) (hf : d.most < d.pl.used + x.size) :
    Calls Tryz.prog 34 #[.pointer (some ⟨b, 0, none⟩), .string n, .string x] w fun e w' => e = .returned (.int .i64 2) ∧ ∃ d', RRep w' B b d' ∧ d'.pl = d.pl.spent ∧ Step (d.foot b) (d'.foot b) w w' := by
  have kp := rpower_any h ok.left
  have km := right_any n (by omega)
  have hfew := ok.dfew
  have okS : ∀ d1 : Rs, d1.pl = d.pl.spent → ROk d1.pl := fun d1 e => by rw [e]; exact ⟨ok.few, ok.most, by show (if 0 < d.left then d.left - 1 else d.left) ≤ _; have : d.left ≤ _ := ok.left; split <;> omega, ok.used, ok.lates, ok.count, ok.small⟩
  rw [hp] at kp
  rw [hm] at km
  have KU : Aside (∀ (d1 : Rs) (u : World), RRep u B b d1 → d1.pl = d.pl.spent → Calls Tryz.prog 65 #[.pointer (some ⟨b, 0, none⟩)] u fun e w' => e = .returned (.tuple #[.int .i64 (d.pl.used : Nat), .int .i64 (d.pl.lates : Nat)]) ∧ w' = u) := fun d1 u hu e => by
    have := rused_any hu (okS d1 e)
    rw [e] at this
    exact this
  have KA : Aside (∀ (d1 : Rs) (u : World), RRep u B b d1 → d1.files = d.files → Calls Tryz.prog 78 #[.pointer (some ⟨b, 0, none⟩), .string n] u fun e w' => e = .returned (.int .i64 (place d.names n : Int)) ∧ w' = u) := fun d1 u hu hf => by
    have := at_any hu (by rw [hf]; omega) n
    rw [show d1.names = d.names by unfold Rs.names; rw [hf]] at this
    rw [at_place hr, hh] at this
    exact this
  have hmost : d.most ≤ 60000 := ok.most
  have hused : d.pl.used ≤ 60000 := ok.used
  have HM : Aside (∀ d1 : Rs, d1.pl = d.pl.spent → d1.most = d.most ∧ d1.count = d.count) := fun d1 e => ⟨congrArg RS.most e, congrArg RS.count e⟩

  clear h ok hp hm okS
  generalize hU : d.pl.used = U at *
  generalize hLT : d.pl.lates = LT at *
  have d1' : decide ((d.most : Int) < (U : Int) + (x.size : Int)) = true := decide_eq_true (by omega)
  have hw : IntKind.i64.wrap ((U : Int) + (x.size : Int)) = (U : Int) + (x.size : Int) := by rw [IntKind.wrap_i64]; omega
  go_enter Tryz.func34, Tryz.ntmps34
  go_wp2_with (first
    | (go_at_call 76; refine kp.mono ?_; rintro e w1 ⟨rfl, d1, h1, p1, f1, g1, s1⟩; have c2 := h1.c2; have c0 := h1.c0; rw [(HM.out d1 p1).1] at c2; obtain ⟨a0, cap0, ev0⟩ := own_any h1.tab; rw [ev0, f1] at c0)
    | (go_at_call 77; refine (km _).mono ?_; rintro e w1' ⟨rfl, rfl⟩)
    | (go_at_call 65; refine (KU.out _ _ h1 p1).mono ?_; rintro e w2 ⟨rfl, rfl⟩)
    | (go_at_call 78; refine (KA.out _ _ h1 f1).mono ?_; rintro e w2 ⟨rfl, rfl⟩))
  go_ret
  exact ⟨rfl, d1, h1, p1, g1 ▸ s1⟩


set_option maxHeartbeats 8000000 in
theorem rappend_fullC {w : World} {B b : Nat} {d : Rs} (h : RRep w B b d) (ok : ROk d.pl) (hr : Rising d.names) (n x : ByteArray) (hns : n.size ≤ 1000) (_hxs : x.size ≤ 1000) (_hcnt : d.count ≤ 900000) (hp : d.pl.power = true) (hm : mayBe n = true) (hh : has d.names n = false) (hf : 16 ≤ d.files.length) :
    Calls Tryz.prog 34 #[.pointer (some ⟨b, 0, none⟩), .string n, .string x] w fun e w' => e = .returned (.int .i64 2) ∧ ∃ d', RRep w' B b d' ∧ d'.pl = d.pl.spent ∧ Step (d.foot b) (d'.foot b) w w' := by
  have kp := rpower_any h ok.left
  have km := right_any n (by omega)
  have hfew := ok.dfew
  have okS : ∀ d1 : Rs, d1.pl = d.pl.spent → ROk d1.pl := fun d1 e => by rw [e]; exact ⟨ok.few, ok.most, by show (if 0 < d.left then d.left - 1 else d.left) ≤ _; have : d.left ≤ _ := ok.left; split <;> omega, ok.used, ok.lates, ok.count, ok.small⟩
  rw [hp] at kp
  rw [hm] at km
  have KU : Aside (∀ (d1 : Rs) (u : World), RRep u B b d1 → d1.pl = d.pl.spent → Calls Tryz.prog 65 #[.pointer (some ⟨b, 0, none⟩)] u fun e w' => e = .returned (.tuple #[.int .i64 (d.pl.used : Nat), .int .i64 (d.pl.lates : Nat)]) ∧ w' = u) := fun d1 u hu e => by
    have := rused_any hu (okS d1 e)
    rw [e] at this
    exact this
  have KA : Aside (∀ (d1 : Rs) (u : World), RRep u B b d1 → d1.files = d.files → Calls Tryz.prog 78 #[.pointer (some ⟨b, 0, none⟩), .string n] u fun e w' => e = .returned (.int .i64 (-1)) ∧ w' = u) := fun d1 u hu hf => by
    have := at_any hu (by rw [hf]; omega) n
    rw [show d1.names = d.names by unfold Rs.names; rw [hf]] at this
    rw [at_place hr, hh] at this
    exact this
  have hmost : d.most ≤ 60000 := ok.most
  have hused : d.pl.used ≤ 60000 := ok.used
  have HM : Aside (∀ d1 : Rs, d1.pl = d.pl.spent → d1.most = d.most ∧ d1.count = d.count) := fun d1 e => ⟨congrArg RS.most e, congrArg RS.count e⟩

  clear h ok hp hm okS
  generalize hU : d.pl.used = U at *
  generalize hLT : d.pl.lates = LT at *
  have d1' : decide ((16 : Int) ≤ (d.files.length : Int)) = true := decide_eq_true (by omega)
  go_enter Tryz.func34, Tryz.ntmps34
  go_wp2_with (first
    | (go_at_call 76; refine kp.mono ?_; rintro e w1 ⟨rfl, d1, h1, p1, f1, g1, s1⟩; have c2 := h1.c2; have c0 := h1.c0; rw [(HM.out d1 p1).1] at c2; obtain ⟨a0, cap0, ev0⟩ := own_any h1.tab; rw [ev0, f1] at c0)
    | (go_at_call 77; refine (km _).mono ?_; rintro e w1' ⟨rfl, rfl⟩)
    | (go_at_call 65; refine (KU.out _ _ h1 p1).mono ?_; rintro e w2 ⟨rfl, rfl⟩)
    | (go_at_call 78; refine (KA.out _ _ h1 f1).mono ?_; rintro e w2 ⟨rfl, rfl⟩))
  go_ret
  exact ⟨rfl, d1, h1, p1, g1 ▸ s1⟩


set_option maxHeartbeats 8000000 in
theorem rappend_fullE {w : World} {B b : Nat} {d : Rs} (h : RRep w B b d) (ok : ROk d.pl) (hr : Rising d.names) (n x : ByteArray) (hns : n.size ≤ 1000) (hxs : x.size ≤ 1000) (_hcnt : d.count ≤ 900000) (hp : d.pl.power = true) (hm : mayBe n = true) (hh : has d.names n = false) (hf2 : ¬ 16 ≤ d.files.length) (hf : d.most < d.pl.used + x.size) :
    Calls Tryz.prog 34 #[.pointer (some ⟨b, 0, none⟩), .string n, .string x] w fun e w' => e = .returned (.int .i64 2) ∧ ∃ d', RRep w' B b d' ∧ d'.pl = d.pl.spent ∧ Step (d.foot b) (d'.foot b) w w' := by
  have kp := rpower_any h ok.left
  have km := right_any n (by omega)
  have hfew := ok.dfew
  have okS : ∀ d1 : Rs, d1.pl = d.pl.spent → ROk d1.pl := fun d1 e => by rw [e]; exact ⟨ok.few, ok.most, by show (if 0 < d.left then d.left - 1 else d.left) ≤ _; have : d.left ≤ _ := ok.left; split <;> omega, ok.used, ok.lates, ok.count, ok.small⟩
  rw [hp] at kp
  rw [hm] at km
  have KU : Aside (∀ (d1 : Rs) (u : World), RRep u B b d1 → d1.pl = d.pl.spent → Calls Tryz.prog 65 #[.pointer (some ⟨b, 0, none⟩)] u fun e w' => e = .returned (.tuple #[.int .i64 (d.pl.used : Nat), .int .i64 (d.pl.lates : Nat)]) ∧ w' = u) := fun d1 u hu e => by
    have := rused_any hu (okS d1 e)
    rw [e] at this
    exact this
  have KA : Aside (∀ (d1 : Rs) (u : World), RRep u B b d1 → d1.files = d.files → Calls Tryz.prog 78 #[.pointer (some ⟨b, 0, none⟩), .string n] u fun e w' => e = .returned (.int .i64 (-1)) ∧ w' = u) := fun d1 u hu hf => by
    have := at_any hu (by rw [hf]; omega) n
    rw [show d1.names = d.names by unfold Rs.names; rw [hf]] at this
    rw [at_place hr, hh] at this
    exact this
  have hmost : d.most ≤ 60000 := ok.most
  have hused : d.pl.used ≤ 60000 := ok.used
  have HM : Aside (∀ d1 : Rs, d1.pl = d.pl.spent → d1.most = d.most ∧ d1.count = d.count) := fun d1 e => ⟨congrArg RS.most e, congrArg RS.count e⟩

  clear h ok hp hm okS
  generalize hU : d.pl.used = U at *
  generalize hLT : d.pl.lates = LT at *
  have d0' : decide ((16 : Int) ≤ (d.files.length : Int)) = false := decide_eq_false (by omega)
  have d1' : decide ((d.most : Int) < (U : Int) + (x.size : Int)) = true := decide_eq_true (by omega)
  have hw : IntKind.i64.wrap ((U : Int) + (x.size : Int)) = (U : Int) + (x.size : Int) := by rw [IntKind.wrap_i64]; omega
  go_enter Tryz.func34, Tryz.ntmps34
  go_wp2_with (first
    | (go_at_call 76; refine kp.mono ?_; rintro e w1 ⟨rfl, d1, h1, p1, f1, g1, s1⟩; have c2 := h1.c2; have c0 := h1.c0; rw [(HM.out d1 p1).1] at c2; obtain ⟨a0, cap0, ev0⟩ := own_any h1.tab; rw [ev0, f1] at c0)
    | (go_at_call 77; refine (km _).mono ?_; rintro e w1' ⟨rfl, rfl⟩)
    | (go_at_call 65; refine (KU.out _ _ h1 p1).mono ?_; rintro e w2 ⟨rfl, rfl⟩)
    | (go_at_call 78; refine (KA.out _ _ h1 f1).mono ?_; rintro e w2 ⟨rfl, rfl⟩))
  go_ret
  exact ⟨rfl, d1, h1, p1, g1 ▸ s1⟩

end Go.Proofs.YtajjcfacbnicnaaGreatDoor.Dk

/-
  Append.
-/
namespace Go.Proofs.YtajjcfacbnicnaaGreatDoor.Dk
open Go.RowKit
set_option maxRecDepth 100000

theorem below_refl (w : World) : Below w.heap.size w w := Below.refl _ _

theorem append_early {w : World} {B b : Nat} {d : Ds} (h : Rep w B b d) (ok : Ok d.pl) (n x : ByteArray) (hq : d.power = false ∨ mayBe n = false) :
    Calls Tryz.prog 33 #[.pointer (some ⟨b, 0, none⟩), .string n, .string x] w fun e w' => e = .returned (.int .i64 (if d.power then 1 else 12)) ∧ Rep w' B b d.spent ∧ Step (d.foot b) (d.foot b) w w' := by
  have kb := begin_any h ok.fuse
  have km := mayBe_any n
  clear h ok
  cases hp : d.power with
  | false =>
    rw [hp] at kb
    go_enter Tryz.func33, Tryz.ntmps33
    go_wp2_with (go_at_call 73; refine kb.mono ?_; rintro e w1 ⟨rfl, h1, s1⟩)
    go_ret
    exact ⟨rfl, h1, s1⟩
  | true =>
    rw [hp] at kb hq
    rcases hq with hq | hq
    · cases hq
    · rw [hq] at km
      go_enter Tryz.func33, Tryz.ntmps33
      go_wp2_with (first
        | (go_at_call 73; refine kb.mono ?_; rintro e w1 ⟨rfl, h1, s1⟩)
        | (go_at_call 74; refine (km _).mono ?_; rintro e w2 ⟨rfl, rfl⟩))
      go_ret
      exact ⟨rfl, h1, s1⟩

set_option maxHeartbeats 1600000 in
theorem append_fullB {w : World} {B b : Nat} {d : Ds} (h : Rep w B b d) (ok : Ok d.pl) (n x : ByteArray) (hp : d.power = true) (hm : mayBe n = true) (hh : has d.names n = true) (hf : d.room < d.pl.total + x.size) :
    Calls Tryz.prog 33 #[.pointer (some ⟨b, 0, none⟩), .string n, .string x] w fun e w' => e = .returned (.int .i64 2) ∧ Rep w' B b d.spent ∧ Step (d.foot b) (d.foot b) w w' := by
  have kb := begin_any h ok.fuse
  have km := mayBe_any n
  have kf : Aside (∀ u : World, Rep u B b d.spent → _) := fun (u : World) (hu : Rep u B b d.spent) => find_any hu (show Rising d.spent.names from ok.rise) (by have := ok.dfew; show d.files.length ≤ 1000; omega) n
  have K17 : Aside (∀ u : World, Rep u B b d.spent → Calls Tryz.prog 66 #[.pointer (some ⟨b, 0, none⟩)] u fun e w' => e = .returned (.int .i64 (d.pl.total : Nat)) ∧ Below u.heap.size u w') := fun u hu => used_any (d := d.spent) hu ok.spent
  have K27 : Aside (∀ u : World, Rep u B b d.spent → Calls Tryz.prog 69 #[.pointer (some ⟨b, 0, none⟩)] u fun e w' => e = .returned (.int .i64 (16 - (d.files.length : Int))) ∧ Below u.heap.size u w') := fun u hu => (holes_any (d := d.spent) hu ok.spent).mono fun _ _ ⟨a, b⟩ => ⟨by rw [a]; show _ = Ending.returned (.int .i64 (16 - (d.files.length : Int))); simp [Ds.pl, Ds.spent], b ▸ below_refl _⟩
  have KR : Aside (∀ u : World, Rep u B b d.spent → u.cell? ⟨b, 2, none⟩ = some (.int .i64 (d.room : Int))) := fun u hu => hu.c2
  have hroom : d.room ≤ 60000 := ok.room
  have htot : d.pl.total ≤ 60000 := ok.used
  have hfew := ok.dfew

  have en : d.spent.names = d.names := rfl
  rw [hp] at kb
  rw [hm] at km
  rw [en, hh] at kf
  generalize d.pl.total = T at *
  generalize hR : d.room = R at *
  generalize hN : d.files.length = N at *
  generalize hI : place d.names n = I at *
  have hw : IntKind.i64.wrap ((R : Int) - (T : Int)) = (R : Int) - (T : Int) := by rw [IntKind.wrap_i64]; omega
  have d1 : decide ((R : Int) - (T : Int) < (x.size : Int)) = true := by simp; omega
  clear h ok hp hm hh en
  go_enter Tryz.func33, Tryz.ntmps33
  go_wp2_with (first
    | (go_at_call 73; refine kb.mono ?_; rintro e w1 ⟨rfl, h1, s1⟩)
    | (go_at_call 74; refine (km _).mono ?_; rintro e w1' ⟨rfl, rfl⟩)
    | (go_at_call 54; refine (kf.out _ h1).mono ?_; rintro e w2 ⟨rfl, hb2⟩))
  have H2 : Aside (Rep w2 B b d.spent ∧ Step (d.foot b) (d.foot b) w w2) := ⟨h1.below hb2, s1.trans (Step.ofBelow hb2)⟩
  have x2 : ∀ q : Later w2, q.u.cell? ⟨b, 2, none⟩ = some (.int .i64 (R : Int)) := fun q => KR.out _ (H2.out.1.below q.bel)
  have HR : Aside (∀ q : Later w2, Rep q.u B b d.spent) := fun q => H2.out.1.below q.bel
  clear h1 hb2 kb km kf
  have hne := later_some w2
  refine wp_region_later (by kernel_rfl) (by kernel_rfl) ?_
  repeat (go_big_quiet_step ((first | (go_at_call 69; exact calls_later (K27.out _ (HR.out _))) | (go_at_call 66; exact calls_later (K17.out _ (HR.out _))))))
  refine wpQuiet_nil ?_
  rintro _ ⟨q, rfl⟩
  have H3 : Aside (Rep q.u B b d.spent ∧ Step (d.foot b) (d.foot b) w q.u) := ⟨HR.out q, H2.out.2.trans (Step.ofBelow q.bel)⟩
  generalize q.u = w3 at H3 ⊢
  clear x2 HR H2 hne K17 K27 KR s1
  go_wp2
  go_ret
  exact ⟨rfl, H3.out⟩


set_option maxHeartbeats 1600000 in
theorem append_fullC {w : World} {B b : Nat} {d : Ds} (h : Rep w B b d) (ok : Ok d.pl) (n x : ByteArray) (hp : d.power = true) (hm : mayBe n = true) (hh : has d.names n = false) (hf : d.files.length = 16) :
    Calls Tryz.prog 33 #[.pointer (some ⟨b, 0, none⟩), .string n, .string x] w fun e w' => e = .returned (.int .i64 2) ∧ Rep w' B b d.spent ∧ Step (d.foot b) (d.foot b) w w' := by
  have kb := begin_any h ok.fuse
  have km := mayBe_any n
  have kf : Aside (∀ u : World, Rep u B b d.spent → _) := fun (u : World) (hu : Rep u B b d.spent) => find_any hu (show Rising d.spent.names from ok.rise) (by have := ok.dfew; show d.files.length ≤ 1000; omega) n
  have K17 : Aside (∀ u : World, Rep u B b d.spent → Calls Tryz.prog 66 #[.pointer (some ⟨b, 0, none⟩)] u fun e w' => e = .returned (.int .i64 (d.pl.total : Nat)) ∧ Below u.heap.size u w') := fun u hu => used_any (d := d.spent) hu ok.spent
  have K27 : Aside (∀ u : World, Rep u B b d.spent → Calls Tryz.prog 69 #[.pointer (some ⟨b, 0, none⟩)] u fun e w' => e = .returned (.int .i64 (16 - (d.files.length : Int))) ∧ Below u.heap.size u w') := fun u hu => (holes_any (d := d.spent) hu ok.spent).mono fun _ _ ⟨a, b⟩ => ⟨by rw [a]; show _ = Ending.returned (.int .i64 (16 - (d.files.length : Int))); simp [Ds.pl, Ds.spent], b ▸ below_refl _⟩
  have KR : Aside (∀ u : World, Rep u B b d.spent → u.cell? ⟨b, 2, none⟩ = some (.int .i64 (d.room : Int))) := fun u hu => hu.c2
  have hroom : d.room ≤ 60000 := ok.room
  have htot : d.pl.total ≤ 60000 := ok.used
  have hfew := ok.dfew

  have en : d.spent.names = d.names := rfl
  rw [hp] at kb
  rw [hm] at km
  rw [en, hh] at kf
  generalize d.pl.total = T at *
  generalize hR : d.room = R at *
  generalize hN : d.files.length = N at *
  generalize hI : place d.names n = I at *
  have hw : IntKind.i64.wrap ((R : Int) - (T : Int)) = (R : Int) - (T : Int) := by rw [IntKind.wrap_i64]; omega
  have d1 : ((16 : Int) - (N : Int) == 0) = true := by simp; omega
  have hw2 : IntKind.i64.wrap ((16 : Int) - (N : Int)) = (16 : Int) - (N : Int) := by rw [IntKind.wrap_i64]; omega
  clear h ok hp hm hh en
  go_enter Tryz.func33, Tryz.ntmps33
  go_wp2_with (first
    | (go_at_call 73; refine kb.mono ?_; rintro e w1 ⟨rfl, h1, s1⟩)
    | (go_at_call 74; refine (km _).mono ?_; rintro e w1' ⟨rfl, rfl⟩)
    | (go_at_call 54; refine (kf.out _ h1).mono ?_; rintro e w2 ⟨rfl, hb2⟩))
  have H2 : Aside (Rep w2 B b d.spent ∧ Step (d.foot b) (d.foot b) w w2) := ⟨h1.below hb2, s1.trans (Step.ofBelow hb2)⟩
  have x2 : ∀ q : Later w2, q.u.cell? ⟨b, 2, none⟩ = some (.int .i64 (R : Int)) := fun q => KR.out _ (H2.out.1.below q.bel)
  have HR : Aside (∀ q : Later w2, Rep q.u B b d.spent) := fun q => H2.out.1.below q.bel
  clear h1 hb2 kb km kf
  have hne := later_some w2
  refine wp_region_later (by kernel_rfl) (by kernel_rfl) ?_
  repeat (go_big_quiet_step ((first | (go_at_call 69; exact calls_later (K27.out _ (HR.out _))) | (go_at_call 66; exact calls_later (K17.out _ (HR.out _))))))
  refine wpQuiet_nil ?_
  rintro _ ⟨q, rfl⟩
  have H3 : Aside (Rep q.u B b d.spent ∧ Step (d.foot b) (d.foot b) w q.u) := ⟨HR.out q, H2.out.2.trans (Step.ofBelow q.bel)⟩
  generalize q.u = w3 at H3 ⊢
  clear x2 HR H2 hne K17 K27 KR s1
  go_wp2
  go_ret
  exact ⟨rfl, H3.out⟩


set_option maxHeartbeats 1600000 in
theorem append_fullE {w : World} {B b : Nat} {d : Ds} (h : Rep w B b d) (ok : Ok d.pl) (n x : ByteArray) (hp : d.power = true) (hm : mayBe n = true) (hh : has d.names n = false) (hf : d.files.length ≠ 16) (hf2 : d.room < d.pl.total + x.size) :
    Calls Tryz.prog 33 #[.pointer (some ⟨b, 0, none⟩), .string n, .string x] w fun e w' => e = .returned (.int .i64 2) ∧ Rep w' B b d.spent ∧ Step (d.foot b) (d.foot b) w w' := by
  have kb := begin_any h ok.fuse
  have km := mayBe_any n
  have kf : Aside (∀ u : World, Rep u B b d.spent → _) := fun (u : World) (hu : Rep u B b d.spent) => find_any hu (show Rising d.spent.names from ok.rise) (by have := ok.dfew; show d.files.length ≤ 1000; omega) n
  have K17 : Aside (∀ u : World, Rep u B b d.spent → Calls Tryz.prog 66 #[.pointer (some ⟨b, 0, none⟩)] u fun e w' => e = .returned (.int .i64 (d.pl.total : Nat)) ∧ Below u.heap.size u w') := fun u hu => used_any (d := d.spent) hu ok.spent
  have K27 : Aside (∀ u : World, Rep u B b d.spent → Calls Tryz.prog 69 #[.pointer (some ⟨b, 0, none⟩)] u fun e w' => e = .returned (.int .i64 (16 - (d.files.length : Int))) ∧ Below u.heap.size u w') := fun u hu => (holes_any (d := d.spent) hu ok.spent).mono fun _ _ ⟨a, b⟩ => ⟨by rw [a]; show _ = Ending.returned (.int .i64 (16 - (d.files.length : Int))); simp [Ds.pl, Ds.spent], b ▸ below_refl _⟩
  have KR : Aside (∀ u : World, Rep u B b d.spent → u.cell? ⟨b, 2, none⟩ = some (.int .i64 (d.room : Int))) := fun u hu => hu.c2
  have hroom : d.room ≤ 60000 := ok.room
  have htot : d.pl.total ≤ 60000 := ok.used
  have hfew := ok.dfew

  have en : d.spent.names = d.names := rfl
  rw [hp] at kb
  rw [hm] at km
  rw [en, hh] at kf
  generalize d.pl.total = T at *
  generalize hR : d.room = R at *
  generalize hN : d.files.length = N at *
  generalize hI : place d.names n = I at *
  have hw : IntKind.i64.wrap ((R : Int) - (T : Int)) = (R : Int) - (T : Int) := by rw [IntKind.wrap_i64]; omega
  have d0 : ((16 : Int) - (N : Int) == 0) = false := by simp; omega
  have d1 : decide ((R : Int) - (T : Int) < (x.size : Int)) = true := by simp; omega
  clear h ok hp hm hh en
  go_enter Tryz.func33, Tryz.ntmps33
  go_wp2_with (first
    | (go_at_call 73; refine kb.mono ?_; rintro e w1 ⟨rfl, h1, s1⟩)
    | (go_at_call 74; refine (km _).mono ?_; rintro e w1' ⟨rfl, rfl⟩)
    | (go_at_call 54; refine (kf.out _ h1).mono ?_; rintro e w2 ⟨rfl, hb2⟩))
  have H2 : Aside (Rep w2 B b d.spent ∧ Step (d.foot b) (d.foot b) w w2) := ⟨h1.below hb2, s1.trans (Step.ofBelow hb2)⟩
  have x2 : ∀ q : Later w2, q.u.cell? ⟨b, 2, none⟩ = some (.int .i64 (R : Int)) := fun q => KR.out _ (H2.out.1.below q.bel)
  have HR : Aside (∀ q : Later w2, Rep q.u B b d.spent) := fun q => H2.out.1.below q.bel
  clear h1 hb2 kb km kf
  have hne := later_some w2
  refine wp_region_later (by kernel_rfl) (by kernel_rfl) ?_
  repeat (go_big_quiet_step ((first | (go_at_call 69; exact calls_later (K27.out _ (HR.out _))) | (go_at_call 66; exact calls_later (K17.out _ (HR.out _))))))
  refine wpQuiet_nil ?_
  rintro _ ⟨q, rfl⟩
  have H3 : Aside (Rep q.u B b d.spent ∧ Step (d.foot b) (d.foot b) w q.u) := ⟨HR.out q, H2.out.2.trans (Step.ofBelow q.bel)⟩
  generalize q.u = w3 at H3 ⊢
  clear x2 HR H2 hne K17 K27 KR s1
  go_wp2
  go_ret
  exact ⟨rfl, H3.out⟩

end Go.Proofs.YtajjcfacbnicnaaGreatDoor.Dk
