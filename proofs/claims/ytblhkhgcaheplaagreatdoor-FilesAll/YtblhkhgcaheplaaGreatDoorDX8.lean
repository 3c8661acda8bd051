/-
  Append, step by step: what each of its steps leaves.
-/
import Derived.Test.YtblhkhgcaheplaaGreatDoorDX7
import Derived.Test.YtblhkhgcaheplaaGreatDoorDQ
namespace Go.Proofs.YtblhkhgcaheplaaGreatDoor.Dk
open Go.RowKit
set_option maxRecDepth 100000

theorem Step.weak {a a' c : List Nat} {u w : World} (h : Step a c u w) (hs : ∀ k ∈ a, k ∈ a' ∨ u.heap.size ≤ k) : Step a' c u w where
  os := h.os
  tape := h.tape
  output := h.output
  size := h.size
  block := fun k hk hn => h.block k hk (fun hm => by
    rcases hs k hm with e | e
    · exact hn e
    · omega)
  sub := fun k hk => by
    rcases h.sub k hk with e | e
    · exact hs k e
    · exact .inr e

theorem own_slice {w : World} {base : Nat} {e : TypeId} {size : Nat} {v : Value} {n : Nat} {xs : List Value} (h : w.ownsRow base e size v n xs) : ∃ a cap, v = .slice a n cap := own_any h

theorem insert_rep {u : World} {B b i : Nat} {d : Ds} {f : Fv} (h : Rep u B b d) (hll : d.files.length ≤ 1000) (hi : i ≤ d.files.length) (hrow : u.ownsRow B 5 1 f.v f.bytes.length (bcells f.bytes)) (hfr : ∀ k, f.v.ownBlock = some k → k ∉ d.foot b) :
    Calls Tryz.prog 21 #[d.vf, .int .i64 (i : Int), .slice (some ⟨u.heap.size, 0, none⟩) 1 1] (u.alloc (.cells #[.string f.name, f.v, .int .i64 (f.sure : Int)] 52)) fun e w' => ∃ a c, e = .returned (.slice a (d.files.length + 1) c) ∧ w'.cell? ⟨b, 0, none⟩ = some d.vf ∧ w'.frozen? ⟨b, 0, none⟩ = false ∧
      Rep (w'.setCell ⟨b, 0, none⟩ (.slice a (d.files.length + 1) c)) B b { d with files := d.files.take i ++ f :: d.files.drop i, vf := .slice a (d.files.length + 1) c } ∧ Step (d.foot b ++ ob f.v) (Ds.foot b { d with files := d.files.take i ++ f :: d.files.drop i, vf := .slice a (d.files.length + 1) c }) u (w'.setCell ⟨b, 0, none⟩ (.slice a (d.files.length + 1) c)) := by
  have hb0 : Below u.heap.size u (u.alloc (.cells #[.string f.name, f.v, .int .i64 (f.sure : Int)] 52)) := (Below.refl _ _).alloc (Nat.le_refl _) _
  have h1 := h.below hb0
  have hB : B ≤ u.heap.size := by have := h.lt b foot_b; omega
  have hne : d.vf.ownBlock ≠ some u.heap.size := fun e => by have := (h.tab.lt _ e).2; omega
  refine (insert_any B u.heap.size i d.vf d.files f _ h1.tab hi hll (by simp; omega) (heap_alloc_new u _) hne (own_one hrow) h1.one).mono ?_
  rintro e w' ⟨v', rfl, ho, hat, hg⟩
  obtain ⟨a, c, rfl⟩ := own_any ho
  have hat' : At (u.alloc (.cells #[.string f.name, f.v, .int .i64 (f.sure : Int)] 52)) d.vf (.slice a (d.files.length + 1) c) := by
    rcases hat with e | e
    · exact .inl e
    · exact .inr ⟨_, e, Nat.le_refl _⟩
  have hrow1 := own_frame (w' := u.alloc (.cells #[.string f.name, f.v, .int .i64 (f.sure : Int)] 52)) hrow (fun k hk => alloc_old u _ k (hrow.lt k hk).2)
  have := h1.insert ho hat' hg hi hrow1 hfr
  obtain ⟨x1, x2⟩ := h1.refiles_cell hg
  exact ⟨a, c, rfl, x1, x2, this.1, (Step.ofBelow hb0).trans this.2⟩

theorem info66 : (Tryz.prog.info? 54).map (fun i => (i.zero, i.size, i.bytes)) = some (some (.agg #[.string ⟨#[]⟩, .int .i64 0]), 2, 24) := by kernel_rfl

theorem pieces_rep {u : World} {B b : Nat} {d : Ds} (h : Rep u B b d) (hl : d.pieces.length ≤ 100000) (p : Pc) : ∃ a c w', (Builtin.append_ #[42, 42] 42 #[d.vp, .slice (some ⟨u.heap.size, 0, none⟩) 1 1]).run Tryz.prog (u.alloc (.cells #[.string p.name, .int .i64 (p.size : Int)] 54)) = .ok (.slice a (d.pieces.length + 1) c) w' ∧ w'.cell? ⟨b, 1, none⟩ = some d.vp ∧ w'.frozen? ⟨b, 1, none⟩ = false ∧
      Rep (w'.setCell ⟨b, 1, none⟩ (.slice a (d.pieces.length + 1) c)) B b { d with pieces := d.pieces ++ [p], vp := .slice a (d.pieces.length + 1) c } ∧ Step (d.foot b) (Ds.foot b { d with pieces := d.pieces ++ [p], vp := .slice a (d.pieces.length + 1) c }) u (w'.setCell ⟨b, 1, none⟩ (.slice a (d.pieces.length + 1) c)) := by
  obtain ⟨i0, hi0, hz0, hzs, hzb⟩ := info_parts info66
  have hb0 : Below u.heap.size u (u.alloc (.cells #[.string p.name, .int .i64 (p.size : Int)] 54)) := (Below.refl _ _).alloc (Nat.le_refl _) _
  have h1 := h.below hb0
  have hB : B ≤ u.heap.size := by have := h.lt b foot_b; omega
  obtain ⟨v', w', hr, ho, hg, _, hat⟩ := run_append_own_at (P := Tryz.prog) (u.alloc (.cells #[.string p.name, .int .i64 (p.size : Int)] 54)) B 42 42 54 i0 (.agg #[.string ⟨#[]⟩, .int .i64 0]) 2 24 Tryz.underlying42 hi0 hz0 hzs hzb rfl (by omega) d.vp d.pieces.length (d.pieces.flatMap Pc.cells) h1.pcs ⟨u.heap.size, 0, none⟩ 1 1 p.cells rfl (fun j v hj => by
      rw [Addr.add_lit, Nat.zero_add, cell_of_row _ u.heap.size j _ _ _ (heap_alloc_new u _), ← hj, ← Array.getElem?_toList]
      rfl) (by simp [Pc.cells, Value.oneCell']) (by unfold maxLen; omega) (by omega) (by simp; omega)
  obtain ⟨a, c, rfl⟩ := own_any ho
  have hat' : At (u.alloc (.cells #[.string p.name, .int .i64 (p.size : Int)] 54)) d.vp (.slice a (d.pieces.length + 1) c) := by
    rcases hat with e | e
    · exact .inl e
    · exact .inr ⟨_, e, Nat.le_refl _⟩
  have ho' : w'.ownsRow B 54 2 (.slice a (d.pieces.length + 1) c) (d.pieces ++ [p]).length ((d.pieces ++ [p]).flatMap Pc.cells) := by
    rw [List.length_append, List.flatMap_append, List.flatMap_cons, List.flatMap_nil, List.append_nil]
    exact ho
  have := h1.morePieces ho' hat' hg
  exact ⟨a, c, w', hr, h1.repieces_cell hg, h1.repieces_fz hg, this.1, (Step.ofBelow hb0).trans this.2⟩

theorem bytes_rep {u : World} {B b g i : Nat} {d : Ds} {f : Fv} (h : Rep u B b d) (hf : d.files[i]? = some f) (hg : d.vf.ownBlock = some g) (s : ByteArray) (hl : f.bytes.length + s.size ≤ 1000000) : ∃ a c w', (Builtin.append_ #[30, 9] 30 #[f.v, .string s]).run Tryz.prog u = .ok (.slice a (f.bytes.length + s.size) c) w' ∧ w'.cell? ⟨b, 0, none⟩ = some d.vf ∧ w'.cell? ⟨g, i * 3 + 1, none⟩ = some f.v ∧ w'.frozen? ⟨g, i * 3 + 1, none⟩ = false ∧
      Rep (w'.setCell ⟨g, i * 3 + 1, none⟩ (.slice a (f.bytes.length + s.size) c)) B b { d with files := d.files.set i ⟨f.name, f.bytes ++ s.data.toList, f.sure, .slice a (f.bytes.length + s.size) c⟩ } ∧ Step (d.foot b) (Ds.foot b { d with files := d.files.set i ⟨f.name, f.bytes ++ s.data.toList, f.sure, .slice a (f.bytes.length + s.size) c⟩ }) u (w'.setCell ⟨g, i * 3 + 1, none⟩ (.slice a (f.bytes.length + s.size) c)) := by
  have hm : f ∈ d.files := List.mem_of_getElem? hf
  have hB : B ≤ u.heap.size := by have := h.lt b foot_b; omega
  obtain ⟨v', w', hr, ho, hgr, hat⟩ := append_str (h.rows f hm) s hl hB 30
  have hs : (f.bytes ++ s.data.toList).length = f.bytes.length + s.size := by rw [List.length_append, Array.length_toList]; rfl
  obtain ⟨a, c, rfl⟩ := own_any ho
  rw [hs] at hr ho hat
  rw [← hs] at ho
  rw [← hs] at hr hat ⊢
  have := h.growFile hf hg ho hat hgr
  refine ⟨a, c, w', hr, ?_, ?_, ?_, this.1, this.2⟩
  · exact hgr.cell h.c0 (fun e => h.b_f hm e.symm rfl)
  · exact hgr.cell (h.fcells hf hg).2.1 (fun e => h.vf_f hm hg e.symm)
  · have htab : w'.ownsRow B 52 3 d.vf d.files.length (d.files.flatMap Fv.cells) := own_frame h.tab fun k hk => hgr.block k (h.tab.lt k hk).2 (fun e => by rw [hg] at hk; injection hk with hk; subst hk; exact h.vf_f hm hg e.symm)
    exact own_frozen htab hg _

def St.more (s : St) (i : Nat) (n x : ByteArray) : St := match s.files[i]? with
  | some f => { s with files := s.files.set i ⟨f.name, f.bytes ++ x.data.toList, f.sure⟩, pieces := s.pieces ++ [⟨n, x.size⟩] }
  | none => s
def St.make (s : St) (n : ByteArray) : St := if has s.names n then s else { s with files := s.files.take (place s.names n) ++ ⟨n, [], 0⟩ :: s.files.drop (place s.names n) }
def St.full (s : St) (n x : ByteArray) : Bool := (!has s.names n && decide (s.files.length = 16)) || decide (s.room < s.total + x.size)
def opAppend (s : St) (n x : ByteArray) : Int × St :=
  if s.power then if mayBe n then if s.full n x then (2, s.spent) else (0, if x.size = 0 then s.spent.make n else (s.spent.make n).more (place s.names n) n x) else (1, s.spent) else (12, s.spent)
end Go.Proofs.YtblhkhgcaheplaaGreatDoor.Dk
