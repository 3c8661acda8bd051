/-
  A file is changed where it lies; Sync, Read, Sure.
-/
import Derived.Test.YtblhkhgcaheplaaGreatDoorDW7
namespace Go.Proofs.YtblhkhgcaheplaaGreatDoor.Dk
open Go.RowKit
set_option maxRecDepth 100000

theorem flatMap_set_same {α β : Type} (g : α → List β) : ∀ (l : List α) (i : Nat) (f f' : α), l[i]? = some f → g f' = g f → (l.set i f').flatMap g = l.flatMap g
  | [], i, f, f', h, _ => by simp at h
  | a :: r, 0, f, f', h, hg => by
    simp at h
    subst h
    simp [List.flatMap_cons, hg]
  | a :: r, i + 1, f, f', h, hg => by
    simp only [List.set_cons_succ, List.flatMap_cons]
    rw [flatMap_set_same g r i f f' (by simpa using h) hg]

theorem mem_set_cases {α : Type} {l : List α} {i : Nat} {a x : α} (h : x ∈ l.set i a) : x = a ∨ x ∈ l := by
  rcases List.mem_or_eq_of_mem_set h with h | h
  · exact .inr h
  · exact .inl h

/-- A file is another one, in the same block; its table was written. -/
theorem Rep.setFile {w w' : World} {B b g i : Nat} {d : Ds} {f f' : Fv} (h : Rep w B b d) (hf : d.files[i]? = some f) (hg : d.vf.ownBlock = some g)
    (ht : w'.ownsRow B 52 3 d.vf d.files.length ((d.files.set i f').flatMap Fv.cells)) (hgr : w.grownBy w' (some g)) (hv : f'.v.ownBlock = f.v.ownBlock) (hrow : w.ownsRow B 5 1 f'.v f'.bytes.length (bcells f'.bytes)) :
    Rep w' B b { d with files := d.files.set i f' } ∧ Step (d.foot b) (d.foot b) w w' := by
  have hm : f ∈ d.files := List.mem_of_getElem? hf
  have hfo : Ds.foot b { d with files := d.files.set i f' } = d.foot b := by
    unfold Ds.foot
    simp only
    rw [flatMap_set_same (fun f => ob f.v) d.files i f f' hf (by unfold ob; rw [hv])]
  have keep : ∀ k, k < w.heap.size → k ≠ g → w'.heap[k]? = w.heap[k]? := fun k hk hn => hgr.block k hk (fun e => hn (Option.some.inj e))
  refine ⟨⟨h.ge, ?_, by simpa using ht, ?_, ?_, by rw [hfo]; exact h.nodup⟩, ?_⟩
  · exact (keep b h.b_lt (fun e => h.b_vf hg e.symm)).trans h.blk
  · exact own_frame h.pcs fun k hk => keep k (h.pcs.lt k hk).2 (fun e => h.vf_vp hg (e ▸ hk))
  · intro x hx
    rcases mem_set_cases hx with rfl | hx
    · exact own_frame hrow fun k hk => keep k (hrow.lt k hk).2 (fun e => h.vf_f hm hg (by rw [← hv, ← e]; exact hk))
    · exact own_frame (h.rows x hx) fun k hk => keep k ((h.rows x hx).lt k hk).2 (fun e => h.vf_f hx hg (e ▸ hk))
  · exact ⟨hgr.os, hgr.tape, hgr.output, hgr.size, fun k hk hn => keep k hk (fun e => hn (foot_vf (e ▸ hg))), fun k hk => .inl hk⟩

theorem Rep.vf_form {w : World} {B b i : Nat} {d : Ds} {f : Fv} (h : Rep w B b d) (hf : d.files[i]? = some f) : ∃ g cap, d.vf = .slice (some ⟨g, 0, none⟩) d.files.length cap ∧ d.files.length ≤ cap ∧ cap ≤ maxLen ∧ d.vf.ownBlock = some g := by
  have := (List.getElem?_eq_some_iff.1 hf).1
  exact own_form h.tab (by omega)

theorem Rep.fcells {w : World} {B b i g : Nat} {d : Ds} {f : Fv} (h : Rep w B b d) (hf : d.files[i]? = some f) (hg : d.vf.ownBlock = some g) : w.cell? ⟨g, i * 3, none⟩ = some (.string f.name) ∧ w.cell? ⟨g, i * 3 + 1, none⟩ = some f.v ∧ w.cell? ⟨g, i * 3 + 2, none⟩ = some (.int .i64 (f.sure : Int)) := by
  obtain ⟨c0, c1, c2⟩ := flat_at hf
  exact ⟨own_cell h.tab hg c0, own_cell h.tab hg c1, own_cell h.tab hg c2⟩

/-- The first n of a slice. -/
def cutV (v : Value) (n : Nat) : Value := match v with
  | .slice a _ c => .slice a n c
  | v => v

theorem own_cutV {w : World} {base : Nat} {e : TypeId} {v : Value} {n : Nat} {xs : List Value} (h : w.ownsRow base e 1 v n xs) (i : Nat) (hi : i ≤ n) : w.ownsRow base e 1 (cutV v i) i (xs.take i) ∧ (cutV v i).ownBlock = v.ownBlock := by
  rcases h.2 with ⟨rfl, rfl⟩ | ⟨g, cap, cur, rfl, _⟩
  · obtain rfl : i = 0 := by omega
    exact ⟨by simpa [cutV] using World.ownsRow_nil w base e 1, rfl⟩
  · have := own_cut h i hi
    rw [Nat.mul_one] at this
    exact ⟨this, rfl⟩

theorem bcells_take (l : List UInt8) (n : Nat) : (bcells l).take n = bcells (l.take n) := by simp [bcells, List.map_take]
theorem bcells_len (l : List UInt8) : (bcells l).length = l.length := by simp [bcells]

/-- What settle makes of a file. -/
def Fv.settled (f : Fv) (n : Nat) : Fv := ⟨f.name, f.bytes.take n, n, cutV f.v n⟩

end Go.Proofs.YtblhkhgcaheplaaGreatDoor.Dk
