/-
  Sync and Cut.
-/
import Derived.Test.YtblhkhgcaheplaaGreatDoorDM2
namespace Go.Proofs.YtblhkhgcaheplaaGreatDoor.Dk
open Go.RowKit
set_option maxRecDepth 100000

theorem dhas_get {d : Ds} (hr : Rising d.names) {n : ByteArray} (h : has d.names n = true) : ∃ f, d.files[place d.names n]? = some f ∧ f.name = n ∧ f ∈ d.files := by
  obtain ⟨h1, h2⟩ := (place_mem hr n).1 (has_iff.1 h)
  have hl : place d.names n < d.files.length := by simpa [Ds.names] using h1
  refine ⟨d.files[place d.names n], List.getElem?_eq_getElem hl, ?_, List.getElem_mem hl⟩
  rw [getElem!_pos d.names (place d.names n) h1] at h2
  refine Eq.trans ?_ h2
  simp [Ds.names]

theorem Ok.rise {d : Ds} (h : Ok d.pl) : Rising d.names := by rw [← names_pl]; exact h.rising
theorem Ok.dfew {d : Ds} (h : Ok d.pl) : d.files.length ≤ 16 := by simpa [Ds.pl] using h.few
theorem Ok.dbytes {d : Ds} (h : Ok d.pl) {f : Fv} (hf : f ∈ d.files) : f.bytes.length ≤ 60000 := h.bytes (f := f.pl) (List.mem_map.2 ⟨f, hf, rfl⟩)
theorem pl_get {d : Ds} {i : Nat} {f : Fv} (h : d.files[i]? = some f) : d.pl.files[i]? = some f.pl := by
  show (d.files.map Fv.pl)[i]? = _
  rw [List.getElem?_map, h]
  rfl

theorem pl_settle {d : Ds} {i k : Nat} {f : Fv} {v' : Value} (hf : d.files[i]? = some f) : Ds.pl { d.spent with files := d.files.set i (f.settled k), pieces := keepOf f.name d.pieces, vp := v' } = d.pl.spent.settle i k := by
  have h1 : d.pl.spent.files[i]? = some f.pl := pl_get hf
  unfold St.settle
  rw [h1]
  simp only [Ds.pl, List.map_set]
  rfl

theorem foot_settle {d : Ds} {b i k : Nat} {f : Fv} {v' : Value} {l : List Pc} (hf : d.files[i]? = some f) (hv : v'.ownBlock = d.vp.ownBlock) (hc : (cutV f.v k).ownBlock = f.v.ownBlock) : Ds.foot b { d.spent with files := d.files.set i (f.settled k), pieces := l, vp := v' } = d.foot b := by
  unfold Ds.foot
  simp only
  rw [flatMap_set_same (fun f => ob f.v) d.files i f (f.settled k) hf (by show ob (cutV f.v k) = ob f.v; unfold ob; rw [hc])]
  unfold ob
  rw [hv]
  rfl

end Go.Proofs.YtblhkhgcaheplaaGreatDoor.Dk
