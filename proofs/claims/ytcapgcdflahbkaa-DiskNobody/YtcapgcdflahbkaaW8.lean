/-
  A file is changed where it lies; Sync, Read, Sure.
-/
import Derived.Test.YtcapgcdflahbkaaW7
namespace Go.Proofs.Ytcapgcdflahbkaa
open Go.RowKit

theorem flatMap_set_same {α β : Type} (g : α → List β) : ∀ (l : List α) (i : Nat) (f f' : α), l[i]? = some f → g f' = g f → (l.set i f').flatMap g = l.flatMap g
  | [], i, f, f', h, _ => by simp at h
  | a :: r, 0, f, f', h, hg => by
    simp at h
    subst h
    simp [List.flatMap_cons, hg]
  | a :: r, i + 1, f, f', h, hg => by
    simp only [List.set_cons_succ, List.flatMap_cons]
    rw [flatMap_set_same g r i f f' (by simpa using h) hg]

theorem mem_set_cases {α : Type} {l : List α} {i : Nat} {a x : α} (h : x ∈ l.set i a) : x = a ∨ x ∈ l := by
  rcases List.mem_or_eq_of_mem_set h with h | h
  · exact .inr h
  · exact .inl h

/-- A file is another one, in the same block; its table was written. -/
theorem Rep.setFile {w w' : World} {B b g i : Nat} {d : Ds} {f f' : Fv} (h : Rep w B b d) (hf : d.files[i]? = some f) (hg : d.vf.ownBlock = some g)
    (ht : w'.ownsRow B 64 3 d.vf d.files.length ((d.files.set i f').flatMap Fv.cells)) (hgr : w.grownBy w' (some g)) (hv : f'.v.ownBlock = f.v.ownBlock) (hrow : w.ownsRow B 5 1 f'.v f'.bytes.length (bcells f'.bytes)) :
    Rep w' B b { d with files := d.files.set i f' } ∧ Step (d.foot b) (d.foot b) w w' := by
  have hm : f ∈ d.files := List.mem_of_getElem? hf
  have hfo : Ds.foot b { d with files := d.files.set i f' } = d.foot b := by
    unfold Ds.foot
    simp only
    rw [flatMap_set_same (fun f => ob f.v) d.files i f f' hf (by unfold ob; rw [hv])]
  have keep : ∀ k, k < w.heap.size → k ≠ g → w'.heap[k]? = w.heap[k]? := fun k hk hn => hgr.block k hk (fun e => hn (Option.some.inj e))
  refine ⟨⟨h.ge, ?_, by simpa using ht, ?_, ?_, by rw [hfo]; exact h.nodup⟩, ?_⟩
  · exact (keep b h.b_lt (fun e => h.b_vf hg e.symm)).trans h.blk
  · exact own_frame h.pcs fun k hk => keep k (h.pcs.lt k hk).2 (fun e => h.vf_vp hg (e ▸ hk))
  · intro x hx
    rcases mem_set_cases hx with rfl | hx
    · exact own_frame hrow fun k hk => keep k (hrow.lt k hk).2 (fun e => h.vf_f hm hg (by rw [← hv, ← e]; exact hk))
    · exact own_frame (h.rows x hx) fun k hk => keep k ((h.rows x hx).lt k hk).2 (fun e => h.vf_f hx hg (e ▸ hk))
  · exact ⟨hgr.os, hgr.tape, hgr.output, hgr.size, fun k hk hn => keep k hk (fun e => hn (foot_vf (e ▸ hg))), fun k hk => .inl hk⟩

theorem Rep.vf_form {w : World} {B b i : Nat} {d : Ds} {f : Fv} (h : Rep w B b d) (hf : d.files[i]? = some f) : ∃ g cap, d.vf = .slice (some ⟨g, 0, none⟩) d.files.length cap ∧ d.files.length ≤ cap ∧ cap ≤ maxLen ∧ d.vf.ownBlock = some g := by
  have := (List.getElem?_eq_some_iff.1 hf).1
  exact own_form h.tab (by omega)

theorem Rep.fcells {w : World} {B b i g : Nat} {d : Ds} {f : Fv} (h : Rep w B b d) (hf : d.files[i]? = some f) (hg : d.vf.ownBlock = some g) : w.cell? ⟨g, i * 3, none⟩ = some (.string f.name) ∧ w.cell? ⟨g, i * 3 + 1, none⟩ = some f.v ∧ w.cell? ⟨g, i * 3 + 2, none⟩ = some (.int .i64 (f.sure : Int)) := by
  obtain ⟨c0, c1, c2⟩ := flat_at hf
  exact ⟨own_cell h.tab hg c0, own_cell h.tab hg c1, own_cell h.tab hg c2⟩

/-- The first n of a slice. -/
def cutV (v : Value) (n : Nat) : Value := match v with
  | .slice a _ c => .slice a n c
  | v => v

theorem own_cutV {w : World} {base : Nat} {e : TypeId} {v : Value} {n : Nat} {xs : List Value} (h : w.ownsRow base e 1 v n xs) (i : Nat) (hi : i ≤ n) : w.ownsRow base e 1 (cutV v i) i (xs.take i) ∧ (cutV v i).ownBlock = v.ownBlock := by
  rcases h.2 with ⟨rfl, rfl⟩ | ⟨g, cap, cur, rfl, _⟩
  · obtain rfl : i = 0 := by omega
    exact ⟨by simpa [cutV] using World.ownsRow_nil w base e 1, rfl⟩
  · have := own_cut h i hi
    rw [Nat.mul_one] at this
    exact ⟨this, rfl⟩

theorem bcells_take (l : List UInt8) (n : Nat) : (bcells l).take n = bcells (l.take n) := by simp [bcells, List.map_take]
theorem bcells_len (l : List UInt8) : (bcells l).length = l.length := by simp [bcells]

/-- What settle makes of a file. -/
def Fv.settled (f : Fv) (n : Nat) : Fv := ⟨f.name, f.bytes.take n, n, cutV f.v n⟩

set_option maxHeartbeats 800000 in
theorem settle_any {w : World} {B b i n : Nat} {d : Ds} {f : Fv} (h : Rep w B b d) (hl : d.pieces.length ≤ 100000) (_hll : d.files.length ≤ 1000) (hf : d.files[i]? = some f) (hn : n ≤ f.bytes.length) (_hbl : f.bytes.length ≤ 100000) :
    Calls Try.prog 46 #[.pointer (some ⟨b, 0, none⟩), .int .i64 (i : Int), .int .i64 (n : Int)] w fun e w' => e = .returned (.tuple #[]) ∧ ∃ v', v'.ownBlock = d.vp.ownBlock ∧
      Rep w' B b { d with files := d.files.set i (f.settled n), pieces := keepOf f.name d.pieces, vp := v' } ∧ Step (d.foot b) (d.foot b) w w' := by
  have hi : i < d.files.length := (List.getElem?_eq_some_iff.1 hf).1
  obtain ⟨g, cap, ev, hcap, hcm, hg⟩ := h.vf_form hf
  obtain ⟨e0, e1, e2⟩ := h.fcells hf hg
  have c0 := h.c0
  have f1 := own_frozen h.tab hg (i * 3 + 1)
  have f2 := own_frozen h.tab hg (i * 3 + 2)
  have hrow := h.rows f (List.mem_of_getElem? hf)
  obtain ⟨hcut, hcb⟩ := own_cutV hrow n hn
  have ht := own_set (own_set h.tab hg (i * 3 + 1) (by omega) (cutV f.v n)) hg (i * 3 + 2) (by omega) (.int .i64 (n : Int))
  have hfs := flat_set d.files i f (f.settled n) hf rfl
  have hSF : Aside (Rep ((w.setCell ⟨g, i * 3 + 1, none⟩ (cutV f.v n)).setCell ⟨g, i * 3 + 2, none⟩ (.int .i64 (n : Int))) B b { d with files := d.files.set i (f.settled n) } ∧ Step (d.foot b) (d.foot b) w ((w.setCell ⟨g, i * 3 + 1, none⟩ (cutV f.v n)).setCell ⟨g, i * 3 + 2, none⟩ (.int .i64 (n : Int)))) := by
    refine h.setFile hf hg ?_ ?_ hcb ?_
    · rw [hfs]; exact ht
    · exact grown_set (grown_set ⟨rfl, rfl, rfl, Nat.le_refl _, fun _ _ _ => rfl⟩ _ _) _ _
    · rw [bcells_take] at hcut
      have : (f.bytes.take n).length = n := by rw [List.length_take]; omega
      show w.ownsRow B 5 1 (cutV f.v n) (f.bytes.take n).length (bcells (f.bytes.take n))
      rw [this]
      exact hcut
  have kf : Aside (∀ u : World, Rep u B b { d with files := d.files.set i (f.settled n) } → _) := fun (u : World) hu => forget_any (d := { d with files := d.files.set i (f.settled n) }) hu hl f.name
  obtain ⟨a, c, ea⟩ := own_any hrow
  have hac : f.bytes.length ≤ c ∧ c ≤ 9223372036854775807 ∧ (a = none → f.bytes.length = 0 ∧ c = 0) := by
    rcases hrow.2 with ⟨e, e'⟩ | ⟨g', cap', cur, e, _, _, h3, h4, _⟩
    · rw [ea] at e
      injection e with e1 e2 e3
      omega
    · rw [ea] at e
      injection e with e1 e2 e3
      subst e3
      refine ⟨h3, by unfold maxLen at h4; omega, fun e => ?_⟩
      rw [e] at e1
      cases e1
  obtain ⟨hc1, hc2, hc3⟩ := hac
  have hcv : cutV f.v n = .slice a n c := by rw [ea]; rfl
  rw [hcv] at hSF
  rw [ea] at e1
  rw [ev] at c0
  have hnc : n ≤ c := by omega
  have FO : Aside (Ds.foot b { d with files := d.files.set i (f.settled n) } = d.foot b) := by
    show Ds.foot b _ = _
    unfold Ds.foot
    simp only
    rw [flatMap_set_same (fun f => ob f.v) d.files i f (f.settled n) hf (by show ob (cutV f.v n) = ob f.v; unfold ob; rw [hcb])]
  clear h ht hfs hrow hcut hcb hcv hf ea ev
  have hnm : ((w.setCell ⟨g, i * 3 + 1, none⟩ (.slice a n c)).setCell ⟨g, i * 3 + 2, none⟩ (.int .i64 (n : Int))).cell? ⟨g, i * 3, none⟩ = some (.string f.name) := by
    rw [World.cell?_setCell_other _ _ _ _ (by simp), World.cell?_setCell_other _ _ _ _ (by simp)]
    exact e0
  cases a with
  | none =>
    obtain ⟨h1, h2⟩ := hc3 rfl
    obtain rfl : n = 0 := by omega
    subst h2
    go_enter Try.func46, Try.ntmps46
    go_wp2_with (go_at_call 60; refine (kf.out _ hSF.out.1).mono ?_; rintro e w2 ⟨rfl, v', hv, hr, hs⟩)
    go_end0
    rw [FO.out] at hs
    exact ⟨rfl, v', hv, hr, hSF.out.2.trans hs⟩
  | some ad =>
    go_enter Try.func46, Try.ntmps46
    go_wp2_with (go_at_call 60; refine (kf.out _ hSF.out.1).mono ?_; rintro e w2 ⟨rfl, v', hv, hr, hs⟩)
    go_end0
    rw [FO.out] at hs
    exact ⟨rfl, v', hv, hr, hSF.out.2.trans hs⟩
end Go.Proofs.Ytcapgcdflahbkaa
