/-
  Crash: what lasts, and what is cut.
-/
import Derived.Test.YtcapgcdflahbkaaX11
namespace Go.Proofs.Ytcapgcdflahbkaa
open Go.RowKit

def surerV (l : List Fv) (n : ByteArray) (k : Nat) : List Fv := l.map fun f => if cmp f.name n = 0 then ⟨f.name, f.bytes, f.sure + k, f.v⟩ else f
def cutF (f : Fv) : Fv := f.settled f.sure

theorem surerV_pl (l : List Fv) (n : ByteArray) (k : Nat) : (surerV l n k).map Fv.pl = surer (l.map Fv.pl) n k := by
  unfold surerV surer
  rw [List.map_map, List.map_map]
  refine List.map_congr_left fun f _ => ?_
  show Fv.pl (if _ then _ else _) = (if cmp f.name n = 0 then _ else _)
  split <;> rfl
theorem cutF_pl (l : List Fv) : (l.map cutF).map Fv.pl = cutAll (l.map Fv.pl) := by
  unfold cutAll
  rw [List.map_map, List.map_map]
  rfl
theorem surerV_names (l : List Fv) (n : ByteArray) (k : Nat) : (surerV l n k).map Fv.name = l.map Fv.name := by
  unfold surerV
  rw [List.map_map]
  refine List.map_congr_left fun f _ => ?_
  show Fv.name (if _ then _ else _) = _
  split <;> rfl
theorem surerV_v (l : List Fv) (n : ByteArray) (k : Nat) : (surerV l n k).map Fv.v = l.map Fv.v := by
  unfold surerV
  rw [List.map_map]
  refine List.map_congr_left fun f _ => ?_
  show Fv.v (if _ then _ else _) = _
  split <;> rfl

theorem surerV_set {l : List Fv} {n : ByteArray} {k i : Nat} {f : Fv} (hn : (l.map Fv.name).Nodup) (hf : l[i]? = some f) (he : f.name = n) : surerV l n k = l.set i ⟨f.name, f.bytes, f.sure + k, f.v⟩ := by
  obtain ⟨A, C, e1, e2, _⟩ := split_at hf (⟨f.name, f.bytes, f.sure + k, f.v⟩ : Fv)
  rw [e2]
  unfold surerV
  rw [e1] at hn ⊢
  rw [List.map_append, List.map_cons] at hn ⊢
  obtain ⟨_, h2, h3⟩ := List.nodup_append.1 hn
  have h4 := (List.nodup_cons.1 h2).1
  congr 1
  · conv => rhs; rw [← List.map_id A]
    refine List.map_congr_left fun x hx => if_neg fun hc => ?_
    exact h3 x.name (List.mem_map.2 ⟨x, hx, rfl⟩) f.name List.mem_cons_self ((cmp_zero.1 hc).trans he.symm)
  · congr 1
    · exact if_pos (by rw [he]; exact cmp_self n)
    · conv => rhs; rw [← List.map_id C]
      refine List.map_congr_left fun x hx => if_neg fun hc => ?_
      exact h4 (List.mem_map.2 ⟨x, hx, (cmp_zero.1 hc).trans he.symm⟩)

theorem foot_same {b : Nat} {d : Ds} {L : List Fv} (h : L.map Fv.v = d.files.map Fv.v) : Ds.foot b { d with files := L } = d.foot b := by
  unfold Ds.foot
  simp only
  have e : ∀ l : List Fv, (l.flatMap fun f => ob f.v) = (l.map Fv.v).flatMap ob := fun l => by rw [List.flatMap_map]
  rw [e, e, h]

theorem Rep.setSure {w : World} {B b g i : Nat} {d : Ds} {f : Fv} (h : Rep w B b d) (hf : d.files[i]? = some f) (hg : d.vf.ownBlock = some g) (m : Nat) :
    Rep (w.setCell ⟨g, i * 3 + 2, none⟩ (.int .i64 (m : Int))) B b { d with files := d.files.set i ⟨f.name, f.bytes, m, f.v⟩ } ∧ Step (d.foot b) (d.foot b) w (w.setCell ⟨g, i * 3 + 2, none⟩ (.int .i64 (m : Int))) := by
  have hi : i < d.files.length := (List.getElem?_eq_some_iff.1 hf).1
  refine h.setFile hf hg ?_ (grown_set (grown_refl w _) _ _) rfl (h.rows f (List.mem_of_getElem? hf))
  rw [flat_sets d.files i f ⟨f.name, f.bytes, m, f.v⟩ hf rfl rfl]
  exact own_set h.tab hg (i * 3 + 2) (by omega) _

theorem Rep.setCut {w : World} {B b g i : Nat} {d : Ds} {f : Fv} (h : Rep w B b d) (hf : d.files[i]? = some f) (hg : d.vf.ownBlock = some g) (hs : f.sure ≤ f.bytes.length) :
    Rep (w.setCell ⟨g, i * 3 + 1, none⟩ (cutV f.v f.sure)) B b { d with files := d.files.set i (cutF f) } ∧ Step (d.foot b) (d.foot b) w (w.setCell ⟨g, i * 3 + 1, none⟩ (cutV f.v f.sure)) := by
  have hi : i < d.files.length := (List.getElem?_eq_some_iff.1 hf).1
  obtain ⟨h1, h2⟩ := own_cutV (h.rows f (List.mem_of_getElem? hf)) f.sure hs
  refine h.setFile hf hg ?_ (grown_set (grown_refl w _) _ _) h2 ?_
  · rw [flat_setv d.files i f (cutF f) hf rfl rfl]
    exact own_set h.tab hg (i * 3 + 1) (by omega) _
  · have e : (cutF f).bytes.length = f.sure := by show (f.bytes.take f.sure).length = _; rw [List.length_take]; omega
    rw [e]
    show w.ownsRow B 5 1 (cutV f.v f.sure) f.sure (bcells (f.bytes.take f.sure))
    rw [← bcells_take]
    exact h1

theorem Rep.noPieces {w : World} {B b : Nat} {d : Ds} (h : Rep w B b d) :
    Rep (w.setCell ⟨b, 1, none⟩ (.slice none 0 0)) B b { d with pieces := [], vp := .slice none 0 0 } ∧ Step (d.foot b) (Ds.foot b { d with pieces := [], vp := .slice none 0 0 }) w (w.setCell ⟨b, 1, none⟩ (.slice none 0 0)) := by
  have hsub : (Ds.foot b { d with pieces := [], vp := .slice none 0 0 }).Sublist (d.foot b) := by
    unfold Ds.foot
    exact (((List.sublist_append_right _ _)).append_left _).cons_cons _
  have keep : ∀ k, k ≠ b → (w.setCell ⟨b, 1, none⟩ (.slice none 0 0)).heap[k]? = w.heap[k]? := fun k hk => Below.heap_setCell w ⟨b, 1, none⟩ _ k hk
  exact ⟨⟨h.ge, set_same h.blk rfl, own_frame h.tab fun k hk => keep k (h.b_vf hk), World.ownsRow_nil _ _ _ _, fun f hf => own_frame (h.rows f hf) fun k hk => keep k (h.b_f hf hk), h.nodup.sublist hsub⟩, (Step.setb w foot_b 1 _).trans ⟨rfl, rfl, rfl, Nat.le_refl _, fun _ _ _ => rfl, fun k hk => .inl (hsub.subset hk)⟩⟩

theorem wait_pos {n : ByteArray} {p : Pc} {l : List Pc} (h : p.name = n) : wait n (p :: l) = p.size + wait n l := by rw [wait_cons, if_pos (by rw [h]; exact cmp_self n)]
theorem wait_neg {n : ByteArray} {p : Pc} {l : List Pc} (h : ¬ p.name = n) : wait n (p :: l) = wait n l := by rw [wait_cons, if_neg (fun e => h (cmp_zero.1 e)), Nat.zero_add]

/-- The files, so many of which are cut. -/
def cutUpto (l : List Fv) (k : Nat) : List Fv := (l.take k).map cutF ++ l.drop k
theorem cutUpto_next {l : List Fv} {k : Nat} {f : Fv} (hf : l[k]? = some f) : (cutUpto l k)[k]? = some f ∧ cutUpto l (k + 1) = (cutUpto l k).set k (cutF f) := by
  have hk : k < l.length := (List.getElem?_eq_some_iff.1 hf).1
  have hl : ((l.take k).map cutF).length = k := by rw [List.length_map, List.length_take]; omega
  unfold cutUpto
  have hd : l.drop k = f :: l.drop (k + 1) := by rw [List.drop_eq_getElem_cons hk, (List.getElem?_eq_some_iff.1 hf).2]
  refine ⟨?_, ?_⟩
  · rw [List.getElem?_append_right (by omega), hl, Nat.sub_self, hd]
    rfl
  · rw [List.set_append_right _ _ (by omega), hl, Nat.sub_self, hd, List.take_add_one, hf]
    simp
theorem cutUpto_len (l : List Fv) (k : Nat) : (cutUpto l k).length = l.length := by
  unfold cutUpto
  rw [List.length_append, List.length_map, List.length_take, List.length_drop]
  omega
theorem cutUpto_all (l : List Fv) : cutUpto l l.length = l.map cutF := by simp [cutUpto]
end Go.Proofs.Ytcapgcdflahbkaa
