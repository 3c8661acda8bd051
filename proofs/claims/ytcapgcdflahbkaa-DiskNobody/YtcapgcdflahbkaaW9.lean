/-
  Sync and Cut.
-/
import Derived.Test.YtcapgcdflahbkaaM2
namespace Go.Proofs.Ytcapgcdflahbkaa
open Go.RowKit

theorem dhas_get {d : Ds} (hr : Rising d.names) {n : ByteArray} (h : has d.names n = true) : ∃ f, d.files[place d.names n]? = some f ∧ f.name = n ∧ f ∈ d.files := by
  obtain ⟨h1, h2⟩ := (place_mem hr n).1 (has_iff.1 h)
  have hl : place d.names n < d.files.length := by simpa [Ds.names] using h1
  refine ⟨d.files[place d.names n], List.getElem?_eq_getElem hl, ?_, List.getElem_mem hl⟩
  rw [getElem!_pos d.names (place d.names n) h1] at h2
  refine Eq.trans ?_ h2
  simp [Ds.names]

theorem Ok.rise {d : Ds} (h : Ok d.pl) : Rising d.names := by rw [← names_pl]; exact h.rising
theorem Ok.dfew {d : Ds} (h : Ok d.pl) : d.files.length ≤ 16 := by simpa [Ds.pl] using h.few
theorem Ok.dbytes {d : Ds} (h : Ok d.pl) {f : Fv} (hf : f ∈ d.files) : f.bytes.length ≤ 60000 := h.bytes (f := f.pl) (List.mem_map.2 ⟨f, hf, rfl⟩)
theorem pl_get {d : Ds} {i : Nat} {f : Fv} (h : d.files[i]? = some f) : d.pl.files[i]? = some f.pl := by
  show (d.files.map Fv.pl)[i]? = _
  rw [List.getElem?_map, h]
  rfl

theorem pl_settle {d : Ds} {i k : Nat} {f : Fv} {v' : Value} (hf : d.files[i]? = some f) : Ds.pl { d.spent with files := d.files.set i (f.settled k), pieces := keepOf f.name d.pieces, vp := v' } = d.pl.spent.settle i k := by
  have h1 : d.pl.spent.files[i]? = some f.pl := pl_get hf
  unfold St.settle
  rw [h1]
  simp only [Ds.pl, List.map_set]
  rfl

theorem foot_settle {d : Ds} {b i k : Nat} {f : Fv} {v' : Value} {l : List Pc} (hf : d.files[i]? = some f) (hv : v'.ownBlock = d.vp.ownBlock) (hc : (cutV f.v k).ownBlock = f.v.ownBlock) : Ds.foot b { d.spent with files := d.files.set i (f.settled k), pieces := l, vp := v' } = d.foot b := by
  unfold Ds.foot
  simp only
  rw [flatMap_set_same (fun f => ob f.v) d.files i f (f.settled k) hf (by show ob (cutV f.v k) = ob f.v; unfold ob; rw [hc])]
  unfold ob
  rw [hv]
  rfl

set_option maxHeartbeats 800000 in
theorem sync_any {w : World} {B b : Nat} {d : Ds} (h : Rep w B b d) (ok : Ok d.pl) (n : ByteArray) :
    Calls Try.prog 22 #[.pointer (some ⟨b, 0, none⟩), .string n] w fun e w' => e = .returned (.int .i64 (opSync d.pl n).1) ∧ ∃ d', Rep w' B b d' ∧ d'.pl = (opSync d.pl n).2 ∧ Step (d.foot b) (d'.foot b) w w' := by
  have ko := open_any h ok.fuse ok.rise (by have := ok.dfew; omega) n
  unfold opSync
  rw [power_pl, names_pl]
  cases hp : d.power with
  | false =>
    rw [hp] at ko
    simp only [Bool.false_and, Bool.false_eq_true, if_false] at ko ⊢
    clear h
    go_enter Try.func22, Try.ntmps22
    go_wp2_with (go_at_call 45; refine ko.mono ?_; rintro e w1 ⟨rfl, h1, s1⟩)
    go_ret
    exact ⟨rfl, d.spent, h1, rfl, s1⟩
  | true =>
    cases hh : has d.names n with
    | false =>
      rw [hp, hh] at ko
      simp only [Bool.and_false, Bool.false_eq_true, if_false, if_true] at ko ⊢
      clear h
      go_enter Try.func22, Try.ntmps22
      go_wp2_with (go_at_call 45; refine ko.mono ?_; rintro e w1 ⟨rfl, h1, s1⟩)
      go_ret
      exact ⟨rfl, d.spent, h1, rfl, s1⟩
    | true =>
      rw [hp, hh] at ko
      simp only [Bool.and_true, if_true] at ko ⊢
      obtain ⟨f, hf, hfn, hfm⟩ := dhas_get ok.rise hh
      generalize hi : place d.names n = i at *
      have hlt : i < d.files.length := (List.getElem?_eq_some_iff.1 hf).1
      have hlen : d.pl.len n = f.bytes.length := by
        unfold St.len
        rw [names_pl, hi, pl_get hf]
        rfl
      rw [hlen]
      obtain ⟨g, cap, ev, hcap, hcm, hg⟩ := h.vf_form hf
      have hfew := ok.dfew
      have hby := ok.dbytes hfm
      have ks : Aside (∀ u : World, Rep u B b d.spent → _) := fun (u : World) hu => settle_any (d := d.spent) (n := f.bytes.length) hu (by have := ok.pieces; exact Nat.le_trans this (by omega)) (by show d.files.length ≤ _; omega) hf (Nat.le_refl _) (by omega)
      have hfc : Aside (∀ u : World, Rep u B b d.spent → u.cell? ⟨b, 0, none⟩ = some (.slice (some ⟨g, 0, none⟩) d.files.length cap) ∧ u.cell? ⟨g, i * 3 + 1, none⟩ = some f.v) := fun (u : World) hu => ⟨by rw [← ev]; exact hu.c0, (hu.fcells (d := d.spent) hf hg).2.1⟩
      obtain ⟨a, c, ea⟩ := own_any (h.rows f hfm)
      have hcb : Aside ((cutV f.v f.bytes.length).ownBlock = f.v.ownBlock) := (own_cutV (h.rows f hfm) f.bytes.length (Nat.le_refl _)).2
      have HF : Aside (d.files[i]? = some f) := hf
      clear h hfn hfm hf hi hlen ev
      rw [ea] at hfc
      go_enter Try.func22, Try.ntmps22
      go_wp2_with (first
        | (go_at_call 45; refine ko.mono ?_; rintro e w1 ⟨rfl, h1, s1⟩; obtain ⟨x1, x2⟩ := hfc.out w1 h1)
        | (go_at_call 46; refine (ks.out _ h1).mono ?_; rintro e w2 ⟨rfl, v', hv, h2, s2⟩))
      go_ret
      refine ⟨rfl, _, h2, pl_settle HF.out, ?_⟩
      have fo : Ds.foot b { d.spent with files := d.files.set i (f.settled f.bytes.length), pieces := keepOf f.name d.pieces, vp := v' } = d.foot b := foot_settle HF.out hv hcb.out
      exact (s1.trans s2).trans (fo ▸ Step.refl _ _)
end Go.Proofs.Ytcapgcdflahbkaa
