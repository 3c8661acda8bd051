/-
  Cut.
-/
import Derived.Test.YtcapgcdflahbkaaW9
namespace Go.Proofs.Ytcapgcdflahbkaa
open Go.RowKit

theorem min_max_cases (k : Int) (l : Nat) : ∃ m : Nat, (min (max k 0) (l : Int)).toNat = m ∧ m ≤ l ∧ (m : Int) = min (max k 0) (l : Int) := ⟨_, rfl, by omega, by omega⟩

set_option maxHeartbeats 1600000 in
theorem cut_any {w : World} {B b : Nat} {d : Ds} (h : Rep w B b d) (ok : Ok d.pl) (n : ByteArray) (k : Int) :
    Calls Try.prog 23 #[.pointer (some ⟨b, 0, none⟩), .string n, .int .i64 k] w fun e w' => e = .returned (.int .i64 (opCut d.pl n k).1) ∧ ∃ d', Rep w' B b d' ∧ d'.pl = (opCut d.pl n k).2 ∧ Step (d.foot b) (d'.foot b) w w' := by
  have ko := open_any h ok.fuse ok.rise (by have := ok.dfew; omega) n
  unfold opCut
  rw [power_pl, names_pl]
  cases hp : d.power with
  | false =>
    rw [hp] at ko
    simp only [Bool.false_and, Bool.false_eq_true, if_false] at ko ⊢
    clear h
    go_enter Try.func23, Try.ntmps23
    go_wp2_with (go_at_call 45; refine ko.mono ?_; rintro e w1 ⟨rfl, h1, s1⟩)
    go_ret
    exact ⟨rfl, d.spent, h1, rfl, s1⟩
  | true =>
    cases hh : has d.names n with
    | false =>
      rw [hp, hh] at ko
      simp only [Bool.and_false, Bool.false_eq_true, if_false, if_true] at ko ⊢
      clear h
      go_enter Try.func23, Try.ntmps23
      go_wp2_with (go_at_call 45; refine ko.mono ?_; rintro e w1 ⟨rfl, h1, s1⟩)
      go_ret
      exact ⟨rfl, d.spent, h1, rfl, s1⟩
    | true =>
      rw [hp, hh] at ko
      simp only [Bool.and_true, if_true] at ko ⊢
      obtain ⟨f, hf, hfn, hfm⟩ := dhas_get ok.rise hh
      generalize hi : place d.names n = i at *
      have hlt : i < d.files.length := (List.getElem?_eq_some_iff.1 hf).1
      have hlen : d.pl.len n = f.bytes.length := by
        unfold St.len
        rw [names_pl, hi, pl_get hf]
        rfl
      rw [hlen]
      obtain ⟨m, em, hml, hm⟩ := min_max_cases k f.bytes.length
      rw [em]
      clear em
      obtain ⟨g, cap, ev, hcap, hcm, hg⟩ := h.vf_form hf
      have hfew := ok.dfew
      have hby := ok.dbytes hfm
      have ks : Aside (∀ u : World, Rep u B b d.spent → _) := fun (u : World) hu => settle_any (d := d.spent) (n := m) hu (by have := ok.pieces; exact Nat.le_trans this (by omega)) (by show d.files.length ≤ _; omega) hf hml (by omega)
      have hfc : Aside (∀ u : World, Rep u B b d.spent → u.cell? ⟨b, 0, none⟩ = some (.slice (some ⟨g, 0, none⟩) d.files.length cap) ∧ u.cell? ⟨g, i * 3 + 1, none⟩ = some f.v) := fun (u : World) hu => ⟨by rw [← ev]; exact hu.c0, (hu.fcells (d := d.spent) hf hg).2.1⟩
      obtain ⟨a, c, ea⟩ := own_any (h.rows f hfm)
      have hcb : Aside ((cutV f.v m).ownBlock = f.v.ownBlock) := (own_cutV (h.rows f hfm) m hml).2
      have HF : Aside (d.files[i]? = some f) := hf
      have fo : Aside (∀ v' : Value, v'.ownBlock = d.vp.ownBlock → Ds.foot b { d.spent with files := d.files.set i (f.settled m), pieces := keepOf f.name d.pieces, vp := v' } = d.foot b) := fun v' hv => foot_settle hf hv hcb.out
      clear h hfn hfm hf hi hlen ev
      rw [ea] at hfc
      generalize f.bytes.length = L at *
      rw [hm] at ks
      go_enter Try.func23, Try.ntmps23
      go_wp2_with (first
        | (go_at_call 45; refine ko.mono ?_; rintro e w1 ⟨rfl, h1, s1⟩; obtain ⟨x1, x2⟩ := hfc.out w1 h1)
        | (go_at_call 46; refine (ks.out _ h1).mono ?_; rintro e w2 ⟨rfl, v', hv, h2, s2⟩))
      go_ret
      exact ⟨rfl, _, h2, pl_settle HF.out, (s1.trans s2).trans (fo.out v' hv ▸ Step.refl _ _)⟩
end Go.Proofs.Ytcapgcdflahbkaa
