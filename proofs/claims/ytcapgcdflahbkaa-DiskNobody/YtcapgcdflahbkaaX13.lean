/-
  Rename.
-/
import Derived.Test.YtcapgcdflahbkaaX11
namespace Go.Proofs.Ytcapgcdflahbkaa
open Go.RowKit

def St.putAt (s : St) (i : Nat) (f : F) : St := { s with files := s.files.take i ++ f :: s.files.drop i }
/-- What is there is dropped. -/
def St.free1 (s : St) (n : ByteArray) : St := if has s.names n then s.drop (place s.names n) else s
def opRename (s : St) (n t : ByteArray) : Int × St :=
  if s.power then if mayBe t then match s.files[place s.names n]?, has s.names n with
    | some f, true => if f.sure < f.bytes.length then (8, s.spent) else if cmp n t = 0 then (0, s.spent) else
        (0, ((s.spent.drop (place s.names n)).free1 t).putAt (place (s.spent.drop (place s.names n)).names t) ⟨t, f.bytes, f.sure⟩)
    | _, _ => (6, s.spent)
  else (1, s.spent) else (12, s.spent)

theorem rename_early {w : World} {B b : Nat} {d : Ds} (h : Rep w B b d) (ok : Ok d.pl) (n t : ByteArray) (hq : d.power = false ∨ mayBe t = false) :
    Calls Try.prog 24 #[.pointer (some ⟨b, 0, none⟩), .string n, .string t] w fun e w' => e = .returned (.int .i64 (if d.power then 1 else 12)) ∧ Rep w' B b d.spent ∧ Step (d.foot b) (d.foot b) w w' := by
  have kb := begin_any h ok.fuse
  have km := mayBe_any t
  clear h ok
  cases hp : d.power with
  | false =>
    rw [hp] at kb
    go_enter Try.func24, Try.ntmps24
    go_wp2_with (go_at_call 42; refine kb.mono ?_; rintro e w1 ⟨rfl, h1, s1⟩)
    go_ret
    exact ⟨rfl, h1, s1⟩
  | true =>
    rw [hp] at kb hq
    rcases hq with hq | hq
    · cases hq
    · rw [hq] at km
      go_enter Try.func24, Try.ntmps24
      go_wp2_with (first
        | (go_at_call 42; refine kb.mono ?_; rintro e w1 ⟨rfl, h1, s1⟩)
        | (go_at_call 43; refine (km _).mono ?_; rintro e w2 ⟨rfl, rfl⟩))
      go_ret
      exact ⟨rfl, h1, s1⟩

theorem rename_none {w : World} {B b : Nat} {d : Ds} (h : Rep w B b d) (ok : Ok d.pl) (n t : ByteArray) (hp : d.power = true) (hm : mayBe t = true) (hh : has d.names n = false) :
    Calls Try.prog 24 #[.pointer (some ⟨b, 0, none⟩), .string n, .string t] w fun e w' => e = .returned (.int .i64 6) ∧ Rep w' B b d.spent ∧ Step (d.foot b) (d.foot b) w w' := by
  have kb := begin_any h ok.fuse
  have km := mayBe_any t
  have kf : Aside (∀ u : World, Rep u B b d.spent → _) := fun (u : World) (hu : Rep u B b d.spent) => find_any hu (show Rising d.spent.names from ok.rise) (by have := ok.dfew; show d.files.length ≤ 1000; omega) n
  have en : d.spent.names = d.names := rfl
  rw [hp] at kb
  rw [hm] at km
  rw [en, hh] at kf
  clear h ok hp hm hh en
  go_enter Try.func24, Try.ntmps24
  go_wp2_with (first
    | (go_at_call 42; refine kb.mono ?_; rintro e w1 ⟨rfl, h1, s1⟩)
    | (go_at_call 43; refine (km _).mono ?_; rintro e w1' ⟨rfl, rfl⟩)
    | (go_at_call 41; refine (kf.out _ h1).mono ?_; rintro e w2 ⟨rfl, hb2⟩))
  go_ret
  exact ⟨rfl, h1.below hb2, s1.trans (Step.ofBelow hb2)⟩

theorem eq_bytes' {a b : ByteArray} (h : cmp a b ≠ 0) : (a.toList == b.toList) = false := by rw [eq_bytes]; simpa using h
theorem eq_bytes'' {a b : ByteArray} (h : cmp a b = 0) : (a.toList == b.toList) = true := by rw [eq_bytes]; simpa using h

set_option maxHeartbeats 1600000 in
theorem rename_stay {w : World} {B b : Nat} {d : Ds} {f : Fv} (h : Rep w B b d) (ok : Ok d.pl) (n t : ByteArray) (hp : d.power = true) (hm : mayBe t = true) (hh : has d.names n = true) (hf : d.files[place d.names n]? = some f) (hc : f.sure < f.bytes.length ∨ cmp n t = 0) :
    Calls Try.prog 24 #[.pointer (some ⟨b, 0, none⟩), .string n, .string t] w fun e w' => e = .returned (.int .i64 (if f.sure < f.bytes.length then 8 else 0)) ∧ Rep w' B b d.spent ∧ Step (d.foot b) (d.foot b) w w' := by
  have kb := begin_any h ok.fuse
  have km := mayBe_any t
  have kf : Aside (∀ u : World, Rep u B b d.spent → _) := fun (u : World) (hu : Rep u B b d.spent) => find_any hu (show Rising d.spent.names from ok.rise) (by have := ok.dfew; show d.files.length ≤ 1000; omega) n
  have en : d.spent.names = d.names := rfl
  rw [hp] at kb
  rw [hm] at km
  rw [en, hh] at kf
  have hfew := ok.dfew
  have hi : place d.names n < d.files.length := (List.getElem?_eq_some_iff.1 hf).1
  obtain ⟨g, cap, ev, hcap, hcm, hg⟩ := h.vf_form hf
  obtain ⟨a, c, ea⟩ := own_any (h.rows f (List.mem_of_getElem? hf))
  have hfc : Aside (∀ u : World, Rep u B b d.spent → u.cell? ⟨b, 0, none⟩ = some (.slice (some ⟨g, 0, none⟩) d.files.length cap) ∧ u.cell? ⟨g, place d.names n * 3, none⟩ = some (.string f.name) ∧ u.cell? ⟨g, place d.names n * 3 + 1, none⟩ = some (.slice a f.bytes.length c) ∧ u.cell? ⟨g, place d.names n * 3 + 2, none⟩ = some (.int .i64 (f.sure : Int))) := fun (u : World) hu => by
    have := hu.fcells (d := d.spent) hf hg
    rw [ea] at this
    exact ⟨by rw [← ev]; exact hu.c0, this⟩
  clear h ok hp hm hh en hf ev
  generalize place d.names n = I at *
  by_cases hlt : f.sure < f.bytes.length
  · have d1 : decide ((f.sure : Int) < (f.bytes.length : Int)) = true := by simp; omega
    have d1' : decide (f.sure < f.bytes.length) = true := by simpa using hlt
    rw [if_pos hlt]
    go_enter Try.func24, Try.ntmps24
    go_wp2_with (first
      | (go_at_call 42; refine kb.mono ?_; rintro e w1 ⟨rfl, h1, s1⟩)
      | (go_at_call 43; refine (km _).mono ?_; rintro e w1' ⟨rfl, rfl⟩)
      | (go_at_call 41; refine (kf.out _ h1).mono ?_; rintro e w2 ⟨rfl, hb2⟩; obtain ⟨x0, x1, x2, x3⟩ := hfc.out _ (h1.below hb2)))
    go_ret
    exact ⟨rfl, (h1.below hb2).below ((Below.refl _ _).alloc (Nat.le_refl _) _), (s1.trans (Step.ofBelow hb2)).trans (Step.ofBelow ((Below.refl _ _).alloc (Nat.le_refl _) _))⟩
  · have d1 : decide ((f.sure : Int) < (f.bytes.length : Int)) = false := by simp; omega
    have d1' : decide (f.sure < f.bytes.length) = false := by simpa using hlt
    rw [if_neg hlt]
    have hc' := eq_bytes'' (hc.resolve_left hlt)
    clear hc
    go_enter Try.func24, Try.ntmps24
    go_wp2_with (first
      | (go_at_call 42; refine kb.mono ?_; rintro e w1 ⟨rfl, h1, s1⟩)
      | (go_at_call 43; refine (km _).mono ?_; rintro e w1' ⟨rfl, rfl⟩)
      | (go_at_call 41; refine (kf.out _ h1).mono ?_; rintro e w2 ⟨rfl, hb2⟩; obtain ⟨x0, x1, x2, x3⟩ := hfc.out _ (h1.below hb2)))
    go_ret
    exact ⟨rfl, (h1.below hb2).below ((Below.refl _ _).alloc (Nat.le_refl _) _), (s1.trans (Step.ofBelow hb2)).trans (Step.ofBelow ((Below.refl _ _).alloc (Nat.le_refl _) _))⟩
end Go.Proofs.Ytcapgcdflahbkaa
