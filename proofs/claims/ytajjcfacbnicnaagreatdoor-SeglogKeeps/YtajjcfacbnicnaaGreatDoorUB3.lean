/-
  The list that SeglogKeeps keeps; a crash.
-/
import Derived.Test.YtajjcfacbnicnaaGreatDoorUB2
import Derived.Test.YtajjcfacbnicnaaGreatDoorUK6
import Derived.Test.YtajjcfacbnicnaaGreatDoorU38
import Derived.WalkKit
import Derived.WalkSpells
import Derived.WalkLawsBesides
import Derived.Deep.LoopGhost
import Derived.Laws.Externs
import Derived.Below
import Derived.BigQuiet
import Derived.Deep.RegionWith
import Derived.OwnWalk
import Derived.Maps.AppendAt
import Derived.WalkSmall
namespace Go.Proofs.YtajjcfacbnicnaaGreatDoor
open Go.RowKit
set_option maxRecDepth 100000
/-- The log, its disk, and a list of texts, in memory. -/
structure KS (W : World) (B l b : Nat) (m : Int) (v : Value) (L : List ByteArray) (d : Dk.Ds) (u : World) : Prop where
  sys : Sys B l b 1 m d u
  own : u.ownsRow B 9 1 v L.length (Fm.cellsS L)
  apart : ∀ j, v.ownBlock = some j → j ≠ l ∧ j ∉ d.foot b
  bel : Below W.heap.size W u
  le : W.heap.size ≤ B
theorem KS.later {W u u' : World} {B l b : Nat} {m : Int} {v : Value} {L : List ByteArray} {d : Dk.Ds} (h : KS W B l b m v L d u) (hb : Below u.heap.size u u') : KS W B l b m v L d u' :=
  ⟨h.sys.below hb, Dk.own_frame h.own fun k hk => hb.block k (h.own.lt k hk).2, h.apart, h.bel.trans (hb.mono h.bel.size), h.le⟩
/-- The list of texts behind a step of the disk. -/
theorem row_kept {u u' : World} {B b : Nat} {v : Value} {L : List ByteArray} {d d' : Dk.Ds} (h : u.ownsRow B 9 1 v L.length (Fm.cellsS L)) (ha : ∀ j, v.ownBlock = some j → j ∉ d.foot b) (st : Dk.Step (d.foot b) (d'.foot b) u u') :
    u'.ownsRow B 9 1 v L.length (Fm.cellsS L) ∧ ∀ j, v.ownBlock = some j → j ∉ d'.foot b :=
  ⟨Dk.own_frame h fun k hk => st.block k (h.lt k hk).2 (ha k hk), fun j hj hm => by
    rcases st.sub j hm with e | e
    · exact ha j hj e
    · have := (h.lt j hj).2
      omega⟩
theorem KS.disk {W u u' : World} {B l b : Nat} {m : Int} {v : Value} {L : List ByteArray} {d d' : Dk.Ds} (h : KS W B l b m v L d u) (s : Sys B l b 1 m d' u') (st : Dk.Step (d.foot b) (d'.foot b) u u') : KS W B l b m v L d' u' := by
  obtain ⟨o, a⟩ := row_kept h.own (fun j hj => (h.apart j hj).2) st
  refine ⟨s, o, fun j hj => ⟨(h.apart j hj).1, a j hj⟩, h.bel.trans (st.below (fun k hk => ?_) (by have := h.sys.hs; have := h.le; omega)), h.le⟩
  have := (h.sys.rep.lt k hk).1
  have := h.le
  omega
/-- A text more. -/
theorem KS.push {W u : World} {B l b : Nat} {m : Int} {v : Value} {L : List ByteArray} {d : Dk.Ds} (h : KS W B l b m v L d u) (x : ByteArray) (hL : L.length ≤ 1000) :
    ∃ v' w', (Builtin.append_ #[30, 30] 30 #[v, .slice (some ⟨u.heap.size, 0, none⟩) 1 1]).run Tryz.prog (u.alloc (.cells #[.string x] 9)) = .ok v' w' ∧ KS W B l b m v' (L ++ [x]) d w' := by
  obtain ⟨i0, hi, hz0, hz1, hz2⟩ := info_parts Dk.info9
  have hb1 : Below u.heap.size u (u.alloc (.cells #[.string x] 9)) := (Below.refl _ _).alloc (Nat.le_refl _) _
  have h1 := h.later hb1
  have hs := h.sys.hs
  have hsz : (u.alloc (.cells #[.string x] 9)).heap.size = u.heap.size + 1 := by simp
  obtain ⟨v', w', a1, a2, a3, _, a5⟩ := run_append_own_at (P := Tryz.prog) (w := u.alloc (.cells #[.string x] 9)) B 30 30 9 i0 (.string ⟨#[]⟩) 1 16 Tryz.underlying30 hi hz0 hz1 hz2 rfl (by decide) v _ _ h1.own ⟨u.heap.size, 0, none⟩ 1 1 [.string x] rfl (fun j y hj => by
    match j, hj with
    | 0, hj =>
      simp at hj
      rw [← hj, Addr.add_lit]
      simp
    | j + 1, hj => simp at hj) (by simp [Value.oneCell']) (by unfold maxLen; omega) (by omega) (by rw [hsz]; omega)
  have hbk : ∀ k, v.ownBlock = some k → k ∉ d.foot b ∧ k ≠ l ∧ B ≤ k := fun k hk => ⟨(h.apart k hk).2, (h.apart k hk).1, (h.own.lt k hk).1⟩
  refine ⟨v', w', a1, h1.sys.grown a3 hbk, ?_, fun j hj => ?_, ?_, h.le⟩
  · have e : Fm.cellsS (L ++ [x]) = Fm.cellsS L ++ [.string x] := by rw [cellsS_app]; rfl
    rw [e, List.length_append]
    exact a2
  · rcases a5 with e | e
    · rw [e] at hj
      exact h.apart j hj
    · rw [e] at hj
      injection hj with hj
      rw [hsz] at hj
      refine ⟨fun e2 => ?_, fun hm => ?_⟩
      · have := h.sys.lg.lt
        omega
      · have := (h.sys.rep.lt j hm).2
        omega
  · have hbb := h1.bel
    refine ⟨a3.os.trans hbb.os, a3.tape.trans hbb.tape, a3.output.trans hbb.output, Nat.le_trans hbb.size a3.size, fun j hj => (a3.block j (by have := hbb.size; omega) (fun e => ?_)).trans (hbb.block j hj)⟩
    have := (h.own.lt j e.symm).1
    have := h.le
    omega
/-- A deed in a block of its own. -/
def SdAt (u : World) (X : Nat) (x : Sd) : Prop := u.heap[X]? = some (.cells x.cells 38 (0, 0))
theorem SdAt.cells {u : World} {X : Nat} {x : Sd} (h : SdAt u X x) : u.cell? ⟨X, 0, none⟩ = some (.int .u8 x.kind) ∧ u.cell? ⟨X, 1, none⟩ = some (.string x.s) ∧ u.cell? ⟨X, 2, none⟩ = some (.int .i64 x.n) ∧ u.cell? ⟨X, 3, none⟩ = some (.int .i64 x.m) ∧ u.cell? ⟨X, 4, none⟩ = some (.int .i64 x.by_) :=
  ⟨by rw [cell_of_row u X 0 _ _ _ h]; rfl, by rw [cell_of_row u X 1 _ _ _ h]; rfl, by rw [cell_of_row u X 2 _ _ _ h]; rfl, by rw [cell_of_row u X 3 _ _ _ h]; rfl, by rw [cell_of_row u X 4 _ _ _ h]; rfl⟩
theorem SdAt.lt {u : World} {X : Nat} {x : Sd} (h : SdAt u X x) : X < u.heap.size := (Array.getElem?_eq_some_iff.1 h).1
theorem SdAt.step {u u' : World} {X : Nat} {x : Sd} {fo fo' : List Nat} (h : SdAt u X x) (st : Dk.Step fo fo' u u') (hn : X ∉ fo) : SdAt u' X x ∧ X ∉ fo' :=
  ⟨(st.block X h.lt hn).trans h, fun hm => by
    rcases st.sub X hm with e | e
    · exact hn e
    · have := h.lt
      omega⟩
theorem SdAt.new (u : World) (x : Sd) : SdAt (u.alloc (.cells x.cells 38)) u.heap.size x := heap_alloc_new u _
/-- What Open answers behind a crash, of what was there. -/
structure Back (s' : Dk.St) (rs : List ByteArray) (G : List Seg) (q : Nat) : Prop where
  some : ∃ G', Kp s' G' rs.length ∧ rs = G'.flatten.map Fm.bs ∧ ∃ z, G.flatten = G'.flatten ++ z
  le : q ≤ rs.length
theorem ok_open {s : Dk.St} {G : List Seg} {q : Nat} (h : Kp s [] q) (hG : G = []) : (lOpen s 1).1 = .ok [] ∧ Back (lOpen s 1).2 [] G q := by
  rw [open_none h]
  refine ⟨rfl, ⟨[], ?_, rfl, [], by rw [hG]; rfl⟩, by rw [h.nil rfl]; exact Nat.le_refl _⟩
  have := h.nil rfl
  subst this
  exact h
theorem cr_open {s : Dk.St} {D : List Seg} {g : Seg} {q : Nat} (h : Cr s D g q) : (∃ rs, (lOpen s 1).1 = .ok rs ∧ Back (lOpen s 1).2 rs (D ++ [g]) q) ∨ ((lOpen s 1).1 = .error 12 ∧ s.power = false ∧ Cr (lOpen s 1).2 D g q) := by
  rcases open_crash h with ⟨j, h1, h2, h3, h4⟩ | h5
  · refine .inl ⟨_, h3, ⟨D ++ [g.take j], ?_, by simp, g.drop j, ?_⟩, ?_⟩
    · have e : (((D.flatten ++ g.take j).map Fm.bs).length) = D.flatten.length + j := by
        rw [List.length_map, List.length_append, List.length_take]
        omega
      rw [e]
      exact h4
    · simp only [List.flatten_append, List.flatten_cons, List.flatten_nil, List.append_nil, List.append_assoc, List.take_append_drop]
    · rw [List.length_map, List.length_append, List.length_take]
      omega
  · exact .inr h5
theorem fuse_files (s : Dk.St) (n : Int) : (Dk.opFuse s n).files = s.files := by
  unfold Dk.opFuse
  split <;> rfl
/-- A crash, the power that will fail, and Open; then, if it failed, a crash and Open again. -/
theorem keep_crash {s : Dk.St} {G : List Seg} {q : Nat} (h : Kp s G q) (c f : Int) (hf : f ≤ 9223372036854775807) :
    (∃ rs, (lOpen (Dk.opFuse (Dk.opCrash s c) f) 1).1 = .ok rs ∧ Back (lOpen (Dk.opFuse (Dk.opCrash s c) f) 1).2 rs G q) ∨
      ((lOpen (Dk.opFuse (Dk.opCrash s c) f) 1).1 = .error 12 ∧ ∀ c2, ∃ rs, (lOpen (Dk.opCrash (lOpen (Dk.opFuse (Dk.opCrash s c) f) 1).2 c2) 1).1 = .ok rs ∧ Back (lOpen (Dk.opCrash (lOpen (Dk.opFuse (Dk.opCrash s c) f) 1).2 c2) 1).2 rs G q) := by
  rcases List.eq_nil_or_concat G with rfl | ⟨D, g, rfl⟩
  · have h1 := (h.crash_none c).same ((h.inv.ok.opCrash c).opFuse hf) (fuse_files _ f)
    obtain ⟨a, b⟩ := ok_open h1 (G := []) rfl
    exact .inl ⟨_, a, b⟩
  · rw [List.concat_eq_append] at h ⊢
    have h1 := (h.crash c).same ((h.inv.ok.opCrash c).opFuse hf) (fuse_files _ f)
    rcases cr_open h1 with h2 | ⟨h2, _, h3⟩
    · exact .inl h2
    · refine .inr ⟨h2, fun c2 => ?_⟩
      rcases cr_open (h3.crash c2) with h4 | ⟨_, h5, _⟩
      · exact h4
      · rw [(crash_power _ c2).1] at h5
        cases h5
/-- What Open leaves where it fails. -/
theorem open_er {B b : Nat} {d : Dk.Ds} {w : World} (h : Dsk B b d w) (f lim : Int) {c : Int} (hr : (lOpen d.pl f).1 = .error c) :
    Calls Tryz.prog 11 #[.pointer (some ⟨b, 0, none⟩), .int .i64 f, .int .i64 lim] w fun e w' => e = .returned (.tuple #[.pointer none, .slice none 0 0, .int .i64 c]) ∧ ∃ d', Dsk B b d' w' ∧ d'.pl = (lOpen d.pl f).2 ∧ Dk.Step (d.foot b) (d'.foot b) w w' := by
  refine (open_any h f lim).mono ?_
  rintro e w' ⟨d', h1, h2, h3, ⟨c', h4, h5⟩ | ⟨rs', l, rv, h4, _⟩⟩
  · rw [hr] at h4
    injection h4 with h4
    subst h4
    exact ⟨h5, d', h1, h2, h3⟩
  · rw [hr] at h4
    cases h4
end Go.Proofs.YtajjcfacbnicnaaGreatDoor
