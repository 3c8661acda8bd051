/-
  The document's reader: its block; bad, is.
-/
import Derived.Test.YtpeioecpilmpiaaGreatDoorJ25
import Derived.WalkKit
import Derived.WalkSpells
import Derived.WalkLawsBesides
import Derived.Deep.LoopGhost
import Derived.Laws.Externs
import Derived.Below
import Derived.BigQuiet
import Derived.Deep.RegionWith
import Derived.OwnWalk
import Derived.Maps.AppendAt
import Derived.WalkSmall
namespace Go.Proofs.YtpeioecpilmpiaaGreatDoor
open Go.RowKit
/-- The document's reader in block r: its text, where it is, how many are open, its fault. -/
def Rq (r : Nat) (s : ByteArray) (p d e : Nat) (w : World) : Prop := w.heap[r]? = some (.cells #[.string s, .int .i64 (p : Int), .int .i64 (d : Int), .int .i64 (e : Int)] 51 (0, 0))

theorem Rq.c0 {r : Nat} {s : ByteArray} {p d e : Nat} {w : World} (h : Rq r s p d e w) : w.cell? ⟨r, 0, none⟩ = some (.string s) := by rw [cell_of_row w r 0 _ _ _ h]; rfl
theorem Rq.c1 {r : Nat} {s : ByteArray} {p d e : Nat} {w : World} (h : Rq r s p d e w) : w.cell? ⟨r, 1, none⟩ = some (.int .i64 (p : Int)) := by rw [cell_of_row w r 1 _ _ _ h]; rfl
theorem Rq.c2 {r : Nat} {s : ByteArray} {p d e : Nat} {w : World} (h : Rq r s p d e w) : w.cell? ⟨r, 2, none⟩ = some (.int .i64 (d : Int)) := by rw [cell_of_row w r 2 _ _ _ h]; rfl
theorem Rq.c3 {r : Nat} {s : ByteArray} {p d e : Nat} {w : World} (h : Rq r s p d e w) : w.cell? ⟨r, 3, none⟩ = some (.int .i64 (e : Int)) := by rw [cell_of_row w r 3 _ _ _ h]; rfl
theorem Rq.fz {r : Nat} {s : ByteArray} {p d e : Nat} {w : World} (h : Rq r s p d e w) (j : Nat) : w.frozen? ⟨r, j, none⟩ = false := frozen_of_row w r j _ _ h
theorem Rq.lt {r : Nat} {s : ByteArray} {p d e : Nat} {w : World} (h : Rq r s p d e w) : r < w.heap.size := (Array.getElem?_eq_some_iff.1 h).1

theorem Rq.set1 {r : Nat} {s : ByteArray} {p d e : Nat} {w : World} (h : Rq r s p d e w) (q : Nat) : Rq r s q d e (w.setCell ⟨r, 1, none⟩ (.int .i64 (q : Int))) := by unfold Rq; rw [set_same h]; rfl
theorem Rq.set2 {r : Nat} {s : ByteArray} {p d e : Nat} {w : World} (h : Rq r s p d e w) (q : Nat) : Rq r s p q e (w.setCell ⟨r, 2, none⟩ (.int .i64 (q : Int))) := by unfold Rq; rw [set_same h]; rfl
theorem Rq.set3 {r : Nat} {s : ByteArray} {p d e : Nat} {w : World} (h : Rq r s p d e w) (q : Nat) : Rq r s p d q (w.setCell ⟨r, 3, none⟩ (.int .i64 (q : Int))) := by unfold Rq; rw [set_same h]; rfl

theorem Rq.keep {r : Nat} {s : ByteArray} {p d e : Nat} {w w' : World} (h : Rq r s p d e w) (hb : w'.heap[r]? = w.heap[r]?) : Rq r s p d e w' := hb.trans h
theorem Rq.below {r B : Nat} {s : ByteArray} {p d e : Nat} {w w' : World} (h : Rq r s p d e w) (hr : r < B) (hb : Below B w w') : Rq r s p d e w' := (hb.block r hr).trans h


theorem Rq.zero {r : Nat} {s : ByteArray} {p d e : Nat} {w w' : World} (h : Rq r s p d e w) (g : w.grownBy w' none) : Rq r s p d e w' := h.keep (g.block r h.lt (fun e => by cases e))

set_option maxHeartbeats 1000000 in
theorem bad_any (r : Nat) (s : ByteArray) (p d e f : Nat) (w : World) (h' : Rq r s p d e w) :
    Calls Tryz.prog 25 #[.pointer (some ⟨r, 0, none⟩), .int .i64 (f : Int)] w fun en w' => en = .returned (.tuple #[]) ∧ Rq r s p d (fl e f) w' ∧ w.grownBy w' (some r) := by
  have h := asd (h')
  have hs := asd (h'.set3 f)
  have c3 := h'.c3
  have f3 := h'.fz 3
  clear h'
  unfold fl
  by_cases he : e = 0
  · subst he
    go_enter Tryz.func25, Tryz.ntmps25
    go_wp2
    go_end0
    exact ⟨rfl, hs.out, grown_set _ _ _ _⟩
  · have e1 : ¬ ((e : Int) = 0) := by omega
    have e2 : ((e : Int) == 0) = false := by simp; omega
    rw [if_neg he]
    go_enter Tryz.func25, Tryz.ntmps25
    go_wp2
    go_end0
    exact ⟨rfl, h.out, grefl _ _⟩

/-- What is answers. -/
def iz (s : ByteArray) (p e : Nat) (c : UInt8) : Bool := decide (e = 0) && (decide (p < s.size) && (s.get! p == c))
theorem iz_bad (s : ByteArray) (p e : Nat) (c : UInt8) (h : e ≠ 0) : iz s p e c = false := by simp [iz, h]
theorem iz_end (s : ByteArray) (p e : Nat) (c : UInt8) (h : s.size ≤ p) : iz s p e c = false := by
  have : ¬ p < s.size := by omega
  simp [iz, this]
theorem iz_at (s : ByteArray) (p : Nat) (c : UInt8) (h : p < s.size) : iz s p 0 c = (s.get! p == c) := by simp [iz, h]
theorem iz_true {s : ByteArray} {p e : Nat} {c : UInt8} (h : iz s p e c = true) : e = 0 ∧ p < s.size ∧ L s p = c :: L s (p + 1) := by
  simp only [iz, Bool.and_eq_true, decide_eq_true_eq, beq_iff_eq] at h
  exact ⟨h.1, h.2.1, by rw [L_cons s p h.2.1, h.2.2]⟩
theorem iz_false {s : ByteArray} {p : Nat} {c : UInt8} (h : iz s p 0 c = false) : ∀ t, L s p ≠ c :: t := by
  intro t e
  by_cases hp : p < s.size
  · rw [iz_at s p c hp] at h
    rw [L_cons s p hp] at e
    injection e with e1 _
    rw [e1] at h
    simp at h
  · rw [L_end s p (by omega)] at e
    cases e

set_option maxHeartbeats 1000000 in
set_option maxRecDepth 100000 in
theorem is_any (r : Nat) (s : ByteArray) (p d e : Nat) (c : UInt8) (w : World) (h' : Rq r s p d e w) :
    Calls Tryz.prog 36 #[.pointer (some ⟨r, 0, none⟩), .int .u8 (c.toNat : Int)] w fun en w' => en = .returned (.bool (iz s p e c)) ∧ Rq r s p d e w' ∧ w.grownBy w' none := by
  have h := asd h'
  have c0 := h'.c0
  have c1 := h'.c1
  have c3 := h'.c3
  clear h'
  by_cases he : e = 0
  · subst he
    by_cases hlt : p < s.size
    · rw [iz_at s p c hlt, get_at s p hlt]
      have d2 : decide (p < s.size) = true := by simpa using hlt
      have ev : Aside ((s[p] == c) = ((s[p].toNat : Int) == (c.toNat : Int))) := by
        show _ = _
        rw [Bool.eq_iff_iff, beq_iff_eq, beq_iff_eq]
        constructor
        · intro e; rw [e]
        · intro e; exact UInt8.toNat_inj.1 (by omega)
      rw [ev.out]
      go_enter Tryz.func36, Tryz.ntmps36
      go_wp2
      go_quiet (fail)
      go_wp2
      go_ret
      exact ⟨rfl, h.out.keep rfl, ⟨rfl, rfl, rfl, Nat.le_refl _, fun _ _ _ => rfl⟩⟩
    · rw [iz_end s p 0 c (by omega)]
      have d2 : decide (p < s.size) = false := by simpa using hlt
      go_enter Tryz.func36, Tryz.ntmps36
      go_wp2
      go_quiet (fail)
      go_wp2
      go_ret
      exact ⟨rfl, h.out.keep rfl, ⟨rfl, rfl, rfl, Nat.le_refl _, fun _ _ _ => rfl⟩⟩
  · rw [iz_bad s p e c he]
    have d1 : ¬ ((e : Int) = 0) := by omega
    have d2 : decide ((e : Int) = 0) = false := by simp; omega
    have d4 : ((e : Int) == 0) = false := by simp; omega
    go_enter Tryz.func36, Tryz.ntmps36
    go_wp2
    go_quiet (fail)
    go_wp2
    go_ret
    exact ⟨rfl, h.out.keep rfl, ⟨rfl, rfl, rfl, Nat.le_refl _, fun _ _ _ => rfl⟩⟩
end Go.Proofs.YtpeioecpilmpiaaGreatDoor
