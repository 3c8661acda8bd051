/-
  The library's reversal of a slice of bytes that the call itself made.
-/
import Derived.Test.YtkijglkjpgjdaaaDoorRows
import Derived.Test.YtkijglkjpgjdaaaDoorPMath
import Derived.WalkKit
import Derived.WalkSpells
import Derived.WalkLawsBesides
import Derived.Outline
import Derived.BigRegion
import Derived.Deep.LoopGhost
namespace Go.Proofs.YtkijglkjpgjdaaaDoor.Pa
open Go.RowKit

/-- Bytes as cells. -/
def cellsB (l : List UInt8) : List Value := l.map fun u => Value.int .u8 (u.toNat : Int)

/-- Behind k rounds. -/
def Rv (l cur : List UInt8) (k : Nat) : Prop := cur.length = l.length ∧ ∀ j, j < l.length → cur[j]? = if j < k ∨ l.length - k ≤ j then l[l.length - 1 - j]? else l[j]?

theorem rv_zero (l : List UInt8) : Rv l l 0 := by
  refine ⟨rfl, fun j hj => ?_⟩
  rw [if_neg (by omega)]

theorem rv_step {l cur : List UInt8} {k : Nat} (h : Rv l cur k) (hk : k < l.length - 1 - k) (x y : UInt8) (hx : cur[l.length - 1 - k]? = some x) (hy : cur[k]? = some y) :
    Rv l ((cur.set k x).set (l.length - 1 - k) y) (k + 1) := by
  obtain ⟨h1, h2⟩ := h
  refine ⟨by simp [h1], fun j hj => ?_⟩
  rw [List.getElem?_set, List.getElem?_set]
  by_cases e1 : l.length - 1 - k = j
  · rw [if_pos e1, if_pos (by rw [List.length_set]; omega), if_pos (by omega)]
    rw [h2 k (by omega), if_neg (by omega)] at hy
    rw [← hy]
    congr 1
    omega
  · rw [if_neg e1]
    by_cases e2 : k = j
    · rw [if_pos e2, if_pos (by omega), if_pos (by omega)]
      rw [h2 _ (by omega), if_neg (by omega)] at hx
      rw [← hx]
      congr 1
      omega
    · rw [if_neg e2, h2 j hj]
      by_cases e3 : j < k ∨ l.length - k ≤ j
      · rw [if_pos e3, if_pos (by omega)]
      · rw [if_neg e3, if_neg (by omega)]

theorem rv_end {l cur : List UInt8} {k : Nat} (h : Rv l cur k) (hk : ¬ k < l.length - 1 - k) : cur = l.reverse := by
  obtain ⟨h1, h2⟩ := h
  apply List.ext_getElem?
  intro j
  by_cases hj : j < l.length
  · rw [h2 j hj, List.getElem?_reverse hj]
    by_cases e3 : j < k ∨ l.length - k ≤ j
    · rw [if_pos e3]
    · rw [if_neg e3]
      congr 1
      omega
  · rw [List.getElem?_eq_none (by omega), List.getElem?_eq_none (by simp; omega)]

theorem cellsB_get (l : List UInt8) (j : Nat) (x : UInt8) (h : l[j]? = some x) : (cellsB l)[j]? = some (.int .u8 (x.toNat : Int)) := by
  simp [cellsB, h]

theorem cellsB_set (l : List UInt8) (j : Nat) (x : UInt8) : (cellsB l).set j (.int .u8 (x.toNat : Int)) = cellsB (l.set j x) := by
  simp [cellsB, List.map_set]

set_option maxHeartbeats 1600000 in
set_option maxRecDepth 1000000 in
theorem rev_any (base g cap : Nat) (l : List UInt8) (w : World) (hown : w.ownsRow base 5 1 (.slice (some ⟨g, 0, none⟩) l.length cap) l.length (cellsB l)) (hn : l.length ≤ 1000) (hg : base ≤ g) :
    Calls Tryd.prog 80 #[.slice (some ⟨g, 0, none⟩) l.length cap] w fun e w' => e = .returned (.tuple #[]) ∧ w'.ownsRow base 5 1 (.slice (some ⟨g, 0, none⟩) l.length cap) l.length (cellsB l.reverse) ∧ Below base w w' := by
  go_enter Tryd.func80, Tryd.ntmps80
  go_wp2
  go_loopg [2, 3] l.length (fun m s2 s3 wr => ∃ (k : Nat) (cur : List UInt8), s2 = .int .i64 k ∧ s3 = .int .i64 ((l.length : Int) - 1 - k) ∧ k ≤ l.length ∧ l.length - k ≤ m ∧ Rv l cur k ∧
    wr.ownsRow base 5 1 (.slice (some ⟨g, 0, none⟩) l.length cap) l.length (cellsB cur) ∧ Below base w wr)
  case atStart => exact ⟨0, l, rfl, by simp, by omega, by omega, rv_zero l, hown, Below.refl _ _⟩
  case round =>
    obtain ⟨k, cur, rfl, rfl, hkl, hm, hrv, hownr, hbel⟩ := hrel
    by_cases hlt : (k : Int) < (l.length : Int) - 1 - k
    · obtain ⟨jn, hjn⟩ : ∃ jn : Nat, jn = l.length - 1 - k := ⟨_, rfl⟩
      have hj1 : ((l.length : Int) - 1 - k) = (jn : Int) := by omega
      have hkj : k < jn := by omega
      have hjl : jn < l.length := by omega
      obtain ⟨x, hx⟩ : ∃ x, cur[jn]? = some x := ⟨cur[jn]'(by have := hrv.1; omega), List.getElem?_eq_getElem _⟩
      obtain ⟨y, hy⟩ : ∃ y, cur[k]? = some y := ⟨cur[k]'(by have := hrv.1; omega), List.getElem?_eq_getElem _⟩
      have cj : wr.cell? ⟨g, jn, none⟩ = some (.int .u8 (x.toNat : Int)) := by rw [hownr.cellAt jn (by omega)]; exact cellsB_get cur jn x hx
      have ck : wr.cell? ⟨g, k, none⟩ = some (.int .u8 (y.toNat : Int)) := by rw [hownr.cellAt k (by omega)]; exact cellsB_get cur k y hy
      have fj := hownr.frozenAt jn
      have fk := hownr.frozenAt k
      have st := rv_step hrv (by omega) x y (by rw [← hjn]; exact hx) hy
      rw [← hjn] at st
      have o1 := (hownr.stored k (.int .u8 (x.toNat : Int))).1
      have o2 := (o1.stored jn (.int .u8 (y.toNat : Int))).1
      rw [cellsB_set, cellsB_set] at o2
      have A : Aside (Rv l ((cur.set k x).set jn y) (k + 1) ∧ ((wr.setCell ⟨g, k, none⟩ (.int .u8 (x.toNat : Int))).setCell ⟨g, jn, none⟩ (.int .u8 (y.toNat : Int))).ownsRow base 5 1 (.slice (some ⟨g, 0, none⟩) l.length cap) l.length (cellsB ((cur.set k x).set jn y)) ∧
        Below base w ((wr.setCell ⟨g, k, none⟩ (.int .u8 (x.toNat : Int))).setCell ⟨g, jn, none⟩ (.int .u8 (y.toNat : Int))) ∧ jn = l.length - 1 - k) :=
        ⟨st, o2, (hbel.setCell (by exact hg) _).setCell (by exact hg) _, hjn⟩
      rw [hj1]
      clear st o1 o2 hrv hownr hbel hx hy hjn hj1 hlt hown
      go_wp2_with fail
      go_region
      go_wp2
      go_roundg (l.length - (k + 1))
      case measure => omega
      case rel =>
        obtain ⟨a1, a2, a3, a4⟩ := A.out
        exact ⟨k + 1, _, by go_num, by go_num, by omega, by omega, a1, a2.drew, a3.drew⟩
    · go_wp2
      go_end0
      have e := rv_end hrv (by omega)
      subst e
      exact ⟨rfl, hownr, hbel⟩
end Go.Proofs.YtkijglkjpgjdaaaDoor.Pa
