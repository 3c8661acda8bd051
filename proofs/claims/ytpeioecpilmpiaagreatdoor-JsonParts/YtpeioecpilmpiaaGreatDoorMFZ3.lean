/-
  JsonParts: plain, its memory.
-/
import Derived.Test.YtpeioecpilmpiaaGreatDoorMF24
import Derived.Test.YtpeioecpilmpiaaGreatDoorMF35
import Derived.Test.YtpeioecpilmpiaaGreatDoorMF20
import Derived.WalkKit
import Derived.WalkSpells
import Derived.WalkLawsBesides
import Derived.Deep.LoopGhost
import Derived.Laws.Externs
import Derived.Below
import Derived.BigQuiet
import Derived.Deep.RegionWith
import Derived.OwnWalk
import Derived.Maps.AppendAt
import Derived.WalkSmall
namespace Go.Proofs.YtpeioecpilmpiaaGreatDoor
open Go.RowKit
/-- What the law's loop has found behind k names. -/
def fldP (X : Js.X) (n : Js.B) (k : Nat) : Js.B × Bool := if n ∈ X.names.take k then (X.items[Js.place X.names n]!, true) else ([], false)
theorem fldP_zero (X : Js.X) (n : Js.B) : fldP X n 0 = ([], false) := by simp [fldP]
theorem fldP_same {X : Js.X} {n : Js.B} {k : Nat} (h : k < X.names.length) (h2 : k < X.items.length) (hr : Js.Rise X.names) (hn : X.names[k] = n) : fldP X n (k + 1) = (X.items[k], true) := by
  have hm : n ∈ X.names.take (k + 1) := by
    rw [List.take_succ_eq_append_getElem h, hn]
    simp
  have hp : Js.place X.names n = k := by
    have := Js.place_at hr k h
    rw [List.getElem!_eq_getElem?_getD, List.getElem?_eq_getElem h] at this
    simp only [Option.getD_some, hn] at this
    exact this
  unfold fldP
  rw [if_pos hm, hp, List.getElem!_eq_getElem?_getD, List.getElem?_eq_getElem h2]
  rfl
theorem fldP_other {X : Js.X} {n : Js.B} {k : Nat} (h : k < X.names.length) (hn : X.names[k] ≠ n) : fldP X n (k + 1) = fldP X n k := by
  unfold fldP
  rw [List.take_succ_eq_append_getElem h]
  have hne : ¬ n = X.names[k] := fun e => hn e.symm
  simp only [List.mem_append, List.mem_singleton, hne, or_false]
theorem ofP_kind {b : Js.B} {X : Js.X} {E : Nat} (h : ofP b = (X, E)) : (X.kind ≠ 3 → X.num = 0) ∧ (X.kind ≠ 4 → X.text = []) ∧ (X.kind ≠ 6 → X.names = []) ∧ (X.kind = 6 → Js.Rise X.names ∧ X.names.length = X.items.length) := by
  unfold ofP at h
  cases hof : Js.of b with
  | error e =>
    rw [hof] at h
    simp only [Prod.mk.injEq] at h
    rw [← h.1]
    exact ⟨fun _ => rfl, fun _ => rfl, fun _ => rfl, fun h => by cases h⟩
  | ok x =>
    rw [hof] at h
    simp only [Prod.mk.injEq] at h
    rw [← h.1]
    exact Js.of_kind hof
theorem parts_of {b : Js.B} {X : Js.X} {E : Nat} (h : ofP b = (X, E)) : kindP b = X.kind ∧ lenP b = X.items.length ∧ namesP b = X.names ∧ numberP b = (X.num, decide (X.kind = 3)) ∧ textP b = (X.text, decide (X.kind = 4)) ∧
    (∀ n, fieldP b n = fldP X n X.names.length) ∧ ∀ i, itemP b i = if X.kind = 5 ∧ 0 ≤ i ∧ i < (X.items.length : Int) then (X.items[i.toNat]!, true) else ([], false) := by
  have hk := ofP_kind h
  unfold ofP at h
  unfold kindP lenP namesP numberP textP fieldP itemP
  cases hof : Js.of b with
  | error e =>
    rw [hof] at h
    simp only [Prod.mk.injEq] at h
    rw [← h.1]
    refine ⟨rfl, rfl, rfl, rfl, rfl, fun n => by simp [fldP, Js.nil], fun i => by simp [Js.nil]⟩
  | ok x =>
    rw [hof] at h
    simp only [Prod.mk.injEq] at h
    obtain ⟨rfl, _⟩ := h
    obtain ⟨k1, k2, k3, k4⟩ := hk
    refine ⟨rfl, rfl, ?_, ?_, ?_, fun n => ?_, fun i => ?_⟩
    · by_cases h6 : x.kind = 6
      · simp only [h6, if_true]
      · simp only [if_neg h6, k3 h6]
    · by_cases h3 : x.kind = 3
      · simp [h3]
      · simp only [if_neg h3, k1 h3]
        simp [h3]
    · by_cases h4 : x.kind = 4
      · simp [h4]
      · simp only [if_neg h4, k2 h4]
        simp [h4]
    · unfold fldP
      rw [List.take_length]
      by_cases hm : n ∈ x.names
      · have h6 : x.kind = 6 := by
          by_cases h6 : x.kind = 6
          · exact h6
          · rw [k3 h6] at hm
            cases hm
        simp only [if_pos hm, if_pos (And.intro h6 hm)]
      · simp only [if_neg hm, if_neg (fun h : x.kind = 6 ∧ n ∈ x.names => hm h.2)]
    · by_cases h5 : x.kind = 5
      · simp only [h5, if_true, true_and]
        by_cases h0 : 0 ≤ i
        · simp only [if_pos h0]
          by_cases hl : i < (x.items.length : Int)
          · have hl' : i.toNat < x.items.length := by omega
            rw [if_pos ⟨h0, hl⟩, List.getElem!_eq_getElem?_getD, List.getElem?_eq_getElem hl']
            rfl
          · rw [if_neg (fun h => hl h.2), List.getElem?_eq_none (by omega)]
        · simp only [if_neg h0]
          rw [if_neg (fun h => h0 h.1)]
      · simp only [if_neg h5]
        rw [if_neg (fun h => h5 h.1)]
theorem Sl.at {B : Nat} {w : World} {a : Option Addr} {n c : Nat} {l : List Js.B} (h : Sl B w (.slice a n c) l) : n = l.length ∧ ∀ j (hj : j < l.length), ∃ g, a = some ⟨g, 0, none⟩ ∧ w.cell? ⟨g, j, none⟩ = some (.string (bs l[j])) := by
  obtain ⟨a', c', e, hc⟩ := h.form
  injection e with e1 e2 e3
  subst e1 e2
  exact ⟨rfl, fun j hj => by
    obtain ⟨g, h1, _, h3⟩ := hc j hj
    exact ⟨g, h1, h3⟩⟩
theorem Sl.bound {B : Nat} {w : World} {v : Value} {l : List Js.B} (h : Sl B w v l) : l.length ≤ 9223372036854775807 := by
  rcases h.2 with ⟨_, h0⟩ | ⟨g, cap, cur, rfl, hg, hh, h3, h4, _⟩
  · omega
  · have hm : Go.maxLen ≤ 9223372036854775807 := by decide
    omega
/-- What lies in memory: the document's value, and the program's names. -/
structure PW (w : World) (b : Nat) (X : Js.X) (nv iv pv : Value) (u : World) : Prop where
  bel : Below w.heap.size w u
  bv : Bk u b (vc6 (X.kind : Int) X.form X.text X.num nv iv)
  sn : Sl 0 u nv X.names
  si : Sl 0 u iv X.items
  sp : Sl 0 u pv X.names
theorem PW.below {w : World} {b : Nat} {X : Js.X} {nv iv pv : Value} {u u' : World} (h : PW w b X nv iv pv u) (g : Below u.heap.size u u') : PW w b X nv iv pv u' :=
  ⟨h.bel.trans (g.mono h.bel.size), h.bv.below g, h.sn.below g, h.si.below g, h.sp.below g⟩
theorem PW.drewN {w : World} {b : Nat} {X : Js.X} {nv iv pv : Value} {u : World} (h : PW w b X nv iv pv u) (n : Nat) : PW w b X nv iv pv (u.drewN n) := h.below ⟨rfl, rfl, rfl, Nat.le_refl _, fun _ _ => rfl⟩
end Go.Proofs.YtpeioecpilmpiaaGreatDoor
