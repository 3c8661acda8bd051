/-
  What takes bytes, in memory.
-/
import Derived.Test.YtkijglkjpgjdaaaDoorHW5
namespace Go.Proofs.YtkijglkjpgjdaaaDoor.Ha
open Go.RowKit

/-- The cells of a Hash. -/
def cellsL (h : Sh.HS) : List Value := (vals h.v).toList ++ ((u8s h.blk).toList ++ [.int .i64 (h.n : Int)])
def cellsH (h : Sh.HS) : Array Value := (cellsL h).toArray

theorem vals_len (v : Sh.V8) : (vals v).toList.length = 8 := rfl
theorem u8s_len (l : List Nat) : (u8s l).toList.length = l.length := by simp [u8s]
theorem cellsL_len (h : Sh.HS) (k : h.blk.length = 64) : (cellsL h).length = 73 := by simp [cellsL, vals, u8s, k]
theorem cellsH_size (h : Sh.HS) (k : h.blk.length = 64) : (cellsH h).size = 73 := by simp [cellsH, cellsL_len h k]

/-- A Hash lies in block b. -/
def HashAt (w : World) (b : Nat) (h : Sh.HS) : Prop := Blk w b 92 (cellsH h) ∧ h.blk.length = 64

theorem HashAt.size {w : World} {b : Nat} {h : Sh.HS} (k : HashAt w b h) : w.cell? ⟨b, 72, none⟩ = some (.int .i64 (h.n : Int)) := by
  refine k.1.cell ?_
  simp only [cellsH, List.getElem?_toArray, cellsL]
  rw [List.getElem?_append_right (by rw [vals_len]; omega), List.getElem?_append_right (by rw [vals_len, u8s_len, k.2]; omega), vals_len, u8s_len, k.2]
  rfl

theorem HashAt.byte {w : World} {b : Nat} {h : Sh.HS} (k : HashAt w b h) (j : Nat) (hj : j < 64) : w.cell? ⟨b, 8 + j, none⟩ = some (.int .u8 ((h.blk.getD j 0 : Nat) : Int)) := by
  refine k.1.cell ?_
  simp only [cellsH, List.getElem?_toArray, cellsL]
  rw [List.getElem?_append_right (by rw [vals_len]; omega), List.getElem?_append_left (by rw [vals_len, u8s_len, k.2]; omega)]
  rw [vals_len, Nat.add_sub_cancel_left]
  have := u8s_at h.blk j (by rw [k.2]; exact hj)
  simpa using this

theorem HashAt.rangeV {w : World} {b : Nat} {h : Sh.HS} (k : HashAt w b h) : w.rangeAt b 0 (vals h.v).toList := fun j v hv => by
  have hj : j < 8 := (List.getElem?_eq_some_iff.1 hv).1
  refine k.1.cell ?_
  simp only [cellsH, List.getElem?_toArray, cellsL]
  rw [List.getElem?_append_left (by rw [vals_len]; omega), Nat.zero_add]
  exact hv

theorem HashAt.rangeB {w : World} {b : Nat} {h : Sh.HS} (k : HashAt w b h) : w.rangeAt b 8 (u8s h.blk).toList := fun j v hv => by
  have hj : j < 64 := by have := (List.getElem?_eq_some_iff.1 hv).1; rw [u8s_len, k.2] at this; exact this
  refine k.1.cell ?_
  simp only [cellsH, List.getElem?_toArray, cellsL]
  rw [List.getElem?_append_right (by rw [vals_len]; omega), List.getElem?_append_left (by rw [vals_len, u8s_len, k.2]; omega), vals_len, Nat.add_sub_cancel_left]
  exact hv

theorem HashAt.frozen {w : World} {b : Nat} {h : Sh.HS} (k : HashAt w b h) (j : Nat) : w.frozen? ⟨b, j, none⟩ = false := k.1.frozen j

theorem HashAt.there {w : World} {b : Nat} {h : Sh.HS} (k : HashAt w b h) : w.there b 0 8 := fun j hj => by
  refine ⟨?_, k.frozen _⟩
  have := k.rangeV j ((vals h.v).toList[j]'(by rw [vals_len]; exact hj)) (List.getElem?_eq_getElem _)
  rw [this]
  rfl

theorem HashAt.below {w w' : World} {b N : Nat} {h : Sh.HS} (k : HashAt w b h) (hb : Below N w w') (hN : b < N) : HashAt w' b h := ⟨k.1.below hb hN, k.2⟩
theorem HashAt.drew {w : World} {b : Nat} {h : Sh.HS} (k : HashAt w b h) : HashAt w.drew b h := k
theorem HashAt.other {w : World} {b : Nat} {h : Sh.HS} (k : HashAt w b h) {a : Addr} (ha : b ≠ a.block) (v : Value) : HashAt (w.setCell a v) b h := ⟨k.1.other ha v, k.2⟩

theorem set_right (l m : List Value) (n i : Nat) (v : Value) (h : l.length = n) : (l ++ m).set (n + i) v = l ++ m.set i v := by
  subst h
  rw [List.set_append_right _ _ (by omega), Nat.add_sub_cancel_left]

theorem HashAt.setByte {w : World} {b : Nat} {h : Sh.HS} (k : HashAt w b h) (j x : Nat) (hj : j < 64) : HashAt (w.setCell ⟨b, 8 + j, none⟩ (.int .u8 (x : Int))) b ⟨h.v, h.blk.set j x, h.n⟩ := by
  refine ⟨?_, by simpa using k.2⟩
  have := k.1.set (8 + j) (.int .u8 (x : Int))
  have e : (cellsH h).setIfInBounds (8 + j) (.int .u8 (x : Int)) = cellsH ⟨h.v, h.blk.set j x, h.n⟩ := by
    simp only [cellsH, List.setIfInBounds_toArray, cellsL]
    rw [set_right _ _ _ _ _ (vals_len h.v), List.set_append_left _ _ (by rw [u8s_len, k.2]; exact hj)]
    have := congrArg Array.toList (u8s_set h.blk j x)
    simp only [Array.toList_setIfInBounds] at this
    rw [this]
  rw [e] at this
  exact this

theorem HashAt.setSize {w : World} {b : Nat} {h : Sh.HS} (k : HashAt w b h) (x : Nat) : HashAt (w.setCell ⟨b, 72, none⟩ (.int .i64 (x : Int))) b ⟨h.v, h.blk, x⟩ := by
  refine ⟨?_, k.2⟩
  have := k.1.set 72 (.int .i64 (x : Int))
  have e : (cellsH h).setIfInBounds 72 (.int .i64 (x : Int)) = cellsH ⟨h.v, h.blk, x⟩ := by
    simp only [cellsH, List.setIfInBounds_toArray, cellsL]
    rw [show 72 = 8 + 64 by rfl, set_right _ _ _ _ _ (vals_len h.v), show 64 = 64 + 0 by rfl, set_right _ _ _ _ _ (by rw [u8s_len, k.2])]
    rfl
  rw [e] at this
  exact this

theorem setCells_blk (b : Nat) (t : TypeId) : ∀ (vs : List Value) (o : Nat) (pre old post : List Value) (w : World), pre.length = o → old.length = vs.length →
    Blk w b t (pre ++ (old ++ post)).toArray → Blk (w.setCells b o vs) b t (pre ++ (vs ++ post)).toArray
  | [], o, pre, old, post, w, _, h2, h => by
    have : old = [] := List.length_eq_zero_iff.1 h2
    subst this
    exact h
  | v :: vs, o, pre, old, post, w, h1, h2, h => by
    match old, h2 with
    | x :: old, h2 =>
      rw [World.setCells]
      have h3 := h.set o v
      have e : (pre ++ (x :: old ++ post)).toArray.setIfInBounds o v = ((pre ++ [v]) ++ (old ++ post)).toArray := by
        rw [List.setIfInBounds_toArray]
        subst h1
        rw [List.set_append_right _ _ (Nat.le_refl _), Nat.sub_self]
        simp
      rw [e] at h3
      have := setCells_blk b t vs (o + 1) (pre ++ [v]) old post _ (by simp [h1]) (by simpa using h2) h3
      simpa using this

theorem setCells_other (b : Nat) : ∀ (vs : List Value) (o : Nat) (w : World) (k : Nat), k ≠ b → (w.setCells b o vs).heap[k]? = w.heap[k]?
  | [], _, _, _, _ => rfl
  | v :: vs, o, w, k, h => by
    rw [World.setCells, setCells_other b vs (o + 1) _ k h]
    exact heap_setCell_other w ⟨b, o, none⟩ k v h

theorem setCells_kept (b : Nat) : ∀ (vs : List Value) (o : Nat) (w : World), (w.setCells b o vs).os = w.os ∧ (w.setCells b o vs).tape = w.tape ∧ (w.setCells b o vs).output = w.output ∧ (w.setCells b o vs).heap.size = w.heap.size
  | [], _, _ => ⟨rfl, rfl, rfl, rfl⟩
  | v :: vs, o, w => by
    rw [World.setCells]
    obtain ⟨h1, h2, h3, h4⟩ := setCells_kept b vs (o + 1) (w.setCell ⟨b, o, none⟩ v)
    exact ⟨h1, h2, h3, h4.trans (size_setCell _ _ _)⟩

theorem below_cells {B : Nat} {a w : World} (h : Below B a w) {g : Nat} (hg : B ≤ g) (o : Nat) (vs : List Value) : Below B a (w.setCells g o vs) := by
  obtain ⟨h1, h2, h3, h4⟩ := setCells_kept g vs o w
  exact h.trans ⟨h1, h2, h3, Nat.le_of_eq h4.symm, fun k hk => setCells_other g vs o w k (by omega)⟩

theorem HashAt.setWords {w : World} {b : Nat} {h : Sh.HS} (k : HashAt w b h) (v : Sh.V8) : HashAt (w.setCells b 0 (vals v).toList) b ⟨v, h.blk, h.n⟩ := by
  refine ⟨?_, k.2⟩
  have := setCells_blk b 92 (vals v).toList 0 [] (vals h.v).toList ((u8s h.blk).toList ++ [Value.int .i64 (h.n : Int)]) w rfl rfl k.1
  exact this
end Go.Proofs.YtkijglkjpgjdaaaDoor.Ha
