/-
  Blocks of memory, told whole; a block's 64 words.
-/
import Derived.Test.YtkijglkjpgjdaaaDoorHW1
import Derived.Deep.WholeRow
import Derived.Deep.OwnRows
namespace Go.Proofs.YtkijglkjpgjdaaaDoor.Ha
open Go.RowKit

def u8s (l : List Nat) : Array Value := (l.map fun x : Nat => Value.int .u8 (x : Int)).toArray
def u32s (l : List Nat) : Array Value := (l.map fun x : Nat => Value.int .u32 (x : Int)).toArray

theorem u8s_size (l : List Nat) : (u8s l).size = l.length := by simp [u8s]
theorem u32s_size (l : List Nat) : (u32s l).size = l.length := by simp [u32s]
theorem u8s_at (l : List Nat) (i : Nat) (h : i < l.length) : (u8s l)[i]? = some (.int .u8 ((l.getD i 0 : Nat) : Int)) := by simp [u8s, h]
theorem u32s_at (l : List Nat) (i : Nat) (h : i < l.length) : (u32s l)[i]? = some (.int .u32 ((l.getD i 0 : Nat) : Int)) := by simp [u32s, h]
theorem u8s_set (l : List Nat) (i x : Nat) : (u8s l).setIfInBounds i (.int .u8 (x : Int)) = u8s (l.set i x) := by simp [u8s, List.map_set]
theorem u32s_set (l : List Nat) (i x : Nat) : (u32s l).setIfInBounds i (.int .u32 (x : Int)) = u32s (l.set i x) := by simp [u32s, List.map_set]

theorem getD_lt {l : List Nat} {N : Nat} (h : ∀ x ∈ l, x < N) (h0 : 0 < N) (i : Nat) : l.getD i 0 < N := by
  by_cases hi : i < l.length
  · rw [List.getD, List.getElem?_eq_getElem hi]
    exact h _ (List.getElem_mem hi)
  · rw [List.getD, List.getElem?_eq_none (by omega)]
    exact h0

/-- A block whose cells are these. -/
def Blk (w : World) (b : Nat) (t : TypeId) (c : Array Value) : Prop := w.heap[b]? = some (.cells c t (0, 0))

theorem Blk.cell {w : World} {b : Nat} {t : TypeId} {c : Array Value} (h : Blk w b t c) {i : Nat} {v : Value} (hi : c[i]? = some v) : w.cell? ⟨b, i, none⟩ = some v := by
  rw [cell_of_row w b i c t (0, 0) h]
  exact hi
theorem Blk.frozen {w : World} {b : Nat} {t : TypeId} {c : Array Value} (h : Blk w b t c) (i : Nat) : w.frozen? ⟨b, i, none⟩ = false := frozen_of_row w b i c t h
theorem Blk.set {w : World} {b : Nat} {t : TypeId} {c : Array Value} (h : Blk w b t c) (i : Nat) (v : Value) : Blk (w.setCell ⟨b, i, none⟩ v) b t (c.setIfInBounds i v) := heap_setCell_same w b i c t v h
theorem Blk.other {w : World} {b : Nat} {t : TypeId} {c : Array Value} (h : Blk w b t c) {a : Addr} (ha : b ≠ a.block) (v : Value) : Blk (w.setCell a v) b t c := (heap_setCell_other w a b v ha).trans h
theorem Blk.lt {w : World} {b : Nat} {t : TypeId} {c : Array Value} (h : Blk w b t c) : b < w.heap.size := (Array.getElem?_eq_some_iff.1 h).1
theorem Blk.alloc {w : World} {b : Nat} {t : TypeId} {c : Array Value} (h : Blk w b t c) (o : Obj) : Blk (w.alloc o) b t c := (Below.heap_alloc w o b h.lt).trans h
theorem Blk.new (w : World) (t : TypeId) (c : Array Value) : Blk (w.alloc (.cells c t)) w.heap.size t c := heap_alloc_new w _
theorem Blk.drew {w : World} {b : Nat} {t : TypeId} {c : Array Value} (h : Blk w b t c) : Blk w.drew b t c := h
theorem Blk.below {w w' : World} {b N : Nat} {t : TypeId} {c : Array Value} (h : Blk w b t c) (hb : Below N w w') (hN : b < N) : Blk w' b t c := (hb.block b hN).trans h
theorem Blk.row {w : World} {b : Nat} {t : TypeId} {c c' : Array Value} (h : Blk w b t c) : Blk (w.setRow b c') b t c' := setRow_heap w b c c' t (0, 0) h

theorem size_alloc (w : World) (o : Obj) : (w.alloc o).heap.size = w.heap.size + 1 := by
  show (w.heap.push o).size = _
  simp
theorem size_setCell (w : World) (a : Addr) (v : Value) : (w.setCell a v).heap.size = w.heap.size := by simp [World.setCell]

theorem fill_next (m : List Nat) (n x : Nat) : (m ++ List.replicate (n + 1) 0).set m.length x = (m ++ [x]) ++ List.replicate n 0 := by
  rw [List.set_append_right _ _ (Nat.le_refl _), Nat.sub_self, List.replicate_succ]
  simp

/-- What stands in the words' block behind k words. -/
def mem (m : List Nat) : List Nat := m ++ List.replicate (64 - m.length) 0

theorem mem_len (m : List Nat) (h : m.length ≤ 64) : (mem m).length = 64 := by simp [mem]; omega
theorem mem_set (m : List Nat) (x : Nat) (h : m.length < 64) : (mem m).set m.length x = mem (m ++ [x]) := by
  unfold mem
  rw [show 64 - m.length = (64 - (m ++ [x]).length) + 1 by simp; omega]
  exact fill_next m _ x
theorem mem_at (m : List Nat) (i : Nat) (h : i < m.length) : (mem m).getD i 0 = m.getD i 0 := by
  simp only [mem, List.getD]
  rw [List.getElem?_append_left h]

def firsts (l : List Nat) (k : Nat) : List Nat := (List.range k).map (Sh.word l)
theorem firsts_len (l : List Nat) (k : Nat) : (firsts l k).length = k := by simp [firsts]
theorem firsts_succ (l : List Nat) (k : Nat) : firsts l (k + 1) = firsts l k ++ [Sh.word l k] := by simp [firsts, List.range_succ]

theorem word_lt (l : List Nat) (hl : ∀ x ∈ l, x < 256) (k : Nat) : Sh.word l k < 4294967296 := by
  unfold Sh.word
  have h0 := getD_lt hl (by decide) (4 * k)
  have h1 := getD_lt hl (by decide) (4 * k + 1)
  have h2 := getD_lt hl (by decide) (4 * k + 2)
  have h3 := getD_lt hl (by decide) (4 * k + 3)
  omega

theorem or_word (a b c d : Nat) (_ha : a < 256) (hb : b < 256) (hc : c < 256) (hd : d < 256) : (((a * 16777216 ||| b * 65536) ||| c * 256) ||| d) = ((a * 256 + b) * 256 + c) * 256 + d := by
  have e1 : a * 16777216 ||| b * 65536 = (a * 256 + b) * 65536 := by
    rw [show a * 16777216 = 2 ^ 24 * a by omega, ← Nat.two_pow_add_eq_or_of_lt (by omega)]
    omega
  have e2 : (a * 256 + b) * 65536 ||| c * 256 = ((a * 256 + b) * 256 + c) * 256 := by
    rw [show (a * 256 + b) * 65536 = 2 ^ 16 * (a * 256 + b) by omega, ← Nat.two_pow_add_eq_or_of_lt (by omega)]
    omega
  rw [e1, e2, show ((a * 256 + b) * 256 + c) * 256 = 2 ^ 8 * ((a * 256 + b) * 256 + c) by omega, ← Nat.two_pow_add_eq_or_of_lt (by omega)]
end Go.Proofs.YtkijglkjpgjdaaaDoor.Ha
