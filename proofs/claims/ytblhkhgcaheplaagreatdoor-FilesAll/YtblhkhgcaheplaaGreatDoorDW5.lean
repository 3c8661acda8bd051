/-
  The pieces of a file are forgotten: what is kept goes to the front, the rest is cleared.
-/
import Derived.Test.YtblhkhgcaheplaaGreatDoorDW4
import Derived.Lib.Walk
import Derived.Lib.SliceRun
namespace Go.Proofs.YtblhkhgcaheplaaGreatDoor.Dk
open Go.RowKit
set_option maxRecDepth 100000

theorem flat_set2 : ∀ (l : List Pc) (i : Nat) (g : Pc), i < l.length → (l.set i g).flatMap Pc.cells = ((l.flatMap Pc.cells).set (i * 2) (.string g.name)).set (i * 2 + 1) (.int .i64 (g.size : Int))
  | [], i, g, h => by simp at h
  | a :: r, 0, g, h => by simp [List.flatMap_cons, Pc.cells]
  | a :: r, i + 1, g, h => by
    have ih := flat_set2 r i g (by simpa using h)
    simp only [List.set_cons_succ, List.flatMap_cons, ih]
    rw [show (i + 1) * 2 = i * 2 + 2 by omega, show i * 2 + 2 + 1 = (i * 2 + 1) + 2 by omega]
    simp [Pc.cells]

theorem flat_take2 (l : List Pc) (i : Nat) : (l.flatMap Pc.cells).take (i * 2) = (l.take i).flatMap Pc.cells := by
  induction l generalizing i with
  | nil => simp
  | cons a r ih =>
    cases i with
    | zero => simp
    | succ i =>
      rw [List.take_succ_cons, List.flatMap_cons, List.flatMap_cons, ← ih i, show (i + 1) * 2 = i * 2 + 2 by omega, show i * 2 + 2 = a.cells.length + i * 2 by simp [Pc.cells]; omega, List.take_length_add_append]

/-- A row, cut to its first elements. -/
theorem own_cut {w : World} {base : Nat} {e : TypeId} {size g n cap : Nat} {xs : List Value} (h : w.ownsRow base e size (.slice (some ⟨g, 0, none⟩) n cap) n xs) (i : Nat) (hi : i ≤ n) : w.ownsRow base e size (.slice (some ⟨g, 0, none⟩) i cap) i (xs.take (i * size)) := by
  obtain ⟨h1, h2⟩ := h
  have hm : i * size ≤ n * size := Nat.mul_le_mul_right _ hi
  refine ⟨by rw [List.length_take, h1]; omega, .inr ?_⟩
  rcases h2 with ⟨h2, _⟩ | ⟨g', cap', cur, hv, hb, hh, h3, h4, h5, h6⟩
  · cases h2
  · injection hv with e1 e2 e3
    injection e1 with e1
    injection e1 with e1
    subst e1 e3
    refine ⟨g, cap, cur, rfl, hb, hh, by omega, h4, h5, ?_⟩
    rw [← h6, List.take_take, Nat.min_eq_left hm]

/-- Cells of an own row are written over. -/
theorem own_setRow {w : World} {base g : Nat} {e : TypeId} {size : Nat} {n cap : Nat} {xs : List Value} (h : w.ownsRow base e size (.slice (some ⟨g, 0, none⟩) n cap) n xs) : ∃ cur, w.heap[g]? = some (.cells cur e (0, 0)) ∧ cur.size = cap * size ∧ n ≤ cap ∧ cap ≤ maxLen ∧ base ≤ g ∧ cur.toList.take (n * size) = xs := by
  rcases h.2 with ⟨h2, _⟩ | ⟨g', cap', cur, hv, hb, hh, h3, h4, h5, h6⟩
  · cases h2
  · injection hv with e1 e2 e3
    injection e1 with e1
    injection e1 with e1
    subst e1 e3
    exact ⟨cur, hh, h5, h3, h4, hb, h6⟩

theorem zero66 (w : World) : (zeroValue 54).run Tryz.prog w = .ok (.agg #[.string ⟨#[]⟩, .int .i64 0]) w := by kernel_rfl
theorem zero64 (w : World) : (zeroValue 52).run Tryz.prog w = .ok (.agg #[.string ⟨#[]⟩, .slice none 0 0, .int .i64 0]) w := by kernel_rfl

theorem zeroCells_one (z : Array Value) (n : Nat) (h : ∀ v ∈ z.toList, v.oneCell' = true) (hz : 0 < z.size) : ∀ u ∈ (Builtin.zeroCells z n).toList, u.oneCell' = true := by
  intro u hu
  simp only [Builtin.zeroCells, Array.toList_map, List.mem_map] at hu
  obtain ⟨i, _, rfl⟩ := hu
  have hlt : i % z.size < z.size := Nat.mod_lt _ hz
  rw [getElem!_pos z _ hlt]
  exact h _ (by simp)

/-- 'clear' of the last elements of a row. -/
theorem run_clear_row (w : World) (t e ty : TypeId) (zs : Array Value) (ht : Tryz.prog.underlying t = some (.slice e)) (hv : ∀ w, (zeroValue e).run Tryz.prog w = .ok (.agg zs) w) (h1 : ∀ v ∈ zs.toList, v.oneCell' = true) (hz : 0 < zs.size)
    (g i k c : Nat) (cur : Array Value) (hg : w.heap[g]? = some (.cells cur e (0, 0))) (hk : 0 < k) (hs : (i + k) * zs.size ≤ cur.size) :
    (Builtin.clear_ #[t] ty #[.slice (some ⟨g, i * zs.size, none⟩) k c]).run Tryz.prog w = .ok (.tuple #[]) (w.setRow g (cur.toList.take (i * zs.size) ++ (Builtin.zeroCells zs k).toList ++ cur.toList.drop (i * zs.size + (Builtin.zeroCells zs k).toList.length)).toArray) := by
  have hl : (Builtin.zeroCells zs k).toList.length = k * zs.size := by rw [Array.length_toList, size_zeroCells]
  have hst := run_storeCells_at Tryz.prog g (i * zs.size) e (Builtin.zeroCells zs k).toList 0 cur w hg (by rw [hl, Nat.add_zero, ← Nat.add_mul]; exact hs) (zeroCells_one zs k h1 hz)
  simp only [Nat.add_zero] at hst
  obtain ⟨m, rfl⟩ : ∃ m, k = m + 1 := ⟨k - 1, by omega⟩
  have hc : (Value.agg zs).cells = zs := rfl
  simp [Builtin.clear_, run_underlying ht, hv, hc, hst]
end Go.Proofs.YtblhkhgcaheplaaGreatDoor.Dk
