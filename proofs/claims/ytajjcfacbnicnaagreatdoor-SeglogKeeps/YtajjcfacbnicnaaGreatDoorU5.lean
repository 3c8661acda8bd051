/-
  YtajjcfacbnicnaaGreatDoor: the texts DW4, DW5, DW6, DW7, DW8, one behind the other.
-/
import Derived.Test.YtajjcfacbnicnaaGreatDoorU4
import Derived.Lib.Walk
import Derived.Lib.SliceRun
import Derived.Deep.MidRow
/-
  The pieces of a file are forgotten.
-/
namespace Go.Proofs.YtajjcfacbnicnaaGreatDoor.Dk
open Go.RowKit
set_option maxRecDepth 100000

theorem eq_bytes (a b : ByteArray) : (a.toList == b.toList) = decide (cmp a b = 0) := by
  rw [ByteArray.toList_eq, ByteArray.toList_eq, Bool.eq_iff_iff, beq_iff_eq, decide_eq_true_iff, cmp_zero]
  exact ⟨ba_ext, fun h => by rw [h]⟩

/-- Is a piece of that name? -/
def isOf (n : ByteArray) (p : Pc) : Bool := decide (cmp p.name n = 0)

theorem forgetIs_any (p : Pc) (n : ByteArray) (bx : Nat) (w : World) (hc : w.cell? ⟨bx, 0, none⟩ = some (.string n)) :
    Calls Tryz.prog 124 #[.agg #[.string p.name, .int .i64 (p.size : Int)], .pointer (some ⟨bx, 0, none⟩)] w fun e w' => e = .returned (.bool (isOf n p)) ∧ w' = w.alloc (.cells #[.string p.name, .int .i64 (p.size : Int)] 96) := by
  have hb := eq_bytes p.name n
  have hlt := World.block_lt_of_cell? w _ hc
  have hc' : (w.alloc (.cells #[.string p.name, .int .i64 (p.size : Int)] 96)).cell? ⟨bx, 0, none⟩ = some (.string n) := cell_below hc ((Below.refl _ _).alloc (Nat.le_refl _) _)
  have F : Aside (isOf n p = (p.name.toList == n.toList)) := by
    show isOf n p = _
    rw [hb]; rfl
  clear hb
  go_enter Tryz.func124, Tryz.ntmps124
  go_wp2
  go_ret
  exact ⟨by rw [F.out]; rfl, rfl⟩

/-- The place of the first piece of that name, or one below 0. -/
def firstOf (n : ByteArray) (l : List Pc) : Int := if (l.any (isOf n)) then ((l.findIdx (isOf n) : Nat) : Int) else -1

theorem getbang {α : Type} [Inhabited α] (l : List α) (i : Nat) (h : i < l.length) : l[i]? = some l[i]! := by
  rw [getElem!_pos l i h]
  exact List.getElem?_eq_getElem h

theorem row_cells {w : World} {B : Nat} {a : Option Addr} {m cap : Nat} {l : List Pc} (h : w.ownsRow B 96 2 (.slice a m cap) l.length (l.flatMap Pc.cells)) : ∀ t, t < l.length → ∃ g, a = some ⟨g, 0, none⟩ ∧ w.cell? ⟨g, t * 2, none⟩ = some (.string l[t]!.name) ∧ w.cell? ⟨g, t * 2 + 1, none⟩ = some (.int .i64 (l[t]!.size : Int)) := by
  intro t ht
  obtain ⟨g, c', e, _, _, hg⟩ := own_form h (by omega)
  obtain ⟨c0, c1⟩ := flat_at2 (getbang l t ht)
  injection e with e1 e2 e3
  exact ⟨g, e1, own_cell h hg c0, own_cell h hg c1⟩

set_option maxHeartbeats 1600000 in
theorem indexFunc_any (B bx : Nat) (v : Value) (l : List Pc) (n : ByteArray) (w : World) (h : w.ownsRow B 96 2 v l.length (l.flatMap Pc.cells)) (hl : l.length ≤ 100000) (hx : w.cell? ⟨bx, 0, none⟩ = some (.string n)) :
    Calls Tryz.prog 142 #[v, .func (.func 124) #[] #[.pointer (some ⟨bx, 0, none⟩)]] w fun e w' => e = .returned (.int .i64 (firstOf n l)) ∧ Below w.heap.size w w' := by
  obtain ⟨a, cap, rfl⟩ := own_any h
  have hc : Aside (∀ t, t < l.length → ∃ g, a = some ⟨g, 0, none⟩ ∧ w.cell? ⟨g, t * 2, none⟩ = some (.string l[t]!.name) ∧ w.cell? ⟨g, t * 2 + 1, none⟩ = some (.int .i64 (l[t]!.size : Int))) := row_cells h
  clear h
  go_enter Tryz.func142, Tryz.ntmps142
  go_wp2
  go_loopg [8] l.length (fun gh s wr => ∃ k : Nat, l.length - k ≤ gh ∧ k ≤ l.length ∧ s = .int .i64 (k : Int) ∧ Below w.heap.size w wr ∧ Aside (∀ i, i < k → isOf n l[i]! = false))
  case atStart => exact ⟨0, by omega, by omega, rfl, Below.refl _ _, (fun i hi => absurd hi (Nat.not_lt_zero _) : ∀ i, i < 0 → isOf n l[i]! = false)⟩
  case round =>
    obtain ⟨k, hgh, hk, rfl, hb, I⟩ := hrel
    have hsz := hb.size
    by_cases hlt : k < l.length
    · have d3 : decide (k < l.length) = true := by simpa using hlt
      obtain ⟨g, rfl, e0, e1⟩ := hc.out k hlt
      replace e0 := cell_below e0 hb
      replace e1 := cell_below e1 hb
      have hx' := cell_below hx hb
      have hk := forgetIs_any l[k]! n bx wr hx'
      cases hq : isOf n l[k]! with
      | true =>
        rw [hq] at hk
        have F : Aside (firstOf n l = (k : Int)) := by
          show firstOf n l = (k : Int)
          have ha : l.any (isOf n) = true := List.any_eq_true.2 ⟨l[k]!, List.mem_of_getElem? (getbang l k hlt), hq⟩
          have hf : l.findIdx (isOf n) = k := by
            rw [List.findIdx_eq hlt]
            refine ⟨by rw [← getElem!_pos l k hlt]; exact hq, fun j hj => ?_⟩
            have := I.out j hj
            rwa [getElem!_pos l j (by omega)] at this
          rw [firstOf, if_pos ha, hf]
        generalize l[k]! = y at *
        go_wp2_with (go_at_call 124; refine hk.mono ?_; rintro e w' ⟨rfl, rfl⟩)
        go_ret
        exact ⟨by rw [F.out]; rfl, hb.alloc hsz _⟩
      | false =>
        rw [hq] at hk
        have HQ : Aside (isOf n l[k]! = false) := hq
        clear hq
        generalize hy : l[k]! = y at e0 e1 hk
        clear hy
        go_wp2_with (go_at_call 124; refine hk.mono ?_; rintro e w' ⟨rfl, rfl⟩)
        go_roundg (l.length - (k + 1))
        case measure => omega
        case rel =>
          have I2 : Aside (∀ i, i < k + 1 → isOf n l[i]! = false) := fun i hi => by
            by_cases h : i = k
            · subst h; exact HQ.out
            · exact I.out i (by omega)
          exact ⟨k + 1, Nat.le_refl _, by omega, by go_num, hb.alloc hsz _, I2⟩
    · have d3 : decide (k < l.length) = false := by simpa using hlt
      have F : Aside (firstOf n l = -1) := by
        show firstOf n l = -1
        have ha : ¬ l.any (isOf n) = true := by
          rw [List.any_eq_true]
          rintro ⟨x, hx, hp⟩
          obtain ⟨i, hi, rfl⟩ := List.getElem_of_mem hx
          have := I.out i (by omega)
          rw [getElem!_pos l i hi] at this
          rw [this] at hp
          cases hp
        rw [firstOf, if_neg ha]
      go_wp2
      go_ret
      exact ⟨by rw [F.out]; rfl, hb⟩
end Go.Proofs.YtajjcfacbnicnaaGreatDoor.Dk

/-
  The pieces of a file are forgotten: what is kept goes to the front, the rest is cleared.
-/
namespace Go.Proofs.YtajjcfacbnicnaaGreatDoor.Dk
open Go.RowKit
set_option maxRecDepth 100000

theorem flat_set2 : ∀ (l : List Pc) (i : Nat) (g : Pc), i < l.length → (l.set i g).flatMap Pc.cells = ((l.flatMap Pc.cells).set (i * 2) (.string g.name)).set (i * 2 + 1) (.int .i64 (g.size : Int))
  | [], i, g, h => by simp at h
  | a :: r, 0, g, h => by simp [List.flatMap_cons, Pc.cells]
  | a :: r, i + 1, g, h => by
    have ih := flat_set2 r i g (by simpa using h)
    simp only [List.set_cons_succ, List.flatMap_cons, ih]
    rw [show (i + 1) * 2 = i * 2 + 2 by omega, show i * 2 + 2 + 1 = (i * 2 + 1) + 2 by omega]
    simp [Pc.cells]

theorem flat_take2 (l : List Pc) (i : Nat) : (l.flatMap Pc.cells).take (i * 2) = (l.take i).flatMap Pc.cells := by
  induction l generalizing i with
  | nil => simp
  | cons a r ih =>
    cases i with
    | zero => simp
    | succ i =>
      rw [List.take_succ_cons, List.flatMap_cons, List.flatMap_cons, ← ih i, show (i + 1) * 2 = i * 2 + 2 by omega, show i * 2 + 2 = a.cells.length + i * 2 by simp [Pc.cells]; omega, List.take_length_add_append]

/-- A row, cut to its first elements. -/
theorem own_cut {w : World} {base : Nat} {e : TypeId} {size g n cap : Nat} {xs : List Value} (h : w.ownsRow base e size (.slice (some ⟨g, 0, none⟩) n cap) n xs) (i : Nat) (hi : i ≤ n) : w.ownsRow base e size (.slice (some ⟨g, 0, none⟩) i cap) i (xs.take (i * size)) := by
  obtain ⟨h1, h2⟩ := h
  have hm : i * size ≤ n * size := Nat.mul_le_mul_right _ hi
  refine ⟨by rw [List.length_take, h1]; omega, .inr ?_⟩
  rcases h2 with ⟨h2, _⟩ | ⟨g', cap', cur, hv, hb, hh, h3, h4, h5, h6⟩
  · cases h2
  · injection hv with e1 e2 e3
    injection e1 with e1
    injection e1 with e1
    subst e1 e3
    refine ⟨g, cap, cur, rfl, hb, hh, by omega, h4, h5, ?_⟩
    rw [← h6, List.take_take, Nat.min_eq_left hm]

/-- Cells of an own row are written over. -/
theorem own_setRow {w : World} {base g : Nat} {e : TypeId} {size : Nat} {n cap : Nat} {xs : List Value} (h : w.ownsRow base e size (.slice (some ⟨g, 0, none⟩) n cap) n xs) : ∃ cur, w.heap[g]? = some (.cells cur e (0, 0)) ∧ cur.size = cap * size ∧ n ≤ cap ∧ cap ≤ maxLen ∧ base ≤ g ∧ cur.toList.take (n * size) = xs := by
  rcases h.2 with ⟨h2, _⟩ | ⟨g', cap', cur, hv, hb, hh, h3, h4, h5, h6⟩
  · cases h2
  · injection hv with e1 e2 e3
    injection e1 with e1
    injection e1 with e1
    subst e1 e3
    exact ⟨cur, hh, h5, h3, h4, hb, h6⟩

theorem zero66 (w : World) : (zeroValue 96).run Tryz.prog w = .ok (.agg #[.string ⟨#[]⟩, .int .i64 0]) w := by kernel_rfl
theorem zero64 (w : World) : (zeroValue 99).run Tryz.prog w = .ok (.agg #[.string ⟨#[]⟩, .slice none 0 0, .int .i64 0]) w := by kernel_rfl

theorem zeroCells_one (z : Array Value) (n : Nat) (h : ∀ v ∈ z.toList, v.oneCell' = true) (hz : 0 < z.size) : ∀ u ∈ (Builtin.zeroCells z n).toList, u.oneCell' = true := by
  intro u hu
  simp only [Builtin.zeroCells, Array.toList_map, List.mem_map] at hu
  obtain ⟨i, _, rfl⟩ := hu
  have hlt : i % z.size < z.size := Nat.mod_lt _ hz
  rw [getElem!_pos z _ hlt]
  exact h _ (by simp)

/-- 'clear' of the last elements of a row. -/
theorem run_clear_row (w : World) (t e ty : TypeId) (zs : Array Value) (ht : Tryz.prog.underlying t = some (.slice e)) (hv : ∀ w, (zeroValue e).run Tryz.prog w = .ok (.agg zs) w) (h1 : ∀ v ∈ zs.toList, v.oneCell' = true) (hz : 0 < zs.size)
    (g i k c : Nat) (cur : Array Value) (hg : w.heap[g]? = some (.cells cur e (0, 0))) (hk : 0 < k) (hs : (i + k) * zs.size ≤ cur.size) :
    (Builtin.clear_ #[t] ty #[.slice (some ⟨g, i * zs.size, none⟩) k c]).run Tryz.prog w = .ok (.tuple #[]) (w.setRow g (cur.toList.take (i * zs.size) ++ (Builtin.zeroCells zs k).toList ++ cur.toList.drop (i * zs.size + (Builtin.zeroCells zs k).toList.length)).toArray) := by
  have hl : (Builtin.zeroCells zs k).toList.length = k * zs.size := by rw [Array.length_toList, size_zeroCells]
  have hst := run_storeCells_at Tryz.prog g (i * zs.size) e (Builtin.zeroCells zs k).toList 0 cur w hg (by rw [hl, Nat.add_zero, ← Nat.add_mul]; exact hs) (zeroCells_one zs k h1 hz)
  simp only [Nat.add_zero] at hst
  obtain ⟨m, rfl⟩ : ∃ m, k = m + 1 := ⟨k - 1, by omega⟩
  have hc : (Value.agg zs).cells = zs := rfl
  simp [Builtin.clear_, run_underlying ht, hv, hc, hst]
end Go.Proofs.YtajjcfacbnicnaaGreatDoor.Dk

/-
  slices.DeleteFunc at pieces, and what forgets a file's pieces.
-/
namespace Go.Proofs.YtajjcfacbnicnaaGreatDoor.Dk
open Go.RowKit
set_option maxRecDepth 100000

theorem drop_next {α : Type} [Inhabited α] {D l : List α} {j : Nat} (h : D.drop j = l.drop j) (hj : j < l.length) (hl : D.length = l.length) : D[j]! = l[j]! ∧ D.drop (j + 1) = l.drop (j + 1) := by
  have e : (D.drop j)[0]? = (l.drop j)[0]? := by rw [h]
  rw [List.getElem?_drop, List.getElem?_drop, Nat.add_zero, getbang D j (by omega), getbang l j hj] at e
  refine ⟨Option.some.inj e, ?_⟩
  rw [← List.drop_drop, ← List.drop_drop, h]

theorem take_next {α : Type} [Inhabited α] (l : List α) (j : Nat) (h : j < l.length) : l.take (j + 1) = l.take j ++ [l[j]!] := by
  rw [List.take_add_one, getbang l j h]
  rfl

theorem filter_first (n : ByteArray) (l : List Pc) (i : Nat) (hi : i < l.length) (hf : l.findIdx (isOf n) = i) : l.take i = (l.take (i + 1)).filter fun p => !isOf n p := by
  have h := (List.findIdx_eq hi).1 hf
  rw [take_next l i hi, List.filter_append]
  have h1 : (l.take i).filter (fun p => !isOf n p) = l.take i := by
    rw [List.filter_eq_self]
    intro x hx
    obtain ⟨k, hk, rfl⟩ := List.getElem_of_mem hx
    rw [List.length_take] at hk
    rw [List.getElem_take]
    have := h.2 k (by omega)
    simpa using this
  have h2 : [l[i]!].filter (fun p => !isOf n p) = [] := by
    have := h.1
    rw [← getElem!_pos l i hi] at this
    generalize l[i]! = z at this
    simp [this]
  rw [h1, h2, List.append_nil]

/-- What stands ahead of what is cleared stays. -/
theorem own_cleared {w : World} {base g : Nat} {e : TypeId} {size n cap i : Nat} {xs : List Value} (h : w.ownsRow base e size (.slice (some ⟨g, 0, none⟩) n cap) n xs) {cur : Array Value} (hg : w.heap[g]? = some (.cells cur e (0, 0))) (zs : List Value) (hi : i ≤ n) (hz : i * size + zs.length ≤ cur.size) :
    (w.setRow g (cur.toList.take (i * size) ++ zs ++ cur.toList.drop (i * size + zs.length)).toArray).ownsRow base e size (.slice (some ⟨g, 0, none⟩) i cap) i (xs.take (i * size)) := by
  obtain ⟨cur', hg', h5, h3, h4, hb, h6⟩ := own_setRow h
  rw [hg] at hg'
  injection hg' with hg'
  injection hg' with hg' _ _
  subst hg'
  have hm : i * size ≤ n * size := Nat.mul_le_mul_right _ hi
  have hl : xs.length = n * size := h.1
  refine ⟨by rw [List.length_take, hl]; omega, .inr ⟨g, cap, _, rfl, hb, setRow_heap w g cur _ e _ hg, by omega, h4, ?_, ?_⟩⟩
  · simp only [List.size_toArray, List.length_append, List.length_take, List.length_drop, Array.length_toList]
    omega
  · rw [← h6, List.take_take, Nat.min_eq_left hm]
    have hlt : (cur.toList.take (i * size)).length = i * size := by rw [List.length_take, Array.length_toList]; omega
    rw [List.append_assoc, List.take_append_of_le_length (by omega), List.take_of_length_le (by omega)]

theorem grown_setRow {w wr : World} {g : Nat} (h : w.grownBy wr (some g)) (cs : Array Value) : w.grownBy (wr.setRow g cs) (some g) :=
  ⟨h.os, h.tape, h.output, by simpa using h.size, fun k hk hn => (setRow_other wr g k cs (fun e => hn (by rw [e]))).trans (h.block k hk hn)⟩
theorem grown_set {w wr : World} {g : Nat} (h : w.grownBy wr (some g)) (j : Nat) (v : Value) : w.grownBy (wr.setCell ⟨g, j, none⟩ v) (some g) :=
  ⟨h.os, h.tape, h.output, by simpa using h.size, fun k hk hn => (Below.heap_setCell wr ⟨g, j, none⟩ v k (fun e => hn (by rw [e]))).trans (h.block k hk hn)⟩
theorem grown_alloc {w wr : World} {g : Nat} (h : w.grownBy wr (some g)) (o : Obj) : w.grownBy (wr.alloc o) (some g) := h.trans (World.grownBy_alloc wr o _)
theorem grown_below {w w' : World} {r : Option Nat} (h : Below w.heap.size w w') : w.grownBy w' r := ⟨h.os, h.tape, h.output, h.size, fun k hk _ => h.block k hk⟩

theorem size66 : (Tryz.prog.info? 96).map (·.size) = some 2 := by kernel_rfl
theorem size64 : (Tryz.prog.info? 99).map (·.size) = some 3 := by kernel_rfl

theorem pc_one (y : Pc) : (#[.string y.name, .int .i64 (y.size : Int)] : Array Value).all (·.oneCell') = true := by simp [Value.oneCell']

theorem own_there {w : World} {base g : Nat} {e : TypeId} {size : Nat} {v : Value} {n : Nat} {xs : List Value} (h : w.ownsRow base e size v n xs) (hg : v.ownBlock = some g) {o k : Nat} (hk : o + k ≤ n * size) : w.there g o k := fun j hj => by
  refine ⟨?_, own_frozen h hg _⟩
  have : o + j < xs.length := by rw [h.1]; omega
  rw [own_cell h hg (List.getElem?_eq_getElem this)]
  rfl

set_option maxHeartbeats 3200000 in
theorem deleteFunc_hit (B bx g cap i0 : Nat) (l : List Pc) (n : ByteArray) (w : World) (h : w.ownsRow B 96 2 (.slice (some ⟨g, 0, none⟩) l.length cap) l.length (l.flatMap Pc.cells)) (hl : l.length ≤ 100000) (hx : w.cell? ⟨bx, 0, none⟩ = some (.string n)) (hne : bx ≠ g)
   (hf : firstOf n l = (i0 : Int)) (hi0 : i0 < l.length) (hfi : l.findIdx (isOf n) = i0) :
    Calls Tryz.prog 123 #[.slice (some ⟨g, 0, none⟩) l.length cap, .func (.func 124) #[] #[.pointer (some ⟨bx, 0, none⟩)]] w fun e w' => ∃ v', e = .returned v' ∧ w'.ownsRow B 96 2 v' (l.filter fun p => !isOf n p).length ((l.filter fun p => !isOf n p).flatMap Pc.cells) ∧ v'.ownBlock = some g ∧ w.grownBy w' (some g) := by
  have ki := indexFunc_any B bx _ l n w h hl hx
  rw [hf] at ki
  have hcap : l.length ≤ cap ∧ cap ≤ maxLen := by
    obtain ⟨cur, _, _, h1, h2, _⟩ := own_setRow h
    exact ⟨h1, h2⟩
  obtain ⟨hcap1, hcap2⟩ := hcap
  have hglt : g < w.heap.size := by
    obtain ⟨cur, h0, _⟩ := own_setRow h
    exact (Array.getElem?_eq_some_iff.1 h0).1
  have dn : ((i0 : Int) == -1) = false := by simp
  have hm : cap ≤ 9223372036854775807 := by unfold maxLen at hcap2; omega
  have H0 : Aside (w.ownsRow B 96 2 (.slice (some ⟨g, 0, none⟩) l.length cap) l.length (l.flatMap Pc.cells)) := h
  have HI : Aside (l.take i0 = (l.take (i0 + 1)).filter fun p => !isOf n p) := filter_first n l i0 hi0 hfi
  clear h hf hfi
  go_enter Tryz.func123, Tryz.ntmps123
  go_wp2_with (go_at_call 142; refine ki.mono ?_; rintro e w1 ⟨rfl, hb1⟩)
  go_loopg [5, 6, 7] l.length (fun gh s5 s6 _ wr => ∃ (i j : Nat) (D : List Pc), l.length - j ≤ gh ∧ s5 = .int .i64 (i : Int) ∧ s6 = .int .i64 (j : Int) ∧ j ≤ l.length ∧ i < j ∧ Aside (D.length = l.length ∧ D.take i = (l.take j).filter (fun p => !isOf n p) ∧ D.drop j = l.drop j) ∧ Aside (wr.ownsRow B 96 2 (.slice (some ⟨g, 0, none⟩) l.length cap) l.length (D.flatMap Pc.cells)) ∧ w.grownBy wr (some g))
  case atStart =>
    refine ⟨i0, i0 + 1, l, by omega, rfl, by go_num, by omega, by omega, ?_, own_frame H0.out (fun k hk => ?_), grown_below hb1⟩
    · show _ ∧ _ ∧ _
      exact ⟨rfl, HI.out, rfl⟩
    · injection hk with hk
      exact hb1.block k (by rw [← hk]; exact hglt)
  case round =>
    obtain ⟨i, j, D, hgh, rfl, rfl, hj, hij, I, OWN, hgr⟩ := hrel
    have hsz := hgr.size
    by_cases hlt : j < l.length
    · have d3 : decide (j < l.length) = true := by simpa using hlt
      obtain ⟨hD, hT, hR⟩ := I.out
      have hown := OWN.out
      have hown' := hown
      rw [← hD] at hown'
      obtain ⟨g', eg, e0, e1⟩ := row_cells hown' j (by omega)
      obtain rfl : g = g' := by injection eg with eg; injection eg
      clear eg
      obtain ⟨g', eg, ei0, ei1⟩ := row_cells hown' i (by omega)
      obtain rfl : g = g' := by injection eg with eg; injection eg
      clear eg
      have hx' := hgr.cell hx (by simp; exact hne)
      have hth : ∀ o o' : Obj, ((wr.alloc o).alloc o').there g (i * 2) 2 := fun o o' => own_there ((hown.alloc o).alloc o') rfl (by omega)
      obtain ⟨hDj, hDr⟩ := drop_next hR hlt hD
      have I' : Aside (D[j]! = l[j]! ∧ D.length = l.length ∧ D.take i = (l.take j).filter (fun p => !isOf n p) ∧ D.drop (j + 1) = l.drop (j + 1)) := ⟨hDj, hD, hT, hDr⟩
      clear hown hown' hT hR I hDj hDr
      have HQ : Aside (∀ u : World, _) := fun u : World => forgetIs_any D[j]! n bx u
      have hxa : ∀ o, (wr.alloc o).cell? ⟨bx, 0, none⟩ = some (.string n) := fun o => cell_below hx' ((Below.refl _ _).alloc (Nat.le_refl _) o)
      cases hq : isOf n D[j]! with
      | true =>
        rw [hq] at HQ
        have HQ2 : Aside (isOf n D[j]! = true) := hq
        generalize hy : D[j]! = y at e0 e1 HQ
        clear hy hq
        go_wp2_with (go_at_call 124; refine (HQ.out _ (hxa _)).mono ?_; rintro e w' ⟨rfl, rfl⟩)
        go_roundg (l.length - (j + 1))
        case measure => omega
        case rel =>
          refine ⟨i, j + 1, D, Nat.le_refl _, rfl, by go_num, by omega, by omega, ?_, (OWN.out.alloc _).alloc _, grown_alloc (grown_alloc hgr _) _⟩
          show _ ∧ _ ∧ _
          obtain ⟨h1, h2, h3, h4⟩ := I'.out
          refine ⟨h2, ?_, h4⟩
          have hq := HQ2.out
          rw [h1] at hq
          rw [take_next l j hlt, List.filter_append, h3]
          generalize l[j]! = z at hq
          simp [hq]
      | false =>
        rw [hq] at HQ
        have HQ2 : Aside (isOf n D[j]! = false) := hq
        generalize hy : D[j]! = y at e0 e1 HQ
        have Y : Aside (D[j]! = y) := hy
        clear hy hq ei0 ei1
        go_wp2_with (first
          | (go_at_call 124; refine (HQ.out _ (hxa _)).mono ?_; rintro e w' ⟨rfl, rfl⟩)
          | (refine wpList_store_mid rfl 96 (.tmp 33) (.tmp 32) rfl g (i * 2) #[.string y.name, .int .i64 (y.size : Int)] rfl rfl (hth _ _) size66 (pc_one y) ?_))
        go_roundg (l.length - (j + 1))
        case measure => omega
        case rel =>
          obtain ⟨h1, h2, h3, h4⟩ := I'.out
          have hy := Y.out
          refine ⟨i + 1, j + 1, D.set i y, Nat.le_refl _, by go_num, by go_num, by omega, by omega, ?_, ?_, grown_set (grown_set (grown_alloc (grown_alloc hgr _) _) _ _) _ _⟩
          · show _ ∧ _ ∧ _
            have hq := HQ2.out
            rw [h1] at hq
            refine ⟨by simpa using h2, ?_, ?_⟩
            · rw [take_next l j hlt, List.filter_append, ← h3, List.take_set, take_next D i (by omega), ← h1, hy]
              have hq' : isOf n y = false := by rw [← hy, h1]; exact hq
              rw [List.set_append_right _ _ (by rw [List.length_take]; omega), List.length_take, Nat.min_eq_left (by omega), Nat.sub_self]
              simp [hq']
            · rw [List.drop_set_of_lt (by omega)]
              exact h4
          · have := own_set (own_set ((OWN.out.alloc (.cells #[.string y.name, .int .i64 (y.size : Int)] 96)).alloc (.cells #[.string y.name, .int .i64 (y.size : Int)] 96)) (g := g) rfl (i * 2) (by omega) (.string y.name)) (g := g) rfl (i * 2 + 1) (by omega) (.int .i64 (y.size : Int))
            rw [← flat_set2 D i y (by omega)] at this
            exact this
    · obtain rfl : j = l.length := by omega
      have d3 : decide (l.length < l.length) = false := by simp
      obtain ⟨cur, hcur, hcs, _, _, _, _⟩ := own_setRow OWN.out
      have hz : (Builtin.zeroCells #[.string ⟨#[]⟩, .int .i64 0] (l.length - i)).toList.length = (l.length - i) * 2 := by rw [Array.length_toList, size_zeroCells]; rfl
      have hmul : (i + (l.length - i)) * 2 ≤ cur.size := by rw [hcs]; exact Nat.mul_le_mul_right _ (by omega)
      have hcl : ∀ ty, (Builtin.clear_ #[66] ty #[.slice (some ⟨g, i * 2, none⟩) (l.length - i) (cap - i)]).run Tryz.prog wr = .ok (.tuple #[]) _ := fun ty =>
        run_clear_row wr 66 96 ty #[.string ⟨#[]⟩, .int .i64 0] Tryz.underlying66 zero66 (by simp [Value.oneCell']) (by simp) g i (l.length - i) (cap - i) cur hcur (by omega) hmul
      have C : Aside _ := own_cleared OWN.out hcur (Builtin.zeroCells #[.string ⟨#[]⟩, .int .i64 0] (l.length - i)).toList (i := i) (by omega) (by rw [hz]; omega)
      generalize hW : wr.setRow g _ = W at hcl C
      have hgW : w.grownBy W (some g) := by rw [← hW]; exact grown_setRow hgr _
      clear hW hcur hz hmul
      have hic : i ≤ cap := by omega
      have hne2 : ¬ cap = i := by omega
      go_wp2
      go_ret
      refine ⟨_, rfl, ?_, rfl, hgW⟩
      obtain ⟨h2, h3, h4⟩ := I.out
      have c := C.out
      rw [flat_take2, h3, List.take_of_length_le (Nat.le_refl _)] at c
      have hlen : (l.filter fun p => !isOf n p).length = i := by
        have := congrArg List.length h3
        rw [List.take_of_length_le (Nat.le_refl _), List.length_take, Nat.min_eq_left (by omega)] at this
        exact this.symm
      rw [hlen]
      exact c
end Go.Proofs.YtajjcfacbnicnaaGreatDoor.Dk

/-
  A file's pieces are forgotten.
-/
namespace Go.Proofs.YtajjcfacbnicnaaGreatDoor.Dk
open Go.RowKit
set_option maxRecDepth 100000

def keepOf (n : ByteArray) (l : List Pc) : List Pc := l.filter fun p => !isOf n p

theorem deleteFunc_any (B bx : Nat) (v : Value) (l : List Pc) (n : ByteArray) (w : World) (h : w.ownsRow B 96 2 v l.length (l.flatMap Pc.cells)) (hl : l.length ≤ 100000) (hx : w.cell? ⟨bx, 0, none⟩ = some (.string n)) (hne : v.ownBlock ≠ some bx) :
    Calls Tryz.prog 123 #[v, .func (.func 124) #[] #[.pointer (some ⟨bx, 0, none⟩)]] w fun e w' => ∃ v', e = .returned v' ∧ w'.ownsRow B 96 2 v' (keepOf n l).length ((keepOf n l).flatMap Pc.cells) ∧ v'.ownBlock = v.ownBlock ∧ w.grownBy w' v.ownBlock := by
  by_cases ha : l.any (isOf n) = true
  · have hlt : l.findIdx (isOf n) < l.length := by
      rw [List.findIdx_lt_length]
      simpa using ha
    obtain ⟨g, cap, rfl, _, _, _⟩ := own_form h (by omega)
    exact deleteFunc_hit B bx g cap (l.findIdx (isOf n)) l n w h hl hx (fun e => hne (by rw [e]; rfl)) (by rw [firstOf, if_pos ha]) hlt rfl
  · have ki := indexFunc_any B bx v l n w h hl hx
    have hk : keepOf n l = l := by
      unfold keepOf
      rw [List.filter_eq_self]
      intro x hx
      have := ha
      rw [List.any_eq_true] at this
      cases hq : isOf n x with
      | false => rfl
      | true => exact absurd ⟨x, hx, hq⟩ this
    rw [hk]
    rw [firstOf, if_neg ha] at ki
    have H : Aside (w.ownsRow B 96 2 v l.length (l.flatMap Pc.cells)) := h
    clear hk ha h hx hne
    go_enter Tryz.func123, Tryz.ntmps123
    go_wp2_with (go_at_call 142; refine ki.mono ?_; rintro e w1 ⟨rfl, hb1⟩)
    go_ret
    exact ⟨_, rfl, own_frame H.out (fun k hk => hb1.block k (H.out.lt k hk).2), rfl, grown_below hb1⟩

theorem app_ne {α : Type} {l m : List α} (h : (l ++ m).Nodup) {x : α} (hx : x ∈ l) : x ∉ m := by
  intro hm
  have := (List.nodup_append.1 h).2.2 x hx x hm
  exact this rfl

theorem Rep.b_vf {w : World} {B b : Nat} {d : Ds} (h : Rep w B b d) {k : Nat} (hk : d.vf.ownBlock = some k) : k ≠ b := fun e =>
  (List.nodup_cons.1 h.nodup).1 (List.mem_append_left _ (mem_ob.2 (e ▸ hk)))
theorem Rep.b_vp {w : World} {B b : Nat} {d : Ds} (h : Rep w B b d) {k : Nat} (hk : d.vp.ownBlock = some k) : k ≠ b := fun e =>
  (List.nodup_cons.1 h.nodup).1 (List.mem_append_right _ (List.mem_append_left _ (mem_ob.2 (e ▸ hk))))
theorem Rep.b_f {w : World} {B b : Nat} {d : Ds} (h : Rep w B b d) {f : Fv} (hf : f ∈ d.files) {k : Nat} (hk : f.v.ownBlock = some k) : k ≠ b := fun e =>
  (List.nodup_cons.1 h.nodup).1 (List.mem_append_right _ (List.mem_append_right _ (List.mem_flatMap.2 ⟨f, hf, mem_ob.2 (e ▸ hk)⟩)))
theorem Rep.vf_vp {w : World} {B b : Nat} {d : Ds} (h : Rep w B b d) {k : Nat} (hk : d.vf.ownBlock = some k) : d.vp.ownBlock ≠ some k := fun e =>
  app_ne (List.nodup_cons.1 h.nodup).2 (mem_ob.2 hk) (List.mem_append_left _ (mem_ob.2 e))
theorem Rep.vf_f {w : World} {B b : Nat} {d : Ds} (h : Rep w B b d) {f : Fv} (hf : f ∈ d.files) {k : Nat} (hk : d.vf.ownBlock = some k) : f.v.ownBlock ≠ some k := fun e =>
  app_ne (List.nodup_cons.1 h.nodup).2 (mem_ob.2 hk) (List.mem_append_right _ (List.mem_flatMap.2 ⟨f, hf, mem_ob.2 e⟩))
theorem Rep.vp_f {w : World} {B b : Nat} {d : Ds} (h : Rep w B b d) {f : Fv} (hf : f ∈ d.files) {k : Nat} (hk : d.vp.ownBlock = some k) : f.v.ownBlock ≠ some k := fun e =>
  app_ne (List.nodup_append.1 (List.nodup_cons.1 h.nodup).2).2.1 (mem_ob.2 hk) (List.mem_flatMap.2 ⟨f, hf, mem_ob.2 e⟩)

theorem Rep.b_lt {w : World} {B b : Nat} {d : Ds} (h : Rep w B b d) : b < w.heap.size := (h.lt b foot_b).2

theorem Rep.repieces {w w1 : World} {B b : Nat} {d : Ds} {v' : Value} {L : List Pc} (h : Rep w B b d) (ho : w1.ownsRow B 96 2 v' L.length (L.flatMap Pc.cells)) (hv : v'.ownBlock = d.vp.ownBlock) (hg : w.grownBy w1 d.vp.ownBlock) :
    Rep (w1.setCell ⟨b, 1, none⟩ v') B b { d with pieces := L, vp := v' } ∧ Step (d.foot b) (d.foot b) w (w1.setCell ⟨b, 1, none⟩ v') := by
  have hfo : Ds.foot b { d with pieces := L, vp := v' } = d.foot b := by unfold Ds.foot ob; simp only; rw [hv]
  have hblk : w1.heap[b]? = some (.cells d.cells 68 (0, 0)) := (hg.block b h.b_lt (fun e => h.b_vp e.symm rfl)).trans h.blk
  have keep : ∀ k, k < w.heap.size → k ≠ b → d.vp.ownBlock ≠ some k → (w1.setCell ⟨b, 1, none⟩ v').heap[k]? = w.heap[k]? := fun k hk hb hp =>
    (Below.heap_setCell w1 ⟨b, 1, none⟩ v' k hb).trans (hg.block k hk (fun e => hp e.symm))
  refine ⟨⟨h.ge, set_same hblk rfl, own_frame h.tab fun k hk => keep k (h.tab.lt k hk).2 (h.b_vf hk) (h.vf_vp hk), own_frame ho fun k hk => Below.heap_setCell w1 ⟨b, 1, none⟩ v' k (h.b_vp (hv ▸ hk)), fun f hf => own_frame (h.rows f hf) fun k hk => keep k ((h.rows f hf).lt k hk).2 (h.b_f hf hk) (fun e => h.vp_f hf e hk), by rw [hfo]; exact h.nodup⟩, ?_⟩
  refine ⟨hg.os, hg.tape, hg.output, by simpa using hg.size, fun k hk hn => keep k hk (fun e => hn (e ▸ foot_b)) (fun e => hn (foot_vp e)), fun k hk => .inl hk⟩

theorem Rep.repieces_cell {w w1 : World} {B b : Nat} {d : Ds} (h : Rep w B b d) (hg : w.grownBy w1 d.vp.ownBlock) : w1.cell? ⟨b, 1, none⟩ = some d.vp := by
  rw [cell_of_row w1 b 1 _ _ _ ((hg.block b h.b_lt (fun e => h.b_vp e.symm rfl)).trans h.blk)]
  rfl
theorem Rep.repieces_fz {w w1 : World} {B b : Nat} {d : Ds} (h : Rep w B b d) (hg : w.grownBy w1 d.vp.ownBlock) : w1.frozen? ⟨b, 1, none⟩ = false :=
  frozen_of_row w1 b 1 _ _ ((hg.block b h.b_lt (fun e => h.b_vp e.symm rfl)).trans h.blk)

theorem forget_any {w : World} {B b : Nat} {d : Ds} (h : Rep w B b d) (hl : d.pieces.length ≤ 100000) (n : ByteArray) :
    Calls Tryz.prog 108 #[.pointer (some ⟨b, 0, none⟩), .string n] w fun e w' => e = .returned (.tuple #[]) ∧ ∃ v', v'.ownBlock = d.vp.ownBlock ∧ Rep w' B b { d with pieces := keepOf n d.pieces, vp := v' } ∧ Step (d.foot b) (d.foot b) w w' := by
  have hw : w.heap.size < (w.alloc (.cells #[.string n] 9)).heap.size := by simp
  have hb0 : Below w.heap.size w (w.alloc (.cells #[.string n] 9)) := (Below.refl _ _).alloc (Nat.le_refl _) _
  have h1 := h.below hb0
  have hne : d.vp.ownBlock ≠ some w.heap.size := fun e => by have := (h.pcs.lt _ e).2; omega
  have hx : (w.alloc (.cells #[.string n] 9)).cell? ⟨w.heap.size, 0, none⟩ = some (.string n) := by simp
  have c1 := h1.c1
  have kd := deleteFunc_any B w.heap.size d.vp d.pieces n _ h1.pcs hl hx hne
  have H1 : Aside (Rep (w.alloc (.cells #[.string n] 9)) B b d ∧ Step (d.foot b) (d.foot b) w (w.alloc (.cells #[.string n] 9))) := ⟨h1, Step.ofBelow hb0⟩
  clear h h1 hb0 hx hne
  go_enter Tryz.func108, Tryz.ntmps108
  go_wp2_with (go_at_call 123; refine kd.mono ?_; rintro e w1 ⟨v', rfl, ho, hv, hg⟩; have hc1 := (H1.out.1.repieces_cell hg); have hf1 := H1.out.1.repieces_fz hg; obtain ⟨a', cap', rfl⟩ := own_any ho)
  go_end0
  have := H1.out.1.repieces ho hv hg
  exact ⟨rfl, _, hv, this.1, H1.out.2.trans this.2⟩
end Go.Proofs.YtajjcfacbnicnaaGreatDoor.Dk

/-
  A file is changed where it lies; Sync, Read, Sure.
-/
namespace Go.Proofs.YtajjcfacbnicnaaGreatDoor.Dk
open Go.RowKit
set_option maxRecDepth 100000

theorem flatMap_set_same {α β : Type} (g : α → List β) : ∀ (l : List α) (i : Nat) (f f' : α), l[i]? = some f → g f' = g f → (l.set i f').flatMap g = l.flatMap g
  | [], i, f, f', h, _ => by simp at h
  | a :: r, 0, f, f', h, hg => by
    simp at h
    subst h
    simp [List.flatMap_cons, hg]
  | a :: r, i + 1, f, f', h, hg => by
    simp only [List.set_cons_succ, List.flatMap_cons]
    rw [flatMap_set_same g r i f f' (by simpa using h) hg]

theorem mem_set_cases {α : Type} {l : List α} {i : Nat} {a x : α} (h : x ∈ l.set i a) : x = a ∨ x ∈ l := by
  rcases List.mem_or_eq_of_mem_set h with h | h
  · exact .inr h
  · exact .inl h

/-- A file is another one, in the same block; its table was written. -/
theorem Rep.setFile {w w' : World} {B b g i : Nat} {d : Ds} {f f' : Fv} (h : Rep w B b d) (hf : d.files[i]? = some f) (hg : d.vf.ownBlock = some g)
    (ht : w'.ownsRow B 99 3 d.vf d.files.length ((d.files.set i f').flatMap Fv.cells)) (hgr : w.grownBy w' (some g)) (hv : f'.v.ownBlock = f.v.ownBlock) (hrow : w.ownsRow B 5 1 f'.v f'.bytes.length (bcells f'.bytes)) :
    Rep w' B b { d with files := d.files.set i f' } ∧ Step (d.foot b) (d.foot b) w w' := by
  have hm : f ∈ d.files := List.mem_of_getElem? hf
  have hfo : Ds.foot b { d with files := d.files.set i f' } = d.foot b := by
    unfold Ds.foot
    simp only
    rw [flatMap_set_same (fun f => ob f.v) d.files i f f' hf (by unfold ob; rw [hv])]
  have keep : ∀ k, k < w.heap.size → k ≠ g → w'.heap[k]? = w.heap[k]? := fun k hk hn => hgr.block k hk (fun e => hn (Option.some.inj e))
  refine ⟨⟨h.ge, ?_, by simpa using ht, ?_, ?_, by rw [hfo]; exact h.nodup⟩, ?_⟩
  · exact (keep b h.b_lt (fun e => h.b_vf hg e.symm)).trans h.blk
  · exact own_frame h.pcs fun k hk => keep k (h.pcs.lt k hk).2 (fun e => h.vf_vp hg (e ▸ hk))
  · intro x hx
    rcases mem_set_cases hx with rfl | hx
    · exact own_frame hrow fun k hk => keep k (hrow.lt k hk).2 (fun e => h.vf_f hm hg (by rw [← hv, ← e]; exact hk))
    · exact own_frame (h.rows x hx) fun k hk => keep k ((h.rows x hx).lt k hk).2 (fun e => h.vf_f hx hg (e ▸ hk))
  · exact ⟨hgr.os, hgr.tape, hgr.output, hgr.size, fun k hk hn => keep k hk (fun e => hn (foot_vf (e ▸ hg))), fun k hk => .inl hk⟩

theorem Rep.vf_form {w : World} {B b i : Nat} {d : Ds} {f : Fv} (h : Rep w B b d) (hf : d.files[i]? = some f) : ∃ g cap, d.vf = .slice (some ⟨g, 0, none⟩) d.files.length cap ∧ d.files.length ≤ cap ∧ cap ≤ maxLen ∧ d.vf.ownBlock = some g := by
  have := (List.getElem?_eq_some_iff.1 hf).1
  exact own_form h.tab (by omega)

theorem Rep.fcells {w : World} {B b i g : Nat} {d : Ds} {f : Fv} (h : Rep w B b d) (hf : d.files[i]? = some f) (hg : d.vf.ownBlock = some g) : w.cell? ⟨g, i * 3, none⟩ = some (.string f.name) ∧ w.cell? ⟨g, i * 3 + 1, none⟩ = some f.v ∧ w.cell? ⟨g, i * 3 + 2, none⟩ = some (.int .i64 (f.sure : Int)) := by
  obtain ⟨c0, c1, c2⟩ := flat_at hf
  exact ⟨own_cell h.tab hg c0, own_cell h.tab hg c1, own_cell h.tab hg c2⟩

/-- The first n of a slice. -/
def cutV (v : Value) (n : Nat) : Value := match v with
  | .slice a _ c => .slice a n c
  | v => v

theorem own_cutV {w : World} {base : Nat} {e : TypeId} {v : Value} {n : Nat} {xs : List Value} (h : w.ownsRow base e 1 v n xs) (i : Nat) (hi : i ≤ n) : w.ownsRow base e 1 (cutV v i) i (xs.take i) ∧ (cutV v i).ownBlock = v.ownBlock := by
  rcases h.2 with ⟨rfl, rfl⟩ | ⟨g, cap, cur, rfl, _⟩
  · obtain rfl : i = 0 := by omega
    exact ⟨by simpa [cutV] using World.ownsRow_nil w base e 1, rfl⟩
  · have := own_cut h i hi
    rw [Nat.mul_one] at this
    exact ⟨this, rfl⟩

theorem bcells_take (l : List UInt8) (n : Nat) : (bcells l).take n = bcells (l.take n) := by simp [bcells, List.map_take]
theorem bcells_len (l : List UInt8) : (bcells l).length = l.length := by simp [bcells]

/-- What settle makes of a file. -/
def Fv.settled (f : Fv) (n : Nat) : Fv := ⟨f.name, f.bytes.take n, n, cutV f.v n⟩

set_option maxHeartbeats 800000 in
theorem settle_any {w : World} {B b i n : Nat} {d : Ds} {f : Fv} (h : Rep w B b d) (hl : d.pieces.length ≤ 100000) (_hll : d.files.length ≤ 1000) (hf : d.files[i]? = some f) (hn : n ≤ f.bytes.length) (_hbl : f.bytes.length ≤ 100000) :
    Calls Tryz.prog 89 #[.pointer (some ⟨b, 0, none⟩), .int .i64 (i : Int), .int .i64 (n : Int)] w fun e w' => e = .returned (.tuple #[]) ∧ ∃ v', v'.ownBlock = d.vp.ownBlock ∧
      Rep w' B b { d with files := d.files.set i (f.settled n), pieces := keepOf f.name d.pieces, vp := v' } ∧ Step (d.foot b) (d.foot b) w w' := by
  have hi : i < d.files.length := (List.getElem?_eq_some_iff.1 hf).1
  obtain ⟨g, cap, ev, hcap, hcm, hg⟩ := h.vf_form hf
  obtain ⟨e0, e1, e2⟩ := h.fcells hf hg
  have c0 := h.c0
  have f1 := own_frozen h.tab hg (i * 3 + 1)
  have f2 := own_frozen h.tab hg (i * 3 + 2)
  have hrow := h.rows f (List.mem_of_getElem? hf)
  obtain ⟨hcut, hcb⟩ := own_cutV hrow n hn
  have ht := own_set (own_set h.tab hg (i * 3 + 1) (by omega) (cutV f.v n)) hg (i * 3 + 2) (by omega) (.int .i64 (n : Int))
  have hfs := flat_set d.files i f (f.settled n) hf rfl
  have hSF : Aside (Rep ((w.setCell ⟨g, i * 3 + 1, none⟩ (cutV f.v n)).setCell ⟨g, i * 3 + 2, none⟩ (.int .i64 (n : Int))) B b { d with files := d.files.set i (f.settled n) } ∧ Step (d.foot b) (d.foot b) w ((w.setCell ⟨g, i * 3 + 1, none⟩ (cutV f.v n)).setCell ⟨g, i * 3 + 2, none⟩ (.int .i64 (n : Int)))) := by
    refine h.setFile hf hg ?_ ?_ hcb ?_
    · rw [hfs]; exact ht
    · exact grown_set (grown_set ⟨rfl, rfl, rfl, Nat.le_refl _, fun _ _ _ => rfl⟩ _ _) _ _
    · rw [bcells_take] at hcut
      have : (f.bytes.take n).length = n := by rw [List.length_take]; omega
      show w.ownsRow B 5 1 (cutV f.v n) (f.bytes.take n).length (bcells (f.bytes.take n))
      rw [this]
      exact hcut
  have kf : Aside (∀ u : World, Rep u B b { d with files := d.files.set i (f.settled n) } → _) := fun (u : World) hu => forget_any (d := { d with files := d.files.set i (f.settled n) }) hu hl f.name
  obtain ⟨a, c, ea⟩ := own_any hrow
  have hac : f.bytes.length ≤ c ∧ c ≤ 9223372036854775807 ∧ (a = none → f.bytes.length = 0 ∧ c = 0) := by
    rcases hrow.2 with ⟨e, e'⟩ | ⟨g', cap', cur, e, _, _, h3, h4, _⟩
    · rw [ea] at e
      injection e with e1 e2 e3
      omega
    · rw [ea] at e
      injection e with e1 e2 e3
      subst e3
      refine ⟨h3, by unfold maxLen at h4; omega, fun e => ?_⟩
      rw [e] at e1
      cases e1
  obtain ⟨hc1, hc2, hc3⟩ := hac
  have hcv : cutV f.v n = .slice a n c := by rw [ea]; rfl
  rw [hcv] at hSF
  rw [ea] at e1
  rw [ev] at c0
  have hnc : n ≤ c := by omega
  have FO : Aside (Ds.foot b { d with files := d.files.set i (f.settled n) } = d.foot b) := by
    show Ds.foot b _ = _
    unfold Ds.foot
    simp only
    rw [flatMap_set_same (fun f => ob f.v) d.files i f (f.settled n) hf (by show ob (cutV f.v n) = ob f.v; unfold ob; rw [hcb])]
  clear h ht hfs hrow hcut hcb hcv hf ea ev
  have hnm : ((w.setCell ⟨g, i * 3 + 1, none⟩ (.slice a n c)).setCell ⟨g, i * 3 + 2, none⟩ (.int .i64 (n : Int))).cell? ⟨g, i * 3, none⟩ = some (.string f.name) := by
    rw [World.cell?_setCell_other _ _ _ _ (by simp), World.cell?_setCell_other _ _ _ _ (by simp)]
    exact e0
  cases a with
  | none =>
    obtain ⟨h1, h2⟩ := hc3 rfl
    obtain rfl : n = 0 := by omega
    subst h2
    go_enter Tryz.func89, Tryz.ntmps89
    go_wp2_with (go_at_call 108; refine (kf.out _ hSF.out.1).mono ?_; rintro e w2 ⟨rfl, v', hv, hr, hs⟩)
    go_end0
    rw [FO.out] at hs
    exact ⟨rfl, v', hv, hr, hSF.out.2.trans hs⟩
  | some ad =>
    go_enter Tryz.func89, Tryz.ntmps89
    go_wp2_with (go_at_call 108; refine (kf.out _ hSF.out.1).mono ?_; rintro e w2 ⟨rfl, v', hv, hr, hs⟩)
    go_end0
    rw [FO.out] at hs
    exact ⟨rfl, v', hv, hr, hSF.out.2.trans hs⟩
end Go.Proofs.YtajjcfacbnicnaaGreatDoor.Dk
