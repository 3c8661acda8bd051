/-
  A text with its end, as the document has it.
-/
import Derived.Test.YtkijglkjpgjdaaaDoorHW10
import Derived.Laws.IdiomStrings
import Derived.ArgAppend
namespace Go.Proofs.YtkijglkjpgjdaaaDoor.Ha
open Go.RowKit

/-- A slice of bytes in memory of the call's own: what it holds, and the spare behind. -/
structure Own (w : World) (base g cap : Nat) (l : List Nat) : Prop where
  lo : base ≤ g
  hi : g < w.heap.size
  le : l.length ≤ cap
  cell : ∀ j, j < l.length → w.cell? ⟨g, j, none⟩ = some (.int .u8 ((l.getD j 0 : Nat) : Int))
  spare : ∀ j, l.length ≤ j → j < cap → (w.cell? ⟨g, j, none⟩).isSome = true ∧ w.frozen? ⟨g, j, none⟩ = false

theorem nums_at (l : List Nat) (j : Nat) (v : Value) (h : (nums l)[j]? = some v) : j < l.length ∧ v = .int .u8 ((l.getD j 0 : Nat) : Int) := by
  have hj : j < l.length := by simpa [nums] using (List.getElem?_eq_some_iff.1 h).1
  refine ⟨hj, ?_⟩
  simp [nums, hj] at h
  simp [List.getD, hj, h]

theorem Own.below {w w' : World} {base g cap N : Nat} {l : List Nat} (h : Own w base g cap l) (hb : Below N w w') (hN : g < N) : Own w' base g cap l :=
  ⟨h.lo, Nat.lt_of_lt_of_le h.hi hb.size, h.le, fun j hj => (hb.cell (p := ⟨g, j, none⟩) hN).trans (h.cell j hj), fun j h1 h2 => by
    have := h.spare j h1 h2
    rw [hb.cell (p := ⟨g, j, none⟩) hN, hb.frozen (p := ⟨g, j, none⟩) hN]
    exact this⟩
theorem Own.alloc {w : World} {base g cap : Nat} {l : List Nat} (h : Own w base g cap l) (o : Obj) : Own (w.alloc o) base g cap l :=
  h.below ((Below.refl w.heap.size w).alloc (Nat.le_refl _) o) h.hi
theorem Own.drew {w : World} {base g cap : Nat} {l : List Nat} (h : Own w base g cap l) : Own w.drew base g cap l := ⟨h.lo, h.hi, h.le, h.cell, h.spare⟩

theorem Own.put {w : World} {base g cap : Nat} {l : List Nat} (h : Own w base g cap l) (x : Nat) (hr : l.length + 1 ≤ cap) : Own (w.setCell ⟨g, l.length, none⟩ (.int .u8 (x : Int))) base g cap (l ++ [x]) := by
  obtain ⟨u, hu⟩ := Option.isSome_iff_exists.1 (h.spare l.length (Nat.le_refl _) (by omega)).1
  refine ⟨h.lo, by rw [size_setCell]; exact h.hi, by simpa using hr, fun j hj => ?_, fun j h1 h2 => ?_⟩
  · by_cases e : j = l.length
    · subst e
      rw [World.cell?_setCell_same _ _ _ hu]
      simp [List.getD]
    · have hj' : j < l.length := by simp at hj; omega
      rw [World.cell?_setCell_other _ _ _ _ (fun h => e (Addr.mk.inj h).2.1.symm), h.cell j hj']
      simp [List.getD, hj', List.getElem?_append_left hj']
  · have h1' : l.length + 1 ≤ j := by simpa using h1
    have h3 := h.spare j (by omega) h2
    rw [World.cell?_setCell_other _ _ _ _ (fun h => by have := (Addr.mk.inj h).2.1; omega), World.frozen?_setCell]
    exact h3

theorem Own.of_row {w : World} {base g cap : Nat} {l : List Nat} {n : Nat} {cur : Array Value} (hb : base ≤ g) (hh : w.heap[g]? = some (.cells cur 5 (0, 0))) (hc : n ≤ cap) (hs : cur.size = cap * 1) (ht : cur.toList.take (n * 1) = nums l) (hl : l.length = n) : Own w base g cap l := by
  subst hl
  have hlt : g < w.heap.size := (Array.getElem?_eq_some_iff.1 hh).1
  refine ⟨hb, hlt, hc, fun j hj => ?_, fun j h1 h2 => ?_⟩
  · rw [cell_of_row w g j cur 5 (0, 0) hh]
    have h3 : (cur.toList.take (l.length * 1))[j]? = (nums l)[j]? := by rw [ht]
    rw [List.getElem?_take_of_lt (by omega)] at h3
    rw [← Array.getElem?_toList, h3]
    simp [nums, hj]
  · rw [cell_of_row w g j cur 5 (0, 0) hh, frozen_of_row w g j cur 5 hh]
    refine ⟨?_, rfl⟩
    have : j < cur.size := by omega
    simp [this]

/-- One byte more. -/
theorem append_one {w : World} {ops : Array Oper} {rest : List Oper} {o : Oper} {a : Act} {Q : Exit → Act → World → Prop} (hgd : o.guard = none) (s x : Operand)
    (ho : o.op = .call { callee := .builtin .append, args := #[s, x], argTypes := #[41, 41] })
    (base g cap : Nat) (l : List Nat) (n : Nat) (hn : l.length = n) (hs : a.eval s = .slice (some ⟨g, 0, none⟩) n cap) (hown : Own w base g cap l) (hb : base ≤ w.heap.size) (hl : n ≤ 1000000000)
    (b y : Nat) (hx : a.eval x = .slice (some ⟨b, 0, none⟩) 1 1) (hy : w.cell? ⟨b, 0, none⟩ = some (.int .u8 (y : Int)))
    (h : ∀ g' cap' w', Own w' base g' cap' (l ++ [y]) → Below base w w' → wpList Tryd.prog ops Q rest (a.put o.dst (.slice (some ⟨g', 0, none⟩) (n + 1) cap')) w') : wpList Tryd.prog ops Q (o :: rest) a w := by
  subst hn
  obtain ⟨i0, hi, hz0, hz1, hz2⟩ := info_parts info5
  refine wpList_append_arg w hgd s x 41 ho 5 i0 (.int .u8 0) 1 1 Tryd.underlying41 hi hz0 hz1 hz2 rfl (by decide) g 0 l.length cap (nums l) hs (by simp [nums]) (fun j u hu => ?_) ⟨b, 0, none⟩ 1 1 [.int .u8 (y : Int)] hx rfl (fun j u hu => ?_) (fun u hu => ?_) (fun hr j hj => ?_) ?_ ?_ (fun hr => ?_) (fun hr v' w' hown' hgrow => ?_)
  · obtain ⟨h1, rfl⟩ := nums_at l j u hu
    rw [Nat.zero_add]
    exact hown.cell j h1
  · have hj : j < 1 := (List.getElem?_eq_some_iff.1 hu).1
    obtain rfl : j = 0 := by omega
    simp at hu
    subst hu
    exact hy
  · simp at hu
    subst hu
    rfl
  · have hj : j < 1 := hj
    obtain rfl : j = 0 := by omega
    simp only [Nat.zero_add, Nat.mul_one, Nat.add_zero]
    exact hown.spare l.length (Nat.le_refl _) (by omega)
  · unfold maxLen
    omega
  · omega
  · have := h g cap _ (hown.put y hr) ((Below.refl base w).setCell (by exact hown.lo) _)
    simp only [Nat.zero_add, Nat.mul_one]
    exact this
  · obtain ⟨_, h2⟩ := hown'
    rcases h2 with ⟨_, h0⟩ | ⟨g', cap', cur, rfl, hg', hh, hc, _, hsz, ht⟩
    · omega
    · refine h g' cap' w' (Own.of_row (Nat.le_trans hb hg') hh hc hsz ?_ (by simp)) ((Below.refl base w).grown hgrow hb (fun k hk => by cases hk))
      rw [ht]
      exact nums_append l [y]
theorem Own.of_string (w : World) (s : ByteArray) : Own (w.drew.alloc (.cells (bytesRow s (grownCap w s.size 0 5)) 5 ((bytesRow s (grownCap w s.size 0 5)).size, (bytesRow s (grownCap w s.size 0 5)).size + 1))) w.heap.size w.heap.size (grownCap w s.size 0 5) (bytes s) := by
  have hge := grownCap_ge w s.size 0 5
  generalize grownCap w s.size 0 5 = cap at hge ⊢
  have hsz : (bytesRow s cap).size = cap := by
    unfold bytesRow
    simp
    have : s.size = s.data.size := rfl
    omega
  refine ⟨Nat.le_refl _, by rw [size_alloc]; exact Nat.lt_succ_self _, by rw [bytes_len]; exact hge, fun j hj => ?_, fun j h1 h2 => ?_⟩
  · have hj' : j < s.data.size := by rw [bytes_len] at hj; exact hj
    have h1 : (w.drew.alloc (.cells (bytesRow s cap) 5 ((bytesRow s cap).size, (bytesRow s cap).size + 1))).cell? ⟨w.heap.size, j, none⟩ = (bytesRow s cap)[j]? := World.cell?_alloc_mark w.drew _ _ _ j
    rw [h1, bytesRow_at s cap j hj']
    simp [bytes, List.getD, Array.getElem?_eq_getElem hj']
  · have h1 : (w.drew.alloc (.cells (bytesRow s cap) 5 ((bytesRow s cap).size, (bytesRow s cap).size + 1))).cell? ⟨w.heap.size, j, none⟩ = (bytesRow s cap)[j]? := World.cell?_alloc_mark w.drew _ _ _ j
    have h2' : (w.drew.alloc (.cells (bytesRow s cap) 5 ((bytesRow s cap).size, (bytesRow s cap).size + 1))).frozen? ⟨w.heap.size, j, none⟩ = (decide ((bytesRow s cap).size ≤ j) && decide (j < (bytesRow s cap).size + 1)) := World.frozen?_alloc_mark w.drew _ _ _ _ j
    rw [h1, h2', hsz, decide_eq_false (by omega)]
    refine ⟨?_, rfl⟩
    have : j < (bytesRow s cap).size := by omega
    simp [this]

theorem Own.str {w : World} {base g cap : Nat} {l : List Nat} (h : Own w base g cap l) (n : Nat) (hn : l.length = n) : (convert 41 9 (.slice (some ⟨g, 0, none⟩) n cap)).run Tryd.prog w = .ok (.string (strOf l)) w := by
  rw [← strOf_nums]
  refine run_convert_bytes_arg w 41 5 Tryd.underlying41 Tryd.underlying5 g 0 n cap _ (by simpa using hn) (fun i hi => ?_) 9 Tryd.underlying9
  rw [Nat.zero_add, h.cell i (by omega)]
  have hi' : i < l.length := by omega
  simp [List.getD, hi']

set_option maxHeartbeats 1600000 in
set_option maxRecDepth 100000 in
theorem padded_any (s : ByteArray) (w : World) (hs : s.size ≤ 100000) :
    Calls Tryd.prog 57 #[.string s] w fun e w' => e = .returned (.string (strOf (Sh.padded (bytes s)))) ∧ Below w.heap.size w w' := by
  have hcv := run_bytes_of_string (P := Tryd.prog) w 9 41 5 s Tryd.underlying9 Tryd.underlying41 Tryd.underlying5
  have HO : Aside (Own (w.drew.alloc (.cells (bytesRow s (grownCap w s.size 0 5)) 5 ((bytesRow s (grownCap w s.size 0 5)).size, (bytesRow s (grownCap w s.size 0 5)).size + 1))) w.heap.size w.heap.size (grownCap w s.size 0 5) (bytes s) ∧
      Below w.heap.size w (w.drew.alloc (.cells (bytesRow s (grownCap w s.size 0 5)) 5 ((bytesRow s (grownCap w s.size 0 5)).size, (bytesRow s (grownCap w s.size 0 5)).size + 1)))) := ⟨Own.of_string w s, (Below.refl _ _).drew.alloc (Nat.le_refl _) _⟩
  generalize w.drew.alloc (.cells (bytesRow s (grownCap w s.size 0 5)) 5 ((bytesRow s (grownCap w s.size 0 5)).size, (bytesRow s (grownCap w s.size 0 5)).size + 1)) = w0 at hcv HO
  generalize grownCap w s.size 0 5 = cap at hcv HO
  go_enter Tryd.func57, Tryd.ntmps57
  go_wp2_with (at_builtin; refine append_one rfl (.tmp 8) (.tmp 9) rfl w.heap.size w.heap.size cap (bytes s) s.size (bytes_len s) rfl (HO.out.1.alloc _) ?c1 (by omega) w0.heap.size 128 rfl ?c2 ?_)
  case c1 => have := HO.out.2.size; rw [size_alloc]; omega
  case c2 => exact (Blk.new w0 5 #[.int .u8 128]).cell rfl
  intro g1 cap1 w1 hO1 hB1
  have HA : Aside (Own w1 w.heap.size g1 cap1 (bytes s ++ [128] ++ List.replicate 0 0) ∧ Below w.heap.size w w1) := by
    refine ⟨?_, (HO.out.2.alloc HO.out.2.size _).trans hB1⟩
    simpa using hO1
  clear hO1 hB1 HO hcv
  go_wp2
  have hzl := Sh.zs_lt s.size
  go_loopg [3] 64 (fun gh s3 wr => ∃ k g cap : Nat, Sh.zs s.size - k ≤ gh ∧ k ≤ Sh.zs s.size ∧ s3 = .slice (some ⟨g, 0, none⟩) (s.size + 1 + k) cap ∧ Own wr w.heap.size g cap (bytes s ++ [128] ++ List.replicate k 0) ∧ Below w.heap.size w wr)
  case atStart => exact ⟨0, g1, cap1, by omega, by omega, rfl, HA.out⟩
  case round =>
    clear HA
    obtain ⟨k, g, cap2, hgh, hk, rfl, h1, h2⟩ := hrel
    obtain ⟨m, hm⟩ : ∃ m, m = s.size + 1 + k := ⟨_, rfl⟩
    have hlen : (bytes s ++ [128] ++ List.replicate k 0).length = m := by simp [bytes_len, hm]; omega
    rw [← hm]
    have hml : m ≤ 200000 := by omega
    by_cases hlt : k < Sh.zs s.size
    · have d1 : (((m : Int) % 64) != 56) = true := by
        have := Sh.zs_least s.size k hlt
        rw [bne_iff_ne]
        omega
      obtain ⟨L, hL⟩ : ∃ L, L = bytes s ++ [128] ++ List.replicate k 0 := ⟨_, rfl⟩
      rw [← hL] at h1 hlen
      have H : Aside (m = s.size + 1 + k ∧ Own wr w.heap.size g cap2 L ∧ Below w.heap.size w wr ∧ L = bytes s ++ [128] ++ List.replicate k 0) := ⟨hm, h1, h2, hL⟩
      have HL : Aside (L.length = m) := hlen
      clear h1 h2 hm hlen hL
      go_wp2_with (at_builtin; refine append_one rfl (.tmp 15) (.tmp 16) rfl w.heap.size g cap2 L m HL.out rfl (H.out.2.1.alloc _) ?c1 (by omega) wr.heap.size 0 rfl ?c2 ?_)
      case c1 => have := H.out.2.2.1.size; rw [size_alloc]; omega
      case c2 => exact (Blk.new wr 5 #[.int .u8 0]).cell rfl
      intro g2 cap3 w2 hO2 hB2
      have R : Aside (m = s.size + 1 + k ∧ Own w2 w.heap.size g2 cap3 (bytes s ++ [128] ++ List.replicate (k + 1) 0) ∧ Below w.heap.size w w2) := by
        refine ⟨H.out.1, ?_, (H.out.2.2.1.alloc H.out.2.2.1.size _).trans hB2⟩
        rw [H.out.2.2.2, List.append_assoc, ← List.replicate_succ'] at hO2
        exact hO2
      clear hO2 hB2 H HL
      go_wp2
      go_roundg (Sh.zs s.size - (k + 1))
      case measure => omega
      case rel =>
        obtain ⟨z1, z2, z3⟩ := R.out
        exact ⟨k + 1, g2, cap3, Nat.le_refl _, by omega, by rw [z1, Nat.add_assoc (s.size + 1)], z2, z3⟩
    · obtain rfl : k = Sh.zs s.size := by omega
      have d1 : (((m : Int) % 64) != 56) = false := by
        have := Sh.zs_is s.size
        rw [bne_eq_false_iff_eq]
        omega
      have H : Aside (Own wr w.heap.size g cap2 (bytes s ++ [128] ++ List.replicate (Sh.zs s.size) 0 ++ Sh.be (8 * s.size) 0) ∧ Below w.heap.size w wr) := by
        refine ⟨?_, h2⟩
        have e : Sh.be (8 * s.size) 0 = [] := rfl
        rw [e, List.append_nil]
        exact h1
      have HL : Aside ((bytes s ++ [128] ++ List.replicate (Sh.zs s.size) 0).length = m) := hlen
      clear h1 h2 hm hlen hzl hlt hgh hk
      go_wp2
      clear d1
      go_loopg [3, 5] 8 (fun gh s3 s5 wr => ∃ k g cap : Nat, 8 - k ≤ gh ∧ k ≤ 8 ∧ s3 = .slice (some ⟨g, 0, none⟩) (m + k) cap ∧ s5 = .int .i64 (7 - (k : Int)) ∧ Own wr w.heap.size g cap (bytes s ++ [128] ++ List.replicate (Sh.zs s.size) 0 ++ Sh.be (8 * s.size) k) ∧ Below w.heap.size w wr)
      case atStart => exact ⟨0, g, cap2, by omega, by omega, rfl, rfl, H.out⟩
      case round =>
        clear H
        obtain ⟨k, g, cap2, hgh, hk, rfl, rfl, h1, h2⟩ := hrel
        have hlen : (bytes s ++ [128] ++ List.replicate (Sh.zs s.size) 0 ++ Sh.be (8 * s.size) k).length = m + k := by rw [List.length_append, HL.out, Sh.be_len]
        by_cases hlt : k < 8
        · obtain ⟨j, hj⟩ : ∃ j, j = 7 - k := ⟨_, rfl⟩
          have hj1 : (7 : Int) - (k : Int) = (j : Int) := by omega
          have d1 : decide (0 ≤ (j : Int)) = true := by simp
          obtain ⟨x, hx⟩ : ∃ x, x = 8 * s.size / 2 ^ (56 - 8 * k) % 256 := ⟨_, rfl⟩
          have hv : (s.size : Int) * 8 / 2 ^ (8 * j) % 256 = (x : Int) := by
            rw [hx, Nat.mul_comm 8 s.size, show 56 - 8 * k = 8 * j by omega]
            simp
          obtain ⟨L, hL⟩ : ∃ L, L = bytes s ++ [128] ++ List.replicate (Sh.zs s.size) 0 ++ Sh.be (8 * s.size) k := ⟨_, rfl⟩
          rw [← hL] at h1 hlen
          have H : Aside (j = 7 - k ∧ x = 8 * s.size / 2 ^ (56 - 8 * k) % 256 ∧ Own wr w.heap.size g cap2 L ∧ Below w.heap.size w wr ∧ L = bytes s ++ [128] ++ List.replicate (Sh.zs s.size) 0 ++ Sh.be (8 * s.size) k) := ⟨hj, hx, h1, h2, hL⟩
          have HM : Aside (L.length = m + k) := hlen
          have hj7 : j ≤ 7 := by omega
          rw [hj1]
          clear h1 h2 hlen hx hj hj1 hL
          go_wp2_with (at_builtin; refine append_one rfl (.tmp 26) (.tmp 32) rfl w.heap.size g cap2 L (m + k) HM.out rfl (H.out.2.2.1.alloc _) ?c1 (by omega) wr.heap.size x rfl ?c2 ?_)
          case c1 => have := H.out.2.2.2.1.size; rw [size_alloc]; omega
          case c2 => exact (Blk.new wr 5 #[.int .u8 (x : Int)]).cell rfl
          intro g2 cap3 w2 hO2 hB2
          have R : Aside (j = 7 - k ∧ Own w2 w.heap.size g2 cap3 (bytes s ++ [128] ++ List.replicate (Sh.zs s.size) 0 ++ Sh.be (8 * s.size) (k + 1)) ∧ Below w.heap.size w w2) := by
            obtain ⟨z1, z2, z3, z4, z5⟩ := H.out
            refine ⟨z1, ?_, (z4.alloc z4.size _).trans hB2⟩
            rw [z5, List.append_assoc, z2, ← Sh.be_succ] at hO2
            exact hO2
          clear hO2 hB2 H HM hv
          go_wp2
          go_roundg (8 - (k + 1))
          case measure => omega
          case rel =>
            obtain ⟨z1, z2, z3⟩ := R.out
            exact ⟨k + 1, g2, cap3, Nat.le_refl _, by omega, by rw [Nat.add_assoc m], by refine congrArg (Value.int IntKind.i64) ?_; omega, z2, z3⟩
        · obtain rfl : k = 8 := by omega
          have d1 : decide ((0 : Int) ≤ 7 - ((8 : Nat) : Int)) = false := by decide
          have hcv := h1.str (m + 8) hlen
          have e : bytes s ++ [128] ++ List.replicate (Sh.zs s.size) 0 ++ Sh.be (8 * s.size) 8 = Sh.padded (bytes s) := by
            unfold Sh.padded
            rw [bytes_len]
          rw [e] at hcv
          have H : Aside (Below w.heap.size w wr) := h2
          clear h1 h2 hlen e HL
          go_wp2
          go_ret
          exact ⟨rfl, H.out⟩
end Go.Proofs.YtkijglkjpgjdaaaDoor.Ha
