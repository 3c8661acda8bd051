/-
  The signs of a text, the last one first.
-/
import Derived.Test.YtacipegcenfbeaaR2
import Derived.Laws.Cover4
namespace Go.Proofs.Ytacipegcenfbeaa
open Go.RowKit

/-- Signs as cells. -/
def cellsR (l : List Int) : List Value := l.map fun u => Value.int .i32 u

/-- Behind k rounds of a reversal. -/
def Rv (l cur : List Int) (k : Nat) : Prop := cur.length = l.length ∧ ∀ j, j < l.length → cur[j]? = if j < k ∨ l.length - k ≤ j then l[l.length - 1 - j]? else l[j]?

theorem rv_zero (l : List Int) : Rv l l 0 := by
  refine ⟨rfl, fun j hj => ?_⟩
  rw [if_neg (by omega)]

theorem rv_step {l cur : List Int} {k : Nat} (h : Rv l cur k) (hk : k < l.length - 1 - k) (x y : Int) (hx : cur[l.length - 1 - k]? = some x) (hy : cur[k]? = some y) :
    Rv l ((cur.set k x).set (l.length - 1 - k) y) (k + 1) := by
  obtain ⟨h1, h2⟩ := h
  refine ⟨by simp [h1], fun j hj => ?_⟩
  rw [List.getElem?_set, List.getElem?_set]
  by_cases e1 : l.length - 1 - k = j
  · rw [if_pos e1, if_pos (by rw [List.length_set]; omega), if_pos (by omega)]
    rw [h2 k (by omega), if_neg (by omega)] at hy
    rw [← hy]
    congr 1
    omega
  · rw [if_neg e1]
    by_cases e2 : k = j
    · rw [if_pos e2, if_pos (by omega), if_pos (by omega)]
      rw [h2 _ (by omega), if_neg (by omega)] at hx
      rw [← hx]
      congr 1
      omega
    · rw [if_neg e2, h2 j hj]
      by_cases e3 : j < k ∨ l.length - k ≤ j
      · rw [if_pos e3, if_pos (by omega)]
      · rw [if_neg e3, if_neg (by omega)]

theorem rv_end {l cur : List Int} {k : Nat} (h : Rv l cur k) (hk : ¬ k < l.length - 1 - k) : cur = l.reverse := by
  obtain ⟨h1, h2⟩ := h
  apply List.ext_getElem?
  intro j
  by_cases hj : j < l.length
  · rw [h2 j hj, List.getElem?_reverse hj]
    by_cases e3 : j < k ∨ l.length - k ≤ j
    · rw [if_pos e3]
    · rw [if_neg e3]
      congr 1
      omega
  · rw [List.getElem?_eq_none (by omega), List.getElem?_eq_none (by simp; omega)]

theorem cellsR_get (l : List Int) (j : Nat) (x : Int) (h : l[j]? = some x) : (cellsR l)[j]? = some (.int .i32 x) := by
  simp [cellsR, h]

theorem cellsR_set (l : List Int) (j : Nat) (x : Int) : (cellsR l).set j (.int .i32 x) = cellsR (l.set j x) := by
  simp [cellsR, List.map_set]

theorem cellsR_snoc (l : List Int) (x : Int) : cellsR l ++ [.int .i32 x] = cellsR (l ++ [x]) := by
  simp [cellsR]

set_option maxHeartbeats 1600000 in
set_option maxRecDepth 1000000 in
theorem rev_some (base g cap : Nat) (l : List Int) (w : World) (hown : w.ownsRow base 21 1 (.slice (some ⟨g, 0, none⟩) l.length cap) l.length (cellsR l)) (hn : l.length ≤ 1000000) (hg : base ≤ g) :
    Calls Try.prog 30 #[.slice (some ⟨g, 0, none⟩) l.length cap] w fun e w' => e = .returned (.tuple #[]) ∧ w'.ownsRow base 21 1 (.slice (some ⟨g, 0, none⟩) l.length cap) l.length (cellsR l.reverse) ∧ Below base w w' := by
  go_enter Try.func30, Try.ntmps30
  go_wp2
  go_loopg [2, 3] l.length (fun m s2 s3 wr => ∃ (k : Nat) (cur : List Int), s2 = .int .i64 k ∧ s3 = .int .i64 ((l.length : Int) - 1 - k) ∧ k ≤ l.length ∧ l.length - k ≤ m ∧ Rv l cur k ∧
    wr.ownsRow base 21 1 (.slice (some ⟨g, 0, none⟩) l.length cap) l.length (cellsR cur) ∧ Below base w wr)
  case atStart => exact ⟨0, l, rfl, by simp, by omega, by omega, rv_zero l, hown, Below.refl _ _⟩
  case round =>
    obtain ⟨k, cur, rfl, rfl, hkl, hm, hrv, hownr, hbel⟩ := hrel
    by_cases hlt : (k : Int) < (l.length : Int) - 1 - k
    · obtain ⟨jn, hjn⟩ : ∃ jn : Nat, jn = l.length - 1 - k := ⟨_, rfl⟩
      have hj1 : ((l.length : Int) - 1 - k) = (jn : Int) := by omega
      have hkj : k < jn := by omega
      have hjl : jn < l.length := by omega
      obtain ⟨x, hx⟩ : ∃ x, cur[jn]? = some x := ⟨cur[jn]'(by have := hrv.1; omega), List.getElem?_eq_getElem _⟩
      obtain ⟨y, hy⟩ : ∃ y, cur[k]? = some y := ⟨cur[k]'(by have := hrv.1; omega), List.getElem?_eq_getElem _⟩
      have cj : wr.cell? ⟨g, jn, none⟩ = some (.int .i32 x) := by rw [hownr.cellAt jn (by omega)]; exact cellsR_get cur jn x hx
      have ck : wr.cell? ⟨g, k, none⟩ = some (.int .i32 y) := by rw [hownr.cellAt k (by omega)]; exact cellsR_get cur k y hy
      have fj := hownr.frozenAt jn
      have fk := hownr.frozenAt k
      have st := rv_step hrv (by omega) x y (by rw [← hjn]; exact hx) hy
      rw [← hjn] at st
      have o1 := (hownr.stored k (.int .i32 x)).1
      have o2 := (o1.stored jn (.int .i32 y)).1
      rw [cellsR_set, cellsR_set] at o2
      have A : Aside (Rv l ((cur.set k x).set jn y) (k + 1) ∧ ((wr.setCell ⟨g, k, none⟩ (.int .i32 x)).setCell ⟨g, jn, none⟩ (.int .i32 y)).ownsRow base 21 1 (.slice (some ⟨g, 0, none⟩) l.length cap) l.length (cellsR ((cur.set k x).set jn y)) ∧
        Below base w ((wr.setCell ⟨g, k, none⟩ (.int .i32 x)).setCell ⟨g, jn, none⟩ (.int .i32 y)) ∧ jn = l.length - 1 - k) :=
        ⟨st, o2, (hbel.setCell (by exact hg) _).setCell (by exact hg) _, hjn⟩
      rw [hj1]
      clear st o1 o2 hrv hownr hbel hx hy hjn hj1 hlt hown
      go_wp2_with fail
      go_region
      go_wp2
      go_roundg (l.length - (k + 1))
      case measure => omega
      case rel =>
        obtain ⟨a1, a2, a3, a4⟩ := A.out
        exact ⟨k + 1, _, by go_num, by go_num, by omega, by omega, a1, a2.drew, a3.drew⟩
    · go_wp2
      go_end0
      have e := rv_end hrv (by omega)
      subst e
      exact ⟨rfl, hownr, hbel⟩

theorem rev_none (w : World) : Calls Try.prog 30 #[.slice none 0 0] w fun e w' => e = .returned (.tuple #[]) ∧ w' = w := by
  go_enter Try.func30, Try.ntmps30
  go_wp2
  go_loopg [2, 3] 0 (fun _ s2 s3 wr => s2 = .int .i64 0 ∧ s3 = .int .i64 (-1) ∧ wr = w)
  case atStart => exact ⟨rfl, rfl, rfl⟩
  case round =>
    obtain ⟨rfl, rfl, rfl⟩ := hrel
    go_wp2
    go_end0
    exact ⟨rfl, rfl⟩

theorem rev_any (base : Nat) (v : Value) (l : List Int) (w : World) (hown : w.ownsRow base 21 1 v l.length (cellsR l)) (hn : l.length ≤ 1000000) :
    Calls Try.prog 30 #[v] w fun e w' => e = .returned (.tuple #[]) ∧ w'.ownsRow base 21 1 v l.length (cellsR l.reverse) ∧ Below base w w' := by
  rcases hown.2 with ⟨rfl, h0⟩ | ⟨g, cap, cur, rfl, hg, _⟩
  · refine (rev_none w).mono ?_
    rintro e w' ⟨rfl, rfl⟩
    have : l = [] := List.eq_nil_of_length_eq_zero h0
    subst this
    exact ⟨rfl, hown, Below.refl _ _⟩
  · exact rev_some base g cap l w hown hn hg

theorem encode_eq (n : Int) : Utf8.encode n = ⟨(Lib.encodeRune n).toArray⟩ := by
  unfold Utf8.encode Lib.encodeRune
  by_cases hv : Utf8.valid n = true
  · have hv' : (0 ≤ n ∧ n < 55296) ∨ (57344 ≤ n ∧ n ≤ 1114111) := by simpa [Utf8.valid] using hv
    simp only [hv, if_true]
    by_cases h1 : n ≤ 127
    · rw [Lib.encodeRuneZ_one (by omega) h1, if_pos (by omega)]
      rfl
    · rw [if_neg (by omega)]
      by_cases h2 : n ≤ 2047
      · rw [Lib.encodeRuneZ_two (by omega) h2, if_pos (by omega)]
        have e0 : (192 + n / 64).toNat = 192 + n.toNat / 64 := by omega
        have e1 : (128 + n % 64).toNat = 128 + n.toNat % 64 := by omega
        simp only [List.map_cons, List.map_nil, e0, e1]
      · rw [if_neg (by omega)]
        by_cases h3 : n ≤ 65535
        · rw [Lib.encodeRuneZ_three (by omega), if_pos (by omega)]
          have e0 : (224 + n / 4096).toNat = 224 + n.toNat / 4096 := by omega
          have e1 : (128 + n / 64 % 64).toNat = 128 + n.toNat / 64 % 64 := by omega
          have e2 : (128 + n % 64).toNat = 128 + n.toNat % 64 := by omega
          simp only [List.map_cons, List.map_nil, e0, e1, e2]
        · rw [Lib.encodeRuneZ_four (by omega) (by omega), if_neg (by omega)]
          have e0 : (240 + n / 262144).toNat = 240 + n.toNat / 262144 := by omega
          have e1 : (128 + n / 4096 % 64).toNat = 128 + n.toNat / 4096 % 64 := by omega
          have e2 : (128 + n / 64 % 64).toNat = 128 + n.toNat / 64 % 64 := by omega
          have e3 : (128 + n % 64).toNat = 128 + n.toNat % 64 := by omega
          simp only [List.map_cons, List.map_nil, e0, e1, e2, e3]
  · have hv' : ¬ ((0 ≤ n ∧ n < 55296) ∨ (57344 ≤ n ∧ n ≤ 1114111)) := by simpa [Utf8.valid] using hv
    rw [Lib.encodeRuneZ_bad (by omega)]
    simp only [if_neg hv]
    decide +kernel

theorem runesBytes_eq (l : List Int) : runesBytes l = ⟨(l.flatMap Lib.encodeRune).toArray⟩ := by
  have key : ∀ (l : List Int) (s : List UInt8), l.foldl (fun r n => r ++ Utf8.encode n) (⟨s.toArray⟩ : ByteArray) = ⟨(s ++ l.flatMap Lib.encodeRune).toArray⟩ := by
    intro l
    induction l with
    | nil => intro s; simp
    | cons n l ih =>
      intro s
      rw [List.foldl_cons, encode_eq, List.flatMap_cons, ← List.append_assoc, ← ih]
      congr 1
  exact key l []

theorem conv_runes (base : Nat) (v : Value) (l : List Int) (w : World) (hown : w.ownsRow base 21 1 v l.length (cellsR l)) :
    (convert 52 9 v).run Try.prog w = .ok (.string ⟨(l.flatMap Lib.encodeRune).toArray⟩) w := by
  rcases hown.2 with ⟨rfl, h0⟩ | ⟨g, cap, cur, rfl, hg, _⟩
  · have : l = [] := List.eq_nil_of_length_eq_zero h0
    subst this
    exact run_convert_runes_nil w 52 9 21 0 0 Try.underlying52 Try.underlying21 Try.underlying9
  · have := run_convert_runes w 52 9 21 ⟨g, 0, none⟩ l.length cap l (Nat.le_refl _) Try.underlying52 Try.underlying21 Try.underlying9 (fun j hj => by
      have e : (⟨g, 0, none⟩ : Addr).add j = ⟨g, j, none⟩ := by
        simp only [Addr.add, Nat.zero_add]
        split
        · rename_i h0; rw [h0]
        · rfl
      rw [e, hown.cellAt j (by omega)]
      simp [cellsR, List.getD, List.getElem?_eq_getElem hj])
    rw [List.take_length, runesBytes_eq] at this
    exact this

theorem info21 : (Try.prog.info? 21).map (fun i => (i.zero, i.size, i.bytes)) = some (some (.int .i32 0), 1, 4) := by kernel_rfl

/-- The signs from a place on as numbers. -/
def ints (l : List (Nat × Nat)) : List Int := l.map fun x => (x.1 : Int)

theorem turn_end (l : List (Nat × Nat)) : (ints l).reverse.flatMap Lib.encodeRune = Sg.turns l.reverse := by
  unfold ints Sg.turns
  rw [← List.map_reverse, List.flatMap_map]

set_option maxHeartbeats 1600000 in
set_option maxRecDepth 1000000 in
theorem turn_any (s : ByteArray) (w : World) (hs : s.size ≤ 200000) :
    Calls Try.prog 17 #[.string s] w fun e w' => e = .returned (.string ⟨(Sg.turned s).toArray⟩) ∧ Below w.heap.size w w' := by
  obtain ⟨i0, hi, hz0, hz1, hz2⟩ := info_parts info21
  go_enter Try.func17, Try.ntmps17
  go_wp2
  go_loopg [3] s.size (fun gh v wr => ∃ (p : Nat) (l : List Int), s.size - p ≤ gh ∧ wr.ownsRow (w.heap.size + 1) 21 1 v l.length (cellsR l) ∧ wr.heap[w.heap.size]? = some (.stringIter s p) ∧ Below w.heap.size w wr ∧ l ++ ints (Sg.fr s p) = ints (Sg.fr s 0) ∧ l.length ≤ p ∧ p ≤ s.size)
  case atStart =>
    exact ⟨0, [], by omega, World.ownsRow_nil _ _ _ _, World.iter_heap w s 0, below_iter w s 0, rfl, by simp, by omega⟩
  case round =>
    obtain ⟨p, l, hgh, hown, hit, hbw, hl, hlp, hps⟩ := hrel
    have hsz : w.heap.size < wr.heap.size := (Array.getElem?_eq_some_iff.1 hit).1
    by_cases hp : p < s.size
    · have hnx : ∀ ty, (Instr.next (.pointer (some ⟨w.heap.size, 0, none⟩)) true ty).run Try.prog wr = _ := fun ty => Lib.run_next_any_at wr w.heap.size s p ty hit hp
      have hwd := Sg.wd_pos s p
      have hwl := Sg.wd_le s p hp
      have hown2 := ownsRow_iterAt hown (k := w.heap.size) (by omega) s (p + (Utf8.decode s p).2)
      have hit2 := Lib.iterAt_heap wr w.heap.size s p (p + (Utf8.decode s p).2) hit
      have hbw2 := Lib.below_iterAt hbw (k := w.heap.size) (by omega) s (p + (Utf8.decode s p).2)
      have hsz2 : w.heap.size < (wr.iterAt w.heap.size s (p + (Utf8.decode s p).2)).heap.size := by rw [Lib.iterAt_size]; omega
      have hA : Aside (l ++ ints (Sg.fr s p) = ints (Sg.fr s 0)) := hl
      clear hl hown hit hbw
      generalize hw2 : wr.iterAt w.heap.size s (p + (Utf8.decode s p).2) = wi at *
      go_wp2_with (first
        | (at_builtin; refine wpList_append_own _ rfl (.tmp 11) (.tmp 13) 52 rfl (w.heap.size + 1) 21 i0 (.int .i32 0) 1 4 Try.underlying52 hi hz0 hz1 hz2 rfl (by decide) _ _ _ rfl (hown2.alloc _) ⟨wi.heap.size, 0, none⟩ 1 1 [.int .i32 ((Utf8.decode s p).1 : Int)] rfl rfl ?c1 ?c2 ?c3 ?c4 ?c5 ?_))
      case c1 => exact (cell_one_new _ _ _)
      case c2 => intro u hu; simp at hu; subst hu; rfl
      case c3 => unfold maxLen; omega
      case c4 => omega
      case c5 => simp; omega
      intro v' w1 hown' hgrow _
      go_wp2
      go_roundg (s.size - (p + Sg.wd s p))
      case measure => omega
      case rel =>
        refine ⟨p + Sg.wd s p, l ++ [((Utf8.decode s p).1 : Int)], Nat.le_refl _, ?_, ?_, ?_, ?_, by simp; omega, hwl⟩
        · rw [← cellsR_snoc, List.length_append]; exact hown'
        · rw [hgrow.block w.heap.size (by simp; omega) (fun e => by have := (hown2.lt _ e.symm).1; omega), Lib.alloc_old _ _ _ hsz2]
          exact hit2
        · exact ((hbw2.alloc (by omega) _).grown hgrow (by simp; omega) (fun k hk => by have := (hown2.lt k hk).1; omega))
        · rw [← hA.out, Sg.fr_step s p hp, List.append_assoc]
          rfl
    · have hnx : ∀ ty, (Instr.next (.pointer (some ⟨w.heap.size, 0, none⟩)) true ty).run Try.prog wr = _ := fun ty => Lib.run_next_end_at wr w.heap.size s p ty hit hp
      rw [Sg.fr_end s p hp] at hl
      simp only [ints, List.map_nil, List.append_nil] at hl
      have kr := rev_any (w.heap.size + 1) _ l wr hown (by omega)
      go_wp2_with (go_at_call 30; refine kr.mono ?_)
      rintro e W1 ⟨rfl, o1, b1⟩
      have kc := conv_runes (w.heap.size + 1) _ l.reverse W1 (by rw [List.length_reverse]; exact o1)
      go_wp2
      go_ret
      refine ⟨?_, hbw.trans (b1.mono (by omega))⟩
      exact congrArg (fun x => Ending.returned (.string ⟨List.toArray x⟩)) (turn_end (Sg.fr s 0))
end Go.Proofs.Ytacipegcenfbeaa
