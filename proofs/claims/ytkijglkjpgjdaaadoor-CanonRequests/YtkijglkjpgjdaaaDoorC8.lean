/-
  A path's parts, as the program reads them.
-/
import Derived.Test.YtkijglkjpgjdaaaDoorC7
import Derived.WalkSmall
namespace Go.Proofs.YtkijglkjpgjdaaaDoor
namespace Cn
theorem sp_len : ∀ t : List UInt8, (∀ p ∈ sp t, p.length ≤ t.length) ∧ (sp t).length ≤ t.length + 1
  | [] => by simp [sp]
  | b :: t => by
    obtain ⟨h1, h2⟩ := sp_len t
    by_cases hb : b = 47
    · subst hb
      rw [sp_slash]
      refine ⟨fun p hp => ?_, by simp; omega⟩
      rcases List.mem_cons.1 hp with rfl | hp
      · simp
      · have := h1 p hp; simp; omega
    · cases hs : sp t with
      | nil => exact absurd hs (sp_ne t)
      | cons q r =>
        rw [sp_other b t q r hb hs]
        rw [hs] at h1 h2
        refine ⟨fun p hp => ?_, by simp at h2 ⊢; omega⟩
        rcases List.mem_cons.1 hp with rfl | hp
        · have := h1 q (by simp); simp; omega
        · have := h1 p (by simp [hp]); simp; omega

/-- What is to be read, behind what was. -/
def allRest (good : List UInt8 → Bool) (L t : List (List UInt8)) : Option (List (List UInt8)) := (all good t).map (L ++ ·)
theorem allRest_start (good : List UInt8 → Bool) (t : List (List UInt8)) : allRest good [] t = all good t := by
  unfold allRest
  cases all good t <;> simp
theorem allRest_end (good : List UInt8 → Bool) (L : List (List UInt8)) : allRest good L [] = some L := by simp [allRest, all]
theorem allRest_none (good : List UInt8 → Bool) (L t : List (List UInt8)) (r : List UInt8) (h : rd good r = none) : allRest good L (r :: t) = none := by simp [allRest, all, h]
theorem allRest_some (good : List UInt8 → Bool) (L t : List (List UInt8)) (r p : List UInt8) (h : rd good r = some p) : allRest good L (r :: t) = allRest good (L ++ [p]) t := by
  unfold allRest
  rw [all, h]
  cases all good t <;> simp
end Cn
open Go.RowKit

/-- Texts of lists of bytes. -/
def txt (l : List UInt8) : ByteArray := ⟨l.toArray⟩
def cellsT (L : List (List UInt8)) : List Value := Si.cellsS (L.map txt)
theorem cellsT_snoc (L : List (List UInt8)) (x : List UInt8) : cellsT L ++ [.string ⟨x.toArray⟩] = cellsT (L ++ [x]) := by
  unfold cellsT
  rw [List.map_append]
  exact Si.cellsS_snoc (L.map txt) (txt x)
theorem cellsT_len (L : List (List UInt8)) : (cellsT L).length = L.length := by simp [cellsT, Si.cellsS]

theorem pieces_at (s : ByteArray) (k : Nat) (h : k < (pieces s).length) : (Cn.sp s.data.toList).drop k = ((pieces s)[k]).data.toList :: (Cn.sp s.data.toList).drop (k + 1) := by
  rw [← pieces_sp, ← List.map_drop, ← List.map_drop, List.drop_eq_getElem_cons h]
  rfl
theorem pieces_len (s : ByteArray) : (pieces s).length = (Cn.sp s.data.toList).length := by
  rw [← pieces_sp, List.length_map]
theorem pieces_size (s : ByteArray) (k : Nat) (h : k < (pieces s).length) : ((pieces s)[k]).size ≤ s.size := by
  have h1 := (Cn.sp_len s.data.toList).1 ((pieces s)[k]).data.toList (by
    rw [← pieces_sp]
    exact List.mem_map.2 ⟨_, List.getElem_mem h, rfl⟩)
  exact h1

theorem alloc_cell (w : World) (L : List ByteArray) (t : TypeId) (k : Nat) (h : k < L.length) : (w.alloc (.cells (L.map Value.string).toArray t)).cell? ⟨w.heap.size, k, none⟩ = some (.string L[k]) := by
  rw [cell_of_row _ _ _ _ _ (0, 0) (heap_alloc_new w _)]
  simp [h]

/-- What holds at each round's head. -/
def PRel (s : ByteArray) (w1 : World) (v s12 : Value) (wr : World) (k : Nat) : Prop :=
  ∃ L : List (List UInt8), s12 = .int .i64 (k : Int) ∧ k ≤ (pieces s).length ∧ L.length ≤ k ∧ wr.ownsRow w1.heap.size 9 1 v L.length (cellsT L) ∧ Below w1.heap.size w1 wr ∧ Cn.allRest goodP L ((Cn.sp s.data.toList).drop k) = Cn.all goodP (Cn.sp s.data.toList)

/-- What 'a list, and whether there is one' looks like. -/
structure ListOf (o : Option (List (List UInt8))) (e : Ending) (w w' : World) : Prop where
  is : ∃ v, e = .returned (.tuple #[v, .bool o.isSome]) ∧ ∀ L, o = some L → Si.Strs w'.heap.size v (L.map txt) w'
  bel : Below w.heap.size w w'

theorem strs_own {w : World} {base : Nat} {v : Value} {L : List (List UInt8)} (h : w.ownsRow base 9 1 v L.length (cellsT L)) : Si.Strs w.heap.size v (L.map txt) w := by
  refine Si.Strs.of_own (base := base) ?_
  rw [List.length_map]
  exact h

set_option maxHeartbeats 1600000 in
set_option maxRecDepth 1000000 in
theorem readParts_any (s : ByteArray) (w : World) (hs : s.size ≤ 200000) :
    Calls Tryd.prog 19 #[.string s] w fun e w' => ListOf (Cn.all goodP (Cn.sp s.data.toList)) e w w' := by
  obtain ⟨i0, hi, hz0, hz1, hz2⟩ := info_parts info9
  have kS := split_call s w (by omega)
  have hsl : s.data.toList.length = s.size := rfl
  have HL : Aside ((pieces s).length = (Cn.sp s.data.toList).length) := pieces_len s
  have hcount : (pieces s).length ≤ s.size + 1 := by
    have := (Cn.sp_len s.data.toList).2
    rw [HL.out]
    omega
  have hb1 : Below w.heap.size w (w.alloc (.cells ((pieces s).map Value.string).toArray 9)) := (Below.refl _ _).alloc (Nat.le_refl _) _
  have hz : w.heap.size < (w.alloc (.cells ((pieces s).map Value.string).toArray 9)).heap.size := by rw [size_alloc]; omega
  have HC : Aside (∀ k (h : k < (pieces s).length), (w.alloc (.cells ((pieces s).map Value.string).toArray 9)).cell? ⟨w.heap.size, k, none⟩ = some (.string (pieces s)[k])) := fun k h => alloc_cell w (pieces s) 9 k h
  generalize w.alloc (.cells ((pieces s).map Value.string).toArray 9) = w1 at *
  go_enter Tryd.func19, Tryd.ntmps19
  go_wp2_with (go_at_call 36; refine kS.mono ?_; rintro e w1 ⟨rfl, rfl⟩)
  clear kS
  go_loopg [4, 12] (pieces s).length (fun gh v s12 wr => ∃ k : Nat, (pieces s).length - k ≤ gh ∧ PRel s w1 v s12 wr k)
  case atStart => exact ⟨0, by omega, [], rfl, by omega, by simp, World.ownsRow_nil _ _ _ _, Below.refl _ _, Cn.allRest_start _ _⟩
  case round =>
    obtain ⟨k, hgh, L, rfl, hk, hL, hown, hbw, hr⟩ := hrel
    have hsz := hbw.size
    by_cases hp : k < (pieces s).length
    · rw [pieces_at s k hp] at hr
      have hcell := (hbw.cell (p := ⟨w.heap.size, k, none⟩) hz).trans (HC.out k hp)
      have hps := pieces_size s k hp
      generalize hP : (pieces s)[k] = P at hr hcell hps
      have dk : decide (k < (pieces s).length) = true := by simpa using hp
      have kR := readPart_any P wr (by omega)
      cases hrd : Cn.rd goodP P.data.toList with
      | none =>
        rw [hrd] at kR
        have A : Aside (Cn.all goodP (Cn.sp s.data.toList) = none) := by
          show _ = _
          rw [← hr, Cn.allRest_none _ _ _ _ hrd]
        clear hr hrd hP
        go_wp2_with (go_at_call 37; refine kR.mono ?_; rintro e w2 ⟨rfl, hb2⟩; simp only [opt])
        go_ret2
        exact ⟨⟨_, by rw [A.out]; rfl, fun L hL => (by rw [A.out] at hL; cases hL)⟩, hb1.trans ((hbw.trans (hb2.mono hsz)).mono (by omega))⟩
      | some p =>
        rw [hrd] at kR
        rw [Cn.allRest_some _ _ _ _ _ hrd] at hr
        have A : Aside (Cn.allRest goodP (L ++ [p]) ((Cn.sp s.data.toList).drop (k + 1)) = Cn.all goodP (Cn.sp s.data.toList)) := hr
        have hLl : L.length ≤ 200001 := by omega
        clear hr hrd hP
        go_wp2_with (first
          | (go_at_call 37; refine kR.mono ?_; rintro e w2 ⟨rfl, hb2⟩; simp only [opt]; have hown2 := Si.own_below hown hb2; have hsz2 := hb2.size)
          | (at_builtin; refine wpList_append_own _ rfl (.tmp 23) (.tmp 25) 34 rfl w1.heap.size 9 i0 (.string ByteArray.empty) 1 16 Tryd.underlying34 hi hz0 hz1 hz2 rfl (by decide) _ _ _ rfl (hown2.alloc _) ⟨_, 0, none⟩ 1 1 [.string ⟨p.toArray⟩] rfl rfl ?c1 ?c2 ?c3 ?c4 ?c5 ?_))
        case c1 => exact (cell_one_new _ _ _)
        case c2 => intro u hu; simp at hu; subst hu; rfl
        case c3 => unfold maxLen; omega
        case c4 => omega
        case c5 => simp; omega
        intro v' w3 hown' hgrow _
        have E : Aside (w3.ownsRow w1.heap.size 9 1 v' (L ++ [p]).length (cellsT (L ++ [p])) ∧ Below w1.heap.size w1 w3) := by
          refine ⟨?_, ((hbw.trans (hb2.mono hsz)).alloc (by omega) _).grown hgrow (by rw [size_alloc]; omega) (fun g hg => (hown2.lt g hg).1)⟩
          rw [← cellsT_snoc, List.length_append]
          exact hown'
        clear hown' hgrow hown2 hown
        go_wp2
        go_roundg ((pieces s).length - (k + 1))
        case measure => omega
        case rel => exact ⟨k + 1, Nat.le_refl _, L ++ [p], by go_num, by omega, by simp; omega, E.out.1, E.out.2, A.out⟩
    · obtain rfl : k = (pieces s).length := by omega
      have hd : (Cn.sp s.data.toList).drop (pieces s).length = [] := List.drop_eq_nil_of_le (Nat.le_of_eq HL.out.symm)
      rw [hd, Cn.allRest_end] at hr
      have dk : decide ((pieces s).length < (pieces s).length) = false := by simp
      have A : Aside (Cn.all goodP (Cn.sp s.data.toList) = some L) := hr.symm
      clear hr hd
      go_wp2
      go_ret2
      exact ⟨⟨_, by rw [A.out]; rfl, fun L' hL' => (by rw [A.out] at hL'; cases hL'; exact strs_own hown)⟩, hb1.trans (hbw.mono (by omega))⟩
end Go.Proofs.YtkijglkjpgjdaaaDoor
