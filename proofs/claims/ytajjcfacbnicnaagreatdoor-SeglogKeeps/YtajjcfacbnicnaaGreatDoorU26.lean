/-
  YtajjcfacbnicnaaGreatDoor: the texts MF6, MF7, one behind the other.
-/
import Derived.Test.YtajjcfacbnicnaaGreatDoorU25
import Derived.Maps.AppendAt
/-
  Split, by the program and by the document.
-/
namespace Go.Proofs.YtajjcfacbnicnaaGreatDoor.Fm
open Go.RowKit
set_option maxRecDepth 100000
/-- Texts as cells. -/
def cellsS (l : List ByteArray) : List Value := l.map Value.string
theorem cellsS_snoc (l : List ByteArray) (x : ByteArray) : cellsS l ++ [.string x] = cellsS (l ++ [x]) := by
  simp [cellsS]
theorem info9 : (Tryz.prog.info? 9).map (fun i => (i.zero, i.size, i.bytes)) = some (some (.string ⟨#[]⟩), 1, 16) := by kernel_rfl

/-- What Split answers. -/
def Spl (w w' : World) (e : Ending) (r : List (List UInt8) × Nat × Nat) : Prop :=
  ∃ v, e = .returned (.tuple #[v, .int .i64 (r.2.1 : Nat), .int .i64 (r.2.2 : Nat)]) ∧ w'.ownsRow w.heap.size 9 1 v r.1.length (cellsS (r.1.map bs)) ∧ Below w.heap.size w w'

/-- What holds at each round's head. -/
def SRel (s : ByteArray) (w : World) (v s6 : Value) (wr : World) (p : Nat) (R : List (List UInt8) × Nat × Nat) : Prop :=
  ∃ acc : List (List UInt8), s6 = .int .i64 (p : Int) ∧ wr.ownsRow w.heap.size 9 1 v acc.length (cellsS (acc.map bs)) ∧ Below w.heap.size w wr ∧ Fr.spx (s.data.toList.drop p) acc p = R ∧ p ≤ s.size ∧ acc.length ≤ p

theorem own_below {w w' : World} {base : Nat} {e : TypeId} {size : Nat} {v : Value} {n : Nat} {xs : List Value} (h : w.ownsRow base e size v n xs) (hb : Below w.heap.size w w') : w'.ownsRow base e size v n xs := by
  obtain ⟨h1, h2⟩ := h
  refine ⟨h1, ?_⟩
  rcases h2 with h2 | ⟨g, cap, cur, hv, hg, hh, r⟩
  · exact .inl h2
  · have hlt : g < w.heap.size := (Array.getElem?_eq_some_iff.1 hh).1
    exact .inr ⟨g, cap, cur, hv, hg, (hb.block g hlt).trans hh, r⟩

set_option maxHeartbeats 1600000 in
set_option maxRecDepth 1000000 in
theorem split_any (s : ByteArray) (w : World) (hs : s.size ≤ 1000000) :
    Calls Tryz.prog 83 #[.string s] w fun e w' => Spl w w' e (Fr.spx s.data.toList [] 0) := by
  obtain ⟨i0, hi, hz0, hz1, hz2⟩ := info_parts info9
  unfold Spl
  generalize hR : Fr.spx s.data.toList [] 0 = R
  go_enter Tryz.func83, Tryz.ntmps83
  go_wp2
  go_loopg [5, 6] s.size (fun gh v s6 wr => ∃ p : Nat, s.size - p ≤ gh ∧ SRel s w v s6 wr p R)
  case atStart => exact ⟨0, by omega, [], rfl, World.ownsRow_nil _ _ _ _, Below.refl _ _, hR, by omega, by simp⟩
  case round =>
    obtain ⟨p, hgh, acc, rfl, hown, hbw, hl, hps, hLp⟩ := hrel
    by_cases hp : p < s.size
    · have d1 : decide (p < s.size) = true := by simpa using hp
      have hne : s.data.toList.drop p ≠ [] := by
        intro e
        have := congrArg List.length e
        rw [List.length_drop, list_len] at this
        simp at this
        omega
      have le : (s.extract p s.size).data.toList = s.data.toList.drop p := by
        rw [list_cut, List.take_of_length_le (by rw [list_len]; omega)]
      have k : ∀ u : World, _ := fun u : World => first_any (s.extract p s.size) u (by simp; omega)
      rw [le] at k
      unfold fst3 at k
      by_cases h0 : (Fr.first (s.data.toList.drop p)).2.2 = 0
      · have ho := Fr.first_ok h0
        rw [Fr.spx_ok _ _ hne h0] at hl
        rw [h0] at k
        generalize Fr.first (s.data.toList.drop p) = r at *
        obtain ⟨x, n, f⟩ := r
        simp only [List.length_drop, list_len] at ho h0 hl k
        rw [List.drop_drop] at hl
        have HL : Aside _ := hl
        have K : Aside _ := k
        clear hl k hne le h0 hR
        obtain ⟨ho1, ho2, ho3⟩ := ho
        have hbs : (bs x).size = x.length := bs_size x
        generalize hX : bs x = X at *
        go_wp2_with (first
          | (go_at_call 105; refine (K.out _).mono ?_; rintro e w1 ⟨rfl, hb1⟩; have p1 := own_below hown hb1; clear K)
          | (at_builtin; refine wpList_append_own _ rfl (.tmp 27) (.tmp 29) 30 rfl w.heap.size 9 i0 (.string ⟨#[]⟩) 1 16 Tryz.underlying30 hi hz0 hz1 hz2 rfl (by decide) _ _ _ rfl (p1.alloc _) ⟨_, 0, none⟩ 1 1 [.string X] rfl rfl ?c1 ?c2 ?c3 ?c4 ?c5 ?_))
        case c1 => exact (cell_one_new _ _ _)
        case c2 => intro u hu; simp at hu; subst hu; rfl
        case c3 => unfold maxLen; omega
        case c4 => omega
        case c5 => have t1 := hb1.size; have t2 := hbw.size; simp; omega
        intro v' w2 hown' hgrow _
        go_wp2
        go_roundg (s.size - (p + n))
        case measure => omega
        case rel =>
          have hsz := hb1.size
          have hsz2 := hbw.size
          refine ⟨p + n, Nat.le_refl _, acc ++ [x], by go_num, ?_, ?_, HL.out, by omega, by simp; omega⟩
          · rw [List.map_append, List.map_cons, List.map_nil, hX, ← cellsS_snoc, List.length_append]
            exact hown'
          · exact (((hbw.trans (hb1.mono hsz2)).alloc (by omega) _).grown hgrow (by simp; omega) (fun j hj => (p1.lt j hj).1))
      · have hb := Fr.first_bad h0
        rw [Fr.spx_bad _ _ hne h0] at hl
        generalize Fr.first (s.data.toList.drop p) = r at *
        obtain ⟨x, n, f⟩ := r
        simp only at hb h0 hl k
        obtain ⟨rfl, rfl⟩ := hb
        have d2 : ((f : Int) != 0) = true := by simp; omega
        have d3 : ¬ ((f : Int) = 0) := by omega
        have d4 : ((f : Int) == 0) = false := by simp; omega
        have K : Aside _ := k
        clear k hne le h0 hR
        subst hl
        go_wp2_with (go_at_call 105; refine (K.out _).mono ?_; rintro e w1 ⟨rfl, hb1⟩; have p1 := own_below hown hb1; clear K)
        go_ret3
        exact ⟨_, rfl, p1, hbw.trans (hb1.mono hbw.size)⟩
    · obtain rfl : p = s.size := by omega
      have d1 : decide (s.size < s.size) = false := by simp
      rw [List.drop_of_length_le (by rw [list_len]; omega), Fr.spx_nil] at hl
      subst hl
      go_wp2
      go_ret3
      exact ⟨_, rfl, hown, hbw⟩

set_option maxHeartbeats 1600000 in
set_option maxRecDepth 1000000 in
theorem refSplit_any (s : ByteArray) (w : World) (hs : s.size ≤ 1000000) :
    Calls Tryz.prog 43 #[.string s] w fun e w' => Spl w w' e (Fr.spx s.data.toList [] 0) := by
  obtain ⟨i0, hi, hz0, hz1, hz2⟩ := info_parts info9
  unfold Spl
  generalize hR : Fr.spx s.data.toList [] 0 = R
  go_enter Tryz.func43, Tryz.ntmps43
  go_wp2
  go_loopg [5, 6] s.size (fun gh v s6 wr => ∃ p : Nat, s.size - p ≤ gh ∧ SRel s w v s6 wr p R)
  case atStart => exact ⟨0, by omega, [], rfl, World.ownsRow_nil _ _ _ _, Below.refl _ _, hR, by omega, by simp⟩
  case round =>
    obtain ⟨p, hgh, acc, rfl, hown, hbw, hl, hps, hLp⟩ := hrel
    by_cases hp : p < s.size
    · have d1 : decide (p < s.size) = true := by simpa using hp
      have hne : s.data.toList.drop p ≠ [] := by
        intro e
        have := congrArg List.length e
        rw [List.length_drop, list_len] at this
        simp at this
        omega
      have le : (s.extract p s.size).data.toList = s.data.toList.drop p := by
        rw [list_cut, List.take_of_length_le (by rw [list_len]; omega)]
      have k : ∀ u : World, _ := fun u : World => refFirst_any (s.extract p s.size) u (by simp; omega)
      rw [le] at k
      unfold fst3 at k
      by_cases h0 : (Fr.first (s.data.toList.drop p)).2.2 = 0
      · have ho := Fr.first_ok h0
        rw [Fr.spx_ok _ _ hne h0] at hl
        rw [h0] at k
        generalize Fr.first (s.data.toList.drop p) = r at *
        obtain ⟨x, n, f⟩ := r
        simp only [List.length_drop, list_len] at ho h0 hl k
        rw [List.drop_drop] at hl
        have HL : Aside _ := hl
        have K : Aside _ := k
        clear hl k hne le h0 hR
        obtain ⟨ho1, ho2, ho3⟩ := ho
        have hbs : (bs x).size = x.length := bs_size x
        generalize hX : bs x = X at *
        go_wp2_with (first
          | (go_at_call 85; refine (K.out _).mono ?_; rintro e w1 ⟨rfl, hb1⟩; have p1 := own_below hown hb1; clear K)
          | (at_builtin; refine wpList_append_own _ rfl (.tmp 27) (.tmp 29) 30 rfl w.heap.size 9 i0 (.string ⟨#[]⟩) 1 16 Tryz.underlying30 hi hz0 hz1 hz2 rfl (by decide) _ _ _ rfl (p1.alloc _) ⟨_, 0, none⟩ 1 1 [.string X] rfl rfl ?c1 ?c2 ?c3 ?c4 ?c5 ?_))
        case c1 => exact (cell_one_new _ _ _)
        case c2 => intro u hu; simp at hu; subst hu; rfl
        case c3 => unfold maxLen; omega
        case c4 => omega
        case c5 => have t1 := hb1.size; have t2 := hbw.size; simp; omega
        intro v' w2 hown' hgrow _
        go_wp2
        go_roundg (s.size - (p + n))
        case measure => omega
        case rel =>
          have hsz := hb1.size
          have hsz2 := hbw.size
          refine ⟨p + n, Nat.le_refl _, acc ++ [x], by go_num, ?_, ?_, HL.out, by omega, by simp; omega⟩
          · rw [List.map_append, List.map_cons, List.map_nil, hX, ← cellsS_snoc, List.length_append]
            exact hown'
          · exact (((hbw.trans (hb1.mono hsz2)).alloc (by omega) _).grown hgrow (by simp; omega) (fun j hj => (p1.lt j hj).1))
      · have hb := Fr.first_bad h0
        rw [Fr.spx_bad _ _ hne h0] at hl
        generalize Fr.first (s.data.toList.drop p) = r at *
        obtain ⟨x, n, f⟩ := r
        simp only at hb h0 hl k
        obtain ⟨rfl, rfl⟩ := hb
        have d2 : ((f : Int) != 0) = true := by simp; omega
        have d3 : ¬ ((f : Int) = 0) := by omega
        have d4 : ((f : Int) == 0) = false := by simp; omega
        have K : Aside _ := k
        clear k hne le h0 hR
        subst hl
        go_wp2_with (go_at_call 85; refine (K.out _).mono ?_; rintro e w1 ⟨rfl, hb1⟩; have p1 := own_below hown hb1; clear K)
        go_ret3
        exact ⟨_, rfl, p1, hbw.trans (hb1.mono hbw.size)⟩
    · obtain rfl : p = s.size := by omega
      have d1 : decide (s.size < s.size) = false := by simp
      rw [List.drop_of_length_le (by rw [list_len]; omega), Fr.spx_nil] at hl
      subst hl
      go_wp2
      go_ret3
      exact ⟨_, rfl, hown, hbw⟩

end Go.Proofs.YtajjcfacbnicnaaGreatDoor.Fm

/-
  Texts side by side; the first few calls of each statement answer true.
-/
namespace Go.Proofs.YtajjcfacbnicnaaGreatDoor.Fm
open Go.RowKit
set_option maxRecDepth 100000
/-- What a slice of texts holds. -/
def Strs (B : Nat) (v : Value) (l : List ByteArray) (w : World) : Prop :=
  ∃ a c, v = .slice a l.length c ∧ ∀ j, j < l.length → ∃ g o, a = some ⟨g, o, none⟩ ∧ g < B ∧ w.cell? ⟨g, o + j, none⟩ = some (.string (l.getD j ⟨#[]⟩))

theorem Strs.of_own {w : World} {base : Nat} {v : Value} {l : List ByteArray} (h : w.ownsRow base 9 1 v l.length (cellsS l)) : Strs w.heap.size v l w := by
  rcases h.2 with ⟨rfl, h0⟩ | ⟨g, cap, cur, rfl, hg, hh, _⟩
  · have : l = [] := List.eq_nil_of_length_eq_zero h0
    subst this
    exact ⟨none, 0, rfl, fun j hj => absurd hj (by simp)⟩
  · refine ⟨_, cap, rfl, fun j hj => ⟨g, 0, rfl, (Array.getElem?_eq_some_iff.1 hh).1, ?_⟩⟩
    rw [Nat.zero_add, h.cellAt j (by omega)]
    simp [cellsS, List.getD, List.getElem?_eq_getElem hj]

theorem Strs.later {B : Nat} {v : Value} {l : List ByteArray} {w u : World} (h : Strs B v l w) (hb : Below B w u) : Strs B v l u := by
  obtain ⟨a, c, h1, h2⟩ := h
  refine ⟨a, c, h1, fun j hj => ?_⟩
  obtain ⟨g, o, h3, h4, h5⟩ := h2 j hj
  exact ⟨g, o, h3, h4, by rw [hb.cell (by exact h4)]; exact h5⟩
theorem Strs.wider {B C : Nat} {v : Value} {l : List ByteArray} {w : World} (h : Strs B v l w) (hb : B ≤ C) : Strs C v l w := by
  obtain ⟨a, c, h1, h2⟩ := h
  refine ⟨a, c, h1, fun j hj => ?_⟩
  obtain ⟨g, o, h3, h4, h5⟩ := h2 j hj
  exact ⟨g, o, h3, Nat.lt_of_lt_of_le h4 hb, h5⟩

theorem spl_strs {w w' : World} {e : Ending} {r : List (List UInt8) × Nat × Nat} (h : Spl w w' e r) : ∃ v, e = .returned (.tuple #[v, .int .i64 (r.2.1 : Nat), .int .i64 (r.2.2 : Nat)]) ∧ Strs w'.heap.size v (r.1.map bs) w' ∧ Below w.heap.size w w' := by
  obtain ⟨v, h1, h2, h3⟩ := h
  refine ⟨v, h1, ?_, h3⟩
  have := Strs.of_own (l := r.1.map bs) (base := w.heap.size) (v := v) (w := w') (by rw [List.length_map]; exact h2)
  exact this

def abc : List UInt8 := [97, 98, 99]
end Go.Proofs.YtajjcfacbnicnaaGreatDoor.Fm
