/-
  YtajjcfacbnicnaaGreatDoor: the texts MF2, MF3, MF4, MF5, MF6, MF7, one behind the other.
-/
import Derived.Test.YtajjcfacbnicnaaGreatDoorV25
import Derived.WalkSmall
import Derived.OwnWalk
import Derived.Maps.AppendAt
/-
  What the head of a frame tells.
-/
namespace Go.Proofs.YtajjcfacbnicnaaGreatDoor.Fm
open Go.RowKit
set_option maxRecDepth 100000
/-- What Open answers of bytes in parts: the content b, and behind it t. -/
theorem open_list (s : ByteArray) (w : World) (h4 : 4 ≤ s.size) (hs : s.size ≤ 1000000) :
    Calls Tryz.prog 121 #[.string s] w fun e w' => e = .returned (.tuple #[.string (if Fr.sl (s.data.toList.take (s.size - 4)) = s.data.toList then s.extract 0 (s.size - 4) else ⟨#[]⟩), .bool (decide (Fr.sl (s.data.toList.take (s.size - 4)) = s.data.toList))]) ∧ Below w.heap.size w w' := by
  have e0 : (s.extract 0 (s.size - 4)).data.toList = s.data.toList.take (s.size - 4) := by rw [list_cut]; simp
  have e1 : (s.extract (s.size - 4) s.size).data.toList = s.data.toList.drop (s.size - 4) := by
    rw [list_cut, List.take_of_length_le (by rw [list_len]; omega)]
  by_cases h : Fr.sl (s.data.toList.take (s.size - 4)) = s.data.toList
  · rw [if_pos h, decide_eq_true h]
    refine open_yes s _ _ w h4 hs rfl rfl ?_
    apply list_ext
    rw [e1, e0, sb_bs, bs_list]
    have h2 : s.data.toList.take (s.size - 4) ++ Fr.four (s.data.toList.take (s.size - 4)) = s.data.toList.take (s.size - 4) ++ s.data.toList.drop (s.size - 4) := by
      rw [List.take_append_drop]
      exact h
    exact (List.append_cancel_left h2).symm
  · rw [if_neg h, decide_eq_false h]
    refine open_no s _ _ w h4 hs rfl rfl fun he => h ?_
    have := congrArg (fun x : ByteArray => x.data.toList) he
    simp only [e1, e0, sb_bs, bs_list] at this
    unfold Fr.sl
    conv => rhs; rw [← List.take_append_drop (s.size - 4) s.data.toList, this]
    rfl

theorem or8 (a b : Nat) (ha : a < 256) (hb : b < 256) : bits .or .i64 ((a : Int) * 256) (b : Int) = ((a * 256 + b : Nat) : Int) := by
  show IntKind.i64.wrap ((BitVec.ofInt 64 ((a : Int) * 256) ||| BitVec.ofInt 64 (b : Int)).toNat : Int) = _
  have e : (a : Int) * 256 = ((a * 256 : Nat) : Int) := by omega
  rw [e, BitVec.toNat_or]
  have h1 : (BitVec.ofInt 64 ((a * 256 : Nat) : Int)).toNat = a * 256 := by
    rw [BitVec.ofInt_natCast, BitVec.toNat_ofNat]; exact Nat.mod_eq_of_lt (by omega)
  have h2 : (BitVec.ofInt 64 (b : Int)).toNat = b := by
    rw [BitVec.ofInt_natCast, BitVec.toNat_ofNat]; exact Nat.mod_eq_of_lt (by omega)
  rw [h1, h2]
  have := Nat.two_pow_add_eq_or_of_lt (i := 8) (b := b) (by omega) a
  rw [show a * 256 = 2 ^ 8 * a by omega, ← this]
  rw [IntKind.wrap_i64]
  omega

theorem w64 (x : Int) (h0 : 0 ≤ x) (h1 : x < 1000000000000) : wrap64 x = x := by
  have := IntKind.wrap_i64 x
  unfold IntKind.wrap at this
  simp at this
  unfold wrap64
  omega
theorem or8w (a b : Nat) (ha : a < 256) (hb : b < 256) : bits .or .i64 (wrap64 (wrap64 (a : Int) * 256)) (wrap64 (b : Int)) = ((a * 256 + b : Nat) : Int) := by
  rw [w64 (a : Int) (by omega) (by omega), w64 ((a : Int) * 256) (by omega) (by omega), w64 (b : Int) (by omega) (by omega)]
  exact or8 a b ha hb

/-- What the head tells: how many, and the fault. -/
def told (l : List UInt8) : Nat × Nat :=
  if l.length < 6 then (0, 3) else if Fr.sl (l.take 2) ≠ l.take 6 then (0, 4) else if 2000 < Fr.cnt l then (0, 5) else (Fr.cnt l, 0)


theorem cnt_index (b : ByteArray) (l : List UInt8) (hl : b.data.toList = l.take 2) (z2 : b.size = 2) : Fr.cnt l = b[0].toNat * 256 + b[1].toNat := by
  have e : Fr.cnt l = Fr.cnt (l.take 2) := by
    unfold Fr.cnt
    simp [List.getD]
  have hz : b.data.size = 2 := z2
  rw [e, ← hl]
  unfold Fr.cnt
  simp [List.getD, hz]
  rfl

theorem told_over (s b : ByteArray) (c : Nat) (w : World) (hs : s.size ≤ 1000000) (h6 : 6 ≤ s.size) (d1 : decide ((s.size : Int) < 6) = false) (z2 : b.size = 2) (k : Calls Tryz.prog 121 #[.string (s.extract 0 6)] w fun e w' => e = .returned (.tuple #[.string b, .bool true]) ∧ Below w.heap.size w w') (ho : bits .or .i64 (wrap64 (wrap64 (b[0].toNat : Int) * 256)) (wrap64 (b[1].toNat : Int)) = (c : Int)) (d3 : decide (2000 < (c : Int)) = true) :
    Calls Tryz.prog 119 #[.string s] w fun e w' => e = .returned (.tuple #[.int .i64 0, .int .i64 5]) ∧ Below w.heap.size w w' := by
  go_enter Tryz.func119, Tryz.ntmps119
  go_wp2_with (go_at_call 121; refine k.mono ?_; rintro e w1 ⟨rfl, hb1⟩)
  clear k
  go_quiet (fail)
  go_wp2
  go_ret2
  exact ⟨rfl, below_drewN hb1 _⟩

theorem told_fits (s b : ByteArray) (c : Nat) (w : World) (hs : s.size ≤ 1000000) (h6 : 6 ≤ s.size) (d1 : decide ((s.size : Int) < 6) = false) (z2 : b.size = 2) (k : Calls Tryz.prog 121 #[.string (s.extract 0 6)] w fun e w' => e = .returned (.tuple #[.string b, .bool true]) ∧ Below w.heap.size w w') (ho : bits .or .i64 (wrap64 (wrap64 (b[0].toNat : Int) * 256)) (wrap64 (b[1].toNat : Int)) = (c : Int)) (d3 : decide (2000 < (c : Int)) = false) :
    Calls Tryz.prog 119 #[.string s] w fun e w' => e = .returned (.tuple #[.int .i64 (c : Int), .int .i64 0]) ∧ Below w.heap.size w w' := by
  go_enter Tryz.func119, Tryz.ntmps119
  go_wp2_with (go_at_call 121; refine k.mono ?_; rintro e w1 ⟨rfl, hb1⟩)
  clear k
  go_quiet (fail)
  go_wp2
  go_ret2
  exact ⟨rfl, below_drewN hb1 _⟩

theorem told_rot (s b : ByteArray) (w : World) (hs : s.size ≤ 1000000) (h6 : 6 ≤ s.size) (d1 : decide ((s.size : Int) < 6) = false) (k : Calls Tryz.prog 121 #[.string (s.extract 0 6)] w fun e w' => e = .returned (.tuple #[.string b, .bool false]) ∧ Below w.heap.size w w') :
    Calls Tryz.prog 119 #[.string s] w fun e w' => e = .returned (.tuple #[.int .i64 0, .int .i64 4]) ∧ Below w.heap.size w w' := by
  go_enter Tryz.func119, Tryz.ntmps119
  go_wp2_with (go_at_call 121; refine k.mono ?_; rintro e w1 ⟨rfl, hb1⟩)
  clear k
  go_wp2
  go_ret2
  exact ⟨rfl, hb1⟩

theorem told_any (s : ByteArray) (w : World) (hs : s.size ≤ 1000000) :
    Calls Tryz.prog 119 #[.string s] w fun e w' => e = .returned (.tuple #[.int .i64 ((told s.data.toList).1 : Nat), .int .i64 ((told s.data.toList).2 : Nat)]) ∧ Below w.heap.size w w' := by
  unfold told
  rw [list_len]
  by_cases h6 : s.size < 6
  · have d1 : decide ((s.size : Int) < 6) = true := by simp; omega
    rw [if_pos h6]
    go_enter Tryz.func119, Tryz.ntmps119
    go_wp2
    go_ret2
    exact ⟨rfl, Below.refl _ _⟩
  · have d1 : decide ((s.size : Int) < 6) = false := by simp; omega
    rw [if_neg h6]
    have z6 : (s.extract 0 6).size = 6 := by simp; omega
    have k := open_list (s.extract 0 6) w (by omega) (by omega)
    have l6 : (s.extract 0 6).data.toList = s.data.toList.take 6 := by rw [list_cut]; simp
    have l2 : ((s.extract 0 6).extract 0 2).data.toList = s.data.toList.take 2 := by
      rw [list_cut, l6]
      simp [List.take_take]
    rw [z6, l6, show 6 - 4 = 2 by rfl, List.take_take, show min 2 6 = 2 by rfl] at k
    by_cases hs2 : Fr.sl (s.data.toList.take 2) = s.data.toList.take 6
    · rw [if_pos hs2, decide_eq_true hs2] at k
      rw [if_neg (by simpa using hs2)]
      have z2 : ((s.extract 0 6).extract 0 2).size = 2 := by simp; omega
      have ec := cnt_index _ _ l2 z2
      have ho := or8w ((s.extract 0 6).extract 0 2)[0].toNat ((s.extract 0 6).extract 0 2)[1].toNat (UInt8.toNat_lt _) (UInt8.toNat_lt _)
      rw [← ec] at ho
      by_cases hc : 2000 < Fr.cnt s.data.toList
      · rw [if_pos hc]
        exact told_over s _ _ w hs (by omega) d1 z2 k ho (by simp; omega)
      · rw [if_neg hc]
        exact told_fits s _ _ w hs (by omega) d1 z2 k ho (by simp; omega)
    · rw [if_neg hs2, decide_eq_false hs2] at k
      rw [if_pos hs2]
      exact told_rot s _ w hs (by omega) d1 k
end Go.Proofs.YtajjcfacbnicnaaGreatDoor.Fm

/-
  Size, First.
-/
namespace Go.Proofs.YtajjcfacbnicnaaGreatDoor.Fm
open Go.RowKit
set_option maxRecDepth 100000
theorem asd {p : Prop} (h : p) : Aside p := h
theorem size_any (n : Int) (w : World) :
    Calls Tryz.prog 120 #[.int .i64 n] w fun e w' => e = .returned (.int .i64 (if n < 0 ∨ 2000 < n then 0 else n + 10)) ∧ w' = w := by
  by_cases h0 : n < 0
  · have d0 : decide (n < 0) = true := by simpa using h0
    rw [if_pos (.inl h0)]
    go_enter Tryz.func120, Tryz.ntmps120
    go_wp2
    go_ret
    exact ⟨rfl, rfl⟩
  · have d0 : decide (n < 0) = false := by simpa using h0
    by_cases h1 : 2000 < n
    · have d1 : decide (2000 < n) = true := by simpa using h1
      rw [if_pos (.inr h1)]
      go_enter Tryz.func120, Tryz.ntmps120
      go_wp2
      go_ret
      exact ⟨rfl, rfl⟩
    · have d1 : decide (2000 < n) = false := by simpa using h1
      rw [if_neg (by omega)]
      go_enter Tryz.func120, Tryz.ntmps120
      go_wp2
      go_ret
      exact ⟨by refine congrArg Ending.returned ?_; go_num, rfl⟩

theorem first_told (l : List UInt8) : Fr.first l = if (told l).2 ≠ 0 then ([], 0, (told l).2) else if l.length < (told l).1 + 10 then ([], 0, 3) else if Fr.sl ((l.drop 6).take (told l).1) ≠ (l.drop 6).take ((told l).1 + 4) then ([], 0, 4) else ((l.drop 6).take (told l).1, (told l).1 + 10, 0) := by
  unfold Fr.first told
  by_cases h1 : l.length < 6
  · simp [h1]
  · by_cases h2 : Fr.sl (l.take 2) ≠ l.take 6
    · simp [h1, h2]
    · by_cases h3 : 2000 < Fr.cnt l
      · rw [if_neg h1, if_neg h2, if_pos h3, if_neg h1, if_neg h2, if_pos h3]
        simp
      · rw [if_neg h1, if_neg h2, if_neg h3, if_neg h1, if_neg h2, if_neg h3]
        simp
theorem told_le (l : List UInt8) : (told l).1 ≤ 2000 := by
  unfold told
  repeat' split
  all_goals simp
  omega

/-- What First answers. -/
def fst3 (l : List UInt8) : Value := .tuple #[.string (bs (Fr.first l).1), .int .i64 ((Fr.first l).2.1 : Nat), .int .i64 ((Fr.first l).2.2 : Nat)]

theorem size_told (c : Nat) (w : World) (hc : c ≤ 2000) : Calls Tryz.prog 120 #[.int .i64 (c : Int)] w fun e w' => e = .returned (.int .i64 ((c + 10 : Nat) : Int)) ∧ w' = w := by
  have := size_any (c : Int) w
  rw [if_neg (by omega)] at this
  exact this

set_option maxHeartbeats 800000 in
theorem first_any (s : ByteArray) (w : World) (hs : s.size ≤ 1000000) :
    Calls Tryz.prog 105 #[.string s] w fun e w' => e = .returned (fst3 s.data.toList) ∧ Below w.heap.size w w' := by
  unfold fst3
  rw [first_told, list_len]
  have K := told_any s w hs
  have hc := told_le s.data.toList
  generalize told s.data.toList = ct at *
  obtain ⟨c, f⟩ := ct
  simp only at hc K ⊢
  by_cases h1 : f = 0
  · subst h1
    have T : Aside _ := fun w1 => size_told c w1 hc
    rw [if_neg (by simp)]
    by_cases h2 : s.size < c + 10
    · rw [if_pos h2]
      have d2 : decide ((s.size : Int) < ((c + 10 : Nat) : Int)) = true := by simp; omega
      generalize c + 10 = z at *
      go_enter Tryz.func105, Tryz.ntmps105
      go_wp2_with (first
        | (go_at_call 119; refine K.mono ?_; rintro e w1 ⟨rfl, hb1⟩; clear K)
        | (go_at_call 120; refine (T.out _).mono ?_; rintro e w2 ⟨rfl, rfl⟩))
      go_ret3
      exact ⟨rfl, hb1⟩
    · rw [if_neg h2]
      have d2 : decide ((s.size : Int) < ((c + 10 : Nat) : Int)) = false := by simp; omega
      have zc : (s.extract 6 (c + 10)).size = c + 4 := by simp; omega
      have lc : (s.extract 6 (c + 10)).data.toList = (s.data.toList.drop 6).take (c + 4) := by
        rw [list_cut, List.drop_take]
        congr 1
      have lb : ((s.extract 6 (c + 10)).extract 0 c).data.toList = (s.data.toList.drop 6).take c := by
        rw [list_cut, lc, List.drop_zero, List.take_take]
        congr 1
        omega
      have ko : ∀ u : World, _ := fun u : World => open_list (s.extract 6 (c + 10)) u (by omega) (by omega)
      simp only [zc, lc, Nat.add_sub_cancel, List.take_take, show min c (c + 4) = c by omega] at ko
      rw [← lb]
      by_cases h3 : Fr.sl ((s.extract 6 (c + 10)).extract 0 c).data.toList = (s.data.toList.drop 6).take (c + 4)
      · have h3' := h3
        rw [lb] at h3'
        simp only [if_pos h3', decide_eq_true h3'] at ko
        rw [if_neg (by simpa using h3)]
        simp only [bs_data]
        have KO := asd ko
        clear ko h3 h3' lb lc zc
        generalize (s.extract 6 (c + 10)).extract 0 c = b at *
        have hz : 6 ≤ c + 10 := by omega
        have hz2 : c + 10 ≤ s.size := by omega
        generalize c + 10 = z at *
        go_enter Tryz.func105, Tryz.ntmps105
        go_wp2_with (first
          | (go_at_call 119; refine K.mono ?_; rintro e w1 ⟨rfl, hb1⟩; clear K)
          | (go_at_call 120; refine (T.out _).mono ?_; rintro e w2 ⟨rfl, rfl⟩)
          | (go_at_call 121; refine (KO.out _).mono ?_; rintro e w3 ⟨rfl, hb3⟩))
        go_ret3
        exact ⟨rfl, hb1.trans (hb3.mono hb1.size)⟩
      · have h3' := h3
        rw [lb] at h3'
        simp only [if_neg h3', decide_eq_false h3'] at ko
        rw [if_pos (by simpa using h3)]
        have KO := asd ko
        clear ko h3 h3' lb lc zc
        have hz : 6 ≤ c + 10 := by omega
        have hz2 : c + 10 ≤ s.size := by omega
        generalize c + 10 = z at *
        go_enter Tryz.func105, Tryz.ntmps105
        go_wp2_with (first
          | (go_at_call 119; refine K.mono ?_; rintro e w1 ⟨rfl, hb1⟩; clear K)
          | (go_at_call 120; refine (T.out _).mono ?_; rintro e w2 ⟨rfl, rfl⟩)
          | (go_at_call 121; refine (KO.out _).mono ?_; rintro e w3 ⟨rfl, hb3⟩))
        go_ret3
        exact ⟨rfl, hb1.trans (hb3.mono hb1.size)⟩
  · rw [if_pos h1]
    have d1 : ((f : Int) != 0) = true := by simp; omega
    have d2 : ¬ ((f : Int) = 0) := by omega
    go_enter Tryz.func105, Tryz.ntmps105
    go_wp2_with (go_at_call 119; refine K.mono ?_; rintro e w1 ⟨rfl, hb1⟩; clear K)
    go_ret3
    exact ⟨rfl, hb1⟩
end Go.Proofs.YtajjcfacbnicnaaGreatDoor.Fm

/-
  The document's Make.
-/
namespace Go.Proofs.YtajjcfacbnicnaaGreatDoor.Fm
open Go.RowKit
set_option maxRecDepth 100000
theorem refHead_nums (n : Nat) (h : n < 65536) : strOfNums [(n : Int) / 256 % 256, (n : Int) % 256] = bs (Fr.two n) := by
  rw [← two_nums]
  congr 2
  omega

theorem four_bs (s : ByteArray) (w : World) (hs : s.size ≤ 1000000) :
    Calls Tryz.prog 90 #[.string s] w fun e w' => e = .returned (.string (bs (Fr.four s.data.toList))) ∧ Below w.heap.size w w' := four_any s w hs

set_option maxHeartbeats 800000 in
theorem refMake_any (s : ByteArray) (w : World) (hs : s.size ≤ 2000) :
    Calls Tryz.prog 50 #[.string s] w fun e w' => e = .returned (.string (bs (Fr.mk s.data.toList))) ∧ Below w.heap.size w w' := by
  have hc := conv2 w ((s.size : Int) / 256) ((s.size : Int) % 256)
  rw [two_nums] at hc
  have k1 : Aside (∀ u : World, _) := fun u : World => four_bs (bs (Fr.two s.size)) u (by rw [bs_size]; show 2 ≤ 1000000; decide)
  have k2 : Aside (∀ u : World, _) := fun u : World => four_bs s u (by omega)
  have ef : bs (Fr.mk s.data.toList) = bs (Fr.two s.size) ++ bs (Fr.four (bs (Fr.two s.size)).data.toList) ++ s ++ bs (Fr.four s.data.toList) := by
    apply list_ext
    simp only [list_app, bs_list]
    unfold Fr.mk Fr.sl
    rw [list_len]
    simp
  rw [ef]
  clear ef
  have z1 : (bs (Fr.two s.size)).size = 2 := by rw [bs_size]; rfl
  have z2 : (bs (Fr.four (bs (Fr.two s.size)).data.toList)).size = 4 := by rw [bs_size]; rfl
  have z3 : (bs (Fr.four s.data.toList)).size = 4 := by rw [bs_size]; rfl
  have T : Aside True := trivial
  generalize bs (Fr.four (bs (Fr.two s.size)).data.toList) = B at *
  generalize bs (Fr.two s.size) = A at *
  generalize bs (Fr.four s.data.toList) = C at *
  go_enter Tryz.func50, Tryz.ntmps50
  go_wp2_with (first
    | (clear T; go_at_call 90; refine (k1.out _).mono ?_; rintro e w1 ⟨rfl, hb1⟩)
    | (go_at_call 90; refine (k2.out _).mono ?_; rintro e w2 ⟨rfl, hb2⟩))
  go_ret
  have b1 := (Below.refl w.heap.size w).alloc (Nat.le_refl _) (.cells #[.int .u8 ((s.size : Int) / 256), .int .u8 ((s.size : Int) % 256)] 5)
  have b2 := b1.trans (hb1.mono b1.size)
  exact ⟨rfl, b2.trans (hb2.mono b2.size)⟩
end Go.Proofs.YtajjcfacbnicnaaGreatDoor.Fm

/-
  The document's First.
-/
namespace Go.Proofs.YtajjcfacbnicnaaGreatDoor.Fm
open Go.RowKit
set_option maxRecDepth 100000
theorem cnt_whole (s : ByteArray) (h : 2 ≤ s.size) : Fr.cnt s.data.toList = s[0].toNat * 256 + s[1].toNat := by
  have hz : 2 ≤ s.data.size := h
  unfold Fr.cnt
  have h0 : s.data.toList.getD 0 0 = s[0] := by
    rw [List.getD_eq_getElem?_getD, List.getElem?_eq_getElem (by rw [list_len]; omega)]
    simp
    rfl
  have h1 : s.data.toList.getD 1 0 = s[1] := by
    rw [List.getD_eq_getElem?_getD, List.getElem?_eq_getElem (by rw [list_len]; omega)]
    simp
    rfl
  rw [h0, h1]
theorem wcnt (a b : Nat) (ha : a < 256) (hb : b < 256) : wrap64 (wrap64 (wrap64 (a : Int) * 256) + wrap64 (b : Int)) = ((a * 256 + b : Nat) : Int) := by
  rw [w64 (a : Int) (by omega) (by omega), w64 ((a : Int) * 256) (by omega) (by omega), w64 (b : Int) (by omega) (by omega), w64 _ (by omega) (by omega)]
  omega
theorem index_str (t : ByteArray) (n : Nat) (h : n < t.size) (z : Int) (hz : z = (n : Int)) (w : World) : (Instr.index 9 (.string t) (.int .i64 z)).run Tryz.prog w = .ok (.int .u8 (t[n].toNat : Int)) w := by
  subst hz
  have h0 : (0 : Int) ≤ (n : Int) := by omega
  have h1 : t[n]? = some t[n] := getElem?_pos t n h
  simp only [Instr.index, asIntOf, Sem.run_bind, Sem.run_pure, Result.andThen_ok, run_underlying Tryz.underlying9, h0, if_true, Int.toNat_natCast, h1]
theorem bne_strs {a b : ByteArray} (h : a = b) : (a.toList != b.toList) = false := by rw [h]; exact bne_self_eq_false _
theorem ne_list {a b : ByteArray} (h : a ≠ b) : ¬ a.toList = b.toList := fun e => h (by
  rw [ByteArray.toList_eq, ByteArray.toList_eq] at e
  exact ByteArray.ext (Array.toList_inj.mp e))
theorem bne_strs' {a b : ByteArray} (h : a ≠ b) : (a.toList != b.toList) = true := by
  rw [bne_iff_ne]
  exact ne_list h
theorem beq_strs {a b : ByteArray} (h : a ≠ b) : (a.toList == b.toList) = false := by
  rw [beq_eq_false_iff_ne]
  exact ne_list h
theorem beq_strs' {a b : ByteArray} (h : a = b) : (a.toList == b.toList) = true := by rw [h]; exact beq_self_eq_true _

set_option maxHeartbeats 1600000 in
theorem rf_short (s : ByteArray) (w : World) (hs : s.size ≤ 1000000) (h6 : s.size < 6) :
    Calls Tryz.prog 85 #[.string s] w fun e w' => e = .returned (.tuple #[.string ⟨#[]⟩, .int .i64 0, .int .i64 3]) ∧ Below w.heap.size w w' := by
  have d1 : decide ((s.size : Int) < 6) = true := by simp; omega
  go_enter Tryz.func85, Tryz.ntmps85
  go_wp2
  go_ret3
  exact ⟨rfl, Below.refl _ _⟩
set_option maxHeartbeats 1600000 in
theorem rf_head (s : ByteArray) (w : World) (hs : s.size ≤ 1000000) (h6 : 6 ≤ s.size) (A B : ByteArray) (hB : s.extract 2 6 = B) (k : ∀ u : World, Calls Tryz.prog 90 #[.string (s.extract 0 2)] u fun e w' => e = .returned (.string A) ∧ Below u.heap.size u w') (hAB : A ≠ B) :
    Calls Tryz.prog 85 #[.string s] w fun e w' => e = .returned (.tuple #[.string ⟨#[]⟩, .int .i64 0, .int .i64 4]) ∧ Below w.heap.size w w' := by
  have d1 : decide ((s.size : Int) < 6) = false := by simp; omega
  have e1 := bne_strs' hAB
  have e2 := beq_strs hAB
  have e3 := ne_list hAB
  clear hAB
  have k1 : Aside (∀ q : Later w, _) := fun q : Later w => k q.u
  clear k
  go_enter Tryz.func85, Tryz.ntmps85
  go_wp2_with fail
  have hne := later_some w
  refine wp_region_later (by kernel_rfl) (by kernel_rfl) ?_
  repeat (go_big_quiet_step ((go_at_call 90; exact calls_later (k1.out _))))
  refine wpQuiet_nil ?_
  rintro _ ⟨q, rfl⟩
  have hq := q.bel
  clear hne
  go_wp2
  go_ret3
  exact ⟨rfl, hq⟩
set_option maxHeartbeats 1600000 in
theorem rf_over (s : ByteArray) (w : World) (hs : s.size ≤ 1000000) (h6 : 6 ≤ s.size) (A B : ByteArray) (hB : s.extract 2 6 = B) (k : ∀ u : World, Calls Tryz.prog 90 #[.string (s.extract 0 2)] u fun e w' => e = .returned (.string A) ∧ Below u.heap.size u w') (hAB : A = B) (c : Nat) (x y : UInt8) (x0 : ∀ u, (Instr.index 9 (.string s) (.int .i64 0)).run Tryz.prog u = .ok (.int .u8 (x.toNat : Int)) u) (x1 : ∀ u, (Instr.index 9 (.string s) (.int .i64 1)).run Tryz.prog u = .ok (.int .u8 (y.toNat : Int)) u) (hc : wrap64 (wrap64 (wrap64 (x.toNat : Int) * 256) + wrap64 (y.toNat : Int)) = (c : Int)) (h2 : 2000 < c) :
    Calls Tryz.prog 85 #[.string s] w fun e w' => e = .returned (.tuple #[.string ⟨#[]⟩, .int .i64 0, .int .i64 5]) ∧ Below w.heap.size w w' := by
  have d1 : decide ((s.size : Int) < 6) = false := by simp; omega
  have e1 := bne_strs hAB
  have e2 := beq_strs' hAB
  have e3 : A.toList = B.toList := by rw [hAB]
  clear hAB
  have k1 : Aside (∀ q : Later w, _) := fun q : Later w => k q.u
  clear k
  have d2 : decide (2000 < (c : Int)) = true := by simp; omega
  go_enter Tryz.func85, Tryz.ntmps85
  go_wp2_with fail
  have hne := later_some w
  refine wp_region_later (by kernel_rfl) (by kernel_rfl) ?_
  repeat (go_big_quiet_step ((go_at_call 90; exact calls_later (k1.out _))))
  refine wpQuiet_nil ?_
  rintro _ ⟨q, rfl⟩
  have hq := q.bel
  clear hne k1
  go_wp2
  go_quiet (fail)
  go_wp2
  go_ret3
  exact ⟨rfl, below_drewN hq _⟩
set_option maxHeartbeats 1600000 in
theorem rf_cut (s : ByteArray) (w : World) (hs : s.size ≤ 1000000) (h6 : 6 ≤ s.size) (A B : ByteArray) (hB : s.extract 2 6 = B) (k : ∀ u : World, Calls Tryz.prog 90 #[.string (s.extract 0 2)] u fun e w' => e = .returned (.string A) ∧ Below u.heap.size u w') (hAB : A = B) (c : Nat) (x y : UInt8) (x0 : ∀ u, (Instr.index 9 (.string s) (.int .i64 0)).run Tryz.prog u = .ok (.int .u8 (x.toNat : Int)) u) (x1 : ∀ u, (Instr.index 9 (.string s) (.int .i64 1)).run Tryz.prog u = .ok (.int .u8 (y.toNat : Int)) u) (hc : wrap64 (wrap64 (wrap64 (x.toNat : Int) * 256) + wrap64 (y.toNat : Int)) = (c : Int)) (h2 : c ≤ 2000) (h3 : s.size < c + 10) :
    Calls Tryz.prog 85 #[.string s] w fun e w' => e = .returned (.tuple #[.string ⟨#[]⟩, .int .i64 0, .int .i64 3]) ∧ Below w.heap.size w w' := by
  have d1 : decide ((s.size : Int) < 6) = false := by simp; omega
  have e1 := bne_strs hAB
  have e2 := beq_strs' hAB
  have e3 : A.toList = B.toList := by rw [hAB]
  clear hAB
  have k1 : Aside (∀ q : Later w, _) := fun q : Later w => k q.u
  clear k
  have d2 : decide (2000 < (c : Int)) = false := by simp; omega
  have d3 : decide ((s.size : Int) < (c : Int) + 10) = true := by simp; omega
  go_enter Tryz.func85, Tryz.ntmps85
  go_wp2_with fail
  have hne := later_some w
  refine wp_region_later (by kernel_rfl) (by kernel_rfl) ?_
  repeat (go_big_quiet_step ((go_at_call 90; exact calls_later (k1.out _))))
  refine wpQuiet_nil ?_
  rintro _ ⟨q, rfl⟩
  have hq := q.bel
  clear hne k1
  go_wp2
  go_quiet (fail)
  go_wp2
  go_ret3
  exact ⟨rfl, below_drewN hq _⟩
set_option maxHeartbeats 1600000 in
theorem rf_rot (s : ByteArray) (w : World) (hs : s.size ≤ 1000000) (h6 : 6 ≤ s.size) (A B : ByteArray) (hB : s.extract 2 6 = B) (k : ∀ u : World, Calls Tryz.prog 90 #[.string (s.extract 0 2)] u fun e w' => e = .returned (.string A) ∧ Below u.heap.size u w') (hAB : A = B) (c : Nat) (x y : UInt8) (x0 : ∀ u, (Instr.index 9 (.string s) (.int .i64 0)).run Tryz.prog u = .ok (.int .u8 (x.toNat : Int)) u) (x1 : ∀ u, (Instr.index 9 (.string s) (.int .i64 1)).run Tryz.prog u = .ok (.int .u8 (y.toNat : Int)) u) (hc : wrap64 (wrap64 (wrap64 (x.toNat : Int) * 256) + wrap64 (y.toNat : Int)) = (c : Int)) (h2 : c ≤ 2000) (h3 : c + 10 ≤ s.size) (C D : ByteArray) (hD : s.extract (c + 6) (c + 10) = D) (k' : ∀ u : World, Calls Tryz.prog 90 #[.string (s.extract 6 (c + 6))] u fun e w' => e = .returned (.string C) ∧ Below u.heap.size u w') (hCD : C ≠ D) :
    Calls Tryz.prog 85 #[.string s] w fun e w' => e = .returned (.tuple #[.string ⟨#[]⟩, .int .i64 0, .int .i64 4]) ∧ Below w.heap.size w w' := by
  have d1 : decide ((s.size : Int) < 6) = false := by simp; omega
  have e1 := bne_strs hAB
  have e2 := beq_strs' hAB
  have e3 : A.toList = B.toList := by rw [hAB]
  clear hAB
  have k1 : Aside (∀ q : Later w, _) := fun q : Later w => k q.u
  clear k
  have k2 : Aside (∀ u : World, ∀ q : Later u, _) := fun u (q : Later u) => k' q.u
  clear k'
  have d2 : decide (2000 < (c : Int)) = false := by simp; omega
  have d3 : decide ((s.size : Int) < (c : Int) + 10) = false := by simp; omega
  have e4 := bne_strs' hCD
  have e5 := beq_strs hCD
  have e6 := ne_list hCD
  clear hCD
  go_enter Tryz.func85, Tryz.ntmps85
  go_wp2_with fail
  have hne := later_some w
  refine wp_region_later (by kernel_rfl) (by kernel_rfl) ?_
  repeat (go_big_quiet_step ((go_at_call 90; exact calls_later (k1.out _))))
  refine wpQuiet_nil ?_
  rintro _ ⟨q, rfl⟩
  have hq := q.bel
  clear hne k1
  go_wp2
  go_quiet (fail)
  have hq2 := below_drewN hq nq
  generalize q.u.drewN nq = u2 at *
  go_wp2_with fail
  have hne := later_some u2
  refine wp_region_later (by kernel_rfl) (by kernel_rfl) ?_
  repeat (go_big_quiet_step ((go_at_call 90; exact calls_later (k2.out _ _))))
  refine wpQuiet_nil ?_
  rintro _ ⟨q2, rfl⟩
  have hq3 := q2.bel
  clear hne k2
  go_wp2
  go_ret3
  exact ⟨rfl, hq2.trans (hq3.mono hq2.size)⟩
set_option maxHeartbeats 1600000 in
theorem rf_ok (s : ByteArray) (w : World) (hs : s.size ≤ 1000000) (h6 : 6 ≤ s.size) (A B : ByteArray) (hB : s.extract 2 6 = B) (k : ∀ u : World, Calls Tryz.prog 90 #[.string (s.extract 0 2)] u fun e w' => e = .returned (.string A) ∧ Below u.heap.size u w') (hAB : A = B) (c : Nat) (x y : UInt8) (x0 : ∀ u, (Instr.index 9 (.string s) (.int .i64 0)).run Tryz.prog u = .ok (.int .u8 (x.toNat : Int)) u) (x1 : ∀ u, (Instr.index 9 (.string s) (.int .i64 1)).run Tryz.prog u = .ok (.int .u8 (y.toNat : Int)) u) (hc : wrap64 (wrap64 (wrap64 (x.toNat : Int) * 256) + wrap64 (y.toNat : Int)) = (c : Int)) (h2 : c ≤ 2000) (h3 : c + 10 ≤ s.size) (C D : ByteArray) (hD : s.extract (c + 6) (c + 10) = D) (k' : ∀ u : World, Calls Tryz.prog 90 #[.string (s.extract 6 (c + 6))] u fun e w' => e = .returned (.string C) ∧ Below u.heap.size u w') (hCD : C = D) :
    Calls Tryz.prog 85 #[.string s] w fun e w' => e = .returned (.tuple #[.string (s.extract 6 (c + 6)), .int .i64 ((c : Int) + 10), .int .i64 0]) ∧ Below w.heap.size w w' := by
  have d1 : decide ((s.size : Int) < 6) = false := by simp; omega
  have e1 := bne_strs hAB
  have e2 := beq_strs' hAB
  have e3 : A.toList = B.toList := by rw [hAB]
  clear hAB
  have k1 : Aside (∀ q : Later w, _) := fun q : Later w => k q.u
  clear k
  have k2 : Aside (∀ u : World, ∀ q : Later u, _) := fun u (q : Later u) => k' q.u
  clear k'
  have d2 : decide (2000 < (c : Int)) = false := by simp; omega
  have d3 : decide ((s.size : Int) < (c : Int) + 10) = false := by simp; omega
  have e4 := bne_strs hCD
  have e5 := beq_strs' hCD
  have e6 : C.toList = D.toList := by rw [hCD]
  clear hCD
  go_enter Tryz.func85, Tryz.ntmps85
  go_wp2_with fail
  have hne := later_some w
  refine wp_region_later (by kernel_rfl) (by kernel_rfl) ?_
  repeat (go_big_quiet_step ((go_at_call 90; exact calls_later (k1.out _))))
  refine wpQuiet_nil ?_
  rintro _ ⟨q, rfl⟩
  have hq := q.bel
  clear hne k1
  go_wp2
  go_quiet (fail)
  have hq2 := below_drewN hq nq
  generalize q.u.drewN nq = u2 at *
  go_wp2_with fail
  have hne := later_some u2
  refine wp_region_later (by kernel_rfl) (by kernel_rfl) ?_
  repeat (go_big_quiet_step ((go_at_call 90; exact calls_later (k2.out _ _))))
  refine wpQuiet_nil ?_
  rintro _ ⟨q2, rfl⟩
  have hq3 := q2.bel
  clear hne k2
  go_wp2
  go_ret3
  exact ⟨rfl, hq2.trans (hq3.mono hq2.size)⟩

theorem refFirst_any (s : ByteArray) (w : World) (hs : s.size ≤ 1000000) :
    Calls Tryz.prog 85 #[.string s] w fun e w' => e = .returned (fst3 s.data.toList) ∧ Below w.heap.size w w' := by
  unfold fst3 Fr.first
  rw [list_len]
  by_cases h6 : s.size < 6
  · rw [if_pos h6]
    exact rf_short s w hs h6
  · rw [if_neg h6]
    have l2 : (s.extract 0 2).data.toList = s.data.toList.take 2 := by rw [list_cut]; simp
    have z2 : (s.extract 0 2).size = 2 := by simp; omega
    have k1 : ∀ u : World, _ := fun u : World => four_bs (s.extract 0 2) u (by omega)
    have e26 : (s.extract 2 6).data.toList = (s.data.toList.take 6).drop 2 := by rw [list_cut]
    have hAB : bs (Fr.four (s.extract 0 2).data.toList) = s.extract 2 6 ↔ Fr.sl (s.data.toList.take 2) = s.data.toList.take 6 := by
      have e6 : s.data.toList.take 6 = s.data.toList.take 2 ++ (s.data.toList.take 6).drop 2 := by
        conv => lhs; rw [← List.take_append_drop 2 (s.data.toList.take 6), List.take_take]
        rfl
      rw [e6]
      unfold Fr.sl
      rw [List.append_cancel_left_eq, l2]
      constructor
      · intro h
        rw [← e26, ← h, bs_list]
      · intro h
        apply list_ext
        rw [bs_list, e26, h]
    by_cases hh : Fr.sl (s.data.toList.take 2) = s.data.toList.take 6
    · rw [if_neg (by simpa using hh)]
      have ha := hAB.2 hh
      have ec := cnt_whole s (by omega)
      have x0 : ∀ u, _ := fun u => index_str s 0 (by omega) 0 rfl u
      have x1 : ∀ u, _ := fun u => index_str s 1 (by omega) 1 rfl u
      have hc := wcnt s[0].toNat s[1].toNat (UInt8.toNat_lt _) (UInt8.toNat_lt _)
      rw [← ec] at hc
      by_cases h2 : 2000 < Fr.cnt s.data.toList
      · rw [if_pos h2]
        exact rf_over s w hs (by omega) _ _ rfl k1 ha _ _ _ x0 x1 hc h2
      · rw [if_neg h2]
        generalize Fr.cnt s.data.toList = c at *
        by_cases h3 : s.size < c + 10
        · rw [if_pos h3]
          exact rf_cut s w hs (by omega) _ _ rfl k1 ha _ _ _ x0 x1 hc (by omega) h3
        · rw [if_neg h3]
          have k2 : ∀ u : World, _ := fun u : World => four_bs (s.extract 6 (c + 6)) u (by simp; omega)
          have lc : (s.extract 6 (c + 6)).data.toList = (s.data.toList.drop 6).take c := by
            rw [list_cut, List.drop_take]
            congr 1
          have ld : (s.extract (c + 6) (c + 10)).data.toList = ((s.data.toList.drop 6).take (c + 4)).drop c := by
            rw [list_cut, List.drop_take, List.drop_take, List.drop_drop]
            congr 1
            · omega
            · congr 1
              omega
          have hCD : bs (Fr.four (s.extract 6 (c + 6)).data.toList) = s.extract (c + 6) (c + 10) ↔ Fr.sl ((s.data.toList.drop 6).take c) = (s.data.toList.drop 6).take (c + 4) := by
            have e6 : (s.data.toList.drop 6).take (c + 4) = (s.data.toList.drop 6).take c ++ ((s.data.toList.drop 6).take (c + 4)).drop c := by
              conv => lhs; rw [← List.take_append_drop c ((s.data.toList.drop 6).take (c + 4)), List.take_take, show min c (c + 4) = c by omega]
            rw [e6]
            unfold Fr.sl
            rw [List.append_cancel_left_eq, lc]
            constructor
            · intro h
              rw [← ld, ← h, bs_list]
            · intro h
              apply list_ext
              rw [bs_list, ld, h]
          by_cases h4 : Fr.sl ((s.data.toList.drop 6).take c) = (s.data.toList.drop 6).take (c + 4)
          · rw [if_neg (by simpa using h4)]
            have := rf_ok s w hs (by omega) _ _ rfl k1 ha _ _ _ x0 x1 hc (by omega) (by omega) _ _ rfl k2 (hCD.2 h4)
            rw [← lc]
            simp only [bs_data]
            exact this
          · rw [if_pos (by simpa using h4)]
            exact rf_rot s w hs (by omega) _ _ rfl k1 ha _ _ _ x0 x1 hc (by omega) (by omega) _ _ rfl k2 (fun e => h4 (hCD.1 e))
    · rw [if_pos (by simpa using hh)]
      exact rf_head s w hs (by omega) _ _ rfl k1 (fun e => hh (hAB.1 e))
end Go.Proofs.YtajjcfacbnicnaaGreatDoor.Fm

/-
  Split, by the program and by the document.
-/
namespace Go.Proofs.YtajjcfacbnicnaaGreatDoor.Fm
open Go.RowKit
set_option maxRecDepth 100000
/-- Texts as cells. -/
def cellsS (l : List ByteArray) : List Value := l.map Value.string
theorem cellsS_snoc (l : List ByteArray) (x : ByteArray) : cellsS l ++ [.string x] = cellsS (l ++ [x]) := by
  simp [cellsS]
theorem info9 : (Tryz.prog.info? 9).map (fun i => (i.zero, i.size, i.bytes)) = some (some (.string ⟨#[]⟩), 1, 16) := by kernel_rfl

/-- What Split answers. -/
def Spl (w w' : World) (e : Ending) (r : List (List UInt8) × Nat × Nat) : Prop :=
  ∃ v, e = .returned (.tuple #[v, .int .i64 (r.2.1 : Nat), .int .i64 (r.2.2 : Nat)]) ∧ w'.ownsRow w.heap.size 9 1 v r.1.length (cellsS (r.1.map bs)) ∧ Below w.heap.size w w'

/-- What holds at each round's head. -/
def SRel (s : ByteArray) (w : World) (v s6 : Value) (wr : World) (p : Nat) (R : List (List UInt8) × Nat × Nat) : Prop :=
  ∃ acc : List (List UInt8), s6 = .int .i64 (p : Int) ∧ wr.ownsRow w.heap.size 9 1 v acc.length (cellsS (acc.map bs)) ∧ Below w.heap.size w wr ∧ Fr.spx (s.data.toList.drop p) acc p = R ∧ p ≤ s.size ∧ acc.length ≤ p

theorem own_below {w w' : World} {base : Nat} {e : TypeId} {size : Nat} {v : Value} {n : Nat} {xs : List Value} (h : w.ownsRow base e size v n xs) (hb : Below w.heap.size w w') : w'.ownsRow base e size v n xs := by
  obtain ⟨h1, h2⟩ := h
  refine ⟨h1, ?_⟩
  rcases h2 with h2 | ⟨g, cap, cur, hv, hg, hh, r⟩
  · exact .inl h2
  · have hlt : g < w.heap.size := (Array.getElem?_eq_some_iff.1 hh).1
    exact .inr ⟨g, cap, cur, hv, hg, (hb.block g hlt).trans hh, r⟩

set_option maxHeartbeats 1600000 in
set_option maxRecDepth 1000000 in
theorem split_any (s : ByteArray) (w : World) (hs : s.size ≤ 1000000) :
    Calls Tryz.prog 83 #[.string s] w fun e w' => Spl w w' e (Fr.spx s.data.toList [] 0) := by
  obtain ⟨i0, hi, hz0, hz1, hz2⟩ := info_parts info9
  unfold Spl
  generalize hR : Fr.spx s.data.toList [] 0 = R
  go_enter Tryz.func83, Tryz.ntmps83
  go_wp2
  go_loopg [5, 6] s.size (fun gh v s6 wr => ∃ p : Nat, s.size - p ≤ gh ∧ SRel s w v s6 wr p R)
  case atStart => exact ⟨0, by omega, [], rfl, World.ownsRow_nil _ _ _ _, Below.refl _ _, hR, by omega, by simp⟩
  case round =>
    obtain ⟨p, hgh, acc, rfl, hown, hbw, hl, hps, hLp⟩ := hrel
    by_cases hp : p < s.size
    · have d1 : decide (p < s.size) = true := by simpa using hp
      have hne : s.data.toList.drop p ≠ [] := by
        intro e
        have := congrArg List.length e
        rw [List.length_drop, list_len] at this
        simp at this
        omega
      have le : (s.extract p s.size).data.toList = s.data.toList.drop p := by
        rw [list_cut, List.take_of_length_le (by rw [list_len]; omega)]
      have k : ∀ u : World, _ := fun u : World => first_any (s.extract p s.size) u (by simp; omega)
      rw [le] at k
      unfold fst3 at k
      by_cases h0 : (Fr.first (s.data.toList.drop p)).2.2 = 0
      · have ho := Fr.first_ok h0
        rw [Fr.spx_ok _ _ hne h0] at hl
        rw [h0] at k
        generalize Fr.first (s.data.toList.drop p) = r at *
        obtain ⟨x, n, f⟩ := r
        simp only [List.length_drop, list_len] at ho h0 hl k
        rw [List.drop_drop] at hl
        have HL : Aside _ := hl
        have K : Aside _ := k
        clear hl k hne le h0 hR
        obtain ⟨ho1, ho2, ho3⟩ := ho
        have hbs : (bs x).size = x.length := bs_size x
        generalize hX : bs x = X at *
        go_wp2_with (first
          | (go_at_call 105; refine (K.out _).mono ?_; rintro e w1 ⟨rfl, hb1⟩; have p1 := own_below hown hb1; clear K)
          | (at_builtin; refine wpList_append_own _ rfl (.tmp 27) (.tmp 29) 30 rfl w.heap.size 9 i0 (.string ⟨#[]⟩) 1 16 Tryz.underlying30 hi hz0 hz1 hz2 rfl (by decide) _ _ _ rfl (p1.alloc _) ⟨_, 0, none⟩ 1 1 [.string X] rfl rfl ?c1 ?c2 ?c3 ?c4 ?c5 ?_))
        case c1 => exact (cell_one_new _ _ _)
        case c2 => intro u hu; simp at hu; subst hu; rfl
        case c3 => unfold maxLen; omega
        case c4 => omega
        case c5 => have t1 := hb1.size; have t2 := hbw.size; simp; omega
        intro v' w2 hown' hgrow _
        go_wp2
        go_roundg (s.size - (p + n))
        case measure => omega
        case rel =>
          have hsz := hb1.size
          have hsz2 := hbw.size
          refine ⟨p + n, Nat.le_refl _, acc ++ [x], by go_num, ?_, ?_, HL.out, by omega, by simp; omega⟩
          · rw [List.map_append, List.map_cons, List.map_nil, hX, ← cellsS_snoc, List.length_append]
            exact hown'
          · exact (((hbw.trans (hb1.mono hsz2)).alloc (by omega) _).grown hgrow (by simp; omega) (fun j hj => (p1.lt j hj).1))
      · have hb := Fr.first_bad h0
        rw [Fr.spx_bad _ _ hne h0] at hl
        generalize Fr.first (s.data.toList.drop p) = r at *
        obtain ⟨x, n, f⟩ := r
        simp only at hb h0 hl k
        obtain ⟨rfl, rfl⟩ := hb
        have d2 : ((f : Int) != 0) = true := by simp; omega
        have d3 : ¬ ((f : Int) = 0) := by omega
        have d4 : ((f : Int) == 0) = false := by simp; omega
        have K : Aside _ := k
        clear k hne le h0 hR
        subst hl
        go_wp2_with (go_at_call 105; refine (K.out _).mono ?_; rintro e w1 ⟨rfl, hb1⟩; have p1 := own_below hown hb1; clear K)
        go_ret3
        exact ⟨_, rfl, p1, hbw.trans (hb1.mono hbw.size)⟩
    · obtain rfl : p = s.size := by omega
      have d1 : decide (s.size < s.size) = false := by simp
      rw [List.drop_of_length_le (by rw [list_len]; omega), Fr.spx_nil] at hl
      subst hl
      go_wp2
      go_ret3
      exact ⟨_, rfl, hown, hbw⟩

set_option maxHeartbeats 1600000 in
set_option maxRecDepth 1000000 in
theorem refSplit_any (s : ByteArray) (w : World) (hs : s.size ≤ 1000000) :
    Calls Tryz.prog 43 #[.string s] w fun e w' => Spl w w' e (Fr.spx s.data.toList [] 0) := by
  obtain ⟨i0, hi, hz0, hz1, hz2⟩ := info_parts info9
  unfold Spl
  generalize hR : Fr.spx s.data.toList [] 0 = R
  go_enter Tryz.func43, Tryz.ntmps43
  go_wp2
  go_loopg [5, 6] s.size (fun gh v s6 wr => ∃ p : Nat, s.size - p ≤ gh ∧ SRel s w v s6 wr p R)
  case atStart => exact ⟨0, by omega, [], rfl, World.ownsRow_nil _ _ _ _, Below.refl _ _, hR, by omega, by simp⟩
  case round =>
    obtain ⟨p, hgh, acc, rfl, hown, hbw, hl, hps, hLp⟩ := hrel
    by_cases hp : p < s.size
    · have d1 : decide (p < s.size) = true := by simpa using hp
      have hne : s.data.toList.drop p ≠ [] := by
        intro e
        have := congrArg List.length e
        rw [List.length_drop, list_len] at this
        simp at this
        omega
      have le : (s.extract p s.size).data.toList = s.data.toList.drop p := by
        rw [list_cut, List.take_of_length_le (by rw [list_len]; omega)]
      have k : ∀ u : World, _ := fun u : World => refFirst_any (s.extract p s.size) u (by simp; omega)
      rw [le] at k
      unfold fst3 at k
      by_cases h0 : (Fr.first (s.data.toList.drop p)).2.2 = 0
      · have ho := Fr.first_ok h0
        rw [Fr.spx_ok _ _ hne h0] at hl
        rw [h0] at k
        generalize Fr.first (s.data.toList.drop p) = r at *
        obtain ⟨x, n, f⟩ := r
        simp only [List.length_drop, list_len] at ho h0 hl k
        rw [List.drop_drop] at hl
        have HL : Aside _ := hl
        have K : Aside _ := k
        clear hl k hne le h0 hR
        obtain ⟨ho1, ho2, ho3⟩ := ho
        have hbs : (bs x).size = x.length := bs_size x
        generalize hX : bs x = X at *
        go_wp2_with (first
          | (go_at_call 85; refine (K.out _).mono ?_; rintro e w1 ⟨rfl, hb1⟩; have p1 := own_below hown hb1; clear K)
          | (at_builtin; refine wpList_append_own _ rfl (.tmp 27) (.tmp 29) 30 rfl w.heap.size 9 i0 (.string ⟨#[]⟩) 1 16 Tryz.underlying30 hi hz0 hz1 hz2 rfl (by decide) _ _ _ rfl (p1.alloc _) ⟨_, 0, none⟩ 1 1 [.string X] rfl rfl ?c1 ?c2 ?c3 ?c4 ?c5 ?_))
        case c1 => exact (cell_one_new _ _ _)
        case c2 => intro u hu; simp at hu; subst hu; rfl
        case c3 => unfold maxLen; omega
        case c4 => omega
        case c5 => have t1 := hb1.size; have t2 := hbw.size; simp; omega
        intro v' w2 hown' hgrow _
        go_wp2
        go_roundg (s.size - (p + n))
        case measure => omega
        case rel =>
          have hsz := hb1.size
          have hsz2 := hbw.size
          refine ⟨p + n, Nat.le_refl _, acc ++ [x], by go_num, ?_, ?_, HL.out, by omega, by simp; omega⟩
          · rw [List.map_append, List.map_cons, List.map_nil, hX, ← cellsS_snoc, List.length_append]
            exact hown'
          · exact (((hbw.trans (hb1.mono hsz2)).alloc (by omega) _).grown hgrow (by simp; omega) (fun j hj => (p1.lt j hj).1))
      · have hb := Fr.first_bad h0
        rw [Fr.spx_bad _ _ hne h0] at hl
        generalize Fr.first (s.data.toList.drop p) = r at *
        obtain ⟨x, n, f⟩ := r
        simp only at hb h0 hl k
        obtain ⟨rfl, rfl⟩ := hb
        have d2 : ((f : Int) != 0) = true := by simp; omega
        have d3 : ¬ ((f : Int) = 0) := by omega
        have d4 : ((f : Int) == 0) = false := by simp; omega
        have K : Aside _ := k
        clear k hne le h0 hR
        subst hl
        go_wp2_with (go_at_call 85; refine (K.out _).mono ?_; rintro e w1 ⟨rfl, hb1⟩; have p1 := own_below hown hb1; clear K)
        go_ret3
        exact ⟨_, rfl, p1, hbw.trans (hb1.mono hbw.size)⟩
    · obtain rfl : p = s.size := by omega
      have d1 : decide (s.size < s.size) = false := by simp
      rw [List.drop_of_length_le (by rw [list_len]; omega), Fr.spx_nil] at hl
      subst hl
      go_wp2
      go_ret3
      exact ⟨_, rfl, hown, hbw⟩

end Go.Proofs.YtajjcfacbnicnaaGreatDoor.Fm

/-
  Texts side by side; the first few calls of each statement answer true.
-/
namespace Go.Proofs.YtajjcfacbnicnaaGreatDoor.Fm
open Go.RowKit
set_option maxRecDepth 100000
/-- What a slice of texts holds. -/
def Strs (B : Nat) (v : Value) (l : List ByteArray) (w : World) : Prop :=
  ∃ a c, v = .slice a l.length c ∧ ∀ j, j < l.length → ∃ g o, a = some ⟨g, o, none⟩ ∧ g < B ∧ w.cell? ⟨g, o + j, none⟩ = some (.string (l.getD j ⟨#[]⟩))

theorem Strs.of_own {w : World} {base : Nat} {v : Value} {l : List ByteArray} (h : w.ownsRow base 9 1 v l.length (cellsS l)) : Strs w.heap.size v l w := by
  rcases h.2 with ⟨rfl, h0⟩ | ⟨g, cap, cur, rfl, hg, hh, _⟩
  · have : l = [] := List.eq_nil_of_length_eq_zero h0
    subst this
    exact ⟨none, 0, rfl, fun j hj => absurd hj (by simp)⟩
  · refine ⟨_, cap, rfl, fun j hj => ⟨g, 0, rfl, (Array.getElem?_eq_some_iff.1 hh).1, ?_⟩⟩
    rw [Nat.zero_add, h.cellAt j (by omega)]
    simp [cellsS, List.getD, List.getElem?_eq_getElem hj]

theorem Strs.later {B : Nat} {v : Value} {l : List ByteArray} {w u : World} (h : Strs B v l w) (hb : Below B w u) : Strs B v l u := by
  obtain ⟨a, c, h1, h2⟩ := h
  refine ⟨a, c, h1, fun j hj => ?_⟩
  obtain ⟨g, o, h3, h4, h5⟩ := h2 j hj
  exact ⟨g, o, h3, h4, by rw [hb.cell (by exact h4)]; exact h5⟩
theorem Strs.wider {B C : Nat} {v : Value} {l : List ByteArray} {w : World} (h : Strs B v l w) (hb : B ≤ C) : Strs C v l w := by
  obtain ⟨a, c, h1, h2⟩ := h
  refine ⟨a, c, h1, fun j hj => ?_⟩
  obtain ⟨g, o, h3, h4, h5⟩ := h2 j hj
  exact ⟨g, o, h3, Nat.lt_of_lt_of_le h4 hb, h5⟩

theorem spl_strs {w w' : World} {e : Ending} {r : List (List UInt8) × Nat × Nat} (h : Spl w w' e r) : ∃ v, e = .returned (.tuple #[v, .int .i64 (r.2.1 : Nat), .int .i64 (r.2.2 : Nat)]) ∧ Strs w'.heap.size v (r.1.map bs) w' ∧ Below w.heap.size w w' := by
  obtain ⟨v, h1, h2, h3⟩ := h
  refine ⟨v, h1, ?_, h3⟩
  have := Strs.of_own (l := r.1.map bs) (base := w.heap.size) (v := v) (w := w') (by rw [List.length_map]; exact h2)
  exact this

def abc : List UInt8 := [97, 98, 99]
end Go.Proofs.YtajjcfacbnicnaaGreatDoor.Fm
