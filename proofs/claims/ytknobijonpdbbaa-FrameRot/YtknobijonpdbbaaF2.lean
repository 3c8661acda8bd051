/-
  What the head of a frame tells.
-/
import Derived.Test.YtknobijonpdbbaaF1
import Derived.WalkSmall
namespace Go.Proofs.Ytknobijonpdbbaa
open Go.RowKit
/-- What Open answers of bytes in parts: the content b, and behind it t. -/
theorem open_list (s : ByteArray) (w : World) (h4 : 4 ≤ s.size) (hs : s.size ≤ 1000000) :
    Calls Try.prog 21 #[.string s] w fun e w' => e = .returned (.tuple #[.string (if Fr.sl (s.data.toList.take (s.size - 4)) = s.data.toList then s.extract 0 (s.size - 4) else ⟨#[]⟩), .bool (decide (Fr.sl (s.data.toList.take (s.size - 4)) = s.data.toList))]) ∧ Below w.heap.size w w' := by
  have e0 : (s.extract 0 (s.size - 4)).data.toList = s.data.toList.take (s.size - 4) := by rw [list_cut]; simp
  have e1 : (s.extract (s.size - 4) s.size).data.toList = s.data.toList.drop (s.size - 4) := by
    rw [list_cut, List.take_of_length_le (by rw [list_len]; omega)]
  by_cases h : Fr.sl (s.data.toList.take (s.size - 4)) = s.data.toList
  · rw [if_pos h, decide_eq_true h]
    refine open_yes s _ _ w h4 hs rfl rfl ?_
    apply list_ext
    rw [e1, e0, sb_bs, bs_list]
    have h2 : s.data.toList.take (s.size - 4) ++ Fr.four (s.data.toList.take (s.size - 4)) = s.data.toList.take (s.size - 4) ++ s.data.toList.drop (s.size - 4) := by
      rw [List.take_append_drop]
      exact h
    exact (List.append_cancel_left h2).symm
  · rw [if_neg h, decide_eq_false h]
    refine open_no s _ _ w h4 hs rfl rfl fun he => h ?_
    have := congrArg (fun x : ByteArray => x.data.toList) he
    simp only [e1, e0, sb_bs, bs_list] at this
    unfold Fr.sl
    conv => rhs; rw [← List.take_append_drop (s.size - 4) s.data.toList, this]
    rfl

theorem or8 (a b : Nat) (ha : a < 256) (hb : b < 256) : bits .or .i64 ((a : Int) * 256) (b : Int) = ((a * 256 + b : Nat) : Int) := by
  show IntKind.i64.wrap ((BitVec.ofInt 64 ((a : Int) * 256) ||| BitVec.ofInt 64 (b : Int)).toNat : Int) = _
  have e : (a : Int) * 256 = ((a * 256 : Nat) : Int) := by omega
  rw [e, BitVec.toNat_or]
  have h1 : (BitVec.ofInt 64 ((a * 256 : Nat) : Int)).toNat = a * 256 := by
    rw [BitVec.ofInt_natCast, BitVec.toNat_ofNat]; exact Nat.mod_eq_of_lt (by omega)
  have h2 : (BitVec.ofInt 64 (b : Int)).toNat = b := by
    rw [BitVec.ofInt_natCast, BitVec.toNat_ofNat]; exact Nat.mod_eq_of_lt (by omega)
  rw [h1, h2]
  have := Nat.two_pow_add_eq_or_of_lt (i := 8) (b := b) (by omega) a
  rw [show a * 256 = 2 ^ 8 * a by omega, ← this]
  rw [IntKind.wrap_i64]
  omega

theorem w64 (x : Int) (h0 : 0 ≤ x) (h1 : x < 1000000000000) : wrap64 x = x := by
  have := IntKind.wrap_i64 x
  unfold IntKind.wrap at this
  simp at this
  unfold wrap64
  omega
theorem or8w (a b : Nat) (ha : a < 256) (hb : b < 256) : bits .or .i64 (wrap64 (wrap64 (a : Int) * 256)) (wrap64 (b : Int)) = ((a * 256 + b : Nat) : Int) := by
  rw [w64 (a : Int) (by omega) (by omega), w64 ((a : Int) * 256) (by omega) (by omega), w64 (b : Int) (by omega) (by omega)]
  exact or8 a b ha hb

/-- What the head tells: how many, and the fault. -/
def told (l : List UInt8) : Nat × Nat :=
  if l.length < 6 then (0, 3) else if Fr.sl (l.take 2) ≠ l.take 6 then (0, 4) else if 2000 < Fr.cnt l then (0, 5) else (Fr.cnt l, 0)


theorem cnt_index (b : ByteArray) (l : List UInt8) (hl : b.data.toList = l.take 2) (z2 : b.size = 2) : Fr.cnt l = b[0].toNat * 256 + b[1].toNat := by
  have e : Fr.cnt l = Fr.cnt (l.take 2) := by
    unfold Fr.cnt
    simp [List.getD]
  have hz : b.data.size = 2 := z2
  rw [e, ← hl]
  unfold Fr.cnt
  simp [List.getD, hz]
  rfl

theorem told_over (s b : ByteArray) (c : Nat) (w : World) (hs : s.size ≤ 1000000) (h6 : 6 ≤ s.size) (d1 : decide ((s.size : Int) < 6) = false) (z2 : b.size = 2) (k : Calls Try.prog 21 #[.string (s.extract 0 6)] w fun e w' => e = .returned (.tuple #[.string b, .bool true]) ∧ Below w.heap.size w w') (ho : bits .or .i64 (wrap64 (wrap64 (b[0].toNat : Int) * 256)) (wrap64 (b[1].toNat : Int)) = (c : Int)) (d3 : decide (2000 < (c : Int)) = true) :
    Calls Try.prog 20 #[.string s] w fun e w' => e = .returned (.tuple #[.int .i64 0, .int .i64 5]) ∧ Below w.heap.size w w' := by
  go_enter Try.func20, Try.ntmps20
  go_wp2_with (go_at_call 21; refine k.mono ?_; rintro e w1 ⟨rfl, hb1⟩)
  clear k
  go_quiet (fail)
  go_wp2
  go_ret2
  exact ⟨rfl, below_drewN hb1 _⟩

theorem told_fits (s b : ByteArray) (c : Nat) (w : World) (hs : s.size ≤ 1000000) (h6 : 6 ≤ s.size) (d1 : decide ((s.size : Int) < 6) = false) (z2 : b.size = 2) (k : Calls Try.prog 21 #[.string (s.extract 0 6)] w fun e w' => e = .returned (.tuple #[.string b, .bool true]) ∧ Below w.heap.size w w') (ho : bits .or .i64 (wrap64 (wrap64 (b[0].toNat : Int) * 256)) (wrap64 (b[1].toNat : Int)) = (c : Int)) (d3 : decide (2000 < (c : Int)) = false) :
    Calls Try.prog 20 #[.string s] w fun e w' => e = .returned (.tuple #[.int .i64 (c : Int), .int .i64 0]) ∧ Below w.heap.size w w' := by
  go_enter Try.func20, Try.ntmps20
  go_wp2_with (go_at_call 21; refine k.mono ?_; rintro e w1 ⟨rfl, hb1⟩)
  clear k
  go_quiet (fail)
  go_wp2
  go_ret2
  exact ⟨rfl, below_drewN hb1 _⟩

theorem told_rot (s b : ByteArray) (w : World) (hs : s.size ≤ 1000000) (h6 : 6 ≤ s.size) (d1 : decide ((s.size : Int) < 6) = false) (k : Calls Try.prog 21 #[.string (s.extract 0 6)] w fun e w' => e = .returned (.tuple #[.string b, .bool false]) ∧ Below w.heap.size w w') :
    Calls Try.prog 20 #[.string s] w fun e w' => e = .returned (.tuple #[.int .i64 0, .int .i64 4]) ∧ Below w.heap.size w w' := by
  go_enter Try.func20, Try.ntmps20
  go_wp2_with (go_at_call 21; refine k.mono ?_; rintro e w1 ⟨rfl, hb1⟩)
  clear k
  go_wp2
  go_ret2
  exact ⟨rfl, hb1⟩

theorem told_any (s : ByteArray) (w : World) (hs : s.size ≤ 1000000) :
    Calls Try.prog 20 #[.string s] w fun e w' => e = .returned (.tuple #[.int .i64 ((told s.data.toList).1 : Nat), .int .i64 ((told s.data.toList).2 : Nat)]) ∧ Below w.heap.size w w' := by
  unfold told
  rw [list_len]
  by_cases h6 : s.size < 6
  · have d1 : decide ((s.size : Int) < 6) = true := by simp; omega
    rw [if_pos h6]
    go_enter Try.func20, Try.ntmps20
    go_wp2
    go_ret2
    exact ⟨rfl, Below.refl _ _⟩
  · have d1 : decide ((s.size : Int) < 6) = false := by simp; omega
    rw [if_neg h6]
    have z6 : (s.extract 0 6).size = 6 := by simp; omega
    have k := open_list (s.extract 0 6) w (by omega) (by omega)
    have l6 : (s.extract 0 6).data.toList = s.data.toList.take 6 := by rw [list_cut]; simp
    have l2 : ((s.extract 0 6).extract 0 2).data.toList = s.data.toList.take 2 := by
      rw [list_cut, l6]
      simp [List.take_take]
    rw [z6, l6, show 6 - 4 = 2 by rfl, List.take_take, show min 2 6 = 2 by rfl] at k
    by_cases hs2 : Fr.sl (s.data.toList.take 2) = s.data.toList.take 6
    · rw [if_pos hs2, decide_eq_true hs2] at k
      rw [if_neg (by simpa using hs2)]
      have z2 : ((s.extract 0 6).extract 0 2).size = 2 := by simp; omega
      have ec := cnt_index _ _ l2 z2
      have ho := or8w ((s.extract 0 6).extract 0 2)[0].toNat ((s.extract 0 6).extract 0 2)[1].toNat (UInt8.toNat_lt _) (UInt8.toNat_lt _)
      rw [← ec] at ho
      by_cases hc : 2000 < Fr.cnt s.data.toList
      · rw [if_pos hc]
        exact told_over s _ _ w hs (by omega) d1 z2 k ho (by simp; omega)
      · rw [if_neg hc]
        exact told_fits s _ _ w hs (by omega) d1 z2 k ho (by simp; omega)
    · rw [if_neg hs2, decide_eq_false hs2] at k
      rw [if_pos hs2]
      exact told_rot s _ w hs (by omega) d1 k
end Go.Proofs.Ytknobijonpdbbaa
