/-
  strings.IndexRune among the signs that are written with a \.
-/
import Derived.Test.YtpeioecpilmpiaaGreatDoorJ12
import Derived.Laws.Runes
import Derived.Laws.RangeAny
import Derived.WalkMore
import Derived.WalkSmall
import Derived.WalkKit
import Derived.WalkSpells
import Derived.WalkLawsBesides
import Derived.Deep.LoopGhost
import Derived.Laws.Externs
import Derived.Below
import Derived.BigQuiet
import Derived.Deep.RegionWith
import Derived.OwnWalk
import Derived.Maps.AppendAt
namespace Go.Proofs.YtpeioecpilmpiaaGreatDoor
open Go.RowKit
open Go.Shelf
def lays137_ren : Go.Shelf.Ren := ⟨fun | 137 => 81 | 217 => 99 | 266 => 115 | n => n, fun | 3 => 3 | 5 => 5 | 9 => 9 | n => n, fun | n => n⟩
theorem lays137 : Go.Proofs.Lays.n137 Tryz.prog lays137_ren := {
  mixed := by kernel_rfl
  f137 := Tryz.func81.trans (congrArg some (by kernel_rfl))
  f217 := Tryz.func99.trans (congrArg some (by kernel_rfl))
  f266 := Tryz.func115.trans (congrArg some (by kernel_rfl))
  t3 := Tryz.underlying3
  a3 := Tryz.isAgg3
  z3 := Tryz.sizeOf3
  v3 := Tryz.zeroValue3
  t5 := Tryz.underlying5
  a5 := Tryz.isAgg5
  z5 := Tryz.sizeOf5
  v5 := Tryz.zeroValue5
  t9 := Tryz.underlying9
  a9 := Tryz.isAgg9
  z9 := Tryz.sizeOf9
  v9 := Tryz.zeroValue9 }
theorem indexByte_any (s : ByteArray) (c : Int) (w : World) :
    Calls Tryz.prog 81 #[.string s, .int .u8 c] w fun e w' => e = .returned (.int .i64 (Lib.indexByte s.data.toList c.toNat.toUInt8)) ∧ w' = w := Any.strings_IndexByte lays137 s c w

abbrev undB : ByteArray := ⟨#[34, 92, 47, 8, 12, 10, 13, 9]⟩
theorem und_hi (l : Js.B) (hl : ∀ x ∈ l, x.toNat < 128) (c : UInt8) (hc : 128 ≤ c.toNat) : Lib.indexByte l c = -1 := by
  induction l with
  | nil => rfl
  | cons a r ih =>
    have h1 := hl a (by simp)
    have hne : a ≠ c := fun e => by subst e; omega
    have := ih (fun x hx => hl x (by simp [hx]))
    simp [Lib.indexByte, hne, this]

set_option maxHeartbeats 1600000 in
set_option maxRecDepth 100000 in
theorem indexRune_err (w : World) :
    Calls Tryz.prog 63 #[.string undB, .int .i32 65533] w fun e w' => e = .returned (.int .i64 (-1)) ∧ Below w.heap.size w w' := by
  go_enter Tryz.func63, Tryz.ntmps63
  go_wp2
  go_loopg [5, 6] 9 (fun gh s5 s6 wr => ∃ j : Nat, 8 - j ≤ gh ∧ j ≤ 8 ∧ wr = w.iter undB j)
  case atStart => exact ⟨0, by omega, by omega, rfl⟩
  case round =>
    obtain ⟨j, hgh, hj, rfl⟩ := hrel
    by_cases h8 : j < 8
    · have hnx : ∀ ty, (Instr.next (.pointer (some ⟨w.heap.size, 0, none⟩)) true ty).run Tryz.prog (w.iter undB j) = _ := fun ty => run_next_any w undB j ty h8
      have hd : Utf8.decode undB j = ((undB.data.toList.getD j 0).toNat, 1) ∧ (undB.data.toList.getD j 0).toNat < 128 := by
        have : ∀ j : Fin 8, Utf8.decode undB j.val = ((undB.data.toList.getD j.val 0).toNat, 1) ∧ (undB.data.toList.getD j.val 0).toNat < 128 := by decide
        exact this ⟨j, h8⟩
      obtain ⟨hd, hlt⟩ := hd
      rw [hd] at hnx
      generalize (undB.data.toList.getD j 0).toNat = n at *
      have z1 : ((n : Int) == 65533) = false := by rw [beq_eq_false_iff_ne]; omega
      clear hd
      go_wp2
      go_roundg (8 - (j + 1))
      case measure => omega
      case rel => exact ⟨j + 1, Nat.le_refl _, by omega, rfl⟩
    · obtain rfl : j = 8 := by omega
      have hnx : ∀ ty, (Instr.next (.pointer (some ⟨w.heap.size, 0, none⟩)) true ty).run Tryz.prog (w.iter undB 8) = _ := fun ty => run_next_end w undB 8 ty (by decide)
      go_wp2
      go_ret
      exact ⟨rfl, below_iter w undB 8⟩
theorem valid_of (n : Nat) (h : Js.isScalar n) : Utf8.valid (n : Int) = true := by
  unfold Js.isScalar at h
  rw [validRune_eq]
  unfold validRune
  exact decide_eq_true (by omega)
theorem enc_utf8 (n : Nat) (h : Js.isScalar n) : Utf8.encode (n : Int) = bs (Lib.encodeRune (n : Int)) := by
  have hv := valid_of n h
  unfold Js.isScalar at h
  unfold Utf8.encode
  rw [if_pos hv]
  unfold Lib.encodeRune
  have ht : ((n : Int)).toNat = n := by omega
  simp only [ht]
  by_cases h1 : n < 128
  · rw [if_pos h1, Lib.encodeRuneZ_one (by omega) (by omega)]
    simp only [List.map_cons, List.map_nil, ht]
  · rw [if_neg h1]
    by_cases h2 : n < 2048
    · rw [if_pos h2, Lib.encodeRuneZ_two (by omega) (by omega)]
      simp only [List.map_cons, List.map_nil]
      rw [show (192 + (n : Int) / 64).toNat = 192 + n / 64 by omega, show (128 + (n : Int) % 64).toNat = 128 + n % 64 by omega]
    · rw [if_neg h2]
      by_cases h3 : n < 65536
      · rw [if_pos h3, Lib.encodeRuneZ_three (by omega)]
        simp only [List.map_cons, List.map_nil]
        rw [show (224 + (n : Int) / 4096).toNat = 224 + n / 4096 by omega, show (128 + (n : Int) / 64 % 64).toNat = 128 + n / 64 % 64 by omega, show (128 + (n : Int) % 64).toNat = 128 + n % 64 by omega]
      · rw [if_neg h3, Lib.encodeRuneZ_four (by omega) (by omega)]
        simp only [List.map_cons, List.map_nil]
        rw [show (240 + (n : Int) / 262144).toNat = 240 + n / 262144 by omega, show (128 + (n : Int) / 4096 % 64).toNat = 128 + n / 4096 % 64 by omega, show (128 + (n : Int) / 64 % 64).toNat = 128 + n / 64 % 64 by omega, show (128 + (n : Int) % 64).toNat = 128 + n % 64 by omega]

theorem validRune_any (n : Nat) (h : Js.isScalar n) (w : World) : Calls Tryz.prog 82 #[.int .i32 (n : Int)] w fun e w' => e = .returned (.bool true) ∧ w' = w := by
  unfold Js.isScalar at h
  by_cases c : n < 55296
  · have z1 : decide ((n : Int) < 55296) = true := decide_eq_true (by omega)
    go_enter Tryz.func82, Tryz.ntmps82
    go_wp2
    go_ret
    exact ⟨rfl, rfl⟩
  · have z1 : decide ((n : Int) < 55296) = false := decide_eq_false (by omega)
    have z2 : decide ((57343 : Int) < n) = true := decide_eq_true (by omega)
    have z3 : decide ((n : Int) ≤ 1114111) = true := decide_eq_true (by omega)
    go_enter Tryz.func82, Tryz.ntmps82
    go_wp2
    go_ret
    exact ⟨rfl, rfl⟩


set_option maxHeartbeats 3200000 in
set_option maxRecDepth 100000 in
theorem indexRune_2 (n : Nat) (h : Js.isScalar n) (h1 : 128 ≤ n) (h2 : n ≠ 65533) (a b : UInt8) (hR : Utf8.encode (n : Int) = ⟨#[a, b]⟩) (hx : 128 ≤ b.toNat) (w : World) :
    Calls Tryz.prog 63 #[.string undB, .int .i32 (n : Int)] w fun e w' => e = .returned (.int .i64 (-1)) ∧ Below w.heap.size w w' := by
  have z1 : decide ((n : Int) < 128) = false := decide_eq_false (by omega)
  have z2 : ((n : Int) == 65533) = false := by rw [beq_eq_false_iff_ne]; omega
  have h32 : (n : Int) ≤ 2147483647 := by unfold Js.isScalar at h; omega
  have VR := asd (fun w => validRune_any n h w)
  have NE : ((undB[1].toNat : Int) != (((⟨#[a, b]⟩ : ByteArray)[1]'(by decide : 1 < 2)).toNat : Int)) = true := by
    have : (((92 : Nat) : Int) != (b.toNat : Int)) = true := by rw [bne_iff_ne]; omega
    exact this
  have IB : Aside (∀ w, Calls Tryz.prog 81 #[.string (undB.extract 2 8), .int .u8 (((⟨#[a, b]⟩ : ByteArray)[1]'(by decide : 1 < 2)).toNat : Int)] w fun e w' => e = .returned (.int .i64 (-1)) ∧ w' = w) := fun w => by
    have := indexByte_any (undB.extract 2 8) (b.toNat : Int) w
    rw [show ((b.toNat : Nat) : Int).toNat.toUInt8 = b by simp, und_hi _ (by decide) b hx] at this
    exact this
  clear h h1 h2
  go_enter Tryz.func63, Tryz.ntmps63
  go_wp2_with (go_at_call 82; refine (VR.out _).mono ?_; rintro e w1 ⟨rfl, rfl⟩)
  go_step3
  go_wp2_with fail
  go_loopg [9, 10] 0 (fun gh s9 s10 wr => s9 = .int .i64 1 ∧ s10 = .int .i64 0 ∧ wr = w1)
  case atStart => exact ⟨rfl, rfl, rfl⟩
  case round =>
    obtain ⟨rfl, rfl, rfl⟩ := hrel
    go_wp2_with fail
    go_step3
    go_wp2_with fail
    go_quiet (fail)
    have BQ := asd (below_q (Below.refl wr.heap.size wr) nq)
    generalize wr.drewN nq = w7 at *
    go_wp2_with fail
    go_quiet (first | (go_at_call 81; exact Calls.quiet_of_same (IB.out _)))
    have BR := asd (below_q BQ.out nq)
    generalize w7.drewN nq = w8 at *
    go_wp2_with fail
    simp only [Exit.noGoto_ret, Exit.inBlock, Exit.then]
    go_ret
    exact ⟨rfl, BR.out⟩
set_option maxHeartbeats 3200000 in
set_option maxRecDepth 100000 in
theorem indexRune_3 (n : Nat) (h : Js.isScalar n) (h1 : 128 ≤ n) (h2 : n ≠ 65533) (a b c : UInt8) (hR : Utf8.encode (n : Int) = ⟨#[a, b, c]⟩) (hx : 128 ≤ c.toNat) (w : World) :
    Calls Tryz.prog 63 #[.string undB, .int .i32 (n : Int)] w fun e w' => e = .returned (.int .i64 (-1)) ∧ Below w.heap.size w w' := by
  have z1 : decide ((n : Int) < 128) = false := decide_eq_false (by omega)
  have z2 : ((n : Int) == 65533) = false := by rw [beq_eq_false_iff_ne]; omega
  have h32 : (n : Int) ≤ 2147483647 := by unfold Js.isScalar at h; omega
  have VR := asd (fun w => validRune_any n h w)
  have NE : ((undB[2].toNat : Int) != (((⟨#[a, b, c]⟩ : ByteArray)[2]'(by decide : 2 < 3)).toNat : Int)) = true := by
    have : (((47 : Nat) : Int) != (c.toNat : Int)) = true := by rw [bne_iff_ne]; omega
    exact this
  have IB : Aside (∀ w, Calls Tryz.prog 81 #[.string (undB.extract 3 8), .int .u8 (((⟨#[a, b, c]⟩ : ByteArray)[2]'(by decide : 2 < 3)).toNat : Int)] w fun e w' => e = .returned (.int .i64 (-1)) ∧ w' = w) := fun w => by
    have := indexByte_any (undB.extract 3 8) (c.toNat : Int) w
    rw [show ((c.toNat : Nat) : Int).toNat.toUInt8 = c by simp, und_hi _ (by decide) c hx] at this
    exact this
  clear h h1 h2
  go_enter Tryz.func63, Tryz.ntmps63
  go_wp2_with (go_at_call 82; refine (VR.out _).mono ?_; rintro e w1 ⟨rfl, rfl⟩)
  go_step3
  go_wp2_with fail
  go_loopg [9, 10] 0 (fun gh s9 s10 wr => s9 = .int .i64 2 ∧ s10 = .int .i64 0 ∧ wr = w1)
  case atStart => exact ⟨rfl, rfl, rfl⟩
  case round =>
    obtain ⟨rfl, rfl, rfl⟩ := hrel
    go_wp2_with fail
    go_step3
    go_wp2_with fail
    go_quiet (fail)
    have BQ := asd (below_q (Below.refl wr.heap.size wr) nq)
    generalize wr.drewN nq = w7 at *
    go_wp2_with fail
    go_quiet (first | (go_at_call 81; exact Calls.quiet_of_same (IB.out _)))
    have BR := asd (below_q BQ.out nq)
    generalize w7.drewN nq = w8 at *
    go_wp2_with fail
    simp only [Exit.noGoto_ret, Exit.inBlock, Exit.then]
    go_ret
    exact ⟨rfl, BR.out⟩
set_option maxHeartbeats 3200000 in
set_option maxRecDepth 100000 in
theorem indexRune_4 (n : Nat) (h : Js.isScalar n) (h1 : 128 ≤ n) (h2 : n ≠ 65533) (a b c d : UInt8) (hR : Utf8.encode (n : Int) = ⟨#[a, b, c, d]⟩) (hx : 128 ≤ d.toNat) (w : World) :
    Calls Tryz.prog 63 #[.string undB, .int .i32 (n : Int)] w fun e w' => e = .returned (.int .i64 (-1)) ∧ Below w.heap.size w w' := by
  have z1 : decide ((n : Int) < 128) = false := decide_eq_false (by omega)
  have z2 : ((n : Int) == 65533) = false := by rw [beq_eq_false_iff_ne]; omega
  have h32 : (n : Int) ≤ 2147483647 := by unfold Js.isScalar at h; omega
  have VR := asd (fun w => validRune_any n h w)
  have NE : ((undB[3].toNat : Int) != (((⟨#[a, b, c, d]⟩ : ByteArray)[3]'(by decide : 3 < 4)).toNat : Int)) = true := by
    have : (((8 : Nat) : Int) != (d.toNat : Int)) = true := by rw [bne_iff_ne]; omega
    exact this
  have IB : Aside (∀ w, Calls Tryz.prog 81 #[.string (undB.extract 4 8), .int .u8 (((⟨#[a, b, c, d]⟩ : ByteArray)[3]'(by decide : 3 < 4)).toNat : Int)] w fun e w' => e = .returned (.int .i64 (-1)) ∧ w' = w) := fun w => by
    have := indexByte_any (undB.extract 4 8) (d.toNat : Int) w
    rw [show ((d.toNat : Nat) : Int).toNat.toUInt8 = d by simp, und_hi _ (by decide) d hx] at this
    exact this
  clear h h1 h2
  go_enter Tryz.func63, Tryz.ntmps63
  go_wp2_with (go_at_call 82; refine (VR.out _).mono ?_; rintro e w1 ⟨rfl, rfl⟩)
  go_step3
  go_wp2_with fail
  go_loopg [9, 10] 0 (fun gh s9 s10 wr => s9 = .int .i64 3 ∧ s10 = .int .i64 0 ∧ wr = w1)
  case atStart => exact ⟨rfl, rfl, rfl⟩
  case round =>
    obtain ⟨rfl, rfl, rfl⟩ := hrel
    go_wp2_with fail
    go_step3
    go_wp2_with fail
    go_quiet (fail)
    have BQ := asd (below_q (Below.refl wr.heap.size wr) nq)
    generalize wr.drewN nq = w7 at *
    go_wp2_with fail
    go_quiet (first | (go_at_call 81; exact Calls.quiet_of_same (IB.out _)))
    have BR := asd (below_q BQ.out nq)
    generalize w7.drewN nq = w8 at *
    go_wp2_with fail
    simp only [Exit.noGoto_ret, Exit.inBlock, Exit.then]
    go_ret
    exact ⟨rfl, BR.out⟩
theorem indexRune_hi (n : Nat) (h : Js.isScalar n) (h1 : 128 ≤ n) (w : World) :
    Calls Tryz.prog 63 #[.string undB, .int .i32 (n : Int)] w fun e w' => e = .returned (.int .i64 (-1)) ∧ Below w.heap.size w w' := by
  by_cases h2 : n = 65533
  · subst h2
    exact indexRune_err w
  · have he := enc_utf8 n h
    have hh := Js.enc_hi n h1
    obtain ⟨l1, l2⟩ := Js.enc_len (n : Int)
    have hz := encode_facts (n : Int) (valid_of n h) (by omega)
    rw [he] at hz
    have hs : 2 ≤ (Lib.encodeRune (n : Int)).length := hz.1
    clear hz
    generalize Lib.encodeRune (n : Int) = l at *
    rcases l with _ | ⟨a, _ | ⟨b, _ | ⟨c, _ | ⟨d, _ | ⟨e, t⟩⟩⟩⟩⟩
    · simp at hs
    · simp at hs
    · exact indexRune_2 n h h1 h2 a b he (hh b (by simp)) w
    · exact indexRune_3 n h h1 h2 a b c he (hh c (by simp)) w
    · exact indexRune_4 n h h1 h2 a b c d he (hh d (by simp)) w
    · simp at l2
end Go.Proofs.YtpeioecpilmpiaaGreatDoor
