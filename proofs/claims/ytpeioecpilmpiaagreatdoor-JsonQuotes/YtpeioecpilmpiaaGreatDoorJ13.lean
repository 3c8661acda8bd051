/-
  strconv.FormatInt at base 16, for numbers of five digits.
-/
import Derived.Test.YtpeioecpilmpiaaGreatDoorJ12
import Derived.Shelf.Spec.TrailingZeros
import Derived.WalkKit
import Derived.WalkSpells
import Derived.WalkLawsBesides
import Derived.Deep.LoopGhost
import Derived.Laws.Externs
import Derived.Below
import Derived.BigQuiet
import Derived.Deep.RegionWith
import Derived.OwnWalk
import Derived.Maps.AppendAt
namespace Go.Proofs.YtpeioecpilmpiaaGreatDoor
open Go.RowKit
theorem and15 (n : Nat) (h : n < 18446744073709551616) : bits .and .u64 (n : Int) 15 = ((n % 16 : Nat) : Int) := by
  have := bits_and_u64_nat n 15 h (by decide)
  rw [show n &&& 15 = n % 16 from Nat.and_two_pow_sub_one_eq_mod n 4] at this
  exact this

theorem pow2_any (w : World) : Calls Tryz.prog 112 #[.int .i64 16] w fun en w' => en = .returned (.bool true) ∧ w' = w := by
  have e : bits .and .i64 16 15 = 0 := by decide
  go_enter Tryz.func112, Tryz.ntmps112
  go_wp2
  go_ret
  exact ⟨rfl, rfl⟩
/-- The table that 16's zeros are looked up in. -/
def TZ (w : World) : Prop := w.cell? ⟨7, 16 * 285870213051353865 % 18446744073709551616 / 288230376151711744, none⟩ = some (.int .u8 4)
theorem tz64_any (w : World) (h : TZ w) : Calls Tryz.prog 126 #[.int .u64 16] w fun en w' => en = .returned (.int .i64 4) ∧ w' = w := by
  have e : bits .and .u64 16 (IntKind.u64.wrap (-16)) = 16 := by decide
  have hc : w.cell? ⟨7, 15, none⟩ = some (.int .u8 4) := h
  go_enter Tryz.func126, Tryz.ntmps126
  go_wp2
  go_ret
  exact ⟨rfl, rfl⟩
def dgsB : ByteArray := ⟨#[48, 49, 50, 51, 52, 53, 54, 55, 56, 57, 97, 98, 99, 100, 101, 102, 103, 104, 105, 106, 107, 108, 109, 110, 111, 112, 113, 114, 115, 116, 117, 118, 119, 120, 121, 122]⟩
theorem tz_any (w : World) (h : TZ w) : Calls Tryz.prog 113 #[.int .u64 16] w fun en w' => en = .returned (.int .i64 4) ∧ w' = w := by
  have K := asd (tz64_any w h)
  go_enter Tryz.func113, Tryz.ntmps113
  go_wp2_with (go_at_call 126; refine K.out.mono ?_; rintro en w1 ⟨rfl, rfl⟩)
  go_ret
  exact ⟨rfl, rfl⟩
/-- The digits, the last ahead. -/
def fd (m l : Nat) : List UInt8 := [Js.hx l, Js.hx m, 48, 48, 49]
/-- What is left of the number. -/
def fu (m l j : Nat) : Nat := if j = 0 then 65536 + (16 * m + l) else if j = 1 then 4096 + m else if j = 2 then 256 else if j = 3 then 16 else 1
theorem dgs_fin : ∀ d : Fin 16, ((⟨#[48, 49, 50, 51, 52, 53, 54, 55, 56, 57, 97, 98, 99, 100, 101, 102, 103, 104, 105, 106, 107, 108, 109, 110, 111, 112, 113, 114, 115, 116, 117, 118, 119, 120, 121, 122]⟩ : ByteArray)[d.val]'(Nat.lt_of_lt_of_le d.isLt (by decide))) = Js.hx d.val := by decide
theorem dgs_get (d : Nat) (hd : d < 16) : ((⟨#[48, 49, 50, 51, 52, 53, 54, 55, 56, 57, 97, 98, 99, 100, 101, 102, 103, 104, 105, 106, 107, 108, 109, 110, 111, 112, 113, 114, 115, 116, 117, 118, 119, 120, 121, 122]⟩ : ByteArray)[d]'(Nat.lt_of_lt_of_le hd (by decide))) = Js.hx d := dgs_fin ⟨d, hd⟩
theorem dgs_at : ∀ d : Fin 16, (dgsB.data.toList.getD d.val 0) = Js.hx d.val := by decide

/-- The array of the digits. -/
structure FA (b m l j : Nat) (w : World) : Prop where
  blk : ∃ cs, w.heap[b]? = some (.cells cs 139 (0, 0)) ∧ cs.size = 65 ∧ ∀ t, t < j → cs[64 - t]? = some (.int .u8 (((fd m l).getD t 0).toNat : Int))
theorem FA.put {b m l j : Nat} {w : World} (h : FA b m l j w) (hj : j < 5) : FA b m l (j + 1) (w.setCell ⟨b, 64 - j, none⟩ (.int .u8 (((fd m l).getD j 0).toNat : Int))) := by
  obtain ⟨cs, h1, h2, h3⟩ := h.blk
  refine ⟨_, set_same h1, by simpa using h2, fun t ht => ?_⟩
  by_cases e : t = j
  · subst e
    rw [Array.getElem?_setIfInBounds_self_of_lt (by omega)]
  · rw [Array.getElem?_setIfInBounds_ne (by omega)]
    exact h3 t (by omega)
theorem FA.put' {b m l j : Nat} {w : World} (h : FA b m l j w) (hj : j < 5) (x : Int) (hx : x = (((fd m l).getD j 0).toNat : Int)) (i : Nat) (hi : i = 64 - j) : FA b m l (j + 1) (w.setCell ⟨b, i, none⟩ (.int .u8 x)) := by
  subst hx hi
  exact h.put hj
theorem FA.there {b m l j i : Nat} {w : World} (h : FA b m l j w) (hi : i < 65) : (∃ v, w.cell? ⟨b, i, none⟩ = some v) ∧ w.frozen? ⟨b, i, none⟩ = false := by
  obtain ⟨cs, h1, h2, h3⟩ := h.blk
  refine ⟨?_, frozen_of_row w b i cs _ h1⟩
  rw [cell_of_row w b i cs _ _ h1]
  exact ⟨_, Array.getElem?_eq_getElem (by omega)⟩

set_option maxHeartbeats 3200000 in
set_option maxRecDepth 100000 in
theorem formatBits_any (m l : Nat) (hm : m < 2) (hl : l < 16) (w : World) (hT : TZ w) (_h7 : 7 < w.heap.size) :
    Calls Tryz.prog 97 #[.slice none 0 0, .int .u64 (65536 + (16 * (m : Int) + l)), .int .i64 16, .bool false, .bool false] w fun en w' => en = .returned (.tuple #[.slice none 0 0, .string ⟨#[49, 48, 48, Js.hx m, Js.hx l]⟩]) ∧ Below w.heap.size w w' := by
  have T1 : Aside True := trivial
  have K := asd (tz_any (w.alloc (Obj.cells Tryz.zeroCells139 139)) (by unfold TZ; rw [cell_below hT ((Below.refl _ _).alloc (Nat.le_refl _) _)]))
  have A0 : Aside (FA w.heap.size m l 0 (w.alloc (Obj.cells Tryz.zeroCells139 139)) ∧ Below w.heap.size w (w.alloc (Obj.cells Tryz.zeroCells139 139))) := ⟨⟨_, heap_alloc_new w _, by decide, fun t ht => absurd ht (Nat.not_lt_zero _)⟩, (Below.refl _ _).alloc (Nat.le_refl _) _⟩
  clear hT
  go_enter Tryz.func97, Tryz.ntmps97
  go_wp2_with (first
    | (go_at_call 112; refine (pow2_any _).mono ?_; rintro en w1 ⟨rfl, rfl⟩)
    | (clear T1; go_at_call 113; refine K.out.mono ?_; rintro en w1 ⟨rfl, rfl⟩))
  go_loopg [1, 13] 4 (fun gh s1 s13 wr => ∃ j : Nat, 4 - j ≤ gh ∧ j ≤ 4 ∧ s1 = .int .u64 (fu m l j : Int) ∧ s13 = .int .i64 ((65 - j : Nat) : Int) ∧ Aside (FA w.heap.size m l j wr ∧ Below w.heap.size w wr))
  case atStart => exact ⟨0, by omega, by omega, by simp [fu], rfl, A0.out.1, A0.out.2⟩
  case round =>
    obtain ⟨j, hgh, hj, rfl, rfl, I⟩ := hrel
    have hz : Hid (j = 0 ∨ j = 1 ∨ j = 2 ∨ j = 3 ∨ j = 4) := by unfold Hid; omega
    have TH := fun i (hi : i < 65) => I.out.1.there hi
    rcases hz with rfl | rfl | rfl | rfl | rfl
    · have e0 : ((fu m l 0 : Nat) : Int) = 65536 + (16 * (m : Int) + l) := by simp [fu]
      rw [e0]
      clear e0
      have d1 : decide ((16 : Int) ≤ 65536 + (16 * (m : Int) + l)) = true := decide_eq_true (by omega)
      have a1 : bits .and .u64 (65536 + (16 * (m : Int) + l)) 15 = ((l : Nat) : Int) := by
        have := and15 (65536 + (16 * m + l)) (by omega)
        rw [show (65536 + (16 * m + l)) % 16 = l by omega, show ((65536 + (16 * m + l) : Nat) : Int) = 65536 + (16 * (m : Int) + l) by omega] at this
        exact this
      obtain ⟨⟨v, c1⟩, f1⟩ := TH 64 (by omega)
      have hb : l < 16 := by omega
      go_wp2_with fail
      go_roundg 3
      case measure => omega
      case rel =>
        refine ⟨1, by omega, by omega, ?_, rfl, I.out.1.put' (by omega) _ ?_ _ rfl, I.out.2.setCell (Nat.le_refl _) _⟩
        · simp [fu]; omega
        · exact congrArg (fun z : UInt8 => ((z.toNat : Nat) : Int)) (dgs_get (l) (by omega))
    · have e0 : ((fu m l 1 : Nat) : Int) = 4096 + (m : Int) := by simp [fu]
      rw [e0]
      clear e0
      have d1 : decide ((16 : Int) ≤ 4096 + (m : Int)) = true := decide_eq_true (by omega)
      have a1 : bits .and .u64 (4096 + (m : Int)) 15 = ((m : Nat) : Int) := by
        have := and15 (4096 + m) (by omega)
        rw [show (4096 + m) % 16 = m by omega, show ((4096 + m : Nat) : Int) = 4096 + (m : Int) by omega] at this
        exact this
      obtain ⟨⟨v, c1⟩, f1⟩ := TH 63 (by omega)
      have hb : m < 16 := by omega
      go_wp2_with fail
      go_roundg 2
      case measure => omega
      case rel =>
        refine ⟨2, by omega, by omega, ?_, rfl, I.out.1.put' (by omega) _ ?_ _ rfl, I.out.2.setCell (Nat.le_refl _) _⟩
        · simp [fu]; omega
        · exact congrArg (fun z : UInt8 => ((z.toNat : Nat) : Int)) (dgs_get (m) (by omega))
    · have e0 : ((fu m l 2 : Nat) : Int) = 256 := by simp [fu]
      rw [e0]
      clear e0
      have d1 : decide ((16 : Int) ≤ 256) = true := decide_eq_true (by omega)
      have a1 : bits .and .u64 256 15 = 0 := by decide
      obtain ⟨⟨v, c1⟩, f1⟩ := TH 62 (by omega)
      have hb : 0 < 16 := by omega
      go_wp2_with fail
      go_roundg 1
      case measure => omega
      case rel =>
        refine ⟨3, by omega, by omega, ?_, rfl, I.out.1.put' (by omega) _ ?_ _ rfl, I.out.2.setCell (Nat.le_refl _) _⟩
        · simp [fu]
        · exact congrArg (fun z : UInt8 => ((z.toNat : Nat) : Int)) (dgs_get (0) (by omega))
    · have e0 : ((fu m l 3 : Nat) : Int) = 16 := by simp [fu]
      rw [e0]
      clear e0
      have d1 : decide ((16 : Int) ≤ 16) = true := decide_eq_true (by omega)
      have a1 : bits .and .u64 16 15 = 0 := by decide
      obtain ⟨⟨v, c1⟩, f1⟩ := TH 61 (by omega)
      have hb : 0 < 16 := by omega
      go_wp2_with fail
      go_roundg 0
      case measure => omega
      case rel =>
        refine ⟨4, by omega, by omega, ?_, rfl, I.out.1.put' (by omega) _ ?_ _ rfl, I.out.2.setCell (Nat.le_refl _) _⟩
        · simp [fu]
        · exact congrArg (fun z : UInt8 => ((z.toNat : Nat) : Int)) (dgs_get (0) (by omega))
    · have e0 : ((fu m l 4 : Nat) : Int) = 1 := by simp [fu]
      rw [e0]
      clear e0
      obtain ⟨⟨v, c1⟩, f1⟩ := TH 60 (by omega)
      have P := I.out.1.put' (by omega) 49 (by simp [fd]) 60 rfl
      have BW := asd (I.out.2.setCell (p := ⟨w.heap.size, 60, none⟩) (Nat.le_refl _) (.int .u8 49))
      have CV : (convert 92 9 (.slice (some ⟨w.heap.size, 60, none⟩) 5 5)).run Tryz.prog (wr.setCell ⟨w.heap.size, 60, none⟩ (.int .u8 49)) = .ok (.string (strOfNums [49, 48, 48, ((Js.hx m).toNat : Int), ((Js.hx l).toNat : Int)])) (wr.setCell ⟨w.heap.size, 60, none⟩ (.int .u8 49)) := by
        obtain ⟨cs, h1, h2, h3⟩ := P.blk
        refine run_convert_bytes_arg _ 92 5 Tryz.underlying92 Tryz.underlying5 w.heap.size 60 5 5 _ rfl (fun i hi => ?_) 9 Tryz.underlying9
        rw [cell_of_row _ _ _ cs _ _ h1]
        match i, hi with
        | 0, _ => exact h3 4 (by omega)
        | 1, _ => exact h3 3 (by omega)
        | 2, _ => exact h3 2 (by omega)
        | 3, _ => exact h3 1 (by omega)
        | 4, _ => exact h3 0 (by omega)
        | n + 5, h => exact absurd h (by omega)
      have ES : Aside (strOfNums [49, 48, 48, ((Js.hx m).toNat : Int), ((Js.hx l).toNat : Int)] = ⟨#[49, 48, 48, Js.hx m, Js.hx l]⟩) := by
        show _ = _
        simp [strOfNums]
      generalize strOfNums [49, 48, 48, ((Js.hx m).toNat : Int), ((Js.hx l).toNat : Int)] = S at CV ES
      have hx1 : (((⟨#[48, 49, 50, 51, 52, 53, 54, 55, 56, 57, 97, 98, 99, 100, 101, 102, 103, 104, 105, 106, 107, 108, 109, 110, 111, 112, 113, 114, 115, 116, 117, 118, 119, 120, 121, 122]⟩ : ByteArray)[1]'(by decide)).toNat : Int) = 49 := by kernel_rfl
      go_wp2_with fail
      go_ret2
      exact ⟨by rw [← ES.out]; rfl, BW.out⟩
set_option maxHeartbeats 1600000 in
set_option maxRecDepth 100000 in
theorem fmtInt_in (m l : Nat) (hm : m < 2) (hl : l < 16) (w : World) (hT : TZ w) (h7 : 7 < w.heap.size) :
    Calls Tryz.prog 72 #[.int .i64 (65536 + (16 * (m : Int) + l)), .int .i64 16] w fun en w' => en = .returned (.string ⟨#[49, 48, 48, Js.hx m, Js.hx l]⟩) ∧ Below w.heap.size w w' := by
  have K := asd (formatBits_any m l hm hl w hT h7)
  have d1 : decide (65536 + (16 * (m : Int) + l) < 0) = false := decide_eq_false (by omega)
  go_enter Tryz.func72, Tryz.ntmps72
  go_wp2_with (go_at_call 97; refine K.out.mono ?_; rintro en w1 ⟨rfl, b1⟩)
  go_ret
  exact ⟨rfl, b1⟩
set_option maxHeartbeats 1600000 in
theorem fmtInt_any (m l : Nat) (hm : m < 2) (hl : l < 16) (w : World) (hT : TZ w) (h7 : 7 < w.heap.size) :
    Calls Tryz.prog 64 #[.int .i64 (65536 + (16 * (m : Int) + l)), .int .i64 16] w fun en w' => en = .returned (.string ⟨#[49, 48, 48, Js.hx m, Js.hx l]⟩) ∧ Below w.heap.size w w' := by
  have K := asd (fmtInt_in m l hm hl w hT h7)
  go_enter Tryz.func64, Tryz.ntmps64
  go_wp2_with (go_at_call 72; refine K.out.mono ?_; rintro en w1 ⟨rfl, b1⟩)
  go_ret
  exact ⟨rfl, b1⟩
end Go.Proofs.YtpeioecpilmpiaaGreatDoor
