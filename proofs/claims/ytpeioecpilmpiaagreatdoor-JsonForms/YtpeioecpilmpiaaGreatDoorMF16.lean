/-
  YtpeioecpilmpiaaGreatDoor: the texts J12, J13, J14, one behind the other.
-/
import Derived.Test.YtpeioecpilmpiaaGreatDoorMF15
import Derived.WalkKit
import Derived.WalkSpells
import Derived.WalkLawsBesides
import Derived.Deep.LoopGhost
import Derived.Laws.Externs
import Derived.Below
import Derived.BigQuiet
import Derived.Deep.RegionWith
import Derived.OwnWalk
import Derived.Maps.AppendAt
import Derived.Shelf.Spec.TrailingZeros
import Derived.Laws.Runes
import Derived.Laws.RangeAny
import Derived.WalkMore
import Derived.WalkSmall
/-
  The program's read.
-/
namespace Go.Proofs.YtpeioecpilmpiaaGreatDoor
open Go.RowKit
theorem below_q {B : Nat} {a w : World} (h : Below B a w) (q : Nat) : Below B a (w.drewN q) := ⟨h.os, h.tape, h.output, h.size, h.block⟩
/-- What read answers. -/
def RdA (s : ByteArray) (en : Ending) (w w' : World) : Prop :=
  match Js.of s.data.toList with
  | .ok x => ∃ ty vv, en = .returned (.tuple #[.iface ty vv, .int .i64 0]) ∧ Tv 8 (Bt w.heap.size w'.heap.size) w' (.iface ty vv) x
  | .error e => en = .returned (.tuple #[.nilIface, .int .i64 (e : Int)]) ∧ e ≠ 0

set_option maxHeartbeats 1600000 in
set_option maxRecDepth 100000 in
theorem read_any (s : ByteArray) (w : World) (hs : s.size ≤ 1000000) :
    Calls Tryz.prog 21 #[.string s] w fun en w' => RdA s en w w' ∧ Below w.heap.size w w' := by
  have hsz : s.data.toList.length = s.size := rfl
  by_cases h4 : 400 < s.size
  · have hof : Js.of s.data.toList = .error 5 := by unfold Js.of; rw [hsz, if_pos h4]
    have RA : Aside (∀ w', RdA s (.returned (.tuple #[.nilIface, .int .i64 5])) w w') := fun w' => by
      unfold RdA
      rw [hof]
      exact ⟨rfl, by decide⟩
    have d1 : decide ((400 : Int) < s.size) = true := by simp; omega
    go_enter Tryz.func21, Tryz.ntmps21
    go_wp2_with fail
    go_ret2
    exact ⟨RA.out _, Below.refl _ _⟩
  · have d1 : decide ((400 : Int) < s.size) = false := by simp; omega
    have hof : Js.of s.data.toList = match Js.pv 8 (L s 0) with
        | .error e => .error e
        | .ok (x, r) => match Js.skip r with
          | [] => .ok x
          | _ => .error 3 := by
      unfold Js.of
      rw [hsz, if_neg h4]
      rfl
    have HOF := asd hof
    clear hof
    have h0 : Rd w.heap.size s 0 0 0 (w.alloc (.cells #[.string s, .int .i64 0, .int .i64 0, .int .i64 0] 74)) := heap_alloc_new w _
    have V := asd (value_any 8 w.heap.size s 0 0 0 _ h0 (Nat.zero_le _) (by omega) rfl)
    clear h0
    have BA : Aside (Below w.heap.size w (w.alloc (.cells #[.string s, .int .i64 0, .int .i64 0, .int .i64 0] 74))) := (Below.refl _ _).alloc (Nat.le_refl _) _
    have hza : (w.alloc (.cells #[.string s, .int .i64 0, .int .i64 0, .int .i64 0] 74)).heap.size = w.heap.size + 1 := by simp
    have T1 : Aside True := trivial
    have T2 : Aside True := trivial
    have HZA := asd hza
    clear hza
    go_enter Tryz.func21, Tryz.ntmps21
    go_wp2_with (first
      | (clear T1; go_at_call 30; refine V.out.mono ?_; rintro en w1 ⟨ty, vv, q, d1', e1, rfl, hq, _, _, h1, g1, _, hv⟩
         have BW : Aside (Below w.heap.size w w1) := ⟨g1.os.trans BA.out.os, g1.tape.trans BA.out.tape, g1.output.trans BA.out.output, by have := g1.size; have := HZA.out; omega, fun k hk => (g1.block k (by have := HZA.out; omega) (fun e => by injection e; omega)).trans (BA.out.block k hk)⟩
         have CS : (q < s.size ∧ decide ((q : Int) < s.size) = true ∧ Aside (∃ e, Js.of s.data.toList = .error e ∧ e = fl e1 3 ∧ e ≠ 0)) ∨
             (q = s.size ∧ e1 = 0 ∧ decide ((q : Int) < s.size) = false ∧ Aside (∃ x, Js.of s.data.toList = .ok x ∧ Tv 8 (Bt w.heap.size w1.heap.size) w1 (.iface ty vv) x)) ∨
             (q = s.size ∧ e1 ≠ 0 ∧ decide ((q : Int) < s.size) = false ∧ Aside (Js.of s.data.toList = .error e1)) := by
           rcases hv (by first | rfl | trivial) with ⟨rfl, _, x, rest, c1, c2, c3⟩ | ⟨c1, c2⟩
           · have hof := HOF.out
             rw [c1] at hof
             simp only [← c2] at hof
             by_cases hlt : q < s.size
             · refine .inl ⟨hlt, decide_eq_true (by omega), 3, ?_, rfl, by decide⟩
               rw [hof, L_cons s q hlt]
             · obtain rfl : q = s.size := by omega
               refine .inr (.inl ⟨rfl, rfl, decide_eq_false (by omega), x, ?_, c3.frame (fun k hk => ⟨by have := hk.1; have := HZA.out; omega, hk.2⟩) (fun _ _ => rfl)⟩)
               rw [hof, L_end s s.size (Nat.le_refl _)]
           · have hof := HOF.out
             rw [c2] at hof
             by_cases hlt : q < s.size
             · exact .inl ⟨hlt, decide_eq_true (by omega), e1, hof, (fl_bad e1 3 c1).symm, c1⟩
             · exact .inr (.inr ⟨by omega, c1, decide_eq_false (by omega), hof⟩)
         have cc1 := h1.c1
         have cc3 := h1.c3
         have F := asd (fail_any w.heap.size s q d1' e1 3 w1 h1)
         have H1 := asd h1
         clear hv V
         have zz : e1 ≠ 0 → ((e1 : Int) != 0) = true := fun h => by rw [bne_iff_ne]; omega
         rcases CS with ⟨hlt, d2, P⟩ | ⟨rfl, rfl, d2, P⟩ | ⟨rfl, he1, d2, P⟩)
      | (clear T2; go_at_call 31; refine F.out.mono ?_; rintro en w2 ⟨rfl, h2, g2⟩
         obtain ⟨ef, hef, he3, hne⟩ := P.out
         rw [← he3] at h2
         have cc3 := h2.c3
         have BW2 : Aside (Below w.heap.size w w2) := ⟨g2.os.trans BW.out.os, g2.tape.trans BW.out.tape, g2.output.trans BW.out.output, by have := g2.size; have := BW.out.size; omega, fun k hk => (g2.block k (by have := BW.out.size; omega) (fun e => by injection e; omega)).trans (BW.out.block k hk)⟩
         have HN := asd (And.intro hef hne)
         have z1 : ((ef : Int) != 0) = true := by rw [bne_iff_ne]; omega
         clear h2 g2 hef he3 hne F))
    · go_quiet (fail)
      go_wp2_with fail
      go_ret2
      refine ⟨?_, below_q BW2.out _⟩
      unfold RdA
      rw [HN.out.1]
      exact ⟨rfl, HN.out.2⟩
    · go_ret2
      refine ⟨?_, BW.out⟩
      unfold RdA
      obtain ⟨x, px, tx⟩ := P.out
      rw [px]
      exact ⟨ty, vv, rfl, tx⟩
    · have z1 := zz he1
      go_quiet (fail)
      go_wp2_with fail
      go_ret2
      refine ⟨?_, below_q BW.out _⟩
      unfold RdA
      rw [P.out]
      exact ⟨rfl, he1⟩
end Go.Proofs.YtpeioecpilmpiaaGreatDoor

/-
  strconv.FormatInt at base 16, for numbers of five digits.
-/
namespace Go.Proofs.YtpeioecpilmpiaaGreatDoor
open Go.RowKit
theorem and15 (n : Nat) (h : n < 18446744073709551616) : bits .and .u64 (n : Int) 15 = ((n % 16 : Nat) : Int) := by
  have := bits_and_u64_nat n 15 h (by decide)
  rw [show n &&& 15 = n % 16 from Nat.and_two_pow_sub_one_eq_mod n 4] at this
  exact this

theorem pow2_any (w : World) : Calls Tryz.prog 112 #[.int .i64 16] w fun en w' => en = .returned (.bool true) ∧ w' = w := by
  have e : bits .and .i64 16 15 = 0 := by decide
  go_enter Tryz.func112, Tryz.ntmps112
  go_wp2
  go_ret
  exact ⟨rfl, rfl⟩
/-- The table that 16's zeros are looked up in. -/
def TZ (w : World) : Prop := w.cell? ⟨7, 16 * 285870213051353865 % 18446744073709551616 / 288230376151711744, none⟩ = some (.int .u8 4)
theorem tz64_any (w : World) (h : TZ w) : Calls Tryz.prog 126 #[.int .u64 16] w fun en w' => en = .returned (.int .i64 4) ∧ w' = w := by
  have e : bits .and .u64 16 (IntKind.u64.wrap (-16)) = 16 := by decide
  have hc : w.cell? ⟨7, 15, none⟩ = some (.int .u8 4) := h
  go_enter Tryz.func126, Tryz.ntmps126
  go_wp2
  go_ret
  exact ⟨rfl, rfl⟩
def dgsB : ByteArray := ⟨#[48, 49, 50, 51, 52, 53, 54, 55, 56, 57, 97, 98, 99, 100, 101, 102, 103, 104, 105, 106, 107, 108, 109, 110, 111, 112, 113, 114, 115, 116, 117, 118, 119, 120, 121, 122]⟩
theorem tz_any (w : World) (h : TZ w) : Calls Tryz.prog 113 #[.int .u64 16] w fun en w' => en = .returned (.int .i64 4) ∧ w' = w := by
  have K := asd (tz64_any w h)
  go_enter Tryz.func113, Tryz.ntmps113
  go_wp2_with (go_at_call 126; refine K.out.mono ?_; rintro en w1 ⟨rfl, rfl⟩)
  go_ret
  exact ⟨rfl, rfl⟩
/-- The digits, the last ahead. -/
def fd (m l : Nat) : List UInt8 := [Js.hx l, Js.hx m, 48, 48, 49]
/-- What is left of the number. -/
def fu (m l j : Nat) : Nat := if j = 0 then 65536 + (16 * m + l) else if j = 1 then 4096 + m else if j = 2 then 256 else if j = 3 then 16 else 1
theorem dgs_fin : ∀ d : Fin 16, ((⟨#[48, 49, 50, 51, 52, 53, 54, 55, 56, 57, 97, 98, 99, 100, 101, 102, 103, 104, 105, 106, 107, 108, 109, 110, 111, 112, 113, 114, 115, 116, 117, 118, 119, 120, 121, 122]⟩ : ByteArray)[d.val]'(Nat.lt_of_lt_of_le d.isLt (by decide))) = Js.hx d.val := by decide
theorem dgs_get (d : Nat) (hd : d < 16) : ((⟨#[48, 49, 50, 51, 52, 53, 54, 55, 56, 57, 97, 98, 99, 100, 101, 102, 103, 104, 105, 106, 107, 108, 109, 110, 111, 112, 113, 114, 115, 116, 117, 118, 119, 120, 121, 122]⟩ : ByteArray)[d]'(Nat.lt_of_lt_of_le hd (by decide))) = Js.hx d := dgs_fin ⟨d, hd⟩
theorem dgs_at : ∀ d : Fin 16, (dgsB.data.toList.getD d.val 0) = Js.hx d.val := by decide

/-- The array of the digits. -/
structure FA (b m l j : Nat) (w : World) : Prop where
  blk : ∃ cs, w.heap[b]? = some (.cells cs 139 (0, 0)) ∧ cs.size = 65 ∧ ∀ t, t < j → cs[64 - t]? = some (.int .u8 (((fd m l).getD t 0).toNat : Int))
theorem FA.put {b m l j : Nat} {w : World} (h : FA b m l j w) (hj : j < 5) : FA b m l (j + 1) (w.setCell ⟨b, 64 - j, none⟩ (.int .u8 (((fd m l).getD j 0).toNat : Int))) := by
  obtain ⟨cs, h1, h2, h3⟩ := h.blk
  refine ⟨_, set_same h1, by simpa using h2, fun t ht => ?_⟩
  by_cases e : t = j
  · subst e
    rw [Array.getElem?_setIfInBounds_self_of_lt (by omega)]
  · rw [Array.getElem?_setIfInBounds_ne (by omega)]
    exact h3 t (by omega)
theorem FA.put' {b m l j : Nat} {w : World} (h : FA b m l j w) (hj : j < 5) (x : Int) (hx : x = (((fd m l).getD j 0).toNat : Int)) (i : Nat) (hi : i = 64 - j) : FA b m l (j + 1) (w.setCell ⟨b, i, none⟩ (.int .u8 x)) := by
  subst hx hi
  exact h.put hj
theorem FA.there {b m l j i : Nat} {w : World} (h : FA b m l j w) (hi : i < 65) : (∃ v, w.cell? ⟨b, i, none⟩ = some v) ∧ w.frozen? ⟨b, i, none⟩ = false := by
  obtain ⟨cs, h1, h2, h3⟩ := h.blk
  refine ⟨?_, frozen_of_row w b i cs _ h1⟩
  rw [cell_of_row w b i cs _ _ h1]
  exact ⟨_, Array.getElem?_eq_getElem (by omega)⟩

set_option maxHeartbeats 3200000 in
set_option maxRecDepth 100000 in
theorem formatBits_any (m l : Nat) (hm : m < 2) (hl : l < 16) (w : World) (hT : TZ w) (_h7 : 7 < w.heap.size) :
    Calls Tryz.prog 97 #[.slice none 0 0, .int .u64 (65536 + (16 * (m : Int) + l)), .int .i64 16, .bool false, .bool false] w fun en w' => en = .returned (.tuple #[.slice none 0 0, .string ⟨#[49, 48, 48, Js.hx m, Js.hx l]⟩]) ∧ Below w.heap.size w w' := by
  have T1 : Aside True := trivial
  have K := asd (tz_any (w.alloc (Obj.cells Tryz.zeroCells139 139)) (by unfold TZ; rw [cell_below hT ((Below.refl _ _).alloc (Nat.le_refl _) _)]))
  have A0 : Aside (FA w.heap.size m l 0 (w.alloc (Obj.cells Tryz.zeroCells139 139)) ∧ Below w.heap.size w (w.alloc (Obj.cells Tryz.zeroCells139 139))) := ⟨⟨_, heap_alloc_new w _, by decide, fun t ht => absurd ht (Nat.not_lt_zero _)⟩, (Below.refl _ _).alloc (Nat.le_refl _) _⟩
  clear hT
  go_enter Tryz.func97, Tryz.ntmps97
  go_wp2_with (first
    | (go_at_call 112; refine (pow2_any _).mono ?_; rintro en w1 ⟨rfl, rfl⟩)
    | (clear T1; go_at_call 113; refine K.out.mono ?_; rintro en w1 ⟨rfl, rfl⟩))
  go_loopg [1, 13] 4 (fun gh s1 s13 wr => ∃ j : Nat, 4 - j ≤ gh ∧ j ≤ 4 ∧ s1 = .int .u64 (fu m l j : Int) ∧ s13 = .int .i64 ((65 - j : Nat) : Int) ∧ Aside (FA w.heap.size m l j wr ∧ Below w.heap.size w wr))
  case atStart => exact ⟨0, by omega, by omega, by simp [fu], rfl, A0.out.1, A0.out.2⟩
  case round =>
    obtain ⟨j, hgh, hj, rfl, rfl, I⟩ := hrel
    have hz : Hid (j = 0 ∨ j = 1 ∨ j = 2 ∨ j = 3 ∨ j = 4) := by unfold Hid; omega
    have TH := fun i (hi : i < 65) => I.out.1.there hi
    rcases hz with rfl | rfl | rfl | rfl | rfl
    · have e0 : ((fu m l 0 : Nat) : Int) = 65536 + (16 * (m : Int) + l) := by simp [fu]
      rw [e0]
      clear e0
      have d1 : decide ((16 : Int) ≤ 65536 + (16 * (m : Int) + l)) = true := decide_eq_true (by omega)
      have a1 : bits .and .u64 (65536 + (16 * (m : Int) + l)) 15 = ((l : Nat) : Int) := by
        have := and15 (65536 + (16 * m + l)) (by omega)
        rw [show (65536 + (16 * m + l)) % 16 = l by omega, show ((65536 + (16 * m + l) : Nat) : Int) = 65536 + (16 * (m : Int) + l) by omega] at this
        exact this
      obtain ⟨⟨v, c1⟩, f1⟩ := TH 64 (by omega)
      have hb : l < 16 := by omega
      go_wp2_with fail
      go_roundg 3
      case measure => omega
      case rel =>
        refine ⟨1, by omega, by omega, ?_, rfl, I.out.1.put' (by omega) _ ?_ _ rfl, I.out.2.setCell (Nat.le_refl _) _⟩
        · simp [fu]; omega
        · exact congrArg (fun z : UInt8 => ((z.toNat : Nat) : Int)) (dgs_get (l) (by omega))
    · have e0 : ((fu m l 1 : Nat) : Int) = 4096 + (m : Int) := by simp [fu]
      rw [e0]
      clear e0
      have d1 : decide ((16 : Int) ≤ 4096 + (m : Int)) = true := decide_eq_true (by omega)
      have a1 : bits .and .u64 (4096 + (m : Int)) 15 = ((m : Nat) : Int) := by
        have := and15 (4096 + m) (by omega)
        rw [show (4096 + m) % 16 = m by omega, show ((4096 + m : Nat) : Int) = 4096 + (m : Int) by omega] at this
        exact this
      obtain ⟨⟨v, c1⟩, f1⟩ := TH 63 (by omega)
      have hb : m < 16 := by omega
      go_wp2_with fail
      go_roundg 2
      case measure => omega
      case rel =>
        refine ⟨2, by omega, by omega, ?_, rfl, I.out.1.put' (by omega) _ ?_ _ rfl, I.out.2.setCell (Nat.le_refl _) _⟩
        · simp [fu]; omega
        · exact congrArg (fun z : UInt8 => ((z.toNat : Nat) : Int)) (dgs_get (m) (by omega))
    · have e0 : ((fu m l 2 : Nat) : Int) = 256 := by simp [fu]
      rw [e0]
      clear e0
      have d1 : decide ((16 : Int) ≤ 256) = true := decide_eq_true (by omega)
      have a1 : bits .and .u64 256 15 = 0 := by decide
      obtain ⟨⟨v, c1⟩, f1⟩ := TH 62 (by omega)
      have hb : 0 < 16 := by omega
      go_wp2_with fail
      go_roundg 1
      case measure => omega
      case rel =>
        refine ⟨3, by omega, by omega, ?_, rfl, I.out.1.put' (by omega) _ ?_ _ rfl, I.out.2.setCell (Nat.le_refl _) _⟩
        · simp [fu]
        · exact congrArg (fun z : UInt8 => ((z.toNat : Nat) : Int)) (dgs_get (0) (by omega))
    · have e0 : ((fu m l 3 : Nat) : Int) = 16 := by simp [fu]
      rw [e0]
      clear e0
      have d1 : decide ((16 : Int) ≤ 16) = true := decide_eq_true (by omega)
      have a1 : bits .and .u64 16 15 = 0 := by decide
      obtain ⟨⟨v, c1⟩, f1⟩ := TH 61 (by omega)
      have hb : 0 < 16 := by omega
      go_wp2_with fail
      go_roundg 0
      case measure => omega
      case rel =>
        refine ⟨4, by omega, by omega, ?_, rfl, I.out.1.put' (by omega) _ ?_ _ rfl, I.out.2.setCell (Nat.le_refl _) _⟩
        · simp [fu]
        · exact congrArg (fun z : UInt8 => ((z.toNat : Nat) : Int)) (dgs_get (0) (by omega))
    · have e0 : ((fu m l 4 : Nat) : Int) = 1 := by simp [fu]
      rw [e0]
      clear e0
      obtain ⟨⟨v, c1⟩, f1⟩ := TH 60 (by omega)
      have P := I.out.1.put' (by omega) 49 (by simp [fd]) 60 rfl
      have BW := asd (I.out.2.setCell (p := ⟨w.heap.size, 60, none⟩) (Nat.le_refl _) (.int .u8 49))
      have CV : (convert 92 9 (.slice (some ⟨w.heap.size, 60, none⟩) 5 5)).run Tryz.prog (wr.setCell ⟨w.heap.size, 60, none⟩ (.int .u8 49)) = .ok (.string (strOfNums [49, 48, 48, ((Js.hx m).toNat : Int), ((Js.hx l).toNat : Int)])) (wr.setCell ⟨w.heap.size, 60, none⟩ (.int .u8 49)) := by
        obtain ⟨cs, h1, h2, h3⟩ := P.blk
        refine run_convert_bytes_arg _ 92 5 Tryz.underlying92 Tryz.underlying5 w.heap.size 60 5 5 _ rfl (fun i hi => ?_) 9 Tryz.underlying9
        rw [cell_of_row _ _ _ cs _ _ h1]
        match i, hi with
        | 0, _ => exact h3 4 (by omega)
        | 1, _ => exact h3 3 (by omega)
        | 2, _ => exact h3 2 (by omega)
        | 3, _ => exact h3 1 (by omega)
        | 4, _ => exact h3 0 (by omega)
        | n + 5, h => exact absurd h (by omega)
      have ES : Aside (strOfNums [49, 48, 48, ((Js.hx m).toNat : Int), ((Js.hx l).toNat : Int)] = ⟨#[49, 48, 48, Js.hx m, Js.hx l]⟩) := by
        show _ = _
        simp [strOfNums]
      generalize strOfNums [49, 48, 48, ((Js.hx m).toNat : Int), ((Js.hx l).toNat : Int)] = S at CV ES
      have hx1 : (((⟨#[48, 49, 50, 51, 52, 53, 54, 55, 56, 57, 97, 98, 99, 100, 101, 102, 103, 104, 105, 106, 107, 108, 109, 110, 111, 112, 113, 114, 115, 116, 117, 118, 119, 120, 121, 122]⟩ : ByteArray)[1]'(by decide)).toNat : Int) = 49 := by kernel_rfl
      go_wp2_with fail
      go_ret2
      exact ⟨by rw [← ES.out]; rfl, BW.out⟩
set_option maxHeartbeats 1600000 in
set_option maxRecDepth 100000 in
theorem fmtInt_in (m l : Nat) (hm : m < 2) (hl : l < 16) (w : World) (hT : TZ w) (h7 : 7 < w.heap.size) :
    Calls Tryz.prog 72 #[.int .i64 (65536 + (16 * (m : Int) + l)), .int .i64 16] w fun en w' => en = .returned (.string ⟨#[49, 48, 48, Js.hx m, Js.hx l]⟩) ∧ Below w.heap.size w w' := by
  have K := asd (formatBits_any m l hm hl w hT h7)
  have d1 : decide (65536 + (16 * (m : Int) + l) < 0) = false := decide_eq_false (by omega)
  go_enter Tryz.func72, Tryz.ntmps72
  go_wp2_with (go_at_call 97; refine K.out.mono ?_; rintro en w1 ⟨rfl, b1⟩)
  go_ret
  exact ⟨rfl, b1⟩
set_option maxHeartbeats 1600000 in
theorem fmtInt_any (m l : Nat) (hm : m < 2) (hl : l < 16) (w : World) (hT : TZ w) (h7 : 7 < w.heap.size) :
    Calls Tryz.prog 64 #[.int .i64 (65536 + (16 * (m : Int) + l)), .int .i64 16] w fun en w' => en = .returned (.string ⟨#[49, 48, 48, Js.hx m, Js.hx l]⟩) ∧ Below w.heap.size w w' := by
  have K := asd (fmtInt_in m l hm hl w hT h7)
  go_enter Tryz.func64, Tryz.ntmps64
  go_wp2_with (go_at_call 72; refine K.out.mono ?_; rintro en w1 ⟨rfl, b1⟩)
  go_ret
  exact ⟨rfl, b1⟩
end Go.Proofs.YtpeioecpilmpiaaGreatDoor

/-
  strings.IndexRune among the signs that are written with a \.
-/
namespace Go.Proofs.YtpeioecpilmpiaaGreatDoor
open Go.RowKit
open Go.Shelf
def lays137_ren : Go.Shelf.Ren := ⟨fun | 137 => 81 | 217 => 99 | 266 => 115 | n => n, fun | 3 => 3 | 5 => 5 | 9 => 9 | n => n, fun | n => n⟩
theorem lays137 : Go.Proofs.Lays.n137 Tryz.prog lays137_ren := {
  mixed := by kernel_rfl
  f137 := Tryz.func81.trans (congrArg some (by kernel_rfl))
  f217 := Tryz.func99.trans (congrArg some (by kernel_rfl))
  f266 := Tryz.func115.trans (congrArg some (by kernel_rfl))
  t3 := Tryz.underlying3
  a3 := Tryz.isAgg3
  z3 := Tryz.sizeOf3
  v3 := Tryz.zeroValue3
  t5 := Tryz.underlying5
  a5 := Tryz.isAgg5
  z5 := Tryz.sizeOf5
  v5 := Tryz.zeroValue5
  t9 := Tryz.underlying9
  a9 := Tryz.isAgg9
  z9 := Tryz.sizeOf9
  v9 := Tryz.zeroValue9 }
theorem indexByte_any (s : ByteArray) (c : Int) (w : World) :
    Calls Tryz.prog 81 #[.string s, .int .u8 c] w fun e w' => e = .returned (.int .i64 (Lib.indexByte s.data.toList c.toNat.toUInt8)) ∧ w' = w := Any.strings_IndexByte lays137 s c w

abbrev undB : ByteArray := ⟨#[34, 92, 47, 8, 12, 10, 13, 9]⟩
theorem und_hi (l : Js.B) (hl : ∀ x ∈ l, x.toNat < 128) (c : UInt8) (hc : 128 ≤ c.toNat) : Lib.indexByte l c = -1 := by
  induction l with
  | nil => rfl
  | cons a r ih =>
    have h1 := hl a (by simp)
    have hne : a ≠ c := fun e => by subst e; omega
    have := ih (fun x hx => hl x (by simp [hx]))
    simp [Lib.indexByte, hne, this]

set_option maxHeartbeats 1600000 in
set_option maxRecDepth 100000 in
theorem indexRune_err (w : World) :
    Calls Tryz.prog 63 #[.string undB, .int .i32 65533] w fun e w' => e = .returned (.int .i64 (-1)) ∧ Below w.heap.size w w' := by
  go_enter Tryz.func63, Tryz.ntmps63
  go_wp2
  go_loopg [5, 6] 9 (fun gh s5 s6 wr => ∃ j : Nat, 8 - j ≤ gh ∧ j ≤ 8 ∧ wr = w.iter undB j)
  case atStart => exact ⟨0, by omega, by omega, rfl⟩
  case round =>
    obtain ⟨j, hgh, hj, rfl⟩ := hrel
    by_cases h8 : j < 8
    · have hnx : ∀ ty, (Instr.next (.pointer (some ⟨w.heap.size, 0, none⟩)) true ty).run Tryz.prog (w.iter undB j) = _ := fun ty => run_next_any w undB j ty h8
      have hd : Utf8.decode undB j = ((undB.data.toList.getD j 0).toNat, 1) ∧ (undB.data.toList.getD j 0).toNat < 128 := by
        have : ∀ j : Fin 8, Utf8.decode undB j.val = ((undB.data.toList.getD j.val 0).toNat, 1) ∧ (undB.data.toList.getD j.val 0).toNat < 128 := by decide
        exact this ⟨j, h8⟩
      obtain ⟨hd, hlt⟩ := hd
      rw [hd] at hnx
      generalize (undB.data.toList.getD j 0).toNat = n at *
      have z1 : ((n : Int) == 65533) = false := by rw [beq_eq_false_iff_ne]; omega
      clear hd
      go_wp2
      go_roundg (8 - (j + 1))
      case measure => omega
      case rel => exact ⟨j + 1, Nat.le_refl _, by omega, rfl⟩
    · obtain rfl : j = 8 := by omega
      have hnx : ∀ ty, (Instr.next (.pointer (some ⟨w.heap.size, 0, none⟩)) true ty).run Tryz.prog (w.iter undB 8) = _ := fun ty => run_next_end w undB 8 ty (by decide)
      go_wp2
      go_ret
      exact ⟨rfl, below_iter w undB 8⟩
theorem valid_of (n : Nat) (h : Js.isScalar n) : Utf8.valid (n : Int) = true := by
  unfold Js.isScalar at h
  rw [validRune_eq]
  unfold validRune
  exact decide_eq_true (by omega)
theorem enc_utf8 (n : Nat) (h : Js.isScalar n) : Utf8.encode (n : Int) = bs (Lib.encodeRune (n : Int)) := by
  have hv := valid_of n h
  unfold Js.isScalar at h
  unfold Utf8.encode
  rw [if_pos hv]
  unfold Lib.encodeRune
  have ht : ((n : Int)).toNat = n := by omega
  simp only [ht]
  by_cases h1 : n < 128
  · rw [if_pos h1, Lib.encodeRuneZ_one (by omega) (by omega)]
    simp only [List.map_cons, List.map_nil, ht]
  · rw [if_neg h1]
    by_cases h2 : n < 2048
    · rw [if_pos h2, Lib.encodeRuneZ_two (by omega) (by omega)]
      simp only [List.map_cons, List.map_nil]
      rw [show (192 + (n : Int) / 64).toNat = 192 + n / 64 by omega, show (128 + (n : Int) % 64).toNat = 128 + n % 64 by omega]
    · rw [if_neg h2]
      by_cases h3 : n < 65536
      · rw [if_pos h3, Lib.encodeRuneZ_three (by omega)]
        simp only [List.map_cons, List.map_nil]
        rw [show (224 + (n : Int) / 4096).toNat = 224 + n / 4096 by omega, show (128 + (n : Int) / 64 % 64).toNat = 128 + n / 64 % 64 by omega, show (128 + (n : Int) % 64).toNat = 128 + n % 64 by omega]
      · rw [if_neg h3, Lib.encodeRuneZ_four (by omega) (by omega)]
        simp only [List.map_cons, List.map_nil]
        rw [show (240 + (n : Int) / 262144).toNat = 240 + n / 262144 by omega, show (128 + (n : Int) / 4096 % 64).toNat = 128 + n / 4096 % 64 by omega, show (128 + (n : Int) / 64 % 64).toNat = 128 + n / 64 % 64 by omega, show (128 + (n : Int) % 64).toNat = 128 + n % 64 by omega]

theorem validRune_any (n : Nat) (h : Js.isScalar n) (w : World) : Calls Tryz.prog 82 #[.int .i32 (n : Int)] w fun e w' => e = .returned (.bool true) ∧ w' = w := by
  unfold Js.isScalar at h
  by_cases c : n < 55296
  · have z1 : decide ((n : Int) < 55296) = true := decide_eq_true (by omega)
    go_enter Tryz.func82, Tryz.ntmps82
    go_wp2
    go_ret
    exact ⟨rfl, rfl⟩
  · have z1 : decide ((n : Int) < 55296) = false := decide_eq_false (by omega)
    have z2 : decide ((57343 : Int) < n) = true := decide_eq_true (by omega)
    have z3 : decide ((n : Int) ≤ 1114111) = true := decide_eq_true (by omega)
    go_enter Tryz.func82, Tryz.ntmps82
    go_wp2
    go_ret
    exact ⟨rfl, rfl⟩


set_option maxHeartbeats 3200000 in
set_option maxRecDepth 100000 in
theorem indexRune_2 (n : Nat) (h : Js.isScalar n) (h1 : 128 ≤ n) (h2 : n ≠ 65533) (a b : UInt8) (hR : Utf8.encode (n : Int) = ⟨#[a, b]⟩) (hx : 128 ≤ b.toNat) (w : World) :
    Calls Tryz.prog 63 #[.string undB, .int .i32 (n : Int)] w fun e w' => e = .returned (.int .i64 (-1)) ∧ Below w.heap.size w w' := by
  have z1 : decide ((n : Int) < 128) = false := decide_eq_false (by omega)
  have z2 : ((n : Int) == 65533) = false := by rw [beq_eq_false_iff_ne]; omega
  have h32 : (n : Int) ≤ 2147483647 := by unfold Js.isScalar at h; omega
  have VR := asd (fun w => validRune_any n h w)
  have NE : ((undB[1].toNat : Int) != (((⟨#[a, b]⟩ : ByteArray)[1]'(by decide : 1 < 2)).toNat : Int)) = true := by
    have : (((92 : Nat) : Int) != (b.toNat : Int)) = true := by rw [bne_iff_ne]; omega
    exact this
  have IB : Aside (∀ w, Calls Tryz.prog 81 #[.string (undB.extract 2 8), .int .u8 (((⟨#[a, b]⟩ : ByteArray)[1]'(by decide : 1 < 2)).toNat : Int)] w fun e w' => e = .returned (.int .i64 (-1)) ∧ w' = w) := fun w => by
    have := indexByte_any (undB.extract 2 8) (b.toNat : Int) w
    rw [show ((b.toNat : Nat) : Int).toNat.toUInt8 = b by simp, und_hi _ (by decide) b hx] at this
    exact this
  clear h h1 h2
  go_enter Tryz.func63, Tryz.ntmps63
  go_wp2_with (go_at_call 82; refine (VR.out _).mono ?_; rintro e w1 ⟨rfl, rfl⟩)
  go_step3
  go_wp2_with fail
  go_loopg [9, 10] 0 (fun gh s9 s10 wr => s9 = .int .i64 1 ∧ s10 = .int .i64 0 ∧ wr = w1)
  case atStart => exact ⟨rfl, rfl, rfl⟩
  case round =>
    obtain ⟨rfl, rfl, rfl⟩ := hrel
    go_wp2_with fail
    go_step3
    go_wp2_with fail
    go_quiet (fail)
    have BQ := asd (below_q (Below.refl wr.heap.size wr) nq)
    generalize wr.drewN nq = w7 at *
    go_wp2_with fail
    go_quiet (first | (go_at_call 81; exact Calls.quiet_of_same (IB.out _)))
    have BR := asd (below_q BQ.out nq)
    generalize w7.drewN nq = w8 at *
    go_wp2_with fail
    simp only [Exit.noGoto_ret, Exit.inBlock, Exit.then]
    go_ret
    exact ⟨rfl, BR.out⟩
set_option maxHeartbeats 3200000 in
set_option maxRecDepth 100000 in
theorem indexRune_3 (n : Nat) (h : Js.isScalar n) (h1 : 128 ≤ n) (h2 : n ≠ 65533) (a b c : UInt8) (hR : Utf8.encode (n : Int) = ⟨#[a, b, c]⟩) (hx : 128 ≤ c.toNat) (w : World) :
    Calls Tryz.prog 63 #[.string undB, .int .i32 (n : Int)] w fun e w' => e = .returned (.int .i64 (-1)) ∧ Below w.heap.size w w' := by
  have z1 : decide ((n : Int) < 128) = false := decide_eq_false (by omega)
  have z2 : ((n : Int) == 65533) = false := by rw [beq_eq_false_iff_ne]; omega
  have h32 : (n : Int) ≤ 2147483647 := by unfold Js.isScalar at h; omega
  have VR := asd (fun w => validRune_any n h w)
  have NE : ((undB[2].toNat : Int) != (((⟨#[a, b, c]⟩ : ByteArray)[2]'(by decide : 2 < 3)).toNat : Int)) = true := by
    have : (((47 : Nat) : Int) != (c.toNat : Int)) = true := by rw [bne_iff_ne]; omega
    exact this
  have IB : Aside (∀ w, Calls Tryz.prog 81 #[.string (undB.extract 3 8), .int .u8 (((⟨#[a, b, c]⟩ : ByteArray)[2]'(by decide : 2 < 3)).toNat : Int)] w fun e w' => e = .returned (.int .i64 (-1)) ∧ w' = w) := fun w => by
    have := indexByte_any (undB.extract 3 8) (c.toNat : Int) w
    rw [show ((c.toNat : Nat) : Int).toNat.toUInt8 = c by simp, und_hi _ (by decide) c hx] at this
    exact this
  clear h h1 h2
  go_enter Tryz.func63, Tryz.ntmps63
  go_wp2_with (go_at_call 82; refine (VR.out _).mono ?_; rintro e w1 ⟨rfl, rfl⟩)
  go_step3
  go_wp2_with fail
  go_loopg [9, 10] 0 (fun gh s9 s10 wr => s9 = .int .i64 2 ∧ s10 = .int .i64 0 ∧ wr = w1)
  case atStart => exact ⟨rfl, rfl, rfl⟩
  case round =>
    obtain ⟨rfl, rfl, rfl⟩ := hrel
    go_wp2_with fail
    go_step3
    go_wp2_with fail
    go_quiet (fail)
    have BQ := asd (below_q (Below.refl wr.heap.size wr) nq)
    generalize wr.drewN nq = w7 at *
    go_wp2_with fail
    go_quiet (first | (go_at_call 81; exact Calls.quiet_of_same (IB.out _)))
    have BR := asd (below_q BQ.out nq)
    generalize w7.drewN nq = w8 at *
    go_wp2_with fail
    simp only [Exit.noGoto_ret, Exit.inBlock, Exit.then]
    go_ret
    exact ⟨rfl, BR.out⟩
set_option maxHeartbeats 3200000 in
set_option maxRecDepth 100000 in
theorem indexRune_4 (n : Nat) (h : Js.isScalar n) (h1 : 128 ≤ n) (h2 : n ≠ 65533) (a b c d : UInt8) (hR : Utf8.encode (n : Int) = ⟨#[a, b, c, d]⟩) (hx : 128 ≤ d.toNat) (w : World) :
    Calls Tryz.prog 63 #[.string undB, .int .i32 (n : Int)] w fun e w' => e = .returned (.int .i64 (-1)) ∧ Below w.heap.size w w' := by
  have z1 : decide ((n : Int) < 128) = false := decide_eq_false (by omega)
  have z2 : ((n : Int) == 65533) = false := by rw [beq_eq_false_iff_ne]; omega
  have h32 : (n : Int) ≤ 2147483647 := by unfold Js.isScalar at h; omega
  have VR := asd (fun w => validRune_any n h w)
  have NE : ((undB[3].toNat : Int) != (((⟨#[a, b, c, d]⟩ : ByteArray)[3]'(by decide : 3 < 4)).toNat : Int)) = true := by
    have : (((8 : Nat) : Int) != (d.toNat : Int)) = true := by rw [bne_iff_ne]; omega
    exact this
  have IB : Aside (∀ w, Calls Tryz.prog 81 #[.string (undB.extract 4 8), .int .u8 (((⟨#[a, b, c, d]⟩ : ByteArray)[3]'(by decide : 3 < 4)).toNat : Int)] w fun e w' => e = .returned (.int .i64 (-1)) ∧ w' = w) := fun w => by
    have := indexByte_any (undB.extract 4 8) (d.toNat : Int) w
    rw [show ((d.toNat : Nat) : Int).toNat.toUInt8 = d by simp, und_hi _ (by decide) d hx] at this
    exact this
  clear h h1 h2
  go_enter Tryz.func63, Tryz.ntmps63
  go_wp2_with (go_at_call 82; refine (VR.out _).mono ?_; rintro e w1 ⟨rfl, rfl⟩)
  go_step3
  go_wp2_with fail
  go_loopg [9, 10] 0 (fun gh s9 s10 wr => s9 = .int .i64 3 ∧ s10 = .int .i64 0 ∧ wr = w1)
  case atStart => exact ⟨rfl, rfl, rfl⟩
  case round =>
    obtain ⟨rfl, rfl, rfl⟩ := hrel
    go_wp2_with fail
    go_step3
    go_wp2_with fail
    go_quiet (fail)
    have BQ := asd (below_q (Below.refl wr.heap.size wr) nq)
    generalize wr.drewN nq = w7 at *
    go_wp2_with fail
    go_quiet (first | (go_at_call 81; exact Calls.quiet_of_same (IB.out _)))
    have BR := asd (below_q BQ.out nq)
    generalize w7.drewN nq = w8 at *
    go_wp2_with fail
    simp only [Exit.noGoto_ret, Exit.inBlock, Exit.then]
    go_ret
    exact ⟨rfl, BR.out⟩
theorem indexRune_hi (n : Nat) (h : Js.isScalar n) (h1 : 128 ≤ n) (w : World) :
    Calls Tryz.prog 63 #[.string undB, .int .i32 (n : Int)] w fun e w' => e = .returned (.int .i64 (-1)) ∧ Below w.heap.size w w' := by
  by_cases h2 : n = 65533
  · subst h2
    exact indexRune_err w
  · have he := enc_utf8 n h
    have hh := Js.enc_hi n h1
    obtain ⟨l1, l2⟩ := Js.enc_len (n : Int)
    have hz := encode_facts (n : Int) (valid_of n h) (by omega)
    rw [he] at hz
    have hs : 2 ≤ (Lib.encodeRune (n : Int)).length := hz.1
    clear hz
    generalize Lib.encodeRune (n : Int) = l at *
    rcases l with _ | ⟨a, _ | ⟨b, _ | ⟨c, _ | ⟨d, _ | ⟨e, t⟩⟩⟩⟩⟩
    · simp at hs
    · simp at hs
    · exact indexRune_2 n h h1 h2 a b he (hh b (by simp)) w
    · exact indexRune_3 n h h1 h2 a b c he (hh c (by simp)) w
    · exact indexRune_4 n h h1 h2 a b c d he (hh d (by simp)) w
    · simp at l2
end Go.Proofs.YtpeioecpilmpiaaGreatDoor
