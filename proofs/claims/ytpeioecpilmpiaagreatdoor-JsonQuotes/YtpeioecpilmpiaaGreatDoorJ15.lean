/-
  What a sign is written as.
-/
import Derived.Test.YtpeioecpilmpiaaGreatDoorJ13
import Derived.Test.YtpeioecpilmpiaaGreatDoorJ14
import Derived.Shelf.Unicode.ValidAny
import Derived.WalkKit
import Derived.WalkSpells
import Derived.WalkLawsBesides
import Derived.Deep.LoopGhost
import Derived.Laws.Externs
import Derived.Below
import Derived.BigQuiet
import Derived.Deep.RegionWith
import Derived.OwnWalk
import Derived.Maps.AppendAt
namespace Go.Proofs.YtpeioecpilmpiaaGreatDoor
open Go.RowKit
open Go.Shelf
def lays196_ren : Go.Shelf.Ren := ⟨fun | 196 => 28 | 259 => 46 | n => n, fun | 0 => 0 | 3 => 3 | 4 => 4 | 5 => 5 | 9 => 9 | 12 => 12 | 46 => 90 | 53 => 104 | 119 => 86 | 138 => 88 | 139 => 89 | n => n, fun | 3 => 0 | 4 => 1 | n => n⟩
theorem lays196 : Go.Proofs.Lays.n196 Tryz.prog lays196_ren := {
  mixed := by kernel_rfl
  f196 := Tryz.func28.trans (congrArg some (by kernel_rfl))
  f259 := Tryz.func46.trans (congrArg some (by kernel_rfl))
  t0 := Tryz.underlying0
  a0 := Tryz.isAgg0
  z0 := Tryz.sizeOf0
  v0 := Tryz.zeroValue0
  t3 := Tryz.underlying3
  a3 := Tryz.isAgg3
  z3 := Tryz.sizeOf3
  v3 := Tryz.zeroValue3
  t4 := Tryz.underlying4
  a4 := Tryz.isAgg4
  z4 := Tryz.sizeOf4
  v4 := Tryz.zeroValue4
  t5 := Tryz.underlying5
  a5 := Tryz.isAgg5
  z5 := Tryz.sizeOf5
  v5 := Tryz.zeroValue5
  t9 := Tryz.underlying9
  a9 := Tryz.isAgg9
  z9 := Tryz.sizeOf9
  v9 := Tryz.zeroValue9
  t12 := Tryz.underlying12
  a12 := Tryz.isAgg12
  z12 := Tryz.sizeOf12
  v12 := Tryz.zeroValue12
  t46 := Tryz.underlying90
  a46 := Tryz.isAgg90
  z46 := Tryz.sizeOf90
  v46 := Tryz.zeroValue90
  t53 := Tryz.underlying104
  a53 := Tryz.isAgg104
  z53 := Tryz.sizeOf104
  v53 := Tryz.zeroValue104
  t119 := Tryz.underlying86
  a119 := Tryz.isAgg86
  z119 := Tryz.sizeOf86
  t138 := Tryz.underlying88
  a138 := Tryz.isAgg88
  z138 := Tryz.sizeOf88
  v138 := Tryz.zeroValue88
  t139 := Tryz.underlying89
  a139 := Tryz.isAgg89
  z139 := Tryz.sizeOf89
  v139 := Tryz.zeroValue89
  g3 := by kernel_rfl
  g4 := by kernel_rfl }
theorem gPow : Tryz.prog.globalNamed "internal/strconv.uint64pow10" = some 3 := by kernel_rfl
/-- What the calls ask of the variables. -/
structure Vars (w : World) : Prop where
  pow : Pow w
  tz : TZ w
  utf : Lib.Utf8Tabs 0 1 w
theorem Vars.big {w : World} (h : Vars w) : 7 < w.heap.size := World.block_lt_of_cell? w ⟨7, _, none⟩ h.tz
theorem Vars.below {w w' : World} (h : Vars w) (hb : Below w.heap.size w w') : Vars w' := by
  refine ⟨?_, cell_below h.tz hb, fun c hc => cell_below (h.utf.1 c hc) hb, fun i hi => ⟨cell_below (h.utf.2 i hi).1 hb, cell_below (h.utf.2 i hi).2 hb⟩⟩
  have ht := h.pow
  unfold Pow Lib.TabIs World.var? at ht ⊢
  simp only [gPow, Option.bind_some] at ht ⊢
  rw [hb.block 3 (by have := h.big; omega)]
  exact ht

theorem validString_any (s : ByteArray) (w : World) (hs : s.size ≤ 1000000) (h : Vars w) :
    Calls Tryz.prog 28 #[.string s] w fun e w' => e = .returned (.bool (Lib.validD s.data.toList)) ∧ Below w.heap.size w w' := Any.utf8_ValidString lays196 s w (by omega) h.utf

theorem und_none : ∀ n : Fin 128, n.val ∈ [34, 92, 47, 8, 12, 10, 13, 9] ∨ Lib.indexByte undB.data.toList n.val.toUInt8 = -1 := by decide +kernel
theorem idx_lo (n : Nat) (h : n < 128) (w : World) :
    Calls Tryz.prog 63 #[.string undB, .int .i32 (n : Int)] w fun e w' => e = .returned (.int .i64 (Lib.indexByte undB.data.toList n.toUInt8)) ∧ w' = w := by
  have := indexRune_ascii undB (n : Int) w (by omega) (by omega)
  rwa [show ((n : Int)).toNat.toUInt8 = n.toUInt8 by rw [show ((n : Int)).toNat = n by omega]] at this
theorem q_one (b : UInt8) : Js.q [b] = Js.qb b := by simp [Js.q]
theorem enc_lo (n : Nat) (h : n < 128) : Lib.encodeRune (n : Int) = [n.toUInt8] := by
  have := Js.enc_ascii n.toUInt8 (by simp [Nat.toUInt8]; omega)
  rwa [show (n.toUInt8.toNat : Nat) = n by simp [Nat.toUInt8]; omega] at this

set_option maxHeartbeats 3200000 in
set_option maxRecDepth 100000 in
theorem written_any (n : Nat) (h : Js.isScalar n) (w : World) (hV : Vars w) :
    Calls Tryz.prog 49 #[.int .i32 (n : Int)] w fun e w' => e = .returned (.string (bs (Js.q (Lib.encodeRune (n : Int))))) ∧ Below w.heap.size w w' := by
  have he := enc_utf8 n h
  have h32 : (n : Int) ≤ 1114111 := by unfold Js.isScalar at h; omega
  by_cases h1 : 128 ≤ n
  · have hq : Js.q (Lib.encodeRune (n : Int)) = Lib.encodeRune (n : Int) := Js.q_id _ (fun x hx => Js.qb_hi x (Js.enc_hi n h1 x hx))
    rw [hq]
    generalize Lib.encodeRune (n : Int) = l at *
    have K := asd (indexRune_hi n h h1 w)
    have z1 : decide ((n : Int) < 32) = false := decide_eq_false (by omega)
    go_enter Tryz.func49, Tryz.ntmps49
    go_wp2_with (go_at_call 63; refine K.out.mono ?_; rintro e w1 ⟨rfl, b1⟩)
    go_ret
    exact ⟨rfl, b1⟩
  · have K := idx_lo n (by omega) w
    have hl := enc_lo n (by omega)
    by_cases c34 : n = 34
    · subst c34
      rw [show Lib.indexByte undB.data.toList (34 : Nat).toUInt8 = 0 by decide] at K
      have hq : Aside (bs (Js.q (Lib.encodeRune ((34 : Nat) : Int))) = ⟨#[92, 34]⟩) := by
        show _ = _
        kernel_rfl
      replace K := asd K
      go_enter Tryz.func49, Tryz.ntmps49
      go_wp2_with (go_at_call 63; refine K.out.mono ?_; rintro e w1 ⟨rfl, rfl⟩)
      go_ret
      exact ⟨by rw [hq.out]; rfl, Below.refl _ _⟩
    by_cases c92 : n = 92
    · subst c92
      rw [show Lib.indexByte undB.data.toList (92 : Nat).toUInt8 = 1 by decide] at K
      have hq : Aside (bs (Js.q (Lib.encodeRune ((92 : Nat) : Int))) = ⟨#[92, 92]⟩) := by
        show _ = _
        kernel_rfl
      replace K := asd K
      go_enter Tryz.func49, Tryz.ntmps49
      go_wp2_with (go_at_call 63; refine K.out.mono ?_; rintro e w1 ⟨rfl, rfl⟩)
      go_ret
      exact ⟨by rw [hq.out]; rfl, Below.refl _ _⟩
    by_cases c8 : n = 8
    · subst c8
      rw [show Lib.indexByte undB.data.toList (8 : Nat).toUInt8 = 3 by decide] at K
      have hq : Aside (bs (Js.q (Lib.encodeRune ((8 : Nat) : Int))) = ⟨#[92, 98]⟩) := by
        show _ = _
        kernel_rfl
      replace K := asd K
      go_enter Tryz.func49, Tryz.ntmps49
      go_wp2_with (go_at_call 63; refine K.out.mono ?_; rintro e w1 ⟨rfl, rfl⟩)
      go_ret
      exact ⟨by rw [hq.out]; rfl, Below.refl _ _⟩
    by_cases c12 : n = 12
    · subst c12
      rw [show Lib.indexByte undB.data.toList (12 : Nat).toUInt8 = 4 by decide] at K
      have hq : Aside (bs (Js.q (Lib.encodeRune ((12 : Nat) : Int))) = ⟨#[92, 102]⟩) := by
        show _ = _
        kernel_rfl
      replace K := asd K
      go_enter Tryz.func49, Tryz.ntmps49
      go_wp2_with (go_at_call 63; refine K.out.mono ?_; rintro e w1 ⟨rfl, rfl⟩)
      go_ret
      exact ⟨by rw [hq.out]; rfl, Below.refl _ _⟩
    by_cases c10 : n = 10
    · subst c10
      rw [show Lib.indexByte undB.data.toList (10 : Nat).toUInt8 = 5 by decide] at K
      have hq : Aside (bs (Js.q (Lib.encodeRune ((10 : Nat) : Int))) = ⟨#[92, 110]⟩) := by
        show _ = _
        kernel_rfl
      replace K := asd K
      go_enter Tryz.func49, Tryz.ntmps49
      go_wp2_with (go_at_call 63; refine K.out.mono ?_; rintro e w1 ⟨rfl, rfl⟩)
      go_ret
      exact ⟨by rw [hq.out]; rfl, Below.refl _ _⟩
    by_cases c13 : n = 13
    · subst c13
      rw [show Lib.indexByte undB.data.toList (13 : Nat).toUInt8 = 6 by decide] at K
      have hq : Aside (bs (Js.q (Lib.encodeRune ((13 : Nat) : Int))) = ⟨#[92, 114]⟩) := by
        show _ = _
        kernel_rfl
      replace K := asd K
      go_enter Tryz.func49, Tryz.ntmps49
      go_wp2_with (go_at_call 63; refine K.out.mono ?_; rintro e w1 ⟨rfl, rfl⟩)
      go_ret
      exact ⟨by rw [hq.out]; rfl, Below.refl _ _⟩
    by_cases c9 : n = 9
    · subst c9
      rw [show Lib.indexByte undB.data.toList (9 : Nat).toUInt8 = 7 by decide] at K
      have hq : Aside (bs (Js.q (Lib.encodeRune ((9 : Nat) : Int))) = ⟨#[92, 116]⟩) := by
        show _ = _
        kernel_rfl
      replace K := asd K
      go_enter Tryz.func49, Tryz.ntmps49
      go_wp2_with (go_at_call 63; refine K.out.mono ?_; rintro e w1 ⟨rfl, rfl⟩)
      go_ret
      exact ⟨by rw [hq.out]; rfl, Below.refl _ _⟩
    by_cases c47 : n = 47
    · subst c47
      rw [show Lib.indexByte undB.data.toList (47 : Nat).toUInt8 = 2 by decide] at K
      have hq : Aside (bs (Js.q (Lib.encodeRune ((47 : Nat) : Int))) = ⟨#[47]⟩) := by
        show _ = _
        kernel_rfl
      replace K := asd K
      go_enter Tryz.func49, Tryz.ntmps49
      go_wp2_with (go_at_call 63; refine K.out.mono ?_; rintro e w1 ⟨rfl, rfl⟩)
      go_ret
      exact ⟨by rw [hq.out]; rfl, Below.refl _ _⟩
    have hno : Lib.indexByte undB.data.toList n.toUInt8 = -1 := by
      rcases und_none ⟨n, by omega⟩ with h | h
      · simp only [List.mem_cons, List.not_mem_nil, or_false] at h
        omega
      · exact h
    rw [hno] at K
    by_cases hlt : n < 32
    · obtain ⟨m, l, hm, hll, rfl⟩ : ∃ m l, m < 2 ∧ l < 16 ∧ n = 16 * m + l := ⟨n / 16, n % 16, by omega, by omega, by omega⟩
      have hq : Aside (bs (Js.q (Lib.encodeRune ((16 * m + l : Nat) : Int))) = ⟨#[92, 117, 48, 48, Js.hx m, Js.hx l]⟩) := by
        show _ = _
        rw [hl, q_one]
        have hne : ∀ z : Nat, z < 128 → 16 * m + l ≠ z → (16 * m + l).toUInt8 ≠ z.toUInt8 := fun z hz hne e => by
          have := congrArg UInt8.toNat e
          simp [Nat.toUInt8] at this
          omega
        have h34 : (16 * m + l).toUInt8 ≠ 34 := hne 34 (by omega) c34
        have h92 : (16 * m + l).toUInt8 ≠ 92 := hne 92 (by omega) c92
        have h8 : (16 * m + l).toUInt8 ≠ 8 := hne 8 (by omega) c8
        have h9 : (16 * m + l).toUInt8 ≠ 9 := hne 9 (by omega) c9
        have h10 : (16 * m + l).toUInt8 ≠ 10 := hne 10 (by omega) c10
        have h12 : (16 * m + l).toUInt8 ≠ 12 := hne 12 (by omega) c12
        have h13 : (16 * m + l).toUInt8 ≠ 13 := hne 13 (by omega) c13
        have hn : ((16 * m + l).toUInt8).toNat = 16 * m + l := by simp [Nat.toUInt8]; omega
        unfold Js.qb
        have hor : ¬ ((16 * m + l).toUInt8 = 34 ∨ (16 * m + l).toUInt8 = 92) := fun e => e.elim h34 h92
        rw [if_neg hor, if_neg h8, if_neg h9, if_neg h10, if_neg h12, if_neg h13, if_pos (by omega), hn, show (16 * m + l) / 16 = m by omega, show (16 * m + l) % 16 = l by omega]
      have z1 : decide (((16 * m + l : Nat) : Int) < 32) = true := decide_eq_true (by omega)
      have e1 : ((16 * m + l : Nat) : Int) = 16 * (m : Int) + l := by omega
      rw [e1] at K z1
      have F := asd (fun w1 (h1 : Vars w1) => fmtInt_any m l hm hll w1 h1.tz h1.big)
      replace K := asd K
      rw [e1]
      have hb1 : 16 * (m : Int) + l < 32 := by omega
      have hb0 : 0 ≤ 16 * (m : Int) + l := by omega
      have HV := asd hV
      clear he h hl hno c34 c92 c8 c9 c10 c12 c13 c47 hV
      rw [e1] at hq
      go_enter Tryz.func49, Tryz.ntmps49
      go_wp2_with (first
        | (go_at_call 63; refine K.out.mono ?_; rintro e w1 ⟨rfl, rfl⟩)
        | (go_at_call 64; refine (F.out _ HV.out).mono ?_; rintro e w2 ⟨rfl, b2⟩))
      go_ret
      refine ⟨?_, b2⟩
      rw [hq.out]
      show Ending.returned (Value.string _) = _
      congr 2
    · have z1 : decide ((n : Int) < 32) = false := decide_eq_false (by omega)
      have hq : Js.q (Lib.encodeRune (n : Int)) = Lib.encodeRune (n : Int) := by
        refine Js.q_id _ (fun x hx => ?_)
        rw [hl] at hx
        simp only [List.mem_cons, List.not_mem_nil, or_false] at hx
        subst hx
        have hn : (n.toUInt8).toNat = n := by simp [Nat.toUInt8]; omega
        exact Js.qb_id _ (by omega) (fun e => by have := congrArg UInt8.toNat e; rw [hn] at this; exact c34 this) (fun e => by have := congrArg UInt8.toNat e; rw [hn] at this; exact c92 this)
      rw [hq]
      generalize Lib.encodeRune (n : Int) = L at *
      replace K := asd K
      clear hl hq hno
      go_enter Tryz.func49, Tryz.ntmps49
      go_wp2_with (go_at_call 63; refine K.out.mono ?_; rintro e w1 ⟨rfl, rfl⟩)
      go_ret
      exact ⟨rfl, Below.refl _ _⟩
end Go.Proofs.YtpeioecpilmpiaaGreatDoor
