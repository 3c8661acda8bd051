/-
  YtpeioecpilmpiaaGreatDoor: the texts J15, J16, J17, one behind the other.
-/
import Derived.Test.YtpeioecpilmpiaaGreatDoorMF16
import Derived.Shelf.Unicode.ValidAny
import Derived.WalkKit
import Derived.WalkSpells
import Derived.WalkLawsBesides
import Derived.Deep.LoopGhost
import Derived.Laws.Externs
import Derived.Below
import Derived.BigQuiet
import Derived.Deep.RegionWith
import Derived.OwnWalk
import Derived.Maps.AppendAt
import Derived.Laws.RangeAny
import Derived.WalkSmall
/-
  What a sign is written as.
-/
namespace Go.Proofs.YtpeioecpilmpiaaGreatDoor
open Go.RowKit
open Go.Shelf
def lays196_ren : Go.Shelf.Ren := ⟨fun | 196 => 28 | 259 => 46 | n => n, fun | 0 => 0 | 3 => 3 | 4 => 4 | 5 => 5 | 9 => 9 | 12 => 12 | 46 => 90 | 53 => 104 | 119 => 86 | 138 => 88 | 139 => 89 | n => n, fun | 3 => 0 | 4 => 1 | n => n⟩
theorem lays196 : Go.Proofs.Lays.n196 Tryz.prog lays196_ren := {
  mixed := by kernel_rfl
  f196 := Tryz.func28.trans (congrArg some (by kernel_rfl))
  f259 := Tryz.func46.trans (congrArg some (by kernel_rfl))
  t0 := Tryz.underlying0
  a0 := Tryz.isAgg0
  z0 := Tryz.sizeOf0
  v0 := Tryz.zeroValue0
  t3 := Tryz.underlying3
  a3 := Tryz.isAgg3
  z3 := Tryz.sizeOf3
  v3 := Tryz.zeroValue3
  t4 := Tryz.underlying4
  a4 := Tryz.isAgg4
  z4 := Tryz.sizeOf4
  v4 := Tryz.zeroValue4
  t5 := Tryz.underlying5
  a5 := Tryz.isAgg5
  z5 := Tryz.sizeOf5
  v5 := Tryz.zeroValue5
  t9 := Tryz.underlying9
  a9 := Tryz.isAgg9
  z9 := Tryz.sizeOf9
  v9 := Tryz.zeroValue9
  t12 := Tryz.underlying12
  a12 := Tryz.isAgg12
  z12 := Tryz.sizeOf12
  v12 := Tryz.zeroValue12
  t46 := Tryz.underlying90
  a46 := Tryz.isAgg90
  z46 := Tryz.sizeOf90
  v46 := Tryz.zeroValue90
  t53 := Tryz.underlying104
  a53 := Tryz.isAgg104
  z53 := Tryz.sizeOf104
  v53 := Tryz.zeroValue104
  t119 := Tryz.underlying86
  a119 := Tryz.isAgg86
  z119 := Tryz.sizeOf86
  t138 := Tryz.underlying88
  a138 := Tryz.isAgg88
  z138 := Tryz.sizeOf88
  v138 := Tryz.zeroValue88
  t139 := Tryz.underlying89
  a139 := Tryz.isAgg89
  z139 := Tryz.sizeOf89
  v139 := Tryz.zeroValue89
  g3 := by kernel_rfl
  g4 := by kernel_rfl }
theorem gPow : Tryz.prog.globalNamed "internal/strconv.uint64pow10" = some 3 := by kernel_rfl
/-- What the calls ask of the variables. -/
structure Vars (w : World) : Prop where
  pow : Pow w
  tz : TZ w
theorem Vars.big {w : World} (h : Vars w) : 7 < w.heap.size := World.block_lt_of_cell? w ⟨7, _, none⟩ h.tz
theorem Vars.below {w w' : World} (h : Vars w) (hb : Below w.heap.size w w') : Vars w' := by
  refine ⟨?_, cell_below h.tz hb⟩
  have ht := h.pow
  unfold Pow Lib.TabIs World.var? at ht ⊢
  simp only [gPow, Option.bind_some] at ht ⊢
  rw [hb.block 3 (by have := h.big; omega)]
  exact ht

theorem utf_below {w w' : World} (h : Lib.Utf8Tabs 0 1 w) (hb : Below w.heap.size w w') : Lib.Utf8Tabs 0 1 w' := ⟨fun c hc => cell_below (h.1 c hc) hb, fun i hi => ⟨cell_below (h.2 i hi).1 hb, cell_below (h.2 i hi).2 hb⟩⟩

theorem validString_any (s : ByteArray) (w : World) (hs : s.size ≤ 1000000) (h : Lib.Utf8Tabs 0 1 w) :
    Calls Tryz.prog 28 #[.string s] w fun e w' => e = .returned (.bool (Lib.validD s.data.toList)) ∧ Below w.heap.size w w' := Any.utf8_ValidString lays196 s w (by omega) h

theorem und_none : ∀ n : Fin 128, n.val ∈ [34, 92, 47, 8, 12, 10, 13, 9] ∨ Lib.indexByte undB.data.toList n.val.toUInt8 = -1 := by decide +kernel
theorem idx_lo (n : Nat) (h : n < 128) (w : World) :
    Calls Tryz.prog 63 #[.string undB, .int .i32 (n : Int)] w fun e w' => e = .returned (.int .i64 (Lib.indexByte undB.data.toList n.toUInt8)) ∧ w' = w := by
  have := indexRune_ascii undB (n : Int) w (by omega) (by omega)
  rwa [show ((n : Int)).toNat.toUInt8 = n.toUInt8 by rw [show ((n : Int)).toNat = n by omega]] at this
theorem q_one (b : UInt8) : Js.q [b] = Js.qb b := by simp [Js.q]
theorem enc_lo (n : Nat) (h : n < 128) : Lib.encodeRune (n : Int) = [n.toUInt8] := by
  have := Js.enc_ascii n.toUInt8 (by simp [Nat.toUInt8]; omega)
  rwa [show (n.toUInt8.toNat : Nat) = n by simp [Nat.toUInt8]; omega] at this

set_option maxHeartbeats 3200000 in
set_option maxRecDepth 100000 in
theorem written_any (n : Nat) (h : Js.isScalar n) (w : World) (hV : Vars w) :
    Calls Tryz.prog 49 #[.int .i32 (n : Int)] w fun e w' => e = .returned (.string (bs (Js.q (Lib.encodeRune (n : Int))))) ∧ Below w.heap.size w w' := by
  have he := enc_utf8 n h
  have h32 : (n : Int) ≤ 1114111 := by unfold Js.isScalar at h; omega
  by_cases h1 : 128 ≤ n
  · have hq : Js.q (Lib.encodeRune (n : Int)) = Lib.encodeRune (n : Int) := Js.q_id _ (fun x hx => Js.qb_hi x (Js.enc_hi n h1 x hx))
    rw [hq]
    generalize Lib.encodeRune (n : Int) = l at *
    have K := asd (indexRune_hi n h h1 w)
    have z1 : decide ((n : Int) < 32) = false := decide_eq_false (by omega)
    go_enter Tryz.func49, Tryz.ntmps49
    go_wp2_with (go_at_call 63; refine K.out.mono ?_; rintro e w1 ⟨rfl, b1⟩)
    go_ret
    exact ⟨rfl, b1⟩
  · have K := idx_lo n (by omega) w
    have hl := enc_lo n (by omega)
    by_cases c34 : n = 34
    · subst c34
      rw [show Lib.indexByte undB.data.toList (34 : Nat).toUInt8 = 0 by decide] at K
      have hq : Aside (bs (Js.q (Lib.encodeRune ((34 : Nat) : Int))) = ⟨#[92, 34]⟩) := by
        show _ = _
        kernel_rfl
      replace K := asd K
      go_enter Tryz.func49, Tryz.ntmps49
      go_wp2_with (go_at_call 63; refine K.out.mono ?_; rintro e w1 ⟨rfl, rfl⟩)
      go_ret
      exact ⟨by rw [hq.out]; rfl, Below.refl _ _⟩
    by_cases c92 : n = 92
    · subst c92
      rw [show Lib.indexByte undB.data.toList (92 : Nat).toUInt8 = 1 by decide] at K
      have hq : Aside (bs (Js.q (Lib.encodeRune ((92 : Nat) : Int))) = ⟨#[92, 92]⟩) := by
        show _ = _
        kernel_rfl
      replace K := asd K
      go_enter Tryz.func49, Tryz.ntmps49
      go_wp2_with (go_at_call 63; refine K.out.mono ?_; rintro e w1 ⟨rfl, rfl⟩)
      go_ret
      exact ⟨by rw [hq.out]; rfl, Below.refl _ _⟩
    by_cases c8 : n = 8
    · subst c8
      rw [show Lib.indexByte undB.data.toList (8 : Nat).toUInt8 = 3 by decide] at K
      have hq : Aside (bs (Js.q (Lib.encodeRune ((8 : Nat) : Int))) = ⟨#[92, 98]⟩) := by
        show _ = _
        kernel_rfl
      replace K := asd K
      go_enter Tryz.func49, Tryz.ntmps49
      go_wp2_with (go_at_call 63; refine K.out.mono ?_; rintro e w1 ⟨rfl, rfl⟩)
      go_ret
      exact ⟨by rw [hq.out]; rfl, Below.refl _ _⟩
    by_cases c12 : n = 12
    · subst c12
      rw [show Lib.indexByte undB.data.toList (12 : Nat).toUInt8 = 4 by decide] at K
      have hq : Aside (bs (Js.q (Lib.encodeRune ((12 : Nat) : Int))) = ⟨#[92, 102]⟩) := by
        show _ = _
        kernel_rfl
      replace K := asd K
      go_enter Tryz.func49, Tryz.ntmps49
      go_wp2_with (go_at_call 63; refine K.out.mono ?_; rintro e w1 ⟨rfl, rfl⟩)
      go_ret
      exact ⟨by rw [hq.out]; rfl, Below.refl _ _⟩
    by_cases c10 : n = 10
    · subst c10
      rw [show Lib.indexByte undB.data.toList (10 : Nat).toUInt8 = 5 by decide] at K
      have hq : Aside (bs (Js.q (Lib.encodeRune ((10 : Nat) : Int))) = ⟨#[92, 110]⟩) := by
        show _ = _
        kernel_rfl
      replace K := asd K
      go_enter Tryz.func49, Tryz.ntmps49
      go_wp2_with (go_at_call 63; refine K.out.mono ?_; rintro e w1 ⟨rfl, rfl⟩)
      go_ret
      exact ⟨by rw [hq.out]; rfl, Below.refl _ _⟩
    by_cases c13 : n = 13
    · subst c13
      rw [show Lib.indexByte undB.data.toList (13 : Nat).toUInt8 = 6 by decide] at K
      have hq : Aside (bs (Js.q (Lib.encodeRune ((13 : Nat) : Int))) = ⟨#[92, 114]⟩) := by
        show _ = _
        kernel_rfl
      replace K := asd K
      go_enter Tryz.func49, Tryz.ntmps49
      go_wp2_with (go_at_call 63; refine K.out.mono ?_; rintro e w1 ⟨rfl, rfl⟩)
      go_ret
      exact ⟨by rw [hq.out]; rfl, Below.refl _ _⟩
    by_cases c9 : n = 9
    · subst c9
      rw [show Lib.indexByte undB.data.toList (9 : Nat).toUInt8 = 7 by decide] at K
      have hq : Aside (bs (Js.q (Lib.encodeRune ((9 : Nat) : Int))) = ⟨#[92, 116]⟩) := by
        show _ = _
        kernel_rfl
      replace K := asd K
      go_enter Tryz.func49, Tryz.ntmps49
      go_wp2_with (go_at_call 63; refine K.out.mono ?_; rintro e w1 ⟨rfl, rfl⟩)
      go_ret
      exact ⟨by rw [hq.out]; rfl, Below.refl _ _⟩
    by_cases c47 : n = 47
    · subst c47
      rw [show Lib.indexByte undB.data.toList (47 : Nat).toUInt8 = 2 by decide] at K
      have hq : Aside (bs (Js.q (Lib.encodeRune ((47 : Nat) : Int))) = ⟨#[47]⟩) := by
        show _ = _
        kernel_rfl
      replace K := asd K
      go_enter Tryz.func49, Tryz.ntmps49
      go_wp2_with (go_at_call 63; refine K.out.mono ?_; rintro e w1 ⟨rfl, rfl⟩)
      go_ret
      exact ⟨by rw [hq.out]; rfl, Below.refl _ _⟩
    have hno : Lib.indexByte undB.data.toList n.toUInt8 = -1 := by
      rcases und_none ⟨n, by omega⟩ with h | h
      · simp only [List.mem_cons, List.not_mem_nil, or_false] at h
        omega
      · exact h
    rw [hno] at K
    by_cases hlt : n < 32
    · obtain ⟨m, l, hm, hll, rfl⟩ : ∃ m l, m < 2 ∧ l < 16 ∧ n = 16 * m + l := ⟨n / 16, n % 16, by omega, by omega, by omega⟩
      have hq : Aside (bs (Js.q (Lib.encodeRune ((16 * m + l : Nat) : Int))) = ⟨#[92, 117, 48, 48, Js.hx m, Js.hx l]⟩) := by
        show _ = _
        rw [hl, q_one]
        have hne : ∀ z : Nat, z < 128 → 16 * m + l ≠ z → (16 * m + l).toUInt8 ≠ z.toUInt8 := fun z hz hne e => by
          have := congrArg UInt8.toNat e
          simp [Nat.toUInt8] at this
          omega
        have h34 : (16 * m + l).toUInt8 ≠ 34 := hne 34 (by omega) c34
        have h92 : (16 * m + l).toUInt8 ≠ 92 := hne 92 (by omega) c92
        have h8 : (16 * m + l).toUInt8 ≠ 8 := hne 8 (by omega) c8
        have h9 : (16 * m + l).toUInt8 ≠ 9 := hne 9 (by omega) c9
        have h10 : (16 * m + l).toUInt8 ≠ 10 := hne 10 (by omega) c10
        have h12 : (16 * m + l).toUInt8 ≠ 12 := hne 12 (by omega) c12
        have h13 : (16 * m + l).toUInt8 ≠ 13 := hne 13 (by omega) c13
        have hn : ((16 * m + l).toUInt8).toNat = 16 * m + l := by simp [Nat.toUInt8]; omega
        unfold Js.qb
        have hor : ¬ ((16 * m + l).toUInt8 = 34 ∨ (16 * m + l).toUInt8 = 92) := fun e => e.elim h34 h92
        rw [if_neg hor, if_neg h8, if_neg h9, if_neg h10, if_neg h12, if_neg h13, if_pos (by omega), hn, show (16 * m + l) / 16 = m by omega, show (16 * m + l) % 16 = l by omega]
      have z1 : decide (((16 * m + l : Nat) : Int) < 32) = true := decide_eq_true (by omega)
      have e1 : ((16 * m + l : Nat) : Int) = 16 * (m : Int) + l := by omega
      rw [e1] at K z1
      have F := asd (fun w1 (h1 : Vars w1) => fmtInt_any m l hm hll w1 h1.tz h1.big)
      replace K := asd K
      rw [e1]
      have hb1 : 16 * (m : Int) + l < 32 := by omega
      have hb0 : 0 ≤ 16 * (m : Int) + l := by omega
      have HV := asd hV
      clear he h hl hno c34 c92 c8 c9 c10 c12 c13 c47 hV
      rw [e1] at hq
      go_enter Tryz.func49, Tryz.ntmps49
      go_wp2_with (first
        | (go_at_call 63; refine K.out.mono ?_; rintro e w1 ⟨rfl, rfl⟩)
        | (go_at_call 64; refine (F.out _ HV.out).mono ?_; rintro e w2 ⟨rfl, b2⟩))
      go_ret
      refine ⟨?_, b2⟩
      rw [hq.out]
      show Ending.returned (Value.string _) = _
      congr 2
    · have z1 : decide ((n : Int) < 32) = false := decide_eq_false (by omega)
      have hq : Js.q (Lib.encodeRune (n : Int)) = Lib.encodeRune (n : Int) := by
        refine Js.q_id _ (fun x hx => ?_)
        rw [hl] at hx
        simp only [List.mem_cons, List.not_mem_nil, or_false] at hx
        subst hx
        have hn : (n.toUInt8).toNat = n := by simp [Nat.toUInt8]; omega
        exact Js.qb_id _ (by omega) (fun e => by have := congrArg UInt8.toNat e; rw [hn] at this; exact c34 this) (fun e => by have := congrArg UInt8.toNat e; rw [hn] at this; exact c92 this)
      rw [hq]
      generalize Lib.encodeRune (n : Int) = L at *
      replace K := asd K
      clear hl hq hno
      go_enter Tryz.func49, Tryz.ntmps49
      go_wp2_with (go_at_call 63; refine K.out.mono ?_; rintro e w1 ⟨rfl, rfl⟩)
      go_ret
      exact ⟨rfl, Below.refl _ _⟩
end Go.Proofs.YtpeioecpilmpiaaGreatDoor

/-
  The program's quoted.
-/
namespace Go.Proofs.YtpeioecpilmpiaaGreatDoor
open Go.RowKit
theorem scalar_of (l : Js.B) : Js.isScalar (Lib.decodeL l).1 := by
  unfold Js.isScalar
  rw [Lib.decodeL_N]
  have k0 := (l.getD 0 0).toNat_lt
  rcases Lib.decodeN_shape l.length (l.getD 0 0).toNat (l.getD 1 0).toNat (l.getD 2 0).toNat (l.getD 3 0).toNat with ⟨c, e⟩ | ⟨c1, c2, c3, cv, e⟩ | ⟨c1, c2, c3, c4, cv, cs, e⟩ | ⟨c1, c2, c3, c4, c5, cv, cw, e⟩ | e
  all_goals (rw [e]; dsimp only; omega)

set_option maxHeartbeats 4000000 in
set_option maxRecDepth 1000000 in
theorem quoted_any (s : ByteArray) (w : World) (hs : s.size ≤ 100000) (hV : Vars w) (hval : Lib.validD s.data.toList = true) :
    Calls Tryz.prog 29 #[.string s] w fun e w' => e = .returned (.string (bs (Js.quote s.data.toList))) ∧ Below w.heap.size w w' := by
  have HV := asd hV
  have HVAL := asd hval
  have hbig := hV.big
  clear hV hval
  have T1 : Aside True := trivial
  have hB0 : Bd w.heap.size w.heap.size [] (w.alloc (.cells #[.pointer none, .slice none 0 0] 94)) := Lib.IsBuilderF.of (Lib.fresh_isBuilder 94 5 w)
  have W1 := asd (writeByte_call w.heap.size w.heap.size [] 34 _ hB0 (by simp) (by simp))
  have BA := asd ((Below.refl w.heap.size w).alloc (Nat.le_refl _) (.cells #[.pointer none, .slice none 0 0] 94))
  clear hB0
  go_enter Tryz.func29, Tryz.ntmps29
  go_wp2_with (clear T1; go_at_call 47; refine W1.out.mono ?_; rintro e w1 ⟨rfl, h1, b1, _⟩; have A1 := asd (And.intro h1 (BA.out.trans b1)); clear h1 b1 W1)
  go_loopg [5] s.size (fun gh s5 wr => ∃ (p : Nat) (acc : List UInt8), s.size - p ≤ gh ∧ p ≤ s.size ∧ wr.heap[w1.heap.size]? = some (.stringIter s p) ∧ Aside (Bd w.heap.size w.heap.size acc wr ∧ Below w.heap.size w wr ∧ acc ++ Js.q (L s p) = 34 :: Js.q (L s 0) ∧ acc.length ≤ 6 * p + 1 ∧ Lib.validD (L s p) = true))
  case atStart =>
    refine ⟨0, [34], by omega, Nat.zero_le _, World.iter_heap w1 s 0, A1.out.1.alloc _, A1.out.2.alloc (by have := A1.out.2.size; omega) _, rfl, by simp, HVAL.out⟩
  case round =>
    obtain ⟨p, acc, hgh, hple, hit, I⟩ := hrel
    obtain ⟨hI, hbw, hacc, hal, hvl⟩ := I.out
    have hsz : w1.heap.size < wr.heap.size := (Array.getElem?_eq_some_iff.1 hit).1
    have hw1s : w.heap.size < w1.heap.size := A1.out.1.elim (fun x => x.lt) (fun x => x.lt)
    have hw1 : w.heap.size ≤ w1.heap.size := by omega
    by_cases hp : p < s.size
    · have hnx : ∀ ty, (Instr.next (.pointer (some ⟨w1.heap.size, 0, none⟩)) true ty).run Tryz.prog wr = _ := fun ty => Lib.run_next_any_at wr w1.heap.size s p ty hit hp
      have hd : Lib.decodeL (L s p) = Utf8.decode s p := Lib.decodeL_drop s p
      have hne : L s p ≠ [] := by rw [L_cons s p hp]; simp
      have hsc := scalar_of (L s p)
      rw [Lib.validD_step _ hne] at hvl
      split at hvl
      · cases hvl
      · rename_i hg
        have henc := Lib.encode_decode (L s p) hne hg
        have hwd := Lib.width_pos s p
        have hk := (Js.decode_same (L s p) (L s p) hne hg rfl).2.1
        rw [L_len] at hk
        rw [hd] at hsc hvl henc hk
        have hI2 := hI.iterAt hit (p + (Utf8.decode s p).2)
        have hit2 := Lib.iterAt_heap wr w1.heap.size s p (p + (Utf8.decode s p).2) hit
        have hbw2 := Lib.below_iterAt hbw (k := w1.heap.size) hw1 s (p + (Utf8.decode s p).2)
        have hsplit : Js.q (L s p) = Js.q (Lib.encodeRune (((Utf8.decode s p).1 : Nat) : Int)) ++ Js.q (L s (p + (Utf8.decode s p).2)) := by
          rw [henc, ← Js.q_app, ← L_drop, List.take_append_drop]
        have hql := Js.q_enc_len (Utf8.decode s p).1
        have NXT : Aside (acc ++ Js.q (Lib.encodeRune (((Utf8.decode s p).1 : Nat) : Int)) ++ Js.q (L s (p + (Utf8.decode s p).2)) = 34 :: Js.q (L s 0) ∧ (acc ++ Js.q (Lib.encodeRune (((Utf8.decode s p).1 : Nat) : Int))).length ≤ 6 * (p + (Utf8.decode s p).2) + 1 ∧ Lib.validD (L s (p + (Utf8.decode s p).2)) = true ∧ p + (Utf8.decode s p).2 ≤ s.size) := by
          refine ⟨by rw [List.append_assoc, ← hsplit]; exact hacc, by rw [List.length_append]; omega, ?_, by omega⟩
          rw [L_drop] at hvl
          exact hvl
        have WR := asd (fun w2 (hb : Below w.heap.size w w2) => written_any (Utf8.decode s p).1 hsc w2 (HV.out.below hb))
        have hW : Aside (Bd w.heap.size w.heap.size acc (wr.iterAt w1.heap.size s (p + (Utf8.decode s p).2)) ∧ Below w.heap.size w (wr.iterAt w1.heap.size s (p + (Utf8.decode s p).2)) ∧ (wr.iterAt w1.heap.size s (p + (Utf8.decode s p).2)).heap[w1.heap.size]? = some (.stringIter s (p + (Utf8.decode s p).2))) := ⟨hI2, hbw2, hit2⟩
        have hal2 : acc.length ≤ 1000000 := by omega
        have hqz : (bs (Js.q (Lib.encodeRune (((Utf8.decode s p).1 : Nat) : Int)))).size ≤ 1000000 := by show (Js.q _).length ≤ _; omega
        generalize Js.q (Lib.encodeRune (((Utf8.decode s p).1 : Nat) : Int)) = Q at *
        clear hI hbw hacc hal hvl hg henc hk hI2 hit2 hbw2 hsplit hql hsc hd hne I
        go_wp2_with (first
          | (go_at_call 49; refine (WR.out _ hW.out.2.1).mono ?_; rintro e w3 ⟨rfl, b3⟩
             have A3 : Aside (Bd w.heap.size w.heap.size acc w3 ∧ Below w.heap.size w w3 ∧ w3.heap[w1.heap.size]? = some (.stringIter s (p + (Utf8.decode s p).2))) := ⟨hW.out.1.kept (r := 0) (by omega) (gbelow b3), hW.out.2.1.trans (b3.mono (by have := hW.out.2.1.size; omega)), (b3.block _ (Array.getElem?_eq_some_iff.1 hW.out.2.2).1).trans hW.out.2.2⟩
             clear b3 WR)
          | (go_at_call 48; refine (writeString_call w.heap.size w.heap.size acc (bs Q) _ A3.out.1 hal2 hqz A3.out.2.1.size).mono ?_; rintro e w4 ⟨rfl, h4, b4, k4⟩
             have A4 := asd (And.intro h4 (And.intro (A3.out.2.1.trans b4) (k4.iter A3.out.2.2 (by omega))))
             clear h4 b4 k4))
        go_roundg (s.size - (p + (Utf8.decode s p).2))
        case measure => omega
        case rel =>
          refine ⟨p + (Utf8.decode s p).2, acc ++ Q, Nat.le_refl _, NXT.out.2.2.2, A4.out.2.2, ?_, A4.out.2.1, NXT.out.1, NXT.out.2.1, NXT.out.2.2.1⟩
          exact A4.out.1
    · obtain rfl : p = s.size := by omega
      have hnx : ∀ ty, (Instr.next (.pointer (some ⟨w1.heap.size, 0, none⟩)) true ty).run Tryz.prog wr = _ := fun ty => Lib.run_next_end_at wr w1.heap.size s s.size ty hit (by omega)
      rw [L_end s s.size (Nat.le_refl _)] at hacc
      have HA := asd (And.intro hacc (And.intro hI hbw))
      have hal2 : acc.length ≤ 1000000 := by omega
      clear hacc hI hbw hvl hal I
      go_wp2_with (first
        | (go_at_call 47; refine (writeByte_call w.heap.size w.heap.size acc 34 _ HA.out.2.1 hal2 HA.out.2.2.size).mono ?_; rintro e w4 ⟨rfl, h4, b4, _⟩
           have A4 := asd (And.intro h4 (HA.out.2.2.trans b4))
           clear h4 b4)
        | (go_at_call 50; refine (string_call w.heap.size w.heap.size (acc ++ [34]) _ A4.out.1 A4.out.2.size).mono ?_; rintro e w5 ⟨rfl, _, b5, _⟩
           have A5 := asd (A4.out.2.trans b5)
           clear b5))
      go_ret
      refine ⟨?_, A5.out⟩
      have : acc = 34 :: Js.q (L s 0) := by simpa [Js.q] using HA.out.1
      rw [this]
      rfl
end Go.Proofs.YtpeioecpilmpiaaGreatDoor

/-
  What a list is written as.
-/
namespace Go.Proofs.YtpeioecpilmpiaaGreatDoor
open Go.RowKit
/-- Texts as they lie in a table. -/
def strs (ls : List Js.B) : List Value := ls.map fun b => .string (bs b)
theorem strs_len (ls : List Js.B) : (strs ls).length = ls.length := by simp [strs]
theorem strs_app (a b : List Js.B) : strs (a ++ b) = strs a ++ strs b := by simp [strs]
theorem info9 : (Tryz.prog.info? 9).map (fun i => (i.zero, i.size, i.bytes)) = some (some (.string ByteArray.empty), 1, 16) := by kernel_rfl

theorem pushS_run (B : Nat) (w : World) (sl : Value) (ls : List Js.B) (b : Js.B) (h : w.ownsRow B 9 1 sl ls.length (strs ls)) (hl : ls.length ≤ 100000) (hB : B ≤ w.heap.size) (ty : TypeId) :
    ∃ v' w', (Builtin.append_ #[26, 26] ty #[sl, .slice (some ⟨w.heap.size, 0, none⟩) 1 1]).run Tryz.prog (w.alloc (.cells #[.string (bs b)] 9)) = .ok v' w' ∧ w'.ownsRow B 9 1 v' (ls ++ [b]).length (strs (ls ++ [b])) ∧ Below B w w' := by
  obtain ⟨i0, hi0, hz0, hzs, hzb⟩ := info_parts info9
  have ho : (w.alloc (.cells #[.string (bs b)] 9)).ownsRow B 9 1 sl ls.length (strs ls) := own_frame h (fun k hk => alloc_old w _ k (own_place h hk).2)
  obtain ⟨v', w', e1, e2, e3, _, e5⟩ := run_append_own_at (P := Tryz.prog) (w.alloc (.cells #[.string (bs b)] 9)) B 26 ty 9 i0 (.string ByteArray.empty) 1 16 Tryz.underlying26 hi0 hz0 hzs hzb rfl (by omega) sl ls.length (strs ls) ho ⟨w.heap.size, 0, none⟩ 1 1 [.string (bs b)] rfl (fun j x hj => by
      rw [Addr.add_lit, Nat.zero_add, cell_of_row _ w.heap.size j _ _ _ (heap_alloc_new w _), ← hj, ← Array.getElem?_toList]) (by simp [Value.oneCell']) (by unfold maxLen; omega) (by omega) (by simp; omega)
  have hz : (w.alloc (.cells #[.string (bs b)] 9)).heap.size = w.heap.size + 1 := by simp
  refine ⟨v', w', e1, by rw [strs_app, List.length_append]; exact e2, ⟨e3.os, e3.tape, e3.output, by have := e3.size; omega, fun k hkB => ?_⟩⟩
  exact (e3.block k (by omega) (fun e => by have := (own_place h e.symm).1; omega)).trans (alloc_old w _ k (by omega))

theorem bs_app (a b : Js.B) : bs a ++ bs b = bs (a ++ b) := by
  apply ByteArray.ext
  apply Array.toList_inj.1
  simp [bs]

/-- Join over a call's own texts. -/
theorem joinOwn_any (B : Nat) (w : World) (sl : Value) (ls : List Js.B) (h : w.ownsRow B 9 1 sl ls.length (strs ls)) (hl : ls.length ≤ 1000000) (hj : (Js.joins ls).length ≤ 1000000) :
    Calls Tryz.prog 55 #[sl, .string ⟨#[44]⟩] w fun e w' => e = .returned (.string (bs (Js.joins ls))) ∧ Below w.heap.size w w' := by
  have hm : (ls.map bs).map (fun x => x.data.toList) = ls := by
    rw [List.map_map]
    conv => rhs; rw [← List.map_id ls]
    refine List.map_congr_left fun x _ => ?_
    simp
  cases ls with
  | nil =>
    obtain ⟨a, cap, rfl⟩ := own_any h
    refine (join_none a cap ⟨#[44]⟩ w).mono ?_
    rintro e w' ⟨rfl, rfl⟩
    exact ⟨rfl, Below.refl _ _⟩
  | cons b t =>
    obtain ⟨g, cap, rfl, h2, h3, hg⟩ := own_form h (by simp)
    have := join_call g 0 cap ((b :: t).map bs) ⟨#[44]⟩ w (fun j x hx => by
      rw [Nat.zero_add]
      refine own_cell h hg ?_
      unfold strs
      rw [List.getElem?_map, Option.map_eq_some_iff] at hx
      obtain ⟨y, hy, rfl⟩ := hx
      rw [List.getElem?_map, hy]
      rfl) (own_place h hg).2 (by simp at hl ⊢; omega) (by simpa using h2) (by rw [hm]; show (Js.joins (b :: t)).length ≤ _; omega)
    rw [hm] at this
    have e1 : ((b :: t).map bs).length = (b :: t).length := by simp
    rw [e1] at this
    exact this

/-- What form answers. -/
def FCt (n : Nat) : Prop := ∀ (F : Nat → Prop) (w : World) (v : Value) (x : Js.X), Tv n F w v x → (∀ k, F k → k < w.heap.size) → Vars w → x.form.length ≤ 100000 →
  Calls Tryz.prog 22 #[v] w fun e w' => e = .returned (.string (bs x.form)) ∧ Below w.heap.size w w'

theorem S_mem : ∀ (ls : List Js.B) (f : Js.B), f ∈ ls → f.length + 1 ≤ Js.S ls
  | a :: t, f, h => by
    rw [Js.S_cons]
    rcases List.mem_cons.1 h with rfl | h
    · omega
    · have := S_mem t f h; omega
theorem form_le (l : List Js.X) (x : Js.X) (h : x ∈ l) : x.form.length ≤ (Js.joins (l.map Js.X.form)).length := by
  have hne : l.map Js.X.form ≠ [] := by intro e; have := congrArg List.length e; simp at this; subst this; simp at h
  have h1 := Js.joins_len _ hne
  have h2 : x.form.length + 1 ≤ Js.S (l.map Js.X.form) := by
    exact S_mem _ _ (List.mem_map.2 ⟨x, h, rfl⟩)
  omega
theorem count_le (l : List Js.B) : l.length ≤ (Js.joins l).length + 1 := by
  cases l with
  | nil => simp
  | cons a t =>
    have h1 := Js.joins_len (a :: t) (by simp)
    have : ∀ l : List Js.B, l.length ≤ Js.S l := fun l => by
      induction l with
      | nil => simp
      | cons a t ih => rw [Js.S_cons, List.length_cons]; omega
    have := this (a :: t)
    omega

set_option maxHeartbeats 3200000 in
set_option maxRecDepth 100000 in
theorem listForm_any (n : Nat) (ih : FCt n) (F : Nat → Prop) (w : World) (sl : Value) (vs : List Value) (l : List Js.X) (ho : w.ownsRow 0 20 1 sl vs.length vs) (hlen : vs.length = l.length) (hi : ∀ p ∈ vs.zip l, Tv n F w p.1 p.2) (hF : ∀ k, F k → k < w.heap.size) (hV : Vars w) (hsz : (Js.mkList l).form.length ≤ 100000) :
    Calls Tryz.prog 34 #[sl] w fun e w' => e = .returned (.string (bs (Js.mkList l).form)) ∧ Below w.heap.size w w' := by
  obtain ⟨a, cap, rfl⟩ := own_any ho
  have hjl : (Js.joins (l.map Js.X.form)).length + 2 = (Js.mkList l).form.length := by simp [Js.mkList]
  have hcl := count_le (l.map Js.X.form)
  rw [List.length_map] at hcl
  have AT := asd (fun (i : Nat) (hlt : i < l.length) => (show ∃ g u y, a = some ⟨g, 0, none⟩ ∧ w.cell? ⟨g, i, none⟩ = some u ∧ l[i]? = some y ∧ Tv n F w u y ∧ y.form.length ≤ 100000 from by
    obtain ⟨g, c', e, _, _, hg⟩ := own_form ho (by omega)
    injection e with e1 e2 e3
    have hu : vs[i]? = some vs[i] := List.getElem?_eq_getElem (by omega)
    have hy : l[i]? = some l[i] := List.getElem?_eq_getElem hlt
    have hm : (vs[i], l[i]) ∈ vs.zip l := by
      refine List.mem_of_getElem? (i := i) ?_
      rw [List.getElem?_zip_eq_some]
      exact ⟨hu, hy⟩
    refine ⟨g, vs[i], l[i], e1, own_cell ho hg hu, hy, hi _ hm, ?_⟩
    have := form_le l l[i] (List.getElem_mem hlt)
    omega))
  have hln : l.length ≤ 100001 := by omega
  have HS := asd (And.intro hjl hsz)
  have HV := asd hV
  have HF := asd hF
  rw [hlen]
  clear ho hi hF hV hjl hsz hcl hlen
  go_enter Tryz.func34, Tryz.ntmps34
  go_wp2
  go_loopg [3, 5, 8] l.length (fun gh s3 s5 s8 wr => ∃ i : Nat, l.length - i ≤ gh ∧ i ≤ l.length ∧ s8 = .int .i64 (i : Int) ∧ Aside (wr.ownsRow w.heap.size 9 1 s3 ((l.take i).map Js.X.form).length (strs ((l.take i).map Js.X.form)) ∧ Below w.heap.size w wr))
  case atStart => exact ⟨0, by omega, by omega, rfl, ⟨rfl, .inl ⟨rfl, rfl⟩⟩, Below.refl _ _⟩
  case round =>
    obtain ⟨i, hgh, hil, rfl, I⟩ := hrel
    by_cases hlt : i < l.length
    · obtain ⟨g, u, y, rfl, c1, hy, hT, hyl⟩ := AT.out i hlt
      have d1 : decide ((i : Int) < l.length) = true := decide_eq_true (by omega)
      have c2 := cell_below c1 I.out.2
      have ht : (l.take (i + 1)).map Js.X.form = (l.take i).map Js.X.form ++ [y.form] := by rw [List.take_add_one, hy]; simp
      have HT := asd ht
      have K := asd (ih F wr u y (hT.frame (fun _ h => h) (fun k hk => I.out.2.block k (HF.out k hk))) (fun k hk => by have := HF.out k hk; have := I.out.2.size; omega) (HV.out.below I.out.2) hyl)
      have hll : ((l.take i).map Js.X.form).length ≤ 100000 := by rw [List.length_map, List.length_take]; omega
      have HY := asd hy
      clear hT hy ht c1
      have T1 : Aside True := trivial
      go_wp2_with (first
        | (clear T1; go_at_call 22; refine K.out.mono ?_; rintro e w2 ⟨rfl, b2⟩
           have hb2 : Below w.heap.size w w2 := I.out.2.trans (b2.mono I.out.2.size)
           obtain ⟨v', w3, e1, o3, b3⟩ := pushS_run w.heap.size w2 _ _ y.form (own_frame I.out.1 (fun k hk => b2.block k (own_place I.out.1 hk).2)) hll hb2.size 26
           have HRUN := asd e1
           have A3 := asd (And.intro o3 (hb2.trans b3))
           clear e1 o3 b3 b2 K)
        | (at_builtin; refine Lib.wpList_append_run _ rfl _ _ _ _ rfl _ _ rfl rfl _ _ HRUN.out ?_))
      go_roundg (l.length - (i + 1))
      case measure => omega
      case rel => exact ⟨i + 1, Nat.le_refl _, hlt, by go_num, by rw [HT.out]; exact A3.out.1, A3.out.2⟩
    · obtain rfl : i = l.length := by omega
      have hd : decide ((l.length : Int) < l.length) = false := decide_eq_false (by omega)
      have O := I.out.1
      rw [List.take_length] at O
      have J := asd (joinOwn_any w.heap.size wr _ (l.map Js.X.form) O (by rw [List.length_map]; omega) (by have := HS.out; omega))
      clear O
      have hz : (bs (Js.joins (l.map Js.X.form))).size ≤ 100000 := by show (Js.joins (l.map Js.X.form)).length ≤ _; have := HS.out; omega
      have EQ : Aside (bs [91] ++ bs (Js.joins (l.map Js.X.form)) ++ bs [93] = bs (Js.mkList l).form) := by
        show _ = _
        rw [bs_app, bs_app]
        rfl
      generalize bs (Js.joins (l.map Js.X.form)) = S at J EQ hz
      go_wp2_with (go_at_call 55; refine J.out.mono ?_; rintro e w2 ⟨rfl, b2⟩)
      go_ret
      exact ⟨by rw [← EQ.out]; rfl, I.out.2.trans (b2.mono I.out.2.size)⟩
end Go.Proofs.YtpeioecpilmpiaaGreatDoor
