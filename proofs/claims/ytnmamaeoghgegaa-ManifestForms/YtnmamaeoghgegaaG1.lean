/-
  Ytnmamaeoghgegaa: the texts PW1, PMath, PW2, PW3, PW4, PMath2, PW5, PW6, PW7, PW8, PB1, PB2, one behind the other.
-/
import Derived.Test.YtnmamaeoghgegaaRows
import Derived.WalkKit
import Derived.WalkSpells
import Derived.WalkLawsBesides
import Derived.Outline
import GoSem.Op.String
import Derived.BigRegion
import Derived.Deep.LoopGhost
import Derived.Laws.BytesArg
/-
  What the methods of a Packer do to its two cells.
-/
namespace Go.Proofs.Ytnmamaeoghgegaa.Pa
open Go.RowKit

theorem ok_yes (b : Nat) (bad : Bool) (w : World) (h1 : w.cell? ⟨b, 1, none⟩ = some (.bool bad)) :
    Calls Try.prog 68 #[.pointer (some ⟨b, 0, none⟩)] w fun e w' => e = .returned (.bool (!bad)) ∧ w' = w := by
  go_enter Try.func68, Try.ntmps68
  go_wp2
  go_ret
  exact ⟨rfl, rfl⟩

theorem ok_nil (w : World) :
    Calls Try.prog 68 #[.pointer none] w fun e w' => e = .returned (.bool false) ∧ w' = w := by
  go_enter Try.func68, Try.ntmps68
  go_wp2
  go_ret
  exact ⟨rfl, rfl⟩

theorem lay_yes (b : Nat) (l s : ByteArray) (w : World) (h0 : w.cell? ⟨b, 0, none⟩ = some (.string l)) (h1 : w.cell? ⟨b, 1, none⟩ = some (.bool false)) (hf : w.frozen? ⟨b, 0, none⟩ = false)
    (hs : l.size + s.size ≤ 9223372036854775807) :
    Calls Try.prog 66 #[.pointer (some ⟨b, 0, none⟩), .string s] w fun e w' => e = .returned (.pointer (some ⟨b, 0, none⟩)) ∧ w' = w.setCell ⟨b, 0, none⟩ (.string (l ++ s)) := by
  go_enter Try.func66, Try.ntmps66
  go_wp2
  go_ret
  exact ⟨rfl, rfl⟩

theorem lay_no (b : Nat) (s : ByteArray) (w : World) (h1 : w.cell? ⟨b, 1, none⟩ = some (.bool true)) :
    Calls Try.prog 66 #[.pointer (some ⟨b, 0, none⟩), .string s] w fun e w' => e = .returned (.pointer (some ⟨b, 0, none⟩)) ∧ w' = w := by
  go_enter Try.func66, Try.ntmps66
  go_wp2
  go_ret
  exact ⟨rfl, rfl⟩

theorem string_yes (b : Nat) (l : ByteArray) (w : World) (h0 : w.cell? ⟨b, 0, none⟩ = some (.string l)) (h1 : w.cell? ⟨b, 1, none⟩ = some (.bool false)) :
    Calls Try.prog 27 #[.pointer (some ⟨b, 0, none⟩)] w fun e w' => e = .returned (.string l) ∧ w' = w := by
  go_enter Try.func27, Try.ntmps27
  go_wp2
  go_ret
  exact ⟨rfl, rfl⟩

theorem string_no (b : Nat) (w : World) (h1 : w.cell? ⟨b, 1, none⟩ = some (.bool true)) :
    Calls Try.prog 27 #[.pointer (some ⟨b, 0, none⟩)] w fun e w' => e = .returned (.string ⟨#[]⟩) ∧ w' = w := by
  go_enter Try.func27, Try.ntmps27
  go_wp2
  go_ret
  exact ⟨rfl, rfl⟩

end Go.Proofs.Ytnmamaeoghgegaa.Pa

/-
  Plain mathematics of numbers as bytes (groups of seven bits, the highest first): lengths, order, that each number has bytes of its own. No condition beside those written at each theorem.
-/
namespace Go.Proofs.Ytnmamaeoghgegaa.Pa.Pk

/-- The bytes ahead of the last one. -/
def hi : Nat → Nat → List UInt8
  | 0, _ => []
  | f + 1, m => if m = 0 then [] else hi f (m / 128) ++ [UInt8.ofNat (m % 128 + 128)]

/-- A number's bytes. -/
def numB (n : Nat) : List UInt8 := hi 9 (n / 128) ++ [UInt8.ofNat (n % 128)]

theorem hi_zero (f : Nat) : hi f 0 = [] := by
  cases f <;> simp [hi]

theorem hi_step (f m : Nat) (h : m ≠ 0) : hi (f + 1) m = hi f (m / 128) ++ [UInt8.ofNat (m % 128 + 128)] := by
  simp [hi, h]

theorem div_lt_pow {m f : Nat} (h : m < 128 ^ (f + 1)) : m / 128 < 128 ^ f := by
  rw [Nat.pow_succ] at h
  omega

theorem hi_spec : ∀ f m : Nat, m < 128 ^ f → m ≠ 0 → m < 128 ^ (hi f m).length ∧ 0 < (hi f m).length ∧ 128 ^ ((hi f m).length - 1) ≤ m
  | 0, m, h, hm => by
    simp at h
    omega
  | f + 1, m, h, hm => by
    rw [hi_step f m hm]
    by_cases hz : m / 128 = 0
    · rw [hz, hi_zero]
      simp
      omega
    · obtain ⟨a, b, c⟩ := hi_spec f (m / 128) (div_lt_pow h) hz
      rw [List.length_append]
      simp only [List.length_singleton, Nat.add_sub_cancel]
      generalize (hi f (m / 128)).length = k at *
      refine ⟨?_, by omega, ?_⟩
      · rw [Nat.pow_succ]
        omega
      · obtain ⟨j, rfl⟩ : ∃ j, k = j + 1 := ⟨k - 1, by omega⟩
        simp only [Nat.add_sub_cancel] at c
        rw [Nat.pow_succ]
        omega

theorem len_mono {f a b : Nat} (ha : a < 128 ^ f) (hb : b < 128 ^ f) (h : a ≤ b) : (hi f a).length ≤ (hi f b).length := by
  by_cases hz : a = 0
  · subst hz
    rw [hi_zero]
    simp
  · obtain ⟨a1, a2, a3⟩ := hi_spec f a ha hz
    obtain ⟨b1, b2, b3⟩ := hi_spec f b hb (by omega)
    generalize (hi f a).length = k at *
    generalize (hi f b).length = j at *
    rcases Nat.lt_or_ge j k with hlt | hge
    · have := Nat.pow_le_pow_right (n := 128) (by omega) (show j ≤ k - 1 by omega)
      omega
    · exact hge

theorem len_le {f m k : Nat} (hf : m < 128 ^ f) (h : m < 128 ^ k) : (hi f m).length ≤ k := by
  by_cases hz : m = 0
  · subst hz
    rw [hi_zero]
    simp
  · obtain ⟨a1, a2, a3⟩ := hi_spec f m hf hz
    generalize (hi f m).length = j at *
    rcases Nat.lt_or_ge k j with hlt | hge
    · have := Nat.pow_le_pow_right (n := 128) (by omega) (show k ≤ j - 1 by omega)
      omega
    · exact hge

theorem less_append : ∀ (x y : List UInt8) (c d : UInt8), x.length = y.length →
    Op.bytesLess (x ++ [c]) (y ++ [d]) = (Op.bytesLess x y || (x == y && decide (c < d)))
  | [], [], c, d, _ => by simp [Op.bytesLess]
  | [], _ :: _, _, _, h => by simp at h
  | _ :: _, [], _, _, h => by simp at h
  | a :: x, b :: y, c, d, h => by
    have hl : x.length = y.length := by simpa using h
    simp only [List.cons_append, Op.bytesLess, less_append x y c d hl]
    simp only [List.cons_beq_cons]
    cases decide (a < b) <;> cases (a == b) <;> simp

theorem ofNat_lt {a b : Nat} (ha : a < 256) (hb : b < 256) : decide (UInt8.ofNat a < UInt8.ofNat b) = decide (a < b) := by
  rw [decide_eq_decide, UInt8.lt_iff_toNat_lt, UInt8.toNat_ofNat', UInt8.toNat_ofNat', Nat.mod_eq_of_lt (by simpa using ha), Nat.mod_eq_of_lt (by simpa using hb)]

theorem ofNat_inj {a b : Nat} (ha : a < 256) (hb : b < 256) : UInt8.ofNat a = UInt8.ofNat b ↔ a = b := by
  rw [← UInt8.toNat_inj, UInt8.toNat_ofNat', UInt8.toNat_ofNat', Nat.mod_eq_of_lt (by simpa using ha), Nat.mod_eq_of_lt (by simpa using hb)]

theorem snoc_inj {x y : List UInt8} {c d : UInt8} : x ++ [c] = y ++ [d] ↔ x = y ∧ c = d := by
  constructor
  · intro h
    have := List.append_inj' h rfl
    simpa using this
  · rintro ⟨rfl, rfl⟩
    rfl

theorem hi_inj : ∀ (f a b : Nat), a < 128 ^ f → b < 128 ^ f → (hi f a = hi f b ↔ a = b)
  | 0, a, b, ha, hb => by
    simp at ha hb
    simp [hi, ha, hb]
  | f + 1, a, b, ha, hb => by
    by_cases za : a = 0
    · subst za
      by_cases zb : b = 0
      · simp [zb]
      · rw [hi_step f b zb, hi_zero]
        simp
        omega
    · by_cases zb : b = 0
      · subst zb
        rw [hi_step f a za, hi_zero]
        simp [za]
      · rw [hi_step f a za, hi_step f b zb, snoc_inj, hi_inj f _ _ (div_lt_pow ha) (div_lt_pow hb), ofNat_inj (by omega) (by omega)]
        omega

theorem hi_less : ∀ (f a b : Nat), a < 128 ^ f → b < 128 ^ f → (hi f a).length = (hi f b).length → Op.bytesLess (hi f a) (hi f b) = decide (a < b)
  | 0, a, b, ha, hb, _ => by
    simp at ha hb
    simp [hi, ha, hb, Op.bytesLess]
  | f + 1, a, b, ha, hb, hl => by
    by_cases za : a = 0
    · subst za
      by_cases zb : b = 0
      · simp [zb, hi_zero, Op.bytesLess]
      · rw [hi_step f b zb, hi_zero] at hl
        simp at hl
    · by_cases zb : b = 0
      · subst zb
        rw [hi_step f a za, hi_zero] at hl
        simp at hl
      · rw [hi_step f a za, hi_step f b zb] at hl ⊢
        have hl2 : (hi f (a / 128)).length = (hi f (b / 128)).length := by simpa using hl
        rw [less_append _ _ _ _ hl2, hi_less f _ _ (div_lt_pow ha) (div_lt_pow hb) hl2, ofNat_lt (by omega) (by omega)]
        have hi' := hi_inj f (a / 128) (b / 128) (div_lt_pow ha) (div_lt_pow hb)
        by_cases e : a / 128 = b / 128
        · have e2 : (hi f (a / 128) == hi f (b / 128)) = true := by simp [e]
          rw [e2, e]
          simp
          omega
        · have e2 : (hi f (a / 128) == hi f (b / 128)) = false := by
            rw [beq_eq_false_iff_ne]
            intro h
            exact e (hi'.1 h)
          rw [e2]
          simp
          omega

theorem pow9 : (128 : Nat) ^ 9 = 9223372036854775808 := by decide
theorem pow8 : (128 : Nat) ^ 8 = 72057594037927936 := by decide

theorem numB_inj {a b : Nat} (ha : a ≤ 4611686018427387904) (hb : b ≤ 4611686018427387904) : numB a = numB b ↔ a = b := by
  unfold numB
  rw [snoc_inj, hi_inj 9 _ _ (by rw [pow9]; omega) (by rw [pow9]; omega), ofNat_inj (by omega) (by omega)]
  omega

theorem numB_len {a : Nat} (_ha : a ≤ 4611686018427387904) : 1 ≤ (numB a).length ∧ (numB a).length ≤ 9 := by
  unfold numB
  have := len_le (f := 9) (m := a / 128) (k := 8) (by rw [pow9]; omega) (by rw [pow8]; omega)
  simp
  omega

theorem numB_mono {a b : Nat} (_ha : a ≤ 4611686018427387904) (hb : b ≤ 4611686018427387904) (h : a ≤ b) : (numB a).length ≤ (numB b).length := by
  unfold numB
  have := len_mono (f := 9) (a := a / 128) (b := b / 128) (by rw [pow9]; omega) (by rw [pow9]; omega) (by omega)
  simpa using this

theorem numB_less {a b : Nat} (ha : a ≤ 4611686018427387904) (hb : b ≤ 4611686018427387904) (hl : (numB a).length = (numB b).length) : Op.bytesLess (numB a) (numB b) = decide (a < b) := by
  unfold numB at hl ⊢
  have hl2 : (hi 9 (a / 128)).length = (hi 9 (b / 128)).length := by simpa using hl
  rw [less_append _ _ _ _ hl2, hi_less 9 _ _ (by rw [pow9]; omega) (by rw [pow9]; omega) hl2, ofNat_lt (by omega) (by omega)]
  have hi' := hi_inj 9 (a / 128) (b / 128) (by rw [pow9]; omega) (by rw [pow9]; omega)
  by_cases e : a / 128 = b / 128
  · have e2 : (hi 9 (a / 128) == hi 9 (b / 128)) = true := by simp [e]
    rw [e2, e]
    simp
    omega
  · have e2 : (hi 9 (a / 128) == hi 9 (b / 128)) = false := by
      rw [beq_eq_false_iff_ne]
      intro h
      exact e (hi'.1 h)
    rw [e2]
    simp
    omega
end Go.Proofs.Ytnmamaeoghgegaa.Pa.Pk

/-
  The library's reversal of a slice of bytes that the call itself made.
-/
namespace Go.Proofs.Ytnmamaeoghgegaa.Pa
open Go.RowKit

/-- Bytes as cells. -/
def cellsB (l : List UInt8) : List Value := l.map fun u => Value.int .u8 (u.toNat : Int)

/-- Behind k rounds. -/
def Rv (l cur : List UInt8) (k : Nat) : Prop := cur.length = l.length ∧ ∀ j, j < l.length → cur[j]? = if j < k ∨ l.length - k ≤ j then l[l.length - 1 - j]? else l[j]?

theorem rv_zero (l : List UInt8) : Rv l l 0 := by
  refine ⟨rfl, fun j hj => ?_⟩
  rw [if_neg (by omega)]

theorem rv_step {l cur : List UInt8} {k : Nat} (h : Rv l cur k) (hk : k < l.length - 1 - k) (x y : UInt8) (hx : cur[l.length - 1 - k]? = some x) (hy : cur[k]? = some y) :
    Rv l ((cur.set k x).set (l.length - 1 - k) y) (k + 1) := by
  obtain ⟨h1, h2⟩ := h
  refine ⟨by simp [h1], fun j hj => ?_⟩
  rw [List.getElem?_set, List.getElem?_set]
  by_cases e1 : l.length - 1 - k = j
  · rw [if_pos e1, if_pos (by rw [List.length_set]; omega), if_pos (by omega)]
    rw [h2 k (by omega), if_neg (by omega)] at hy
    rw [← hy]
    congr 1
    omega
  · rw [if_neg e1]
    by_cases e2 : k = j
    · rw [if_pos e2, if_pos (by omega), if_pos (by omega)]
      rw [h2 _ (by omega), if_neg (by omega)] at hx
      rw [← hx]
      congr 1
      omega
    · rw [if_neg e2, h2 j hj]
      by_cases e3 : j < k ∨ l.length - k ≤ j
      · rw [if_pos e3, if_pos (by omega)]
      · rw [if_neg e3, if_neg (by omega)]

theorem rv_end {l cur : List UInt8} {k : Nat} (h : Rv l cur k) (hk : ¬ k < l.length - 1 - k) : cur = l.reverse := by
  obtain ⟨h1, h2⟩ := h
  apply List.ext_getElem?
  intro j
  by_cases hj : j < l.length
  · rw [h2 j hj, List.getElem?_reverse hj]
    by_cases e3 : j < k ∨ l.length - k ≤ j
    · rw [if_pos e3]
    · rw [if_neg e3]
      congr 1
      omega
  · rw [List.getElem?_eq_none (by omega), List.getElem?_eq_none (by simp; omega)]

theorem cellsB_get (l : List UInt8) (j : Nat) (x : UInt8) (h : l[j]? = some x) : (cellsB l)[j]? = some (.int .u8 (x.toNat : Int)) := by
  simp [cellsB, h]

theorem cellsB_set (l : List UInt8) (j : Nat) (x : UInt8) : (cellsB l).set j (.int .u8 (x.toNat : Int)) = cellsB (l.set j x) := by
  simp [cellsB, List.map_set]

set_option maxHeartbeats 1600000 in
set_option maxRecDepth 1000000 in
theorem rev_any (base g cap : Nat) (l : List UInt8) (w : World) (hown : w.ownsRow base 5 1 (.slice (some ⟨g, 0, none⟩) l.length cap) l.length (cellsB l)) (hn : l.length ≤ 1000) (hg : base ≤ g) :
    Calls Try.prog 93 #[.slice (some ⟨g, 0, none⟩) l.length cap] w fun e w' => e = .returned (.tuple #[]) ∧ w'.ownsRow base 5 1 (.slice (some ⟨g, 0, none⟩) l.length cap) l.length (cellsB l.reverse) ∧ Below base w w' := by
  go_enter Try.func93, Try.ntmps93
  go_wp2
  go_loopg [2, 3] l.length (fun m s2 s3 wr => ∃ (k : Nat) (cur : List UInt8), s2 = .int .i64 k ∧ s3 = .int .i64 ((l.length : Int) - 1 - k) ∧ k ≤ l.length ∧ l.length - k ≤ m ∧ Rv l cur k ∧
    wr.ownsRow base 5 1 (.slice (some ⟨g, 0, none⟩) l.length cap) l.length (cellsB cur) ∧ Below base w wr)
  case atStart => exact ⟨0, l, rfl, by simp, by omega, by omega, rv_zero l, hown, Below.refl _ _⟩
  case round =>
    obtain ⟨k, cur, rfl, rfl, hkl, hm, hrv, hownr, hbel⟩ := hrel
    by_cases hlt : (k : Int) < (l.length : Int) - 1 - k
    · obtain ⟨jn, hjn⟩ : ∃ jn : Nat, jn = l.length - 1 - k := ⟨_, rfl⟩
      have hj1 : ((l.length : Int) - 1 - k) = (jn : Int) := by omega
      have hkj : k < jn := by omega
      have hjl : jn < l.length := by omega
      obtain ⟨x, hx⟩ : ∃ x, cur[jn]? = some x := ⟨cur[jn]'(by have := hrv.1; omega), List.getElem?_eq_getElem _⟩
      obtain ⟨y, hy⟩ : ∃ y, cur[k]? = some y := ⟨cur[k]'(by have := hrv.1; omega), List.getElem?_eq_getElem _⟩
      have cj : wr.cell? ⟨g, jn, none⟩ = some (.int .u8 (x.toNat : Int)) := by rw [hownr.cellAt jn (by omega)]; exact cellsB_get cur jn x hx
      have ck : wr.cell? ⟨g, k, none⟩ = some (.int .u8 (y.toNat : Int)) := by rw [hownr.cellAt k (by omega)]; exact cellsB_get cur k y hy
      have fj := hownr.frozenAt jn
      have fk := hownr.frozenAt k
      have st := rv_step hrv (by omega) x y (by rw [← hjn]; exact hx) hy
      rw [← hjn] at st
      have o1 := (hownr.stored k (.int .u8 (x.toNat : Int))).1
      have o2 := (o1.stored jn (.int .u8 (y.toNat : Int))).1
      rw [cellsB_set, cellsB_set] at o2
      have A : Aside (Rv l ((cur.set k x).set jn y) (k + 1) ∧ ((wr.setCell ⟨g, k, none⟩ (.int .u8 (x.toNat : Int))).setCell ⟨g, jn, none⟩ (.int .u8 (y.toNat : Int))).ownsRow base 5 1 (.slice (some ⟨g, 0, none⟩) l.length cap) l.length (cellsB ((cur.set k x).set jn y)) ∧
        Below base w ((wr.setCell ⟨g, k, none⟩ (.int .u8 (x.toNat : Int))).setCell ⟨g, jn, none⟩ (.int .u8 (y.toNat : Int))) ∧ jn = l.length - 1 - k) :=
        ⟨st, o2, (hbel.setCell (by exact hg) _).setCell (by exact hg) _, hjn⟩
      rw [hj1]
      clear st o1 o2 hrv hownr hbel hx hy hjn hj1 hlt hown
      go_wp2_with fail
      go_region
      go_wp2
      go_roundg (l.length - (k + 1))
      case measure => omega
      case rel =>
        obtain ⟨a1, a2, a3, a4⟩ := A.out
        exact ⟨k + 1, _, by go_num, by go_num, by omega, by omega, a1, a2.drew, a3.drew⟩
    · go_wp2
      go_end0
      have e := rv_end hrv (by omega)
      subst e
      exact ⟨rfl, hownr, hbel⟩
end Go.Proofs.Ytnmamaeoghgegaa.Pa

/-
  The bytes of a number, as the program makes them and as the document's own function makes them.
-/
namespace Go.Proofs.Ytnmamaeoghgegaa.Pa
open Go.RowKit

theorem Try.info5 : (Try.prog.info? 5).map (fun i => (i.zero, i.size, i.bytes)) = some (some (.int .u8 0), 1, 1) := by kernel_rfl

theorem wraps_i64 (n : Int) (h₀ : 0 ≤ n) (h₁ : n < 2 ^ 63) : IntKind.i64.wrap n = n := by
  rw [IntKind.wrap_i64]
  omega

theorem and127 (m : Nat) (h : m ≤ 4611686018427387904) : bits BinOp.and IntKind.i64 (m : Int) 127 = ((m % 128 : Nat) : Int) := by
  have e := bits_mask .i64 63 (by decide) wraps_i64 7 (by decide) (m : Int) (by omega) (by omega)
  simpa using e

theorem or128 (m : Nat) (h : m < 128) : bits BinOp.or IntKind.i64 (m : Int) 128 = ((m + 128 : Nat) : Int) := by
  have e := (bits_nat .i64 63 (by decide) wraps_i64 m 128 (by omega) (by omega)).2
  rw [show ((128 : Nat) : Int) = 128 from rfl] at e
  rw [e, Nat.or_comm, nat_join 7 128 m (by decide) (by omega), Nat.add_comm]

theorem byte_low (m : Nat) (h : m ≤ 4611686018427387904) : bits BinOp.and IntKind.i64 (m : Int) 127 % 256 = ((UInt8.ofNat (m % 128)).toNat : Int) := by
  rw [and127 m h, UInt8.toNat_ofNat', Nat.mod_eq_of_lt (a := m % 128) (b := 2 ^ 8) (by omega)]
  omega

theorem byte_high (m : Nat) (h : m ≤ 4611686018427387904) : bits BinOp.or IntKind.i64 (bits BinOp.and IntKind.i64 (m : Int) 127) 128 % 256 = ((UInt8.ofNat (m % 128 + 128)).toNat : Int) := by
  rw [and127 m h, or128 _ (by omega), UInt8.toNat_ofNat', Nat.mod_eq_of_lt (a := m % 128 + 128) (b := 2 ^ 8) (by omega)]
  omega

theorem cellsB_snoc (l : List UInt8) (u : UInt8) : cellsB l ++ [.int .u8 (u.toNat : Int)] = cellsB (l ++ [u]) := by
  simp [cellsB]

theorem strOf_bytes (l : List UInt8) : strOfNums (l.map fun u => (u.toNat : Int)) = ⟨l.toArray⟩ := by
  unfold strOfNums
  congr 2
  rw [List.map_map]
  conv => rhs; rw [← List.map_id l]
  apply List.map_congr_left
  intro u _
  simp

theorem conv_own (base g cap : Nat) (l : List UInt8) (n : Nat) (w : World) (hl : l.length = n) (hown : w.ownsRow base 5 1 (.slice (some ⟨g, 0, none⟩) n cap) n (cellsB l)) :
    (convert 49 9 (.slice (some ⟨g, 0, none⟩) n cap)).run Try.prog w = .ok (.string ⟨l.toArray⟩) w := by
  rw [← strOf_bytes]
  refine run_convert_bytes_arg w 49 5 Try.underlying49 Try.underlying5 g 0 n cap _ (by simpa using hl) (fun i hi => ?_) 9 Try.underlying9
  rw [Nat.zero_add, hown.cellAt i (by omega)]
  have hi' : i < l.length := by omega
  simp [cellsB, List.getElem?_eq_getElem hi']

/-- What holds at each round's head of the loop. -/
def NumRel (n : Nat) (w : World) (s0 v : Value) (wr : World) (k : Nat) : Prop :=
  ∃ (m : Nat) (l : List UInt8), s0 = .int .i64 (m : Int) ∧ m ≤ 4611686018427387904 ∧ m < 128 ^ k ∧ k + l.length = 10 ∧ 1 ≤ l.length ∧ Pk.hi k m ++ l.reverse = Pk.numB n ∧
    wr.ownsRow w.heap.size 5 1 v l.length (cellsB l) ∧ Below w.heap.size w wr

set_option maxHeartbeats 1600000 in
set_option maxRecDepth 1000000 in
theorem numBytes_any (n : Nat) (w : World) (hn : n ≤ 4611686018427387904) :
    Calls Try.prog 67 #[.int .i64 (n : Int)] w fun e w' => e = .returned (.string ⟨(Pk.numB n).toArray⟩) ∧ Below w.heap.size w w' := by
  obtain ⟨i0, hi, hz0, hz1, hz2⟩ := info_parts Try.info5
  have hb := byte_low n hn
  go_enter Try.func67, Try.ntmps67
  go_wp2_with fail
  clear hb
  go_loopg [0, 3] 9 (fun gh s0 v wr => ∃ k, k ≤ gh ∧ NumRel n w s0 v wr k)
  case atStart =>
    refine ⟨9, Nat.le_refl _, n / 128, [UInt8.ofNat (n % 128)], by simp, by omega, by rw [Pk.pow9]; omega, rfl, by simp, by simp [Pk.numB], ?_, (Below.refl _ _).alloc (Nat.le_refl _) _⟩
    exact World.ownsRow_lit w _ 1 (Nat.le_refl _) (by decide) rfl
  case round =>
    obtain ⟨k, hgh, m, l, rfl, hm, hmk, hkl, hl1, hcat, hown, hbel⟩ := hrel
    by_cases hlt : 0 < m
    · obtain ⟨k', rfl⟩ : ∃ k', k = k' + 1 := by
        cases k with
        | zero => simp at hmk; omega
        | succ k' => exact ⟨k', rfl⟩
      have hA : Aside (m ≤ 4611686018427387904 ∧ m < 128 ^ (k' + 1) ∧ k' + 1 + l.length = 10 ∧ Pk.hi (k' + 1) m ++ l.reverse = Pk.numB n ∧ Below w.heap.size w wr) := ⟨hm, hmk, hkl, hcat, hbel⟩
      clear hmk hcat
      go_wp2_with (first
        | (at_builtin; refine wpList_append_own _ rfl (.tmp 14) (.tmp 19) 49 rfl w.heap.size 5 i0 (.int .u8 0) 1 1 Try.underlying49 hi hz0 hz1 hz2 rfl (by decide) _ _ _ rfl (hown.alloc _) ⟨wr.heap.size, 0, none⟩ 1 1 [.int .u8 (bits BinOp.or IntKind.i64 (bits BinOp.and IntKind.i64 (m : Int) 127) 128 % 256)] rfl rfl ?c1 ?c2 ?c3 ?c4 ?c5 ?_))
      case c1 => exact (cell_one_new _ _ _)
      case c2 => intro u hu; simp at hu; subst hu; rfl
      case c3 => unfold maxLen; omega
      case c4 => omega
      case c5 => have := hbel.size; simp; omega
      intro v' w1 hown' hgrow _
      obtain ⟨a1, a2, a3, a4, a5⟩ := hA.out
      have hown2 : w1.ownsRow w.heap.size 5 1 v' (l.length + 1) (cellsB (l ++ [UInt8.ofNat (m % 128 + 128)])) := by
        rw [← cellsB_snoc, ← byte_high m a1]
        exact hown'
      have hbel2 : Below w.heap.size w w1 := (a5.alloc a5.size _).grown hgrow (by have := a5.size; simp; omega) (fun g hg => (hown.lt g hg).1)
      have R : Aside (NumRel n w (.int .i64 ((m / 128 : Nat) : Int)) v' w1 k') := by
        refine ⟨m / 128, l ++ [UInt8.ofNat (m % 128 + 128)], rfl, by omega, Pk.div_lt_pow a2, by simp; omega, by simp, ?_, by simpa using hown2, hbel2⟩
        rw [← a4, Pk.hi_step _ _ (by omega)]
        simp
      clear hown' hgrow hown hA hown2 hbel2 a1 a2 a3 a4 a5 hbel
      go_wp2
      go_roundg k'
      case measure => omega
      case rel => exact ⟨k', Nat.le_refl _, R.out⟩
    · obtain rfl : m = 0 := by omega
      rw [Pk.hi_zero, List.nil_append] at hcat
      rcases hown.2 with ⟨_, h0⟩ | ⟨g, cap, cur, rfl, hbg, _⟩
      · omega
      · have hrev := rev_any w.heap.size g cap l wr hown (by omega) hbg
        have A : Aside (l.reverse = Pk.numB n ∧ Below w.heap.size w wr) := ⟨hcat, hbel⟩
        clear hcat hbel hown hmk
        go_wp2_with (go_at_call 93; refine hrev.mono ?_; rintro e w1 ⟨rfl, hown1, hbel1⟩; have hconv := conv_own w.heap.size g cap l.reverse l.length w1 (by simp) hown1)
        go_ret
        exact ⟨by rw [A.out.1]; rfl, A.out.2.trans hbel1⟩
end Go.Proofs.Ytnmamaeoghgegaa.Pa

/-
  A Packer or an Opener in memory: a block of two cells; what laying a number, a text or bytes does to it.
-/
namespace Go.Proofs.Ytnmamaeoghgegaa.Pa
open Go.RowKit

/-- Block b holds a text and a bool. -/
def At (w : World) (b : Nat) (t : TypeId) (s : ByteArray) (bad : Bool) : Prop := w.heap[b]? = some (.cells #[.string s, .bool bad] t (0, 0))

theorem At.lt {w : World} {b t : Nat} {s : ByteArray} {bad : Bool} (h : At w b t s bad) : b < w.heap.size := (Array.getElem?_eq_some_iff.1 h).1
theorem At.c0 {w : World} {b t : Nat} {s : ByteArray} {bad : Bool} (h : At w b t s bad) : w.cell? ⟨b, 0, none⟩ = some (.string s) := by
  rw [cell_of_row w b 0 _ t (0, 0) h]
  rfl
theorem At.c1 {w : World} {b t : Nat} {s : ByteArray} {bad : Bool} (h : At w b t s bad) : w.cell? ⟨b, 1, none⟩ = some (.bool bad) := by
  rw [cell_of_row w b 1 _ t (0, 0) h]
  rfl
theorem At.f {w : World} {b t : Nat} {s : ByteArray} {bad : Bool} (h : At w b t s bad) (j : Nat) : w.frozen? ⟨b, j, none⟩ = false := frozen_of_row w b j _ t h
theorem At.set0 {w : World} {b t : Nat} {s : ByteArray} {bad : Bool} (h : At w b t s bad) (s' : ByteArray) : At (w.setCell ⟨b, 0, none⟩ (.string s')) b t s' bad := by
  unfold At
  rw [heap_setCell_same w b 0 _ t _ h]
  rfl
theorem At.set1 {w : World} {b t : Nat} {s : ByteArray} {bad : Bool} (h : At w b t s bad) (bad' : Bool) : At (w.setCell ⟨b, 1, none⟩ (.bool bad')) b t s bad' := by
  unfold At
  rw [heap_setCell_same w b 1 _ t _ h]
  rfl
theorem At.below {w w' : World} {b t B : Nat} {s : ByteArray} {bad : Bool} (h : At w b t s bad) (hb : Below B w w') (hlt : b < B) : At w' b t s bad := by
  unfold At
  rw [hb.block b hlt]
  exact h

/-- All blocks but one are as they were; there may be new ones. -/
structure Upd (b : Nat) (w w' : World) : Prop where
  os : w'.os = w.os
  tape : w'.tape = w.tape
  output : w'.output = w.output
  size : w.heap.size ≤ w'.heap.size
  block : ∀ k, k < w.heap.size → k ≠ b → w'.heap[k]? = w.heap[k]?

theorem Upd.refl (b : Nat) (w : World) : Upd b w w := ⟨rfl, rfl, rfl, Nat.le_refl _, fun _ _ _ => rfl⟩
theorem Upd.trans {b : Nat} {u v w : World} (h : Upd b u v) (k : Upd b v w) : Upd b u w :=
  ⟨k.os.trans h.os, k.tape.trans h.tape, k.output.trans h.output, Nat.le_trans h.size k.size, fun j hj hb => (k.block j (Nat.lt_of_lt_of_le hj h.size) hb).trans (h.block j hj hb)⟩
theorem Upd.ofBelow {w w' : World} (b : Nat) (h : Below w.heap.size w w') : Upd b w w' := ⟨h.os, h.tape, h.output, h.size, fun k hk _ => h.block k hk⟩
theorem Upd.set (w : World) (b j : Nat) (v : Value) : Upd b w (w.setCell ⟨b, j, none⟩ v) :=
  ⟨rfl, rfl, rfl, by simp, fun k _ hb => Below.heap_setCell w ⟨b, j, none⟩ v k hb⟩
theorem Upd.below {b B : Nat} {w w' : World} (h : Upd b w w') (hb : B ≤ b) (hB : B ≤ w.heap.size) : Below B w w' :=
  ⟨h.os, h.tape, h.output, h.size, fun k hk => h.block k (by omega) (by omega)⟩
theorem At.upd {w w' : World} {b t c : Nat} {s : ByteArray} {bad : Bool} (h : At w b t s bad) (hu : Upd c w w') (hne : b ≠ c) : At w' b t s bad := by
  unfold At
  rw [hu.block b h.lt hne]
  exact h

theorem size_mk (l : List UInt8) : (ByteArray.mk l.toArray).size = l.length := by simp [ByteArray.size]

theorem lay_at (b : Nat) (l s : ByteArray) (w : World) (h : At w b 55 l false) (hs : l.size + s.size ≤ 9223372036854775807) :
    Calls Try.prog 66 #[.pointer (some ⟨b, 0, none⟩), .string s] w fun e w' => e = .returned (.pointer (some ⟨b, 0, none⟩)) ∧ At w' b 55 (l ++ s) false ∧ Upd b w w' := by
  refine (lay_yes b l s w h.c0 h.c1 (h.f 0) hs).mono ?_
  rintro e w' ⟨rfl, rfl⟩
  exact ⟨rfl, h.set0 _, Upd.set _ _ _ _⟩

theorem lay_bad (b : Nat) (l s : ByteArray) (w : World) (h : At w b 55 l true) :
    Calls Try.prog 66 #[.pointer (some ⟨b, 0, none⟩), .string s] w fun e w' => e = .returned (.pointer (some ⟨b, 0, none⟩)) ∧ w' = w := lay_no b s w h.c1

theorem num_nil (n : Int) (w : World) :
    Calls Try.prog 26 #[.pointer none, .int .i64 n] w fun e w' => e = .returned (.pointer none) ∧ w' = w := by
  go_enter Try.func26, Try.ntmps26
  go_wp2
  go_ret
  exact ⟨rfl, rfl⟩

theorem num_at (b n : Nat) (l : ByteArray) (w : World) (h : At w b 55 l false) (hn : n ≤ 4611686018427387904) (hs : l.size ≤ 1000000) :
    Calls Try.prog 26 #[.pointer (some ⟨b, 0, none⟩), .int .i64 (n : Int)] w fun e w' => e = .returned (.pointer (some ⟨b, 0, none⟩)) ∧ At w' b 55 (l ++ ⟨(Pk.numB n).toArray⟩) false ∧ Upd b w w' := by
  have hlen := Pk.numB_len hn
  have hsz : (ByteArray.mk (Pk.numB n).toArray).size = (Pk.numB n).length := size_mk _
  have hnb := numBytes_any n w hn
  go_enter Try.func26, Try.ntmps26
  go_wp2_with (first
    | (go_at_call 67; refine hnb.mono ?_; rintro e w1 ⟨rfl, hb1⟩)
    | (go_at_call 66; refine (lay_at b l _ _ (h.below hb1 h.lt) (by rw [hsz]; omega)).mono ?_; rintro e w2 ⟨rfl, hat2, hu2⟩))
  go_ret
  exact ⟨rfl, hat2, (Upd.ofBelow b hb1).trans hu2⟩

theorem num_bad (b n : Nat) (l : ByteArray) (w : World) (h : At w b 55 l true) (hn : n ≤ 4611686018427387904) :
    Calls Try.prog 26 #[.pointer (some ⟨b, 0, none⟩), .int .i64 (n : Int)] w fun e w' => e = .returned (.pointer (some ⟨b, 0, none⟩)) ∧ At w' b 55 l true ∧ Upd b w w' := by
  have hnb := numBytes_any n w hn
  go_enter Try.func26, Try.ntmps26
  go_wp2_with (first
    | (go_at_call 67; refine hnb.mono ?_; rintro e w1 ⟨rfl, hb1⟩)
    | (go_at_call 66; refine (lay_bad b l _ _ (h.below hb1 h.lt)).mono ?_; rintro e w2 ⟨rfl, rfl⟩))
  go_ret
  exact ⟨rfl, h.below hb1 h.lt, Upd.ofBelow b hb1⟩

theorem num_out (b : Nat) (n : Int) (l : ByteArray) (bad : Bool) (w : World) (h : At w b 55 l bad) (hn : n < 0 ∨ 4611686018427387904 < n) :
    Calls Try.prog 26 #[.pointer (some ⟨b, 0, none⟩), .int .i64 n] w fun e w' => e = .returned (.pointer (some ⟨b, 0, none⟩)) ∧ At w' b 55 ⟨#[]⟩ true ∧ Upd b w w' := by
  have f0 := h.f 0
  have f1 := h.f 1
  have c0 := h.c0
  have c1 := h.c1
  have A : Aside (At w b 55 l bad) := h
  clear h
  rcases hn with hn | hn
  · go_enter Try.func26, Try.ntmps26
    go_wp2
    go_ret
    exact ⟨rfl, (A.out.set0 _).set1 _, (Upd.set _ _ _ _).trans (Upd.set _ _ _ _)⟩
  · have hn0 : 0 ≤ n := by omega
    go_enter Try.func26, Try.ntmps26
    go_wp2
    go_ret
    exact ⟨rfl, (A.out.set0 _).set1 _, (Upd.set _ _ _ _).trans (Upd.set _ _ _ _)⟩

theorem raw_at (b : Nat) (l s : ByteArray) (w : World) (h : At w b 55 l false) (hs : l.size + s.size ≤ 9223372036854775807) :
    Calls Try.prog 25 #[.pointer (some ⟨b, 0, none⟩), .string s] w fun e w' => e = .returned (.pointer (some ⟨b, 0, none⟩)) ∧ At w' b 55 (l ++ s) false ∧ Upd b w w' := by
  go_enter Try.func25, Try.ntmps25
  go_wp2_with (go_at_call 66; refine (lay_at b l _ _ h hs).mono ?_; rintro e w2 ⟨rfl, hat2, hu2⟩)
  go_ret
  exact ⟨rfl, hat2, hu2⟩

theorem raw_bad (b : Nat) (l s : ByteArray) (w : World) (h : At w b 55 l true) :
    Calls Try.prog 25 #[.pointer (some ⟨b, 0, none⟩), .string s] w fun e w' => e = .returned (.pointer (some ⟨b, 0, none⟩)) ∧ w' = w := by
  go_enter Try.func25, Try.ntmps25
  go_wp2_with (go_at_call 66; refine (lay_bad b l _ _ h).mono ?_; rintro e w2 ⟨rfl, rfl⟩)
  go_ret
  exact ⟨rfl, rfl⟩
end Go.Proofs.Ytnmamaeoghgegaa.Pa

/-
  Plain mathematics of reading a number's bytes: what the program's reader and the document's reader answer for any bytes.
-/
namespace Go.Proofs.Ytnmamaeoghgegaa.Pa.Pk

/-- The program's reader, from the k-th byte on, m being read. -/
def scan : List UInt8 → Nat → Nat → Nat × Nat
  | [], _, _ => (0, 0)
  | c :: t, m, k =>
    if 36028797018963968 < m then (0, 0)
    else if 4611686018427387904 < m * 128 + c.toNat % 128 then (0, 0)
    else if c.toNat < 128 then (m * 128 + c.toNat % 128, k + 1)
    else scan t (m * 128 + c.toNat % 128) (k + 1)

/-- The program's reader. -/
def headB (s : List UInt8) : Nat × Nat := if s.head? = some 128 then (0, 0) else scan s 0 0

/-- What has been read: bytes with their highest bit set, of the value m. -/
theorem hi_snoc : ∀ (f m : Nat), m ≠ 0 → ∀ c : UInt8, 128 ≤ c.toNat → hi (f + 1) (m * 128 + c.toNat % 128) = hi f m ++ [c] := by
  intro f m hm c hc
  have hlt := c.toNat_lt
  rw [hi_step f _ (by omega)]
  have e1 : (m * 128 + c.toNat % 128) / 128 = m := by omega
  have e2 : (m * 128 + c.toNat % 128) % 128 + 128 = c.toNat := by omega
  rw [e1, e2]
  simp

theorem hi_one (f : Nat) (c : UInt8) (hc : 128 ≤ c.toNat) (h0 : c ≠ 128) : hi (f + 1) (0 * 128 + c.toNat % 128) = [c] := by
  have hlt := c.toNat_lt
  have h1 : c.toNat ≠ 128 := fun h => h0 (by rw [← UInt8.toNat_inj]; exact h)
  rw [hi_step f _ (by omega)]
  have e1 : (0 * 128 + c.toNat % 128) / 128 = 0 := by omega
  have e2 : (0 * 128 + c.toNat % 128) % 128 + 128 = c.toNat := by omega
  rw [e1, e2, hi_zero]
  simp

/-- More room gives the same bytes. -/
theorem hi_room : ∀ (f g m : Nat), m < 128 ^ f → m < 128 ^ g → hi f m = hi g m
  | 0, g, m, h, _ => by
    simp at h
    rw [h, hi_zero, hi_zero]
  | f + 1, 0, m, _, h => by
    simp at h
    rw [h, hi_zero, hi_zero]
  | f + 1, g + 1, m, hf, hg => by
    by_cases hz : m = 0
    · rw [hz, hi_zero, hi_zero]
    · rw [hi_step f m hz, hi_step g m hz, hi_room f g _ (div_lt_pow hf) (div_lt_pow hg)]

/-- Reading goes over the bytes of a number ahead of its last one. -/
theorem scan_hi : ∀ (f m : Nat) (t : List UInt8), m < 128 ^ f → m ≤ 36028797018963968 → scan (hi f m ++ t) 0 0 = scan t m (hi f m).length
  | 0, m, t, h, _ => by
    simp at h
    simp [h, hi]
  | f + 1, m, t, h, hm => by
    by_cases hz : m = 0
    · rw [hz, hi_zero]
      rfl
    · rw [hi_step f m hz, List.append_assoc, scan_hi f (m / 128) _ (div_lt_pow h) (by omega)]
      simp only [List.cons_append, List.nil_append, scan]
      have e : (UInt8.ofNat (m % 128 + 128)).toNat = m % 128 + 128 := by
        rw [UInt8.toNat_ofNat', Nat.mod_eq_of_lt (by omega)]
      rw [e, if_neg (by omega), if_neg (by omega), if_neg (by omega)]
      have e2 : m / 128 * 128 + (m % 128 + 128) % 128 = m := by omega
      rw [e2]
      simp

theorem hi_head : ∀ (f m : Nat) (t : List UInt8) (x : UInt8), m < 128 ^ f → m ≠ 0 → (hi f m ++ t).head? = some x → 128 < x.toNat
  | 0, m, t, x, h, hm, _ => by
    simp at h
    omega
  | f + 1, m, t, x, h, hm, hx => by
    rw [hi_step f m hm, List.append_assoc] at hx
    by_cases hz : m / 128 = 0
    · rw [hz, hi_zero] at hx
      simp only [List.nil_append, List.cons_append, List.head?_cons, Option.some.injEq] at hx
      rw [← hx, UInt8.toNat_ofNat', Nat.mod_eq_of_lt (by omega)]
      omega
    · exact hi_head f (m / 128) _ x (div_lt_pow h) hz hx

/-- A number's own bytes are read as this number, whatever stands behind them. -/
theorem headB_numB (n : Nat) (t : List UInt8) (h : n ≤ 4611686018427387904) : headB (numB n ++ t) = (n, (numB n).length) := by
  have hn : n / 128 < 128 ^ 9 := by rw [pow9]; omega
  unfold headB numB
  rw [if_neg, List.append_assoc, scan_hi 9 _ _ hn (by omega)]
  · simp only [List.cons_append, List.nil_append, scan]
    have e : (UInt8.ofNat (n % 128)).toNat = n % 128 := by
      rw [UInt8.toNat_ofNat', Nat.mod_eq_of_lt (by omega)]
    rw [e, if_neg (by omega), if_neg (by omega), if_pos (by omega)]
    have e2 : n / 128 * 128 + n % 128 % 128 = n := by omega
    rw [e2]
    simp
  · intro hx
    rw [List.append_assoc] at hx
    by_cases hz : n / 128 = 0
    · rw [hz, hi_zero] at hx
      simp at hx
      have : (UInt8.ofNat (n % 128)).toNat = 128 := by rw [hx]; rfl
      rw [UInt8.toNat_ofNat', Nat.mod_eq_of_lt (by omega)] at this
      omega
    · have := hi_head 9 _ _ _ hn hz hx
      simp at this
theorem scan_le : ∀ (l : List UInt8) (m k : Nat), (scan l m k).2 ≤ k + l.length ∧ (scan l m k).1 ≤ 4611686018427387904
  | [], m, k => by simp [scan]
  | c :: t, m, k => by
    have h := scan_le t (m * 128 + c.toNat % 128) (k + 1)
    rw [scan]
    by_cases h1 : 36028797018963968 < m
    · rw [if_pos h1]
      simp
    · rw [if_neg h1]
      by_cases h2 : 4611686018427387904 < m * 128 + c.toNat % 128
      · rw [if_pos h2]
        simp
      · rw [if_neg h2]
        by_cases h3 : c.toNat < 128
        · rw [if_pos h3, List.length_cons]
          exact ⟨by show k + 1 ≤ _; omega, by show m * 128 + c.toNat % 128 ≤ _; omega⟩
        · rw [if_neg h3, List.length_cons]
          exact ⟨by omega, h.2⟩

theorem headB_le (l : List UInt8) : (headB l).2 ≤ l.length ∧ (headB l).1 ≤ 4611686018427387904 := by
  unfold headB
  by_cases h : l.head? = some 128
  · rw [if_pos h]
    simp
  · rw [if_neg h]
    have := scan_le l 0 0
    rw [Nat.zero_add] at this
    exact this
end Go.Proofs.Ytnmamaeoghgegaa.Pa.Pk

/-
  What the methods of an Opener answer and what they do to its two cells.
-/
namespace Go.Proofs.Ytnmamaeoghgegaa.Pa
open Go.RowKit

theorem oOk_at (b : Nat) (s : ByteArray) (bad : Bool) (w : World) (h : At w b 114 s bad) :
    Calls Try.prog 96 #[.pointer (some ⟨b, 0, none⟩)] w fun e w' => e = .returned (.bool (!bad)) ∧ w' = w := by
  have c1 := h.c1
  clear h
  go_enter Try.func96, Try.ntmps96
  go_wp2
  go_ret
  exact ⟨rfl, rfl⟩

theorem oOk_nil (w : World) :
    Calls Try.prog 96 #[.pointer none] w fun e w' => e = .returned (.bool false) ∧ w' = w := by
  go_enter Try.func96, Try.ntmps96
  go_wp2
  go_ret
  exact ⟨rfl, rfl⟩

theorem oNum_nil (n : Int) (w : World) :
    Calls Try.prog 77 #[.pointer none, .int .i64 n] w fun e w' => e = .returned (.int .i64 0) ∧ w' = w := by
  go_enter Try.func77, Try.ntmps77
  go_wp2_with (go_at_call 96; refine (oOk_nil _).mono ?_; rintro e w1 ⟨rfl, rfl⟩)
  go_ret
  exact ⟨rfl, rfl⟩

theorem done_at (b : Nat) (s : ByteArray) (bad : Bool) (w : World) (h : At w b 114 s bad) :
    Calls Try.prog 78 #[.pointer (some ⟨b, 0, none⟩)] w fun e w' => e = .returned (.bool (!bad && s.toList.isEmpty)) ∧ w' = w := by
  have c0 := h.c0
  have ho := oOk_at b s bad w h
  clear h
  cases bad
  · go_enter Try.func78, Try.ntmps78
    go_wp2_with (go_at_call 96; refine ho.mono ?_; rintro e w1 ⟨rfl, rfl⟩)
    go_ret
    exact ⟨rfl, rfl⟩
  · go_enter Try.func78, Try.ntmps78
    go_wp2_with (go_at_call 96; refine ho.mono ?_; rintro e w1 ⟨rfl, rfl⟩)
    go_ret
    exact ⟨rfl, rfl⟩

theorem spoil_at (b : Nat) (s : ByteArray) (bad : Bool) (w : World) (h : At w b 114 s bad) :
    Calls Try.prog 97 #[.pointer (some ⟨b, 0, none⟩)] w fun e w' => e = .returned (.tuple #[]) ∧ At w' b 114 ⟨#[]⟩ true ∧ Upd b w w' := by
  have f0 := h.f 0
  have f1 := h.f 1
  have c0 := h.c0
  have c1 := h.c1
  have A : Aside (At w b 114 s bad) := h
  clear h
  go_enter Try.func97, Try.ntmps97
  go_wp2
  go_end0
  exact ⟨rfl, (A.out.set0 _).set1 _, (Upd.set _ _ _ _).trans (Upd.set _ _ _ _)⟩

theorem open_any (s : ByteArray) (w : World) :
    Calls Try.prog 75 #[.string s] w fun e w' => e = .returned (.pointer (some ⟨w.heap.size, 0, none⟩)) ∧ At w' w.heap.size 114 s false ∧ Below w.heap.size w w' := by
  go_enter Try.func75, Try.ntmps75
  go_wp2
  go_ret
  exact ⟨rfl, heap_alloc_new w _, (Below.refl _ _).alloc (Nat.le_refl _) _⟩
end Go.Proofs.Ytnmamaeoghgegaa.Pa

/-
  The program's reader of a number's bytes.
-/
namespace Go.Proofs.Ytnmamaeoghgegaa.Pa
open Go.RowKit

theorem u8and127 (x : Int) (h₀ : 0 ≤ x) (h₁ : x < 256) : bits BinOp.and IntKind.u8 x 127 = x % 128 := by
  have e := bits_mask .u8 8 (by decide) wraps_u8 7 (by decide) x h₀ (by omega)
  simpa using e

theorem i64join (x y : Int) (h₀ : 0 ≤ x) (h₁ : x ≤ 36028797018963968) (h₂ : 0 ≤ y) (h₃ : y < 128) : bits BinOp.or IntKind.i64 (x * 128) y = x * 128 + y :=
  bits_join .i64 63 (by decide) wraps_i64 7 (x * 128) y (by omega) (by omega) (by omega) (by omega) (by omega) (by omega)

theorem drop_cons (s : ByteArray) (k : Nat) (h : k < s.size) : s.data.toList.drop k = s[k] :: s.data.toList.drop (k + 1) := by
  rw [List.drop_eq_getElem_cons (by simpa using h)]
  rfl

theorem scan_a (s : ByteArray) (k m : Nat) (h : k < s.size) (h1 : 36028797018963968 < m) : Pk.scan (s.data.toList.drop k) m k = (0, 0) := by
  rw [drop_cons s k h, Pk.scan, if_pos h1]
theorem scan_b (s : ByteArray) (k m : Nat) (h : k < s.size) (h1 : m ≤ 36028797018963968) (h2 : 4611686018427387904 < (m : Int) * 128 + (s[k].toNat : Int) % 128) : Pk.scan (s.data.toList.drop k) m k = (0, 0) := by
  rw [drop_cons s k h, Pk.scan, if_neg (by omega), if_pos (by omega)]
theorem scan_c (s : ByteArray) (k m : Nat) (h : k < s.size) (h1 : m ≤ 36028797018963968) (h2 : (m : Int) * 128 + (s[k].toNat : Int) % 128 ≤ 4611686018427387904) (h3 : (s[k].toNat : Int) < 128) :
    Pk.scan (s.data.toList.drop k) m k = (m * 128 + s[k].toNat % 128, k + 1) := by
  rw [drop_cons s k h, Pk.scan, if_neg (by omega), if_neg (by omega), if_pos (by omega)]
theorem scan_d (s : ByteArray) (k m : Nat) (h : k < s.size) (h1 : m ≤ 36028797018963968) (h2 : (m : Int) * 128 + (s[k].toNat : Int) % 128 ≤ 4611686018427387904) (h3 : 128 ≤ (s[k].toNat : Int)) :
    Pk.scan (s.data.toList.drop k) m k = Pk.scan (s.data.toList.drop (k + 1)) (m * 128 + s[k].toNat % 128) (k + 1) := by
  rw [drop_cons s k h, Pk.scan, if_neg (by omega), if_neg (by omega), if_neg (by omega)]

theorem ret2_int {a b c d : Int} (h : a = c) (h' : b = d) : Ending.returned (.tuple #[.int .i64 a, .int .i64 b]) = .returned (.tuple #[.int .i64 c, .int .i64 d]) := by rw [h, h']

set_option maxHeartbeats 1600000 in
set_option maxRecDepth 100000 in
theorem headNum_core (s : ByteArray) (w : World) (hs : s.size ≤ 1000000) (hp : 0 < s.size) (he : s.toList.isEmpty = false) (hne : (((s[0]'hp).toNat : Int) == 128) = false) (p : Nat × Nat) (HP : Hid (p = Pk.scan s.data.toList 0 0)) :
    Calls Try.prog 98 #[.string s] w fun e w' => e = .returned (.tuple #[.int .i64 (p.1 : Int), .int .i64 (p.2 : Int)]) ∧ w' = w := by
  go_enter Try.func98, Try.ntmps98
  go_wp2
  go_loop [2, 14] (fun n i => ∃ k m : Nat, k ≤ s.size ∧ i = .int .i64 (k : Int) ∧ n = .int .i64 (m : Int) ∧ m ≤ 4611686018427387904 ∧ p = Pk.scan (s.data.toList.drop k) m k) (fun _ i => s.size - (intOf i).toNat)
  case atStart => exact ⟨0, 0, by omega, rfl, rfl, by omega, HP.out⟩
  case round =>
    obtain ⟨k, m, hk, rfl, rfl, hm, hpk⟩ := hrel
    have HK : Hid (p = Pk.scan (s.data.toList.drop k) m k) := hpk
    clear hpk
    by_cases hlt : k < s.size
    · by_cases h1 : 36028797018963968 < m
      · go_wp2
        go_ret2
        have hp0 := HK.out.trans (scan_a s k m hlt h1)
        exact ⟨ret2_int (by rw [hp0]; rfl) (by rw [hp0]; rfl), rfl⟩
      · have e1 := u8and127 (s[k].toNat : Int) (by omega) (by have := s[k].toNat_lt; omega)
        have e2 := i64join (m : Int) ((s[k].toNat : Int) % 128) (by omega) (by omega) (by omega) (by omega)
        go_wp2
        · go_ret2
          have hp0 := HK.out.trans (scan_b s k m hlt (by omega) (by assumption))
          exact ⟨ret2_int (by rw [hp0]; rfl) (by rw [hp0]; rfl), rfl⟩
        · go_ret2
          have hp0 := HK.out.trans (scan_c s k m hlt (by omega) (by assumption) (by assumption))
          exact ⟨ret2_int (by rw [hp0]; simp) (by rw [hp0]; simp), rfl⟩
        · go_round
          case rel =>
            have hp0 := HK.out.trans (scan_d s k m hlt (by omega) (by assumption) (by assumption))
            exact ⟨k + 1, m * 128 + s[k].toNat % 128, by omega, by go_num, by go_num, by omega, hp0⟩
          case measure => simp [intOf]; omega
    · go_wp2
      go_ret2
      have hp0 := HK.out
      rw [List.drop_eq_nil_of_le (by simp; omega), Pk.scan] at hp0
      exact ⟨ret2_int (by rw [hp0]; rfl) (by rw [hp0]; rfl), rfl⟩

set_option maxHeartbeats 1600000 in
set_option maxRecDepth 100000 in
theorem headNum_empty (w : World) :
    Calls Try.prog 98 #[.string ⟨#[]⟩] w fun e w' => e = .returned (.tuple #[.int .i64 0, .int .i64 0]) ∧ w' = w := by
  go_enter Try.func98, Try.ntmps98
  go_wp2
  refine wp_loop_rounds 1 ?_
  rw [rounds_succ]
  go_wp2
  go_ret2
  exact ⟨rfl, rfl⟩

set_option maxHeartbeats 1600000 in
set_option maxRecDepth 100000 in
theorem headNum_128 (s : ByteArray) (w : World) (hp : 0 < s.size) (he : s.toList.isEmpty = false) (hne : (((s[0]'hp).toNat : Int) == 128) = true) :
    Calls Try.prog 98 #[.string s] w fun e w' => e = .returned (.tuple #[.int .i64 0, .int .i64 0]) ∧ w' = w := by
  go_enter Try.func98, Try.ntmps98
  go_wp2
  go_ret2
  exact ⟨rfl, rfl⟩

theorem headNum_any (s : ByteArray) (w : World) (hs : s.size ≤ 1000000) (p : Nat × Nat) (HP : Hid (p = Pk.headB s.data.toList)) :
    Calls Try.prog 98 #[.string s] w fun e w' => e = .returned (.tuple #[.int .i64 (p.1 : Int), .int .i64 (p.2 : Int)]) ∧ w' = w := by
  rcases Nat.eq_zero_or_pos s.size with h0 | hp
  · obtain rfl : s = ⟨#[]⟩ := by
      cases s with
      | mk d => exact congrArg ByteArray.mk (Array.eq_empty_of_size_eq_zero h0)
    obtain rfl : p = (0, 0) := HP.out
    exact headNum_empty w
  · have e0 : s.data.toList = s[0] :: s.data.toList.drop 1 := by simpa using drop_cons s 0 hp
    have he : s.toList.isEmpty = false := by rw [ByteArray.toList_eq, e0]; rfl
    by_cases h128 : s[0] = 128
    · obtain rfl : p = (0, 0) := by rw [HP.out, e0, Pk.headB, h128]; rfl
      exact headNum_128 s w hp he (by rw [h128]; rfl)
    · refine headNum_core s w hs hp he ?_ p ?_
      · rw [beq_eq_false_iff_ne]
        intro h
        apply h128
        rw [← UInt8.toNat_inj]
        exact Int.ofNat.inj h
      · show p = _
        rw [HP.out, Pk.headB, if_neg]
        rw [e0]
        simpa using h128
end Go.Proofs.Ytnmamaeoghgegaa.Pa

/-
  Reading a number, a text, bytes by an Opener.
-/
namespace Go.Proofs.Ytnmamaeoghgegaa.Pa
open Go.RowKit

theorem oNum_bad (b : Nat) (s : ByteArray) (n : Int) (w : World) (h : At w b 114 s true) :
    Calls Try.prog 77 #[.pointer (some ⟨b, 0, none⟩), .int .i64 n] w fun e w' => e = .returned (.int .i64 0) ∧ w' = w := by
  have ho := oOk_at b s true w h
  clear h
  go_enter Try.func77, Try.ntmps77
  go_wp2_with (go_at_call 96; refine ho.mono ?_; rintro e w1 ⟨rfl, rfl⟩)
  go_ret
  exact ⟨rfl, rfl⟩

theorem oNum_no (b : Nat) (s : ByteArray) (most : Int) (w : World) (h : At w b 114 s false) (hs : s.size ≤ 1000000) (p : Nat × Nat) (HP : Hid (p = Pk.headB s.data.toList)) (hno : p.2 = 0 ∨ most < (p.1 : Int)) :
    Calls Try.prog 77 #[.pointer (some ⟨b, 0, none⟩), .int .i64 most] w fun e w' => e = .returned (.int .i64 0) ∧ At w' b 114 ⟨#[]⟩ true ∧ Upd b w w' := by
  have c0 := h.c0
  have ho := oOk_at b s false w h
  have hh := headNum_any s w hs p HP
  have hsp := spoil_at b s false w h
  clear h HP hs
  by_cases hz : ((p.2 : Int) == 0) = true
  · clear hno
    go_enter Try.func77, Try.ntmps77
    go_wp2_with (first
      | (go_at_call 96; refine ho.mono ?_; rintro e w1 ⟨rfl, rfl⟩)
      | (go_at_call 98; refine hh.mono ?_; rintro e w1 ⟨rfl, rfl⟩)
      | (go_at_call 97; refine hsp.mono ?_; rintro e w2 ⟨rfl, ha2, hu2⟩))
    go_ret
    exact ⟨rfl, ha2, hu2⟩
  · have hz' : ((p.2 : Int) == 0) = false := by simpa using hz
    have hlt : most < (p.1 : Int) := by
      rcases hno with h | h
      · exfalso
        apply hz
        rw [h]
        rfl
      · exact h
    clear hno hz
    go_enter Try.func77, Try.ntmps77
    go_wp2_with (first
      | (go_at_call 96; refine ho.mono ?_; rintro e w1 ⟨rfl, rfl⟩)
      | (go_at_call 98; refine hh.mono ?_; rintro e w1 ⟨rfl, rfl⟩)
      | (go_at_call 97; refine hsp.mono ?_; rintro e w2 ⟨rfl, ha2, hu2⟩))
    go_ret
    exact ⟨rfl, ha2, hu2⟩

theorem oNum_yes (b : Nat) (s : ByteArray) (most : Int) (w : World) (h : At w b 114 s false) (hs : s.size ≤ 1000000) (p : Nat × Nat) (HP : Hid (p = Pk.headB s.data.toList)) (h1 : p.2 ≠ 0) (h2 : (p.1 : Int) ≤ most) :
    Calls Try.prog 77 #[.pointer (some ⟨b, 0, none⟩), .int .i64 most] w fun e w' => e = .returned (.int .i64 (p.1 : Int)) ∧ At w' b 114 (s.extract p.2 s.size) false ∧ Upd b w w' := by
  have c0 := h.c0
  have f0 := h.f 0
  have ho := oOk_at b s false w h
  have hh := headNum_any s w hs p HP
  have hz' : ((p.2 : Int) == 0) = false := by
    rw [beq_eq_false_iff_ne]
    omega
  have hle : p.2 ≤ s.size := by
    rw [HP.out]
    exact (Pk.headB_le _).1
  have A : Aside (At w b 114 s false) := h
  clear h HP h1
  go_enter Try.func77, Try.ntmps77
  go_wp2_with (first
    | (go_at_call 96; refine ho.mono ?_; rintro e w1 ⟨rfl, rfl⟩)
    | (go_at_call 98; refine hh.mono ?_; rintro e w1 ⟨rfl, rfl⟩))
  go_ret
  exact ⟨rfl, A.out.set0 _, Upd.set _ _ _ _⟩

theorem oRaw_bad (b : Nat) (s : ByteArray) (n : Int) (w : World) (h : At w b 114 s true) :
    Calls Try.prog 76 #[.pointer (some ⟨b, 0, none⟩), .int .i64 n] w fun e w' => e = .returned (.string ⟨#[]⟩) ∧ w' = w := by
  have ho := oOk_at b s true w h
  clear h
  go_enter Try.func76, Try.ntmps76
  go_wp2_with (go_at_call 96; refine ho.mono ?_; rintro e w1 ⟨rfl, rfl⟩)
  go_ret
  exact ⟨rfl, rfl⟩

theorem oRaw_neg (b : Nat) (s : ByteArray) (n : Int) (w : World) (h : At w b 114 s false) (hn : n < 0) :
    Calls Try.prog 76 #[.pointer (some ⟨b, 0, none⟩), .int .i64 n] w fun e w' => e = .returned (.string ⟨#[]⟩) ∧ w' = w := by
  have ho := oOk_at b s false w h
  clear h
  go_enter Try.func76, Try.ntmps76
  go_wp2_with (go_at_call 96; refine ho.mono ?_; rintro e w1 ⟨rfl, rfl⟩)
  go_ret
  exact ⟨rfl, rfl⟩

theorem oRaw_no (b : Nat) (s : ByteArray) (n : Int) (w : World) (h : At w b 114 s false) (hn0 : 0 ≤ n) (hn : (s.size : Int) < n) :
    Calls Try.prog 76 #[.pointer (some ⟨b, 0, none⟩), .int .i64 n] w fun e w' => e = .returned (.string ⟨#[]⟩) ∧ At w' b 114 ⟨#[]⟩ true ∧ Upd b w w' := by
  have c0 := h.c0
  have ho := oOk_at b s false w h
  have hsp := spoil_at b s false w h
  clear h
  go_enter Try.func76, Try.ntmps76
  go_wp2_with (first
    | (go_at_call 96; refine ho.mono ?_; rintro e w1 ⟨rfl, rfl⟩)
    | (go_at_call 97; refine hsp.mono ?_; rintro e w2 ⟨rfl, ha2, hu2⟩))
  go_ret
  exact ⟨rfl, ha2, hu2⟩

theorem oRaw_yes (b n : Nat) (s : ByteArray) (w : World) (h : At w b 114 s false) (hn : n ≤ s.size) (_hs : s.size ≤ 1000000) :
    Calls Try.prog 76 #[.pointer (some ⟨b, 0, none⟩), .int .i64 (n : Int)] w fun e w' => e = .returned (.string (s.extract 0 n)) ∧ At w' b 114 (s.extract n s.size) false ∧ Upd b w w' := by
  have c0 := h.c0
  have f0 := h.f 0
  have ho := oOk_at b s false w h
  have A : Aside (At w b 114 s false) := h
  clear h
  go_enter Try.func76, Try.ntmps76
  go_wp2_with (go_at_call 96; refine ho.mono ?_; rintro e w1 ⟨rfl, rfl⟩)
  go_ret
  exact ⟨rfl, A.out.set0 _, Upd.set _ _ _ _⟩
end Go.Proofs.Ytnmamaeoghgegaa.Pa

/-
  Reading a text by an Opener; the few calls that each statement makes first.
-/
namespace Go.Proofs.Ytnmamaeoghgegaa.Pa
open Go.RowKit

theorem aw1 (b : Nat) (w : World) (h : At w b 55 ⟨#[]⟩ false) :
    Calls Try.prog 26 #[.pointer (some ⟨b, 0, none⟩), .int .i64 300] w fun e w' => e = .returned (.pointer (some ⟨b, 0, none⟩)) ∧ At w' b 55 ⟨#[130, 44]⟩ false ∧ Upd b w w' := by
  have k := num_at b 300 ⟨#[]⟩ w h (by decide) (by decide)
  have e : (⟨#[]⟩ : ByteArray) ++ ⟨(Pk.numB 300).toArray⟩ = ⟨#[130, 44]⟩ := by decide
  rw [e] at k
  exact k

theorem aw3 (b : Nat) (w : World) (h : At w b 114 ⟨#[130, 44, 2, 97, 98]⟩ false) :
    Calls Try.prog 77 #[.pointer (some ⟨b, 0, none⟩), .int .i64 300] w fun e w' => e = .returned (.int .i64 300) ∧ At w' b 114 ⟨#[2, 97, 98]⟩ false ∧ Upd b w w' := by
  have e : Pk.headB (ByteArray.mk #[130, 44, 2, 97, 98]).data.toList = (300, 2) := by decide
  have k := oNum_yes b _ 300 w h (by decide) (300, 2) e.symm (by decide) (by decide)
  have e2 : (ByteArray.mk #[130, 44, 2, 97, 98]).extract (300, 2).2 (ByteArray.mk #[130, 44, 2, 97, 98]).size = ⟨#[2, 97, 98]⟩ := by decide
  rw [e2] at k
  exact k

end Go.Proofs.Ytnmamaeoghgegaa.Pa

/-
  Items as bytes; what laying one item does, whether the Packer is OK or not.
-/
namespace Go.Proofs.Ytnmamaeoghgegaa.Pa
open Go.RowKit

/-- What a Packer holds: W, or nothing if it isn't OK. -/
def pk (ok : Bool) (W : List UInt8) : ByteArray := if ok then ⟨W.toArray⟩ else ⟨#[]⟩

theorem mk_append (a b : List UInt8) : (ByteArray.mk a.toArray) ++ ⟨b.toArray⟩ = ⟨(a ++ b).toArray⟩ := by
  apply ByteArray.ext
  simp [ByteArray.data_append]

theorem mk_data (s : ByteArray) : (⟨s.data.toList.toArray⟩ : ByteArray) = s := by
  apply ByteArray.ext
  simp

theorem At.alloc {w : World} {b t : Nat} {s : ByteArray} {bad : Bool} (h : At w b t s bad) (o : Obj) : At (w.alloc o) b t s bad := by
  unfold At
  rw [Below.heap_alloc w o b h.lt]
  exact h

theorem numU (b n : Nat) (ok : Bool) (W : List UInt8) (w : World) (h : At w b 55 (pk ok W) (!ok)) (hn : n ≤ 4611686018427387904) (hs : W.length ≤ 1000000) :
    Calls Try.prog 26 #[.pointer (some ⟨b, 0, none⟩), .int .i64 (n : Int)] w fun e w' => e = .returned (.pointer (some ⟨b, 0, none⟩)) ∧ At w' b 55 (pk ok (W ++ Pk.numB n)) (!ok) ∧ Upd b w w' := by
  cases ok
  · exact num_bad b n _ w h hn
  · have k := num_at b n ⟨W.toArray⟩ w h hn (by rw [size_mk]; exact hs)
    rw [mk_append] at k
    exact k

theorem outU (b : Nat) (n : Int) (ok : Bool) (W V : List UInt8) (w : World) (h : At w b 55 (pk ok W) (!ok)) (hn : n < 0 ∨ 4611686018427387904 < n) :
    Calls Try.prog 26 #[.pointer (some ⟨b, 0, none⟩), .int .i64 n] w fun e w' => e = .returned (.pointer (some ⟨b, 0, none⟩)) ∧ At w' b 55 (pk false V) (!false) ∧ Upd b w w' :=
  num_out b n _ _ w h hn

theorem rawU (b : Nat) (s : ByteArray) (ok : Bool) (W : List UInt8) (w : World) (h : At w b 55 (pk ok W) (!ok)) (hl : W.length ≤ 1000000) (hs : s.size ≤ 1000000) :
    Calls Try.prog 25 #[.pointer (some ⟨b, 0, none⟩), .string s] w fun e w' => e = .returned (.pointer (some ⟨b, 0, none⟩)) ∧ At w' b 55 (pk ok (W ++ s.data.toList)) (!ok) ∧ Upd b w w' := by
  cases ok
  · refine (raw_bad b _ s w h).mono ?_
    rintro e w' ⟨rfl, rfl⟩
    exact ⟨rfl, h, Upd.refl _ _⟩
  · have k := raw_at b ⟨W.toArray⟩ s w h (by rw [size_mk]; omega)
    have e : (ByteArray.mk W.toArray) ++ s = ⟨(W ++ s.data.toList).toArray⟩ := by
      conv => lhs; rw [← mk_data s]
      rw [mk_append]
    rw [e] at k
    exact k

/-- An item's bytes. -/
def encI (kd : Nat) (n : Int) (s : ByteArray) : List UInt8 :=
  if kd % 3 = 0 then (if 0 ≤ n ∧ n ≤ 4611686018427387904 then Pk.numB n.toNat else [])
  else if kd % 3 = 1 then Pk.numB s.size ++ s.data.toList
  else s.data.toList

/-- May the item be? -/
def okI (kd : Nat) (n : Int) : Bool := !decide (kd % 3 = 0 ∧ ¬ (0 ≤ n ∧ n ≤ 4611686018427387904))

theorem encI_len (kd : Nat) (n : Int) (s : ByteArray) (hs : s.size ≤ 300) : (encI kd n s).length ≤ 310 := by
  unfold encI
  have e : s.data.toList.length = s.size := by rw [Array.length_toList]; rfl
  have l2 := Pk.numB_len (a := s.size) (by omega)
  by_cases h0 : kd % 3 = 0
  · rw [if_pos h0]
    by_cases hn : 0 ≤ n ∧ n ≤ 4611686018427387904
    · rw [if_pos hn]
      have := Pk.numB_len (a := n.toNat) (by omega)
      omega
    · rw [if_neg hn]
      simp
  · rw [if_neg h0]
    by_cases h1 : kd % 3 = 1
    · rw [if_pos h1, List.length_append]
      omega
    · rw [if_neg h1]
      omega

/-- The bytes of the first k items. -/
def cat (kd : Nat → Nat) (nm : Nat → Int) (st : Nat → ByteArray) : Nat → List UInt8
  | 0 => []
  | k + 1 => cat kd nm st k ++ encI (kd k) (nm k) (st k)

/-- May the first k items be? -/
def okk (kd : Nat → Nat) (nm : Nat → Int) : Nat → Bool
  | 0 => true
  | k + 1 => okk kd nm k && okI (kd k) (nm k)

theorem cat_len (kd : Nat → Nat) (nm : Nat → Int) (st : Nat → ByteArray) : ∀ k, (∀ j, j < k → (st j).size ≤ 300) → (cat kd nm st k).length ≤ 310 * k
  | 0, _ => by simp [cat]
  | k + 1, h => by
    have h1 := cat_len kd nm st k (fun j hj => h j (by omega))
    have h2 := encI_len (kd k) (nm k) (st k) (h k (by omega))
    rw [cat, List.length_append]
    omega
end Go.Proofs.Ytnmamaeoghgegaa.Pa

/-
  The document's own bytes of a number and of a text.
-/
namespace Go.Proofs.Ytnmamaeoghgegaa.Pa
open Go.RowKit

theorem conv_one (w : World) (x : Int) :
    (convert 49 9 (.slice (some ⟨w.heap.size, 0, none⟩) 1 1)).run Try.prog (w.alloc (.cells #[.int .u8 x] 5)) = .ok (.string ⟨#[UInt8.ofNat x.toNat]⟩) (w.alloc (.cells #[.int .u8 x] 5)) := by
  refine run_convert_bytes_arg _ 49 5 Try.underlying49 Try.underlying5 w.heap.size 0 1 1 [x] rfl (fun i hi => ?_) 9 Try.underlying9
  obtain rfl : i = 0 := by omega
  rw [cell_of_row _ _ _ _ _ (0, 0) (heap_alloc_new w _)]
  rfl

/-- What holds at each round's head of the loop. -/
def RefRel (n : Nat) (w : World) (s0 v : Value) (wr : World) (k : Nat) : Prop :=
  ∃ (m : Nat) (l : List UInt8), s0 = .int .i64 (m : Int) ∧ v = .string ⟨l.toArray⟩ ∧ m ≤ 4611686018427387904 ∧ m < 128 ^ k ∧ k + l.length = 10 ∧ Pk.hi k m ++ l = Pk.numB n ∧ Below w.heap.size w wr

set_option maxHeartbeats 1600000 in
set_option maxRecDepth 1000000 in
theorem refNum_any (n : Nat) (w : World) (hn : n ≤ 4611686018427387904) :
    Calls Try.prog 35 #[.int .i64 (n : Int)] w fun e w' => e = .returned (.string ⟨(Pk.numB n).toArray⟩) ∧ Below w.heap.size w w' := by
  have hc := conv_one
  go_enter Try.func35, Try.ntmps35
  go_wp2
  go_loopg [0, 3] 9 (fun gh s0 v wr => ∃ k, k ≤ gh ∧ RefRel n w s0 v wr k)
  case atStart =>
    refine ⟨9, Nat.le_refl _, n / 128, [UInt8.ofNat (n % 128)], by simp, ?_, by omega, by rw [Pk.pow9]; omega, rfl, by simp [Pk.numB], (Below.refl _ _).alloc (Nat.le_refl _) _⟩
    rfl
  case round =>
    obtain ⟨k, hgh, m, l, rfl, rfl, hm, hmk, hkl, hcat, hbel⟩ := hrel
    by_cases hlt : 0 < m
    · obtain ⟨k', rfl⟩ : ∃ k', k = k' + 1 := by
        cases k with
        | zero => simp at hmk; omega
        | succ k' => exact ⟨k', rfl⟩
      have R : Aside (∀ o : Obj, RefRel n w (.int .i64 ((m : Int) / 128)) (.string (⟨#[UInt8.ofNat (m % 128) + 128]⟩ ++ ⟨l.toArray⟩)) (wr.alloc o) k') := fun o => by
        have e : (ByteArray.mk #[UInt8.ofNat (m % 128) + 128]) ++ ⟨l.toArray⟩ = ⟨(UInt8.ofNat (m % 128 + 128) :: l).toArray⟩ := by
          rw [UInt8.ofNat_add]
          exact mk_append [_] l
        refine ⟨m / 128, _, by simp, by rw [e], by omega, Pk.div_lt_pow hmk, by simp; omega, ?_, hbel.alloc hbel.size _⟩
        rw [← hcat, Pk.hi_step _ _ (by omega)]
        simp
      clear hmk hcat hbel
      go_wp2
      go_roundg k'
      case measure => omega
      case rel =>
        exact ⟨k', Nat.le_refl _, R.out _⟩
    · obtain rfl : m = 0 := by omega
      rw [Pk.hi_zero, List.nil_append] at hcat
      subst hcat
      go_wp2
      go_ret
      exact ⟨rfl, hbel⟩
end Go.Proofs.Ytnmamaeoghgegaa.Pa
