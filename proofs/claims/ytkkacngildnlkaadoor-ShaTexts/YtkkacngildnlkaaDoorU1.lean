/-
  ShaUnlike, as the tied card: for any text, place and byte the law answers true, and the arguments read behind the call as before; the one listed variable, the table of the constants, is tied to the program's text. No other condition.
-/
import Derived.Test.YtkkacngildnlkaaDoorP1
import Derived.Test.YtkkacngildnlkaaDoorR4
import Derived.ShutString
import Derived.ChangeOld
namespace Go.Proofs.YtkkacngildnlkaaDoor
open Go.ChangeShapes Go.WideShapes Go.ChangeAt Go.RowKit
open Go.ChangeMaps (open_string shut_string)

theorem toList_ne {a b : ByteArray} (h : a ≠ b) : (a.toList == b.toList) = false := by
  rw [beq_eq_false_iff_ne]
  intro he
  apply h
  rw [ByteArray.toList_eq, ByteArray.toList_eq] at he
  exact ByteArray.ext (Array.toList_inj.mp he)

theorem toList_same {a b : ByteArray} (h : a = b) : (a.toList == b.toList) = true := by
  rw [h]
  exact beq_self_eq_true _

theorem xor8 (a b : Nat) (ha : a < 256) (hb : b < 256) : bits BinOp.xor IntKind.u8 (a : Int) (b : Int) = ((a ^^^ b : Nat) : Int) := by
  have hx : a ^^^ b < 2 ^ 8 := Nat.xor_lt_two_pow (by omega) (by omega)
  have h1 : (BitVec.ofInt 8 (a : Int)).toNat = a := by
    rw [BitVec.ofInt_natCast, BitVec.toNat_ofNat]; exact Nat.mod_eq_of_lt (by omega)
  have h2 : (BitVec.ofInt 8 (b : Int)).toNat = b := by
    rw [BitVec.ofInt_natCast, BitVec.toNat_ofNat]; exact Nat.mod_eq_of_lt (by omega)
  show IntKind.u8.wrap ((BitVec.ofInt 8 (a : Int) ^^^ BitVec.ofInt 8 (b : Int)).toNat : Int) = _
  rw [BitVec.toNat_xor, h1, h2, IntKind.wrap_u8]
  omega

theorem frozen_string (w : World) (s : ByteArray) (j : Nat) (hj : j < s.size) : (w.drew.alloc (.cells (bytesRow s (grownCap w s.size 0 5)) 5 ((bytesRow s (grownCap w s.size 0 5)).size, (bytesRow s (grownCap w s.size 0 5)).size + 1))).frozen? ⟨w.heap.size, j, none⟩ = false := by
  have h2' : (w.drew.alloc (.cells (bytesRow s (grownCap w s.size 0 5)) 5 ((bytesRow s (grownCap w s.size 0 5)).size, (bytesRow s (grownCap w s.size 0 5)).size + 1))).frozen? ⟨w.heap.size, j, none⟩ = (decide ((bytesRow s (grownCap w s.size 0 5)).size ≤ j) && decide (j < (bytesRow s (grownCap w s.size 0 5)).size + 1)) := World.frozen?_alloc_mark w.drew _ _ _ _ j
  have hsz : s.size ≤ (bytesRow s (grownCap w s.size 0 5)).size := by
    unfold bytesRow
    simp
  rw [h2', decide_eq_false (by omega)]
  rfl

theorem Own.turn {w : World} {base g cap : Nat} {l : List Nat} (h : Own w base g cap l) (q x : Nat) (hq : q < l.length) : Own (w.setCell ⟨g, q, none⟩ (.int .u8 (x : Int))) base g cap (l.set q x) := by
  refine ⟨h.lo, by rw [size_setCell]; exact h.hi, by simpa using h.le, fun j hj => ?_, fun j h1 h2 => ?_⟩
  · have hj' : j < l.length := by simpa using hj
    by_cases e : q = j
    · subst e
      rw [World.cell?_setCell_same _ _ _ (h.cell q hq)]
      simp [List.getD, hq]
    · rw [World.cell?_setCell_other _ _ _ _ (fun h => e (Addr.mk.inj h).2.1), h.cell j hj']
      simp [List.getD, e]
  · have h1' : l.length ≤ j := by simpa using h1
    have h3 := h.spare j h1' h2
    rw [World.cell?_setCell_other _ _ _ _ (fun h => by have := (Addr.mk.inj h).2.1; omega), World.frozen?_setCell]
    exact h3

theorem unlike_out (s : ByteArray) (a y : Nat) (w : World) (hT : Tab w) (h : 200 < s.size ∨ s.size = 0 ∨ y = 0) :
    Calls Tryd.prog 5 #[.string s, .int .u8 (a : Int), .int .u8 (y : Int)] w fun e w' => e = .returned (.bool true) ∧ Below w.heap.size w w' := by
  have k0 := awake_any w hT
  by_cases h1 : 200 < s.size
  · have d1 : decide (200 < (s.size : Int)) = true := by simp; omega
    go_enter Tryd.func5, Tryd.ntmps5
    go_wp2_with (go_at_call 6; refine k0.mono ?_; rintro e w1 ⟨rfl, hb1⟩)
    go_ret
    exact ⟨rfl, hb1⟩
  · have d1 : decide (200 < (s.size : Int)) = false := by simp; omega
    by_cases h2 : s.size = 0
    · have d2 : ((s.size : Int) == 0) = true := by rw [h2]; rfl
      clear h2 h h1
      go_enter Tryd.func5, Tryd.ntmps5
      go_wp2_with (go_at_call 6; refine k0.mono ?_; rintro e w1 ⟨rfl, hb1⟩)
      go_ret
      exact ⟨rfl, hb1⟩
    · have d2 : ((s.size : Int) == 0) = false := by rw [beq_eq_false_iff_ne]; omega
      obtain rfl : y = 0 := by omega
      clear h2 h h1
      go_enter Tryd.func5, Tryd.ntmps5
      go_wp2_with (go_at_call 6; refine k0.mono ?_; rintro e w1 ⟨rfl, hb1⟩)
      go_ret
      exact ⟨rfl, hb1⟩

/-- What lasts while the law is reckoned: the turned bytes, all that was there, the constants. -/
structure St (w : World) (g cap : Nat) (l : List Nat) (u : World) : Prop where
  own : Own u w.heap.size g cap l
  bel : Below w.heap.size w u
  tab : Tab u

theorem St.next {w : World} {g cap : Nat} {l : List Nat} {u u' : World} (h : St w g cap l u) (hb : Below u.heap.size u u') : St w g cap l u' :=
  ⟨h.own.below hb h.own.hi, h.bel.trans (hb.mono h.bel.size), h.tab.later hb⟩

set_option maxHeartbeats 1600000 in
set_option maxRecDepth 100000 in
theorem unlike_nn (s : ByteArray) (a y q : Nat) (w : World) (hT : Tab w) (h0 : 0 < s.size) (hs : s.size ≤ 200) (hy : y ≠ 0) (hyl : y < 256) (hal : a < 256) (_hq : (a : Int) % (s.size : Int) = (q : Int)) (hq' : (a : Int).tmod (s.size : Int) = (q : Int)) (hqs : q < s.size) (l2 : List Nat) (hl2 : l2 = (bytes s).set q ((bytes s).getD q 0 ^^^ y))
    (D1 D2 D3 T2 T3 : ByteArray) (hT2 : T2 = strOf l2) (hT3 : s ++ ⟨#[0]⟩ = T3) (hD1s : D1.size = 32)
    (k9 : Aside (∀ u, Tab u → Calls Tryd.prog 9 #[.string s] u fun e w' => e = .returned (.string D1) ∧ Below u.heap.size u w'))
    (k92 : Aside (∀ u, Tab u → Calls Tryd.prog 9 #[.string T2] u fun e w' => e = .returned (.string D2) ∧ Below u.heap.size u w'))
    (k93 : Aside (∀ u, Tab u → Calls Tryd.prog 9 #[.string T3] u fun e w' => e = .returned (.string D3) ∧ Below u.heap.size u w'))
    (_k10 : Aside (∀ u, Calls Tryd.prog 10 #[.string s] u fun e w' => e = .returned (.string D1) ∧ Below u.heap.size u w'))
    (_k102 : Aside (∀ u, Calls Tryd.prog 10 #[.string T2] u fun e w' => e = .returned (.string D2) ∧ Below u.heap.size u w'))
    (_k103 : Aside (∀ u, Calls Tryd.prog 10 #[.string T3] u fun e w' => e = .returned (.string D3) ∧ Below u.heap.size u w')) (h2 : D2 ≠ D1) (h3 : D3 ≠ D1) :
    Calls Tryd.prog 5 #[.string s, .int .u8 (a : Int), .int .u8 (y : Int)] w fun e w' => e = .returned (.bool true) ∧ Below w.heap.size w w' := by
  have k0 := awake_any w hT
  have d1 : decide (200 < (s.size : Int)) = false := by simp; omega
  have d2 : ((s.size : Int) == 0) = false := by rw [beq_eq_false_iff_ne]; omega
  have d3 : ((y : Int) == 0) = false := by rw [beq_eq_false_iff_ne]; omega
  have d4 : ((D1.size : Int) == 32) = true := by rw [hD1s]; rfl
  have e2 := toList_ne h2
  have e3 := toList_ne h3
  obtain ⟨x, hx⟩ : ∃ x, x = (bytes s).getD q 0 := ⟨_, rfl⟩
  have hxl : x < 256 := by rw [hx]; exact getD_lt (bytes_lt s) (by decide) _
  have hxo := xor8 x y hxl hyl
  obtain ⟨z, hz⟩ : ∃ z, z = x ^^^ y := ⟨_, rfl⟩
  rw [← hz] at hxo
  have HT : Aside (Tab w) := hT
  have HL : Aside (l2 = (bytes s).set q z ∧ x = (bytes s).getD q 0) := ⟨by rw [hl2, ← hx, ← hz], hx⟩
  have HT2 : Aside (T2 = strOf l2) := hT2
  have HLn : Aside (l2.length = s.size) := by
    show _ = _
    rw [HL.out.1, List.length_set, bytes_len]
  clear hT hl2 hx hz h2 h3 hD1s hT2
  go_enter Tryd.func5, Tryd.ntmps5
  go_wp2_with (first
    | (go_at_call 6; refine k0.mono ?_; rintro e w1 ⟨rfl, hb1⟩; have hcv := run_bytes_of_string (P := Tryd.prog) w1 9 37 5 s Tryd.underlying9 Tryd.underlying37 Tryd.underlying5; have HO : Aside (Own (w1.drew.alloc (.cells (bytesRow s (grownCap w1 s.size 0 5)) 5 ((bytesRow s (grownCap w1 s.size 0 5)).size, (bytesRow s (grownCap w1 s.size 0 5)).size + 1))) w.heap.size w1.heap.size (grownCap w1 s.size 0 5) (bytes s) ∧ (w1.drew.alloc (.cells (bytesRow s (grownCap w1 s.size 0 5)) 5 ((bytesRow s (grownCap w1 s.size 0 5)).size, (bytesRow s (grownCap w1 s.size 0 5)).size + 1))).frozen? ⟨w1.heap.size, q, none⟩ = false ∧ Below w.heap.size w (w1.drew.alloc (.cells (bytesRow s (grownCap w1 s.size 0 5)) 5 ((bytesRow s (grownCap w1 s.size 0 5)).size, (bytesRow s (grownCap w1 s.size 0 5)).size + 1)))) := (by
      have h1 := Own.of_string w1 s
      exact ⟨⟨hb1.size, h1.hi, h1.le, h1.cell, h1.spare⟩, frozen_string w1 s q hqs, hb1.drew.alloc hb1.size _⟩); generalize w1.drew.alloc (.cells (bytesRow s (grownCap w1 s.size 0 5)) 5 ((bytesRow s (grownCap w1 s.size 0 5)).size, (bytesRow s (grownCap w1 s.size 0 5)).size + 1)) = w2 at hcv HO; generalize grownCap w1 s.size 0 5 = cap at hcv HO; have cc := HO.out.1.cell q (by rw [bytes_len]; exact hqs); rw [← HL.out.2] at cc; have cf := HO.out.2.1)
    | (go_at_call_of 9 (Value.string s); have S3 : Aside (St w w1.heap.size cap l2 (w2.setCell ⟨w1.heap.size, q, none⟩ (.int .u8 (z : Int)))) := (by
        have b3 : Below w.heap.size w (w2.setCell ⟨w1.heap.size, q, none⟩ (.int .u8 (z : Int))) := HO.out.2.2.setCell (by exact HO.out.1.lo) _
        have o3 := HO.out.1.turn q z (by rw [bytes_len]; exact hqs)
        rw [← HL.out.1] at o3
        exact ⟨o3, b3, HT.out.later b3⟩); clear cc cf HO hcv; generalize w2.setCell ⟨w1.heap.size, q, none⟩ (.int .u8 (z : Int)) = w3 at S3 ⊢; refine (k9.out _ S3.out.tab).mono ?_; rintro e w4 ⟨rfl, h4⟩; have S4 : Aside (St w w1.heap.size cap l2 w4) := S3.out.next h4; clear h4; have hc4 := S4.out.own.str s.size HLn.out; rw [← HT2.out] at hc4)
    | (go_at_call_of 9 (Value.string T2); refine (k92.out _ S4.out.tab).mono ?_; rintro e w5 ⟨rfl, h5⟩; have S5 : Aside (St w w1.heap.size cap l2 w5) := S4.out.next h5; clear h5 hc4)
    | (go_at_call_of 9 (Value.string T3); refine (k93.out _ S5.out.tab).mono ?_; rintro e w8 ⟨rfl, h8⟩; have S8 : Aside (St w w1.heap.size cap l2 w8) := S5.out.next h8; clear h8))
  go_ret
  exact ⟨rfl, S8.out.bel⟩

set_option maxHeartbeats 1600000 in
set_option maxRecDepth 100000 in
theorem unlike_ne (s : ByteArray) (a y q : Nat) (w : World) (hT : Tab w) (h0 : 0 < s.size) (hs : s.size ≤ 200) (hy : y ≠ 0) (hyl : y < 256) (hal : a < 256) (_hq : (a : Int) % (s.size : Int) = (q : Int)) (hq' : (a : Int).tmod (s.size : Int) = (q : Int)) (hqs : q < s.size) (l2 : List Nat) (hl2 : l2 = (bytes s).set q ((bytes s).getD q 0 ^^^ y))
    (D1 D2 D3 T2 T3 : ByteArray) (hT2 : T2 = strOf l2) (hT3 : s ++ ⟨#[0]⟩ = T3) (hD1s : D1.size = 32)
    (k9 : Aside (∀ u, Tab u → Calls Tryd.prog 9 #[.string s] u fun e w' => e = .returned (.string D1) ∧ Below u.heap.size u w'))
    (k92 : Aside (∀ u, Tab u → Calls Tryd.prog 9 #[.string T2] u fun e w' => e = .returned (.string D2) ∧ Below u.heap.size u w'))
    (k93 : Aside (∀ u, Tab u → Calls Tryd.prog 9 #[.string T3] u fun e w' => e = .returned (.string D3) ∧ Below u.heap.size u w'))
    (k10 : Aside (∀ u, Calls Tryd.prog 10 #[.string s] u fun e w' => e = .returned (.string D1) ∧ Below u.heap.size u w'))
    (_k102 : Aside (∀ u, Calls Tryd.prog 10 #[.string T2] u fun e w' => e = .returned (.string D2) ∧ Below u.heap.size u w'))
    (k103 : Aside (∀ u, Calls Tryd.prog 10 #[.string T3] u fun e w' => e = .returned (.string D3) ∧ Below u.heap.size u w')) (h2 : D2 ≠ D1) (h3 : D3 = D1) :
    Calls Tryd.prog 5 #[.string s, .int .u8 (a : Int), .int .u8 (y : Int)] w fun e w' => e = .returned (.bool true) ∧ Below w.heap.size w w' := by
  have k0 := awake_any w hT
  have d1 : decide (200 < (s.size : Int)) = false := by simp; omega
  have d2 : ((s.size : Int) == 0) = false := by rw [beq_eq_false_iff_ne]; omega
  have d3 : ((y : Int) == 0) = false := by rw [beq_eq_false_iff_ne]; omega
  have d4 : ((D1.size : Int) == 32) = true := by rw [hD1s]; rfl
  have e2 := toList_ne h2
  have e3 := toList_same h3
  obtain ⟨x, hx⟩ : ∃ x, x = (bytes s).getD q 0 := ⟨_, rfl⟩
  have hxl : x < 256 := by rw [hx]; exact getD_lt (bytes_lt s) (by decide) _
  have hxo := xor8 x y hxl hyl
  obtain ⟨z, hz⟩ : ∃ z, z = x ^^^ y := ⟨_, rfl⟩
  rw [← hz] at hxo
  have HT : Aside (Tab w) := hT
  have HL : Aside (l2 = (bytes s).set q z ∧ x = (bytes s).getD q 0) := ⟨by rw [hl2, ← hx, ← hz], hx⟩
  have HT2 : Aside (T2 = strOf l2) := hT2
  have HLn : Aside (l2.length = s.size) := by
    show _ = _
    rw [HL.out.1, List.length_set, bytes_len]
  clear hT hl2 hx hz h2 h3 hD1s hT2
  go_enter Tryd.func5, Tryd.ntmps5
  go_wp2_with (first
    | (go_at_call 6; refine k0.mono ?_; rintro e w1 ⟨rfl, hb1⟩; have hcv := run_bytes_of_string (P := Tryd.prog) w1 9 37 5 s Tryd.underlying9 Tryd.underlying37 Tryd.underlying5; have HO : Aside (Own (w1.drew.alloc (.cells (bytesRow s (grownCap w1 s.size 0 5)) 5 ((bytesRow s (grownCap w1 s.size 0 5)).size, (bytesRow s (grownCap w1 s.size 0 5)).size + 1))) w.heap.size w1.heap.size (grownCap w1 s.size 0 5) (bytes s) ∧ (w1.drew.alloc (.cells (bytesRow s (grownCap w1 s.size 0 5)) 5 ((bytesRow s (grownCap w1 s.size 0 5)).size, (bytesRow s (grownCap w1 s.size 0 5)).size + 1))).frozen? ⟨w1.heap.size, q, none⟩ = false ∧ Below w.heap.size w (w1.drew.alloc (.cells (bytesRow s (grownCap w1 s.size 0 5)) 5 ((bytesRow s (grownCap w1 s.size 0 5)).size, (bytesRow s (grownCap w1 s.size 0 5)).size + 1)))) := (by
      have h1 := Own.of_string w1 s
      exact ⟨⟨hb1.size, h1.hi, h1.le, h1.cell, h1.spare⟩, frozen_string w1 s q hqs, hb1.drew.alloc hb1.size _⟩); generalize w1.drew.alloc (.cells (bytesRow s (grownCap w1 s.size 0 5)) 5 ((bytesRow s (grownCap w1 s.size 0 5)).size, (bytesRow s (grownCap w1 s.size 0 5)).size + 1)) = w2 at hcv HO; generalize grownCap w1 s.size 0 5 = cap at hcv HO; have cc := HO.out.1.cell q (by rw [bytes_len]; exact hqs); rw [← HL.out.2] at cc; have cf := HO.out.2.1)
    | (go_at_call_of 9 (Value.string s); have S3 : Aside (St w w1.heap.size cap l2 (w2.setCell ⟨w1.heap.size, q, none⟩ (.int .u8 (z : Int)))) := (by
        have b3 : Below w.heap.size w (w2.setCell ⟨w1.heap.size, q, none⟩ (.int .u8 (z : Int))) := HO.out.2.2.setCell (by exact HO.out.1.lo) _
        have o3 := HO.out.1.turn q z (by rw [bytes_len]; exact hqs)
        rw [← HL.out.1] at o3
        exact ⟨o3, b3, HT.out.later b3⟩); clear cc cf HO hcv; generalize w2.setCell ⟨w1.heap.size, q, none⟩ (.int .u8 (z : Int)) = w3 at S3 ⊢; refine (k9.out _ S3.out.tab).mono ?_; rintro e w4 ⟨rfl, h4⟩; have S4 : Aside (St w w1.heap.size cap l2 w4) := S3.out.next h4; clear h4; have hc4 := S4.out.own.str s.size HLn.out; rw [← HT2.out] at hc4)
    | (go_at_call_of 9 (Value.string T2); refine (k92.out _ S4.out.tab).mono ?_; rintro e w5 ⟨rfl, h5⟩; have S5 : Aside (St w w1.heap.size cap l2 w5) := S4.out.next h5; clear h5 hc4)
    | (go_at_call_of 9 (Value.string T3); refine (k93.out _ S5.out.tab).mono ?_; rintro e w8 ⟨rfl, h8⟩; have S8 : Aside (St w w1.heap.size cap l2 w8) := S5.out.next h8; clear h8)
    | (go_at_call_of 10 (Value.string T3); refine (k103.out _).mono ?_; rintro e w9 ⟨rfl, h9⟩; have S9 : Aside (St w w1.heap.size cap l2 w9) := S8.out.next h9; clear h9)
    | (go_at_call_of 10 (Value.string s); refine (k10.out _).mono ?_; rintro e w10 ⟨rfl, h10⟩; have S10 : Aside (St w w1.heap.size cap l2 w10) := S9.out.next h10; clear h10))
  go_ret
  exact ⟨rfl, S10.out.bel⟩

set_option maxHeartbeats 1600000 in
set_option maxRecDepth 100000 in
theorem unlike_en (s : ByteArray) (a y q : Nat) (w : World) (hT : Tab w) (h0 : 0 < s.size) (hs : s.size ≤ 200) (hy : y ≠ 0) (hyl : y < 256) (hal : a < 256) (_hq : (a : Int) % (s.size : Int) = (q : Int)) (hq' : (a : Int).tmod (s.size : Int) = (q : Int)) (hqs : q < s.size) (l2 : List Nat) (hl2 : l2 = (bytes s).set q ((bytes s).getD q 0 ^^^ y))
    (D1 D2 D3 T2 T3 : ByteArray) (hT2 : T2 = strOf l2) (hT3 : s ++ ⟨#[0]⟩ = T3) (hD1s : D1.size = 32)
    (k9 : Aside (∀ u, Tab u → Calls Tryd.prog 9 #[.string s] u fun e w' => e = .returned (.string D1) ∧ Below u.heap.size u w'))
    (k92 : Aside (∀ u, Tab u → Calls Tryd.prog 9 #[.string T2] u fun e w' => e = .returned (.string D2) ∧ Below u.heap.size u w'))
    (k93 : Aside (∀ u, Tab u → Calls Tryd.prog 9 #[.string T3] u fun e w' => e = .returned (.string D3) ∧ Below u.heap.size u w'))
    (k10 : Aside (∀ u, Calls Tryd.prog 10 #[.string s] u fun e w' => e = .returned (.string D1) ∧ Below u.heap.size u w'))
    (k102 : Aside (∀ u, Calls Tryd.prog 10 #[.string T2] u fun e w' => e = .returned (.string D2) ∧ Below u.heap.size u w'))
    (_k103 : Aside (∀ u, Calls Tryd.prog 10 #[.string T3] u fun e w' => e = .returned (.string D3) ∧ Below u.heap.size u w')) (h2 : D2 = D1) (h3 : D3 ≠ D1) :
    Calls Tryd.prog 5 #[.string s, .int .u8 (a : Int), .int .u8 (y : Int)] w fun e w' => e = .returned (.bool true) ∧ Below w.heap.size w w' := by
  have k0 := awake_any w hT
  have d1 : decide (200 < (s.size : Int)) = false := by simp; omega
  have d2 : ((s.size : Int) == 0) = false := by rw [beq_eq_false_iff_ne]; omega
  have d3 : ((y : Int) == 0) = false := by rw [beq_eq_false_iff_ne]; omega
  have d4 : ((D1.size : Int) == 32) = true := by rw [hD1s]; rfl
  have e2 := toList_same h2
  have e3 := toList_ne h3
  obtain ⟨x, hx⟩ : ∃ x, x = (bytes s).getD q 0 := ⟨_, rfl⟩
  have hxl : x < 256 := by rw [hx]; exact getD_lt (bytes_lt s) (by decide) _
  have hxo := xor8 x y hxl hyl
  obtain ⟨z, hz⟩ : ∃ z, z = x ^^^ y := ⟨_, rfl⟩
  rw [← hz] at hxo
  have HT : Aside (Tab w) := hT
  have HL : Aside (l2 = (bytes s).set q z ∧ x = (bytes s).getD q 0) := ⟨by rw [hl2, ← hx, ← hz], hx⟩
  have HT2 : Aside (T2 = strOf l2) := hT2
  have HLn : Aside (l2.length = s.size) := by
    show _ = _
    rw [HL.out.1, List.length_set, bytes_len]
  clear hT hl2 hx hz h2 h3 hD1s hT2
  go_enter Tryd.func5, Tryd.ntmps5
  go_wp2_with (first
    | (go_at_call 6; refine k0.mono ?_; rintro e w1 ⟨rfl, hb1⟩; have hcv := run_bytes_of_string (P := Tryd.prog) w1 9 37 5 s Tryd.underlying9 Tryd.underlying37 Tryd.underlying5; have HO : Aside (Own (w1.drew.alloc (.cells (bytesRow s (grownCap w1 s.size 0 5)) 5 ((bytesRow s (grownCap w1 s.size 0 5)).size, (bytesRow s (grownCap w1 s.size 0 5)).size + 1))) w.heap.size w1.heap.size (grownCap w1 s.size 0 5) (bytes s) ∧ (w1.drew.alloc (.cells (bytesRow s (grownCap w1 s.size 0 5)) 5 ((bytesRow s (grownCap w1 s.size 0 5)).size, (bytesRow s (grownCap w1 s.size 0 5)).size + 1))).frozen? ⟨w1.heap.size, q, none⟩ = false ∧ Below w.heap.size w (w1.drew.alloc (.cells (bytesRow s (grownCap w1 s.size 0 5)) 5 ((bytesRow s (grownCap w1 s.size 0 5)).size, (bytesRow s (grownCap w1 s.size 0 5)).size + 1)))) := (by
      have h1 := Own.of_string w1 s
      exact ⟨⟨hb1.size, h1.hi, h1.le, h1.cell, h1.spare⟩, frozen_string w1 s q hqs, hb1.drew.alloc hb1.size _⟩); generalize w1.drew.alloc (.cells (bytesRow s (grownCap w1 s.size 0 5)) 5 ((bytesRow s (grownCap w1 s.size 0 5)).size, (bytesRow s (grownCap w1 s.size 0 5)).size + 1)) = w2 at hcv HO; generalize grownCap w1 s.size 0 5 = cap at hcv HO; have cc := HO.out.1.cell q (by rw [bytes_len]; exact hqs); rw [← HL.out.2] at cc; have cf := HO.out.2.1)
    | (go_at_call_of 9 (Value.string s); have S3 : Aside (St w w1.heap.size cap l2 (w2.setCell ⟨w1.heap.size, q, none⟩ (.int .u8 (z : Int)))) := (by
        have b3 : Below w.heap.size w (w2.setCell ⟨w1.heap.size, q, none⟩ (.int .u8 (z : Int))) := HO.out.2.2.setCell (by exact HO.out.1.lo) _
        have o3 := HO.out.1.turn q z (by rw [bytes_len]; exact hqs)
        rw [← HL.out.1] at o3
        exact ⟨o3, b3, HT.out.later b3⟩); clear cc cf HO hcv; generalize w2.setCell ⟨w1.heap.size, q, none⟩ (.int .u8 (z : Int)) = w3 at S3 ⊢; refine (k9.out _ S3.out.tab).mono ?_; rintro e w4 ⟨rfl, h4⟩; have S4 : Aside (St w w1.heap.size cap l2 w4) := S3.out.next h4; clear h4; have hc4 := S4.out.own.str s.size HLn.out; rw [← HT2.out] at hc4)
    | (go_at_call_of 9 (Value.string T2); refine (k92.out _ S4.out.tab).mono ?_; rintro e w5 ⟨rfl, h5⟩; have S5 : Aside (St w w1.heap.size cap l2 w5) := S4.out.next h5; clear h5 hc4; have hc5 := S5.out.own.str s.size HLn.out; rw [← HT2.out] at hc5)
    | (go_at_call_of 10 (Value.string T2); refine (k102.out _).mono ?_; rintro e w6 ⟨rfl, h6⟩; have S6 : Aside (St w w1.heap.size cap l2 w6) := S5.out.next h6; clear h6 hc5 k102)
    | (go_at_call_of 10 (Value.string s); refine (k10.out _).mono ?_; rintro e w7 ⟨rfl, h7⟩; have S7 : Aside (St w w1.heap.size cap l2 w7) := S6.out.next h7; clear h7 S6)
    | (go_at_call_of 9 (Value.string T3); refine (k93.out _ S7.out.tab).mono ?_; rintro e w8 ⟨rfl, h8⟩; have S8 : Aside (St w w1.heap.size cap l2 w8) := S7.out.next h8; clear h8))
  go_ret
  exact ⟨rfl, S8.out.bel⟩

set_option maxHeartbeats 1600000 in
set_option maxRecDepth 100000 in
theorem unlike_ee (s : ByteArray) (a y q : Nat) (w : World) (hT : Tab w) (h0 : 0 < s.size) (hs : s.size ≤ 200) (hy : y ≠ 0) (hyl : y < 256) (hal : a < 256) (_hq : (a : Int) % (s.size : Int) = (q : Int)) (hq' : (a : Int).tmod (s.size : Int) = (q : Int)) (hqs : q < s.size) (l2 : List Nat) (hl2 : l2 = (bytes s).set q ((bytes s).getD q 0 ^^^ y))
    (D1 D2 D3 T2 T3 : ByteArray) (hT2 : T2 = strOf l2) (hT3 : s ++ ⟨#[0]⟩ = T3) (hD1s : D1.size = 32)
    (k9 : Aside (∀ u, Tab u → Calls Tryd.prog 9 #[.string s] u fun e w' => e = .returned (.string D1) ∧ Below u.heap.size u w'))
    (k92 : Aside (∀ u, Tab u → Calls Tryd.prog 9 #[.string T2] u fun e w' => e = .returned (.string D2) ∧ Below u.heap.size u w'))
    (k93 : Aside (∀ u, Tab u → Calls Tryd.prog 9 #[.string T3] u fun e w' => e = .returned (.string D3) ∧ Below u.heap.size u w'))
    (k10 : Aside (∀ u, Calls Tryd.prog 10 #[.string s] u fun e w' => e = .returned (.string D1) ∧ Below u.heap.size u w'))
    (k102 : Aside (∀ u, Calls Tryd.prog 10 #[.string T2] u fun e w' => e = .returned (.string D2) ∧ Below u.heap.size u w'))
    (k103 : Aside (∀ u, Calls Tryd.prog 10 #[.string T3] u fun e w' => e = .returned (.string D3) ∧ Below u.heap.size u w')) (h2 : D2 = D1) (h3 : D3 = D1) :
    Calls Tryd.prog 5 #[.string s, .int .u8 (a : Int), .int .u8 (y : Int)] w fun e w' => e = .returned (.bool true) ∧ Below w.heap.size w w' := by
  have k0 := awake_any w hT
  have d1 : decide (200 < (s.size : Int)) = false := by simp; omega
  have d2 : ((s.size : Int) == 0) = false := by rw [beq_eq_false_iff_ne]; omega
  have d3 : ((y : Int) == 0) = false := by rw [beq_eq_false_iff_ne]; omega
  have d4 : ((D1.size : Int) == 32) = true := by rw [hD1s]; rfl
  have e2 := toList_same h2
  have e3 := toList_same h3
  obtain ⟨x, hx⟩ : ∃ x, x = (bytes s).getD q 0 := ⟨_, rfl⟩
  have hxl : x < 256 := by rw [hx]; exact getD_lt (bytes_lt s) (by decide) _
  have hxo := xor8 x y hxl hyl
  obtain ⟨z, hz⟩ : ∃ z, z = x ^^^ y := ⟨_, rfl⟩
  rw [← hz] at hxo
  have HT : Aside (Tab w) := hT
  have HL : Aside (l2 = (bytes s).set q z ∧ x = (bytes s).getD q 0) := ⟨by rw [hl2, ← hx, ← hz], hx⟩
  have HT2 : Aside (T2 = strOf l2) := hT2
  have HLn : Aside (l2.length = s.size) := by
    show _ = _
    rw [HL.out.1, List.length_set, bytes_len]
  clear hT hl2 hx hz h2 h3 hD1s hT2
  go_enter Tryd.func5, Tryd.ntmps5
  go_wp2_with (first
    | (go_at_call 6; refine k0.mono ?_; rintro e w1 ⟨rfl, hb1⟩; have hcv := run_bytes_of_string (P := Tryd.prog) w1 9 37 5 s Tryd.underlying9 Tryd.underlying37 Tryd.underlying5; have HO : Aside (Own (w1.drew.alloc (.cells (bytesRow s (grownCap w1 s.size 0 5)) 5 ((bytesRow s (grownCap w1 s.size 0 5)).size, (bytesRow s (grownCap w1 s.size 0 5)).size + 1))) w.heap.size w1.heap.size (grownCap w1 s.size 0 5) (bytes s) ∧ (w1.drew.alloc (.cells (bytesRow s (grownCap w1 s.size 0 5)) 5 ((bytesRow s (grownCap w1 s.size 0 5)).size, (bytesRow s (grownCap w1 s.size 0 5)).size + 1))).frozen? ⟨w1.heap.size, q, none⟩ = false ∧ Below w.heap.size w (w1.drew.alloc (.cells (bytesRow s (grownCap w1 s.size 0 5)) 5 ((bytesRow s (grownCap w1 s.size 0 5)).size, (bytesRow s (grownCap w1 s.size 0 5)).size + 1)))) := (by
      have h1 := Own.of_string w1 s
      exact ⟨⟨hb1.size, h1.hi, h1.le, h1.cell, h1.spare⟩, frozen_string w1 s q hqs, hb1.drew.alloc hb1.size _⟩); generalize w1.drew.alloc (.cells (bytesRow s (grownCap w1 s.size 0 5)) 5 ((bytesRow s (grownCap w1 s.size 0 5)).size, (bytesRow s (grownCap w1 s.size 0 5)).size + 1)) = w2 at hcv HO; generalize grownCap w1 s.size 0 5 = cap at hcv HO; have cc := HO.out.1.cell q (by rw [bytes_len]; exact hqs); rw [← HL.out.2] at cc; have cf := HO.out.2.1)
    | (go_at_call_of 9 (Value.string s); have S3 : Aside (St w w1.heap.size cap l2 (w2.setCell ⟨w1.heap.size, q, none⟩ (.int .u8 (z : Int)))) := (by
        have b3 : Below w.heap.size w (w2.setCell ⟨w1.heap.size, q, none⟩ (.int .u8 (z : Int))) := HO.out.2.2.setCell (by exact HO.out.1.lo) _
        have o3 := HO.out.1.turn q z (by rw [bytes_len]; exact hqs)
        rw [← HL.out.1] at o3
        exact ⟨o3, b3, HT.out.later b3⟩); clear cc cf HO hcv; generalize w2.setCell ⟨w1.heap.size, q, none⟩ (.int .u8 (z : Int)) = w3 at S3 ⊢; refine (k9.out _ S3.out.tab).mono ?_; rintro e w4 ⟨rfl, h4⟩; have S4 : Aside (St w w1.heap.size cap l2 w4) := S3.out.next h4; clear h4; have hc4 := S4.out.own.str s.size HLn.out; rw [← HT2.out] at hc4)
    | (go_at_call_of 9 (Value.string T2); refine (k92.out _ S4.out.tab).mono ?_; rintro e w5 ⟨rfl, h5⟩; have S5 : Aside (St w w1.heap.size cap l2 w5) := S4.out.next h5; clear h5 hc4; have hc5 := S5.out.own.str s.size HLn.out; rw [← HT2.out] at hc5)
    | (go_at_call_of 10 (Value.string T2); refine (k102.out _).mono ?_; rintro e w6 ⟨rfl, h6⟩; have S6 : Aside (St w w1.heap.size cap l2 w6) := S5.out.next h6; clear h6 hc5 k102)
    | (go_at_call_of 10 (Value.string s); refine (k10.out _).mono ?_; rintro e w7 ⟨rfl, h7⟩; have S7 : Aside (St w w1.heap.size cap l2 w7) := S6.out.next h7; clear h7 S6)
    | (go_at_call_of 9 (Value.string T3); refine (k93.out _ S7.out.tab).mono ?_; rintro e w8 ⟨rfl, h8⟩; have S8 : Aside (St w w1.heap.size cap l2 w8) := S7.out.next h8; clear h8)
    | (go_at_call_of 10 (Value.string T3); refine (k103.out _).mono ?_; rintro e w9 ⟨rfl, h9⟩; have S9 : Aside (St w w1.heap.size cap l2 w9) := S8.out.next h9; clear h9)
    | (go_at_call_of 10 (Value.string s); refine (k10.out _).mono ?_; rintro e w10 ⟨rfl, h10⟩; have S10 : Aside (St w w1.heap.size cap l2 w10) := S9.out.next h10; clear h10))
  go_ret
  exact ⟨rfl, S10.out.bel⟩

theorem unlike_any (s : ByteArray) (a y : Nat) (w : World) (hT : Tab w) (ha : a < 256) (hy : y < 256) :
    Calls Tryd.prog 5 #[.string s, .int .u8 (a : Int), .int .u8 (y : Int)] w fun e w' => e = .returned (.bool true) ∧ Below w.heap.size w w' := by
  by_cases h : 200 < s.size ∨ s.size = 0 ∨ y = 0
  · exact unlike_out s a y w hT h
  · have h0 : 0 < s.size := by omega
    have hs : s.size ≤ 200 := by omega
    have hy0 : y ≠ 0 := by omega
    have hq := Nat.mod_lt a h0
    have hq1 : (a : Int) % (s.size : Int) = ((a % s.size : Nat) : Int) := by simp
    have hq2 : (a : Int).tmod (s.size : Int) = ((a % s.size : Nat) : Int) := by rw [Int.tmod_eq_emod_of_nonneg (Int.natCast_nonneg _)]; simp
    have hl : ((bytes s).set (a % s.size) ((bytes s).getD (a % s.size) 0 ^^^ y)).length = s.size := by rw [List.length_set, bytes_len]
    have hs2 : (strOf ((bytes s).set (a % s.size) ((bytes s).getD (a % s.size) 0 ^^^ y))).size ≤ 200 := by rw [strOf_size, hl]; exact hs
    have hs3 : (s ++ (⟨#[0]⟩ : ByteArray)).size ≤ 201 := by rw [ByteArray.size_append]; show s.size + 1 ≤ 201; omega
    have hd : (strOf (Sh.sha (bytes s))).size = 32 := by rw [strOf_size, sha_len]
    generalize hT2 : strOf ((bytes s).set (a % s.size) ((bytes s).getD (a % s.size) 0 ^^^ y)) = T2 at hs2
    generalize hT3 : s ++ (⟨#[0]⟩ : ByteArray) = T3 at hs3
    have k9 := fun u (hu : Tab u) => sum_any s u hu (by omega)
    have k92 := fun u (hu : Tab u) => sum_any T2 u hu (by omega)
    have k93 := fun u (hu : Tab u) => sum_any T3 u hu (by omega)
    have k10 := fun u => refSum_any s u (by omega)
    have k102 := fun u => refSum_any T2 u (by omega)
    have k103 := fun u => refSum_any T3 u (by omega)
    by_cases e2 : strOf (Sh.sha (bytes T2)) = strOf (Sh.sha (bytes s))
    · by_cases e3 : strOf (Sh.sha (bytes T3)) = strOf (Sh.sha (bytes s))
      · exact unlike_ee s a y (a % s.size) w hT h0 hs hy0 hy ha hq1 hq2 hq _ rfl _ _ _ T2 T3 hT2.symm hT3 hd k9 k92 k93 k10 k102 k103 e2 e3
      · exact unlike_en s a y (a % s.size) w hT h0 hs hy0 hy ha hq1 hq2 hq _ rfl _ _ _ T2 T3 hT2.symm hT3 hd k9 k92 k93 k10 k102 k103 e2 e3
    · by_cases e3 : strOf (Sh.sha (bytes T3)) = strOf (Sh.sha (bytes s))
      · exact unlike_ne s a y (a % s.size) w hT h0 hs hy0 hy ha hq1 hq2 hq _ rfl _ _ _ T2 T3 hT2.symm hT3 hd k9 k92 k93 k10 k102 k103 e2 e3
      · exact unlike_nn s a y (a % s.size) w hT h0 hs hy0 hy ha hq1 hq2 hq _ rfl _ _ _ T2 T3 hT2.symm hT3 hd k9 k92 k93 k10 k102 k103 e2 e3

theorem u8_nat {a : Int} (h : (Lit.int .u8 a).wf = true) : ∃ n : Nat, n < 256 ∧ a = (n : Int) := by
  simp [Lit.wf, IntKind.min, IntKind.max, IntKind.signed, IntKind.bits] at h
  exact ⟨a.toNat, by omega, by omega⟩

set_option maxRecDepth 100000 in
theorem shaUnlike_lifted (os : Os) (started : os.Started) (H : Type) (enc : TypeId × Value → H) :
    ReturnsInHanded {} Tryd.checked os 5 .any (fun w args => (Rows.shaUnlikeSpec.pre enc Tryd.prog Tryd.f5 [] false w args ∧ laidMetH Tryd.prog laid1 w) ∧ sizedMet enc Tryd.prog Tryd.f5 (OpenSpec.ofChange Rows.shaUnlikeSpec) false w args)
      (Rows.shaUnlikeSpec.post enc Tryd.prog Tryd.f5 false true false false) := by
  refine returnsInHanded_of_change_and (C := Tryd.checked) (X := fun w _ => laidMetH Tryd.prog laid1 w) (fun _ _ _ hh h => h.of_heap hh) own started (by kernel_rfl) Tryd.func5
    (ChangeSpec.witness_shaped (enc := enc) (C := Tryd.checked) (os := os) (X := fun w _ => laidMetH Tryd.prog laid1 w) false (World.doorLaid Tryd.prog 400 os) #[.string ByteArray.empty, .int .u8 0, .int .u8 0] 8 rfl (World.shaped_of_RefB (by kernel_rfl) (by kernel_rfl)) (by kernel_rfl) (by kernel_rfl) (by kernel_rfl) (door_met os _)) ?_
  intro W base args ds gs before hval0 hW _ _ hL _
  have hval : ∀ (j : Nat) t v, Tryd.f5.params[j]? = some t → args[j]? = some v → Value.okWide Tryd.prog W .any base t v := hval0
  have hW' := hW
  obtain ⟨p, q, hA0, hV, rfl, hfz, hnd⟩ := hW
  have hA : DataW.TrodAll enc Tryd.prog W 0 (fun _ => true) true Tryd.f5.params.toList args.toList ds p := hA0
  rw [Tryd.params5] at hA hval
  obtain ⟨v0, vs0, d0, ds0, p0, q0, hargs, rfl, rfl, h0, r0⟩ := trodAll_cons hA
  obtain ⟨v1, vs1, d1, ds1, p1, q1, rfl, rfl, rfl, h1, r1⟩ := trodAll_cons r0
  obtain ⟨v2, vs2, d2, ds2, p2, q2, rfl, rfl, rfl, h2, r2⟩ := trodAll_cons r1
  obtain ⟨rfl, rfl, rfl⟩ := trodAll_nil r2
  obtain rfl : args = #[v0, v1, v2] := by cases args; simp_all
  obtain ⟨rfl, rfl⟩ := trodVars_none hV
  obtain ⟨s0, rfl, rfl, rfl, w0⟩ := open_string Tryd.underlying9 (hval 0 9 v0 rfl rfl) h0
  obtain ⟨a1, rfl, rfl, rfl, w1⟩ := open_int Tryd.underlying5 (hval 1 5 v1 rfl rfl) h1
  obtain ⟨a2, rfl, rfl, rfl, w2⟩ := open_int Tryd.underlying5 (hval 2 5 v2 rfl rfl) h2
  clear hA0 hval0
  obtain ⟨c, hc, rfl⟩ := u8_nat w1
  obtain ⟨x, hx, rfl⟩ := u8_nat w2
  refine (unlike_any s0 c x W (tab_of_laid hL) hc hx).mono fun e W' ⟨he, bel⟩ => ?_
  subst he
  exact ⟨_, rfl, _, _, _, [], _, [], hW', trodAll_mk1 (shut_bool Tryd.underlying4 _), trodAll_cons_mk (shut_string Tryd.underlying9 w0) (trodAll_cons_mk (shut_int Tryd.underlying5 w1) (trodAll_cons_mk (shut_int Tryd.underlying5 w2) trodAll_mk0)), rfl, bel.frame _, fun h => by cases h⟩

theorem shaUnlike_row : Rows.ShaUnlikeSaid :=
  OpenClaim.holds_of_wide 5 Tryd.f5 rfl rfl rfl rfl rfl rfl rfl ⟨rfl, rfl, rfl, rfl, rfl⟩ rfl rfl rfl rfl rfl (by kernel_rfl) Tryd.func5 (by kernel_rfl)
    (of_decide_eq_true (by kernel_rfl)) (by unfold Func.isWrapper; first | (rw [if_pos (by decide +kernel)]; kernel_rfl) | (rw [if_neg (by decide +kernel)]; exact ⟨rfl, rfl⟩))
    (fun os started H enc _ => shaUnlike_lifted os started H enc)

theorem shaUnlike_holds : Rows.ShaUnlikeCardSaid :=
  Claim7.holds_tied_plain_at .later [] [.data] true (true, "006818d8534aa499fb2aeba6ec53f3e4ac15862d3f2079fa821f5042570c362f") false
    shaUnlike_row (fun _ h => by cases h) (by kernel_rfl) (fun _ h => by cases h) shaUnlike_row_tie rfl ⟨rfl, rfl⟩ (by kernel_rfl) rfl
    (fun f fn hf hfn => by
      obtain rfl : f = 5 := Option.some.inj ((show Tryd.prog.funcNamed "concierge/conciergelaw03.ShaUnlike" = some 5 by kernel_rfl).symm.trans hf) |>.symm
      obtain rfl : fn = Tryd.f5 := (Option.some.inj (Tryd.func5.symm.trans hfn)).symm
      exact ⟨by kernel_rfl, fun j t ht => by
        rw [Tryd.params5] at ht
        have hm : t ∈ [9, 5, 5] := by simpa using Array.mem_of_getElem? ht
        have hall : ([9, 5, 5].all fun u => !Tryd.prog.wantsStandIn u) = true := by kernel_rfl
        exact (show Tryd.prog.wantsStandIn t = false by simpa using List.all_eq_true.1 hall t hm)⟩)
    (by kernel_rfl)
#print axioms shaUnlike_holds
end Go.Proofs.YtkkacngildnlkaaDoor
