/-
  YtpeioecpilmpiaaGreatDoor: the texts D9, N0, N1, P1, P2, P3, one behind the other.
-/
import Derived.Test.YtpeioecpilmpiaaGreatDoorMF23
import Derived.Lib.ItoaLen
import Derived.WalkKit
import Derived.WalkSpells
import Derived.WalkLawsBesides
import Derived.Deep.LoopGhost
import Derived.Laws.Externs
import Derived.Below
import Derived.BigQuiet
import Derived.Deep.RegionWith
import Derived.OwnWalk
import Derived.Maps.AppendAt
import Derived.WalkSmall
import Derived.Deep.MidRow
import Derived.Deep.WholeRow
import Derived.Laws.OwnMore
import Derived.Laws.Slices
import Derived.WideShapes
/-
  The document's own form of a number.
-/
namespace Go.Proofs.YtpeioecpilmpiaaGreatDoor
open Go.RowKit
/-- A digit's byte. -/
def dgt (n : Nat) : UInt8 := UInt8.ofNat (48 + n)
theorem ddigit_any (n : Nat) (w : World) (hn : n < 10) :
    Calls Tryz.prog 78 #[.int .i64 (n : Int)] w fun en w' => en = .returned (.string (bs [dgt n])) ∧ Below w.heap.size w w' := by
  have hc := dconv w [48 + (n : Int)]
  have es : strOfNums [48 + (n : Int)] = bs [dgt n] := by
    unfold strOfNums bs dgt
    have : (48 + (n : Int)).toNat = 48 + n := by omega
    simp only [List.map_cons, List.map_nil, this]
  rw [es] at hc
  simp only [List.length_cons, List.length_nil, Nat.zero_add, List.map_cons, List.map_nil] at hc
  go_enter Tryz.func78, Tryz.ntmps78
  go_wp2
  go_ret
  exact ⟨rfl, (Below.refl _ _).alloc (Nat.le_refl _) _⟩

/-- The digits of n, ahead of those that are there. -/
def DI (m n : Nat) (acc : Js.B) : Prop := (n = 0 ∧ acc = Lib.decDigits m) ∨ (0 < n ∧ Lib.decDigits n ++ acc = Lib.decDigits m)
theorem DI.start (m : Nat) : DI m (m / 10) [dgt (m % 10)] := by
  by_cases h : m < 10
  · refine .inl ⟨by omega, ?_⟩
    rw [Lib.decDigits_one h, Nat.mod_eq_of_lt h]
    rfl
  · refine .inr ⟨by omega, ?_⟩
    conv => rhs; rw [Lib.decDigits, dif_neg h]
    rfl
theorem DI.step {m n : Nat} {acc : Js.B} (h : DI m n acc) (hn : 0 < n) : DI m (n / 10) (dgt (n % 10) :: acc) := by
  rcases h with ⟨h, _⟩ | ⟨_, h⟩
  · omega
  · rcases DI.start n with ⟨h1, h2⟩ | ⟨h1, h2⟩
    · refine .inl ⟨h1, ?_⟩
      rw [← h, ← h2]
      rfl
    · refine .inr ⟨h1, ?_⟩
      rw [← h, ← h2]
      simp
theorem DI.len {m n : Nat} {acc : Js.B} (h : DI m n acc) (hm : (Lib.decDigits m).length ≤ 30) : acc.length ≤ 30 := by
  rcases h with ⟨_, h⟩ | ⟨_, h⟩
  · rw [h]; exact hm
  · rw [← h, List.length_append] at hm
    omega
theorem dec_len (m : Nat) (h : m < 1000000000000000000) : (Lib.decDigits m).length ≤ 30 := by
  have := Lib.itoa_length_le (m : Int) (by omega) (by omega)
  rw [Lib.itoa_nonneg] at this
  omega

set_option maxHeartbeats 800000 in
theorem decimal_pos (m : Nat) (w : World) (hm : m < 1000000000000000000) :
    Calls Tryz.prog 60 #[.int .i64 (m : Int)] w fun en w' => en = .returned (.string (bs (Lib.decDigits m))) ∧ Below w.heap.size w w' := by
  have d0 : decide ((m : Int) < 0) = false := by simp
  have k1 := ddigit_any (m % 10) w (Nat.mod_lt _ (by omega))
  have hl := asd (dec_len m hm)
  have e1 : ((m % 10 : Nat) : Int) = (m : Int) % 10 := by omega
  rw [e1] at k1
  clear e1
  go_enter Tryz.func60, Tryz.ntmps60
  go_wp2_with (go_at_call 78; refine k1.mono ?_; rintro en w1 ⟨rfl, hb1⟩; clear k1)
  go_loopg [0, 3] m (fun gh s0 s3 wr => ∃ (n : Nat) (acc : Js.B), n ≤ gh ∧ s0 = .int .i64 (n : Int) ∧ s3 = .string (bs acc) ∧ Aside (DI m n acc) ∧ n ≤ m ∧ Below w.heap.size w wr)
  case atStart => exact ⟨m / 10, _, by omega, by go_num, rfl, DI.start m, by omega, hb1⟩
  case round =>
    obtain ⟨n, acc, hgh, rfl, rfl, D, hnm, hbw⟩ := hrel
    by_cases hn : 0 < n
    · have dn : decide ((0 : Int) < (n : Int)) = true := by simp; omega
      have k2 : Aside (∀ u : World, Calls Tryz.prog 78 #[.int .i64 ((n : Int) % 10)] u fun en w' => en = .returned (.string (bs [dgt (n % 10)])) ∧ Below u.heap.size u w') := fun u => by
        have := ddigit_any (n % 10) u (Nat.mod_lt _ (by omega))
        rw [show ((n % 10 : Nat) : Int) = (n : Int) % 10 by omega] at this
        exact this
      have D2 := asd (D.out.step hn)
      have z1 : (bs acc).size ≤ 30 := by
        have := D.out.len hl.out
        show (bs acc).data.size ≤ 30
        simpa [bs] using this
      have ec : bs [dgt (n % 10)] ++ bs acc = bs (dgt (n % 10) :: acc) := by
        apply ByteArray.ext
        rw [ByteArray.data_append]
        simp
      have EC := asd ec
      have z2 : (bs [dgt (n % 10)]).size = 1 := rfl
      clear D ec
      generalize bs [dgt (n % 10)] = X at *
      generalize bs acc = A at *
      go_wp2_with (go_at_call 78; refine (k2.out _).mono ?_; rintro en w2 ⟨rfl, hb2⟩; clear k2)
      go_roundg (n / 10)
      case measure => omega
      case rel => exact ⟨n / 10, _, Nat.le_refl _, by go_num, by rw [EC.out], D2, by omega, hbw.trans (hb2.mono hbw.size)⟩
    · have dn : decide ((0 : Int) < (n : Int)) = false := by simp; omega
      have E : Aside (acc = Lib.decDigits m) := by
        rcases D.out with h | h
        · exact h.2
        · exact absurd h.1 (by omega)
      clear D
      go_wp2
      go_ret
      exact ⟨by rw [E.out]; rfl, hbw⟩

theorem decimal_any (n : Int) (w : World) (h1 : -1000000000000000000 < n) (h2 : n < 1000000000000000000) :
    Calls Tryz.prog 60 #[.int .i64 n] w fun en w' => en = .returned (.string (bs (Js.dec n))) ∧ Below w.heap.size w w' := by
  by_cases hn : n < 0
  · obtain ⟨u, rfl⟩ : ∃ u : Nat, n = -(u : Int) := ⟨n.natAbs, by omega⟩
    have d0 : decide (-(u : Int) < 0) = true := by simpa using hn
    have k := decimal_pos u w (by omega)
    have e0 : 0 - -(u : Int) = (u : Int) := by omega
    have ee : Js.dec (-(u : Int)) = 45 :: Lib.decDigits u := Lib.itoa_neg u (by omega)
    have ec : (⟨#[45]⟩ : ByteArray) ++ bs (Lib.decDigits u) = bs (45 :: Lib.decDigits u) := by
      apply ByteArray.ext
      rw [ByteArray.data_append]
      simp
    rw [ee]
    have z1 : (bs (Lib.decDigits u)).size ≤ 30 := by
      have := dec_len u (by omega)
      show (bs _).data.size ≤ 30
      simpa [bs] using this
    generalize bs (Lib.decDigits u) = D at *
    go_enter Tryz.func60, Tryz.ntmps60
    go_wp2_with (go_at_call 60; refine k.mono ?_; rintro en w1 ⟨rfl, hb1⟩; clear k)
    go_ret
    exact ⟨rfl, hb1⟩
  · obtain ⟨u, rfl⟩ : ∃ u : Nat, n = (u : Int) := ⟨n.toNat, by omega⟩
    have := decimal_pos u w (by omega)
    have ee : Js.dec (u : Int) = Lib.decDigits u := Lib.itoa_nonneg u
    rw [ee]
    exact this
end Go.Proofs.YtpeioecpilmpiaaGreatDoor

/-
  The digits of a number, as the document reads them, plain.
-/
namespace Go.Proofs.YtpeioecpilmpiaaGreatDoor
open Go.RowKit
/-- So many digits were read. -/
structure DN (s : ByteArray) (p q k n : Nat) : Prop where
  pos : q = p + k
  le : k ≤ 15
  fit : q ≤ s.size
  dig : ∀ x ∈ (L s p).take k, Js.isDg x = true
  num : n = Js.val ((L s p).take k)
  sort : k = 0 ∨ (k = 1 ∧ n = 0 ∧ ∃ t, L s p = 48 :: t) ∨ (1 ≤ k ∧ 0 < n ∧ ∀ t, L s p ≠ 48 :: t)
theorem DN.start (s : ByteArray) (p : Nat) (hp : p ≤ s.size) : DN s p p 0 0 := ⟨rfl, by omega, hp, by simp, rfl, .inl rfl⟩
theorem DN.bd {s : ByteArray} {p q k n : Nat} (h : DN s p q k n) : n < 1000000000000000 := by
  have h1 := Js.val_lt _ h.dig
  have h2 : ((L s p).take k).length ≤ 15 := by rw [List.length_take]; have := h.le; omega
  have h3 : 10 ^ ((L s p).take k).length ≤ 10 ^ 15 := Nat.pow_le_pow_right (by omega) h2
  rw [h.num]
  omega
theorem dtake_next (s : ByteArray) (p k : Nat) (h : p + k < s.size) : (L s p).take (k + 1) = (L s p).take k ++ [s.get! (p + k)] := by
  have e := L_drop s p k
  rw [L_cons s (p + k) h] at e
  rw [List.take_add_one]
  congr 1
  have : (L s p)[k]? = some (s.get! (p + k)) := by
    have := congrArg (fun l => l[0]?) e
    simpa using this
  rw [this]
  rfl
theorem DN.next {s : ByteArray} {p q k n : Nat} (h : DN s p q k n) (hq : q < s.size) (hk : k < 15) (hd : Js.isDg (s.get! q) = true) (hc : k = 0 ∨ 0 < n) : DN s p (q + 1) (k + 1) (n * 10 + ((s.get! q).toNat - 48)) := by
  have e := dtake_next s p k (by rw [← h.pos]; exact hq)
  rw [← h.pos] at e
  have hdg := (Js.isDg_iff _).1 hd
  refine ⟨by have := h.pos; omega, hk, hq, ?_, ?_, ?_⟩
  · intro x hx
    rw [e, List.mem_append, List.mem_singleton] at hx
    rcases hx with hx | rfl
    · exact h.dig x hx
    · exact hd
  · rw [e, Js.val_app, h.num]
  · rcases h.sort with hz | ⟨h1, h2, _⟩ | ⟨h1, h2, h3⟩
    · subst hz
      have hp : q = p := by have := h.pos; omega
      subst hp
      have h0 : n = 0 := by rw [h.num]; rfl
      subst h0
      by_cases h48 : s.get! q = 48
      · refine .inr (.inl ⟨rfl, by rw [h48]; rfl, L s (q + 1), by rw [L_cons s q hq, h48]⟩)
      · refine .inr (.inr ⟨by omega, ?_, fun t et => h48 (by rw [L_cons s q hq] at et; injection et)⟩)
        have : (s.get! q).toNat ≠ 48 := fun e => h48 (UInt8.toNat_inj.1 e)
        omega
    · rcases hc with hc | hc <;> omega
    · exact .inr (.inr ⟨by omega, by omega, h3⟩)
theorem ddigs_split {s : ByteArray} {p q k n : Nat} (h : DN s p q k n) : Js.digs (L s p) = (L s p).take k ++ Js.digs (L s q) := by
  have e1 : L s p = (L s p).take k ++ L s q := by
    rw [h.pos, ← L_drop, List.take_append_drop]
  unfold Js.digs
  conv => lhs; rw [e1]
  rw [List.takeWhile_append_of_pos h.dig]

/-- What a number leaves, without its -. -/
def NE (s : ByteArray) (p q k n : Nat) : Prop := (1 ≤ k ∧ Js.nat (L s p) = some (n, L s q)) ∨ (Js.nat (L s p) = none ∧ (k = 0 ∨ (1 ≤ k ∧ q < s.size ∧ Js.isDg (s.get! q) = true)))
theorem dnat_other (l : Js.B) (h : ∀ t, l ≠ 48 :: t) : Js.nat l = if (Js.digs l).length = 0 ∨ 15 < (Js.digs l).length then none else some (Js.val (Js.digs l), l.drop (Js.digs l).length) := by
  unfold Js.nat
  split
  · rename_i t
    exact absurd rfl (h t)
  · rfl
theorem DN.stop {s : ByteArray} {p q k n : Nat} (h : DN s p q k n) (hs : k = 15 ∨ Js.digs (L s q) = [] ∨ (k ≠ 0 ∧ n = 0)) : NE s p q k n := by
  have hsp := ddigs_split h
  have hlen : ((L s p).take k).length = k := by
    rw [List.length_take, L_len]
    have := h.pos
    have := h.fit
    omega
  rcases h.sort with hz | ⟨h1, h2, t, ht⟩ | ⟨h1, h2, h3⟩
  · subst hz
    have hq : q = p := by have := h.pos; omega
    have hd : Js.digs (L s q) = [] := by
      rcases hs with hs | hs | hs
      · omega
      · exact hs
      · exact absurd rfl hs.1
    rw [hq] at hd
    refine .inr ⟨?_, .inl rfl⟩
    rw [dnat_other _ (fun t e => by rw [e] at hd; simp [Js.digs, Js.isDg] at hd), hd]
    rfl
  · subst h1
    subst h2
    refine .inl ⟨by omega, ?_⟩
    have hq : q = p + 1 := h.pos
    have : L s q = t := by
      rw [hq, ← L_drop, ht]
      rfl
    rw [ht, this]
    rfl
  · by_cases he : Js.digs (L s q) = []
    · refine .inl ⟨h1, ?_⟩
      rw [dnat_other _ h3, hsp, he, List.append_nil, hlen, if_neg (by have := h.le; omega), ← h.num, L_drop, ← h.pos]
    · have hk : k = 15 := by
        rcases hs with hs | hs | hs
        · exact hs
        · exact absurd hs he
        · omega
      refine .inr ⟨?_, .inr ⟨h1, ?_⟩⟩
      · rw [dnat_other _ h3, hsp]
        have : 1 ≤ (Js.digs (L s q)).length := by
          cases hd : Js.digs (L s q) with
          | nil => exact absurd hd he
          | cons a b => simp
        rw [if_pos (by rw [List.length_append, hlen]; omega)]
      · by_cases hq : q < s.size
        · refine ⟨hq, ?_⟩
          rw [L_cons s q hq] at he
          unfold Js.digs at he
          rw [List.takeWhile_cons] at he
          by_cases hd : Js.isDg (s.get! q) = true
          · exact hd
          · rw [if_neg hd] at he
            exact absurd rfl he
        · rw [L_end s q (by omega)] at he
          exact absurd rfl he
theorem DN.digs_end {s : ByteArray} {q : Nat} (h : s.size ≤ q) : Js.digs (L s q) = [] := by rw [L_end s q h]; rfl
theorem DN.digs_no {s : ByteArray} {q : Nat} (hq : q < s.size) (h : Js.isDg (s.get! q) = false) : Js.digs (L s q) = [] := by
  rw [L_cons s q hq]
  unfold Js.digs
  rw [List.takeWhile_cons, h]
  rfl
end Go.Proofs.YtpeioecpilmpiaaGreatDoor

/-
  The document's value in memory; what a number leaves, plain.
-/
namespace Go.Proofs.YtpeioecpilmpiaaGreatDoor
open Go.RowKit
/-- The cells of the document's value. -/
def vc6 (k : Int) (f t : Js.B) (n : Int) (nv iv : Value) : Array Value := #[.int .i64 k, .string (bs f), .string (bs t), .int .i64 n, nv, iv]
def noS : Value := .slice none 0 0
def z6 : Array Value := vc6 0 [] [] 0 noS noS
/-- A block whose cells are these. -/
def Bk (w : World) (b : Nat) (c : Array Value) : Prop := w.heap[b]? = some (.cells c 28 (0, 0))
theorem Bk.lt {w : World} {b : Nat} {c : Array Value} (h : Bk w b c) : b < w.heap.size := (Array.getElem?_eq_some_iff.1 h).1
theorem Bk.keep {w w' : World} {b : Nat} {c : Array Value} (h : Bk w b c) (e : w'.heap[b]? = w.heap[b]?) : Bk w' b c := e.trans h
theorem Bk.new (w : World) (c : Array Value) : Bk (w.alloc (.cells c 28)) w.heap.size c := heap_alloc_new w _
theorem Bk.grown {w w' : World} {b r : Nat} {c : Array Value} (h : Bk w b c) (g : w.grownBy w' (some r)) (hr : b ≠ r) : Bk w' b c := h.keep (g.block b h.lt (fun e => hr (by injection e)))
theorem sz28 (k : Int) (f t : Js.B) (n : Int) (nv iv : Value) : (Tryz.prog.info? 28).map (·.size) = some (vc6 k f t n nv iv).size := by kernel_rfl
theorem vc6_one (k : Int) (f t : Js.B) (n : Int) (nv iv : Value) (h1 : nv.oneCell' = true) (h2 : iv.oneCell' = true) : (vc6 k f t n nv iv).all (·.oneCell') = true := by
  have e : ∀ v ∈ [Value.int .i64 k, .string (bs f), .string (bs t), .int .i64 n, nv, iv], v.oneCell' = true := by
    intro v hv
    simp only [List.mem_cons, List.not_mem_nil, or_false] at hv
    rcases hv with rfl | rfl | rfl | rfl | rfl | rfl
    · rfl
    · rfl
    · rfl
    · rfl
    · exact h1
    · exact h2
  exact all_oneCell_toArray e
theorem gal (w : World) (o : Obj) (r : Option Nat) : w.grownBy (w.alloc o) r := gbelow ((Below.refl _ _).alloc (Nat.le_refl _) _)
theorem Rq.alloc {r : Nat} {s : ByteArray} {p d e : Nat} {w : World} (h : Rq r s p d e w) (o : Obj) : Rq r s p d e (w.alloc o) := h.zero (gal w o none)

/-- What a number leaves. -/
def NumO (s : ByteArray) (p q e : Nat) (n : Int) (f : Js.B) : Prop :=
  q ≤ s.size ∧ f.length ≤ 30 ∧ n.natAbs < 1000000000000000 ∧ ((e = 0 ∧ Js.nu (L s p) = some (n, L s q) ∧ f = Js.dec n) ∨ (Js.nu (L s p) = none ∧ (e = 3 ∨ (e = 0 ∧ q < s.size ∧ Js.isDg (s.get! q) = true))))
theorem nu_minus (s : ByteArray) (p : Nat) (h : iz s p 0 45 = true) : Js.nu (L s p) = (Js.nat (L s (p + 1))).map fun x => (-(x.1 : Int), x.2) := by
  rw [(iz_true h).2.2]
  rfl
theorem nu_plain (s : ByteArray) (p : Nat) (h : iz s p 0 45 = false) : Js.nu (L s p) = (Js.nat (L s p)).map fun x => ((x.1 : Int), x.2) := by
  have := iz_false h
  unfold Js.nu
  split
  · rename_i t e
    exact absurd e (this t)
  · rfl
theorem dec_le (n : Int) (h : n.natAbs < 1000000000000000) : (Js.dec n).length ≤ 30 := by
  have := Lib.itoa_length_le n (by omega) (by omega)
  unfold Js.dec
  omega
theorem numo_minus {s : ByteArray} {p q k n : Nat} (hz : iz s p 0 45 = true) (h : DN s (p + 1) q k n) (hn : NE s (p + 1) q k n) : NumO s p q (if k = 0 then 3 else 0) (-(n : Int)) (Js.dec (-(n : Int))) := by
  have hb := h.bd
  refine ⟨h.fit, dec_le _ (by omega), by omega, ?_⟩
  rw [nu_minus s p hz]
  rcases hn with ⟨h1, h2⟩ | ⟨h1, h2 | ⟨h2, h3, h4⟩⟩
  · rw [if_neg (by omega), h2]
    exact .inl ⟨rfl, rfl, rfl⟩
  · rw [if_pos h2, h1]
    exact .inr ⟨rfl, .inl rfl⟩
  · rw [if_neg (by omega), h1]
    exact .inr ⟨rfl, .inr ⟨rfl, h3, h4⟩⟩
theorem numo_plain {s : ByteArray} {p q k n : Nat} (hz : iz s p 0 45 = false) (h : DN s (p) q k n) (hn : NE s (p) q k n) : NumO s p q (if k = 0 then 3 else 0) ((n : Int)) (Js.dec ((n : Int))) := by
  have hb := h.bd
  refine ⟨h.fit, dec_le _ (by omega), by omega, ?_⟩
  rw [nu_plain s p hz]
  rcases hn with ⟨h1, h2⟩ | ⟨h1, h2 | ⟨h2, h3, h4⟩⟩
  · rw [if_neg (by omega), h2]
    exact .inl ⟨rfl, rfl, rfl⟩
  · rw [if_pos h2, h1]
    exact .inr ⟨rfl, .inl rfl⟩
  · rw [if_neg (by omega), h1]
    exact .inr ⟨rfl, .inr ⟨rfl, h3, h4⟩⟩
theorem grown_row {w u : World} {r : Option Nat} (h : w.grownBy u r) (b : Nat) (c : Array Value) (hb : w.heap.size ≤ b) : w.grownBy (u.setRow b c) r :=
  ⟨h.os, h.tape, h.output, by rw [size_setRow]; exact h.size, fun k hk hne => (setRow_other u b k c (by omega)).trans (h.block k hk hne)⟩

end Go.Proofs.YtpeioecpilmpiaaGreatDoor

/-
  The document's reader: where a name stands.
-/
namespace Go.Proofs.YtpeioecpilmpiaaGreatDoor
open Go.RowKit
def strV (l : List Js.B) : List Value := l.map fun b => Value.string (bs b)
theorem strV_app (a b : List Js.B) : strV (a ++ b) = strV a ++ strV b := by simp [strV]
theorem strV_len (l : List Js.B) : (strV l).length = l.length := by simp [strV]
/-- Texts of the document's own, in a slice. -/
def Sl (B : Nat) (w : World) (v : Value) (l : List Js.B) : Prop := w.ownsRow B 9 1 v l.length (strV l)
theorem Sl.form {B : Nat} {w : World} {v : Value} {l : List Js.B} (h : Sl B w v l) : ∃ a c, v = .slice a l.length c ∧ ∀ j (hj : j < l.length), ∃ g, a = some ⟨g, 0, none⟩ ∧ g < w.heap.size ∧ w.cell? ⟨g, j, none⟩ = some (.string (bs l[j])) := by
  rcases h.2 with ⟨rfl, h0⟩ | ⟨g, cap, cur, rfl, hg, hh, _⟩
  · exact ⟨none, 0, by rw [h0], fun j hj => absurd hj (by omega)⟩
  · refine ⟨_, cap, rfl, fun j hj => ⟨g, rfl, (Array.getElem?_eq_some_iff.1 hh).1, ?_⟩⟩
    have := World.ownsRow.cellAt h j (by omega)
    rw [this]
    simp [strV, List.getElem?_eq_getElem hj]

theorem bs_toList (l : Js.B) : (bs l).toList = l := by
  rw [ByteArray.toList_eq, bs_list]
theorem get_bang (l : List Js.B) (k : Nat) (h : k < l.length) : l[k]! = l[k] := getElem!_pos l k h

set_option maxHeartbeats 800000 in
theorem dplace_any (B : Nat) (v : Value) (l : List Js.B) (n : Js.B) (w : World) (h : Sl B w v l) (hr : Js.Rise l) (hl : l.length ≤ 1000) :
    Calls Tryz.prog 74 #[v, .string (bs n)] w fun en w' => en = .returned (.tuple #[.int .i64 (Js.place l n : Nat), .bool (decide (n ∈ l))]) ∧ Below w.heap.size w w' := by
  obtain ⟨a, c, rfl, hc⟩ := h.form
  have HR := asd hr
  clear h hr
  generalize hP : Js.place l n = PN
  generalize hM : decide (n ∈ l) = MM
  have HP := asd hP
  have HQ := asd hM
  clear hP hM
  go_enter Tryz.func74, Tryz.ntmps74
  go_wp2
  go_loopg [6] l.length (fun gh s6 wr => ∃ k : Nat, l.length - k ≤ gh ∧ k ≤ l.length ∧ s6 = .int .i64 (k : Int) ∧ Aside (∀ t, t < k → Js.cb l[t]! n < 0) ∧ wr = w)
  case atStart => exact ⟨0, by omega, by omega, rfl, fun t ht => by omega, rfl⟩
  case round =>
    obtain ⟨k, hgh, hk, rfl, HM, rfl⟩ := hrel
    by_cases hp : k < l.length
    · have dk : decide (k < l.length) = true := by simpa using hp
      obtain ⟨g, rfl, hg, hcell⟩ := hc k hp
      have el := get_bang l k hp
      have bl : Op.bytesLess (bs l[k]).toList (bs n).toList = decide (Js.cb l[k] n < 0) := by rw [bs_toList, bs_toList, Js.less_cb]
      by_cases hx : Js.cb l[k] n < 0
      · have HN : Aside (∀ t, t < k + 1 → Js.cb l[t]! n < 0) := fun t ht => by
          by_cases e : t = k
          · rw [e, el]; exact hx
          · exact HM.out t (by omega)
        rw [decide_eq_true hx] at bl
        clear HM hc el hx
        generalize bs l[k] = X at *
        generalize bs n = N at *
        go_wp2
        go_roundg (l.length - (k + 1))
        case measure => omega
        case rel => exact ⟨k + 1, Nat.le_refl _, hp, by go_num, HN, rfl⟩
      · rw [decide_eq_false hx] at bl
        have PL : Aside (Js.place l n = k) := place_boundary hk HM.out (fun t h1 h2 => by
          rcases Int.lt_or_le (Js.cb l[t]! n) 0 |>.symm with h3 | h3
          · exact h3
          · exfalso
            have := HR.out.mono n k t h1 h2 h3
            rw [el] at this
            exact hx this)
        have ME : Aside (decide (n ∈ l) = decide (l[k] = n)) := by
          show _ = _
          rw [Bool.eq_iff_iff, decide_eq_true_eq, decide_eq_true_eq, Js.place_mem HR.out n, PL.out, el]
          exact ⟨fun h => h.2, fun h => ⟨hp, h⟩⟩
        have be : ((bs l[k]).toList == (bs n).toList) = decide (l[k] = n) := by
          rw [bs_toList, bs_toList, Bool.eq_iff_iff, beq_iff_eq, decide_eq_true_eq]
        clear HM hc el hx
        obtain rfl : PN = k := HP.out.symm.trans PL.out
        obtain rfl : MM = decide (l[PN] = n) := HQ.out.symm.trans ME.out
        clear PL ME HP HQ
        generalize bs l[PN] = X at *
        generalize bs n = N at *
        go_wp2
        go_quiet (fail)
        go_wp2
        go_ret2
        exact ⟨rfl, Go.below_drewN (Below.refl _ _) _⟩
    · obtain rfl : k = l.length := by omega
      have dk : decide (l.length < l.length) = false := by simp
      have PL : Aside (Js.place l n = l.length) := place_boundary hk HM.out (fun t h1 h2 => by omega)
      have ME : Aside (decide (n ∈ l) = false) := by
        show _ = _
        rw [decide_eq_false_iff_not, Js.place_mem HR.out n, PL.out]
        omega
      clear HM hc
      obtain rfl : PN = l.length := HP.out.symm.trans PL.out
      obtain rfl : MM = false := HQ.out.symm.trans ME.out
      clear PL ME HP HQ
      go_wp2
      go_ret2
      exact ⟨rfl, Below.refl _ _⟩
end Go.Proofs.YtpeioecpilmpiaaGreatDoor

/-
  Parts of a list of texts; append.
-/
namespace Go.Proofs.YtpeioecpilmpiaaGreatDoor
open Go.RowKit
theorem dinfo9 : (Tryz.prog.info? 9).map (fun i => (i.zero, i.size, i.bytes)) = some (some (.string ⟨#[]⟩), 1, 16) := by kernel_rfl
/-- Texts that are read, in a slice. -/
def Sr (w : World) (x : Value) (l : List Js.B) : Prop :=
  (x = .slice none 0 0 ∧ l = []) ∨ ∃ g o c, x = .slice (some ⟨g, o, none⟩) l.length c ∧ g < w.heap.size ∧ ∀ j (_ : j < l.length), w.cell? ⟨g, o + j, none⟩ = some (.string (bs (l.getD j [])))
theorem Sr.later {w u : World} {x : Value} {l : List Js.B} {N : Nat} (h : Sr w x l) (hN : w.heap.size = N) (hb : Below N w u) : Sr u x l := by
  subst hN
  rcases h with h | ⟨g, o, c, h1, h2, h3⟩
  · exact .inl h
  · exact .inr ⟨g, o, c, h1, Nat.lt_of_lt_of_le h2 hb.size, fun j hj => by rw [hb.cell (by exact h2)]; exact h3 j hj⟩

theorem Sl.cuts {B : Nat} {w : World} {v : Value} {l : List Js.B} (h : Sl B w v l) (k : Nat) (hk : k ≤ l.length) :
    ∃ x1 x2, (∀ u : World, (Instr.slice 26 v none (some (.int .i64 (k : Int))) none).run Tryz.prog u = .ok x1 u) ∧ (∀ u : World, (Instr.slice 26 v (some (.int .i64 (k : Int))) none none).run Tryz.prog u = .ok x2 u) ∧ Sr w x1 (l.take k) ∧ Sr w x2 (l.drop k) := by
  have hz : ∀ u : World, (sizeOf (Tryz.prog.elem 26)).run Tryz.prog u = .ok 1 u := fun u => by kernel_rfl
  rcases h.2 with ⟨rfl, h0⟩ | ⟨g, cap, cur, rfl, hg, hh, hnc, _⟩
  · have hl : l = [] := List.eq_nil_of_length_eq_zero h0
    subst hl
    have hk0 : k = 0 := by simpa using hk
    subst hk0
    refine ⟨.slice none 0 0, .slice none 0 0, fun u => ?_, fun u => ?_, .inl ⟨rfl, rfl⟩, .inl ⟨rfl, rfl⟩⟩
    · rw [run_slice_h u 26 none 0 0 (by kernel_rfl) .i64 _ (by omega) (by simp), hz u]
      simp [Result.andThen, sliced]
    · rw [run_slice_l u 26 none 0 0 (by kernel_rfl) .i64 _ (by omega) (by simp), hz u]
      simp [Result.andThen, sliced]
  · have hcell : ∀ j (hj : j < l.length), w.cell? ⟨g, j, none⟩ = some (.string (bs (l.getD j []))) := fun j hj => by
      have := World.ownsRow.cellAt h j (by omega)
      rw [this]
      simp [strV, List.getD, List.getElem?_eq_getElem hj]
    have hgl : g < w.heap.size := (Array.getElem?_eq_some_iff.1 hh).1
    have l1 : (l.take k).length = k := by rw [List.length_take]; omega
    have l2 : (l.drop k).length = l.length - k := List.length_drop
    refine ⟨.slice (some ⟨g, 0, none⟩) k cap, .slice (if cap = k then some ⟨g, 0, none⟩ else some ⟨g, k, none⟩) (l.length - k) (cap - k), fun u => ?_, fun u => ?_, .inr ⟨g, 0, cap, by rw [l1], hgl, fun j hj => ?_⟩, ?_⟩
    · rw [run_slice_h u 26 _ l.length cap (by kernel_rfl) .i64 _ (by omega) (by omega), hz u]
      simp [Result.andThen, sliced, Go.WideShapes.add_plain]
    · rw [run_slice_l u 26 _ l.length cap (by kernel_rfl) .i64 _ (by omega) (by omega), hz u]
      simp [Result.andThen, sliced, Go.WideShapes.add_plain]
    · rw [l1] at hj
      rw [Nat.zero_add, hcell j (by omega)]
      congr 3
      rw [List.getD_eq_getElem?_getD, List.getD_eq_getElem?_getD, List.getElem?_take, if_pos hj]
    · by_cases hc : cap = k
      · refine .inr ⟨g, 0, cap - k, by rw [if_pos hc, l2], hgl, fun j hj => ?_⟩
        rw [l2] at hj
        omega
      · refine .inr ⟨g, k, cap - k, by rw [if_neg hc, l2], hgl, fun j hj => ?_⟩
        rw [l2] at hj
        rw [hcell (k + j) (by omega)]
        congr 3
        rw [List.getD_eq_getElem?_getD, List.getD_eq_getElem?_getD, List.getElem?_drop]

theorem append_src (base : Nat) (w : World) (v : Value) (l1 : List Js.B) (hown : Sl base w v l1) (x : Value) (l : List Js.B) (hx : Sr w x l) (hb : base ≤ w.heap.size) (hl : l1.length + l.length ≤ 100000) (ty : TypeId) :
    ∃ v' w', (Builtin.append_ #[26, 26] ty #[v, x]).run Tryz.prog w = .ok v' w' ∧ Sl base w' v' (l1 ++ l) ∧ w.grownBy w' v.ownBlock ∧ (v'.ownBlock = v.ownBlock ∨ v'.ownBlock = some w.heap.size) := by
  obtain ⟨i0, hi, hz0, hz1, hz2⟩ := info_parts dinfo9
  rcases hx with ⟨rfl, rfl⟩ | ⟨g, o, c, rfl, hg, hc⟩
  · refine ⟨v, w, run_append_owned_none (P := Tryz.prog) (w := w) base 26 ty 9 i0 1 Tryz.underlying26 hi v _ _ hown, ?_, grefl _ _, .inl rfl⟩
    rw [List.append_nil]
    exact hown
  · obtain ⟨v', w', h1, h2, h3, _, h5⟩ := run_append_own_at (P := Tryz.prog) (w := w) base 26 ty 9 i0 (.string ⟨#[]⟩) 1 16 Tryz.underlying26 hi hz0 hz1 hz2 rfl (by decide) v _ _ hown ⟨g, o, none⟩ l.length c (strV l) (by rw [strV_len]; omega) (fun j u hj => by
        rw [Go.WideShapes.add_plain]
        have hj' : j < l.length := by
          have := (List.getElem?_eq_some_iff.1 hj).1
          rwa [strV_len] at this
        rw [hc j hj']
        simp only [strV, List.getElem?_map, List.getElem?_eq_getElem hj', Option.map_some] at hj
        rw [← hj, List.getD_eq_getElem?_getD, List.getElem?_eq_getElem hj']
        rfl) (fun u hu => by
        simp only [strV, List.mem_map] at hu
        obtain ⟨a, _, rfl⟩ := hu
        rfl) (by unfold maxLen; omega) (by omega) hb
    refine ⟨v', w', h1, ?_, h3, h5⟩
    unfold Sl
    rw [List.length_append, strV_app]
    exact h2
end Go.Proofs.YtpeioecpilmpiaaGreatDoor

/-
  The document's reader: put.
-/
namespace Go.Proofs.YtpeioecpilmpiaaGreatDoor
open Go.RowKit
theorem Sl.below {B : Nat} {w w' : World} {v : Value} {l : List Js.B} (h : Sl B w v l) (hb : Below w.heap.size w w') : Sl B w' v l := own_frame h fun k hk => hb.block k (own_place h hk).2
theorem sl_lit (w : World) : Sl w.heap.size (w.alloc (.cells #[] 9)) (.slice (some ⟨w.heap.size, 0, none⟩) 0 0) [] := by
  have := World.ownsRow_lit (base := w.heap.size) (e := 9) (size := 1) w #[] 0 (Nat.le_refl _) (by unfold maxLen; omega) rfl
  exact this
theorem own_block_lt {B : Nat} {w : World} {v : Value} {l : List Js.B} (h : Sl B w v l) : ∀ k, v.ownBlock = some k → B ≤ k ∧ k < w.heap.size := fun _ hk => own_place h hk

theorem wpList_append_run {P : Program} {w : World} {ops : Array Oper} {rest : List Oper} {o : Oper} {a : Act} {Q : Exit → Act → World → Prop} (hgd : o.guard = none) (s x : Operand) (t : TypeId)
    (ho : o.op = .call { callee := .builtin .append, args := #[s, x], argTypes := #[t, t] }) (v1 v2 : Value) (hs : a.eval s = v1) (hx : a.eval x = v2) (v' : Value) (w' : World)
    (hr : (Builtin.append_ #[t, t] o.type #[v1, v2]).run P w = .ok v' w') (h : wpList P ops Q rest (a.put o.dst v') w') : wpList P ops Q (o :: rest) a w := by
  refine wpList_plain hgd fun K hK => ?_
  unfold Oper.wp execOp
  simp only [ho, resolve, invoke, builtin, Sem.run_bind, Sem.run_pure, Result.andThen_ok, List.map_toArray, List.map_cons, List.map_nil, hs, hx, hr]
  exact hK _ _ h

set_option maxHeartbeats 800000 in
set_option maxRecDepth 100000 in
theorem dput_any (B : Nat) (v : Value) (l : List Js.B) (k : Nat) (s : Js.B) (w : World) (h : Sl B w v l) (hk : k ≤ l.length) (hl : l.length ≤ 1000) :
    Calls Tryz.prog 75 #[v, .int .i64 (k : Int), .string (bs s)] w fun en w' => ∃ v', en = .returned v' ∧ Sl w.heap.size w' v' (l.take k ++ s :: l.drop k) ∧ Below w.heap.size w w' := by
  obtain ⟨x1, x2, r1, r2, s1, s2⟩ := h.cuts k hk
  have l1 : (l.take k).length = k := by rw [List.length_take]; omega
  have l2 : (l.drop k).length = l.length - k := List.length_drop
  have o1 := sl_lit w
  have b1 : Below w.heap.size w (w.alloc (.cells #[] 9)) := (Below.refl _ _).alloc (Nat.le_refl _) _
  have z1 : (w.alloc (.cells #[] 9)).heap.size = w.heap.size + 1 := by simp
  generalize hw1 : w.alloc (.cells #[] 9) = w1 at *
  obtain ⟨v2, w2, a2, o2, g2, p2⟩ := append_src w.heap.size w1 _ [] o1 x1 (l.take k) (s1.later rfl b1) (by omega) (by simp; omega) 26
  rw [List.nil_append] at o2
  have b2 : Below w.heap.size w w2 := b1.grown g2 (by omega) (fun j hj => (own_block_lt o1 j hj).1)
  have z2 := g2.size
  have c3 : Sr (w2.alloc (.cells #[.string (bs s)] 9)) (.slice (some ⟨w2.heap.size, 0, none⟩) 1 1) [s] := .inr ⟨w2.heap.size, 0, 1, rfl, by simp, fun j hj => by
    have : j = 0 := by simpa using hj
    subst this
    simp⟩
  have o3 : Sl w.heap.size (w2.alloc (.cells #[.string (bs s)] 9)) v2 (l.take k) := o2.below ((Below.refl _ _).alloc (Nat.le_refl _) _)
  have b3 : Below w.heap.size w (w2.alloc (.cells #[.string (bs s)] 9)) := b2.alloc b2.size _
  have z3 : (w2.alloc (.cells #[.string (bs s)] 9)).heap.size = w2.heap.size + 1 := by simp
  obtain ⟨v4, w4, a4, o4, g4, p4⟩ := append_src w.heap.size _ _ _ o3 _ _ c3 (by omega) (by simp; omega) 26
  have b4 : Below w.heap.size w w4 := b3.grown g4 (by omega) (fun j hj => (own_block_lt o3 j hj).1)
  obtain ⟨v5, w5, a5, o5, g5, p5⟩ := append_src w.heap.size w4 _ _ o4 x2 (l.drop k) (s2.later rfl b4) b4.size (by simp; omega) 26
  have b5 : Below w.heap.size w w5 := b4.grown g5 b4.size (fun j hj => (own_block_lt o4 j hj).1)
  have OO := asd (And.intro o5 b5)
  subst hw1
  clear s1 s2 o1 b1 o2 g2 p2 b2 c3 o3 b3 o4 g4 p4 b4 o5 g5 p5 b5 h z1 z2 z3 l1 l2
  have A2 := asd a2
  have A4 := asd a4
  have A5 := asd a5
  clear a2 a4 a5
  go_enter Tryz.func75, Tryz.ntmps75
  go_wp2_with (at_builtin; first
    | (refine wpList_append_run rfl (.tmp 8) (.tmp 11) 26 rfl _ _ rfl rfl _ _ A2.out ?_)
    | (refine wpList_append_run rfl (.tmp 13) (.tmp 15) 26 rfl _ _ rfl rfl _ _ A4.out ?_)
    | (refine wpList_append_run rfl (.tmp 17) (.tmp 20) 26 rfl _ _ rfl rfl _ _ A5.out ?_))
  go_ret
  refine ⟨_, rfl, ?_, OO.out.2⟩
  have := OO.out.1
  simpa using this
end Go.Proofs.YtpeioecpilmpiaaGreatDoor
