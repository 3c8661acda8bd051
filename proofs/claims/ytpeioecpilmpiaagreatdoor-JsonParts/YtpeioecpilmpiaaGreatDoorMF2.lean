/-
  YtpeioecpilmpiaaGreatDoor: the texts J1, one behind the other.
-/
import Derived.Test.YtpeioecpilmpiaaGreatDoorMF1
import Derived.WalkKit
import Derived.WalkSpells
import Derived.WalkLawsBesides
import Derived.Deep.LoopGhost
import Derived.Laws.Externs
import Derived.Below
import Derived.BigQuiet
import Derived.Deep.RegionWith
import Derived.OwnWalk
import Derived.Maps.AppendAt
/-
  The reader of the program: its block; next, met, fail, must, shut, more.
-/
namespace Go.Proofs.YtpeioecpilmpiaaGreatDoor
open Go.RowKit

/-- The reader in block r: its text, where it is, how many are open, its fault. -/
def Rd (r : Nat) (s : ByteArray) (p d e : Nat) (w : World) : Prop := w.heap[r]? = some (.cells #[.string s, .int .i64 (p : Int), .int .i64 (d : Int), .int .i64 (e : Int)] 74 (0, 0))

theorem cell_of_row (w : World) (b j : Nat) (cs : Array Value) (t : TypeId) (m : Nat × Nat) (h : w.heap[b]? = some (.cells cs t m)) : w.cell? ⟨b, j, none⟩ = cs[j]? := by simp [World.cell?, h]
theorem frozen_of_row (w : World) (b j : Nat) (cs : Array Value) (t : TypeId) (h : w.heap[b]? = some (.cells cs t (0, 0))) : w.frozen? ⟨b, j, none⟩ = false := by simp [World.frozen?, h]

theorem Rd.c0 {r : Nat} {s : ByteArray} {p d e : Nat} {w : World} (h : Rd r s p d e w) : w.cell? ⟨r, 0, none⟩ = some (.string s) := by rw [cell_of_row w r 0 _ _ _ h]; rfl
theorem Rd.c1 {r : Nat} {s : ByteArray} {p d e : Nat} {w : World} (h : Rd r s p d e w) : w.cell? ⟨r, 1, none⟩ = some (.int .i64 (p : Int)) := by rw [cell_of_row w r 1 _ _ _ h]; rfl
theorem Rd.c2 {r : Nat} {s : ByteArray} {p d e : Nat} {w : World} (h : Rd r s p d e w) : w.cell? ⟨r, 2, none⟩ = some (.int .i64 (d : Int)) := by rw [cell_of_row w r 2 _ _ _ h]; rfl
theorem Rd.c3 {r : Nat} {s : ByteArray} {p d e : Nat} {w : World} (h : Rd r s p d e w) : w.cell? ⟨r, 3, none⟩ = some (.int .i64 (e : Int)) := by rw [cell_of_row w r 3 _ _ _ h]; rfl
theorem Rd.fz {r : Nat} {s : ByteArray} {p d e : Nat} {w : World} (h : Rd r s p d e w) (j : Nat) : w.frozen? ⟨r, j, none⟩ = false := frozen_of_row w r j _ _ h
theorem Rd.lt {r : Nat} {s : ByteArray} {p d e : Nat} {w : World} (h : Rd r s p d e w) : r < w.heap.size := (Array.getElem?_eq_some_iff.1 h).1

theorem set_same {w : World} {b k : Nat} {cs : Array Value} {t : TypeId} {m : Nat × Nat} {v : Value} (h : w.heap[b]? = some (.cells cs t m)) : (w.setCell ⟨b, k, none⟩ v).heap[b]? = some (.cells (cs.setIfInBounds k v) t m) := by
  have hlt : b < w.heap.size := (Array.getElem?_eq_some_iff.1 h).1
  have hv : w.heap[b]'hlt = .cells cs t m := (Array.getElem?_eq_some_iff.1 h).2
  simp [World.setCell, Array.getElem?_modify, h]

theorem Rd.set1 {r : Nat} {s : ByteArray} {p d e : Nat} {w : World} (h : Rd r s p d e w) (q : Nat) : Rd r s q d e (w.setCell ⟨r, 1, none⟩ (.int .i64 (q : Int))) := by unfold Rd; rw [set_same h]; rfl
theorem Rd.set2 {r : Nat} {s : ByteArray} {p d e : Nat} {w : World} (h : Rd r s p d e w) (q : Nat) : Rd r s p q e (w.setCell ⟨r, 2, none⟩ (.int .i64 (q : Int))) := by unfold Rd; rw [set_same h]; rfl
theorem Rd.set3 {r : Nat} {s : ByteArray} {p d e : Nat} {w : World} (h : Rd r s p d e w) (q : Nat) : Rd r s p d q (w.setCell ⟨r, 3, none⟩ (.int .i64 (q : Int))) := by unfold Rd; rw [set_same h]; rfl

theorem grown_set (w : World) (b j : Nat) (v : Value) : w.grownBy (w.setCell ⟨b, j, none⟩ v) (some b) :=
  ⟨rfl, rfl, rfl, by simp, fun k _ hne => Below.heap_setCell w ⟨b, j, none⟩ v k (fun e => hne (by rw [e]))⟩
theorem gtrans {a b c : World} {r : Option Nat} (h : a.grownBy b r) (k : b.grownBy c r) : a.grownBy c r :=
  ⟨k.os.trans h.os, k.tape.trans h.tape, k.output.trans h.output, Nat.le_trans h.size k.size, fun i hi hne => (k.block i (Nat.lt_of_lt_of_le hi h.size) hne).trans (h.block i hi hne)⟩
theorem gbelow {a b : World} {r : Option Nat} (h : Below a.heap.size a b) : a.grownBy b r := ⟨h.os, h.tape, h.output, h.size, fun i hi _ => h.block i hi⟩
theorem grefl (w : World) (r : Option Nat) : w.grownBy w r := ⟨rfl, rfl, rfl, Nat.le_refl _, fun _ _ _ => rfl⟩

theorem Rd.keep {r : Nat} {s : ByteArray} {p d e : Nat} {w w' : World} (h : Rd r s p d e w) (hb : w'.heap[r]? = w.heap[r]?) : Rd r s p d e w' := hb.trans h
theorem Rd.below {r B : Nat} {s : ByteArray} {p d e : Nat} {w w' : World} (h : Rd r s p d e w) (hr : r < B) (hb : Below B w w') : Rd r s p d e w' := (hb.block r hr).trans h

theorem asd {p : Prop} (h : p) : Aside p := h

/-- What is left of a text. -/
def L (s : ByteArray) (p : Nat) : List UInt8 := s.data.toList.drop p
theorem L_len (s : ByteArray) (p : Nat) : (L s p).length = s.size - p := by unfold L; rw [List.length_drop]; rfl
theorem L_end (s : ByteArray) (p : Nat) (h : s.size ≤ p) : L s p = [] := by
  unfold L; exact List.drop_of_length_le h
theorem L_cons (s : ByteArray) (p : Nat) (h : p < s.size) : L s p = s.get! p :: L s (p + 1) := by
  unfold L
  have h2 : p < s.data.toList.length := h
  rw [List.drop_eq_getElem_cons h2]
  congr 1
  simp [ByteArray.get!, h]
theorem L_drop (s : ByteArray) (p k : Nat) : (L s p).drop k = L s (p + k) := by unfold L; rw [List.drop_drop]

theorem get_at (s : ByteArray) (p : Nat) (h : p < s.size) : s.get! p = s[p] := by
  simp [ByteArray.get!, h]
  rfl

/-- What next answers. -/
def nx (s : ByteArray) (p e : Nat) : Nat := if e ≠ 0 ∨ p = s.size then 0 else (s.get! p).toNat
theorem nx_bad (s : ByteArray) (p e : Nat) (h : e ≠ 0) : nx s p e = 0 := by simp [nx, h]
theorem nx_end (s : ByteArray) (p : Nat) (h : p = s.size) (e : Nat) : nx s p e = 0 := by simp [nx, h]
theorem nx_at (s : ByteArray) (p : Nat) (h : p < s.size) : nx s p 0 = (s.get! p).toNat := by
  have : ¬ (p = s.size) := by omega
  simp [nx, this]
theorem nx_lt (s : ByteArray) (p e : Nat) : nx s p e < 256 := by unfold nx; split; · omega
                                                                 exact (s.get! p).toNat_lt

set_option maxHeartbeats 1000000 in
set_option maxRecDepth 100000 in
theorem next_any (r : Nat) (s : ByteArray) (p d e : Nat) (w : World) (h' : Rd r s p d e w) (hp : p ≤ s.size) (_hs : s.size ≤ 1000) :
    Calls Tryz.prog 66 #[.pointer (some ⟨r, 0, none⟩)] w fun en w' => en = .returned (.int .u8 (nx s p e : Int)) ∧ Rd r s p d e w' ∧ w.grownBy w' (some r) := by
  have h := asd h'
  have c0 := h'.c0
  have c1 := h'.c1
  have c3 := h'.c3
  clear h'
  by_cases he : e = 0
  · subst he
    have d1 : decide ((0 : Int) = 0) = true := rfl
    by_cases hq : p = s.size
    · subst hq
      rw [nx_end s _ rfl]
      have d2 : decide ((s.size : Int) = s.size) = true := by simp
      go_enter Tryz.func66, Tryz.ntmps66
      go_wp2
      go_quiet (fail)
      go_wp2
      go_ret
      exact ⟨rfl, h.out.keep rfl, ⟨rfl, rfl, rfl, Nat.le_refl _, fun _ _ _ => rfl⟩⟩
    · have hlt : p < s.size := by omega
      rw [nx_at s p hlt, get_at s p hlt]
      have d2 : decide ((p : Int) = s.size) = false := by simp; omega
      have d3 : ¬ ((p : Int) = s.size) := by omega
      go_enter Tryz.func66, Tryz.ntmps66
      go_wp2
      go_quiet (fail)
      go_wp2
      go_quiet (fail)
      go_wp2
      go_ret
      exact ⟨rfl, h.out.keep rfl, ⟨rfl, rfl, rfl, Nat.le_refl _, fun _ _ _ => rfl⟩⟩
  · rw [nx_bad s p e he]
    have d1 : ¬ ((e : Int) = 0) := by omega
    have d2 : decide ((e : Int) = 0) = false := by simp; omega
    have d4 : ((e : Int) != 0) = true := by simp; omega
    go_enter Tryz.func66, Tryz.ntmps66
    go_wp2
    go_quiet (fail)
    go_wp2
    go_ret
    exact ⟨rfl, h.out.keep rfl, ⟨rfl, rfl, rfl, Nat.le_refl _, fun _ _ _ => rfl⟩⟩

/-- What met answers. -/
def ht (s : ByteArray) (p e : Nat) (b : Nat) : Bool := nx s p e == b

set_option maxHeartbeats 1000000 in
set_option maxRecDepth 100000 in
theorem met_any (r : Nat) (s : ByteArray) (p d e b : Nat) (w : World) (h' : Rd r s p d e w) (hp : p ≤ s.size) (hs : s.size ≤ 1000) :
    Calls Tryz.prog 65 #[.pointer (some ⟨r, 0, none⟩), .int .u8 (b : Int)] w fun en w' => en = .returned (.bool (ht s p e b)) ∧ Rd r s (if ht s p e b then p + 1 else p) d e w' ∧ w.grownBy w' (some r) := by
  have K := asd (next_any r s p d e w h' hp hs)
  clear h'
  unfold ht
  generalize nx s p e = x at *
  by_cases hx : x = b
  · subst hx
    have e1 : (x == x) = true := by simp
    have e2 : ((x : Int) != x) = false := by simp
    simp only [e1]
    go_enter Tryz.func65, Tryz.ntmps65
    go_wp2_with (go_at_call 66; refine K.out.mono ?_; rintro en w1 ⟨rfl, h1, g1⟩; have c1 := h1.c1; have f1 := h1.fz 1; have H := asd (And.intro h1 g1); clear h1 g1)
    go_ret
    refine ⟨rfl, ?_, gtrans H.out.2 (grown_set _ _ _ _)⟩
    exact H.out.1.set1 (p + 1)
  · have e1 : (x == b) = false := by simpa using hx
    have e2 : ((x : Int) != b) = true := by simp; omega
    have e3 : ¬ ((x : Int) = b) := by omega
    simp only [e1]
    go_enter Tryz.func65, Tryz.ntmps65
    go_wp2_with (go_at_call 66; refine K.out.mono ?_; rintro en w1 ⟨rfl, h1, g1⟩; have H := asd (And.intro h1 g1); clear h1 g1)
    go_ret
    exact ⟨rfl, H.out.1, H.out.2⟩

/-- The fault that counts. -/
def fl (e f : Nat) : Nat := if e = 0 then f else e

set_option maxHeartbeats 1000000 in
theorem fail_any (r : Nat) (s : ByteArray) (p d e f : Nat) (w : World) (h' : Rd r s p d e w) :
    Calls Tryz.prog 31 #[.pointer (some ⟨r, 0, none⟩), .int .i64 (f : Int)] w fun en w' => en = .returned (.tuple #[]) ∧ Rd r s p d (fl e f) w' ∧ w.grownBy w' (some r) := by
  have h := asd (h')
  have hs := asd (h'.set3 f)
  have c3 := h'.c3
  have f3 := h'.fz 3
  clear h'
  unfold fl
  by_cases he : e = 0
  · subst he
    go_enter Tryz.func31, Tryz.ntmps31
    go_wp2
    go_end0
    exact ⟨rfl, hs.out, grown_set _ _ _ _⟩
  · have e1 : ¬ ((e : Int) = 0) := by omega
    have e2 : ((e : Int) == 0) = false := by simp; omega
    rw [if_neg he]
    go_enter Tryz.func31, Tryz.ntmps31
    go_wp2
    go_end0
    exact ⟨rfl, h.out, grefl _ _⟩

set_option maxHeartbeats 1000000 in
theorem must_any (r : Nat) (s : ByteArray) (p d e b : Nat) (w : World) (h : Rd r s p d e w) (hp : p ≤ s.size) (hs : s.size ≤ 1000) :
    Calls Tryz.prog 85 #[.pointer (some ⟨r, 0, none⟩), .int .u8 (b : Int)] w fun en w' => en = .returned (.tuple #[]) ∧ Rd r s (if ht s p e b then p + 1 else p) d (if ht s p e b then e else fl e 3) w' ∧ w.grownBy w' (some r) := by
  have K := asd (met_any r s p d e b w h hp hs)
  clear h
  generalize ht s p e b = x at *
  cases x with
  | true =>
    go_enter Tryz.func85, Tryz.ntmps85
    go_wp2_with (go_at_call 65; refine K.out.mono ?_; rintro en w1 ⟨rfl, h1, g1⟩; have H := asd (And.intro h1 g1); clear h1 g1)
    go_end0
    exact ⟨rfl, H.out.1, H.out.2⟩
  | false =>
    go_enter Tryz.func85, Tryz.ntmps85
    go_wp2_with (first
      | (go_at_call 65; refine K.out.mono ?_; rintro en w1 ⟨rfl, h1, g1⟩; have K2 := asd (fail_any r s _ d e 3 w1 h1); have H := asd (g1); clear h1 g1)
      | (go_at_call 31; refine K2.out.mono ?_; rintro en w2 ⟨rfl, h2, g2⟩; have H2 := asd (And.intro h2 g2); clear h2 g2))
    go_end0
    exact ⟨rfl, H2.out.1, gtrans H.out H2.out.2⟩

set_option maxHeartbeats 1000000 in
theorem shut_any (r : Nat) (s : ByteArray) (p d e b : Nat) (w : World) (h : Rd r s p (d + 1) e w) (hp : p ≤ s.size) (hs : s.size ≤ 1000) (hd : d ≤ 1000) :
    Calls Tryz.prog 90 #[.pointer (some ⟨r, 0, none⟩), .int .u8 (b : Int)] w fun en w' => en = .returned (.bool (ht s p e b)) ∧ Rd r s (if ht s p e b then p + 1 else p) (if ht s p e b then d else d + 1) e w' ∧ w.grownBy w' (some r) := by
  have K := asd (met_any r s p (d + 1) e b w h hp hs)
  clear h
  generalize ht s p e b = x at *
  cases x with
  | true =>
    have e1 : ((d + 1 : Nat) : Int) - 1 = d := by omega
    go_enter Tryz.func90, Tryz.ntmps90
    go_wp2_with (go_at_call 65; refine K.out.mono ?_; rintro en w1 ⟨rfl, h1, g1⟩; have c2 := h1.c2; have f2 := h1.fz 2; have H := asd (And.intro h1 g1); clear h1 g1)
    go_ret
    refine ⟨rfl, ?_, gtrans H.out.2 (grown_set _ _ _ _)⟩
    have := H.out.1.set2 d
    first | exact this | (simp only [if_true] at *; simpa using this)
  | false =>
    go_enter Tryz.func90, Tryz.ntmps90
    go_wp2_with (go_at_call 65; refine K.out.mono ?_; rintro en w1 ⟨rfl, h1, g1⟩; have H := asd (And.intro h1 g1); clear h1 g1)
    go_ret
    exact ⟨rfl, H.out.1, H.out.2⟩
end Go.Proofs.YtpeioecpilmpiaaGreatDoor
