/-
  A Packer or an Opener in memory: a block of two cells; what laying a number, a text or bytes does to it.
-/
import Derived.Test.YtkijglkjpgjdaaaDoorPW1
import Derived.Test.YtkijglkjpgjdaaaDoorPW3
namespace Go.Proofs.YtkijglkjpgjdaaaDoor.Pa
open Go.RowKit

/-- Block b holds a text and a bool. -/
def At (w : World) (b : Nat) (t : TypeId) (s : ByteArray) (bad : Bool) : Prop := w.heap[b]? = some (.cells #[.string s, .bool bad] t (0, 0))

theorem At.lt {w : World} {b t : Nat} {s : ByteArray} {bad : Bool} (h : At w b t s bad) : b < w.heap.size := (Array.getElem?_eq_some_iff.1 h).1
theorem At.c0 {w : World} {b t : Nat} {s : ByteArray} {bad : Bool} (h : At w b t s bad) : w.cell? ⟨b, 0, none⟩ = some (.string s) := by
  rw [cell_of_row w b 0 _ t (0, 0) h]
  rfl
theorem At.c1 {w : World} {b t : Nat} {s : ByteArray} {bad : Bool} (h : At w b t s bad) : w.cell? ⟨b, 1, none⟩ = some (.bool bad) := by
  rw [cell_of_row w b 1 _ t (0, 0) h]
  rfl
theorem At.f {w : World} {b t : Nat} {s : ByteArray} {bad : Bool} (h : At w b t s bad) (j : Nat) : w.frozen? ⟨b, j, none⟩ = false := frozen_of_row w b j _ t h
theorem At.set0 {w : World} {b t : Nat} {s : ByteArray} {bad : Bool} (h : At w b t s bad) (s' : ByteArray) : At (w.setCell ⟨b, 0, none⟩ (.string s')) b t s' bad := by
  unfold At
  rw [heap_setCell_same w b 0 _ t _ h]
  rfl
theorem At.set1 {w : World} {b t : Nat} {s : ByteArray} {bad : Bool} (h : At w b t s bad) (bad' : Bool) : At (w.setCell ⟨b, 1, none⟩ (.bool bad')) b t s bad' := by
  unfold At
  rw [heap_setCell_same w b 1 _ t _ h]
  rfl
theorem At.below {w w' : World} {b t B : Nat} {s : ByteArray} {bad : Bool} (h : At w b t s bad) (hb : Below B w w') (hlt : b < B) : At w' b t s bad := by
  unfold At
  rw [hb.block b hlt]
  exact h

/-- All blocks but one are as they were; there may be new ones. -/
structure Upd (b : Nat) (w w' : World) : Prop where
  os : w'.os = w.os
  tape : w'.tape = w.tape
  output : w'.output = w.output
  size : w.heap.size ≤ w'.heap.size
  block : ∀ k, k < w.heap.size → k ≠ b → w'.heap[k]? = w.heap[k]?

theorem Upd.refl (b : Nat) (w : World) : Upd b w w := ⟨rfl, rfl, rfl, Nat.le_refl _, fun _ _ _ => rfl⟩
theorem Upd.trans {b : Nat} {u v w : World} (h : Upd b u v) (k : Upd b v w) : Upd b u w :=
  ⟨k.os.trans h.os, k.tape.trans h.tape, k.output.trans h.output, Nat.le_trans h.size k.size, fun j hj hb => (k.block j (Nat.lt_of_lt_of_le hj h.size) hb).trans (h.block j hj hb)⟩
theorem Upd.ofBelow {w w' : World} (b : Nat) (h : Below w.heap.size w w') : Upd b w w' := ⟨h.os, h.tape, h.output, h.size, fun k hk _ => h.block k hk⟩
theorem Upd.set (w : World) (b j : Nat) (v : Value) : Upd b w (w.setCell ⟨b, j, none⟩ v) :=
  ⟨rfl, rfl, rfl, by simp, fun k _ hb => Below.heap_setCell w ⟨b, j, none⟩ v k hb⟩
theorem Upd.below {b B : Nat} {w w' : World} (h : Upd b w w') (hb : B ≤ b) (hB : B ≤ w.heap.size) : Below B w w' :=
  ⟨h.os, h.tape, h.output, h.size, fun k hk => h.block k (by omega) (by omega)⟩
theorem At.upd {w w' : World} {b t c : Nat} {s : ByteArray} {bad : Bool} (h : At w b t s bad) (hu : Upd c w w') (hne : b ≠ c) : At w' b t s bad := by
  unfold At
  rw [hu.block b h.lt hne]
  exact h

theorem size_mk (l : List UInt8) : (ByteArray.mk l.toArray).size = l.length := by simp [ByteArray.size]

theorem lay_at (b : Nat) (l s : ByteArray) (w : World) (h : At w b 48 l false) (hs : l.size + s.size ≤ 9223372036854775807) :
    Calls Tryd.prog 53 #[.pointer (some ⟨b, 0, none⟩), .string s] w fun e w' => e = .returned (.pointer (some ⟨b, 0, none⟩)) ∧ At w' b 48 (l ++ s) false ∧ Upd b w w' := by
  refine (lay_yes b l s w h.c0 h.c1 (h.f 0) hs).mono ?_
  rintro e w' ⟨rfl, rfl⟩
  exact ⟨rfl, h.set0 _, Upd.set _ _ _ _⟩

theorem lay_bad (b : Nat) (l s : ByteArray) (w : World) (h : At w b 48 l true) :
    Calls Tryd.prog 53 #[.pointer (some ⟨b, 0, none⟩), .string s] w fun e w' => e = .returned (.pointer (some ⟨b, 0, none⟩)) ∧ w' = w := lay_no b s w h.c1

theorem text_at (b : Nat) (l s : ByteArray) (w : World) (h : At w b 48 l false) (hl : l.size ≤ 1000000) (hs : s.size ≤ 1000000) :
    Calls Tryd.prog 30 #[.pointer (some ⟨b, 0, none⟩), .string s] w fun e w' => e = .returned (.pointer (some ⟨b, 0, none⟩)) ∧ At w' b 48 (l ++ (⟨(Pk.numB s.size).toArray⟩ ++ s)) false ∧ Upd b w w' := by
  have hlen := Pk.numB_len (a := s.size) (by omega)
  have hsz : (ByteArray.mk (Pk.numB s.size).toArray).size = (Pk.numB s.size).length := size_mk _
  have hsz2 : ((ByteArray.mk (Pk.numB s.size).toArray) ++ s).size = (Pk.numB s.size).length + s.size := by rw [ByteArray.size_append, hsz]
  have hnb := numBytes_any s.size w (by omega)
  go_enter Tryd.func30, Tryd.ntmps30
  go_wp2_with (first
    | (go_at_call 54; refine hnb.mono ?_; rintro e w1 ⟨rfl, hb1⟩)
    | (go_at_call 53; refine (lay_at b l _ _ (h.below hb1 h.lt) (by rw [hsz2]; omega)).mono ?_; rintro e w2 ⟨rfl, hat2, hu2⟩))
  go_ret
  exact ⟨rfl, hat2, (Upd.ofBelow b hb1).trans hu2⟩

theorem text_bad (b : Nat) (l s : ByteArray) (w : World) (h : At w b 48 l true) (hs : s.size ≤ 1000000) :
    Calls Tryd.prog 30 #[.pointer (some ⟨b, 0, none⟩), .string s] w fun e w' => e = .returned (.pointer (some ⟨b, 0, none⟩)) ∧ At w' b 48 l true ∧ Upd b w w' := by
  have hlen := Pk.numB_len (a := s.size) (by omega)
  have hsz : (ByteArray.mk (Pk.numB s.size).toArray).size = (Pk.numB s.size).length := size_mk _
  have hnb := numBytes_any s.size w (by omega)
  go_enter Tryd.func30, Tryd.ntmps30
  go_wp2_with (first
    | (go_at_call 54; refine hnb.mono ?_; rintro e w1 ⟨rfl, hb1⟩)
    | (go_at_call 53; refine (lay_bad b l _ _ (h.below hb1 h.lt)).mono ?_; rintro e w2 ⟨rfl, rfl⟩))
  go_ret
  exact ⟨rfl, h.below hb1 h.lt, Upd.ofBelow b hb1⟩

end Go.Proofs.YtkijglkjpgjdaaaDoor.Pa
