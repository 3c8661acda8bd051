/-
  A Packer or an Opener in memory: a block of two cells; what laying a number, a text or bytes does to it.
-/
import Derived.Test.YtlajableceaoaaaW1
import Derived.Test.YtlajableceaoaaaW3
namespace Go.Proofs.Ytlajableceaoaaa
open Go.RowKit

/-- Block b holds a text and a bool. -/
def At (w : World) (b : Nat) (t : TypeId) (s : ByteArray) (bad : Bool) : Prop := w.heap[b]? = some (.cells #[.string s, .bool bad] t (0, 0))

theorem At.lt {w : World} {b t : Nat} {s : ByteArray} {bad : Bool} (h : At w b t s bad) : b < w.heap.size := (Array.getElem?_eq_some_iff.1 h).1
theorem At.c0 {w : World} {b t : Nat} {s : ByteArray} {bad : Bool} (h : At w b t s bad) : w.cell? ⟨b, 0, none⟩ = some (.string s) := by
  rw [cell_of_row w b 0 _ t (0, 0) h]
  rfl
theorem At.c1 {w : World} {b t : Nat} {s : ByteArray} {bad : Bool} (h : At w b t s bad) : w.cell? ⟨b, 1, none⟩ = some (.bool bad) := by
  rw [cell_of_row w b 1 _ t (0, 0) h]
  rfl
theorem At.f {w : World} {b t : Nat} {s : ByteArray} {bad : Bool} (h : At w b t s bad) (j : Nat) : w.frozen? ⟨b, j, none⟩ = false := frozen_of_row w b j _ t h
theorem At.set0 {w : World} {b t : Nat} {s : ByteArray} {bad : Bool} (h : At w b t s bad) (s' : ByteArray) : At (w.setCell ⟨b, 0, none⟩ (.string s')) b t s' bad := by
  unfold At
  rw [heap_setCell_same w b 0 _ t _ h]
  rfl
theorem At.set1 {w : World} {b t : Nat} {s : ByteArray} {bad : Bool} (h : At w b t s bad) (bad' : Bool) : At (w.setCell ⟨b, 1, none⟩ (.bool bad')) b t s bad' := by
  unfold At
  rw [heap_setCell_same w b 1 _ t _ h]
  rfl
theorem At.below {w w' : World} {b t B : Nat} {s : ByteArray} {bad : Bool} (h : At w b t s bad) (hb : Below B w w') (hlt : b < B) : At w' b t s bad := by
  unfold At
  rw [hb.block b hlt]
  exact h

/-- All blocks but one are as they were; there may be new ones. -/
structure Upd (b : Nat) (w w' : World) : Prop where
  os : w'.os = w.os
  tape : w'.tape = w.tape
  output : w'.output = w.output
  size : w.heap.size ≤ w'.heap.size
  block : ∀ k, k < w.heap.size → k ≠ b → w'.heap[k]? = w.heap[k]?

theorem Upd.refl (b : Nat) (w : World) : Upd b w w := ⟨rfl, rfl, rfl, Nat.le_refl _, fun _ _ _ => rfl⟩
theorem Upd.trans {b : Nat} {u v w : World} (h : Upd b u v) (k : Upd b v w) : Upd b u w :=
  ⟨k.os.trans h.os, k.tape.trans h.tape, k.output.trans h.output, Nat.le_trans h.size k.size, fun j hj hb => (k.block j (Nat.lt_of_lt_of_le hj h.size) hb).trans (h.block j hj hb)⟩
theorem Upd.ofBelow {w w' : World} (b : Nat) (h : Below w.heap.size w w') : Upd b w w' := ⟨h.os, h.tape, h.output, h.size, fun k hk _ => h.block k hk⟩
theorem Upd.set (w : World) (b j : Nat) (v : Value) : Upd b w (w.setCell ⟨b, j, none⟩ v) :=
  ⟨rfl, rfl, rfl, by simp, fun k _ hb => Below.heap_setCell w ⟨b, j, none⟩ v k hb⟩
theorem Upd.below {b B : Nat} {w w' : World} (h : Upd b w w') (hb : B ≤ b) (hB : B ≤ w.heap.size) : Below B w w' :=
  ⟨h.os, h.tape, h.output, h.size, fun k hk => h.block k (by omega) (by omega)⟩
theorem At.upd {w w' : World} {b t c : Nat} {s : ByteArray} {bad : Bool} (h : At w b t s bad) (hu : Upd c w w') (hne : b ≠ c) : At w' b t s bad := by
  unfold At
  rw [hu.block b h.lt hne]
  exact h

theorem size_mk (l : List UInt8) : (ByteArray.mk l.toArray).size = l.length := by simp [ByteArray.size]

theorem lay_at (b : Nat) (l s : ByteArray) (w : World) (h : At w b 25 l false) (hs : l.size + s.size ≤ 9223372036854775807) :
    Calls Try.prog 24 #[.pointer (some ⟨b, 0, none⟩), .string s] w fun e w' => e = .returned (.pointer (some ⟨b, 0, none⟩)) ∧ At w' b 25 (l ++ s) false ∧ Upd b w w' := by
  refine (lay_yes b l s w h.c0 h.c1 (h.f 0) hs).mono ?_
  rintro e w' ⟨rfl, rfl⟩
  exact ⟨rfl, h.set0 _, Upd.set _ _ _ _⟩

theorem lay_bad (b : Nat) (l s : ByteArray) (w : World) (h : At w b 25 l true) :
    Calls Try.prog 24 #[.pointer (some ⟨b, 0, none⟩), .string s] w fun e w' => e = .returned (.pointer (some ⟨b, 0, none⟩)) ∧ w' = w := lay_no b s w h.c1

theorem num_nil (n : Int) (w : World) :
    Calls Try.prog 7 #[.pointer none, .int .i64 n] w fun e w' => e = .returned (.pointer none) ∧ w' = w := by
  go_enter Try.func7, Try.ntmps7
  go_wp2
  go_ret
  exact ⟨rfl, rfl⟩

theorem num_at (b n : Nat) (l : ByteArray) (w : World) (h : At w b 25 l false) (hn : n ≤ 4611686018427387904) (hs : l.size ≤ 1000000) :
    Calls Try.prog 7 #[.pointer (some ⟨b, 0, none⟩), .int .i64 (n : Int)] w fun e w' => e = .returned (.pointer (some ⟨b, 0, none⟩)) ∧ At w' b 25 (l ++ ⟨(Pk.numB n).toArray⟩) false ∧ Upd b w w' := by
  have hlen := Pk.numB_len hn
  have hsz : (ByteArray.mk (Pk.numB n).toArray).size = (Pk.numB n).length := size_mk _
  have hnb := numBytes_any n w hn
  go_enter Try.func7, Try.ntmps7
  go_wp2_with (first
    | (go_at_call 25; refine hnb.mono ?_; rintro e w1 ⟨rfl, hb1⟩)
    | (go_at_call 24; refine (lay_at b l _ _ (h.below hb1 h.lt) (by rw [hsz]; omega)).mono ?_; rintro e w2 ⟨rfl, hat2, hu2⟩))
  go_ret
  exact ⟨rfl, hat2, (Upd.ofBelow b hb1).trans hu2⟩

theorem num_bad (b n : Nat) (l : ByteArray) (w : World) (h : At w b 25 l true) (hn : n ≤ 4611686018427387904) :
    Calls Try.prog 7 #[.pointer (some ⟨b, 0, none⟩), .int .i64 (n : Int)] w fun e w' => e = .returned (.pointer (some ⟨b, 0, none⟩)) ∧ At w' b 25 l true ∧ Upd b w w' := by
  have hnb := numBytes_any n w hn
  go_enter Try.func7, Try.ntmps7
  go_wp2_with (first
    | (go_at_call 25; refine hnb.mono ?_; rintro e w1 ⟨rfl, hb1⟩)
    | (go_at_call 24; refine (lay_bad b l _ _ (h.below hb1 h.lt)).mono ?_; rintro e w2 ⟨rfl, rfl⟩))
  go_ret
  exact ⟨rfl, h.below hb1 h.lt, Upd.ofBelow b hb1⟩

theorem num_out (b : Nat) (n : Int) (l : ByteArray) (bad : Bool) (w : World) (h : At w b 25 l bad) (hn : n < 0 ∨ 4611686018427387904 < n) :
    Calls Try.prog 7 #[.pointer (some ⟨b, 0, none⟩), .int .i64 n] w fun e w' => e = .returned (.pointer (some ⟨b, 0, none⟩)) ∧ At w' b 25 ⟨#[]⟩ true ∧ Upd b w w' := by
  have f0 := h.f 0
  have f1 := h.f 1
  have c0 := h.c0
  have c1 := h.c1
  have A : Aside (At w b 25 l bad) := h
  clear h
  rcases hn with hn | hn
  · go_enter Try.func7, Try.ntmps7
    go_wp2
    go_ret
    exact ⟨rfl, (A.out.set0 _).set1 _, (Upd.set _ _ _ _).trans (Upd.set _ _ _ _)⟩
  · have hn0 : 0 ≤ n := by omega
    go_enter Try.func7, Try.ntmps7
    go_wp2
    go_ret
    exact ⟨rfl, (A.out.set0 _).set1 _, (Upd.set _ _ _ _).trans (Upd.set _ _ _ _)⟩

theorem text_at (b : Nat) (l s : ByteArray) (w : World) (h : At w b 25 l false) (hl : l.size ≤ 1000000) (hs : s.size ≤ 1000000) :
    Calls Try.prog 9 #[.pointer (some ⟨b, 0, none⟩), .string s] w fun e w' => e = .returned (.pointer (some ⟨b, 0, none⟩)) ∧ At w' b 25 (l ++ (⟨(Pk.numB s.size).toArray⟩ ++ s)) false ∧ Upd b w w' := by
  have hlen := Pk.numB_len (a := s.size) (by omega)
  have hsz : (ByteArray.mk (Pk.numB s.size).toArray).size = (Pk.numB s.size).length := size_mk _
  have hsz2 : ((ByteArray.mk (Pk.numB s.size).toArray) ++ s).size = (Pk.numB s.size).length + s.size := by rw [ByteArray.size_append, hsz]
  have hnb := numBytes_any s.size w (by omega)
  go_enter Try.func9, Try.ntmps9
  go_wp2_with (first
    | (go_at_call 25; refine hnb.mono ?_; rintro e w1 ⟨rfl, hb1⟩)
    | (go_at_call 24; refine (lay_at b l _ _ (h.below hb1 h.lt) (by rw [hsz2]; omega)).mono ?_; rintro e w2 ⟨rfl, hat2, hu2⟩))
  go_ret
  exact ⟨rfl, hat2, (Upd.ofBelow b hb1).trans hu2⟩

theorem text_bad (b : Nat) (l s : ByteArray) (w : World) (h : At w b 25 l true) (hs : s.size ≤ 1000000) :
    Calls Try.prog 9 #[.pointer (some ⟨b, 0, none⟩), .string s] w fun e w' => e = .returned (.pointer (some ⟨b, 0, none⟩)) ∧ At w' b 25 l true ∧ Upd b w w' := by
  have hlen := Pk.numB_len (a := s.size) (by omega)
  have hsz : (ByteArray.mk (Pk.numB s.size).toArray).size = (Pk.numB s.size).length := size_mk _
  have hnb := numBytes_any s.size w (by omega)
  go_enter Try.func9, Try.ntmps9
  go_wp2_with (first
    | (go_at_call 25; refine hnb.mono ?_; rintro e w1 ⟨rfl, hb1⟩)
    | (go_at_call 24; refine (lay_bad b l _ _ (h.below hb1 h.lt)).mono ?_; rintro e w2 ⟨rfl, rfl⟩))
  go_ret
  exact ⟨rfl, h.below hb1 h.lt, Upd.ofBelow b hb1⟩

theorem raw_at (b : Nat) (l s : ByteArray) (w : World) (h : At w b 25 l false) (hs : l.size + s.size ≤ 9223372036854775807) :
    Calls Try.prog 11 #[.pointer (some ⟨b, 0, none⟩), .string s] w fun e w' => e = .returned (.pointer (some ⟨b, 0, none⟩)) ∧ At w' b 25 (l ++ s) false ∧ Upd b w w' := by
  go_enter Try.func11, Try.ntmps11
  go_wp2_with (go_at_call 24; refine (lay_at b l _ _ h hs).mono ?_; rintro e w2 ⟨rfl, hat2, hu2⟩)
  go_ret
  exact ⟨rfl, hat2, hu2⟩

theorem raw_bad (b : Nat) (l s : ByteArray) (w : World) (h : At w b 25 l true) :
    Calls Try.prog 11 #[.pointer (some ⟨b, 0, none⟩), .string s] w fun e w' => e = .returned (.pointer (some ⟨b, 0, none⟩)) ∧ w' = w := by
  go_enter Try.func11, Try.ntmps11
  go_wp2_with (go_at_call 24; refine (lay_bad b l _ _ h).mono ?_; rintro e w2 ⟨rfl, rfl⟩)
  go_ret
  exact ⟨rfl, rfl⟩
end Go.Proofs.Ytlajableceaoaaa
