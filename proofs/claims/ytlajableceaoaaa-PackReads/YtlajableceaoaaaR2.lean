/-
  The two functions that PackReads makes for itself: what they answer and what they do to the variables that they share.
-/
import Derived.Test.YtlajableceaoaaaR1
namespace Go.Proofs.Ytlajableceaoaaa
open Go.RowKit

/-- A variable in a block of its own. -/
def Box (w : World) (b : Nat) (t : TypeId) (v : Value) : Prop := w.heap[b]? = some (.cells #[v] t (0, 0))

theorem Box.lt {w : World} {b t : Nat} {v : Value} (h : Box w b t v) : b < w.heap.size := (Array.getElem?_eq_some_iff.1 h).1
theorem Box.c {w : World} {b t : Nat} {v : Value} (h : Box w b t v) : w.cell? ⟨b, 0, none⟩ = some v := by
  rw [cell_of_row w b 0 _ t (0, 0) h]
  rfl
theorem Box.f {w : World} {b t : Nat} {v : Value} (h : Box w b t v) : w.frozen? ⟨b, 0, none⟩ = false := frozen_of_row w b 0 _ t h
theorem Box.set {w : World} {b t : Nat} {v : Value} (h : Box w b t v) (v' : Value) : Box (w.setCell ⟨b, 0, none⟩ v') b t v' := by
  unfold Box
  rw [heap_setCell_same w b 0 _ t _ h]
  rfl
theorem Box.other {w : World} {b t c : Nat} {v : Value} (h : Box w b t v) (hne : b ≠ c) (j : Nat) (v' : Value) : Box (w.setCell ⟨c, j, none⟩ v') b t v := by
  unfold Box
  rw [Below.heap_setCell w ⟨c, j, none⟩ v' b hne]
  exact h
theorem Box.below {w w' : World} {b t B : Nat} {v : Value} (h : Box w b t v) (hb : Below B w w') (hlt : b < B) : Box w' b t v := by
  unfold Box
  rw [hb.block b hlt]
  exact h
theorem Box.upd {w w' : World} {b t c : Nat} {v : Value} (h : Box w b t v) (hu : Upd c w w') (hne : b ≠ c) : Box w' b t v := by
  unfold Box
  rw [hu.block b h.lt hne]
  exact h
theorem Box.alloc {w : World} {b t : Nat} {v : Value} (h : Box w b t v) (o : Obj) : Box (w.alloc o) b t v := by
  unfold Box
  rw [Below.heap_alloc w o b h.lt]
  exact h

/-- All blocks but two are as they were; there may be new ones. -/
structure Upd2 (b c : Nat) (w w' : World) : Prop where
  os : w'.os = w.os
  tape : w'.tape = w.tape
  output : w'.output = w.output
  size : w.heap.size ≤ w'.heap.size
  block : ∀ k, k < w.heap.size → k ≠ b → k ≠ c → w'.heap[k]? = w.heap[k]?

theorem Upd2.refl (b c : Nat) (w : World) : Upd2 b c w w := ⟨rfl, rfl, rfl, Nat.le_refl _, fun _ _ _ _ => rfl⟩
theorem Upd2.trans {b c : Nat} {u v w : World} (h : Upd2 b c u v) (k : Upd2 b c v w) : Upd2 b c u w :=
  ⟨k.os.trans h.os, k.tape.trans h.tape, k.output.trans h.output, Nat.le_trans h.size k.size, fun j hj hb hc => (k.block j (Nat.lt_of_lt_of_le hj h.size) hb hc).trans (h.block j hj hb hc)⟩
theorem Upd2.left {b : Nat} (c : Nat) {w w' : World} (h : Upd b w w') : Upd2 b c w w' := ⟨h.os, h.tape, h.output, h.size, fun k hk hb _ => h.block k hk hb⟩
theorem Upd2.right (b : Nat) {c : Nat} {w w' : World} (h : Upd c w w') : Upd2 b c w w' := ⟨h.os, h.tape, h.output, h.size, fun k hk _ hc => h.block k hk hc⟩
theorem Upd2.ofBelow {w w' : World} (b c : Nat) (h : Below w.heap.size w w') : Upd2 b c w w' := ⟨h.os, h.tape, h.output, h.size, fun k hk _ _ => h.block k hk⟩
theorem Upd2.below {b c B : Nat} {w w' : World} (h : Upd2 b c w w') (hb : B ≤ b) (hc : B ≤ c) (hB : B ≤ w.heap.size) : Below B w w' :=
  ⟨h.os, h.tape, h.output, h.size, fun k hk => h.block k (by omega) (by omega) (by omega)⟩
theorem At.upd2 {w w' : World} {b t c d : Nat} {s : ByteArray} {bad : Bool} (h : At w b t s bad) (hu : Upd2 c d w w') (hc : b ≠ c) (hd : b ≠ d) : At w' b t s bad := by
  unfold At
  rw [hu.block b h.lt hc hd]
  exact h
theorem Upd2.cell {c d : Nat} {u v : World} (h : Upd2 c d u v) {p : Addr} (hp : p.block < u.heap.size) (hc : p.block ≠ c) (hd : p.block ≠ d) : v.cell? p = u.cell? p := World.cell?_of_block (w := u) (h.block p.block hp hc hd)

theorem raw_yes (sb bb n : Nat) (S : ByteArray) (w : World) (hS : Box w sb 9 (.string S)) (hb : Box w bb 4 (.bool false)) (hne : sb ≠ bb) (hn : n ≤ S.size) :
    Calls Try.prog 20 #[.int .i64 (n : Int), .pointer (some ⟨bb, 0, none⟩), .pointer (some ⟨sb, 0, none⟩)] w fun e w' =>
      e = .returned (.string (S.extract 0 n)) ∧ Box w' sb 9 (.string (S.extract n S.size)) ∧ Box w' bb 4 (.bool false) ∧ Upd2 sb bb w w' := by
  have cs := hS.c
  have fs := hS.f
  have cb := hb.c
  have X : Aside (Box w sb 9 (.string S) ∧ Box w bb 4 (.bool false) ∧ sb ≠ bb) := ⟨hS, hb, hne⟩
  clear hS hb hne
  go_enter Try.func20, Try.ntmps20
  go_wp2
  go_ret
  exact ⟨rfl, X.out.1.set _, X.out.2.1.other X.out.2.2.symm _ _, Upd2.left _ (Upd.set _ _ _ _)⟩

theorem raw_no (sb bb : Nat) (n : Int) (S : ByteArray) (bad : Bool) (w : World) (hS : Box w sb 9 (.string S)) (hb : Box w bb 4 (.bool bad)) (hne : sb ≠ bb) (hn : bad = true ∨ (S.size : Int) < n) :
    Calls Try.prog 20 #[.int .i64 n, .pointer (some ⟨bb, 0, none⟩), .pointer (some ⟨sb, 0, none⟩)] w fun e w' =>
      e = .returned (.string ⟨#[]⟩) ∧ Box w' sb 9 (.string S) ∧ Box w' bb 4 (.bool true) ∧ Upd2 sb bb w w' := by
  have cs := hS.c
  have fb := hb.f
  have cb := hb.c
  have X : Aside (Box w sb 9 (.string S) ∧ Box w bb 4 (.bool bad) ∧ sb ≠ bb) := ⟨hS, hb, hne⟩
  clear hS hb hne
  cases bad
  · have hlt : (S.size : Int) < n := by
      rcases hn with h | h
      · cases h
      · exact h
    clear hn
    go_enter Try.func20, Try.ntmps20
    go_wp2
    go_ret
    exact ⟨rfl, X.out.1.other X.out.2.2 _ _, X.out.2.1.set _, Upd2.right _ (Upd.set _ _ _ _)⟩
  · clear hn
    go_enter Try.func20, Try.ntmps20
    go_wp2
    go_ret
    exact ⟨rfl, X.out.1.other X.out.2.2 _ _, X.out.2.1.set _, Upd2.right _ (Upd.set _ _ _ _)⟩

theorem num_yes (sb bb : Nat) (most : Int) (S : ByteArray) (w : World) (hS : Box w sb 9 (.string S)) (hb : Box w bb 4 (.bool false)) (hne : sb ≠ bb) (hs : S.size ≤ 1000000) (p : Nat × Nat) (HP : Hid (p = Pk.headB S.data.toList)) (h1 : p.2 ≠ 0) (h2 : (p.1 : Int) ≤ most) :
    Calls Try.prog 21 #[.int .i64 most, .pointer (some ⟨sb, 0, none⟩), .pointer (some ⟨bb, 0, none⟩)] w fun e w' =>
      e = .returned (.int .i64 (p.1 : Int)) ∧ Box w' sb 9 (.string (S.extract p.2 S.size)) ∧ Box w' bb 4 (.bool false) ∧ Upd2 sb bb w w' := by
  have cs := hS.c
  have K := first_any S w hs p HP
  have hle : p.2 ≤ S.size := by
    rw [HP.out]
    exact (Pk.headB_le _).1
  have hz : ((p.2 : Int) == 0) = false := by
    rw [beq_eq_false_iff_ne]
    omega
  have X : Aside (Box w sb 9 (.string S) ∧ Box w bb 4 (.bool false) ∧ sb ≠ bb) := ⟨hS, hb, hne⟩
  clear hS hb hne HP h1
  go_enter Try.func21, Try.ntmps21
  go_wp2_with (go_at_call 22; refine K.mono ?_; rintro e w1 ⟨rfl, hb1⟩; have s1 := X.out.1.below hb1 X.out.1.lt; have b1 := X.out.2.1.below hb1 X.out.2.1.lt; have c1 := s1.c; have f1 := s1.f; have c2 := b1.c)
  go_ret
  exact ⟨rfl, s1.set _, b1.other X.out.2.2.symm _ _, (Upd2.ofBelow _ _ hb1).trans (Upd2.left _ (Upd.set _ _ _ _))⟩

theorem num_no (sb bb : Nat) (most : Int) (S : ByteArray) (bad : Bool) (w : World) (hS : Box w sb 9 (.string S)) (hb : Box w bb 4 (.bool bad)) (hne : sb ≠ bb) (hs : S.size ≤ 1000000) (p : Nat × Nat) (HP : Hid (p = Pk.headB S.data.toList)) (hno : bad = true ∨ p.2 = 0 ∨ most < (p.1 : Int)) :
    Calls Try.prog 21 #[.int .i64 most, .pointer (some ⟨sb, 0, none⟩), .pointer (some ⟨bb, 0, none⟩)] w fun e w' =>
      e = .returned (.int .i64 0) ∧ Box w' sb 9 (.string S) ∧ Box w' bb 4 (.bool true) ∧ Upd2 sb bb w w' := by
  have cs := hS.c
  have K := first_any S w hs p HP
  have X : Aside (Box w sb 9 (.string S) ∧ Box w bb 4 (.bool bad) ∧ sb ≠ bb) := ⟨hS, hb, hne⟩
  clear hS hb hne HP
  cases bad
  · by_cases hz : ((p.2 : Int) == 0) = true
    · clear hno
      go_enter Try.func21, Try.ntmps21
      go_wp2_with (go_at_call 22; refine K.mono ?_; rintro e w1 ⟨rfl, hb1⟩; have s1 := X.out.1.below hb1 X.out.1.lt; have b1 := X.out.2.1.below hb1 X.out.2.1.lt; have c1 := s1.c; have f1 := b1.f; have c2 := b1.c)
      go_ret
      exact ⟨rfl, s1.other X.out.2.2 _ _, b1.set _, (Upd2.ofBelow _ _ hb1).trans (Upd2.right _ (Upd.set _ _ _ _))⟩
    · have hz' : ((p.2 : Int) == 0) = false := by simpa using hz
      have hlt : most < (p.1 : Int) := by
        rcases hno with h | h | h
        · cases h
        · exfalso
          apply hz
          rw [h]
          rfl
        · exact h
      clear hno hz
      go_enter Try.func21, Try.ntmps21
      go_wp2_with (go_at_call 22; refine K.mono ?_; rintro e w1 ⟨rfl, hb1⟩; have s1 := X.out.1.below hb1 X.out.1.lt; have b1 := X.out.2.1.below hb1 X.out.2.1.lt; have c1 := s1.c; have f1 := b1.f; have c2 := b1.c)
      go_ret
      exact ⟨rfl, s1.other X.out.2.2 _ _, b1.set _, (Upd2.ofBelow _ _ hb1).trans (Upd2.right _ (Upd.set _ _ _ _))⟩
  · clear hno
    go_enter Try.func21, Try.ntmps21
    go_wp2_with (go_at_call 22; refine K.mono ?_; rintro e w1 ⟨rfl, hb1⟩; have s1 := X.out.1.below hb1 X.out.1.lt; have b1 := X.out.2.1.below hb1 X.out.2.1.lt; have c1 := s1.c; have f1 := b1.f; have c2 := b1.c)
    go_ret
    exact ⟨rfl, s1.other X.out.2.2 _ _, b1.set _, (Upd2.ofBelow _ _ hb1).trans (Upd2.right _ (Upd.set _ _ _ _))⟩
end Go.Proofs.Ytlajableceaoaaa
