/-
  The fingerprint of a method, a path and a body: as the program tells it, and as the document does.
-/
import Derived.Test.YtkijglkjpgjdaaaDoorC5
import Derived.Test.YtkijglkjpgjdaaaDoorHR4
namespace Go.Proofs.YtkijglkjpgjdaaaDoor
open Go.RowKit

/-- A text as bytes. -/
def tx (s : ByteArray) : List UInt8 := Pa.Pk.numB s.size ++ s.data.toList
def three (m p b : ByteArray) : ByteArray := ⟨(tx m ++ tx p ++ tx b).toArray⟩
/-- The fingerprint. -/
def print (m p b : ByteArray) : ByteArray := Ha.strOf (Ha.Sh.sha (Ha.bytes (three m p b)))

theorem tx_len (s : ByteArray) (h : s.size ≤ 1000000) : (tx s).length ≤ s.size + 9 := by
  have := (Pa.Pk.numB_len (a := s.size) (by omega)).2
  have hl : s.data.toList.length = s.size := rfl
  unfold tx
  rw [List.length_append]
  omega

theorem tx_mk (s : ByteArray) : (ByteArray.mk (Pa.Pk.numB s.size).toArray) ++ s = ⟨(tx s).toArray⟩ := by
  conv => lhs; rw [← Pa.mk_data s]
  rw [Pa.mk_append, Pa.mk_data]
  rfl

theorem text_more (b : Nat) (l : List UInt8) (s : ByteArray) (w : World) (h : Pa.At w b 48 ⟨l.toArray⟩ false) (hl : l.length ≤ 1000000) (hs : s.size ≤ 1000000) :
    Calls Tryd.prog 30 #[.pointer (some ⟨b, 0, none⟩), .string s] w fun e w' => e = .returned (.pointer (some ⟨b, 0, none⟩)) ∧ Pa.At w' b 48 ⟨(l ++ tx s).toArray⟩ false ∧ Pa.Upd b w w' := by
  have k := Pa.text_at b ⟨l.toArray⟩ s w h (by rw [Pa.size_mk]; exact hl) hs
  rw [tx_mk, Pa.mk_append] at k
  exact k

set_option maxHeartbeats 1600000 in
theorem print_any (m p b : ByteArray) (w : World) (hT : Ha.Tab w) (hm : m.size ≤ 10000) (hp : p.size ≤ 10000) (hb : b.size ≤ 10000) :
    Calls Tryd.prog 14 #[.string m, .string p, .string b] w fun e w' => e = .returned (.string (print m p b)) ∧ Below w.heap.size w w' := by
  have l1 := tx_len m (by omega)
  have l2 := tx_len p (by omega)
  have l3 := tx_len b (by omega)
  have k1 : Aside (∀ u, Pa.At u w.heap.size 48 ⟨([] : List UInt8).toArray⟩ false → _) := fun u h => text_more w.heap.size [] m u h (by simp) (by omega)
  have k2 : Aside (∀ u, Pa.At u w.heap.size 48 ⟨([] ++ tx m).toArray⟩ false → _) := fun u h => text_more w.heap.size ([] ++ tx m) p u h (by simp; omega) (by omega)
  have k3 : Aside (∀ u, Pa.At u w.heap.size 48 ⟨([] ++ tx m ++ tx p).toArray⟩ false → _) := fun u h => text_more w.heap.size ([] ++ tx m ++ tx p) b u h (by simp; omega) (by omega)
  have k4 : Aside (∀ u, Pa.At u w.heap.size 48 ⟨([] ++ tx m ++ tx p ++ tx b).toArray⟩ false → Calls Tryd.prog 31 #[.pointer (some ⟨w.heap.size, 0, none⟩)] u fun e w' => e = .returned (.string (three m p b)) ∧ w' = u) := fun u h => Pa.string_yes w.heap.size _ u h.c0 h.c1
  have hz : (three m p b).size < 800000000 := by
    unfold three
    rw [Pa.size_mk, List.length_append, List.length_append]
    omega
  have k5 : Aside (∀ u, Ha.Tab u → Calls Tryd.prog 29 #[.string (three m p b)] u fun e w' => e = .returned (.string (print m p b)) ∧ Below u.heap.size u w') := fun u hu => Ha.sum_any (three m p b) u hu hz
  have hA : Aside (Pa.At (w.alloc (.cells #[.string ⟨#[]⟩, .bool false] 48)) w.heap.size 48 ⟨([] : List UInt8).toArray⟩ false) := heap_alloc_new w _
  have hb0 : Aside (Below w.heap.size w (w.alloc (.cells #[.string ⟨#[]⟩, .bool false] 48))) := (Below.refl _ _).alloc (Nat.le_refl _) _
  have hs0 : (w.alloc (.cells #[.string ⟨#[]⟩, .bool false] 48)).heap.size = w.heap.size + 1 := by show (w.heap.push _).size = _; simp
  have HT : Aside (Ha.Tab w) := hT
  clear hT l1 l2 l3 hz
  generalize three m p b = T at *
  generalize print m p b = D at *
  go_enter Tryd.func14, Tryd.ntmps14
  go_wp2_with (go_at_call 30; first
    | (refine (k1.out _ hA.out).mono ?_; rintro e w1 ⟨rfl, a1, u1⟩; clear k1)
    | (refine (k2.out _ a1).mono ?_; rintro e w2 ⟨rfl, a2, u2⟩; clear k2)
    | (refine (k3.out _ a2).mono ?_; rintro e w3 ⟨rfl, a3, u3⟩; clear k3))
  have B : Aside (Below w.heap.size w w3) := by
    have s1 := u1.size
    have s2 := u2.size
    exact ((hb0.out.trans (u1.below (Nat.le_refl _) (by omega))).trans (u2.below (Nat.le_refl _) (by omega))).trans (u3.below (Nat.le_refl _) (by omega))
  refine (k4.out _ a3).mono ?_
  rintro e w4 ⟨rfl, rfl⟩
  clear a1 a2 a3 u1 u2 u3
  go_wp2_with (go_at_call 29; refine (k5.out _ (HT.out.later B.out)).mono ?_; rintro e w5 ⟨rfl, hb5⟩)
  go_ret
  exact ⟨rfl, B.out.trans (hb5.mono B.out.size)⟩

set_option maxHeartbeats 1600000 in
theorem refPrint_any (m p b : ByteArray) (w : World) (hm : m.size ≤ 10000) (hp : p.size ≤ 10000) (hb : b.size ≤ 10000) :
    Calls Tryd.prog 15 #[.string m, .string p, .string b] w fun e w' => e = .returned (.string (print m p b)) ∧ Below w.heap.size w w' := by
  have l1 := tx_len m (by omega)
  have l2 := tx_len p (by omega)
  have l3 := tx_len b (by omega)
  have kt : Aside (∀ (s : ByteArray) (u : World), s.size ≤ 10000 → Calls Tryd.prog 33 #[.string s] u fun e w' => e = .returned (.string ⟨(tx s).toArray⟩) ∧ Below u.heap.size u w') := fun s u h => Pa.refText_any s u (by omega)
  have z1 : (ByteArray.mk (tx m).toArray).size = (tx m).length := Pa.size_mk _
  have z2 : (ByteArray.mk (tx p).toArray).size = (tx p).length := Pa.size_mk _
  have z3 : (ByteArray.mk (tx b).toArray).size = (tx b).length := Pa.size_mk _
  have e3 : Aside ((ByteArray.mk (tx m).toArray ++ ⟨(tx p).toArray⟩) ++ ⟨(tx b).toArray⟩ = three m p b) := by
    show _ = _
    unfold three
    rw [Pa.mk_append, Pa.mk_append]
  have hz : (three m p b).size ≤ 90000 := by
    unfold three
    rw [Pa.size_mk, List.length_append, List.length_append]
    omega
  have k5 : Aside (∀ u, Calls Tryd.prog 32 #[.string ((ByteArray.mk (tx m).toArray ++ ⟨(tx p).toArray⟩) ++ ⟨(tx b).toArray⟩)] u fun e w' => e = .returned (.string (print m p b)) ∧ Below u.heap.size u w') := fun u => by
    rw [e3.out]
    exact Ha.refSum_any (three m p b) u hz
  clear hz e3
  have q1 := kt.out m w hm
  have q2 : Aside (∀ u : World, _) := fun u => kt.out p u hp
  have q3 : Aside (∀ u : World, _) := fun u => kt.out b u hb
  clear kt
  generalize print m p b = D at *
  generalize ByteArray.mk (tx m).toArray = X at *
  generalize ByteArray.mk (tx p).toArray = Y at *
  generalize ByteArray.mk (tx b).toArray = Z at *
  go_enter Tryd.func15, Tryd.ntmps15
  go_wp2_with (first
    | (go_at_call 33; first
      | (refine q1.mono ?_; rintro e w1 ⟨rfl, hb1⟩; clear q1)
      | (refine (q2.out _).mono ?_; rintro e w2 ⟨rfl, hb2⟩; clear q2)
      | (refine (q3.out _).mono ?_; rintro e w3 ⟨rfl, hb3⟩; clear q3))
    | (go_at_call 32; refine (k5.out _).mono ?_; rintro e w4 ⟨rfl, hb4⟩))
  go_ret
  have c2 := hb1.trans (hb2.mono hb1.size)
  have c3 := c2.trans (hb3.mono c2.size)
  exact ⟨rfl, c3.trans (hb4.mono c3.size)⟩

theorem wordB_len (x : Nat) : (Ha.Sh.wordB x).length = 4 := rfl
theorem print_size (m p b : ByteArray) : (print m p b).size = 32 := by
  have h : ∀ l : List Nat, (Ha.Sh.sha l).length = 32 := fun l => by
    unfold Ha.Sh.sha Ha.Sh.dig
    simp only [List.length_append, wordB_len]
  unfold print Ha.strOf
  rw [Pa.size_mk, List.length_map, h]
end Go.Proofs.YtkijglkjpgjdaaaDoor
