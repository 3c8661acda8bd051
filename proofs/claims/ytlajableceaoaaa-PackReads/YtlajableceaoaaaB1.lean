/-
  Items as bytes; what laying one item does, whether the Packer is OK or not.
-/
import Derived.Test.YtlajableceaoaaaW9
namespace Go.Proofs.Ytlajableceaoaaa
open Go.RowKit

/-- What a Packer holds: W, or nothing if it isn't OK. -/
def pk (ok : Bool) (W : List UInt8) : ByteArray := if ok then ⟨W.toArray⟩ else ⟨#[]⟩

theorem mk_append (a b : List UInt8) : (ByteArray.mk a.toArray) ++ ⟨b.toArray⟩ = ⟨(a ++ b).toArray⟩ := by
  apply ByteArray.ext
  simp [ByteArray.data_append]

theorem mk_data (s : ByteArray) : (⟨s.data.toList.toArray⟩ : ByteArray) = s := by
  apply ByteArray.ext
  simp

theorem At.alloc {w : World} {b t : Nat} {s : ByteArray} {bad : Bool} (h : At w b t s bad) (o : Obj) : At (w.alloc o) b t s bad := by
  unfold At
  rw [Below.heap_alloc w o b h.lt]
  exact h

theorem numU (b n : Nat) (ok : Bool) (W : List UInt8) (w : World) (h : At w b 25 (pk ok W) (!ok)) (hn : n ≤ 4611686018427387904) (hs : W.length ≤ 1000000) :
    Calls Try.prog 7 #[.pointer (some ⟨b, 0, none⟩), .int .i64 (n : Int)] w fun e w' => e = .returned (.pointer (some ⟨b, 0, none⟩)) ∧ At w' b 25 (pk ok (W ++ Pk.numB n)) (!ok) ∧ Upd b w w' := by
  cases ok
  · exact num_bad b n _ w h hn
  · have k := num_at b n ⟨W.toArray⟩ w h hn (by rw [size_mk]; exact hs)
    rw [mk_append] at k
    exact k

theorem outU (b : Nat) (n : Int) (ok : Bool) (W V : List UInt8) (w : World) (h : At w b 25 (pk ok W) (!ok)) (hn : n < 0 ∨ 4611686018427387904 < n) :
    Calls Try.prog 7 #[.pointer (some ⟨b, 0, none⟩), .int .i64 n] w fun e w' => e = .returned (.pointer (some ⟨b, 0, none⟩)) ∧ At w' b 25 (pk false V) (!false) ∧ Upd b w w' :=
  num_out b n _ _ w h hn

theorem textU (b : Nat) (s : ByteArray) (ok : Bool) (W : List UInt8) (w : World) (h : At w b 25 (pk ok W) (!ok)) (hl : W.length ≤ 1000000) (hs : s.size ≤ 1000000) :
    Calls Try.prog 9 #[.pointer (some ⟨b, 0, none⟩), .string s] w fun e w' => e = .returned (.pointer (some ⟨b, 0, none⟩)) ∧ At w' b 25 (pk ok (W ++ (Pk.numB s.size ++ s.data.toList))) (!ok) ∧ Upd b w w' := by
  cases ok
  · exact text_bad b _ s w h hs
  · have k := text_at b ⟨W.toArray⟩ s w h (by rw [size_mk]; exact hl) hs
    have e : (ByteArray.mk W.toArray) ++ ((⟨(Pk.numB s.size).toArray⟩ : ByteArray) ++ s) = ⟨(W ++ (Pk.numB s.size ++ s.data.toList)).toArray⟩ := by
      conv => lhs; rw [← mk_data s]
      rw [mk_append, mk_append, mk_data]
    rw [e] at k
    exact k

theorem rawU (b : Nat) (s : ByteArray) (ok : Bool) (W : List UInt8) (w : World) (h : At w b 25 (pk ok W) (!ok)) (hl : W.length ≤ 1000000) (hs : s.size ≤ 1000000) :
    Calls Try.prog 11 #[.pointer (some ⟨b, 0, none⟩), .string s] w fun e w' => e = .returned (.pointer (some ⟨b, 0, none⟩)) ∧ At w' b 25 (pk ok (W ++ s.data.toList)) (!ok) ∧ Upd b w w' := by
  cases ok
  · refine (raw_bad b _ s w h).mono ?_
    rintro e w' ⟨rfl, rfl⟩
    exact ⟨rfl, h, Upd.refl _ _⟩
  · have k := raw_at b ⟨W.toArray⟩ s w h (by rw [size_mk]; omega)
    have e : (ByteArray.mk W.toArray) ++ s = ⟨(W ++ s.data.toList).toArray⟩ := by
      conv => lhs; rw [← mk_data s]
      rw [mk_append]
    rw [e] at k
    exact k

/-- An item's bytes. -/
def encI (kd : Nat) (n : Int) (s : ByteArray) : List UInt8 :=
  if kd % 3 = 0 then (if 0 ≤ n ∧ n ≤ 4611686018427387904 then Pk.numB n.toNat else [])
  else if kd % 3 = 1 then Pk.numB s.size ++ s.data.toList
  else s.data.toList

/-- May the item be? -/
def okI (kd : Nat) (n : Int) : Bool := !decide (kd % 3 = 0 ∧ ¬ (0 ≤ n ∧ n ≤ 4611686018427387904))

theorem encI_len (kd : Nat) (n : Int) (s : ByteArray) (hs : s.size ≤ 300) : (encI kd n s).length ≤ 310 := by
  unfold encI
  have e : s.data.toList.length = s.size := by rw [Array.length_toList]; rfl
  have l2 := Pk.numB_len (a := s.size) (by omega)
  by_cases h0 : kd % 3 = 0
  · rw [if_pos h0]
    by_cases hn : 0 ≤ n ∧ n ≤ 4611686018427387904
    · rw [if_pos hn]
      have := Pk.numB_len (a := n.toNat) (by omega)
      omega
    · rw [if_neg hn]
      simp
  · rw [if_neg h0]
    by_cases h1 : kd % 3 = 1
    · rw [if_pos h1, List.length_append]
      omega
    · rw [if_neg h1]
      omega

/-- The bytes of the first k items. -/
def cat (kd : Nat → Nat) (nm : Nat → Int) (st : Nat → ByteArray) : Nat → List UInt8
  | 0 => []
  | k + 1 => cat kd nm st k ++ encI (kd k) (nm k) (st k)

/-- May the first k items be? -/
def okk (kd : Nat → Nat) (nm : Nat → Int) : Nat → Bool
  | 0 => true
  | k + 1 => okk kd nm k && okI (kd k) (nm k)

theorem cat_len (kd : Nat → Nat) (nm : Nat → Int) (st : Nat → ByteArray) : ∀ k, (∀ j, j < k → (st j).size ≤ 300) → (cat kd nm st k).length ≤ 310 * k
  | 0, _ => by simp [cat]
  | k + 1, h => by
    have h1 := cat_len kd nm st k (fun j hj => h j (by omega))
    have h2 := encI_len (kd k) (nm k) (st k) (h k (by omega))
    rw [cat, List.length_append]
    omega
end Go.Proofs.Ytlajableceaoaaa
