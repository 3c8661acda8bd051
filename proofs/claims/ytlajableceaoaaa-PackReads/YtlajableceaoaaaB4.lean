/-
  What was laid is read: a number, a text, bytes at the beginning of what an Opener holds.
-/
import Derived.Test.YtlajableceaoaaaB1
namespace Go.Proofs.Ytlajableceaoaaa
open Go.RowKit

theorem ext_drop (a b : List UInt8) (n : Nat) (hn : n = a.length) : (ByteArray.mk (a ++ b).toArray).extract n (ByteArray.mk (a ++ b).toArray).size = ⟨b.toArray⟩ := by
  apply ByteArray.ext
  apply Array.toList_inj.1
  rw [ByteArray.data_extract, size_mk]
  simp [hn]

theorem ext_take (a b : List UInt8) (n : Nat) (hn : n = a.length) : (ByteArray.mk (a ++ b).toArray).extract 0 n = ⟨a.toArray⟩ := by
  apply ByteArray.ext
  apply Array.toList_inj.1
  rw [ByteArray.data_extract]
  simp [hn]

theorem readNum (b n : Nat) (t : List UInt8) (most : Int) (w : World) (h : At w b 45 ⟨(Pk.numB n ++ t).toArray⟩ false) (hn : n ≤ 4611686018427387904) (hm : (n : Int) ≤ most) (hs : (Pk.numB n ++ t).length ≤ 1000000) :
    Calls Try.prog 15 #[.pointer (some ⟨b, 0, none⟩), .int .i64 most] w fun e w' => e = .returned (.int .i64 (n : Int)) ∧ At w' b 45 ⟨t.toArray⟩ false ∧ Upd b w w' := by
  have hl := Pk.numB_len hn
  have k := oNum_yes b _ most w h (by rw [size_mk]; exact hs) (n, (Pk.numB n).length) (Pk.headB_numB n t hn).symm (by show (Pk.numB n).length ≠ 0; omega) hm
  rw [ext_drop _ _ _ rfl] at k
  exact k

theorem readText (b : Nat) (s : ByteArray) (t : List UInt8) (most : Int) (w : World) (h : At w b 45 ⟨((Pk.numB s.size ++ s.data.toList) ++ t).toArray⟩ false) (hm : (s.size : Int) ≤ most) (hs : ((Pk.numB s.size ++ s.data.toList) ++ t).length ≤ 1000000) :
    Calls Try.prog 16 #[.pointer (some ⟨b, 0, none⟩), .int .i64 most] w fun e w' => e = .returned (.string s) ∧ At w' b 45 ⟨t.toArray⟩ false ∧ Upd b w w' := by
  have hd : s.data.toList.length = s.size := by rw [Array.length_toList]; rfl
  have hs2 : s.size ≤ 1000000 := by
    rw [List.length_append, List.length_append] at hs
    omega
  have hl := Pk.numB_len (a := s.size) (by omega)
  rw [List.append_assoc] at h hs
  have k := oText_yes b _ most w h (by rw [size_mk]; exact hs) (s.size, (Pk.numB s.size).length) (Pk.headB_numB s.size (s.data.toList ++ t) (by omega)).symm (by show (Pk.numB s.size).length ≠ 0; omega) hm
    ⟨(s.data.toList ++ t).toArray⟩ (ext_drop _ _ _ rfl).symm (by rw [size_mk (s.data.toList ++ t), List.length_append]; show s.size ≤ _; omega)
  rw [ext_drop _ _ _ hd.symm, ext_take _ _ _ hd.symm, mk_data] at k
  exact k

theorem readRaw (b : Nat) (s : ByteArray) (t : List UInt8) (w : World) (h : At w b 45 ⟨(s.data.toList ++ t).toArray⟩ false) (hs : (s.data.toList ++ t).length ≤ 1000000) :
    Calls Try.prog 17 #[.pointer (some ⟨b, 0, none⟩), .int .i64 (s.size : Int)] w fun e w' => e = .returned (.string s) ∧ At w' b 45 ⟨t.toArray⟩ false ∧ Upd b w w' := by
  have hd : s.data.toList.length = s.size := by rw [Array.length_toList]; rfl
  have k := oRaw_yes b s.size _ w h (by rw [size_mk (s.data.toList ++ t), List.length_append]; omega) (by rw [size_mk]; exact hs)
  rw [ext_drop _ _ _ hd.symm, ext_take _ _ _ hd.symm, mk_data] at k
  exact k

/-- The bytes of m items from the k-th on. -/
def rst (kd : Nat → Nat) (nm : Nat → Int) (st : Nat → ByteArray) : Nat → Nat → List UInt8
  | 0, _ => []
  | m + 1, k => encI (kd k) (nm k) (st k) ++ rst kd nm st m (k + 1)

theorem cat_rst (kd : Nat → Nat) (nm : Nat → Int) (st : Nat → ByteArray) : ∀ m k, cat kd nm st k ++ rst kd nm st m k = cat kd nm st (k + m)
  | 0, k => by simp [rst]
  | m + 1, k => by
    rw [rst, ← List.append_assoc, ← cat, cat_rst kd nm st m (k + 1)]
    congr 1
    omega

theorem okk_all (kd : Nat → Nat) (nm : Nat → Int) : ∀ len, okk kd nm len = true → ∀ j, j < len → okI (kd j) (nm j) = true
  | 0, _, j, hj => by omega
  | n + 1, h, j, hj => by
    rw [okk, Bool.and_eq_true] at h
    rcases Nat.lt_succ_iff_lt_or_eq.1 hj with h1 | h1
    · exact okk_all kd nm n h.1 j h1
    · rw [h1]
      exact h.2

theorem okI_num {kd : Nat} {n : Int} (h : okI kd n = true) (h0 : kd % 3 = 0) : 0 ≤ n ∧ n ≤ 4611686018427387904 := by
  unfold okI at h
  rw [Bool.not_eq_true', decide_eq_false_iff_not] at h
  omega
end Go.Proofs.Ytlajableceaoaaa
