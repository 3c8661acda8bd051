/-
  The form of a method: as the program tells it, and as the document does.
-/
import Derived.Test.YtkijglkjpgjdaaaDoorC2
import Derived.Test.YtkijglkjpgjdaaaDoorC3
import Derived.Test.YtkijglkjpgjdaaaDoorPB2
import Derived.Test.YtkijglkjpgjdaaaDoorSF4
namespace Go.Proofs.YtkijglkjpgjdaaaDoor
open Go.RowKit

/-- A text, and whether there is one. -/
def opt (o : Option (List UInt8)) : Value := match o with
  | none => .tuple #[.string ⟨#[]⟩, .bool false]
  | some l => .tuple #[.string ⟨l.toArray⟩, .bool true]

theorem byte_at (s : ByteArray) (i : Nat) (h : i < s.size) : s.data.toList.drop i = s[i] :: s.data.toList.drop (i + 1) := by
  have hl : i < s.data.toList.length := h
  rw [List.drop_eq_getElem_cons hl]
  rfl

theorem meth_no (l : List UInt8) (h : ¬ (1 ≤ l.length ∧ l.length ≤ 8)) : Cn.meth l = none := by
  unfold Cn.meth
  rw [if_neg (fun k => h ⟨k.1, k.2.1⟩)]

theorem letter_low (b : UInt8) (h : Cn.letter b = true) : b.toNat < 128 := by
  simp [Cn.letter] at h
  omega

set_option maxHeartbeats 1600000 in
theorem method_any (s : ByteArray) (w : World) (hs : s.size ≤ 1000000) :
    Calls Tryd.prog 10 #[.string s] w fun e w' => e = .returned (opt (Cn.meth s.data.toList)) ∧ Below w.heap.size w w' := by
  by_cases h0 : 1 ≤ s.size
  · have d0 := Si.toList_some h0
    by_cases h8 : s.size ≤ 8
    · have d8 : decide (8 < (s.size : Int)) = false := by simp; omega
      have hlen : s.data.toList.length = s.size := rfl
      have kl := isLetter_any
      go_enter Tryd.func10, Tryd.ntmps10
      go_wp2
      go_loopg [14] s.size (fun gh s14 wr => ∃ k : Nat, s.size - k ≤ gh ∧ k ≤ s.size ∧ s14 = .int .i64 (k : Int) ∧ (s.data.toList.drop k).all Cn.letter = s.data.toList.all Cn.letter ∧ wr = w)
      case atStart => exact ⟨0, by omega, by omega, rfl, rfl, rfl⟩
      case round =>
        obtain ⟨k, hgh, hk, rfl, hall, rfl⟩ := hrel
        by_cases hp : k < s.size
        · rw [byte_at s k hp, List.all_cons] at hall
          by_cases hc : Cn.letter s[k] = true
          · rw [hc, Bool.true_and] at hall
            have kk := kl s[k]
            rw [hc] at kk
            have A : Aside ((s.data.toList.drop (k + 1)).all Cn.letter = s.data.toList.all Cn.letter) := hall
            clear hall hc kl
            go_wp2_with (go_at_call 24; refine (kk _).mono ?_; rintro e w1 ⟨rfl, rfl⟩)
            go_roundg (s.size - (k + 1))
            case measure => omega
            case rel => exact ⟨k + 1, Nat.le_refl _, by omega, by go_num, A.out, rfl⟩
          · have hc : Cn.letter s[k] = false := by simpa using hc
            rw [hc, Bool.false_and] at hall
            have kk := kl s[k]
            rw [hc] at kk
            have A : Aside (Cn.meth s.data.toList = none) := by
              show _ = _
              unfold Cn.meth
              rw [if_neg (fun h => by rw [← hall] at h; exact absurd h.2.2 (by simp))]
            clear hall hc kl
            go_wp2_with (go_at_call 24; refine (kk _).mono ?_; rintro e w1 ⟨rfl, rfl⟩)
            go_ret2
            exact ⟨by rw [A.out]; rfl, Below.refl _ _⟩
        · obtain rfl : k = s.size := by omega
          have hd : s.data.toList.drop s.size = [] := List.drop_eq_nil_of_le (by omega)
          rw [hd] at hall
          have hal : s.data.toList.all Cn.letter = true := hall.symm
          have A : Aside (Cn.meth s.data.toList = some (Lib.toUpperA s.data.toList)) := by
            show _ = _
            unfold Cn.meth
            rw [if_pos ⟨by omega, by omega, hal⟩]
          have ku := toUpper_call s wr hs (fun b hb => letter_low b (List.all_eq_true.1 hal b hb))
          clear hall hal hd kl
          go_wp2_with (go_at_call 25; refine ku.mono ?_; rintro e w1 ⟨rfl, hb1⟩)
          go_ret2
          exact ⟨by rw [A.out]; rfl, hb1⟩
    · have d8 : decide (8 < (s.size : Int)) = true := by simp; omega
      have hlen : s.data.toList.length = s.size := rfl
      rw [meth_no _ (by omega)]
      go_enter Tryd.func10, Tryd.ntmps10
      go_wp2
      go_ret2
      exact ⟨rfl, Below.refl _ _⟩
  · have d0 := Si.toList_empty (show s.size = 0 by omega)
    have hlen : s.data.toList.length = s.size := rfl
    rw [meth_no _ (by omega)]
    go_enter Tryd.func10, Tryd.ntmps10
    go_wp2
    go_ret2
    exact ⟨rfl, Below.refl _ _⟩

theorem up_of (b : UInt8) (h : 97 ≤ b.toNat ∧ b.toNat ≤ 122) : UInt8.ofNat (b.toNat - 32) = Lib.upperB b := by
  have hall : ∀ n : Fin 256, 97 ≤ n.val ∧ n.val ≤ 122 → UInt8.ofNat (n.val - 32) = Lib.upperB (UInt8.ofNat n.val) := by decide +kernel
  have := hall ⟨b.toNat, b.toNat_lt⟩ h
  dsimp only at this
  rwa [UInt8.ofNat_toNat] at this
theorem up_same (b : UInt8) (h : 65 ≤ b.toNat ∧ b.toNat ≤ 90) : b = Lib.upperB b := by
  have hall : ∀ n : Fin 256, 65 ≤ n.val ∧ n.val ≤ 90 → UInt8.ofNat n.val = Lib.upperB (UInt8.ofNat n.val) := by decide +kernel
  have := hall ⟨b.toNat, b.toNat_lt⟩ h
  dsimp only at this
  rwa [UInt8.ofNat_toNat] at this

theorem take_snoc (s : ByteArray) (k : Nat) (h : k < s.size) : s.data.toList.take (k + 1) = s.data.toList.take k ++ [s[k]] := by
  have hl : k < s.data.toList.length := h
  rw [List.take_succ_eq_append_getElem hl]
  rfl

/-- The great letters of the first k bytes. -/
def ups (s : ByteArray) (k : Nat) : ByteArray := ⟨((s.data.toList.take k).map Lib.upperB).toArray⟩

theorem ups_next (s : ByteArray) (k : Nat) (h : k < s.size) (x : UInt8) (hx : x = Lib.upperB s[k]) : ups s k ++ ⟨#[x]⟩ = ups s (k + 1) := by
  unfold ups
  rw [take_snoc s k h, List.map_append, ← Pa.mk_append, hx]
  rfl

theorem ups_size (s : ByteArray) (k : Nat) (h : k ≤ s.size) : (ups s k).size = k := by
  have : s.data.toList.length = s.size := rfl
  unfold ups
  rw [Pa.size_mk, List.length_map, List.length_take]
  omega

set_option maxHeartbeats 1600000 in
theorem refMethod_any (s : ByteArray) (w : World) :
    Calls Tryd.prog 11 #[.string s] w fun e w' => e = .returned (opt (Cn.meth s.data.toList)) ∧ Below w.heap.size w w' := by
  have hlen : s.data.toList.length = s.size := rfl
  by_cases h0 : 1 ≤ s.size
  · have d0 : decide ((s.size : Int) < 1) = false := by simp; omega
    by_cases h8 : s.size ≤ 8
    · have d8 : decide (8 < (s.size : Int)) = false := by simp; omega
      have hc := Pa.conv_one
      go_enter Tryd.func11, Tryd.ntmps11
      go_wp2
      go_loopg [4, 5] s.size (fun gh s4 s5 wr => ∃ k : Nat, s.size - k ≤ gh ∧ k ≤ s.size ∧ s5 = .int .i64 (k : Int) ∧ s4 = .string (ups s k) ∧ (s.data.toList.drop k).all Cn.letter = s.data.toList.all Cn.letter ∧ Below w.heap.size w wr)
      case atStart => exact ⟨0, by omega, by omega, rfl, rfl, rfl, Below.refl _ _⟩
      case round =>
        obtain ⟨k, hgh, hk, rfl, rfl, hall, hbw⟩ := hrel
        by_cases hp : k < s.size
        · rw [byte_at s k hp, List.all_cons] at hall
          have hz := ups_size s k hk
          have hb := s[k].toNat_lt
          by_cases hl : 97 ≤ s[k].toNat ∧ s[k].toNat ≤ 122
          · have A : Aside ((s.data.toList.drop (k + 1)).all Cn.letter = s.data.toList.all Cn.letter ∧ ups s k ++ ⟨#[UInt8.ofNat (s[k].toNat - 32)]⟩ = ups s (k + 1)) :=
              ⟨by rw [← hall, show Cn.letter s[k] = true by simp [Cn.letter]; omega, Bool.true_and], ups_next s k hp _ (up_of _ hl)⟩
            clear hall
            have e1 : decide (97 ≤ (s[k].toNat : Int)) = true := by simp; omega
            have e2 : decide ((s[k].toNat : Int) ≤ 122) = true := by simp; omega
            have e3 : decide ((s[k].toNat : Int) - 32 < 65) = false := by simp; omega
            have e4 : decide (90 < (s[k].toNat : Int) - 32) = false := by simp; omega
            go_wp2
            go_roundg (s.size - (k + 1))
            case measure => omega
            case rel => exact ⟨k + 1, Nat.le_refl _, by omega, by go_num, by rw [← A.out.2], A.out.1, hbw.alloc hbw.size _⟩
          · by_cases hg : 65 ≤ s[k].toNat ∧ s[k].toNat ≤ 90
            · have A : Aside ((s.data.toList.drop (k + 1)).all Cn.letter = s.data.toList.all Cn.letter ∧ ups s k ++ ⟨#[s[k]]⟩ = ups s (k + 1)) :=
                ⟨by rw [← hall, show Cn.letter s[k] = true by simp [Cn.letter]; omega, Bool.true_and], ups_next s k hp _ (up_same _ hg)⟩
              clear hall
              have e0 : (decide (97 ≤ (s[k].toNat : Int)) = false) := by simp; omega
              have e3 : decide ((s[k].toNat : Int) < 65) = false := by simp; omega
              have e4 : decide (90 < (s[k].toNat : Int)) = false := by simp; omega
              go_wp2
              go_roundg (s.size - (k + 1))
              case measure => omega
              case rel => exact ⟨k + 1, Nat.le_refl _, by omega, by go_num, by rw [← A.out.2], A.out.1, hbw.alloc hbw.size _⟩
            · have A : Aside (Cn.meth s.data.toList = none) := by
                show _ = _
                have hf : Cn.letter s[k] = false := by simp [Cn.letter]; omega
                rw [hf, Bool.false_and] at hall
                unfold Cn.meth
                rw [if_neg (fun h => by rw [← hall] at h; exact absurd h.2.2 (by simp))]
              clear hall
              clear hc
              go_wp2
              all_goals first
                | (go_ret2; exact ⟨by rw [A.out]; rfl, hbw⟩)
        · obtain rfl : k = s.size := by omega
          have hd : s.data.toList.drop s.size = [] := List.drop_eq_nil_of_le (by omega)
          rw [hd] at hall
          have hal : s.data.toList.all Cn.letter = true := hall.symm
          have A : Aside (Cn.meth s.data.toList = some (Lib.toUpperA s.data.toList)) := by
            show _ = _
            unfold Cn.meth
            rw [if_pos ⟨by omega, by omega, hal⟩]
          have E : Aside (ups s s.size = ⟨(Lib.toUpperA s.data.toList).toArray⟩) := by
            show _ = _
            unfold ups Lib.toUpperA
            rw [List.take_of_length_le (by omega)]
          clear hall hal hd
          go_wp2
          go_ret2
          exact ⟨by rw [A.out, E.out]; rfl, hbw⟩
    · have d8 : decide (8 < (s.size : Int)) = true := by simp; omega
      rw [meth_no _ (by omega)]
      go_enter Tryd.func11, Tryd.ntmps11
      go_wp2
      go_ret2
      exact ⟨rfl, Below.refl _ _⟩
  · have d0 : decide ((s.size : Int) < 1) = true := by simp; omega
    rw [meth_no _ (by omega)]
    go_enter Tryd.func11, Tryd.ntmps11
    go_wp2
    go_ret2
    exact ⟨rfl, Below.refl _ _⟩
end Go.Proofs.YtkijglkjpgjdaaaDoor
