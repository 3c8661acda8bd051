/-
  Bytes to base 16, as the document has it.
-/
import Derived.Test.YtkkacngildnlkaaDoorW12
namespace Go.Proofs.YtkkacngildnlkaaDoor
open Go.RowKit

theorem strOf_append' (l m : List Nat) : strOf (l ++ m) = strOf l ++ strOf m := by
  apply ByteArray.ext
  simp [strOf]

theorem conv1 (w : World) (x : Nat) : (convert 37 9 (.slice (some ⟨w.heap.size, 0, none⟩) 1 1)).run Tryd.prog (w.alloc (.cells #[.int .u8 (x : Int)] 5)) = .ok (.string (strOf [x])) (w.alloc (.cells #[.int .u8 (x : Int)] 5)) := by
  have h1 := World.ownsRow_lit (base := w.heap.size) (e := 5) (size := 1) w #[.int .u8 (x : Int)] 1 (Nat.le_refl _) (by decide) rfl
  exact conv_own w.heap.size w.heap.size 1 [x] 1 _ rfl h1

/-- Half of a byte. -/
def half (x k : Nat) : Nat := if k = 0 then x / 16 else x % 16

theorem hexd_lo (n : Nat) (h : n < 10) : hexd n = 48 + n := if_pos h
theorem hexd_hi (n : Nat) (h : ¬ n < 10) : hexd n = 87 + n := if_neg h

/-- What the document's 'Hex' has behind k halves of byte x. -/
def hexP (l : List Nat) (x k : Nat) : List Nat := hexL l ++ (List.range k).map fun j => hexd (half x j)

theorem hexP_two (l : List Nat) (x : Nat) : hexP l x 2 = hexL (l ++ [x]) := by
  rw [hexL_snoc]
  rfl
theorem hexP_succ (l : List Nat) (x k : Nat) : hexP l x (k + 1) = hexP l x k ++ [hexd (half x k)] := by simp [hexP, List.range_succ]
theorem hexP_len (l : List Nat) (x k : Nat) : (hexP l x k).length = 2 * l.length + k := by simp [hexP, hexL_len]

set_option maxHeartbeats 1600000 in
set_option maxRecDepth 100000 in
theorem refHex_any (s : ByteArray) (w : World) (hs : s.size ≤ 100000) :
    Calls Tryd.prog 12 #[.string s] w fun e w' => e = .returned (.string (strOf (hexL (bytes s)))) ∧ Below w.heap.size w w' := by
  go_enter Tryd.func12, Tryd.ntmps12
  go_wp2
  go_loopg [3, 4] s.size (fun gh s3 s4 wr => ∃ i : Nat, s.size - i ≤ gh ∧ i ≤ s.size ∧ s3 = .string (strOf (hexL ((bytes s).take i))) ∧ s4 = .int .i64 (i : Int) ∧ Below w.heap.size w wr)
  case atStart => exact ⟨0, by omega, by omega, rfl, rfl, Below.refl _ _⟩
  case round =>
    obtain ⟨i, hgh, hi, rfl, rfl, hb⟩ := hrel
    by_cases hlt : i < s.size
    · obtain ⟨x, hx⟩ : ∃ x, s[i].toNat = x := ⟨_, rfl⟩
      have hxl : x < 256 := by rw [← hx]; exact s[i].toNat_lt
      obtain ⟨L, hL⟩ : ∃ L, L = (bytes s).take i := ⟨_, rfl⟩
      rw [← hL]
      have HL : Aside (L = (bytes s).take i ∧ hexL ((bytes s).take (i + 1)) = hexP L x 2 ∧ L.length = i) := by
        refine ⟨hL, ?_, by rw [hL, List.length_take, bytes_len]; omega⟩
        rw [bytes_at s i hlt, hx, hexP_two, hL]
      have HB : Aside (Below w.heap.size w wr) := hb
      clear hL hb
      go_wp2
      go_loopg [3, 5] 2 (fun gh s3 s5 wr => ∃ k : Nat, 2 - k ≤ gh ∧ k ≤ 2 ∧ s3 = .string (strOf (hexP L x k)) ∧ s5 = .int .i64 (k : Int) ∧ Below w.heap.size w wr)
      case atStart => exact ⟨0, by omega, by omega, by simp [hexP], rfl, HB.out⟩
      case round =>
        clear HB
        obtain ⟨k, hgh2, hk, rfl, rfl, hb⟩ := hrel
        by_cases hk2 : k < 2
        · have d1 : decide ((k : Int) < 2) = true := by simp; omega
          obtain ⟨n, hn⟩ : ∃ n, n = half x k := ⟨_, rfl⟩
          have hn16 : n < 16 := by rw [hn]; unfold half; split <;> omega
          obtain ⟨S, hS⟩ : ∃ S, S = strOf (hexP L x k) := ⟨_, rfl⟩
          have hSs : S.size ≤ 300000 := by rw [hS, strOf_size, hexP_len, HL.out.2.2]; omega
          obtain ⟨c, hc⟩ : ∃ c, c = hexd n := ⟨_, rfl⟩
          have hcv := conv1 wr c
          obtain ⟨Y, hY⟩ : ∃ Y, Y = strOf [c] := ⟨_, rfl⟩
          have hYs : Y.size ≤ 1 := by rw [hY]; exact Nat.le_refl _
          rw [← hY] at hcv
          obtain ⟨S2, hS2⟩ : ∃ S2, S ++ Y = S2 := ⟨_, rfl⟩
          have HN : Aside (strOf (hexP L x (k + 1)) = S2 ∧ Below w.heap.size w (wr.alloc (.cells #[.int .u8 (c : Int)] 5))) := by
            refine ⟨?_, hb.alloc hb.size _⟩
            rw [hexP_succ, strOf_append', ← hn, ← hc, ← hY, ← hS]
            exact hS2
          rw [← hS]
          clear hS hY hb
          by_cases hk0 : k = 0
          · subst hk0
            have hn1 : (x : Int) / 16 = (n : Int) := by rw [hn]; simp [half]
            clear hn
            by_cases h10 : n < 10
            · have d2 : decide ((n : Int) < 10) = true := by simp; omega
              have hc2 : (48 : Int) + (n : Int) = (c : Int) := by rw [hc, hexd_lo n h10]; simp
              clear hc h10
              go_wp2
              go_roundg (2 - (0 + 1))
              case measure => omega
              case rel => exact ⟨1, Nat.le_refl _, by omega, by rw [HN.out.1], rfl, HN.out.2⟩
            · have d2 : decide ((n : Int) < 10) = false := by simp; omega
              have hc2 : (97 : Int) + (n : Int) - 10 = (c : Int) := by rw [hc, hexd_hi n h10]; omega
              clear hc h10
              go_wp2
              go_roundg (2 - (0 + 1))
              case measure => omega
              case rel => exact ⟨1, Nat.le_refl _, by omega, by rw [HN.out.1], rfl, HN.out.2⟩
          · obtain rfl : k = 1 := by omega
            have hn1 : (x : Int) % 16 = (n : Int) := by rw [hn]; simp [half]
            clear hn
            by_cases h10 : n < 10
            · have d2 : decide ((n : Int) < 10) = true := by simp; omega
              have hc2 : (48 : Int) + (n : Int) = (c : Int) := by rw [hc, hexd_lo n h10]; simp
              clear hc h10
              go_wp2
              go_roundg (2 - (1 + 1))
              case measure => omega
              case rel => exact ⟨2, Nat.le_refl _, by omega, by rw [HN.out.1], rfl, HN.out.2⟩
            · have d2 : decide ((n : Int) < 10) = false := by simp; omega
              have hc2 : (97 : Int) + (n : Int) - 10 = (c : Int) := by rw [hc, hexd_hi n h10]; omega
              clear hc h10
              go_wp2
              go_roundg (2 - (1 + 1))
              case measure => omega
              case rel => exact ⟨2, Nat.le_refl _, by omega, by rw [HN.out.1], rfl, HN.out.2⟩
        · obtain rfl : k = 2 := by omega
          have HB : Aside (Below w.heap.size w wr) := hb
          obtain ⟨S, hS⟩ : ∃ S, S = strOf (hexP L x 2) := ⟨_, rfl⟩
          have HS : Aside (S = strOf (hexP L x 2)) := hS
          rw [← hS]
          clear hb hS
          go_wp2
          go_roundg (s.size - (i + 1))
          case measure => omega
          case rel => exact ⟨i + 1, Nat.le_refl _, by omega, by rw [HL.out.2.1, HS.out], by go_num, HB.out⟩
    · obtain rfl : i = s.size := by omega
      have e : (bytes s).take s.size = bytes s := List.take_of_length_le (by rw [bytes_len]; omega)
      rw [e]
      have HB : Aside (Below w.heap.size w wr) := hb
      clear hb e
      go_wp2
      go_ret
      exact ⟨rfl, HB.out⟩
end Go.Proofs.YtkkacngildnlkaaDoor
