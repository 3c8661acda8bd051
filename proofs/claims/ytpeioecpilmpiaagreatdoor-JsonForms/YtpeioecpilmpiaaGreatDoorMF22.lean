/-
  YtpeioecpilmpiaaGreatDoor: the texts SF1, one behind the other.
-/
import Derived.Test.YtpeioecpilmpiaaGreatDoorMF21
/-
  The document's own reading of the first sign: the same as the model's.
-/
namespace Go.Proofs.YtpeioecpilmpiaaGreatDoor.Si
open Go.RowKit

theorem index_str (t : ByteArray) (n : Nat) (h : n < t.size) (z : Int) (hz : z = (n : Int)) (w : World) : (Instr.index 9 (.string t) (.int .i64 z)).run Tryz.prog w = .ok (.int .u8 ((t.get! n).toNat : Int)) w := by
  subst hz
  have h0 : (0 : Int) ≤ (n : Int) := by omega
  have h1 : t[n]? = some t[n] := getElem?_pos t n h
  have h2 : t.get! n = t[n] := by rw [← get_at t n h]
  simp only [Instr.index, asIntOf, Sem.run_bind, Sem.run_pure, Result.andThen_ok, run_underlying Tryz.underlying9, h0, if_true, Int.toNat_natCast, h1, h2]

/-- Is a byte one that goes on? -/
def tl (t : ByteArray) (k : Nat) : Bool := decide (k < t.size) && (decide (128 ≤ (t.get! k).toNat) && decide ((t.get! k).toNat < 192))

theorem tail_any (t : ByteArray) (k : Nat) (w : World) (_hk : k ≤ 3) (_ht : t.size ≤ 1000000) :
    Calls Tryz.prog 45 #[.string t, .int .i64 (k : Int)] w fun e w' => e = .returned (.bool (tl t k)) ∧ w' = w := by
  by_cases h : k < t.size
  · have hx := index_str t k h (k : Int) rfl
    have h0 : decide (k < t.size) = true := by simpa using h
    by_cases h1 : 128 ≤ (t.get! k).toNat
    · have d1 : decide (128 ≤ ((t.get! k).toNat : Int)) = true := by simp; omega
      by_cases h2 : (t.get! k).toNat < 192
      · have d2 : decide (((t.get! k).toNat : Int) < 192) = true := by simp; omega
        have e : tl t k = true := by simp [tl, h, h1, h2]
        rw [e]
        go_enter Tryz.func45, Tryz.ntmps45
        go_wp2
        go_ret
        exact ⟨rfl, rfl⟩
      · have d2 : decide (((t.get! k).toNat : Int) < 192) = false := by simp; omega
        have e : tl t k = false := by simp [tl, h2]
        rw [e]
        go_enter Tryz.func45, Tryz.ntmps45
        go_wp2
        go_ret
        exact ⟨rfl, rfl⟩
    · have d1 : decide (128 ≤ ((t.get! k).toNat : Int)) = false := by simp; omega
      have e : tl t k = false := by simp [tl, h1]
      rw [e]
      go_enter Tryz.func45, Tryz.ntmps45
      go_wp2
      go_ret
      exact ⟨rfl, rfl⟩
  · have h0 : decide (k < t.size) = false := by simpa using h
    have e : tl t k = false := by simp [tl, h]
    rw [e]
    go_enter Tryz.func45, Tryz.ntmps45
    go_wp2
    go_ret
    exact ⟨rfl, rfl⟩

set_option maxHeartbeats 1600000 in
theorem first_a (t : ByteArray) (b0 : Nat) (w : World) (hl : 0 ≤ b0) (hh : b0 < 128) (T : Int → Bool) (_k1 : Aside (∀ (z : Int) u, (1 ≤ z ∧ z ≤ 3) → Calls Tryz.prog 45 #[.string t, .int .i64 z] u fun e w' => e = .returned (.bool (T z)) ∧ w' = u)) (hx0 : ∀ u, (Instr.index 9 (.string t) (.int .i64 0)).run Tryz.prog u = .ok (.int .u8 (b0 : Int)) u) :
    Calls Tryz.prog 27 #[.string t] w fun e w' => e = .returned (.tuple #[.int .i64 (b0 : Int), .int .i64 1]) ∧ Below w.heap.size w w' := by
  have d0 : decide ((b0 : Int) < 128) = true := by simp; omega
  have d1 : decide (194 ≤ (b0 : Int)) = false := by simp; omega
  have d2 : decide ((b0 : Int) < 224) = true := by simp; omega
  have d3 : decide (224 ≤ (b0 : Int)) = false := by simp; omega
  have d4 : decide ((b0 : Int) < 240) = true := by simp; omega
  have d5 : decide (240 ≤ (b0 : Int)) = false := by simp; omega
  have d6 : decide ((b0 : Int) < 245) = true := by simp; omega
  go_enter Tryz.func27, Tryz.ntmps27
  go_wp2_with (go_at_call 45; refine (k1.out _ _ (by decide)).mono ?_; rintro e w1 ⟨rfl, rfl⟩)
  go_ret2
  exact ⟨rfl, Below.refl _ _⟩

set_option maxHeartbeats 1600000 in
theorem first_b (t : ByteArray) (b0 : Nat) (w : World) (hl : 128 ≤ b0) (hh : b0 < 194) (T : Int → Bool) (_k1 : Aside (∀ (z : Int) u, (1 ≤ z ∧ z ≤ 3) → Calls Tryz.prog 45 #[.string t, .int .i64 z] u fun e w' => e = .returned (.bool (T z)) ∧ w' = u)) (hx0 : ∀ u, (Instr.index 9 (.string t) (.int .i64 0)).run Tryz.prog u = .ok (.int .u8 (b0 : Int)) u) :
    Calls Tryz.prog 27 #[.string t] w fun e w' => e = .returned (.tuple #[.int .i64 (65533 : Int), .int .i64 1]) ∧ Below w.heap.size w w' := by
  have d0 : decide ((b0 : Int) < 128) = false := by simp; omega
  have d1 : decide (194 ≤ (b0 : Int)) = false := by simp; omega
  have d2 : decide ((b0 : Int) < 224) = true := by simp; omega
  have d3 : decide (224 ≤ (b0 : Int)) = false := by simp; omega
  have d4 : decide ((b0 : Int) < 240) = true := by simp; omega
  have d5 : decide (240 ≤ (b0 : Int)) = false := by simp; omega
  have d6 : decide ((b0 : Int) < 245) = true := by simp; omega
  go_enter Tryz.func27, Tryz.ntmps27
  go_wp2_with (go_at_call 45; refine (k1.out _ _ (by decide)).mono ?_; rintro e w1 ⟨rfl, rfl⟩)
  go_ret2
  exact ⟨rfl, Below.refl _ _⟩

set_option maxHeartbeats 1600000 in
theorem first_c (t : ByteArray) (b0 : Nat) (w : World) (hl : 194 ≤ b0) (hh : b0 < 224) (T : Int → Bool) (k1 : Aside (∀ (z : Int) u, (1 ≤ z ∧ z ≤ 3) → Calls Tryz.prog 45 #[.string t, .int .i64 z] u fun e w' => e = .returned (.bool (T z)) ∧ w' = u)) (t1 : T 1 = true) (hx0 : ∀ u, (Instr.index 9 (.string t) (.int .i64 0)).run Tryz.prog u = .ok (.int .u8 (b0 : Int)) u) (b1 : Nat) (g1 : 128 ≤ b1) (g1' : b1 < 192) (hx1 : ∀ u, (Instr.index 9 (.string t) (.int .i64 1)).run Tryz.prog u = .ok (.int .u8 (b1 : Int)) u) (N : Nat) (hN : ((b0 : Int) - 192) * 64 + (b1 : Int) - 128 = (N : Int)) :
    Calls Tryz.prog 27 #[.string t] w fun e w' => e = .returned (.tuple #[.int .i64 (N : Int), .int .i64 2]) ∧ Below w.heap.size w w' := by
  have d0 : decide ((b0 : Int) < 128) = false := by simp; omega
  have d1 : decide (194 ≤ (b0 : Int)) = true := by simp; omega
  have d2 : decide ((b0 : Int) < 224) = true := by simp; omega
  have d3 : decide (224 ≤ (b0 : Int)) = false := by simp; omega
  have d4 : decide ((b0 : Int) < 240) = true := by simp; omega
  have d5 : decide (240 ≤ (b0 : Int)) = false := by simp; omega
  have d6 : decide ((b0 : Int) < 245) = true := by simp; omega
  go_enter Tryz.func27, Tryz.ntmps27
  go_wp2_with (go_at_call 45; refine (k1.out _ _ (by decide)).mono ?_; rintro e w1 ⟨rfl, rfl⟩)
  go_ret2
  exact ⟨rfl, Below.refl _ _⟩

set_option maxHeartbeats 1600000 in
theorem first_d (t : ByteArray) (b0 : Nat) (w : World) (hl : 194 ≤ b0) (hh : b0 < 224) (T : Int → Bool) (k1 : Aside (∀ (z : Int) u, (1 ≤ z ∧ z ≤ 3) → Calls Tryz.prog 45 #[.string t, .int .i64 z] u fun e w' => e = .returned (.bool (T z)) ∧ w' = u)) (t1 : T 1 = false) (hx0 : ∀ u, (Instr.index 9 (.string t) (.int .i64 0)).run Tryz.prog u = .ok (.int .u8 (b0 : Int)) u) :
    Calls Tryz.prog 27 #[.string t] w fun e w' => e = .returned (.tuple #[.int .i64 (65533 : Int), .int .i64 1]) ∧ Below w.heap.size w w' := by
  have d0 : decide ((b0 : Int) < 128) = false := by simp; omega
  have d1 : decide (194 ≤ (b0 : Int)) = true := by simp; omega
  have d2 : decide ((b0 : Int) < 224) = true := by simp; omega
  have d3 : decide (224 ≤ (b0 : Int)) = false := by simp; omega
  have d4 : decide ((b0 : Int) < 240) = true := by simp; omega
  have d5 : decide (240 ≤ (b0 : Int)) = false := by simp; omega
  have d6 : decide ((b0 : Int) < 245) = true := by simp; omega
  go_enter Tryz.func27, Tryz.ntmps27
  go_wp2_with (go_at_call 45; refine (k1.out _ _ (by decide)).mono ?_; rintro e w1 ⟨rfl, rfl⟩)
  go_ret2
  exact ⟨rfl, Below.refl _ _⟩

set_option maxHeartbeats 1600000 in
theorem first_e (t : ByteArray) (b0 : Nat) (w : World) (hl : 224 ≤ b0) (hh : b0 < 240) (T : Int → Bool) (k1 : Aside (∀ (z : Int) u, (1 ≤ z ∧ z ≤ 3) → Calls Tryz.prog 45 #[.string t, .int .i64 z] u fun e w' => e = .returned (.bool (T z)) ∧ w' = u)) (t1 : T 1 = false) (hx0 : ∀ u, (Instr.index 9 (.string t) (.int .i64 0)).run Tryz.prog u = .ok (.int .u8 (b0 : Int)) u) :
    Calls Tryz.prog 27 #[.string t] w fun e w' => e = .returned (.tuple #[.int .i64 (65533 : Int), .int .i64 1]) ∧ Below w.heap.size w w' := by
  have d0 : decide ((b0 : Int) < 128) = false := by simp; omega
  have d1 : decide (194 ≤ (b0 : Int)) = true := by simp; omega
  have d2 : decide ((b0 : Int) < 224) = false := by simp; omega
  have d3 : decide (224 ≤ (b0 : Int)) = true := by simp; omega
  have d4 : decide ((b0 : Int) < 240) = true := by simp; omega
  have d5 : decide (240 ≤ (b0 : Int)) = false := by simp; omega
  have d6 : decide ((b0 : Int) < 245) = true := by simp; omega
  go_enter Tryz.func27, Tryz.ntmps27
  go_wp2_with (go_at_call 45; refine (k1.out _ _ (by decide)).mono ?_; rintro e w1 ⟨rfl, rfl⟩)
  go_ret2
  exact ⟨rfl, Below.refl _ _⟩

set_option maxHeartbeats 1600000 in
theorem first_f (t : ByteArray) (b0 : Nat) (w : World) (hl : 224 ≤ b0) (hh : b0 < 240) (T : Int → Bool) (k1 : Aside (∀ (z : Int) u, (1 ≤ z ∧ z ≤ 3) → Calls Tryz.prog 45 #[.string t, .int .i64 z] u fun e w' => e = .returned (.bool (T z)) ∧ w' = u)) (t1 : T 1 = true) (t2 : T 2 = false) (hx0 : ∀ u, (Instr.index 9 (.string t) (.int .i64 0)).run Tryz.prog u = .ok (.int .u8 (b0 : Int)) u) :
    Calls Tryz.prog 27 #[.string t] w fun e w' => e = .returned (.tuple #[.int .i64 (65533 : Int), .int .i64 1]) ∧ Below w.heap.size w w' := by
  have d0 : decide ((b0 : Int) < 128) = false := by simp; omega
  have d1 : decide (194 ≤ (b0 : Int)) = true := by simp; omega
  have d2 : decide ((b0 : Int) < 224) = false := by simp; omega
  have d3 : decide (224 ≤ (b0 : Int)) = true := by simp; omega
  have d4 : decide ((b0 : Int) < 240) = true := by simp; omega
  have d5 : decide (240 ≤ (b0 : Int)) = false := by simp; omega
  have d6 : decide ((b0 : Int) < 245) = true := by simp; omega
  go_enter Tryz.func27, Tryz.ntmps27
  go_wp2_with (go_at_call 45; refine (k1.out _ _ (by decide)).mono ?_; rintro e w1 ⟨rfl, rfl⟩)
  go_ret2
  exact ⟨rfl, Below.refl _ _⟩

set_option maxHeartbeats 1600000 in
theorem first_g (t : ByteArray) (b0 : Nat) (w : World) (hl : 224 ≤ b0) (hh : b0 < 240) (T : Int → Bool) (k1 : Aside (∀ (z : Int) u, (1 ≤ z ∧ z ≤ 3) → Calls Tryz.prog 45 #[.string t, .int .i64 z] u fun e w' => e = .returned (.bool (T z)) ∧ w' = u)) (t1 : T 1 = true) (t2 : T 2 = true) (hx0 : ∀ u, (Instr.index 9 (.string t) (.int .i64 0)).run Tryz.prog u = .ok (.int .u8 (b0 : Int)) u) (b1 : Nat) (g1 : 128 ≤ b1) (g1' : b1 < 192) (hx1 : ∀ u, (Instr.index 9 (.string t) (.int .i64 1)).run Tryz.prog u = .ok (.int .u8 (b1 : Int)) u) (b2 : Nat) (g2 : 128 ≤ b2) (g2' : b2 < 192) (hx2 : ∀ u, (Instr.index 9 (.string t) (.int .i64 2)).run Tryz.prog u = .ok (.int .u8 (b2 : Int)) u) (N : Nat) (hN : ((b0 : Int) - 224) * 4096 + ((b1 : Int) - 128) * 64 + (b2 : Int) - 128 = (N : Int)) (hv : N < 2048) :
    Calls Tryz.prog 27 #[.string t] w fun e w' => e = .returned (.tuple #[.int .i64 (65533 : Int), .int .i64 1]) ∧ Below w.heap.size w w' := by
  have d0 : decide ((b0 : Int) < 128) = false := by simp; omega
  have d1 : decide (194 ≤ (b0 : Int)) = true := by simp; omega
  have d2 : decide ((b0 : Int) < 224) = false := by simp; omega
  have d3 : decide (224 ≤ (b0 : Int)) = true := by simp; omega
  have d4 : decide ((b0 : Int) < 240) = true := by simp; omega
  have d5 : decide (240 ≤ (b0 : Int)) = false := by simp; omega
  have d6 : decide ((b0 : Int) < 245) = true := by simp; omega
  have n0 : decide (2048 ≤ (N : Int)) = false := by simp; omega
  have n1 : decide ((N : Int) < 55296) = true := by simp; omega
  have n2 : decide (57343 < (N : Int)) = false := by simp; omega
  go_enter Tryz.func27, Tryz.ntmps27
  go_wp2_with (go_at_call 45; refine (k1.out _ _ (by decide)).mono ?_; rintro e w1 ⟨rfl, rfl⟩)
  go_quiet (fail)
  go_wp2_with (go_at_call 45; refine (k1.out _ _ (by decide)).mono ?_; rintro e w1 ⟨rfl, rfl⟩)
  go_ret2
  exact ⟨rfl, Go.below_drewN (Below.refl _ _) _⟩

set_option maxHeartbeats 1600000 in
theorem first_h (t : ByteArray) (b0 : Nat) (w : World) (hl : 224 ≤ b0) (hh : b0 < 240) (T : Int → Bool) (k1 : Aside (∀ (z : Int) u, (1 ≤ z ∧ z ≤ 3) → Calls Tryz.prog 45 #[.string t, .int .i64 z] u fun e w' => e = .returned (.bool (T z)) ∧ w' = u)) (t1 : T 1 = true) (t2 : T 2 = true) (hx0 : ∀ u, (Instr.index 9 (.string t) (.int .i64 0)).run Tryz.prog u = .ok (.int .u8 (b0 : Int)) u) (b1 : Nat) (g1 : 128 ≤ b1) (g1' : b1 < 192) (hx1 : ∀ u, (Instr.index 9 (.string t) (.int .i64 1)).run Tryz.prog u = .ok (.int .u8 (b1 : Int)) u) (b2 : Nat) (g2 : 128 ≤ b2) (g2' : b2 < 192) (hx2 : ∀ u, (Instr.index 9 (.string t) (.int .i64 2)).run Tryz.prog u = .ok (.int .u8 (b2 : Int)) u) (N : Nat) (hN : ((b0 : Int) - 224) * 4096 + ((b1 : Int) - 128) * 64 + (b2 : Int) - 128 = (N : Int)) (hv : 2048 ≤ N ∧ N < 55296) :
    Calls Tryz.prog 27 #[.string t] w fun e w' => e = .returned (.tuple #[.int .i64 (N : Int), .int .i64 3]) ∧ Below w.heap.size w w' := by
  have d0 : decide ((b0 : Int) < 128) = false := by simp; omega
  have d1 : decide (194 ≤ (b0 : Int)) = true := by simp; omega
  have d2 : decide ((b0 : Int) < 224) = false := by simp; omega
  have d3 : decide (224 ≤ (b0 : Int)) = true := by simp; omega
  have d4 : decide ((b0 : Int) < 240) = true := by simp; omega
  have d5 : decide (240 ≤ (b0 : Int)) = false := by simp; omega
  have d6 : decide ((b0 : Int) < 245) = true := by simp; omega
  have n0 : decide (2048 ≤ (N : Int)) = true := by simp; omega
  have n1 : decide ((N : Int) < 55296) = true := by simp; omega
  have n2 : decide (57343 < (N : Int)) = false := by simp; omega
  go_enter Tryz.func27, Tryz.ntmps27
  go_wp2_with (go_at_call 45; refine (k1.out _ _ (by decide)).mono ?_; rintro e w1 ⟨rfl, rfl⟩)
  go_quiet (fail)
  go_wp2_with (go_at_call 45; refine (k1.out _ _ (by decide)).mono ?_; rintro e w1 ⟨rfl, rfl⟩)
  go_ret2
  exact ⟨rfl, Go.below_drewN (Below.refl _ _) _⟩

set_option maxHeartbeats 1600000 in
theorem first_i (t : ByteArray) (b0 : Nat) (w : World) (hl : 224 ≤ b0) (hh : b0 < 240) (T : Int → Bool) (k1 : Aside (∀ (z : Int) u, (1 ≤ z ∧ z ≤ 3) → Calls Tryz.prog 45 #[.string t, .int .i64 z] u fun e w' => e = .returned (.bool (T z)) ∧ w' = u)) (t1 : T 1 = true) (t2 : T 2 = true) (hx0 : ∀ u, (Instr.index 9 (.string t) (.int .i64 0)).run Tryz.prog u = .ok (.int .u8 (b0 : Int)) u) (b1 : Nat) (g1 : 128 ≤ b1) (g1' : b1 < 192) (hx1 : ∀ u, (Instr.index 9 (.string t) (.int .i64 1)).run Tryz.prog u = .ok (.int .u8 (b1 : Int)) u) (b2 : Nat) (g2 : 128 ≤ b2) (g2' : b2 < 192) (hx2 : ∀ u, (Instr.index 9 (.string t) (.int .i64 2)).run Tryz.prog u = .ok (.int .u8 (b2 : Int)) u) (N : Nat) (hN : ((b0 : Int) - 224) * 4096 + ((b1 : Int) - 128) * 64 + (b2 : Int) - 128 = (N : Int)) (hv : 55296 ≤ N ∧ N ≤ 57343) :
    Calls Tryz.prog 27 #[.string t] w fun e w' => e = .returned (.tuple #[.int .i64 (65533 : Int), .int .i64 1]) ∧ Below w.heap.size w w' := by
  have d0 : decide ((b0 : Int) < 128) = false := by simp; omega
  have d1 : decide (194 ≤ (b0 : Int)) = true := by simp; omega
  have d2 : decide ((b0 : Int) < 224) = false := by simp; omega
  have d3 : decide (224 ≤ (b0 : Int)) = true := by simp; omega
  have d4 : decide ((b0 : Int) < 240) = true := by simp; omega
  have d5 : decide (240 ≤ (b0 : Int)) = false := by simp; omega
  have d6 : decide ((b0 : Int) < 245) = true := by simp; omega
  have n0 : decide (2048 ≤ (N : Int)) = true := by simp; omega
  have n1 : decide ((N : Int) < 55296) = false := by simp; omega
  have n2 : decide (57343 < (N : Int)) = false := by simp; omega
  go_enter Tryz.func27, Tryz.ntmps27
  go_wp2_with (go_at_call 45; refine (k1.out _ _ (by decide)).mono ?_; rintro e w1 ⟨rfl, rfl⟩)
  go_quiet (fail)
  go_wp2_with (go_at_call 45; refine (k1.out _ _ (by decide)).mono ?_; rintro e w1 ⟨rfl, rfl⟩)
  go_ret2
  exact ⟨rfl, Go.below_drewN (Below.refl _ _) _⟩

set_option maxHeartbeats 1600000 in
theorem first_j (t : ByteArray) (b0 : Nat) (w : World) (hl : 224 ≤ b0) (hh : b0 < 240) (T : Int → Bool) (k1 : Aside (∀ (z : Int) u, (1 ≤ z ∧ z ≤ 3) → Calls Tryz.prog 45 #[.string t, .int .i64 z] u fun e w' => e = .returned (.bool (T z)) ∧ w' = u)) (t1 : T 1 = true) (t2 : T 2 = true) (hx0 : ∀ u, (Instr.index 9 (.string t) (.int .i64 0)).run Tryz.prog u = .ok (.int .u8 (b0 : Int)) u) (b1 : Nat) (g1 : 128 ≤ b1) (g1' : b1 < 192) (hx1 : ∀ u, (Instr.index 9 (.string t) (.int .i64 1)).run Tryz.prog u = .ok (.int .u8 (b1 : Int)) u) (b2 : Nat) (g2 : 128 ≤ b2) (g2' : b2 < 192) (hx2 : ∀ u, (Instr.index 9 (.string t) (.int .i64 2)).run Tryz.prog u = .ok (.int .u8 (b2 : Int)) u) (N : Nat) (hN : ((b0 : Int) - 224) * 4096 + ((b1 : Int) - 128) * 64 + (b2 : Int) - 128 = (N : Int)) (hv : 57343 < N) :
    Calls Tryz.prog 27 #[.string t] w fun e w' => e = .returned (.tuple #[.int .i64 (N : Int), .int .i64 3]) ∧ Below w.heap.size w w' := by
  have d0 : decide ((b0 : Int) < 128) = false := by simp; omega
  have d1 : decide (194 ≤ (b0 : Int)) = true := by simp; omega
  have d2 : decide ((b0 : Int) < 224) = false := by simp; omega
  have d3 : decide (224 ≤ (b0 : Int)) = true := by simp; omega
  have d4 : decide ((b0 : Int) < 240) = true := by simp; omega
  have d5 : decide (240 ≤ (b0 : Int)) = false := by simp; omega
  have d6 : decide ((b0 : Int) < 245) = true := by simp; omega
  have n0 : decide (2048 ≤ (N : Int)) = true := by simp; omega
  have n1 : decide ((N : Int) < 55296) = false := by simp; omega
  have n2 : decide (57343 < (N : Int)) = true := by simp; omega
  go_enter Tryz.func27, Tryz.ntmps27
  go_wp2_with (go_at_call 45; refine (k1.out _ _ (by decide)).mono ?_; rintro e w1 ⟨rfl, rfl⟩)
  go_quiet (fail)
  go_wp2_with (go_at_call 45; refine (k1.out _ _ (by decide)).mono ?_; rintro e w1 ⟨rfl, rfl⟩)
  go_ret2
  exact ⟨rfl, Go.below_drewN (Below.refl _ _) _⟩

set_option maxHeartbeats 1600000 in
theorem first_k (t : ByteArray) (b0 : Nat) (w : World) (hl : 240 ≤ b0) (hh : b0 < 245) (T : Int → Bool) (k1 : Aside (∀ (z : Int) u, (1 ≤ z ∧ z ≤ 3) → Calls Tryz.prog 45 #[.string t, .int .i64 z] u fun e w' => e = .returned (.bool (T z)) ∧ w' = u)) (t1 : T 1 = false) (hx0 : ∀ u, (Instr.index 9 (.string t) (.int .i64 0)).run Tryz.prog u = .ok (.int .u8 (b0 : Int)) u) :
    Calls Tryz.prog 27 #[.string t] w fun e w' => e = .returned (.tuple #[.int .i64 (65533 : Int), .int .i64 1]) ∧ Below w.heap.size w w' := by
  have d0 : decide ((b0 : Int) < 128) = false := by simp; omega
  have d1 : decide (194 ≤ (b0 : Int)) = true := by simp; omega
  have d2 : decide ((b0 : Int) < 224) = false := by simp; omega
  have d3 : decide (224 ≤ (b0 : Int)) = true := by simp; omega
  have d4 : decide ((b0 : Int) < 240) = false := by simp; omega
  have d5 : decide (240 ≤ (b0 : Int)) = true := by simp; omega
  have d6 : decide ((b0 : Int) < 245) = true := by simp; omega
  go_enter Tryz.func27, Tryz.ntmps27
  go_wp2_with (go_at_call 45; refine (k1.out _ _ (by decide)).mono ?_; rintro e w1 ⟨rfl, rfl⟩)
  go_ret2
  exact ⟨rfl, Below.refl _ _⟩

set_option maxHeartbeats 1600000 in
theorem first_l (t : ByteArray) (b0 : Nat) (w : World) (hl : 240 ≤ b0) (hh : b0 < 245) (T : Int → Bool) (k1 : Aside (∀ (z : Int) u, (1 ≤ z ∧ z ≤ 3) → Calls Tryz.prog 45 #[.string t, .int .i64 z] u fun e w' => e = .returned (.bool (T z)) ∧ w' = u)) (t1 : T 1 = true) (t2 : T 2 = false) (hx0 : ∀ u, (Instr.index 9 (.string t) (.int .i64 0)).run Tryz.prog u = .ok (.int .u8 (b0 : Int)) u) :
    Calls Tryz.prog 27 #[.string t] w fun e w' => e = .returned (.tuple #[.int .i64 (65533 : Int), .int .i64 1]) ∧ Below w.heap.size w w' := by
  have d0 : decide ((b0 : Int) < 128) = false := by simp; omega
  have d1 : decide (194 ≤ (b0 : Int)) = true := by simp; omega
  have d2 : decide ((b0 : Int) < 224) = false := by simp; omega
  have d3 : decide (224 ≤ (b0 : Int)) = true := by simp; omega
  have d4 : decide ((b0 : Int) < 240) = false := by simp; omega
  have d5 : decide (240 ≤ (b0 : Int)) = true := by simp; omega
  have d6 : decide ((b0 : Int) < 245) = true := by simp; omega
  go_enter Tryz.func27, Tryz.ntmps27
  go_wp2_with (go_at_call 45; refine (k1.out _ _ (by decide)).mono ?_; rintro e w1 ⟨rfl, rfl⟩)
  go_ret2
  exact ⟨rfl, Below.refl _ _⟩

set_option maxHeartbeats 1600000 in
theorem first_m (t : ByteArray) (b0 : Nat) (w : World) (hl : 240 ≤ b0) (hh : b0 < 245) (T : Int → Bool) (k1 : Aside (∀ (z : Int) u, (1 ≤ z ∧ z ≤ 3) → Calls Tryz.prog 45 #[.string t, .int .i64 z] u fun e w' => e = .returned (.bool (T z)) ∧ w' = u)) (t1 : T 1 = true) (t2 : T 2 = true) (t3 : T 3 = false) (hx0 : ∀ u, (Instr.index 9 (.string t) (.int .i64 0)).run Tryz.prog u = .ok (.int .u8 (b0 : Int)) u) :
    Calls Tryz.prog 27 #[.string t] w fun e w' => e = .returned (.tuple #[.int .i64 (65533 : Int), .int .i64 1]) ∧ Below w.heap.size w w' := by
  have d0 : decide ((b0 : Int) < 128) = false := by simp; omega
  have d1 : decide (194 ≤ (b0 : Int)) = true := by simp; omega
  have d2 : decide ((b0 : Int) < 224) = false := by simp; omega
  have d3 : decide (224 ≤ (b0 : Int)) = true := by simp; omega
  have d4 : decide ((b0 : Int) < 240) = false := by simp; omega
  have d5 : decide (240 ≤ (b0 : Int)) = true := by simp; omega
  have d6 : decide ((b0 : Int) < 245) = true := by simp; omega
  go_enter Tryz.func27, Tryz.ntmps27
  go_wp2_with (go_at_call 45; refine (k1.out _ _ (by decide)).mono ?_; rintro e w1 ⟨rfl, rfl⟩)
  go_ret2
  exact ⟨rfl, Below.refl _ _⟩

set_option maxHeartbeats 1600000 in
theorem first_n (t : ByteArray) (b0 : Nat) (w : World) (hl : 240 ≤ b0) (hh : b0 < 245) (T : Int → Bool) (k1 : Aside (∀ (z : Int) u, (1 ≤ z ∧ z ≤ 3) → Calls Tryz.prog 45 #[.string t, .int .i64 z] u fun e w' => e = .returned (.bool (T z)) ∧ w' = u)) (t1 : T 1 = true) (t2 : T 2 = true) (t3 : T 3 = true) (hx0 : ∀ u, (Instr.index 9 (.string t) (.int .i64 0)).run Tryz.prog u = .ok (.int .u8 (b0 : Int)) u) (b1 : Nat) (g1 : 128 ≤ b1) (g1' : b1 < 192) (hx1 : ∀ u, (Instr.index 9 (.string t) (.int .i64 1)).run Tryz.prog u = .ok (.int .u8 (b1 : Int)) u) (b2 : Nat) (g2 : 128 ≤ b2) (g2' : b2 < 192) (hx2 : ∀ u, (Instr.index 9 (.string t) (.int .i64 2)).run Tryz.prog u = .ok (.int .u8 (b2 : Int)) u) (b3 : Nat) (g3 : 128 ≤ b3) (g3' : b3 < 192) (hx3 : ∀ u, (Instr.index 9 (.string t) (.int .i64 3)).run Tryz.prog u = .ok (.int .u8 (b3 : Int)) u) (N : Nat) (hN : ((b0 : Int) - 240) * 262144 + ((b1 : Int) - 128) * 4096 + ((b2 : Int) - 128) * 64 + (b3 : Int) - 128 = (N : Int)) (hv : N < 65536) :
    Calls Tryz.prog 27 #[.string t] w fun e w' => e = .returned (.tuple #[.int .i64 (65533 : Int), .int .i64 1]) ∧ Below w.heap.size w w' := by
  have d0 : decide ((b0 : Int) < 128) = false := by simp; omega
  have d1 : decide (194 ≤ (b0 : Int)) = true := by simp; omega
  have d2 : decide ((b0 : Int) < 224) = false := by simp; omega
  have d3 : decide (224 ≤ (b0 : Int)) = true := by simp; omega
  have d4 : decide ((b0 : Int) < 240) = false := by simp; omega
  have d5 : decide (240 ≤ (b0 : Int)) = true := by simp; omega
  have d6 : decide ((b0 : Int) < 245) = true := by simp; omega
  have n0 : decide (65536 ≤ (N : Int)) = false := by simp; omega
  have n1 : decide ((N : Int) ≤ 1114111) = true := by simp; omega
  go_enter Tryz.func27, Tryz.ntmps27
  go_wp2_with (go_at_call 45; refine (k1.out _ _ (by decide)).mono ?_; rintro e w1 ⟨rfl, rfl⟩)
  go_quiet (fail)
  go_wp2_with (go_at_call 45; refine (k1.out _ _ (by decide)).mono ?_; rintro e w1 ⟨rfl, rfl⟩)
  go_ret2
  exact ⟨rfl, Go.below_drewN (Below.refl _ _) _⟩

set_option maxHeartbeats 1600000 in
theorem first_o (t : ByteArray) (b0 : Nat) (w : World) (hl : 240 ≤ b0) (hh : b0 < 245) (T : Int → Bool) (k1 : Aside (∀ (z : Int) u, (1 ≤ z ∧ z ≤ 3) → Calls Tryz.prog 45 #[.string t, .int .i64 z] u fun e w' => e = .returned (.bool (T z)) ∧ w' = u)) (t1 : T 1 = true) (t2 : T 2 = true) (t3 : T 3 = true) (hx0 : ∀ u, (Instr.index 9 (.string t) (.int .i64 0)).run Tryz.prog u = .ok (.int .u8 (b0 : Int)) u) (b1 : Nat) (g1 : 128 ≤ b1) (g1' : b1 < 192) (hx1 : ∀ u, (Instr.index 9 (.string t) (.int .i64 1)).run Tryz.prog u = .ok (.int .u8 (b1 : Int)) u) (b2 : Nat) (g2 : 128 ≤ b2) (g2' : b2 < 192) (hx2 : ∀ u, (Instr.index 9 (.string t) (.int .i64 2)).run Tryz.prog u = .ok (.int .u8 (b2 : Int)) u) (b3 : Nat) (g3 : 128 ≤ b3) (g3' : b3 < 192) (hx3 : ∀ u, (Instr.index 9 (.string t) (.int .i64 3)).run Tryz.prog u = .ok (.int .u8 (b3 : Int)) u) (N : Nat) (hN : ((b0 : Int) - 240) * 262144 + ((b1 : Int) - 128) * 4096 + ((b2 : Int) - 128) * 64 + (b3 : Int) - 128 = (N : Int)) (hv : 65536 ≤ N ∧ N ≤ 1114111) :
    Calls Tryz.prog 27 #[.string t] w fun e w' => e = .returned (.tuple #[.int .i64 (N : Int), .int .i64 4]) ∧ Below w.heap.size w w' := by
  have d0 : decide ((b0 : Int) < 128) = false := by simp; omega
  have d1 : decide (194 ≤ (b0 : Int)) = true := by simp; omega
  have d2 : decide ((b0 : Int) < 224) = false := by simp; omega
  have d3 : decide (224 ≤ (b0 : Int)) = true := by simp; omega
  have d4 : decide ((b0 : Int) < 240) = false := by simp; omega
  have d5 : decide (240 ≤ (b0 : Int)) = true := by simp; omega
  have d6 : decide ((b0 : Int) < 245) = true := by simp; omega
  have n0 : decide (65536 ≤ (N : Int)) = true := by simp; omega
  have n1 : decide ((N : Int) ≤ 1114111) = true := by simp; omega
  go_enter Tryz.func27, Tryz.ntmps27
  go_wp2_with (go_at_call 45; refine (k1.out _ _ (by decide)).mono ?_; rintro e w1 ⟨rfl, rfl⟩)
  go_quiet (fail)
  go_wp2_with (go_at_call 45; refine (k1.out _ _ (by decide)).mono ?_; rintro e w1 ⟨rfl, rfl⟩)
  go_ret2
  exact ⟨rfl, Go.below_drewN (Below.refl _ _) _⟩

set_option maxHeartbeats 1600000 in
theorem first_p (t : ByteArray) (b0 : Nat) (w : World) (hl : 240 ≤ b0) (hh : b0 < 245) (T : Int → Bool) (k1 : Aside (∀ (z : Int) u, (1 ≤ z ∧ z ≤ 3) → Calls Tryz.prog 45 #[.string t, .int .i64 z] u fun e w' => e = .returned (.bool (T z)) ∧ w' = u)) (t1 : T 1 = true) (t2 : T 2 = true) (t3 : T 3 = true) (hx0 : ∀ u, (Instr.index 9 (.string t) (.int .i64 0)).run Tryz.prog u = .ok (.int .u8 (b0 : Int)) u) (b1 : Nat) (g1 : 128 ≤ b1) (g1' : b1 < 192) (hx1 : ∀ u, (Instr.index 9 (.string t) (.int .i64 1)).run Tryz.prog u = .ok (.int .u8 (b1 : Int)) u) (b2 : Nat) (g2 : 128 ≤ b2) (g2' : b2 < 192) (hx2 : ∀ u, (Instr.index 9 (.string t) (.int .i64 2)).run Tryz.prog u = .ok (.int .u8 (b2 : Int)) u) (b3 : Nat) (g3 : 128 ≤ b3) (g3' : b3 < 192) (hx3 : ∀ u, (Instr.index 9 (.string t) (.int .i64 3)).run Tryz.prog u = .ok (.int .u8 (b3 : Int)) u) (N : Nat) (hN : ((b0 : Int) - 240) * 262144 + ((b1 : Int) - 128) * 4096 + ((b2 : Int) - 128) * 64 + (b3 : Int) - 128 = (N : Int)) (hv : 1114111 < N) :
    Calls Tryz.prog 27 #[.string t] w fun e w' => e = .returned (.tuple #[.int .i64 (65533 : Int), .int .i64 1]) ∧ Below w.heap.size w w' := by
  have d0 : decide ((b0 : Int) < 128) = false := by simp; omega
  have d1 : decide (194 ≤ (b0 : Int)) = true := by simp; omega
  have d2 : decide ((b0 : Int) < 224) = false := by simp; omega
  have d3 : decide (224 ≤ (b0 : Int)) = true := by simp; omega
  have d4 : decide ((b0 : Int) < 240) = false := by simp; omega
  have d5 : decide (240 ≤ (b0 : Int)) = true := by simp; omega
  have d6 : decide ((b0 : Int) < 245) = true := by simp; omega
  have n0 : decide (65536 ≤ (N : Int)) = true := by simp; omega
  have n1 : decide ((N : Int) ≤ 1114111) = false := by simp; omega
  go_enter Tryz.func27, Tryz.ntmps27
  go_wp2_with (go_at_call 45; refine (k1.out _ _ (by decide)).mono ?_; rintro e w1 ⟨rfl, rfl⟩)
  go_quiet (fail)
  go_wp2_with (go_at_call 45; refine (k1.out _ _ (by decide)).mono ?_; rintro e w1 ⟨rfl, rfl⟩)
  go_ret2
  exact ⟨rfl, Go.below_drewN (Below.refl _ _) _⟩

set_option maxHeartbeats 1600000 in
theorem first_q (t : ByteArray) (b0 : Nat) (w : World) (hl : 245 ≤ b0) (hh : b0 < 256) (T : Int → Bool) (_k1 : Aside (∀ (z : Int) u, (1 ≤ z ∧ z ≤ 3) → Calls Tryz.prog 45 #[.string t, .int .i64 z] u fun e w' => e = .returned (.bool (T z)) ∧ w' = u)) (hx0 : ∀ u, (Instr.index 9 (.string t) (.int .i64 0)).run Tryz.prog u = .ok (.int .u8 (b0 : Int)) u) :
    Calls Tryz.prog 27 #[.string t] w fun e w' => e = .returned (.tuple #[.int .i64 (65533 : Int), .int .i64 1]) ∧ Below w.heap.size w w' := by
  have d0 : decide ((b0 : Int) < 128) = false := by simp; omega
  have d1 : decide (194 ≤ (b0 : Int)) = true := by simp; omega
  have d2 : decide ((b0 : Int) < 224) = false := by simp; omega
  have d3 : decide (224 ≤ (b0 : Int)) = true := by simp; omega
  have d4 : decide ((b0 : Int) < 240) = false := by simp; omega
  have d5 : decide (240 ≤ (b0 : Int)) = true := by simp; omega
  have d6 : decide ((b0 : Int) < 245) = false := by simp; omega
  go_enter Tryz.func27, Tryz.ntmps27
  go_wp2_with (go_at_call 45; refine (k1.out _ _ (by decide)).mono ?_; rintro e w1 ⟨rfl, rfl⟩)
  go_ret2
  exact ⟨rfl, Below.refl _ _⟩


theorem decodeN_two {n b0 b1 b2 b3 : Nat} (h0 : 194 ≤ b0) (h0' : b0 < 224) (h1 : 1 < n ∧ 128 ≤ b1 ∧ b1 < 192) : Lib.decodeN n b0 b1 b2 b3 = ((b0 - 192) * 64 + (b1 - 128), 2) := by
  unfold Lib.decodeN
  rw [if_neg (by omega), if_pos (by omega), if_pos (by omega), show b0 % 32 * 64 + b1 % 64 = (b0 - 192) * 64 + (b1 - 128) by omega]

theorem decodeN_three {n b0 b1 b2 b3 N : Nat} (h0 : 224 ≤ b0) (h0' : b0 < 240) (h1 : 1 < n ∧ 128 ≤ b1 ∧ b1 < 192) (h2 : 2 < n ∧ 128 ≤ b2 ∧ b2 < 192) (hN : N = (b0 - 224) * 4096 + (b1 - 128) * 64 + (b2 - 128)) :
    Lib.decodeN n b0 b1 b2 b3 = if 2048 ≤ N ∧ (N < 55296 ∨ 57343 < N) then (N, 3) else (65533, 1) := by
  have e : b0 % 16 * 4096 + b1 % 64 * 64 + b2 % 64 = N := by omega
  unfold Lib.decodeN
  rw [if_neg (by omega), if_neg (by omega), if_pos (by omega), e]
  by_cases h : 2048 ≤ N ∧ (N < 55296 ∨ 57343 < N)
  · rw [if_pos h, if_pos (by omega)]
  · rw [if_neg h, if_neg (by omega)]

theorem decodeN_four {n b0 b1 b2 b3 N : Nat} (h0 : 240 ≤ b0) (h0' : b0 < 245) (h1 : 1 < n ∧ 128 ≤ b1 ∧ b1 < 192) (h2 : 2 < n ∧ 128 ≤ b2 ∧ b2 < 192) (h3 : 3 < n ∧ 128 ≤ b3 ∧ b3 < 192)
    (hN : N = (b0 - 240) * 262144 + (b1 - 128) * 4096 + (b2 - 128) * 64 + (b3 - 128)) :
    Lib.decodeN n b0 b1 b2 b3 = if 65536 ≤ N ∧ N ≤ 1114111 then (N, 4) else (65533, 1) := by
  have e : b0 % 8 * 262144 + b1 % 64 * 4096 + b2 % 64 * 64 + b3 % 64 = N := by omega
  unfold Lib.decodeN
  rw [if_neg (by omega), if_neg (by omega), if_neg (by omega), if_pos (by omega), e]
  by_cases h : 65536 ≤ N ∧ N ≤ 1114111
  · rw [if_pos h, if_pos (by omega)]
  · rw [if_neg h, if_neg (by omega)]

/-- What is none of a right one. -/
theorem decodeN_none {n b0 b1 b2 b3 : Nat} (h : 128 ≤ b0) (hb : b0 < 256) (h2 : 194 ≤ b0 → b0 < 224 → ¬ (1 < n ∧ 128 ≤ b1 ∧ b1 < 192))
    (h3 : 224 ≤ b0 → b0 < 240 → ¬ ((1 < n ∧ 128 ≤ b1 ∧ b1 < 192) ∧ (2 < n ∧ 128 ≤ b2 ∧ b2 < 192)))
    (h4 : 240 ≤ b0 → b0 < 245 → ¬ ((1 < n ∧ 128 ≤ b1 ∧ b1 < 192) ∧ (2 < n ∧ 128 ≤ b2 ∧ b2 < 192) ∧ (3 < n ∧ 128 ≤ b3 ∧ b3 < 192))) : Lib.decodeN n b0 b1 b2 b3 = (65533, 1) := by
  unfold Lib.decodeN
  rw [if_neg (by omega)]
  by_cases c2 : b0 / 32 = 6 ∧ (1 < n ∧ b1 / 64 = 2)
  · rw [if_pos c2, if_neg (by omega)]
  · rw [if_neg c2]
    by_cases c3 : b0 / 16 = 14 ∧ (1 < n ∧ b1 / 64 = 2) ∧ (2 < n ∧ b2 / 64 = 2)
    · omega
    · rw [if_neg c3]
      by_cases c4 : b0 / 8 = 30 ∧ (1 < n ∧ b1 / 64 = 2) ∧ (2 < n ∧ b2 / 64 = 2) ∧ (3 < n ∧ b3 / 64 = 2)
      · rw [if_pos c4, if_neg (by omega)]
      · rw [if_neg c4]

theorem tl_iff (t : ByteArray) (k : Nat) : tl t k = true ↔ (k < t.size ∧ 128 ≤ (t.get! k).toNat ∧ (t.get! k).toNat < 192) := by
  simp [tl]

set_option maxHeartbeats 1600000 in
theorem first_any (t : ByteArray) (w : World) (h0 : 0 < t.size) (ht : t.size ≤ 1000000) :
    Calls Tryz.prog 27 #[.string t] w fun e w' => e = .returned (.tuple #[.int .i64 (Sg.rn t 0 : Nat), .int .i64 (Sg.wd t 0 : Nat)]) ∧ Below w.heap.size w w' := by
  have k1 : Aside (∀ (z : Int) u, (1 ≤ z ∧ z ≤ 3) → Calls Tryz.prog 45 #[.string t, .int .i64 z] u fun e w' => e = .returned (.bool (tl t z.toNat)) ∧ w' = u) := by
    show ∀ (z : Int) u, (1 ≤ z ∧ z ≤ 3) → _
    intro z u hz
    have := tail_any t z.toNat u (by omega) ht
    rw [Int.toNat_of_nonneg (by omega)] at this
    exact this
  have hx0 := index_str t 0 h0 0 rfl
  have hx := fun k (hk : tl t k = true) => index_str t k ((tl_iff t k).1 hk).1 (k : Int) rfl
  have e1 : Utf8.decode t 0 = Lib.decodeN t.size (t.get! 0).toNat (t.get! 1).toNat (t.get! 2).toNat (t.get! 3).toNat := Lib.decode_at t 0
  have hb := (t.get! 0).toNat_lt
  have i1 := tl_iff t 1
  have i2 := tl_iff t 2
  have i3 := tl_iff t 3
  unfold Sg.rn Sg.wd
  generalize hb0 : (t.get! 0).toNat = b0 at *
  by_cases c1 : b0 < 128
  · rw [e1, Lib.decodeN_ascii _ _ _ _ _ c1]
    exact first_a t b0 w (Nat.zero_le _) c1 _ k1 hx0
  by_cases c2 : b0 < 194
  · rw [e1, decodeN_none (by omega) hb (by omega) (by omega) (by omega)]
    exact first_b t b0 w (by omega) c2 _ k1 hx0
  by_cases c3 : b0 < 224
  · by_cases t1 : tl t 1 = true
    · rw [e1, decodeN_two (by omega) c3 (i1.1 t1)]
      exact first_c t b0 w (by omega) c3 _ k1 t1 hx0 _ (i1.1 t1).2.1 (i1.1 t1).2.2 (hx 1 t1) _ (by have := i1.1 t1; omega)
    · rw [e1, decodeN_none (by omega) hb (fun _ _ h => t1 (i1.2 h)) (by omega) (by omega)]
      exact first_d t b0 w (by omega) c3 _ k1 (by simpa using t1) hx0
  by_cases c4 : b0 < 240
  · by_cases t1 : tl t 1 = true
    · by_cases t2 : tl t 2 = true
      · obtain ⟨N, hN⟩ : ∃ N, N = (b0 - 224) * 4096 + ((t.get! 1).toNat - 128) * 64 + ((t.get! 2).toNat - 128) := ⟨_, rfl⟩
        have j1 := i1.1 t1
        have j2 := i2.1 t2
        rw [e1, decodeN_three (by omega) c4 j1 j2 hN]
        by_cases n1 : N < 2048
        · rw [if_neg (by omega)]
          exact first_g t b0 w (by omega) c4 _ k1 t1 t2 hx0 _ j1.2.1 j1.2.2 (hx 1 t1) _ j2.2.1 j2.2.2 (hx 2 t2) N (by omega) n1
        by_cases n2 : N < 55296
        · rw [if_pos (by omega)]
          exact first_h t b0 w (by omega) c4 _ k1 t1 t2 hx0 _ j1.2.1 j1.2.2 (hx 1 t1) _ j2.2.1 j2.2.2 (hx 2 t2) N (by omega) (by omega)
        by_cases n3 : N ≤ 57343
        · rw [if_neg (by omega)]
          exact first_i t b0 w (by omega) c4 _ k1 t1 t2 hx0 _ j1.2.1 j1.2.2 (hx 1 t1) _ j2.2.1 j2.2.2 (hx 2 t2) N (by omega) (by omega)
        · rw [if_pos (by omega)]
          exact first_j t b0 w (by omega) c4 _ k1 t1 t2 hx0 _ j1.2.1 j1.2.2 (hx 1 t1) _ j2.2.1 j2.2.2 (hx 2 t2) N (by omega) (by omega)
      · rw [e1, decodeN_none (by omega) hb (by omega) (fun _ _ h => t2 (i2.2 h.2)) (by omega)]
        exact first_f t b0 w (by omega) c4 _ k1 t1 (by simpa using t2) hx0
    · rw [e1, decodeN_none (by omega) hb (by omega) (fun _ _ h => t1 (i1.2 h.1)) (by omega)]
      exact first_e t b0 w (by omega) c4 _ k1 (by simpa using t1) hx0
  by_cases c5 : b0 < 245
  · by_cases t1 : tl t 1 = true
    · by_cases t2 : tl t 2 = true
      · by_cases t3 : tl t 3 = true
        · obtain ⟨N, hN⟩ : ∃ N, N = (b0 - 240) * 262144 + ((t.get! 1).toNat - 128) * 4096 + ((t.get! 2).toNat - 128) * 64 + ((t.get! 3).toNat - 128) := ⟨_, rfl⟩
          have j1 := i1.1 t1
          have j2 := i2.1 t2
          have j3 := i3.1 t3
          rw [e1, decodeN_four (by omega) c5 j1 j2 j3 hN]
          by_cases n1 : N < 65536
          · rw [if_neg (by omega)]
            exact first_n t b0 w (by omega) c5 _ k1 t1 t2 t3 hx0 _ j1.2.1 j1.2.2 (hx 1 t1) _ j2.2.1 j2.2.2 (hx 2 t2) _ j3.2.1 j3.2.2 (hx 3 t3) N (by omega) n1
          by_cases n2 : N ≤ 1114111
          · rw [if_pos (by omega)]
            exact first_o t b0 w (by omega) c5 _ k1 t1 t2 t3 hx0 _ j1.2.1 j1.2.2 (hx 1 t1) _ j2.2.1 j2.2.2 (hx 2 t2) _ j3.2.1 j3.2.2 (hx 3 t3) N (by omega) (by omega)
          · rw [if_neg (by omega)]
            exact first_p t b0 w (by omega) c5 _ k1 t1 t2 t3 hx0 _ j1.2.1 j1.2.2 (hx 1 t1) _ j2.2.1 j2.2.2 (hx 2 t2) _ j3.2.1 j3.2.2 (hx 3 t3) N (by omega) (by omega)
        · rw [e1, decodeN_none (by omega) hb (by omega) (by omega) (fun _ _ h => t3 (i3.2 h.2.2))]
          exact first_m t b0 w (by omega) c5 _ k1 t1 t2 (by simpa using t3) hx0
      · rw [e1, decodeN_none (by omega) hb (by omega) (by omega) (fun _ _ h => t2 (i2.2 h.2.1))]
        exact first_l t b0 w (by omega) c5 _ k1 t1 (by simpa using t2) hx0
    · rw [e1, decodeN_none (by omega) hb (by omega) (by omega) (fun _ _ h => t1 (i1.2 h.1))]
      exact first_k t b0 w (by omega) c5 _ k1 (by simpa using t1) hx0
  · rw [e1, decodeN_none (by omega) hb (by omega) (by omega) (by omega)]
    exact first_q t b0 w (by omega) (by omega) _ k1 hx0
end Go.Proofs.YtpeioecpilmpiaaGreatDoor.Si
