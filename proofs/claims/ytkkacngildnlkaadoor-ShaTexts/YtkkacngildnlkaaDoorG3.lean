/-
  The first 32 bits behind the point of a root, as the document reckons them.
-/
import Derived.Test.YtkkacngildnlkaaDoorG1
import Derived.Test.YtkkacngildnlkaaDoorG2
import Derived.Test.YtkkacngildnlkaaDoorMath3
namespace Go.Proofs.YtkkacngildnlkaaDoor
open Go.RowKit

theorem rv_le (n k : Nat) : ∀ j, j ≤ 41 → Sh.rv n k j + 2 ^ (41 - j) ≤ 2 ^ 41
  | 0, _ => by simp [Sh.rv]
  | j + 1, h => by
    have ih := rv_le n k j (by omega)
    have e : 2 ^ (41 - j) = 2 ^ (40 - j) + 2 ^ (40 - j) := by
      rw [show 41 - j = (40 - j) + 1 by omega, Nat.pow_succ]
      omega
    have e2 : 41 - (j + 1) = 40 - j := by omega
    rw [e2]
    rw [e] at ih
    simp only [Sh.rv]
    generalize 2 ^ (40 - j) = p at ih
    split <;> omega

def bitOf (j : Nat) : Nat := 1099511627776 / 2 ^ j

theorem bit_is' (j : Nat) (h : j ≤ 40) : bitOf j = 2 ^ (40 - j) := by
  unfold bitOf
  rw [show (1099511627776 : Nat) = 2 ^ 40 by decide, Nat.pow_div h (by decide)]
theorem bit_half (j : Nat) : bitOf j / 2 = bitOf (j + 1) := by
  unfold bitOf
  rw [Nat.div_div_eq_div_mul, Nat.pow_succ]
theorem bit_end : bitOf 41 = 0 := by decide
theorem bit_pos (j : Nat) (h : j ≤ 40) : 0 < bitOf j := by rw [bit_is' j h]; exact Nat.two_pow_pos _
theorem bit_le (j : Nat) : bitOf j ≤ 1099511627776 := Nat.div_le_self _ _

theorem timesL_len (a b : List Nat) : (Sh.timesL a b).length = a.length + b.length + 1 := by
  unfold Sh.timesL
  rw [tcar_len, tout_len]

set_option maxHeartbeats 1600000 in
set_option maxRecDepth 100000 in
theorem root_two (n : Nat) (w : World) (hn : n < 65536) :
    Calls Tryd.prog 18 #[.int .i64 (n : Int), .int .i64 2] w fun e w' => e = .returned (.int .u32 (Sh.root n 2 : Nat)) ∧ Below w.heap.size w w' := by
  go_enter Tryd.func18, Tryd.ntmps18
  go_wp2
  go_loopg [5, 6] 41 (fun gh s5 s6 wr => ∃ j : Nat, 41 - j ≤ gh ∧ j ≤ 41 ∧ s5 = .int .u64 (Sh.rv n 2 j : Nat) ∧ s6 = .int .u64 (bitOf j : Nat) ∧ Below w.heap.size w wr)
  case atStart => exact ⟨0, by omega, by omega, rfl, rfl, Below.refl _ _⟩
  case round =>
    obtain ⟨j, hgh, hj, rfl, rfl, hb⟩ := hrel
    obtain ⟨v, hv⟩ : ∃ v, v = Sh.rv n 2 j := ⟨_, rfl⟩
    obtain ⟨bt, hbt⟩ : ∃ bt, bt = bitOf j := ⟨_, rfl⟩
    have hvl : v ≤ 2199023255552 := by
      have h1 := rv_le n 2 j hj
      rw [hv]
      have h2 : (2 : Nat) ^ 41 = 2199023255552 := by decide
      rw [h2] at h1
      exact Nat.le_trans (Nat.le_add_right _ _) h1
    have hbl : bt ≤ 1099511627776 := by rw [hbt]; exact bit_le j
    rw [← hv, ← hbt]
    by_cases hlt : j < 41
    · have d1 : decide (0 < bt) = true := by rw [hbt]; simp; exact bit_pos j (by omega)
      have d1' : decide (0 < (bt : Int)) = true := by rw [hbt]; simp; exact bit_pos j (by omega)
      obtain ⟨x, hx⟩ : ∃ x, x = v + bt := ⟨_, rfl⟩
      have hxs : (v : Int) + (bt : Int) = (x : Int) := by omega
      have hxl : x < 4398046511104 := by omega
      obtain ⟨o, ho⟩ : ∃ o, o = Sh.over n 2 x := ⟨_, rfl⟩
      have HB : Aside (Below w.heap.size w wr) := hb
      have HV : Aside (Sh.rv n 2 (j + 1) = (if o = true then v else x) ∧ bt / 2 = bitOf (j + 1)) := by
        refine ⟨?_, by rw [hbt]; exact bit_half j⟩
        simp only [Sh.rv]
        rw [← bit_is' j (by omega), ← hbt, ← hv, ← hx, ← ho]
      have k26 : Aside (∀ u, Calls Tryd.prog 26 #[.int .u64 (x : Int)] u fun e w' => e = .returned (.slice (some ⟨u.heap.size, 0, none⟩) 4 4) ∧ Nums w' u.heap.size (Sh.partsL x) ∧ Below u.heap.size u w') := fun u => parts_of x u (by omega)
      have k25 : Aside (∀ ga gb u, Nums u ga (Sh.partsL x) → Nums u gb (Sh.partsL x) → Calls Tryd.prog 25 #[.slice (some ⟨ga, 0, none⟩) 4 4, .slice (some ⟨gb, 0, none⟩) 4 4] u fun e w' => e = .returned (.slice (some ⟨u.heap.size, 0, none⟩) 9 9) ∧ Nums w' u.heap.size (Sh.timesL (Sh.partsL x) (Sh.partsL x)) ∧ Below u.heap.size u w') :=
        fun ga gb u h1 h2 => times_any _ _ 4 4 ga gb 4 4 u rfl rfl (by decide) (by decide) h1 h2
      have k27 : Aside (∀ g u, Nums u g (Sh.timesL (Sh.partsL x) (Sh.partsL x)) → Calls Tryd.prog 27 #[.slice (some ⟨g, 0, none⟩) 9 9, .int .i64 (n : Int), .int .i64 4] u fun e w' => e = .returned (.bool o) ∧ w' = u) := fun g u h1 => by
        rw [ho]
        exact above_any (Sh.timesL (Sh.partsL x) (Sh.partsL x)) n 4 g 9 9 u (by rw [timesL_len]; rfl) h1 hn (by decide)
      clear hb hx ho hv hbt
      cases o with
      | true =>
        go_wp2_with (first
          | (go_at_call 26; refine (k26.out _).mono ?_; rintro e w1 ⟨rfl, h1, h2⟩; have k26b : Aside (∀ u, Calls Tryd.prog 26 #[.int .u64 (x : Int)] u fun e w' => e = .returned (.slice (some ⟨u.heap.size, 0, none⟩) 4 4) ∧ Nums w' u.heap.size (Sh.partsL x) ∧ Below u.heap.size u w') := k26.out; clear k26)
          | (go_at_call 26; refine (k26b.out _).mono ?_; rintro e w2 ⟨rfl, h3, h4⟩; have h5 := h1.below h4 h1.1)
          | (go_at_call 25; refine (k25.out _ _ _ h5 h3).mono ?_; rintro e w3 ⟨rfl, h6, h7⟩)
          | (go_at_call 27; refine (k27.out _ _ h6).mono ?_; rintro e w4 ⟨rfl, rfl⟩))
        go_roundg (41 - (j + 1))
        case measure => omega
        case rel =>
          have b1 := HB.out.trans (h2.mono HB.out.size)
          have b2 := b1.trans (h4.mono b1.size)
          have b3 := b2.trans (h7.mono b2.size)
          exact ⟨j + 1, Nat.le_refl _, by omega, by rw [HV.out.1]; rfl, by rw [← HV.out.2]; simp, b3⟩
      | false =>
        go_wp2_with (first
          | (go_at_call 26; refine (k26.out _).mono ?_; rintro e w1 ⟨rfl, h1, h2⟩; have k26b : Aside (∀ u, Calls Tryd.prog 26 #[.int .u64 (x : Int)] u fun e w' => e = .returned (.slice (some ⟨u.heap.size, 0, none⟩) 4 4) ∧ Nums w' u.heap.size (Sh.partsL x) ∧ Below u.heap.size u w') := k26.out; clear k26)
          | (go_at_call 26; refine (k26b.out _).mono ?_; rintro e w2 ⟨rfl, h3, h4⟩; have h5 := h1.below h4 h1.1)
          | (go_at_call 25; refine (k25.out _ _ _ h5 h3).mono ?_; rintro e w3 ⟨rfl, h6, h7⟩)
          | (go_at_call 27; refine (k27.out _ _ h6).mono ?_; rintro e w4 ⟨rfl, rfl⟩))
        go_roundg (41 - (j + 1))
        case measure => omega
        case rel =>
          have b1 := HB.out.trans (h2.mono HB.out.size)
          have b2 := b1.trans (h4.mono b1.size)
          have b3 := b2.trans (h7.mono b2.size)
          exact ⟨j + 1, Nat.le_refl _, by omega, by rw [HV.out.1]; rfl, by rw [← HV.out.2]; simp, b3⟩
    · obtain rfl : j = 41 := by omega
      have d1 : decide (0 < bt) = false := by rw [hbt, bit_end]; rfl
      have hb0 : bt = 0 := by rw [hbt, bit_end]
      subst hb0
      have HB : Aside (Below w.heap.size w wr) := hb
      have HV : Aside (v = Sh.rv n 2 41) := hv
      clear hb hv
      go_wp2
      go_ret
      exact ⟨by unfold Sh.root; rw [← HV.out]; simp, HB.out⟩
set_option maxHeartbeats 1600000 in
set_option maxRecDepth 100000 in
theorem root_three (n : Nat) (w : World) (hn : n < 65536) :
    Calls Tryd.prog 18 #[.int .i64 (n : Int), .int .i64 3] w fun e w' => e = .returned (.int .u32 (Sh.root n 3 : Nat)) ∧ Below w.heap.size w w' := by
  go_enter Tryd.func18, Tryd.ntmps18
  go_wp2
  go_loopg [5, 6] 41 (fun gh s5 s6 wr => ∃ j : Nat, 41 - j ≤ gh ∧ j ≤ 41 ∧ s5 = .int .u64 (Sh.rv n 3 j : Nat) ∧ s6 = .int .u64 (bitOf j : Nat) ∧ Below w.heap.size w wr)
  case atStart => exact ⟨0, by omega, by omega, rfl, rfl, Below.refl _ _⟩
  case round =>
    obtain ⟨j, hgh, hj, rfl, rfl, hb⟩ := hrel
    obtain ⟨v, hv⟩ : ∃ v, v = Sh.rv n 3 j := ⟨_, rfl⟩
    obtain ⟨bt, hbt⟩ : ∃ bt, bt = bitOf j := ⟨_, rfl⟩
    have hvl : v ≤ 2199023255552 := by
      have h1 := rv_le n 3 j hj
      rw [hv]
      have h2 : (2 : Nat) ^ 41 = 2199023255552 := by decide
      rw [h2] at h1
      exact Nat.le_trans (Nat.le_add_right _ _) h1
    have hbl : bt ≤ 1099511627776 := by rw [hbt]; exact bit_le j
    rw [← hv, ← hbt]
    by_cases hlt : j < 41
    · have d1 : decide (0 < bt) = true := by rw [hbt]; simp; exact bit_pos j (by omega)
      have d1' : decide (0 < (bt : Int)) = true := by rw [hbt]; simp; exact bit_pos j (by omega)
      obtain ⟨x, hx⟩ : ∃ x, x = v + bt := ⟨_, rfl⟩
      have hxs : (v : Int) + (bt : Int) = (x : Int) := by omega
      have hxl : x < 4398046511104 := by omega
      obtain ⟨o, ho⟩ : ∃ o, o = Sh.over n 3 x := ⟨_, rfl⟩
      have HB : Aside (Below w.heap.size w wr) := hb
      have HV : Aside (Sh.rv n 3 (j + 1) = (if o = true then v else x) ∧ bt / 2 = bitOf (j + 1)) := by
        refine ⟨?_, by rw [hbt]; exact bit_half j⟩
        simp only [Sh.rv]
        rw [← bit_is' j (by omega), ← hbt, ← hv, ← hx, ← ho]
      have k26 : Aside (∀ u, Calls Tryd.prog 26 #[.int .u64 (x : Int)] u fun e w' => e = .returned (.slice (some ⟨u.heap.size, 0, none⟩) 4 4) ∧ Nums w' u.heap.size (Sh.partsL x) ∧ Below u.heap.size u w') := fun u => parts_of x u (by omega)
      have k25 : Aside (∀ ga gb u, Nums u ga (Sh.partsL x) → Nums u gb (Sh.partsL x) → Calls Tryd.prog 25 #[.slice (some ⟨ga, 0, none⟩) 4 4, .slice (some ⟨gb, 0, none⟩) 4 4] u fun e w' => e = .returned (.slice (some ⟨u.heap.size, 0, none⟩) 9 9) ∧ Nums w' u.heap.size (Sh.timesL (Sh.partsL x) (Sh.partsL x)) ∧ Below u.heap.size u w') :=
        fun ga gb u h1 h2 => times_any _ _ 4 4 ga gb 4 4 u rfl rfl (by decide) (by decide) h1 h2
      have k25b : Aside (∀ ga gb u, Nums u ga (Sh.timesL (Sh.partsL x) (Sh.partsL x)) → Nums u gb (Sh.partsL x) → Calls Tryd.prog 25 #[.slice (some ⟨ga, 0, none⟩) 9 9, .slice (some ⟨gb, 0, none⟩) 4 4] u fun e w' => e = .returned (.slice (some ⟨u.heap.size, 0, none⟩) 14 14) ∧ Nums w' u.heap.size (Sh.timesL (Sh.timesL (Sh.partsL x) (Sh.partsL x)) (Sh.partsL x)) ∧ Below u.heap.size u w') :=
        fun ga gb u h1 h2 => times_any _ _ 9 4 ga gb 9 4 u (by rw [timesL_len]; rfl) rfl (by decide) (by decide) h1 h2
      have k27 : Aside (∀ g u, Nums u g (Sh.timesL (Sh.timesL (Sh.partsL x) (Sh.partsL x)) (Sh.partsL x)) → Calls Tryd.prog 27 #[.slice (some ⟨g, 0, none⟩) 14 14, .int .i64 (n : Int), .int .i64 6] u fun e w' => e = .returned (.bool o) ∧ w' = u) := fun g u h1 => by
        rw [ho]
        exact above_any (Sh.timesL (Sh.timesL (Sh.partsL x) (Sh.partsL x)) (Sh.partsL x)) n 6 g 14 14 u (by rw [timesL_len, timesL_len]; rfl) h1 hn (by decide)
      clear hb hx ho hv hbt
      cases o with
      | true =>
        go_wp2_with (first
          | (go_at_call 26; refine (k26.out _).mono ?_; rintro e w1 ⟨rfl, h1, h2⟩; have k26b : Aside (∀ u, Calls Tryd.prog 26 #[.int .u64 (x : Int)] u fun e w' => e = .returned (.slice (some ⟨u.heap.size, 0, none⟩) 4 4) ∧ Nums w' u.heap.size (Sh.partsL x) ∧ Below u.heap.size u w') := k26.out; clear k26)
          | (go_at_call 26; refine (k26b.out _).mono ?_; rintro e w2 ⟨rfl, h3, h4⟩; have h5 := h1.below h4 h1.1; have k26c : Aside (∀ u, Calls Tryd.prog 26 #[.int .u64 (x : Int)] u fun e w' => e = .returned (.slice (some ⟨u.heap.size, 0, none⟩) 4 4) ∧ Nums w' u.heap.size (Sh.partsL x) ∧ Below u.heap.size u w') := k26b.out; clear k26b)
          | (go_at_call 25; refine (k25.out _ _ _ h5 h3).mono ?_; rintro e w3 ⟨rfl, h6, h7⟩; clear k25)
          | (go_at_call 26; refine (k26c.out _).mono ?_; rintro e w4 ⟨rfl, h8, h9⟩; have h10 := h6.below h9 h6.1)
          | (go_at_call 25; refine (k25b.out _ _ _ h10 h8).mono ?_; rintro e w5 ⟨rfl, h11, h12⟩)
          | (go_at_call 27; refine (k27.out _ _ h11).mono ?_; rintro e w6 ⟨rfl, rfl⟩))
        go_roundg (41 - (j + 1))
        case measure => omega
        case rel =>
          have b1 := HB.out.trans (h2.mono HB.out.size)
          have b2 := b1.trans (h4.mono b1.size)
          have b3 := b2.trans (h7.mono b2.size)
          have b4 := b3.trans (h9.mono b3.size)
          have b5 := b4.trans (h12.mono b4.size)
          exact ⟨j + 1, Nat.le_refl _, by omega, by rw [HV.out.1]; rfl, by rw [← HV.out.2]; simp, b5⟩
      | false =>
        go_wp2_with (first
          | (go_at_call 26; refine (k26.out _).mono ?_; rintro e w1 ⟨rfl, h1, h2⟩; have k26b : Aside (∀ u, Calls Tryd.prog 26 #[.int .u64 (x : Int)] u fun e w' => e = .returned (.slice (some ⟨u.heap.size, 0, none⟩) 4 4) ∧ Nums w' u.heap.size (Sh.partsL x) ∧ Below u.heap.size u w') := k26.out; clear k26)
          | (go_at_call 26; refine (k26b.out _).mono ?_; rintro e w2 ⟨rfl, h3, h4⟩; have h5 := h1.below h4 h1.1; have k26c : Aside (∀ u, Calls Tryd.prog 26 #[.int .u64 (x : Int)] u fun e w' => e = .returned (.slice (some ⟨u.heap.size, 0, none⟩) 4 4) ∧ Nums w' u.heap.size (Sh.partsL x) ∧ Below u.heap.size u w') := k26b.out; clear k26b)
          | (go_at_call 25; refine (k25.out _ _ _ h5 h3).mono ?_; rintro e w3 ⟨rfl, h6, h7⟩; clear k25)
          | (go_at_call 26; refine (k26c.out _).mono ?_; rintro e w4 ⟨rfl, h8, h9⟩; have h10 := h6.below h9 h6.1)
          | (go_at_call 25; refine (k25b.out _ _ _ h10 h8).mono ?_; rintro e w5 ⟨rfl, h11, h12⟩)
          | (go_at_call 27; refine (k27.out _ _ h11).mono ?_; rintro e w6 ⟨rfl, rfl⟩))
        go_roundg (41 - (j + 1))
        case measure => omega
        case rel =>
          have b1 := HB.out.trans (h2.mono HB.out.size)
          have b2 := b1.trans (h4.mono b1.size)
          have b3 := b2.trans (h7.mono b2.size)
          have b4 := b3.trans (h9.mono b3.size)
          have b5 := b4.trans (h12.mono b4.size)
          exact ⟨j + 1, Nat.le_refl _, by omega, by rw [HV.out.1]; rfl, by rw [← HV.out.2]; simp, b5⟩
    · obtain rfl : j = 41 := by omega
      have d1 : decide (0 < bt) = false := by rw [hbt, bit_end]; rfl
      have hb0 : bt = 0 := by rw [hbt, bit_end]
      subst hb0
      have HB : Aside (Below w.heap.size w wr) := hb
      have HV : Aside (v = Sh.rv n 3 41) := hv
      clear hb hv
      go_wp2
      go_ret
      exact ⟨by unfold Sh.root; rw [← HV.out]; simp, HB.out⟩
end Go.Proofs.YtkkacngildnlkaaDoor
