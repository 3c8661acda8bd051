/-
  SignTexts: for any bytes and any number the law answers true, and both read behind the call as before. No condition.
-/
import Derived.Test.YtacipegcenfbeaaL1
namespace Go.Proofs.Ytacipegcenfbeaa
open Go.ChangeShapes Go.WideShapes Go.ChangeAt Go.RowKit
open Go.ChangeMaps (open_string shut_string)

/-- The signs ahead of k, turned. -/
def turnTo (s : ByteArray) (k : Nat) : List UInt8 := Sg.turns ((Sg.fr s 0).take k).reverse

theorem turnTo_step (s : ByteArray) (k : Nat) (h : k < Sg.len s) : turnTo s (k + 1) = Lib.encodeRune (Sg.rn s (Sg.pa s k) : Nat) ++ turnTo s k := by
  unfold turnTo Sg.turns
  rw [List.take_add_one, Sg.at_pa s k h]
  simp

theorem turnTo_len (s : ByteArray) : ∀ k, k ≤ Sg.len s → (turnTo s k).length ≤ 4 * k
  | 0, _ => by simp [turnTo, Sg.turns]
  | k + 1, h => by
    have h1 := turnTo_len s k (by omega)
    have h2 := enc_len (Sg.rn s (Sg.pa s k) : Nat)
    rw [turnTo_step s k (by omega), List.length_append]
    omega

theorem turnTo_end (s : ByteArray) : turnTo s (Sg.len s) = Sg.turned s := by
  unfold turnTo Sg.turned Sg.len
  rw [List.take_length]

theorem texts_long (s : ByteArray) (n : Int) (w : World) (h : 100 < s.size) :
    Calls Try.prog 4 #[.string s, .int .i64 n] w fun e w' => e = .returned (.bool true) ∧ Below w.heap.size w w' := by
  have k0 := awake_any w
  have d1 : decide (100 < (s.size : Int)) = true := by simp; omega
  go_enter Try.func4, Try.ntmps4
  go_wp2_with (go_at_call 6; refine k0.mono ?_; rintro e w1 ⟨rfl, hb1⟩)
  go_ret
  exact ⟨rfl, hb1⟩

set_option maxHeartbeats 4000000 in
set_option maxRecDepth 1000000 in
theorem texts_all (s : ByteArray) (n : Int) (w : World) (hs : s.size ≤ 100) (hn0' : -9223372036854775808 ≤ n) (hn1' : n ≤ 9223372036854775807) (h : ¬ n < (Sg.len s : Nat)) :
    Calls Try.prog 4 #[.string s, .int .i64 n] w fun e w' => e = .returned (.bool true) ∧ Below w.heap.size w w' := by
  have k0 := awake_any w
  have kS : Aside (∀ u : World, _) := fun u : World => signs_any s u (by omega)
  have d1 : decide (100 < (s.size : Int)) = false := by simp; omega
  have hC : Sg.cut s n = s := by unfold Sg.cut; rw [if_neg h]
  have d2 : decide (n < ((Sg.len s : Nat) : Int)) = false := by simpa using h
  go_enter Try.func4, Try.ntmps4
  go_wp2_with (first
    | (go_at_call 6; refine k0.mono ?_; rintro e w0 ⟨rfl, hb0⟩)
    | (go_at_call 9; refine (kS.out _).mono ?_; rintro e w1 ⟨v1, v2, rfl, hn1, hn2, hb1⟩; obtain ⟨a, c, rfl, hc⟩ := hn1.form; obtain ⟨a2, c2, rfl, hc2⟩ := hn2.form; rw [zs_length, Sg.sigs_length] at *; rw [zs_length, Sg.ats_length] at *))
  clear kS hn1 hn2 k0
  have hls := Sg.len_size s
  go_loopg [8, 36] (Sg.len s) (fun gh s8 s36 wr => ∃ k : Nat, Sg.len s - k ≤ gh ∧ k ≤ Sg.len s ∧ s8 = .string ⟨(turnTo s k).toArray⟩ ∧ s36 = .int .i64 (k : Int) ∧ Below w1.heap.size w1 wr)
  case atStart => exact ⟨0, by omega, by omega, rfl, rfl, Below.refl _ _⟩
  case round =>
    obtain ⟨k, hgh, hk, rfl, rfl, hbw⟩ := hrel
    have hsz := hbw.size
    by_cases hp : k < Sg.len s
    · obtain ⟨g, o, rfl, hg, hcell⟩ := hc k hp
      rw [zs_at hp, ← hbw.cell (by exact hg)] at hcell
      have dk : decide (k < Sg.len s) = true := by simpa using hp
      have fl := turnTo_len s k hk
      have fe := enc_len (Sg.rn s (Sg.pa s k) : Nat)
      have hj := bytes_join (Lib.encodeRune (Sg.rn s (Sg.pa s k) : Nat)) (turnTo s k)
      rw [← turnTo_step s k hp] at hj
      have hrk := Sg.rn_ok s (Sg.pa s k)
      have kb := fun u => bytes_any (Sg.rn s (Sg.pa s k)) u hrk
      generalize hn : Sg.rn s (Sg.pa s k) = m at *
      have z1 : (⟨(turnTo s k).toArray⟩ : ByteArray).size ≤ 4000000 := by show (turnTo s k).toArray.size ≤ _; simp; omega
      have z2 : (⟨(Lib.encodeRune (m : Nat)).toArray⟩ : ByteArray).size ≤ 4 := by show (Lib.encodeRune (m : Nat)).toArray.size ≤ _; simpa using fe
      have HJ : Aside ((⟨(Lib.encodeRune (m : Nat)).toArray⟩ : ByteArray) ++ ⟨(turnTo s k).toArray⟩ = ⟨(turnTo s (k + 1)).toArray⟩) := hj
      clear hj fl fe hrk hn hc hc2
      generalize hA : (⟨(turnTo s k).toArray⟩ : ByteArray) = A at *
      generalize hX : (⟨(Lib.encodeRune (m : Nat)).toArray⟩ : ByteArray) = X at *
      clear hA hX
      go_wp2_with (go_at_call 10; refine (kb _).mono ?_; rintro e w2 ⟨rfl, hb2⟩)
      go_roundg (Sg.len s - (k + 1))
      case measure => omega
      case rel => exact ⟨k + 1, Nat.le_refl _, by omega, by rw [← HJ.out], by go_num, hbw.trans (hb2.mono hsz)⟩
    · obtain rfl : k = Sg.len s := by omega
      have dk : decide (Sg.len s < Sg.len s) = false := by simp
      rw [turnTo_end]
      have k1 : Aside (∀ u : World, _) := fun u : World => right_any s n u (by omega)
      have k2 : Aside (∀ u : World, _) := fun u : World => refRight_any s n u (by omega)
      have k3 : Aside (∀ u : World, _) := fun u : World => count_any s u (by omega)
      have k4 : Aside (∀ u : World, _) := fun u : World => cut_any s n u (by omega) hn1' hn0'
      have k5 : Aside (∀ u : World, _) := fun u : World => fold_any s u (by omega)
      have k6 : Aside (∀ u : World, _) := fun u : World => refFold_any s u (by omega)
      have k7 : Aside (∀ u : World, _) := fun u : World => turn_any s u (by omega)
      rw [hC] at k4
      generalize (⟨(Sg.folds s 0).toArray⟩ : ByteArray) = F at *
      generalize (⟨(Sg.turned s).toArray⟩ : ByteArray) = T at *
      generalize right s n = R at *
      have bR : (R == R) = true := beq_self_eq_true _
      clear hc hc2 hC
      go_wp2_with (first
        | (go_at_call 11; refine (k1.out _).mono ?_; rintro e w2 ⟨rfl, hb2⟩)
        | (go_at_call 12; refine (k2.out _).mono ?_; rintro e w3 ⟨rfl, hb3⟩)
        | (go_at_call 13; refine (k3.out _).mono ?_; rintro e w4 ⟨rfl, hb4⟩)
        | (go_at_call 14; refine (k4.out _).mono ?_; rintro e w5 ⟨rfl, hb5⟩)
        | (go_at_call 15; refine (k5.out _).mono ?_; rintro e w6 ⟨rfl, hb6⟩)
        | (go_at_call 16; refine (k6.out _).mono ?_; rintro e w7 ⟨rfl, hb7⟩)
        | (go_at_call 17; refine (k7.out _).mono ?_; rintro e w8 ⟨rfl, hb8⟩))
      go_ret
      have b1 := hb0.trans (hb1.mono hb0.size)
      have b2 := b1.trans (hbw.mono b1.size)
      have b3 := b2.trans (hb2.mono b2.size)
      have b4 := b3.trans (hb3.mono b3.size)
      have b5 := b4.trans (hb4.mono b4.size)
      have b6 := b5.trans (hb5.mono b5.size)
      have b7 := b6.trans (hb6.mono b6.size)
      have b8 := b7.trans (hb7.mono b7.size)
      exact ⟨rfl, b8.trans (hb8.mono b8.size)⟩

set_option maxHeartbeats 4000000 in
set_option maxRecDepth 1000000 in
theorem texts_none (s : ByteArray) (n : Int) (w : World) (hs : s.size ≤ 100) (hn0' : -9223372036854775808 ≤ n) (hn1' : n ≤ 9223372036854775807) (h : n < (Sg.len s : Nat)) (h2 : ¬ 0 < n) :
    Calls Try.prog 4 #[.string s, .int .i64 n] w fun e w' => e = .returned (.bool true) ∧ Below w.heap.size w w' := by
  have k0 := awake_any w
  have kS : Aside (∀ u : World, _) := fun u : World => signs_any s u (by omega)
  have d1 : decide (100 < (s.size : Int)) = false := by simp; omega
  have hC : Sg.cut s n = ⟨#[]⟩ := by
    unfold Sg.cut
    rw [if_pos h, show n.toNat = 0 by omega]
    exact cut_none s 0
  have d2 : decide (n < ((Sg.len s : Nat) : Int)) = true := by simpa using h
  have d3 : decide (0 < n) = false := by simpa using h2
  go_enter Try.func4, Try.ntmps4
  go_wp2_with (first
    | (go_at_call 6; refine k0.mono ?_; rintro e w0 ⟨rfl, hb0⟩)
    | (go_at_call 9; refine (kS.out _).mono ?_; rintro e w1 ⟨v1, v2, rfl, hn1, hn2, hb1⟩; obtain ⟨a, c, rfl, hc⟩ := hn1.form; obtain ⟨a2, c2, rfl, hc2⟩ := hn2.form; rw [zs_length, Sg.sigs_length] at *; rw [zs_length, Sg.ats_length] at *))
  clear kS hn1 hn2 k0
  have hls := Sg.len_size s
  go_loopg [8, 36] (Sg.len s) (fun gh s8 s36 wr => ∃ k : Nat, Sg.len s - k ≤ gh ∧ k ≤ Sg.len s ∧ s8 = .string ⟨(turnTo s k).toArray⟩ ∧ s36 = .int .i64 (k : Int) ∧ Below w1.heap.size w1 wr)
  case atStart => exact ⟨0, by omega, by omega, rfl, rfl, Below.refl _ _⟩
  case round =>
    obtain ⟨k, hgh, hk, rfl, rfl, hbw⟩ := hrel
    have hsz := hbw.size
    by_cases hp : k < Sg.len s
    · obtain ⟨g, o, rfl, hg, hcell⟩ := hc k hp
      rw [zs_at hp, ← hbw.cell (by exact hg)] at hcell
      have dk : decide (k < Sg.len s) = true := by simpa using hp
      have fl := turnTo_len s k hk
      have fe := enc_len (Sg.rn s (Sg.pa s k) : Nat)
      have hj := bytes_join (Lib.encodeRune (Sg.rn s (Sg.pa s k) : Nat)) (turnTo s k)
      rw [← turnTo_step s k hp] at hj
      have hrk := Sg.rn_ok s (Sg.pa s k)
      have kb := fun u => bytes_any (Sg.rn s (Sg.pa s k)) u hrk
      generalize hn : Sg.rn s (Sg.pa s k) = m at *
      have z1 : (⟨(turnTo s k).toArray⟩ : ByteArray).size ≤ 4000000 := by show (turnTo s k).toArray.size ≤ _; simp; omega
      have z2 : (⟨(Lib.encodeRune (m : Nat)).toArray⟩ : ByteArray).size ≤ 4 := by show (Lib.encodeRune (m : Nat)).toArray.size ≤ _; simpa using fe
      have HJ : Aside ((⟨(Lib.encodeRune (m : Nat)).toArray⟩ : ByteArray) ++ ⟨(turnTo s k).toArray⟩ = ⟨(turnTo s (k + 1)).toArray⟩) := hj
      clear hj fl fe hrk hn hc hc2
      generalize hA : (⟨(turnTo s k).toArray⟩ : ByteArray) = A at *
      generalize hX : (⟨(Lib.encodeRune (m : Nat)).toArray⟩ : ByteArray) = X at *
      clear hA hX
      go_wp2_with (go_at_call 10; refine (kb _).mono ?_; rintro e w2 ⟨rfl, hb2⟩)
      go_roundg (Sg.len s - (k + 1))
      case measure => omega
      case rel => exact ⟨k + 1, Nat.le_refl _, by omega, by rw [← HJ.out], by go_num, hbw.trans (hb2.mono hsz)⟩
    · obtain rfl : k = Sg.len s := by omega
      have dk : decide (Sg.len s < Sg.len s) = false := by simp
      rw [turnTo_end]
      have k1 : Aside (∀ u : World, _) := fun u : World => right_any s n u (by omega)
      have k2 : Aside (∀ u : World, _) := fun u : World => refRight_any s n u (by omega)
      have k3 : Aside (∀ u : World, _) := fun u : World => count_any s u (by omega)
      have k4 : Aside (∀ u : World, _) := fun u : World => cut_any s n u (by omega) hn1' hn0'
      have k5 : Aside (∀ u : World, _) := fun u : World => fold_any s u (by omega)
      have k6 : Aside (∀ u : World, _) := fun u : World => refFold_any s u (by omega)
      have k7 : Aside (∀ u : World, _) := fun u : World => turn_any s u (by omega)
      rw [hC] at k4
      generalize (⟨(Sg.folds s 0).toArray⟩ : ByteArray) = F at *
      generalize (⟨(Sg.turned s).toArray⟩ : ByteArray) = T at *
      generalize right s n = R at *
      have bR : (R == R) = true := beq_self_eq_true _
      clear hc hc2 hC
      go_wp2_with (first
        | (go_at_call 11; refine (k1.out _).mono ?_; rintro e w2 ⟨rfl, hb2⟩)
        | (go_at_call 12; refine (k2.out _).mono ?_; rintro e w3 ⟨rfl, hb3⟩)
        | (go_at_call 13; refine (k3.out _).mono ?_; rintro e w4 ⟨rfl, hb4⟩)
        | (go_at_call 14; refine (k4.out _).mono ?_; rintro e w5 ⟨rfl, hb5⟩)
        | (go_at_call 15; refine (k5.out _).mono ?_; rintro e w6 ⟨rfl, hb6⟩)
        | (go_at_call 16; refine (k6.out _).mono ?_; rintro e w7 ⟨rfl, hb7⟩)
        | (go_at_call 17; refine (k7.out _).mono ?_; rintro e w8 ⟨rfl, hb8⟩))
      go_ret
      have b1 := hb0.trans (hb1.mono hb0.size)
      have b2 := b1.trans (hbw.mono b1.size)
      have b3 := b2.trans (hb2.mono b2.size)
      have b4 := b3.trans (hb3.mono b3.size)
      have b5 := b4.trans (hb4.mono b4.size)
      have b6 := b5.trans (hb5.mono b5.size)
      have b7 := b6.trans (hb6.mono b6.size)
      have b8 := b7.trans (hb7.mono b7.size)
      exact ⟨rfl, b8.trans (hb8.mono b8.size)⟩

set_option maxHeartbeats 4000000 in
set_option maxRecDepth 1000000 in
theorem texts_some (s : ByteArray) (n : Int) (w : World) (hs : s.size ≤ 100) (hn0' : -9223372036854775808 ≤ n) (hn1' : n ≤ 9223372036854775807) (m0 : Nat) (hm : n = (m0 : Int)) (h : m0 < Sg.len s) (h2 : 0 < m0) :
    Calls Try.prog 4 #[.string s, .int .i64 n] w fun e w' => e = .returned (.bool true) ∧ Below w.heap.size w w' := by
  have k0 := awake_any w
  have kS : Aside (∀ u : World, _) := fun u : World => signs_any s u (by omega)
  have d1 : decide (100 < (s.size : Int)) = false := by simp; omega
  have hC : Sg.cut s n = s.extract 0 (Sg.pa s m0) := by
    unfold Sg.cut
    rw [if_pos (by omega), show n.toNat = m0 by omega]
  subst hm
  have d2 : decide (m0 < Sg.len s) = true := by simpa using h
  have d3 : decide (0 < (m0 : Int)) = true := by simp; omega
  have hpl := Sg.pa_lt s m0 h
  go_enter Try.func4, Try.ntmps4
  go_wp2_with (first
    | (go_at_call 6; refine k0.mono ?_; rintro e w0 ⟨rfl, hb0⟩)
    | (go_at_call 9; refine (kS.out _).mono ?_; rintro e w1 ⟨v1, v2, rfl, hn1, hn2, hb1⟩; obtain ⟨a, c, rfl, hc⟩ := hn1.form; obtain ⟨a2, c2, rfl, hc2⟩ := hn2.form; rw [zs_length, Sg.sigs_length] at *; rw [zs_length, Sg.ats_length] at *; obtain ⟨g2, o2, rfl, hg2, hcell2⟩ := hc2 m0 h; rw [za_at h] at hcell2))
  clear kS hn1 hn2 k0
  have hls := Sg.len_size s
  go_loopg [8, 36] (Sg.len s) (fun gh s8 s36 wr => ∃ k : Nat, Sg.len s - k ≤ gh ∧ k ≤ Sg.len s ∧ s8 = .string ⟨(turnTo s k).toArray⟩ ∧ s36 = .int .i64 (k : Int) ∧ Below w1.heap.size w1 wr)
  case atStart => exact ⟨0, by omega, by omega, rfl, rfl, Below.refl _ _⟩
  case round =>
    obtain ⟨k, hgh, hk, rfl, rfl, hbw⟩ := hrel
    have hsz := hbw.size
    by_cases hp : k < Sg.len s
    · obtain ⟨g, o, rfl, hg, hcell⟩ := hc k hp
      rw [zs_at hp, ← hbw.cell (by exact hg)] at hcell
      have dk : decide (k < Sg.len s) = true := by simpa using hp
      have fl := turnTo_len s k hk
      have fe := enc_len (Sg.rn s (Sg.pa s k) : Nat)
      have hj := bytes_join (Lib.encodeRune (Sg.rn s (Sg.pa s k) : Nat)) (turnTo s k)
      rw [← turnTo_step s k hp] at hj
      have hrk := Sg.rn_ok s (Sg.pa s k)
      have kb := fun u => bytes_any (Sg.rn s (Sg.pa s k)) u hrk
      generalize hn : Sg.rn s (Sg.pa s k) = m at *
      have z1 : (⟨(turnTo s k).toArray⟩ : ByteArray).size ≤ 4000000 := by show (turnTo s k).toArray.size ≤ _; simp; omega
      have z2 : (⟨(Lib.encodeRune (m : Nat)).toArray⟩ : ByteArray).size ≤ 4 := by show (Lib.encodeRune (m : Nat)).toArray.size ≤ _; simpa using fe
      have HJ : Aside ((⟨(Lib.encodeRune (m : Nat)).toArray⟩ : ByteArray) ++ ⟨(turnTo s k).toArray⟩ = ⟨(turnTo s (k + 1)).toArray⟩) := hj
      clear hj fl fe hrk hn hc hc2
      generalize hA : (⟨(turnTo s k).toArray⟩ : ByteArray) = A at *
      generalize hX : (⟨(Lib.encodeRune (m : Nat)).toArray⟩ : ByteArray) = X at *
      clear hA hX
      go_wp2_with (go_at_call 10; refine (kb _).mono ?_; rintro e w2 ⟨rfl, hb2⟩)
      go_roundg (Sg.len s - (k + 1))
      case measure => omega
      case rel => exact ⟨k + 1, Nat.le_refl _, by omega, by rw [← HJ.out], by go_num, hbw.trans (hb2.mono hsz)⟩
    · obtain rfl : k = Sg.len s := by omega
      have dk : decide (Sg.len s < Sg.len s) = false := by simp
      rw [turnTo_end]
      have k1 : Aside (∀ u : World, _) := fun u : World => right_any s m0 u (by omega)
      have k2 : Aside (∀ u : World, _) := fun u : World => refRight_any s m0 u (by omega)
      have k3 : Aside (∀ u : World, _) := fun u : World => count_any s u (by omega)
      have k4 : Aside (∀ u : World, _) := fun u : World => cut_any s m0 u (by omega) hn1' hn0'
      have k5 : Aside (∀ u : World, _) := fun u : World => fold_any s u (by omega)
      have k6 : Aside (∀ u : World, _) := fun u : World => refFold_any s u (by omega)
      have k7 : Aside (∀ u : World, _) := fun u : World => turn_any s u (by omega)
      rw [hC] at k4
      generalize (⟨(Sg.folds s 0).toArray⟩ : ByteArray) = F at *
      generalize (⟨(Sg.turned s).toArray⟩ : ByteArray) = T at *
      generalize right s m0 = R at *
      have bR : (R == R) = true := beq_self_eq_true _
      clear hc hc2 hC
      go_wp2_with (first
        | (go_at_call 11; refine (k1.out _).mono ?_; rintro e w2 ⟨rfl, hb2⟩)
        | (go_at_call 12; refine (k2.out _).mono ?_; rintro e w3 ⟨rfl, hb3⟩)
        | (go_at_call 13; refine (k3.out _).mono ?_; rintro e w4 ⟨rfl, hb4⟩)
        | (go_at_call 14; refine (k4.out _).mono ?_; rintro e w5 ⟨rfl, hb5⟩)
        | (go_at_call 15; refine (k5.out _).mono ?_; rintro e w6 ⟨rfl, hb6⟩)
        | (go_at_call 16; refine (k6.out _).mono ?_; rintro e w7 ⟨rfl, hb7⟩)
        | (go_at_call 17; refine (k7.out _).mono ?_; rintro e w8 ⟨rfl, hb8⟩))
      go_ret
      have b1 := hb0.trans (hb1.mono hb0.size)
      have b2 := b1.trans (hbw.mono b1.size)
      have b3 := b2.trans (hb2.mono b2.size)
      have b4 := b3.trans (hb3.mono b3.size)
      have b5 := b4.trans (hb4.mono b4.size)
      have b6 := b5.trans (hb5.mono b5.size)
      have b7 := b6.trans (hb6.mono b6.size)
      have b8 := b7.trans (hb7.mono b7.size)
      exact ⟨rfl, b8.trans (hb8.mono b8.size)⟩

theorem texts_any (s : ByteArray) (n : Int) (w : World) (hn0 : -9223372036854775808 ≤ n) (hn1 : n ≤ 9223372036854775807) :
    Calls Try.prog 4 #[.string s, .int .i64 n] w fun e w' => e = .returned (.bool true) ∧ Below w.heap.size w w' := by
  by_cases h0 : 100 < s.size
  · exact texts_long s n w h0
  by_cases h1 : n < (Sg.len s : Nat)
  · by_cases h2 : 0 < n
    · exact texts_some s n w (by omega) hn0 hn1 n.toNat (by omega) (by omega) (by omega)
    · exact texts_none s n w (by omega) hn0 hn1 h1 h2
  · exact texts_all s n w (by omega) hn0 hn1 h1

theorem i64_in {a : Int} (h : (Lit.int .i64 a).wf = true) : -9223372036854775808 ≤ a ∧ a ≤ 9223372036854775807 := by
  simp [Lit.wf, IntKind.min, IntKind.max, IntKind.signed, IntKind.bits] at h
  omega

set_option maxRecDepth 100000 in
theorem signTexts_lifted (os : Os) (started : os.Started) (H : Type) (enc : TypeId × Value → H) :
    ReturnsInHanded {} Try.checked os 4 .any (Rows.signTextsSpec.pre6 enc Try.prog Try.f4 Rows.signTextsRow.domain false) (Rows.signTextsSpec.post enc Try.prog Try.f4 false true false false) := by
  refine returnsInHanded_of_change (C := Try.checked) own started (by kernel_rfl) Try.func4
    (ChangeSpec.witness6 (enc := enc) (C := Try.checked) false ⟨#[], #[.string ByteArray.empty, .int .i64 0], []⟩ 8 (by kernel_rfl) (by kernel_rfl) (by kernel_rfl) (by kernel_rfl)) ?_
  intro W base args ds gs before hval0 hW _ _
  have hval : ∀ (j : Nat) t v, Try.f4.params[j]? = some t → args[j]? = some v → Value.okWide Try.prog W .any base t v := hval0
  have hW' := hW
  obtain ⟨p, q, hA0, hV, rfl, hfz, hnd⟩ := hW
  have hA : DataW.TrodAll enc Try.prog W 0 (fun _ => true) true Try.f4.params.toList args.toList ds p := hA0
  rw [Try.params4] at hA hval
  obtain ⟨v0, vs0, d0, ds0, p0, q0, hargs, rfl, rfl, h0, r0⟩ := trodAll_cons hA
  obtain ⟨v1, vs1, d1, ds1, p1, q1, rfl, rfl, rfl, h1, r1⟩ := trodAll_cons r0
  obtain ⟨rfl, rfl, rfl⟩ := trodAll_nil r1
  obtain rfl : args = #[v0, v1] := by cases args; simp_all
  obtain ⟨rfl, rfl⟩ := trodVars_none hV
  obtain ⟨s0, rfl, rfl, rfl, w0⟩ := open_string Try.underlying9 (hval 0 9 v0 rfl rfl) h0
  obtain ⟨a1, rfl, rfl, rfl, w1⟩ := open_int Try.underlying3 (hval 1 3 v1 rfl rfl) h1
  clear hA0 hval0
  have hr := i64_in w1
  refine (texts_any s0 a1 W hr.1 hr.2).mono fun e W' ⟨he, bel⟩ => ?_
  subst he
  exact ⟨_, rfl, _, _, _, [], _, [], hW', trodAll_mk1 (shut_bool Try.underlying4 _), trodAll_cons_mk (shut_string Try.underlying9 w0) (trodAll_cons_mk (shut_int Try.underlying3 w1) trodAll_mk0), rfl, bel.frame _, fun h => by cases h⟩

theorem signTexts_holds : Rows.SignTextsSaid :=
  OpenClaim.holds_of_wide 4 Try.f4 rfl rfl rfl rfl rfl rfl rfl ⟨rfl, rfl, rfl, rfl, rfl⟩ rfl rfl rfl rfl rfl (by kernel_rfl) Try.func4 (by kernel_rfl)
    (of_decide_eq_true (by kernel_rfl)) (by unfold Func.isWrapper; first | (rw [if_pos (by decide +kernel)]; kernel_rfl) | (rw [if_neg (by decide +kernel)]; exact ⟨rfl, rfl⟩))
    (fun os started H enc _ => signTexts_lifted os started H enc)
#print axioms signTexts_holds
end Go.Proofs.Ytacipegcenfbeaa
