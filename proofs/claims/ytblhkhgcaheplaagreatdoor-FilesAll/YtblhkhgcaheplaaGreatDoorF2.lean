/-
  The name of a word and a number, by the program and by the document.
-/
import Derived.Test.YtblhkhgcaheplaaGreatDoorF1
namespace Go.Proofs.YtblhkhgcaheplaaGreatDoor
open Go.RowKit
set_option maxRecDepth 100000

def nmB (s : ByteArray) (n : Int) : ByteArray := ⟨(Fi.nm s.data.toList n).toArray⟩

theorem nmB_none {s : ByteArray} {n : Int} (h : ¬ (Fi.wd s.data.toList = true ∧ 1 ≤ n ∧ n ≤ 99999)) : nmB s n = ⟨#[]⟩ := by
  unfold nmB
  rw [Fi.nm_empty.2 h]

theorem nmB_some {s : ByteArray} {n : Int} (hw : Fi.wd s.data.toList = true) (h1 : 1 ≤ n) (h2 : n ≤ 99999) : nmB s n = (s ++ ⟨#[46]⟩) ++ ⟨(Lib.decDigits n.toNat).toArray⟩ := by
  unfold nmB
  rw [Fi.nm_in hw h1 h2]
  conv => rhs; rw [← mk_data s]
  rw [show (ByteArray.mk #[46]) = ⟨[46].toArray⟩ from rfl, mk_append, mk_append]
  simp

theorem wd_size {s : ByteArray} (h : Fi.wd s.data.toList = true) : 1 ≤ s.size ∧ s.size ≤ 5 := by
  have := Fi.wd_iff.1 h
  exact ⟨this.1, this.2.1⟩

set_option maxHeartbeats 1600000 in
theorem name_any (s : ByteArray) (n : Int) (w : World) (hv : Vars w) :
    Calls Tryz.prog 14 #[.string s, .int .i64 n] w fun e w' => e = .returned (.string (nmB s n)) ∧ Below w.heap.size w w' := by
  have k0 := isWord_any s w
  cases hw : Fi.wd s.data.toList with
  | false =>
    rw [hw] at k0
    rw [nmB_none (by rw [hw]; simp)]
    clear hw hv
    go_enter Tryz.func14, Tryz.ntmps14
    go_wp2_with (go_at_call 28; refine k0.mono ?_; rintro e w1 ⟨rfl, rfl⟩)
    go_ret
    exact ⟨rfl, Below.refl _ _⟩
  | true =>
    rw [hw] at k0
    by_cases h1 : n < 1
    · rw [nmB_none (by omega)]
      have d1 : decide (n < 1) = true := decide_eq_true h1
      clear hw hv
      go_enter Tryz.func14, Tryz.ntmps14
      go_wp2_with (go_at_call 28; refine k0.mono ?_; rintro e w1 ⟨rfl, rfl⟩)
      go_ret
      exact ⟨rfl, Below.refl _ _⟩
    · have d1 : decide (n < 1) = false := decide_eq_false h1
      by_cases h2 : 99999 < n
      · rw [nmB_none (by omega)]
        have d2 : decide (99999 < n) = true := decide_eq_true h2
        clear hw hv
        go_enter Tryz.func14, Tryz.ntmps14
        go_wp2_with (go_at_call 28; refine k0.mono ?_; rintro e w1 ⟨rfl, rfl⟩)
        go_ret
        exact ⟨rfl, Below.refl _ _⟩
      · have d2 : decide (99999 < n) = false := decide_eq_false h2
        have k1 := itoa_any n (by omega) (by omega) w hv
        have E : Aside (nmB s n = (s ++ ⟨#[46]⟩) ++ ⟨(Lib.decDigits n.toNat).toArray⟩) := nmB_some hw (by omega) (by omega)
        have hz := wd_size hw
        have hd := dec_len n.toNat (by omega)
        have hsz : (ByteArray.mk (Lib.decDigits n.toNat).toArray).size = (Lib.decDigits n.toNat).length := size_mk _
        have hs1 : (s ++ ⟨#[46]⟩).size = s.size + 1 := by rw [ByteArray.size_append]; rfl
        clear hw hv
        generalize ByteArray.mk (Lib.decDigits n.toNat).toArray = D at *
        generalize (Lib.decDigits n.toNat).length = DL at *
        go_enter Tryz.func14, Tryz.ntmps14
        go_wp2_with (first
          | (go_at_call 28; refine k0.mono ?_; rintro e w1 ⟨rfl, rfl⟩)
          | (go_at_call 29; refine k1.mono ?_; rintro e w2 ⟨rfl, hb⟩))
        go_ret
        exact ⟨by rw [E.out]; rfl, hb⟩

set_option maxHeartbeats 3200000 in
theorem refName_any (s : ByteArray) (n : Int) (w : World) :
    Calls Tryz.prog 22 #[.string s, .int .i64 n] w fun e w' => e = .returned (.string (nmB s n)) ∧ Below w.heap.size w w' := by
  have H0 : ∀ h : ¬ (Fi.wd s.data.toList = true ∧ 1 ≤ n ∧ n ≤ 99999), nmB s n = ⟨#[]⟩ := fun h => nmB_none h
  by_cases g1 : s.size < 1
  · rw [H0 fun h => by have := wd_size h.1; omega]
    have d1 : decide ((s.size : Int) < 1) = true := by simp; omega
    clear H0
    go_enter Tryz.func22, Tryz.ntmps22
    go_wp2
    go_ret
    exact ⟨rfl, Below.refl _ _⟩
  have d1 : decide ((s.size : Int) < 1) = false := by simp; omega
  by_cases g2 : 5 < s.size
  · rw [H0 fun h => by have := wd_size h.1; omega]
    have d2 : decide (5 < (s.size : Int)) = true := by simp; omega
    clear H0
    go_enter Tryz.func22, Tryz.ntmps22
    go_wp2
    go_ret
    exact ⟨rfl, Below.refl _ _⟩
  have d2 : decide (5 < (s.size : Int)) = false := by simp; omega
  by_cases g3 : n < 1
  · rw [H0 fun h => by omega]
    have d3 : decide (n < 1) = true := decide_eq_true g3
    clear H0
    go_enter Tryz.func22, Tryz.ntmps22
    go_wp2
    go_ret
    exact ⟨rfl, Below.refl _ _⟩
  have d3 : decide (n < 1) = false := decide_eq_false g3
  by_cases g4 : 99999 < n
  · rw [H0 fun h => by omega]
    have d4 : decide (99999 < n) = true := decide_eq_true g4
    clear H0
    go_enter Tryz.func22, Tryz.ntmps22
    go_wp2
    go_ret
    exact ⟨rfl, Below.refl _ _⟩
  have d4 : decide (99999 < n) = false := decide_eq_false g4
  have hwd : Fi.wd s.data.toList = s.data.toList.all wb := by
    rw [wd_is, show (decide (1 ≤ s.size) && decide (s.size ≤ 5)) = true by simp; omega, Bool.true_and]
  obtain ⟨m, hm⟩ : ∃ m : Nat, n = (m : Int) := ⟨n.toNat, by omega⟩
  subst hm
  have K : Aside (∀ u, Calls Tryz.prog 36 #[.int .i64 (m : Int)] u fun e w' => e = .returned (.string ⟨(Lib.decDigits m).toArray⟩) ∧ Below u.heap.size u w') := fun u => digits_any m u (by omega) (by omega)
  have E : Aside (s.data.toList.all wb = true → nmB s (m : Int) = (s ++ ⟨#[46]⟩) ++ ⟨(Lib.decDigits m).toArray⟩) := fun h => by
    have := nmB_some (n := (m : Int)) (hwd.trans h) (by omega) (by omega)
    exact this
  have N : Aside (s.data.toList.all wb = false → nmB s (m : Int) = ⟨#[]⟩) := fun h => H0 fun h' => by rw [hwd, h] at h'; exact absurd h'.1 (by simp)
  have hd := dec_len m (by omega)
  have hsz : (ByteArray.mk (Lib.decDigits m).toArray).size = (Lib.decDigits m).length := size_mk _
  have hs1 : (s ++ ⟨#[46]⟩).size = s.size + 1 := by rw [ByteArray.size_append]; rfl
  clear H0 hwd
  generalize ByteArray.mk (Lib.decDigits m).toArray = D at *
  generalize (Lib.decDigits m).length = DL at *
  go_enter Tryz.func22, Tryz.ntmps22
  go_wp2
  go_loopg [5] s.size (fun gh v wr => ∃ k : Nat, s.size - k ≤ gh ∧ k ≤ s.size ∧ v = .int .i64 (k : Int) ∧ wr = w ∧ Aside (∀ i, i < k → (hi : i < s.size) → wb s[i] = true))
  case atStart => exact ⟨0, by omega, by omega, rfl, rfl, (fun i hi _ => absurd hi (Nat.not_lt_zero _) : ∀ i, i < 0 → (hi : i < s.size) → wb s[i] = true)⟩
  case round =>
    obtain ⟨k, hgh, hk, rfl, rfl, I⟩ := hrel
    by_cases hlt : k < s.size
    · have e3 : decide (k < s.size) = true := by simpa using hlt
      have e3' : decide ((k : Int) < (s.size : Int)) = true := by simpa using hlt
      cases hq : wb s[k] with
      | true =>
        have I2 : Aside (∀ i, i < k + 1 → (hi : i < s.size) → wb s[i] = true) := fun i hi hs => by
          by_cases h : i = k
          · subst h; exact hq
          · exact I.out i (by omega) hs
        have x0 := index_str s k hlt (k : Int) rfl
        obtain ⟨x, hx⟩ : ∃ x, s[k].toNat = x := ⟨_, rfl⟩
        have hx' : 97 ≤ x ∧ x ≤ 122 := by
          unfold wb at hq
          rw [hx] at hq
          simpa using hq
        rw [hx] at x0
        have e4 : decide ((x : Int) < 97) = false := by simp; omega
        have e5 : decide (122 < (x : Int)) = false := by simp; omega
        clear hq I hx
        go_wp2
        go_roundg (s.size - (k + 1))
        case measure => omega
        case rel => exact ⟨k + 1, Nat.le_refl _, by omega, by go_num, rfl, I2⟩
      | false =>
        have F : Aside (nmB s (m : Int) = ⟨#[]⟩) := N.out (all_not_get wb k hlt hq)
        have x0 := index_str s k hlt (k : Int) rfl
        obtain ⟨x, hx⟩ : ∃ x, s[k].toNat = x := ⟨_, rfl⟩
        have hx' := wb_ways hx hq
        rw [hx] at x0
        clear hq I hx
        rcases hx' with hx' | ⟨hx', hx''⟩
        · have e4 : decide ((x : Int) < 97) = true := by simp; omega
          go_wp2
          go_ret
          exact ⟨by rw [F.out]; rfl, Below.refl _ _⟩
        · have e4 : decide ((x : Int) < 97) = false := by simp; omega
          have e5 : decide (122 < (x : Int)) = true := by simp; omega
          go_wp2
          go_ret
          exact ⟨by rw [F.out]; rfl, Below.refl _ _⟩
    · have e3 : decide (k < s.size) = false := by simpa using hlt
      have e3' : decide ((k : Int) < (s.size : Int)) = false := by simpa using hlt
      have F : Aside (nmB s (m : Int) = (s ++ ⟨#[46]⟩) ++ D) := E.out (all_of_get wb fun i hi => I.out i (by omega) hi)
      clear I
      go_wp2_with (go_at_call 36; refine (K.out _).mono ?_; rintro e w2 ⟨rfl, hb⟩)
      go_ret
      exact ⟨by rw [F.out]; rfl, hb⟩
end Go.Proofs.YtblhkhgcaheplaaGreatDoor
