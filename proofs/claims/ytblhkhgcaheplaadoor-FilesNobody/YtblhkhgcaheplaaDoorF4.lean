/-
  The law's own first call; the law on names.
-/
import Derived.Test.YtblhkhgcaheplaaDoorF3
namespace Go.Proofs.YtblhkhgcaheplaaDoor
open Go.RowKit

theorem word_log : Fi.wd (ByteArray.mk #[108, 111, 103]).data.toList = true := by decide
theorem name_log : nmB ⟨#[108, 111, 103]⟩ 12 = ⟨#[108, 111, 103, 46, 49, 50]⟩ := by
  unfold nmB
  rw [Fi.nm_in word_log (by decide) (by decide), show ((12 : Int).toNat) = 12 from rfl, Lib.decDigits_two (by decide) (by decide)]
  rfl
theorem number_log : nP ⟨#[108, 111, 103]⟩ ⟨#[108, 111, 103, 46, 49, 50]⟩ = (12, true) := by
  have := Fi.numP_in (n := 12) word_log (by decide) (by decide)
  rw [show Fi.nm (ByteArray.mk #[108, 111, 103]).data.toList 12 = (ByteArray.mk #[108, 111, 103, 46, 49, 50]).data.toList from nmB_eq.1 name_log] at this
  exact this

theorem awake_any (w : World) (hv : Vars w) :
    Calls Tryd.prog 5 #[] w fun e w' => e = .returned (.bool true) ∧ Below w.heap.size w w' := by
  have k1 := number_any ⟨#[108, 111, 103]⟩ ⟨#[108, 111, 103, 46, 49, 50]⟩ w (by decide) hv
  rw [number_log] at k1
  have K2 : Aside (∀ u, Vars u → Calls Tryd.prog 8 #[.string ⟨#[108, 111, 103]⟩, .int .i64 12] u fun e w' => e = .returned (.string ⟨#[108, 111, 103, 46, 49, 50]⟩) ∧ Below u.heap.size u w') := fun u hu => by
    have := name_any ⟨#[108, 111, 103]⟩ 12 u hu
    rw [name_log] at this
    exact this
  have HV : Aside (Vars w) := hv
  have q1 : ((ByteArray.mk #[108, 111, 103, 46, 49, 50]).toList == (ByteArray.mk #[108, 111, 103, 46, 49, 50]).toList) = true := beq_self_eq_true _
  clear hv
  go_enter Tryd.func5, Tryd.ntmps5
  go_wp2_with (first
    | (go_at_call 6; refine k1.mono ?_; rintro e w1 ⟨rfl, hb1⟩)
    | (go_at_call 8; refine (K2.out _ (HV.out.below hb1)).mono ?_; rintro e w2 ⟨rfl, hb2⟩))
  go_ret
  exact ⟨rfl, hb1.trans (hb2.mono hb1.size)⟩

theorem nmB_size (s : ByteArray) (n : Int) : (nmB s n).size ≤ 11 := by
  by_cases h : Fi.wd s.data.toList = true ∧ 1 ≤ n ∧ n ≤ 99999
  · rw [nmB_some h.1 h.2.1 h.2.2, ByteArray.size_append, ByteArray.size_append]
    have := size_mk (Lib.decDigits n.toNat)
    have := wd_size h.1
    have := dec_len n.toNat (by omega)
    have : (ByteArray.mk #[46]).size = 1 := rfl
    omega
  · rw [nmB_none h]
    decide

theorem names_long (s t : ByteArray) (n : Int) (w : World) (hv : Vars w) (h : 30 < s.size ∨ 30 < t.size) :
    Calls Tryd.prog 3 #[.string s, .string t, .int .i64 n] w fun e w' => e = .returned (.bool true) ∧ Below w.heap.size w w' := by
  have k0 := awake_any w hv
  by_cases h1 : 30 < s.size
  · have d1 : decide (30 < (s.size : Int)) = true := by simp; omega
    go_enter Tryd.func3, Tryd.ntmps3
    go_wp2_with (go_at_call 5; refine k0.mono ?_; rintro e w1 ⟨rfl, hb1⟩)
    go_ret
    exact ⟨rfl, hb1⟩
  · have d1 : decide (30 < (s.size : Int)) = false := by simp; omega
    have d2 : decide (30 < (t.size : Int)) = true := by simp; omega
    go_enter Tryd.func3, Tryd.ntmps3
    go_wp2_with (go_at_call 5; refine k0.mono ?_; rintro e w1 ⟨rfl, hb1⟩)
    go_ret
    exact ⟨rfl, hb1⟩

theorem nP_back (s : ByteArray) (n : Int) : nP s (nmB s n) = if nmB s n = ⟨#[]⟩ then (0, false) else (n, true) := by
  have h := Fi.num_back s.data.toList n
  have e : (nmB s n).data.toList = Fi.nm s.data.toList n := by simp [nmB]
  unfold nP
  rw [e, h]
  have : nmB s n = ⟨#[]⟩ ↔ Fi.nm s.data.toList n = [] := nmB_eq
  simp only [this]

set_option maxHeartbeats 3200000 in
theorem names_short (s t : ByteArray) (n : Int) (w : World) (hv : Vars w) (hs : s.size ≤ 30) (ht : t.size ≤ 30) :
    Calls Tryd.prog 3 #[.string s, .string t, .int .i64 n] w fun e w' => e = .returned (.bool true) ∧ Below w.heap.size w w' := by
  have k0 := awake_any w hv
  have HV : Aside (Vars w) := hv
  have d1 : decide (30 < (s.size : Int)) = false := by simp; omega
  have d2 : decide (30 < (t.size : Int)) = false := by simp; omega
  have hb := Fi.num_both s.data.toList t.data.toList
  have K1 : Aside (∀ u, Vars u → Calls Tryd.prog 6 #[.string s, .string t] u fun e w' => e = .returned (.tuple #[.int .i64 (nR s t : Nat), .bool (decide (0 < nR s t))]) ∧ Below u.heap.size u w') := fun u hu => by
    have := number_any s t u (by omega) hu
    rw [show nP s t = ((nR s t : Int), decide (0 < nR s t)) from hb] at this
    exact this
  have K2 : Aside (∀ u, Calls Tryd.prog 7 #[.string s, .string t] u fun e w' => e = .returned (.int .i64 (nR s t : Nat)) ∧ Below u.heap.size u w') := fun u => refNumber_any s t u (by omega) (by omega)
  have K3 : Aside (∀ u, Vars u → Calls Tryd.prog 8 #[.string s, .int .i64 n] u fun e w' => e = .returned (.string (nmB s n)) ∧ Below u.heap.size u w') := fun u hu => name_any s n u hu
  have K4 : Aside (∀ u, Vars u → Calls Tryd.prog 6 #[.string s, .string (nmB s n)] u fun e w' => e = .returned (.tuple #[.int .i64 (if nmB s n = ⟨#[]⟩ then (0, false) else (n, true) : Int × Bool).1, .bool (if nmB s n = ⟨#[]⟩ then (0, false) else (n, true) : Int × Bool).2]) ∧ Below u.heap.size u w') := fun u hu => by
    have := number_any s (nmB s n) u (by have := nmB_size s n; omega) hu
    rw [nP_back] at this
    exact this
  have K5 : Aside (∀ u, Calls Tryd.prog 9 #[.string s, .int .i64 n] u fun e w' => e = .returned (.string (nmB s n)) ∧ Below u.heap.size u w') := fun u => refName_any s n u
  clear hv hb
  generalize nmB s n = T at *
  generalize nR s t = R at *
  have q1 : (T.toList == T.toList) = true := beq_self_eq_true _
  have p1 : ((R : Int) == (R : Int)) = true := beq_self_eq_true _
  have p2 : (n == n) = true := beq_self_eq_true _
  by_cases hT : T = ⟨#[]⟩ <;> by_cases hR : 0 < R
  all_goals first | rw [if_pos hT] at K4 | rw [if_neg hT] at K4
  all_goals first | (have q2 : (T.toList == []) = true := by rw [hT, nil_list]; rfl) | (have q2 : (T.toList == []) = false := by rw [← nil_list, toList_beq]; simpa using hT)
  all_goals first | (have q3 : (T.toList != []) = false := by unfold bne; rw [q2]; rfl) | (have q3 : (T.toList != []) = true := by unfold bne; rw [q2]; rfl)
  all_goals first | (have r1 : decide (0 < R) = true := decide_eq_true hR) | (have r1 : decide (0 < R) = false := decide_eq_false hR)
  all_goals first | (have r2 : decide (0 < (R : Int)) = true := decide_eq_true (by omega)) | (have r2 : decide (0 < (R : Int)) = false := decide_eq_false (by omega))
  all_goals rw [r1] at K1
  all_goals clear hT hR
  all_goals go_enter Tryd.func3, Tryd.ntmps3
  all_goals go_wp2_with (first
    | (go_at_call 5; refine k0.mono ?_; rintro e w1 ⟨rfl, hb1⟩; clear k0)
    | (go_at_call 6; refine (K1.out _ (HV.out.below hb1)).mono ?_; rintro e w2 ⟨rfl, hb2⟩; replace hb2 := hb1.trans (hb2.mono hb1.size); clear K1)
    | (go_at_call 7; refine (K2.out _).mono ?_; rintro e w3 ⟨rfl, hb3⟩; replace hb3 := hb2.trans (hb3.mono hb2.size))
    | (go_at_call 8; refine (K3.out _ (HV.out.below hb3)).mono ?_; rintro e w4 ⟨rfl, hb4⟩; replace hb4 := hb3.trans (hb4.mono hb3.size))
    | (go_at_call 6; refine (K4.out _ (HV.out.below hb4)).mono ?_; rintro e w5 ⟨rfl, hb5⟩; replace hb5 := hb4.trans (hb5.mono hb4.size))
    | (go_at_call 9; refine (K5.out _).mono ?_; rintro e w6 ⟨rfl, hb6⟩; replace hb6 := hb5.trans (hb6.mono hb5.size)))
  all_goals go_ret
  all_goals exact ⟨rfl, hb6⟩

theorem names_any (s t : ByteArray) (n : Int) (w : World) (hv : Vars w) :
    Calls Tryd.prog 3 #[.string s, .string t, .int .i64 n] w fun e w' => e = .returned (.bool true) ∧ Below w.heap.size w w' := by
  by_cases h : 30 < s.size ∨ 30 < t.size
  · exact names_long s t n w hv h
  · exact names_short s t n w hv (by omega) (by omega)
end Go.Proofs.YtblhkhgcaheplaaDoor
