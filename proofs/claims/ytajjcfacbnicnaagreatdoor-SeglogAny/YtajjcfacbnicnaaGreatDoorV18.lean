/-
  YtajjcfacbnicnaaGreatDoor: the texts F3, F4, one behind the other.
-/
import Derived.Test.YtajjcfacbnicnaaGreatDoorV17
/-
  The number of a name, by the program and by the document.
-/
namespace Go.Proofs.YtajjcfacbnicnaaGreatDoor
open Go.RowKit
set_option maxRecDepth 100000

def nP (s t : ByteArray) : Int × Bool := Fi.numP s.data.toList t.data.toList
def nR (s t : ByteArray) : Nat := Fi.numR s.data.toList t.data.toList

theorem nmB_eq {s t : ByteArray} {n : Int} : nmB s n = t ↔ Fi.nm s.data.toList n = t.data.toList := by
  constructor
  · rintro rfl
    simp [nmB]
  · intro h
    unfold nmB
    rw [h, mk_data]

theorem toList_beq (a b : ByteArray) : (a.toList == b.toList) = decide (a = b) := by
  rw [Bool.eq_iff_iff]
  simp only [beq_iff_eq, decide_eq_true_eq, Lib.toList_data]
  constructor
  · intro h
    apply ByteArray.ext
    exact Array.toList_inj.1 h
  · rintro rfl; rfl

theorem nil_list : (ByteArray.mk #[]).toList = [] := by rw [Lib.toList_data]

theorem empty_list (t : ByteArray) : t.data.toList = [] ↔ t = ⟨#[]⟩ := by
  constructor
  · intro h
    apply ByteArray.ext
    apply Array.toList_inj.1
    exact h
  · rintro rfl; rfl

set_option maxHeartbeats 1600000 in
theorem number_any (s t : ByteArray) (w : World) (ht : t.size ≤ 1000) (hv : Vars w) :
    Calls Tryz.prog 101 #[.string s, .string t] w fun e w' => e = .returned (.tuple #[.int .i64 (nP s t).1, .bool (nP s t).2]) ∧ Below w.heap.size w w' := by
  have k0 := cut_any t (by omega) w
  have hN : nP s t = match Lib.atoiAll (Lib.cut t.data.toList [46]).2.1 with
      | .ok v => if Fi.nm s.data.toList v = t.data.toList then (v, true) else (0, false)
      | _ => (0, false) := rfl
  have hlen : (Lib.cut t.data.toList [46]).2.1.length ≤ 1000 := by
    have ht' : t.data.toList.length ≤ 1000 := ht
    unfold Lib.cut
    split
    · simp only [List.length_drop]; omega
    · simp
  have hsz : (ByteArray.mk (Lib.cut t.data.toList [46]).2.1.toArray).size ≤ 1000 := by rw [size_mk]; exact hlen
  have K1 : Aside (∀ u, Vars u → Calls Tryz.prog 115 #[.string ⟨(Lib.cut t.data.toList [46]).2.1.toArray⟩] u fun e w' => Atoied ⟨(Lib.cut t.data.toList [46]).2.1.toArray⟩ e ∧ Below u.heap.size u w') := fun u hu => atoi_any _ hsz u hu
  have K2 : Aside (∀ (v : Int) (u : World), Vars u → Calls Tryz.prog 80 #[.string s, .int .i64 v] u fun e w' => e = .returned (.string (nmB s v)) ∧ Below u.heap.size u w') := fun v u hu => name_any s v u hu
  have HN : Aside (∀ v, Lib.atoiAll (Lib.cut t.data.toList [46]).2.1 = .ok v → nP s t = if nmB s v = t then (v, true) else (0, false)) := fun v hv => by
    rw [hN, hv]
    simp only [nmB_eq]
  have HO : Aside ((∀ v, Lib.atoiAll (Lib.cut t.data.toList [46]).2.1 ≠ .ok v) → nP s t = (0, false)) := fun hv => by
    rw [hN]
    split
    · rename_i v h
      exact absurd h (hv v)
    · rfl
  have HV : Aside (Vars w) := hv
  clear hN hlen hsz hv
  unfold Atoied at K1
  generalize (Lib.cut t.data.toList [46]).2.1 = ds at *
  generalize (Lib.cut t.data.toList [46]).1 = ws at *
  generalize (Lib.cut t.data.toList [46]).2.2 = fs at *
  go_enter Tryz.func101, Tryz.ntmps101
  go_wp2_with (first
    | (go_at_call 114; refine k0.mono ?_; rintro e w1 ⟨rfl, hb1⟩)
    | (go_at_call 115; refine (K1.out _ (HV.out.below hb1)).mono ?_; rintro e w2 ⟨(⟨v, ha, rfl⟩ | ⟨ha, x, N, rfl⟩), hb2⟩))
  · have hb : Below w.heap.size w w2 := hb1.trans (hb2.mono hb1.size)
    have hV2 : Vars w2 := HV.out.below hb
    have hn := HN.out v ha
    have hk := K2.out v w2 hV2
    have hbq : Aside (Below w.heap.size w w2) := hb
    clear K1 K2 HN HO HV hb1 hb2 k0 ha hb hV2
    by_cases hq : nmB s v = t
    · rw [if_pos hq] at hn
      rw [hq] at hk
      have HN : Aside (nP s t = (v, true)) := hn
      clear hn hq
      have q1 : (t.toList == t.toList) = true := by rw [toList_beq]; simp
      have q2 : (t.toList != t.toList) = false := by unfold bne; rw [q1]; rfl
      go_wp2_with (go_at_call 80; refine hk.mono ?_; rintro e w3 ⟨rfl, hb3⟩)
      go_ret2
      exact ⟨by rw [HN.out]; rfl, hbq.out.trans (hb3.mono hbq.out.size)⟩
    · rw [if_neg hq] at hn
      have HN : Aside (nP s t = (0, false)) := hn
      clear hn
      generalize nmB s v = T at *
      have q1 : (T.toList == t.toList) = false := by rw [toList_beq]; simpa using hq
      have q2 : (T.toList != t.toList) = true := by unfold bne; rw [q1]; rfl
      go_wp2_with (go_at_call 80; refine hk.mono ?_; rintro e w3 ⟨rfl, hb3⟩)
      go_ret2
      exact ⟨by rw [HN.out]; rfl, hbq.out.trans (hb3.mono hbq.out.size)⟩
  · rw [HO.out ha]
    clear K1 K2 HN HO HV k0 ha
    go_wp2
    go_ret2
    exact ⟨rfl, hb1.trans (hb2.mono hb1.size)⟩

/-- What holds at each round's head of the document's loop. -/
def NRel (s t : ByteArray) (v5 v6 : Value) (j : Nat) : Prop :=
  ∃ n : Nat, v5 = .int .i64 (n : Int) ∧ v6 = .int .i64 (j : Int) ∧ n ≤ 999999 ∧ j ≤ s.size + 1 + t.size ∧ Fi.rd 0 (t.data.toList.drop (s.size + 1)) = Fi.rd n (t.data.toList.drop j)

theorem byte_at (s : ByteArray) (i : Nat) (h : i < s.size) : s.data.toList.drop i = s[i] :: s.data.toList.drop (i + 1) := by
  have hl : i < s.data.toList.length := h
  rw [List.drop_eq_getElem_cons hl]
  rfl

theorem nR_some {s t : ByteArray} {n : Nat} (h : Fi.rd 0 (t.data.toList.drop (s.size + 1)) = some n) : nR s t = if t = ⟨#[]⟩ ∨ nmB s (n : Int) ≠ t then 0 else n := by
  unfold nR Fi.numR
  rw [show s.data.toList.length = s.size from rfl, h]
  simp only [empty_list, Ne, nmB_eq]

theorem nR_none {s t : ByteArray} (h : Fi.rd 0 (t.data.toList.drop (s.size + 1)) = none) : nR s t = 0 := by
  unfold nR Fi.numR
  rw [show s.data.toList.length = s.size from rfl, h]

set_option maxHeartbeats 3200000 in
set_option maxRecDepth 100000 in
theorem refNumber_any (s t : ByteArray) (w : World) (hs : s.size ≤ 1000) (ht : t.size ≤ 1000) :
    Calls Tryz.prog 84 #[.string s, .string t] w fun e w' => e = .returned (.int .i64 (nR s t : Nat)) ∧ Below w.heap.size w w' := by
  go_enter Tryz.func84, Tryz.ntmps84
  go_wp2
  go_loopg [5, 6] t.size (fun gh v5 v6 wr => ∃ j : Nat, s.size + 1 ≤ j ∧ t.size - j ≤ gh ∧ wr = w ∧ NRel s t v5 v6 j)
  case atStart => exact ⟨s.size + 1, Nat.le_refl _, by omega, rfl, 0, rfl, by simp, by omega, by omega, rfl⟩
  case round =>
    obtain ⟨j, hj0, hgh, rfl, n, rfl, rfl, hn, hj, hr⟩ := hrel
    by_cases hlt : j < t.size
    · have d1 : decide (j < t.size) = true := decide_eq_true hlt
      have d1' : decide ((j : Int) < (t.size : Int)) = true := decide_eq_true (by omega)
      rw [byte_at t j hlt] at hr
      by_cases hnl : n < 100000
      · have d2 : decide ((n : Int) < 100000) = true := decide_eq_true (by omega)
        have x0 := index_str t j hlt (j : Int) rfl
        have hb := t[j].toNat_lt
        have hr1 : Fi.rd 0 (t.data.toList.drop (s.size + 1)) = if 48 ≤ t[j].toNat ∧ t[j].toNat ≤ 57 then Fi.rd (n * 10 + (t[j].toNat - 48)) (t.data.toList.drop (j + 1)) else none := by
          rw [hr]
          conv => lhs; unfold Fi.rd
          rw [if_pos hnl]
        clear hr
        generalize t[j].toNat = x at *
        by_cases g1 : x < 48
        · have e1 : decide ((x : Int) < 48) = true := decide_eq_true (by omega)
          have F : Aside (nR s t = 0) := nR_none (by rw [hr1, if_neg (by omega)])
          clear hr1
          go_wp2
          go_ret
          exact ⟨by rw [F.out]; rfl, Below.refl _ _⟩
        · have e1 : decide ((x : Int) < 48) = false := decide_eq_false (by omega)
          by_cases g2 : 57 < x
          · have e2 : decide (57 < (x : Int)) = true := decide_eq_true (by omega)
            have F : Aside (nR s t = 0) := nR_none (by rw [hr1, if_neg (by omega)])
            clear hr1
            go_wp2
            go_ret
            exact ⟨by rw [F.out]; rfl, Below.refl _ _⟩
          · have e2 : decide (57 < (x : Int)) = false := decide_eq_false (by omega)
            rw [if_pos (by omega)] at hr1
            have F : Aside (Fi.rd 0 (t.data.toList.drop (s.size + 1)) = Fi.rd (n * 10 + (x - 48)) (t.data.toList.drop (j + 1))) := hr1
            clear hr1
            go_wp2
            go_roundg (t.size - (j + 1))
            case measure => omega
            case rel => exact ⟨j + 1, by omega, Nat.le_refl _, rfl, n * 10 + (x - 48), by rw [show (((n * 10 + (x - 48) : Nat)) : Int) = (n : Int) * 10 + (x : Int) - 48 by omega], by go_num, by omega, by omega, F.out⟩
      · have d2 : decide ((n : Int) < 100000) = false := decide_eq_false (by omega)
        have F : Aside (Fi.rd 0 (t.data.toList.drop (s.size + 1)) = some n) := by
          show _ = _
          rw [hr]
          unfold Fi.rd
          rw [if_neg hnl]
        have G := nR_some F.out
        clear hr F
        by_cases hq : t = ⟨#[]⟩
        · have q0 : (t.toList == []) = true := by rw [hq, nil_list]; rfl
          have q1 : t.toList = [] := by rw [hq, nil_list]
          have G' : Aside (nR s t = 0) := by show _ = _; rw [G, if_pos (Or.inl hq)]
          clear G hq
          go_wp2
          go_ret
          exact ⟨by rw [G'.out]; rfl, Below.refl _ _⟩
        · have q0 : (t.toList == []) = false := by
            rw [← nil_list, toList_beq]; simpa using hq
          have k9 := refName_any s n wr
          by_cases hq2 : nmB s (n : Int) = t
          · rw [if_neg (by rintro (h | h); exact hq h; exact h hq2)] at G
            have G' : Aside (nR s t = n) := G
            rw [hq2] at k9
            have q1 : (t.toList == t.toList) = true := by rw [toList_beq]; simp
            have q2 : (t.toList != t.toList) = false := by unfold bne; rw [q1]; rfl
            clear G hq hq2
            go_wp2_with (go_at_call 32; refine k9.mono ?_; rintro e w3 ⟨rfl, hb3⟩)
            go_ret
            exact ⟨by rw [G'.out]; rfl, hb3⟩
          · rw [if_pos (Or.inr hq2)] at G
            have G' : Aside (nR s t = 0) := G
            have q1 : ((nmB s (n : Int)).toList == t.toList) = false := by rw [toList_beq]; simpa using hq2
            have q2 : ((nmB s (n : Int)).toList != t.toList) = true := by unfold bne; rw [q1]; rfl
            clear G hq hq2
            generalize nmB s (n : Int) = T at *
            go_wp2_with (go_at_call 32; refine k9.mono ?_; rintro e w3 ⟨rfl, hb3⟩)
            go_ret
            exact ⟨by rw [G'.out]; rfl, hb3⟩
    · have d1 : decide (j < t.size) = false := decide_eq_false hlt
      have d1' : decide ((j : Int) < (t.size : Int)) = false := decide_eq_false (by omega)
      have F : Aside (Fi.rd 0 (t.data.toList.drop (s.size + 1)) = some n) := by
        show _ = _
        rw [hr, List.drop_eq_nil_of_le (by show t.size ≤ j; omega)]
        rfl
      have G := nR_some F.out
      clear hr F
      by_cases hq : t = ⟨#[]⟩
      · have q0 : (t.toList == []) = true := by rw [hq, nil_list]; rfl
        have q1 : t.toList = [] := by rw [hq, nil_list]
        have G' : Aside (nR s t = 0) := by show _ = _; rw [G, if_pos (Or.inl hq)]
        clear G hq
        go_wp2
        go_ret
        exact ⟨by rw [G'.out]; rfl, Below.refl _ _⟩
      · have q0 : (t.toList == []) = false := by
          rw [← nil_list, toList_beq]; simpa using hq
        have k9 := refName_any s n wr
        by_cases hq2 : nmB s (n : Int) = t
        · rw [if_neg (by rintro (h | h); exact hq h; exact h hq2)] at G
          have G' : Aside (nR s t = n) := G
          rw [hq2] at k9
          have q1 : (t.toList == t.toList) = true := by rw [toList_beq]; simp
          have q2 : (t.toList != t.toList) = false := by unfold bne; rw [q1]; rfl
          clear G hq hq2
          go_wp2_with (go_at_call 32; refine k9.mono ?_; rintro e w3 ⟨rfl, hb3⟩)
          go_ret
          exact ⟨by rw [G'.out]; rfl, hb3⟩
        · rw [if_pos (Or.inr hq2)] at G
          have G' : Aside (nR s t = 0) := G
          have q1 : ((nmB s (n : Int)).toList == t.toList) = false := by rw [toList_beq]; simpa using hq2
          have q2 : ((nmB s (n : Int)).toList != t.toList) = true := by unfold bne; rw [q1]; rfl
          clear G hq hq2
          generalize nmB s (n : Int) = T at *
          go_wp2_with (go_at_call 32; refine k9.mono ?_; rintro e w3 ⟨rfl, hb3⟩)
          go_ret
          exact ⟨by rw [G'.out]; rfl, hb3⟩
end Go.Proofs.YtajjcfacbnicnaaGreatDoor

/-
  The law's own first call; the law on names.
-/
namespace Go.Proofs.YtajjcfacbnicnaaGreatDoor
open Go.RowKit
set_option maxRecDepth 100000

theorem word_log : Fi.wd (ByteArray.mk #[108, 111, 103]).data.toList = true := by decide
theorem name_log : nmB ⟨#[108, 111, 103]⟩ 12 = ⟨#[108, 111, 103, 46, 49, 50]⟩ := by
  unfold nmB
  rw [Fi.nm_in word_log (by decide) (by decide), show ((12 : Int).toNat) = 12 from rfl, Lib.decDigits_two (by decide) (by decide)]
  rfl
theorem number_log : nP ⟨#[108, 111, 103]⟩ ⟨#[108, 111, 103, 46, 49, 50]⟩ = (12, true) := by
  have := Fi.numP_in (n := 12) word_log (by decide) (by decide)
  rw [show Fi.nm (ByteArray.mk #[108, 111, 103]).data.toList 12 = (ByteArray.mk #[108, 111, 103, 46, 49, 50]).data.toList from nmB_eq.1 name_log] at this
  exact this

theorem nmB_size (s : ByteArray) (n : Int) : (nmB s n).size ≤ 11 := by
  by_cases h : Fi.wd s.data.toList = true ∧ 1 ≤ n ∧ n ≤ 99999
  · rw [nmB_some h.1 h.2.1 h.2.2, ByteArray.size_append, ByteArray.size_append]
    have := size_mk (Lib.decDigits n.toNat)
    have := wd_size h.1
    have := dec_len n.toNat (by omega)
    have : (ByteArray.mk #[46]).size = 1 := rfl
    omega
  · rw [nmB_none h]
    decide

end Go.Proofs.YtajjcfacbnicnaaGreatDoor
