/-
  YtajjcfacbnicnaaGreatDoor: the texts F2, F3, F4, one behind the other.
-/
import Derived.Test.YtajjcfacbnicnaaGreatDoorU1
/-
  The name of a word and a number, by the program and by the document.
-/
namespace Go.Proofs.YtajjcfacbnicnaaGreatDoor
open Go.RowKit
set_option maxRecDepth 100000

def nmB (s : ByteArray) (n : Int) : ByteArray := ⟨(Fi.nm s.data.toList n).toArray⟩

theorem nmB_none {s : ByteArray} {n : Int} (h : ¬ (Fi.wd s.data.toList = true ∧ 1 ≤ n ∧ n ≤ 99999)) : nmB s n = ⟨#[]⟩ := by
  unfold nmB
  rw [Fi.nm_empty.2 h]

theorem nmB_some {s : ByteArray} {n : Int} (hw : Fi.wd s.data.toList = true) (h1 : 1 ≤ n) (h2 : n ≤ 99999) : nmB s n = (s ++ ⟨#[46]⟩) ++ ⟨(Lib.decDigits n.toNat).toArray⟩ := by
  unfold nmB
  rw [Fi.nm_in hw h1 h2]
  conv => rhs; rw [← mk_data s]
  rw [show (ByteArray.mk #[46]) = ⟨[46].toArray⟩ from rfl, mk_append, mk_append]
  simp

theorem wd_size {s : ByteArray} (h : Fi.wd s.data.toList = true) : 1 ≤ s.size ∧ s.size ≤ 5 := by
  have := Fi.wd_iff.1 h
  exact ⟨this.1, this.2.1⟩

set_option maxHeartbeats 1600000 in
theorem name_any (s : ByteArray) (n : Int) (w : World) (hv : Vars w) :
    Calls Tryz.prog 80 #[.string s, .int .i64 n] w fun e w' => e = .returned (.string (nmB s n)) ∧ Below w.heap.size w w' := by
  have k0 := isWord_any s w
  cases hw : Fi.wd s.data.toList with
  | false =>
    rw [hw] at k0
    rw [nmB_none (by rw [hw]; simp)]
    clear hw hv
    go_enter Tryz.func80, Tryz.ntmps80
    go_wp2_with (go_at_call 99; refine k0.mono ?_; rintro e w1 ⟨rfl, rfl⟩)
    go_ret
    exact ⟨rfl, Below.refl _ _⟩
  | true =>
    rw [hw] at k0
    by_cases h1 : n < 1
    · rw [nmB_none (by omega)]
      have d1 : decide (n < 1) = true := decide_eq_true h1
      clear hw hv
      go_enter Tryz.func80, Tryz.ntmps80
      go_wp2_with (go_at_call 99; refine k0.mono ?_; rintro e w1 ⟨rfl, rfl⟩)
      go_ret
      exact ⟨rfl, Below.refl _ _⟩
    · have d1 : decide (n < 1) = false := decide_eq_false h1
      by_cases h2 : 99999 < n
      · rw [nmB_none (by omega)]
        have d2 : decide (99999 < n) = true := decide_eq_true h2
        clear hw hv
        go_enter Tryz.func80, Tryz.ntmps80
        go_wp2_with (go_at_call 99; refine k0.mono ?_; rintro e w1 ⟨rfl, rfl⟩)
        go_ret
        exact ⟨rfl, Below.refl _ _⟩
      · have d2 : decide (99999 < n) = false := decide_eq_false h2
        have k1 := itoa_any n (by omega) (by omega) w hv
        have E : Aside (nmB s n = (s ++ ⟨#[46]⟩) ++ ⟨(Lib.decDigits n.toNat).toArray⟩) := nmB_some hw (by omega) (by omega)
        have hz := wd_size hw
        have hd := dec_len n.toNat (by omega)
        have hsz : (ByteArray.mk (Lib.decDigits n.toNat).toArray).size = (Lib.decDigits n.toNat).length := size_mk _
        have hs1 : (s ++ ⟨#[46]⟩).size = s.size + 1 := by rw [ByteArray.size_append]; rfl
        clear hw hv
        generalize ByteArray.mk (Lib.decDigits n.toNat).toArray = D at *
        generalize (Lib.decDigits n.toNat).length = DL at *
        go_enter Tryz.func80, Tryz.ntmps80
        go_wp2_with (first
          | (go_at_call 99; refine k0.mono ?_; rintro e w1 ⟨rfl, rfl⟩)
          | (go_at_call 100; refine k1.mono ?_; rintro e w2 ⟨rfl, hb⟩))
        go_ret
        exact ⟨by rw [E.out]; rfl, hb⟩

set_option maxHeartbeats 3200000 in
theorem refName_any (s : ByteArray) (n : Int) (w : World) :
    Calls Tryz.prog 32 #[.string s, .int .i64 n] w fun e w' => e = .returned (.string (nmB s n)) ∧ Below w.heap.size w w' := by
  have H0 : ∀ h : ¬ (Fi.wd s.data.toList = true ∧ 1 ≤ n ∧ n ≤ 99999), nmB s n = ⟨#[]⟩ := fun h => nmB_none h
  by_cases g1 : s.size < 1
  · rw [H0 fun h => by have := wd_size h.1; omega]
    have d1 : decide ((s.size : Int) < 1) = true := by simp; omega
    clear H0
    go_enter Tryz.func32, Tryz.ntmps32
    go_wp2
    go_ret
    exact ⟨rfl, Below.refl _ _⟩
  have d1 : decide ((s.size : Int) < 1) = false := by simp; omega
  by_cases g2 : 5 < s.size
  · rw [H0 fun h => by have := wd_size h.1; omega]
    have d2 : decide (5 < (s.size : Int)) = true := by simp; omega
    clear H0
    go_enter Tryz.func32, Tryz.ntmps32
    go_wp2
    go_ret
    exact ⟨rfl, Below.refl _ _⟩
  have d2 : decide (5 < (s.size : Int)) = false := by simp; omega
  by_cases g3 : n < 1
  · rw [H0 fun h => by omega]
    have d3 : decide (n < 1) = true := decide_eq_true g3
    clear H0
    go_enter Tryz.func32, Tryz.ntmps32
    go_wp2
    go_ret
    exact ⟨rfl, Below.refl _ _⟩
  have d3 : decide (n < 1) = false := decide_eq_false g3
  by_cases g4 : 99999 < n
  · rw [H0 fun h => by omega]
    have d4 : decide (99999 < n) = true := decide_eq_true g4
    clear H0
    go_enter Tryz.func32, Tryz.ntmps32
    go_wp2
    go_ret
    exact ⟨rfl, Below.refl _ _⟩
  have d4 : decide (99999 < n) = false := decide_eq_false g4
  have hwd : Fi.wd s.data.toList = s.data.toList.all wb := by
    rw [wd_is, show (decide (1 ≤ s.size) && decide (s.size ≤ 5)) = true by simp; omega, Bool.true_and]
  obtain ⟨m, hm⟩ : ∃ m : Nat, n = (m : Int) := ⟨n.toNat, by omega⟩
  subst hm
  have K : Aside (∀ u, Calls Tryz.prog 72 #[.int .i64 (m : Int)] u fun e w' => e = .returned (.string ⟨(Lib.decDigits m).toArray⟩) ∧ Below u.heap.size u w') := fun u => digits_any m u (by omega) (by omega)
  have E : Aside (s.data.toList.all wb = true → nmB s (m : Int) = (s ++ ⟨#[46]⟩) ++ ⟨(Lib.decDigits m).toArray⟩) := fun h => by
    have := nmB_some (n := (m : Int)) (hwd.trans h) (by omega) (by omega)
    exact this
  have N : Aside (s.data.toList.all wb = false → nmB s (m : Int) = ⟨#[]⟩) := fun h => H0 fun h' => by rw [hwd, h] at h'; exact absurd h'.1 (by simp)
  have hd := dec_len m (by omega)
  have hsz : (ByteArray.mk (Lib.decDigits m).toArray).size = (Lib.decDigits m).length := size_mk _
  have hs1 : (s ++ ⟨#[46]⟩).size = s.size + 1 := by rw [ByteArray.size_append]; rfl
  clear H0 hwd
  generalize ByteArray.mk (Lib.decDigits m).toArray = D at *
  generalize (Lib.decDigits m).length = DL at *
  go_enter Tryz.func32, Tryz.ntmps32
  go_wp2
  go_loopg [5] s.size (fun gh v wr => ∃ k : Nat, s.size - k ≤ gh ∧ k ≤ s.size ∧ v = .int .i64 (k : Int) ∧ wr = w ∧ Aside (∀ i, i < k → (hi : i < s.size) → wb s[i] = true))
  case atStart => exact ⟨0, by omega, by omega, rfl, rfl, (fun i hi _ => absurd hi (Nat.not_lt_zero _) : ∀ i, i < 0 → (hi : i < s.size) → wb s[i] = true)⟩
  case round =>
    obtain ⟨k, hgh, hk, rfl, rfl, I⟩ := hrel
    by_cases hlt : k < s.size
    · have e3 : decide (k < s.size) = true := by simpa using hlt
      have e3' : decide ((k : Int) < (s.size : Int)) = true := by simpa using hlt
      cases hq : wb s[k] with
      | true =>
        have I2 : Aside (∀ i, i < k + 1 → (hi : i < s.size) → wb s[i] = true) := fun i hi hs => by
          by_cases h : i = k
          · subst h; exact hq
          · exact I.out i (by omega) hs
        have x0 := index_str s k hlt (k : Int) rfl
        obtain ⟨x, hx⟩ : ∃ x, s[k].toNat = x := ⟨_, rfl⟩
        have hx' : 97 ≤ x ∧ x ≤ 122 := by
          unfold wb at hq
          rw [hx] at hq
          simpa using hq
        rw [hx] at x0
        have e4 : decide ((x : Int) < 97) = false := by simp; omega
        have e5 : decide (122 < (x : Int)) = false := by simp; omega
        clear hq I hx
        go_wp2
        go_roundg (s.size - (k + 1))
        case measure => omega
        case rel => exact ⟨k + 1, Nat.le_refl _, by omega, by go_num, rfl, I2⟩
      | false =>
        have F : Aside (nmB s (m : Int) = ⟨#[]⟩) := N.out (all_not_get wb k hlt hq)
        have x0 := index_str s k hlt (k : Int) rfl
        obtain ⟨x, hx⟩ : ∃ x, s[k].toNat = x := ⟨_, rfl⟩
        have hx' := wb_ways hx hq
        rw [hx] at x0
        clear hq I hx
        rcases hx' with hx' | ⟨hx', hx''⟩
        · have e4 : decide ((x : Int) < 97) = true := by simp; omega
          go_wp2
          go_ret
          exact ⟨by rw [F.out]; rfl, Below.refl _ _⟩
        · have e4 : decide ((x : Int) < 97) = false := by simp; omega
          have e5 : decide (122 < (x : Int)) = true := by simp; omega
          go_wp2
          go_ret
          exact ⟨by rw [F.out]; rfl, Below.refl _ _⟩
    · have e3 : decide (k < s.size) = false := by simpa using hlt
      have e3' : decide ((k : Int) < (s.size : Int)) = false := by simpa using hlt
      have F : Aside (nmB s (m : Int) = (s ++ ⟨#[46]⟩) ++ D) := E.out (all_of_get wb fun i hi => I.out i (by omega) hi)
      clear I
      go_wp2_with (go_at_call 72; refine (K.out _).mono ?_; rintro e w2 ⟨rfl, hb⟩)
      go_ret
      exact ⟨by rw [F.out]; rfl, hb⟩
end Go.Proofs.YtajjcfacbnicnaaGreatDoor

/-
  The number of a name, by the program and by the document.
-/
namespace Go.Proofs.YtajjcfacbnicnaaGreatDoor
open Go.RowKit
set_option maxRecDepth 100000

def nP (s t : ByteArray) : Int × Bool := Fi.numP s.data.toList t.data.toList
def nR (s t : ByteArray) : Nat := Fi.numR s.data.toList t.data.toList

theorem nmB_eq {s t : ByteArray} {n : Int} : nmB s n = t ↔ Fi.nm s.data.toList n = t.data.toList := by
  constructor
  · rintro rfl
    simp [nmB]
  · intro h
    unfold nmB
    rw [h, mk_data]

theorem toList_beq (a b : ByteArray) : (a.toList == b.toList) = decide (a = b) := by
  rw [Bool.eq_iff_iff]
  simp only [beq_iff_eq, decide_eq_true_eq, Lib.toList_data]
  constructor
  · intro h
    apply ByteArray.ext
    exact Array.toList_inj.1 h
  · rintro rfl; rfl

theorem nil_list : (ByteArray.mk #[]).toList = [] := by rw [Lib.toList_data]

theorem empty_list (t : ByteArray) : t.data.toList = [] ↔ t = ⟨#[]⟩ := by
  constructor
  · intro h
    apply ByteArray.ext
    apply Array.toList_inj.1
    exact h
  · rintro rfl; rfl

set_option maxHeartbeats 1600000 in
theorem number_any (s t : ByteArray) (w : World) (ht : t.size ≤ 1000) (hv : Vars w) :
    Calls Tryz.prog 101 #[.string s, .string t] w fun e w' => e = .returned (.tuple #[.int .i64 (nP s t).1, .bool (nP s t).2]) ∧ Below w.heap.size w w' := by
  have k0 := cut_any t (by omega) w
  have hN : nP s t = match Lib.atoiAll (Lib.cut t.data.toList [46]).2.1 with
      | .ok v => if Fi.nm s.data.toList v = t.data.toList then (v, true) else (0, false)
      | _ => (0, false) := rfl
  have hlen : (Lib.cut t.data.toList [46]).2.1.length ≤ 1000 := by
    have ht' : t.data.toList.length ≤ 1000 := ht
    unfold Lib.cut
    split
    · simp only [List.length_drop]; omega
    · simp
  have hsz : (ByteArray.mk (Lib.cut t.data.toList [46]).2.1.toArray).size ≤ 1000 := by rw [size_mk]; exact hlen
  have K1 : Aside (∀ u, Vars u → Calls Tryz.prog 115 #[.string ⟨(Lib.cut t.data.toList [46]).2.1.toArray⟩] u fun e w' => Atoied ⟨(Lib.cut t.data.toList [46]).2.1.toArray⟩ e ∧ Below u.heap.size u w') := fun u hu => atoi_any _ hsz u hu
  have K2 : Aside (∀ (v : Int) (u : World), Vars u → Calls Tryz.prog 80 #[.string s, .int .i64 v] u fun e w' => e = .returned (.string (nmB s v)) ∧ Below u.heap.size u w') := fun v u hu => name_any s v u hu
  have HN : Aside (∀ v, Lib.atoiAll (Lib.cut t.data.toList [46]).2.1 = .ok v → nP s t = if nmB s v = t then (v, true) else (0, false)) := fun v hv => by
    rw [hN, hv]
    simp only [nmB_eq]
  have HO : Aside ((∀ v, Lib.atoiAll (Lib.cut t.data.toList [46]).2.1 ≠ .ok v) → nP s t = (0, false)) := fun hv => by
    rw [hN]
    split
    · rename_i v h
      exact absurd h (hv v)
    · rfl
  have HV : Aside (Vars w) := hv
  clear hN hlen hsz hv
  unfold Atoied at K1
  generalize (Lib.cut t.data.toList [46]).2.1 = ds at *
  generalize (Lib.cut t.data.toList [46]).1 = ws at *
  generalize (Lib.cut t.data.toList [46]).2.2 = fs at *
  go_enter Tryz.func101, Tryz.ntmps101
  go_wp2_with (first
    | (go_at_call 114; refine k0.mono ?_; rintro e w1 ⟨rfl, hb1⟩)
    | (go_at_call 115; refine (K1.out _ (HV.out.below hb1)).mono ?_; rintro e w2 ⟨(⟨v, ha, rfl⟩ | ⟨ha, x, N, rfl⟩), hb2⟩))
  · have hb : Below w.heap.size w w2 := hb1.trans (hb2.mono hb1.size)
    have hV2 : Vars w2 := HV.out.below hb
    have hn := HN.out v ha
    have hk := K2.out v w2 hV2
    have hbq : Aside (Below w.heap.size w w2) := hb
    clear K1 K2 HN HO HV hb1 hb2 k0 ha hb hV2
    by_cases hq : nmB s v = t
    · rw [if_pos hq] at hn
      rw [hq] at hk
      have HN : Aside (nP s t = (v, true)) := hn
      clear hn hq
      have q1 : (t.toList == t.toList) = true := by rw [toList_beq]; simp
      have q2 : (t.toList != t.toList) = false := by unfold bne; rw [q1]; rfl
      go_wp2_with (go_at_call 80; refine hk.mono ?_; rintro e w3 ⟨rfl, hb3⟩)
      go_ret2
      exact ⟨by rw [HN.out]; rfl, hbq.out.trans (hb3.mono hbq.out.size)⟩
    · rw [if_neg hq] at hn
      have HN : Aside (nP s t = (0, false)) := hn
      clear hn
      generalize nmB s v = T at *
      have q1 : (T.toList == t.toList) = false := by rw [toList_beq]; simpa using hq
      have q2 : (T.toList != t.toList) = true := by unfold bne; rw [q1]; rfl
      go_wp2_with (go_at_call 80; refine hk.mono ?_; rintro e w3 ⟨rfl, hb3⟩)
      go_ret2
      exact ⟨by rw [HN.out]; rfl, hbq.out.trans (hb3.mono hbq.out.size)⟩
  · rw [HO.out ha]
    clear K1 K2 HN HO HV k0 ha
    go_wp2
    go_ret2
    exact ⟨rfl, hb1.trans (hb2.mono hb1.size)⟩

/-- What holds at each round's head of the document's loop. -/
def NRel (s t : ByteArray) (v5 v6 : Value) (j : Nat) : Prop :=
  ∃ n : Nat, v5 = .int .i64 (n : Int) ∧ v6 = .int .i64 (j : Int) ∧ n ≤ 999999 ∧ j ≤ s.size + 1 + t.size ∧ Fi.rd 0 (t.data.toList.drop (s.size + 1)) = Fi.rd n (t.data.toList.drop j)

theorem byte_at (s : ByteArray) (i : Nat) (h : i < s.size) : s.data.toList.drop i = s[i] :: s.data.toList.drop (i + 1) := by
  have hl : i < s.data.toList.length := h
  rw [List.drop_eq_getElem_cons hl]
  rfl

theorem nR_some {s t : ByteArray} {n : Nat} (h : Fi.rd 0 (t.data.toList.drop (s.size + 1)) = some n) : nR s t = if t = ⟨#[]⟩ ∨ nmB s (n : Int) ≠ t then 0 else n := by
  unfold nR Fi.numR
  rw [show s.data.toList.length = s.size from rfl, h]
  simp only [empty_list, Ne, nmB_eq]

theorem nR_none {s t : ByteArray} (h : Fi.rd 0 (t.data.toList.drop (s.size + 1)) = none) : nR s t = 0 := by
  unfold nR Fi.numR
  rw [show s.data.toList.length = s.size from rfl, h]

set_option maxHeartbeats 3200000 in
set_option maxRecDepth 100000 in
theorem refNumber_any (s t : ByteArray) (w : World) (hs : s.size ≤ 1000) (ht : t.size ≤ 1000) :
    Calls Tryz.prog 84 #[.string s, .string t] w fun e w' => e = .returned (.int .i64 (nR s t : Nat)) ∧ Below w.heap.size w w' := by
  go_enter Tryz.func84, Tryz.ntmps84
  go_wp2
  go_loopg [5, 6] t.size (fun gh v5 v6 wr => ∃ j : Nat, s.size + 1 ≤ j ∧ t.size - j ≤ gh ∧ wr = w ∧ NRel s t v5 v6 j)
  case atStart => exact ⟨s.size + 1, Nat.le_refl _, by omega, rfl, 0, rfl, by simp, by omega, by omega, rfl⟩
  case round =>
    obtain ⟨j, hj0, hgh, rfl, n, rfl, rfl, hn, hj, hr⟩ := hrel
    by_cases hlt : j < t.size
    · have d1 : decide (j < t.size) = true := decide_eq_true hlt
      have d1' : decide ((j : Int) < (t.size : Int)) = true := decide_eq_true (by omega)
      rw [byte_at t j hlt] at hr
      by_cases hnl : n < 100000
      · have d2 : decide ((n : Int) < 100000) = true := decide_eq_true (by omega)
        have x0 := index_str t j hlt (j : Int) rfl
        have hb := t[j].toNat_lt
        have hr1 : Fi.rd 0 (t.data.toList.drop (s.size + 1)) = if 48 ≤ t[j].toNat ∧ t[j].toNat ≤ 57 then Fi.rd (n * 10 + (t[j].toNat - 48)) (t.data.toList.drop (j + 1)) else none := by
          rw [hr]
          conv => lhs; unfold Fi.rd
          rw [if_pos hnl]
        clear hr
        generalize t[j].toNat = x at *
        by_cases g1 : x < 48
        · have e1 : decide ((x : Int) < 48) = true := decide_eq_true (by omega)
          have F : Aside (nR s t = 0) := nR_none (by rw [hr1, if_neg (by omega)])
          clear hr1
          go_wp2
          go_ret
          exact ⟨by rw [F.out]; rfl, Below.refl _ _⟩
        · have e1 : decide ((x : Int) < 48) = false := decide_eq_false (by omega)
          by_cases g2 : 57 < x
          · have e2 : decide (57 < (x : Int)) = true := decide_eq_true (by omega)
            have F : Aside (nR s t = 0) := nR_none (by rw [hr1, if_neg (by omega)])
            clear hr1
            go_wp2
            go_ret
            exact ⟨by rw [F.out]; rfl, Below.refl _ _⟩
          · have e2 : decide (57 < (x : Int)) = false := decide_eq_false (by omega)
            rw [if_pos (by omega)] at hr1
            have F : Aside (Fi.rd 0 (t.data.toList.drop (s.size + 1)) = Fi.rd (n * 10 + (x - 48)) (t.data.toList.drop (j + 1))) := hr1
            clear hr1
            go_wp2
            go_roundg (t.size - (j + 1))
            case measure => omega
            case rel => exact ⟨j + 1, by omega, Nat.le_refl _, rfl, n * 10 + (x - 48), by rw [show (((n * 10 + (x - 48) : Nat)) : Int) = (n : Int) * 10 + (x : Int) - 48 by omega], by go_num, by omega, by omega, F.out⟩
      · have d2 : decide ((n : Int) < 100000) = false := decide_eq_false (by omega)
        have F : Aside (Fi.rd 0 (t.data.toList.drop (s.size + 1)) = some n) := by
          show _ = _
          rw [hr]
          unfold Fi.rd
          rw [if_neg hnl]
        have G := nR_some F.out
        clear hr F
        by_cases hq : t = ⟨#[]⟩
        · have q0 : (t.toList == []) = true := by rw [hq, nil_list]; rfl
          have q1 : t.toList = [] := by rw [hq, nil_list]
          have G' : Aside (nR s t = 0) := by show _ = _; rw [G, if_pos (Or.inl hq)]
          clear G hq
          go_wp2
          go_ret
          exact ⟨by rw [G'.out]; rfl, Below.refl _ _⟩
        · have q0 : (t.toList == []) = false := by
            rw [← nil_list, toList_beq]; simpa using hq
          have k9 := refName_any s n wr
          by_cases hq2 : nmB s (n : Int) = t
          · rw [if_neg (by rintro (h | h); exact hq h; exact h hq2)] at G
            have G' : Aside (nR s t = n) := G
            rw [hq2] at k9
            have q1 : (t.toList == t.toList) = true := by rw [toList_beq]; simp
            have q2 : (t.toList != t.toList) = false := by unfold bne; rw [q1]; rfl
            clear G hq hq2
            go_wp2_with (go_at_call 32; refine k9.mono ?_; rintro e w3 ⟨rfl, hb3⟩)
            go_ret
            exact ⟨by rw [G'.out]; rfl, hb3⟩
          · rw [if_pos (Or.inr hq2)] at G
            have G' : Aside (nR s t = 0) := G
            have q1 : ((nmB s (n : Int)).toList == t.toList) = false := by rw [toList_beq]; simpa using hq2
            have q2 : ((nmB s (n : Int)).toList != t.toList) = true := by unfold bne; rw [q1]; rfl
            clear G hq hq2
            generalize nmB s (n : Int) = T at *
            go_wp2_with (go_at_call 32; refine k9.mono ?_; rintro e w3 ⟨rfl, hb3⟩)
            go_ret
            exact ⟨by rw [G'.out]; rfl, hb3⟩
    · have d1 : decide (j < t.size) = false := decide_eq_false hlt
      have d1' : decide ((j : Int) < (t.size : Int)) = false := decide_eq_false (by omega)
      have F : Aside (Fi.rd 0 (t.data.toList.drop (s.size + 1)) = some n) := by
        show _ = _
        rw [hr, List.drop_eq_nil_of_le (by show t.size ≤ j; omega)]
        rfl
      have G := nR_some F.out
      clear hr F
      by_cases hq : t = ⟨#[]⟩
      · have q0 : (t.toList == []) = true := by rw [hq, nil_list]; rfl
        have q1 : t.toList = [] := by rw [hq, nil_list]
        have G' : Aside (nR s t = 0) := by show _ = _; rw [G, if_pos (Or.inl hq)]
        clear G hq
        go_wp2
        go_ret
        exact ⟨by rw [G'.out]; rfl, Below.refl _ _⟩
      · have q0 : (t.toList == []) = false := by
          rw [← nil_list, toList_beq]; simpa using hq
        have k9 := refName_any s n wr
        by_cases hq2 : nmB s (n : Int) = t
        · rw [if_neg (by rintro (h | h); exact hq h; exact h hq2)] at G
          have G' : Aside (nR s t = n) := G
          rw [hq2] at k9
          have q1 : (t.toList == t.toList) = true := by rw [toList_beq]; simp
          have q2 : (t.toList != t.toList) = false := by unfold bne; rw [q1]; rfl
          clear G hq hq2
          go_wp2_with (go_at_call 32; refine k9.mono ?_; rintro e w3 ⟨rfl, hb3⟩)
          go_ret
          exact ⟨by rw [G'.out]; rfl, hb3⟩
        · rw [if_pos (Or.inr hq2)] at G
          have G' : Aside (nR s t = 0) := G
          have q1 : ((nmB s (n : Int)).toList == t.toList) = false := by rw [toList_beq]; simpa using hq2
          have q2 : ((nmB s (n : Int)).toList != t.toList) = true := by unfold bne; rw [q1]; rfl
          clear G hq hq2
          generalize nmB s (n : Int) = T at *
          go_wp2_with (go_at_call 32; refine k9.mono ?_; rintro e w3 ⟨rfl, hb3⟩)
          go_ret
          exact ⟨by rw [G'.out]; rfl, hb3⟩
end Go.Proofs.YtajjcfacbnicnaaGreatDoor

/-
  The law's own first call; the law on names.
-/
namespace Go.Proofs.YtajjcfacbnicnaaGreatDoor
open Go.RowKit
set_option maxRecDepth 100000

theorem word_log : Fi.wd (ByteArray.mk #[108, 111, 103]).data.toList = true := by decide
theorem name_log : nmB ⟨#[108, 111, 103]⟩ 12 = ⟨#[108, 111, 103, 46, 49, 50]⟩ := by
  unfold nmB
  rw [Fi.nm_in word_log (by decide) (by decide), show ((12 : Int).toNat) = 12 from rfl, Lib.decDigits_two (by decide) (by decide)]
  rfl
theorem number_log : nP ⟨#[108, 111, 103]⟩ ⟨#[108, 111, 103, 46, 49, 50]⟩ = (12, true) := by
  have := Fi.numP_in (n := 12) word_log (by decide) (by decide)
  rw [show Fi.nm (ByteArray.mk #[108, 111, 103]).data.toList 12 = (ByteArray.mk #[108, 111, 103, 46, 49, 50]).data.toList from nmB_eq.1 name_log] at this
  exact this

theorem nmB_size (s : ByteArray) (n : Int) : (nmB s n).size ≤ 11 := by
  by_cases h : Fi.wd s.data.toList = true ∧ 1 ≤ n ∧ n ≤ 99999
  · rw [nmB_some h.1 h.2.1 h.2.2, ByteArray.size_append, ByteArray.size_append]
    have := size_mk (Lib.decDigits n.toNat)
    have := wd_size h.1
    have := dec_len n.toNat (by omega)
    have : (ByteArray.mk #[46]).size = 1 := rfl
    omega
  · rw [nmB_none h]
    decide

end Go.Proofs.YtajjcfacbnicnaaGreatDoor
