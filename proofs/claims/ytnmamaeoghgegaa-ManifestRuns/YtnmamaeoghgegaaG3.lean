/-
  Ytnmamaeoghgegaa: the texts MF3, MF4, MF5, one behind the other.
-/
import Derived.Test.YtnmamaeoghgegaaG2
import Derived.OwnWalk
/-
  Size, First.
-/
namespace Go.Proofs.Ytnmamaeoghgegaa.Fm
open Go.RowKit
set_option maxRecDepth 100000
theorem asd {p : Prop} (h : p) : Aside p := h
theorem size_any (n : Int) (w : World) :
    Calls Try.prog 73 #[.int .i64 n] w fun e w' => e = .returned (.int .i64 (if n < 0 ∨ 2000 < n then 0 else n + 10)) ∧ w' = w := by
  by_cases h0 : n < 0
  · have d0 : decide (n < 0) = true := by simpa using h0
    rw [if_pos (.inl h0)]
    go_enter Try.func73, Try.ntmps73
    go_wp2
    go_ret
    exact ⟨rfl, rfl⟩
  · have d0 : decide (n < 0) = false := by simpa using h0
    by_cases h1 : 2000 < n
    · have d1 : decide (2000 < n) = true := by simpa using h1
      rw [if_pos (.inr h1)]
      go_enter Try.func73, Try.ntmps73
      go_wp2
      go_ret
      exact ⟨rfl, rfl⟩
    · have d1 : decide (2000 < n) = false := by simpa using h1
      rw [if_neg (by omega)]
      go_enter Try.func73, Try.ntmps73
      go_wp2
      go_ret
      exact ⟨by refine congrArg Ending.returned ?_; go_num, rfl⟩

theorem first_told (l : List UInt8) : Fr.first l = if (told l).2 ≠ 0 then ([], 0, (told l).2) else if l.length < (told l).1 + 10 then ([], 0, 3) else if Fr.sl ((l.drop 6).take (told l).1) ≠ (l.drop 6).take ((told l).1 + 4) then ([], 0, 4) else ((l.drop 6).take (told l).1, (told l).1 + 10, 0) := by
  unfold Fr.first told
  by_cases h1 : l.length < 6
  · simp [h1]
  · by_cases h2 : Fr.sl (l.take 2) ≠ l.take 6
    · simp [h1, h2]
    · by_cases h3 : 2000 < Fr.cnt l
      · rw [if_neg h1, if_neg h2, if_pos h3, if_neg h1, if_neg h2, if_pos h3]
        simp
      · rw [if_neg h1, if_neg h2, if_neg h3, if_neg h1, if_neg h2, if_neg h3]
        simp
theorem told_le (l : List UInt8) : (told l).1 ≤ 2000 := by
  unfold told
  repeat' split
  all_goals simp
  omega

/-- What First answers. -/
def fst3 (l : List UInt8) : Value := .tuple #[.string (bs (Fr.first l).1), .int .i64 ((Fr.first l).2.1 : Nat), .int .i64 ((Fr.first l).2.2 : Nat)]

theorem size_told (c : Nat) (w : World) (hc : c ≤ 2000) : Calls Try.prog 73 #[.int .i64 (c : Int)] w fun e w' => e = .returned (.int .i64 ((c + 10 : Nat) : Int)) ∧ w' = w := by
  have := size_any (c : Int) w
  rw [if_neg (by omega)] at this
  exact this

set_option maxHeartbeats 800000 in
theorem first_any (s : ByteArray) (w : World) (hs : s.size ≤ 1000000) :
    Calls Try.prog 31 #[.string s] w fun e w' => e = .returned (fst3 s.data.toList) ∧ Below w.heap.size w w' := by
  unfold fst3
  rw [first_told, list_len]
  have K := told_any s w hs
  have hc := told_le s.data.toList
  generalize told s.data.toList = ct at *
  obtain ⟨c, f⟩ := ct
  simp only at hc K ⊢
  by_cases h1 : f = 0
  · subst h1
    have T : Aside _ := fun w1 => size_told c w1 hc
    rw [if_neg (by simp)]
    by_cases h2 : s.size < c + 10
    · rw [if_pos h2]
      have d2 : decide ((s.size : Int) < ((c + 10 : Nat) : Int)) = true := by simp; omega
      generalize c + 10 = z at *
      go_enter Try.func31, Try.ntmps31
      go_wp2_with (first
        | (go_at_call 72; refine K.mono ?_; rintro e w1 ⟨rfl, hb1⟩; clear K)
        | (go_at_call 73; refine (T.out _).mono ?_; rintro e w2 ⟨rfl, rfl⟩))
      go_ret3
      exact ⟨rfl, hb1⟩
    · rw [if_neg h2]
      have d2 : decide ((s.size : Int) < ((c + 10 : Nat) : Int)) = false := by simp; omega
      have zc : (s.extract 6 (c + 10)).size = c + 4 := by simp; omega
      have lc : (s.extract 6 (c + 10)).data.toList = (s.data.toList.drop 6).take (c + 4) := by
        rw [list_cut, List.drop_take]
        congr 1
      have lb : ((s.extract 6 (c + 10)).extract 0 c).data.toList = (s.data.toList.drop 6).take c := by
        rw [list_cut, lc, List.drop_zero, List.take_take]
        congr 1
        omega
      have ko : ∀ u : World, _ := fun u : World => open_list (s.extract 6 (c + 10)) u (by omega) (by omega)
      simp only [zc, lc, Nat.add_sub_cancel, List.take_take, show min c (c + 4) = c by omega] at ko
      rw [← lb]
      by_cases h3 : Fr.sl ((s.extract 6 (c + 10)).extract 0 c).data.toList = (s.data.toList.drop 6).take (c + 4)
      · have h3' := h3
        rw [lb] at h3'
        simp only [if_pos h3', decide_eq_true h3'] at ko
        rw [if_neg (by simpa using h3)]
        simp only [bs_data]
        have KO := asd ko
        clear ko h3 h3' lb lc zc
        generalize (s.extract 6 (c + 10)).extract 0 c = b at *
        have hz : 6 ≤ c + 10 := by omega
        have hz2 : c + 10 ≤ s.size := by omega
        generalize c + 10 = z at *
        go_enter Try.func31, Try.ntmps31
        go_wp2_with (first
          | (go_at_call 72; refine K.mono ?_; rintro e w1 ⟨rfl, hb1⟩; clear K)
          | (go_at_call 73; refine (T.out _).mono ?_; rintro e w2 ⟨rfl, rfl⟩)
          | (go_at_call 74; refine (KO.out _).mono ?_; rintro e w3 ⟨rfl, hb3⟩))
        go_ret3
        exact ⟨rfl, hb1.trans (hb3.mono hb1.size)⟩
      · have h3' := h3
        rw [lb] at h3'
        simp only [if_neg h3', decide_eq_false h3'] at ko
        rw [if_pos (by simpa using h3)]
        have KO := asd ko
        clear ko h3 h3' lb lc zc
        have hz : 6 ≤ c + 10 := by omega
        have hz2 : c + 10 ≤ s.size := by omega
        generalize c + 10 = z at *
        go_enter Try.func31, Try.ntmps31
        go_wp2_with (first
          | (go_at_call 72; refine K.mono ?_; rintro e w1 ⟨rfl, hb1⟩; clear K)
          | (go_at_call 73; refine (T.out _).mono ?_; rintro e w2 ⟨rfl, rfl⟩)
          | (go_at_call 74; refine (KO.out _).mono ?_; rintro e w3 ⟨rfl, hb3⟩))
        go_ret3
        exact ⟨rfl, hb1.trans (hb3.mono hb1.size)⟩
  · rw [if_pos h1]
    have d1 : ((f : Int) != 0) = true := by simp; omega
    have d2 : ¬ ((f : Int) = 0) := by omega
    go_enter Try.func31, Try.ntmps31
    go_wp2_with (go_at_call 72; refine K.mono ?_; rintro e w1 ⟨rfl, hb1⟩; clear K)
    go_ret3
    exact ⟨rfl, hb1⟩
end Go.Proofs.Ytnmamaeoghgegaa.Fm

/-
  The document's Make.
-/
namespace Go.Proofs.Ytnmamaeoghgegaa.Fm
open Go.RowKit
set_option maxRecDepth 100000
theorem refHead_nums (n : Nat) (h : n < 65536) : strOfNums [(n : Int) / 256 % 256, (n : Int) % 256] = bs (Fr.two n) := by
  rw [← two_nums]
  congr 2
  omega

theorem four_bs (s : ByteArray) (w : World) (hs : s.size ≤ 1000000) :
    Calls Try.prog 82 #[.string s] w fun e w' => e = .returned (.string (bs (Fr.four s.data.toList))) ∧ Below w.heap.size w w' := four_any s w hs

set_option maxHeartbeats 800000 in
theorem refMake_any (s : ByteArray) (w : World) (hs : s.size ≤ 2000) :
    Calls Try.prog 34 #[.string s] w fun e w' => e = .returned (.string (bs (Fr.mk s.data.toList))) ∧ Below w.heap.size w w' := by
  have hc := conv2 w ((s.size : Int) / 256) ((s.size : Int) % 256)
  rw [two_nums] at hc
  have k1 : Aside (∀ u : World, _) := fun u : World => four_bs (bs (Fr.two s.size)) u (by rw [bs_size]; show 2 ≤ 1000000; decide)
  have k2 : Aside (∀ u : World, _) := fun u : World => four_bs s u (by omega)
  have ef : bs (Fr.mk s.data.toList) = bs (Fr.two s.size) ++ bs (Fr.four (bs (Fr.two s.size)).data.toList) ++ s ++ bs (Fr.four s.data.toList) := by
    apply list_ext
    simp only [list_app, bs_list]
    unfold Fr.mk Fr.sl
    rw [list_len]
    simp
  rw [ef]
  clear ef
  have z1 : (bs (Fr.two s.size)).size = 2 := by rw [bs_size]; rfl
  have z2 : (bs (Fr.four (bs (Fr.two s.size)).data.toList)).size = 4 := by rw [bs_size]; rfl
  have z3 : (bs (Fr.four s.data.toList)).size = 4 := by rw [bs_size]; rfl
  have T : Aside True := trivial
  generalize bs (Fr.four (bs (Fr.two s.size)).data.toList) = B at *
  generalize bs (Fr.two s.size) = A at *
  generalize bs (Fr.four s.data.toList) = C at *
  go_enter Try.func34, Try.ntmps34
  go_wp2_with (first
    | (clear T; go_at_call 82; refine (k1.out _).mono ?_; rintro e w1 ⟨rfl, hb1⟩)
    | (go_at_call 82; refine (k2.out _).mono ?_; rintro e w2 ⟨rfl, hb2⟩))
  go_ret
  have b1 := (Below.refl w.heap.size w).alloc (Nat.le_refl _) (.cells #[.int .u8 ((s.size : Int) / 256), .int .u8 ((s.size : Int) % 256)] 5)
  have b2 := b1.trans (hb1.mono b1.size)
  exact ⟨rfl, b2.trans (hb2.mono b2.size)⟩
end Go.Proofs.Ytnmamaeoghgegaa.Fm

/-
  The document's First.
-/
namespace Go.Proofs.Ytnmamaeoghgegaa.Fm
open Go.RowKit
set_option maxRecDepth 100000
theorem cnt_whole (s : ByteArray) (h : 2 ≤ s.size) : Fr.cnt s.data.toList = s[0].toNat * 256 + s[1].toNat := by
  have hz : 2 ≤ s.data.size := h
  unfold Fr.cnt
  have h0 : s.data.toList.getD 0 0 = s[0] := by
    rw [List.getD_eq_getElem?_getD, List.getElem?_eq_getElem (by rw [list_len]; omega)]
    simp
    rfl
  have h1 : s.data.toList.getD 1 0 = s[1] := by
    rw [List.getD_eq_getElem?_getD, List.getElem?_eq_getElem (by rw [list_len]; omega)]
    simp
    rfl
  rw [h0, h1]
theorem wcnt (a b : Nat) (ha : a < 256) (hb : b < 256) : wrap64 (wrap64 (wrap64 (a : Int) * 256) + wrap64 (b : Int)) = ((a * 256 + b : Nat) : Int) := by
  rw [w64 (a : Int) (by omega) (by omega), w64 ((a : Int) * 256) (by omega) (by omega), w64 (b : Int) (by omega) (by omega), w64 _ (by omega) (by omega)]
  omega
theorem index_str (t : ByteArray) (n : Nat) (h : n < t.size) (z : Int) (hz : z = (n : Int)) (w : World) : (Instr.index 9 (.string t) (.int .i64 z)).run Try.prog w = .ok (.int .u8 (t[n].toNat : Int)) w := by
  subst hz
  have h0 : (0 : Int) ≤ (n : Int) := by omega
  have h1 : t[n]? = some t[n] := getElem?_pos t n h
  simp only [Instr.index, asIntOf, Sem.run_bind, Sem.run_pure, Result.andThen_ok, run_underlying Try.underlying9, h0, if_true, Int.toNat_natCast, h1]
theorem bne_strs {a b : ByteArray} (h : a = b) : (a.toList != b.toList) = false := by rw [h]; exact bne_self_eq_false _
theorem ne_list {a b : ByteArray} (h : a ≠ b) : ¬ a.toList = b.toList := fun e => h (by
  rw [ByteArray.toList_eq, ByteArray.toList_eq] at e
  exact ByteArray.ext (Array.toList_inj.mp e))
theorem bne_strs' {a b : ByteArray} (h : a ≠ b) : (a.toList != b.toList) = true := by
  rw [bne_iff_ne]
  exact ne_list h
theorem beq_strs {a b : ByteArray} (h : a ≠ b) : (a.toList == b.toList) = false := by
  rw [beq_eq_false_iff_ne]
  exact ne_list h
theorem beq_strs' {a b : ByteArray} (h : a = b) : (a.toList == b.toList) = true := by rw [h]; exact beq_self_eq_true _

set_option maxHeartbeats 1600000 in
theorem rf_short (s : ByteArray) (w : World) (hs : s.size ≤ 1000000) (h6 : s.size < 6) :
    Calls Try.prog 41 #[.string s] w fun e w' => e = .returned (.tuple #[.string ⟨#[]⟩, .int .i64 0, .int .i64 3]) ∧ Below w.heap.size w w' := by
  have d1 : decide ((s.size : Int) < 6) = true := by simp; omega
  go_enter Try.func41, Try.ntmps41
  go_wp2
  go_ret3
  exact ⟨rfl, Below.refl _ _⟩
set_option maxHeartbeats 1600000 in
theorem rf_head (s : ByteArray) (w : World) (hs : s.size ≤ 1000000) (h6 : 6 ≤ s.size) (A B : ByteArray) (hB : s.extract 2 6 = B) (k : ∀ u : World, Calls Try.prog 82 #[.string (s.extract 0 2)] u fun e w' => e = .returned (.string A) ∧ Below u.heap.size u w') (hAB : A ≠ B) :
    Calls Try.prog 41 #[.string s] w fun e w' => e = .returned (.tuple #[.string ⟨#[]⟩, .int .i64 0, .int .i64 4]) ∧ Below w.heap.size w w' := by
  have d1 : decide ((s.size : Int) < 6) = false := by simp; omega
  have e1 := bne_strs' hAB
  have e2 := beq_strs hAB
  have e3 := ne_list hAB
  clear hAB
  have k1 : Aside (∀ q : Later w, _) := fun q : Later w => k q.u
  clear k
  go_enter Try.func41, Try.ntmps41
  go_wp2_with fail
  have hne := later_some w
  refine wp_region_later (by kernel_rfl) (by kernel_rfl) ?_
  repeat (go_big_quiet_step ((go_at_call 82; exact calls_later (k1.out _))))
  refine wpQuiet_nil ?_
  rintro _ ⟨q, rfl⟩
  have hq := q.bel
  clear hne
  go_wp2
  go_ret3
  exact ⟨rfl, hq⟩
set_option maxHeartbeats 1600000 in
theorem rf_over (s : ByteArray) (w : World) (hs : s.size ≤ 1000000) (h6 : 6 ≤ s.size) (A B : ByteArray) (hB : s.extract 2 6 = B) (k : ∀ u : World, Calls Try.prog 82 #[.string (s.extract 0 2)] u fun e w' => e = .returned (.string A) ∧ Below u.heap.size u w') (hAB : A = B) (c : Nat) (x y : UInt8) (x0 : ∀ u, (Instr.index 9 (.string s) (.int .i64 0)).run Try.prog u = .ok (.int .u8 (x.toNat : Int)) u) (x1 : ∀ u, (Instr.index 9 (.string s) (.int .i64 1)).run Try.prog u = .ok (.int .u8 (y.toNat : Int)) u) (hc : wrap64 (wrap64 (wrap64 (x.toNat : Int) * 256) + wrap64 (y.toNat : Int)) = (c : Int)) (h2 : 2000 < c) :
    Calls Try.prog 41 #[.string s] w fun e w' => e = .returned (.tuple #[.string ⟨#[]⟩, .int .i64 0, .int .i64 5]) ∧ Below w.heap.size w w' := by
  have d1 : decide ((s.size : Int) < 6) = false := by simp; omega
  have e1 := bne_strs hAB
  have e2 := beq_strs' hAB
  have e3 : A.toList = B.toList := by rw [hAB]
  clear hAB
  have k1 : Aside (∀ q : Later w, _) := fun q : Later w => k q.u
  clear k
  have d2 : decide (2000 < (c : Int)) = true := by simp; omega
  go_enter Try.func41, Try.ntmps41
  go_wp2_with fail
  have hne := later_some w
  refine wp_region_later (by kernel_rfl) (by kernel_rfl) ?_
  repeat (go_big_quiet_step ((go_at_call 82; exact calls_later (k1.out _))))
  refine wpQuiet_nil ?_
  rintro _ ⟨q, rfl⟩
  have hq := q.bel
  clear hne k1
  go_wp2
  go_quiet (fail)
  go_wp2
  go_ret3
  exact ⟨rfl, below_drewN hq _⟩
set_option maxHeartbeats 1600000 in
theorem rf_cut (s : ByteArray) (w : World) (hs : s.size ≤ 1000000) (h6 : 6 ≤ s.size) (A B : ByteArray) (hB : s.extract 2 6 = B) (k : ∀ u : World, Calls Try.prog 82 #[.string (s.extract 0 2)] u fun e w' => e = .returned (.string A) ∧ Below u.heap.size u w') (hAB : A = B) (c : Nat) (x y : UInt8) (x0 : ∀ u, (Instr.index 9 (.string s) (.int .i64 0)).run Try.prog u = .ok (.int .u8 (x.toNat : Int)) u) (x1 : ∀ u, (Instr.index 9 (.string s) (.int .i64 1)).run Try.prog u = .ok (.int .u8 (y.toNat : Int)) u) (hc : wrap64 (wrap64 (wrap64 (x.toNat : Int) * 256) + wrap64 (y.toNat : Int)) = (c : Int)) (h2 : c ≤ 2000) (h3 : s.size < c + 10) :
    Calls Try.prog 41 #[.string s] w fun e w' => e = .returned (.tuple #[.string ⟨#[]⟩, .int .i64 0, .int .i64 3]) ∧ Below w.heap.size w w' := by
  have d1 : decide ((s.size : Int) < 6) = false := by simp; omega
  have e1 := bne_strs hAB
  have e2 := beq_strs' hAB
  have e3 : A.toList = B.toList := by rw [hAB]
  clear hAB
  have k1 : Aside (∀ q : Later w, _) := fun q : Later w => k q.u
  clear k
  have d2 : decide (2000 < (c : Int)) = false := by simp; omega
  have d3 : decide ((s.size : Int) < (c : Int) + 10) = true := by simp; omega
  go_enter Try.func41, Try.ntmps41
  go_wp2_with fail
  have hne := later_some w
  refine wp_region_later (by kernel_rfl) (by kernel_rfl) ?_
  repeat (go_big_quiet_step ((go_at_call 82; exact calls_later (k1.out _))))
  refine wpQuiet_nil ?_
  rintro _ ⟨q, rfl⟩
  have hq := q.bel
  clear hne k1
  go_wp2
  go_quiet (fail)
  go_wp2
  go_ret3
  exact ⟨rfl, below_drewN hq _⟩
set_option maxHeartbeats 1600000 in
theorem rf_rot (s : ByteArray) (w : World) (hs : s.size ≤ 1000000) (h6 : 6 ≤ s.size) (A B : ByteArray) (hB : s.extract 2 6 = B) (k : ∀ u : World, Calls Try.prog 82 #[.string (s.extract 0 2)] u fun e w' => e = .returned (.string A) ∧ Below u.heap.size u w') (hAB : A = B) (c : Nat) (x y : UInt8) (x0 : ∀ u, (Instr.index 9 (.string s) (.int .i64 0)).run Try.prog u = .ok (.int .u8 (x.toNat : Int)) u) (x1 : ∀ u, (Instr.index 9 (.string s) (.int .i64 1)).run Try.prog u = .ok (.int .u8 (y.toNat : Int)) u) (hc : wrap64 (wrap64 (wrap64 (x.toNat : Int) * 256) + wrap64 (y.toNat : Int)) = (c : Int)) (h2 : c ≤ 2000) (h3 : c + 10 ≤ s.size) (C D : ByteArray) (hD : s.extract (c + 6) (c + 10) = D) (k' : ∀ u : World, Calls Try.prog 82 #[.string (s.extract 6 (c + 6))] u fun e w' => e = .returned (.string C) ∧ Below u.heap.size u w') (hCD : C ≠ D) :
    Calls Try.prog 41 #[.string s] w fun e w' => e = .returned (.tuple #[.string ⟨#[]⟩, .int .i64 0, .int .i64 4]) ∧ Below w.heap.size w w' := by
  have d1 : decide ((s.size : Int) < 6) = false := by simp; omega
  have e1 := bne_strs hAB
  have e2 := beq_strs' hAB
  have e3 : A.toList = B.toList := by rw [hAB]
  clear hAB
  have k1 : Aside (∀ q : Later w, _) := fun q : Later w => k q.u
  clear k
  have k2 : Aside (∀ u : World, ∀ q : Later u, _) := fun u (q : Later u) => k' q.u
  clear k'
  have d2 : decide (2000 < (c : Int)) = false := by simp; omega
  have d3 : decide ((s.size : Int) < (c : Int) + 10) = false := by simp; omega
  have e4 := bne_strs' hCD
  have e5 := beq_strs hCD
  have e6 := ne_list hCD
  clear hCD
  go_enter Try.func41, Try.ntmps41
  go_wp2_with fail
  have hne := later_some w
  refine wp_region_later (by kernel_rfl) (by kernel_rfl) ?_
  repeat (go_big_quiet_step ((go_at_call 82; exact calls_later (k1.out _))))
  refine wpQuiet_nil ?_
  rintro _ ⟨q, rfl⟩
  have hq := q.bel
  clear hne k1
  go_wp2
  go_quiet (fail)
  have hq2 := below_drewN hq nq
  generalize q.u.drewN nq = u2 at *
  go_wp2_with fail
  have hne := later_some u2
  refine wp_region_later (by kernel_rfl) (by kernel_rfl) ?_
  repeat (go_big_quiet_step ((go_at_call 82; exact calls_later (k2.out _ _))))
  refine wpQuiet_nil ?_
  rintro _ ⟨q2, rfl⟩
  have hq3 := q2.bel
  clear hne k2
  go_wp2
  go_ret3
  exact ⟨rfl, hq2.trans (hq3.mono hq2.size)⟩
set_option maxHeartbeats 1600000 in
theorem rf_ok (s : ByteArray) (w : World) (hs : s.size ≤ 1000000) (h6 : 6 ≤ s.size) (A B : ByteArray) (hB : s.extract 2 6 = B) (k : ∀ u : World, Calls Try.prog 82 #[.string (s.extract 0 2)] u fun e w' => e = .returned (.string A) ∧ Below u.heap.size u w') (hAB : A = B) (c : Nat) (x y : UInt8) (x0 : ∀ u, (Instr.index 9 (.string s) (.int .i64 0)).run Try.prog u = .ok (.int .u8 (x.toNat : Int)) u) (x1 : ∀ u, (Instr.index 9 (.string s) (.int .i64 1)).run Try.prog u = .ok (.int .u8 (y.toNat : Int)) u) (hc : wrap64 (wrap64 (wrap64 (x.toNat : Int) * 256) + wrap64 (y.toNat : Int)) = (c : Int)) (h2 : c ≤ 2000) (h3 : c + 10 ≤ s.size) (C D : ByteArray) (hD : s.extract (c + 6) (c + 10) = D) (k' : ∀ u : World, Calls Try.prog 82 #[.string (s.extract 6 (c + 6))] u fun e w' => e = .returned (.string C) ∧ Below u.heap.size u w') (hCD : C = D) :
    Calls Try.prog 41 #[.string s] w fun e w' => e = .returned (.tuple #[.string (s.extract 6 (c + 6)), .int .i64 ((c : Int) + 10), .int .i64 0]) ∧ Below w.heap.size w w' := by
  have d1 : decide ((s.size : Int) < 6) = false := by simp; omega
  have e1 := bne_strs hAB
  have e2 := beq_strs' hAB
  have e3 : A.toList = B.toList := by rw [hAB]
  clear hAB
  have k1 : Aside (∀ q : Later w, _) := fun q : Later w => k q.u
  clear k
  have k2 : Aside (∀ u : World, ∀ q : Later u, _) := fun u (q : Later u) => k' q.u
  clear k'
  have d2 : decide (2000 < (c : Int)) = false := by simp; omega
  have d3 : decide ((s.size : Int) < (c : Int) + 10) = false := by simp; omega
  have e4 := bne_strs hCD
  have e5 := beq_strs' hCD
  have e6 : C.toList = D.toList := by rw [hCD]
  clear hCD
  go_enter Try.func41, Try.ntmps41
  go_wp2_with fail
  have hne := later_some w
  refine wp_region_later (by kernel_rfl) (by kernel_rfl) ?_
  repeat (go_big_quiet_step ((go_at_call 82; exact calls_later (k1.out _))))
  refine wpQuiet_nil ?_
  rintro _ ⟨q, rfl⟩
  have hq := q.bel
  clear hne k1
  go_wp2
  go_quiet (fail)
  have hq2 := below_drewN hq nq
  generalize q.u.drewN nq = u2 at *
  go_wp2_with fail
  have hne := later_some u2
  refine wp_region_later (by kernel_rfl) (by kernel_rfl) ?_
  repeat (go_big_quiet_step ((go_at_call 82; exact calls_later (k2.out _ _))))
  refine wpQuiet_nil ?_
  rintro _ ⟨q2, rfl⟩
  have hq3 := q2.bel
  clear hne k2
  go_wp2
  go_ret3
  exact ⟨rfl, hq2.trans (hq3.mono hq2.size)⟩

theorem refFirst_any (s : ByteArray) (w : World) (hs : s.size ≤ 1000000) :
    Calls Try.prog 41 #[.string s] w fun e w' => e = .returned (fst3 s.data.toList) ∧ Below w.heap.size w w' := by
  unfold fst3 Fr.first
  rw [list_len]
  by_cases h6 : s.size < 6
  · rw [if_pos h6]
    exact rf_short s w hs h6
  · rw [if_neg h6]
    have l2 : (s.extract 0 2).data.toList = s.data.toList.take 2 := by rw [list_cut]; simp
    have z2 : (s.extract 0 2).size = 2 := by simp; omega
    have k1 : ∀ u : World, _ := fun u : World => four_bs (s.extract 0 2) u (by omega)
    have e26 : (s.extract 2 6).data.toList = (s.data.toList.take 6).drop 2 := by rw [list_cut]
    have hAB : bs (Fr.four (s.extract 0 2).data.toList) = s.extract 2 6 ↔ Fr.sl (s.data.toList.take 2) = s.data.toList.take 6 := by
      have e6 : s.data.toList.take 6 = s.data.toList.take 2 ++ (s.data.toList.take 6).drop 2 := by
        conv => lhs; rw [← List.take_append_drop 2 (s.data.toList.take 6), List.take_take]
        rfl
      rw [e6]
      unfold Fr.sl
      rw [List.append_cancel_left_eq, l2]
      constructor
      · intro h
        rw [← e26, ← h, bs_list]
      · intro h
        apply list_ext
        rw [bs_list, e26, h]
    by_cases hh : Fr.sl (s.data.toList.take 2) = s.data.toList.take 6
    · rw [if_neg (by simpa using hh)]
      have ha := hAB.2 hh
      have ec := cnt_whole s (by omega)
      have x0 : ∀ u, _ := fun u => index_str s 0 (by omega) 0 rfl u
      have x1 : ∀ u, _ := fun u => index_str s 1 (by omega) 1 rfl u
      have hc := wcnt s[0].toNat s[1].toNat (UInt8.toNat_lt _) (UInt8.toNat_lt _)
      rw [← ec] at hc
      by_cases h2 : 2000 < Fr.cnt s.data.toList
      · rw [if_pos h2]
        exact rf_over s w hs (by omega) _ _ rfl k1 ha _ _ _ x0 x1 hc h2
      · rw [if_neg h2]
        generalize Fr.cnt s.data.toList = c at *
        by_cases h3 : s.size < c + 10
        · rw [if_pos h3]
          exact rf_cut s w hs (by omega) _ _ rfl k1 ha _ _ _ x0 x1 hc (by omega) h3
        · rw [if_neg h3]
          have k2 : ∀ u : World, _ := fun u : World => four_bs (s.extract 6 (c + 6)) u (by simp; omega)
          have lc : (s.extract 6 (c + 6)).data.toList = (s.data.toList.drop 6).take c := by
            rw [list_cut, List.drop_take]
            congr 1
          have ld : (s.extract (c + 6) (c + 10)).data.toList = ((s.data.toList.drop 6).take (c + 4)).drop c := by
            rw [list_cut, List.drop_take, List.drop_take, List.drop_drop]
            congr 1
            · omega
            · congr 1
              omega
          have hCD : bs (Fr.four (s.extract 6 (c + 6)).data.toList) = s.extract (c + 6) (c + 10) ↔ Fr.sl ((s.data.toList.drop 6).take c) = (s.data.toList.drop 6).take (c + 4) := by
            have e6 : (s.data.toList.drop 6).take (c + 4) = (s.data.toList.drop 6).take c ++ ((s.data.toList.drop 6).take (c + 4)).drop c := by
              conv => lhs; rw [← List.take_append_drop c ((s.data.toList.drop 6).take (c + 4)), List.take_take, show min c (c + 4) = c by omega]
            rw [e6]
            unfold Fr.sl
            rw [List.append_cancel_left_eq, lc]
            constructor
            · intro h
              rw [← ld, ← h, bs_list]
            · intro h
              apply list_ext
              rw [bs_list, ld, h]
          by_cases h4 : Fr.sl ((s.data.toList.drop 6).take c) = (s.data.toList.drop 6).take (c + 4)
          · rw [if_neg (by simpa using h4)]
            have := rf_ok s w hs (by omega) _ _ rfl k1 ha _ _ _ x0 x1 hc (by omega) (by omega) _ _ rfl k2 (hCD.2 h4)
            rw [← lc]
            simp only [bs_data]
            exact this
          · rw [if_pos (by simpa using h4)]
            exact rf_rot s w hs (by omega) _ _ rfl k1 ha _ _ _ x0 x1 hc (by omega) (by omega) _ _ rfl k2 (fun e => h4 (hCD.1 e))
    · rw [if_pos (by simpa using hh)]
      exact rf_head s w hs (by omega) _ _ rfl k1 (fun e => hh (hAB.1 e))
end Go.Proofs.Ytnmamaeoghgegaa.Fm
