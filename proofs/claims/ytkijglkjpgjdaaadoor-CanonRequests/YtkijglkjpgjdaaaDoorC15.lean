/-
  The form of a path, as the document tells it.
-/
import Derived.Test.YtkijglkjpgjdaaaDoorC14
namespace Go.Proofs.YtkijglkjpgjdaaaDoor
open Go.RowKit

/-- What holds at the outer head. -/
def QRel (s : ByteArray) (w : World) (v s5 : Value) (wr : World) (a : Nat) : Prop :=
  ∃ L : List (List UInt8), s5 = .int .i64 (a : Int) ∧ 1 ≤ a ∧ a ≤ s.size + 1 ∧ L.length ≤ a ∧ (∀ p ∈ L, p.length ≤ 60) ∧ wr.ownsRow w.heap.size 9 1 v L.length (cellsT L) ∧ Below w.heap.size w wr ∧ Cn.both goodP L (rem s a) = tot s

theorem txt_ne (p : List UInt8) (q : List UInt8) (h : p ≠ q) : ((txt p).toList == q) = false := by rw [txt_eq]; simpa using h
theorem txt_is (p : List UInt8) (q : List UInt8) (h : p = q) : ((txt p).toList == q) = true := by rw [txt_eq]; simpa using h

theorem mem_snoc {L : List (List UInt8)} {p : List UInt8} {m : Nat} (h : ∀ q ∈ L, q.length ≤ m) (hp : p.length ≤ m) : ∀ q ∈ L ++ [p], q.length ≤ m := by
  intro q hq
  rcases List.mem_append.1 hq with hq | hq
  · exact h q hq
  · simp at hq
    subst hq
    exact hp

theorem writes_empty (L : List (List UInt8)) : Cn.writes L = [] ↔ L = [] := by
  cases L with
  | nil => simp [Cn.writes]
  | cons p t => rw [writes_cons]; simp

theorem writes_long {L : List (List UInt8)} (h1 : L.length ≤ 100) (h2 : ∀ p ∈ L, p.length ≤ 60) : (Cn.writes L).length ≤ 20000 := by
  have h3 := Cn.writes_len 60 L h2
  have : L.length * (1 + 3 * 60) ≤ 100 * (1 + 3 * 60) := Nat.mul_le_mul_right _ h1
  omega

set_option maxHeartbeats 4000000 in
set_option maxRecDepth 1000000 in
theorem refPath_any (s : ByteArray) (w : World) :
    Calls Tryd.prog 9 #[.string s] w fun e w' => e = .returned (opt (pathO s)) ∧ Below w.heap.size w w' := by
  by_cases h1 : 1 ≤ s.size
  · have d1 : decide ((s.size : Int) < 1) = false := by simp; omega
    by_cases h60 : s.size ≤ 60
    · have d2 : decide (60 < (s.size : Int)) = false := by simp; omega
      have x0 := index_str s 0 h1 0 rfl
      by_cases h0 : s[0] = 47
      · have d3 : ((s[0].toNat : Int) != 47) = false := by rw [h0]; rfl
        obtain ⟨T1, T2⟩ := path_tot s h1 h0 h60
        have HT : Aside ((tot s = none → pathO s = none) ∧ ∀ l, tot s = some l → pathO s = if (Cn.form l).length ≤ 60 then some (Cn.form l) else none) := ⟨T1, T2⟩
        clear T1 T2 h0
        obtain ⟨i0, hi, hz0, hz1, hz2⟩ := info_parts info9
        go_enter Tryd.func9, Tryd.ntmps9
        go_wp2
        clear x0 d3
        go_loopg [4, 5] s.size (fun gh v s5 wr => ∃ a : Nat, s.size + 1 - a ≤ gh ∧ QRel s w v s5 wr a)
        case atStart => exact ⟨1, by omega, [], rfl, by omega, by omega, by simp, by simp, World.ownsRow_nil _ _ _ _, Below.refl _ _, rfl⟩
        case round =>
          obtain ⟨a, hgh, L, rfl, ha1, has, hLa, hLp, hown, hbw, hr⟩ := hrel
          have hsz := hbw.size
          by_cases hp : a ≤ s.size
          · have dk : decide (a ≤ s.size) = true := by simpa using hp
            have dk2 : decide ((a : Int) ≤ (s.size : Int)) = true := by simp; omega
            go_wp2
            go_loopg [6] s.size (fun gh s6 wr' => ∃ e : Nat, s.size - e ≤ gh ∧ s6 = .int .i64 (e : Int) ∧ a ≤ e ∧ e ≤ s.size ∧ (∀ b ∈ (s.extract a e).data.toList, b ≠ 47) ∧ wr' = wr)
            case atStart => exact ⟨a, by omega, rfl, Nat.le_refl _, hp, cut_empty s a, rfl⟩
            case round =>
              obtain ⟨e, hge, rfl, hae, hes, hno, rfl⟩ := hrel
              by_cases he : e < s.size
              · have xe := index_str s e he (e : Int) rfl
                have de : decide (e < s.size) = true := by simpa using he
                by_cases hb : s[e] = 47
                · have hrem := rem_next s a e hae he hb hno
                  have db : ((s[e].toNat : Int) != 47) = false := by rw [hb]; rfl
                  clear hb
                  have hxs : (s.extract a e).size ≤ 60 := by rw [Si.cut_size s a e hes]; omega
                  have kR := refRead_any (s.extract a e) wr hxs
                  rw [hrem] at hr
                  have hrl : (s.extract a e).data.toList.length ≤ 60 := hxs
                  clear hno hrem hxs
                  generalize (s.extract a e).data.toList = r at *
                  have hqz := Si.cut_size s a e hes
                  cases hrd : Cn.rd goodP r with
                  | none =>
                    rw [hrd] at kR
                    have A : Aside (pathO s = none) := HT.out.1 (by rw [← hr, both_none hrd])
                    clear hr hrd
                    go_wp2_with (go_at_call 22; refine kR.mono ?_; rintro e1 w1 ⟨X, rfl, -, hb1⟩; simp only [Option.isSome])
                    go_ret2
                    exact ⟨by rw [A.out]; rfl, hbw.trans (hb1.mono hsz)⟩
                  | some p =>
                    have hpl : p.length ≤ 60 := Nat.le_trans (rd_len hrd) hrl
                    rw [hrd] at kR
                    have kR2 : Calls Tryd.prog 22 #[.string (s.extract a e)] wr fun e1 w' => e1 = .returned (.tuple #[.string (txt p), .bool true]) ∧ Below wr.heap.size wr w' := by
                      refine kR.mono ?_
                      rintro e1 w1 ⟨X, rfl, hX, hb1⟩
                      rw [hX p rfl]
                      exact ⟨rfl, hb1⟩
                    clear kR
                    by_cases c1 : p = [] ∨ p = [46]
                    · rw [both_next hrd (show Cn.step L p = some L by unfold Cn.step; rw [if_pos c1])] at hr
                      have A : Aside (Cn.both goodP L (rem s (e + 1)) = tot s ∧ ∀ p ∈ L, p.length ≤ 60) := ⟨hr, hLp⟩
                      clear hr hrd hLp
                      by_cases c2 : p = []
                      · have t1 := txt_is p [] c2
                        clear c1 c2
                        generalize txt p = P at *
                        go_wp2_with (go_at_call 22; refine kR2.mono ?_; rintro e1 w1 ⟨rfl, hb1⟩)
                        go_roundg (s.size + 1 - (e + 1))
                        case measure => omega
                        case rel => exact ⟨e + 1, Nat.le_refl _, L, by go_num, by omega, by omega, by omega, A.out.2, Si.own_below hown hb1, hbw.trans (hb1.mono hsz), A.out.1⟩
                      · have t1 := txt_ne p [] c2
                        have t2 := txt_is p [46] (c1.resolve_left c2)
                        clear c1 c2
                        generalize txt p = P at *
                        go_wp2_with (go_at_call 22; refine kR2.mono ?_; rintro e1 w1 ⟨rfl, hb1⟩)
                        go_roundg (s.size + 1 - (e + 1))
                        case measure => omega
                        case rel => exact ⟨e + 1, Nat.le_refl _, L, by go_num, by omega, by omega, by omega, A.out.2, Si.own_below hown hb1, hbw.trans (hb1.mono hsz), A.out.1⟩
                    · have t1 := txt_ne p [] (fun h => c1 (.inl h))
                      have t2 := txt_ne p [46] (fun h => c1 (.inr h))
                      by_cases c3 : p = [46, 46]
                      · have t3 := txt_is p [46, 46] c3
                        obtain ⟨a2, cc, rfl, hc2, hsome⟩ := own_form hown
                        by_cases c4 : L = []
                        · subst c4
                          have A : Aside (pathO s = none) := HT.out.1 (by rw [← hr, both_stop hrd (show Cn.step [] p = none by unfold Cn.step; rw [if_neg c1, if_pos c3, if_pos rfl])])
                          clear hr hrd c1 c3
                          generalize txt p = P at *
                          go_wp2_with (go_at_call 22; refine kR2.mono ?_; rintro e1 w1 ⟨rfl, hb1⟩)
                          go_ret2
                          exact ⟨by rw [A.out]; rfl, hbw.trans (hb1.mono hsz)⟩
                        · have hl : 0 < L.length := by
                            cases L with
                            | nil => exact absurd rfl c4
                            | cons x y => simp
                          obtain ⟨gg, rfl⟩ := hsome hl
                          rw [both_next hrd (show Cn.step L p = some L.dropLast by unfold Cn.step; rw [if_neg c1, if_pos c3, if_neg c4])] at hr
                          have A : Aside (Cn.both goodP L.dropLast (rem s (e + 1)) = tot s ∧ ∀ p ∈ L.dropLast, p.length ≤ 60) := ⟨hr, fun q hq => hLp q (List.dropLast_subset _ hq)⟩
                          have hpop := own_pop hl hown
                          have d5 : ((L.length : Int) == 0) = false := by rw [beq_eq_false_iff_ne]; omega
                          have d6 : ((L.length : Int) - 1).toNat = L.length - 1 := by omega
                          clear hr hrd c1 c3 c4 hLp
                          generalize txt p = P at *
                          go_wp2_with (go_at_call 22; refine kR2.mono ?_; rintro e1 w1 ⟨rfl, hb1⟩)
                          go_roundg (s.size + 1 - (e + 1))
                          case measure => omega
                          case rel => exact ⟨e + 1, Nat.le_refl _, L.dropLast, by go_num, by omega, by omega, by rw [List.length_dropLast]; omega, A.out.2, Si.own_below hpop hb1, hbw.trans (hb1.mono hsz), A.out.1⟩
                      · have t3 := txt_ne p [46, 46] c3
                        rw [both_next hrd (show Cn.step L p = some (L ++ [p]) by unfold Cn.step; rw [if_neg c1, if_neg c3])] at hr
                        have A : Aside ((Cn.both goodP (L ++ [p]) (rem s (e + 1)) = tot s ∧ ∀ q ∈ L ++ [p], q.length ≤ 60) ∧ cellsT L ++ [.string (txt p)] = cellsT (L ++ [p])) := ⟨⟨hr, mem_snoc hLp hpl⟩, cellsT_snoc L p⟩
                        clear hr hrd c1 c3 hLp
                        generalize txt p = P at *
                        go_wp2_with (first
                          | (go_at_call 22; refine kR2.mono ?_; rintro e1 w1 ⟨rfl, hb1⟩; have hown2 := Si.own_below hown hb1; have hsz1 := hb1.size)
                          | (at_builtin; refine wpList_append_own _ rfl (.tmp 69) (.tmp 71) 34 rfl w.heap.size 9 i0 (.string ByteArray.empty) 1 16 Tryd.underlying34 hi hz0 hz1 hz2 rfl (by decide) _ _ _ rfl (hown2.alloc _) ⟨_, 0, none⟩ 1 1 [.string P] rfl rfl ?c1 ?c2 ?c3 ?c4 ?c5 ?_))
                        case c1 => exact (cell_one_new _ _ _)
                        case c2 => intro u hu; simp at hu; subst hu; rfl
                        case c3 => unfold maxLen; omega
                        case c4 => omega
                        case c5 => simp; omega
                        intro v' w3 hown' hgrow _
                        have E : Aside (w3.ownsRow w.heap.size 9 1 v' (L ++ [p]).length (cellsT (L ++ [p])) ∧ Below w.heap.size w w3) := by
                          refine ⟨?_, ((hbw.trans (hb1.mono hsz)).alloc (by omega) _).grown hgrow (by rw [size_alloc]; omega) (fun g hg => (hown2.lt g hg).1)⟩
                          rw [← A.out.2, List.length_append]
                          exact hown'
                        clear hown' hgrow hown hown2
                        go_wp2
                        go_roundg (s.size + 1 - (e + 1))
                        case measure => omega
                        case rel => exact ⟨e + 1, Nat.le_refl _, L ++ [p], by go_num, by omega, by omega, by simp; omega, A.out.1.2, E.out.1, E.out.2, A.out.1.1⟩
                · have db : ((s[e].toNat : Int) != 47) = true := by
                    simp
                    intro h
                    exact hb (UInt8.toNat_inj.1 (by have : (47 : UInt8).toNat = 47 := rfl; omega))
                  have hno2 := cut_more s a e hae he hb hno
                  clear hno hb
                  go_wp2
                  go_roundg (s.size - (e + 1))
                  case measure => omega
                  case rel => exact ⟨e + 1, Nat.le_refl _, by go_num, by omega, by omega, hno2, rfl⟩
              · obtain rfl : e = s.size := by omega
                have de : decide (s.size < s.size) = false := by simp
                have hrem := rem_last s a hae hno
                have hxs : (s.extract a s.size).size ≤ 60 := by rw [Si.cut_size s a s.size hes]; omega
                have kR := refRead_any (s.extract a s.size) wr hxs
                rw [hrem] at hr
                have hrl : (s.extract a s.size).data.toList.length ≤ 60 := hxs
                clear hno hrem hxs
                generalize (s.extract a s.size).data.toList = r at *
                have hqz := Si.cut_size s a s.size hes
                cases hrd : Cn.rd goodP r with
                | none =>
                  rw [hrd] at kR
                  have A : Aside (pathO s = none) := HT.out.1 (by rw [← hr, both_none hrd])
                  clear hr hrd
                  go_wp2_with (go_at_call 22; refine kR.mono ?_; rintro e1 w1 ⟨X, rfl, -, hb1⟩; simp only [Option.isSome])
                  go_ret2
                  exact ⟨by rw [A.out]; rfl, hbw.trans (hb1.mono hsz)⟩
                | some p =>
                  have hpl : p.length ≤ 60 := Nat.le_trans (rd_len hrd) hrl
                  rw [hrd] at kR
                  have kR2 : Calls Tryd.prog 22 #[.string (s.extract a s.size)] wr fun e1 w' => e1 = .returned (.tuple #[.string (txt p), .bool true]) ∧ Below wr.heap.size wr w' := by
                    refine kR.mono ?_
                    rintro e1 w1 ⟨X, rfl, hX, hb1⟩
                    rw [hX p rfl]
                    exact ⟨rfl, hb1⟩
                  clear kR
                  by_cases c1 : p = [] ∨ p = [46]
                  · rw [both_next hrd (show Cn.step L p = some L by unfold Cn.step; rw [if_pos c1])] at hr
                    have A : Aside (Cn.both goodP L (rem s (s.size + 1)) = tot s ∧ ∀ p ∈ L, p.length ≤ 60) := ⟨hr, hLp⟩
                    clear hr hrd hLp
                    by_cases c2 : p = []
                    · have t1 := txt_is p [] c2
                      clear c1 c2
                      generalize txt p = P at *
                      go_wp2_with (go_at_call 22; refine kR2.mono ?_; rintro e1 w1 ⟨rfl, hb1⟩)
                      go_roundg (s.size + 1 - (s.size + 1))
                      case measure => omega
                      case rel => exact ⟨s.size + 1, Nat.le_refl _, L, by go_num, by omega, by omega, by omega, A.out.2, Si.own_below hown hb1, hbw.trans (hb1.mono hsz), A.out.1⟩
                    · have t1 := txt_ne p [] c2
                      have t2 := txt_is p [46] (c1.resolve_left c2)
                      clear c1 c2
                      generalize txt p = P at *
                      go_wp2_with (go_at_call 22; refine kR2.mono ?_; rintro e1 w1 ⟨rfl, hb1⟩)
                      go_roundg (s.size + 1 - (s.size + 1))
                      case measure => omega
                      case rel => exact ⟨s.size + 1, Nat.le_refl _, L, by go_num, by omega, by omega, by omega, A.out.2, Si.own_below hown hb1, hbw.trans (hb1.mono hsz), A.out.1⟩
                  · have t1 := txt_ne p [] (fun h => c1 (.inl h))
                    have t2 := txt_ne p [46] (fun h => c1 (.inr h))
                    by_cases c3 : p = [46, 46]
                    · have t3 := txt_is p [46, 46] c3
                      obtain ⟨a2, cc, rfl, hc2, hsome⟩ := own_form hown
                      by_cases c4 : L = []
                      · subst c4
                        have A : Aside (pathO s = none) := HT.out.1 (by rw [← hr, both_stop hrd (show Cn.step [] p = none by unfold Cn.step; rw [if_neg c1, if_pos c3, if_pos rfl])])
                        clear hr hrd c1 c3
                        generalize txt p = P at *
                        go_wp2_with (go_at_call 22; refine kR2.mono ?_; rintro e1 w1 ⟨rfl, hb1⟩)
                        go_ret2
                        exact ⟨by rw [A.out]; rfl, hbw.trans (hb1.mono hsz)⟩
                      · have hl : 0 < L.length := by
                          cases L with
                          | nil => exact absurd rfl c4
                          | cons x y => simp
                        obtain ⟨gg, rfl⟩ := hsome hl
                        rw [both_next hrd (show Cn.step L p = some L.dropLast by unfold Cn.step; rw [if_neg c1, if_pos c3, if_neg c4])] at hr
                        have A : Aside (Cn.both goodP L.dropLast (rem s (s.size + 1)) = tot s ∧ ∀ p ∈ L.dropLast, p.length ≤ 60) := ⟨hr, fun q hq => hLp q (List.dropLast_subset _ hq)⟩
                        have hpop := own_pop hl hown
                        have d5 : ((L.length : Int) == 0) = false := by rw [beq_eq_false_iff_ne]; omega
                        have d6 : ((L.length : Int) - 1).toNat = L.length - 1 := by omega
                        clear hr hrd c1 c3 c4 hLp
                        generalize txt p = P at *
                        go_wp2_with (go_at_call 22; refine kR2.mono ?_; rintro e1 w1 ⟨rfl, hb1⟩)
                        go_roundg (s.size + 1 - (s.size + 1))
                        case measure => omega
                        case rel => exact ⟨s.size + 1, Nat.le_refl _, L.dropLast, by go_num, by omega, by omega, by rw [List.length_dropLast]; omega, A.out.2, Si.own_below hpop hb1, hbw.trans (hb1.mono hsz), A.out.1⟩
                    · have t3 := txt_ne p [46, 46] c3
                      rw [both_next hrd (show Cn.step L p = some (L ++ [p]) by unfold Cn.step; rw [if_neg c1, if_neg c3])] at hr
                      have A : Aside ((Cn.both goodP (L ++ [p]) (rem s (s.size + 1)) = tot s ∧ ∀ q ∈ L ++ [p], q.length ≤ 60) ∧ cellsT L ++ [.string (txt p)] = cellsT (L ++ [p])) := ⟨⟨hr, mem_snoc hLp hpl⟩, cellsT_snoc L p⟩
                      clear hr hrd c1 c3 hLp
                      generalize txt p = P at *
                      go_wp2_with (first
                        | (go_at_call 22; refine kR2.mono ?_; rintro e1 w1 ⟨rfl, hb1⟩; have hown2 := Si.own_below hown hb1; have hsz1 := hb1.size)
                        | (at_builtin; refine wpList_append_own _ rfl (.tmp 69) (.tmp 71) 34 rfl w.heap.size 9 i0 (.string ByteArray.empty) 1 16 Tryd.underlying34 hi hz0 hz1 hz2 rfl (by decide) _ _ _ rfl (hown2.alloc _) ⟨_, 0, none⟩ 1 1 [.string P] rfl rfl ?c1 ?c2 ?c3 ?c4 ?c5 ?_))
                      case c1 => exact (cell_one_new _ _ _)
                      case c2 => intro u hu; simp at hu; subst hu; rfl
                      case c3 => unfold maxLen; omega
                      case c4 => omega
                      case c5 => simp; omega
                      intro v' w3 hown' hgrow _
                      have E : Aside (w3.ownsRow w.heap.size 9 1 v' (L ++ [p]).length (cellsT (L ++ [p])) ∧ Below w.heap.size w w3) := by
                        refine ⟨?_, ((hbw.trans (hb1.mono hsz)).alloc (by omega) _).grown hgrow (by rw [size_alloc]; omega) (fun g hg => (hown2.lt g hg).1)⟩
                        rw [← A.out.2, List.length_append]
                        exact hown'
                      clear hown' hgrow hown hown2
                      go_wp2
                      go_roundg (s.size + 1 - (s.size + 1))
                      case measure => omega
                      case rel => exact ⟨s.size + 1, Nat.le_refl _, L ++ [p], by go_num, by omega, by omega, by simp; omega, A.out.1.2, E.out.1, E.out.2, A.out.1.1⟩
          · obtain rfl : a = s.size + 1 := by omega
            have dk : decide (s.size + 1 ≤ s.size) = false := by simp
            have dk2 : decide (((s.size + 1 : Nat) : Int) ≤ (s.size : Int)) = false := by simp; omega
            have e0 : rem s (s.size + 1) = [] := by unfold rem; rw [if_neg (by omega)]
            rw [e0] at hr
            have hT : tot s = some L := hr.symm
            have HP := HT.out.2 L hT
            have hwl := writes_long (by omega) hLp
            have HL : Aside (∀ p ∈ L, p.length ≤ 60) := hLp
            have hv := strs_own hown
            obtain ⟨ad, cc, rfl, hc⟩ := strs_cell hv
            have HC : Aside (∀ j (hj : j < L.length), ∃ g o, ad = some ⟨g, o, none⟩ ∧ g < wr.heap.size ∧ wr.cell? ⟨g, o + j, none⟩ = some (.string (txt L[j]))) := hc
            have HPA : Aside (pathO s = if (Cn.form L).length ≤ 60 then some (Cn.form L) else none) := HP
            clear hT HP hr e0 hLp HT hv hc hown
            go_wp2
            go_loopg [9, 10] L.length (fun gh s9 s10 w5 => ∃ k : Nat, L.length - k ≤ gh ∧ ∃ M : List UInt8, s9 = .string ⟨M.toArray⟩ ∧ s10 = .int .i64 (k : Int) ∧ k ≤ L.length ∧ Below wr.heap.size wr w5 ∧ M ++ Cn.writes (L.drop k) = Cn.writes L)
            case atStart => exact ⟨0, by omega, [], rfl, rfl, by omega, Below.refl _ _, rfl⟩
            case round =>
              obtain ⟨k, hgk, M, rfl, rfl, hk, hb5, hm⟩ := hrel
              have hmz := mk_size M
              have hml : M.length ≤ 20000 := by
                rw [← hm, List.length_append] at hwl
                omega
              by_cases hkl : k < L.length
              · obtain ⟨g, o, rfl, hg, hcl⟩ := HC.out k hkl
                have hcell := (hb5.cell (p := ⟨g, o + k, none⟩) hg).trans hcl
                have dj : decide (k < L.length) = true := by simpa using hkl
                have hpl := HL.out L[k] (List.getElem_mem hkl)
                rw [List.drop_eq_getElem_cons hkl, writes_cons] at hm
                have hwp := Cn.writeP_len L[k]
                have kW : ∀ u : World, Calls Tryd.prog 23 #[.string (txt L[k])] u fun e w' => e = .returned (.string ⟨(Cn.writeP L[k]).toArray⟩) ∧ Below u.heap.size u w' := fun u => refWrite_any (txt L[k]) u (by rw [txt_size]; omega)
                have A : Aside ((M ++ [47] ++ Cn.writeP L[k]) ++ Cn.writes (L.drop (k + 1)) = Cn.writes L ∧ ((ByteArray.mk M.toArray) ++ ⟨#[47]⟩) ++ ⟨(Cn.writeP L[k]).toArray⟩ = ⟨(M ++ [47] ++ Cn.writeP L[k]).toArray⟩) := by
                  refine ⟨?_, by rw [grow_one, Pa.mk_append]⟩
                  rw [← hm]
                  show _ = _
                  simp
                have hz2 : (ByteArray.mk (Cn.writeP L[k]).toArray).size ≤ 200 := by rw [mk_size]; omega
                clear hm hcl hwp hpl
                generalize ByteArray.mk (Cn.writeP L[k]).toArray = Q at *
                generalize txt L[k] = P at *
                generalize Cn.writeP L[k] = q at *
                go_wp2_with (go_at_call 23; refine (kW _).mono ?_; rintro e1 w6 ⟨rfl, hb6⟩)
                go_roundg (L.length - (k + 1))
                case measure => omega
                case rel => exact ⟨k + 1, Nat.le_refl _, M ++ [47] ++ q, by rw [← A.out.2], by go_num, by omega, hb5.trans (hb6.mono hb5.size), A.out.1⟩
              · obtain rfl : k = L.length := by omega
                have dj : decide (L.length < L.length) = false := by simp
                have hd : L.drop L.length = [] := List.drop_eq_nil_of_le (Nat.le_refl _)
                rw [hd] at hm
                have hm2 : M = Cn.writes L := by rw [← hm]; show M = M ++ []; rw [List.append_nil]
                clear hm hd HC
                by_cases hM : M = []
                · have hL0 : L = [] := (writes_empty L).1 (by rw [← hm2]; exact hM)
                  have A : Aside (pathO s = some [47]) := by
                    show _ = _
                    rw [HPA.out, hL0]
                    rfl
                  subst hM
                  clear hm2 HPA HL hwl
                  go_wp2
                  go_ret2
                  exact ⟨by rw [A.out]; rfl, hbw.trans (hb5.mono hsz)⟩
                · have hL0 : L ≠ [] := fun e => hM (by rw [hm2, e]; rfl)
                  have hF : Cn.form L = M := by unfold Cn.form; rw [if_neg hL0, hm2]
                  have d6 : ((ByteArray.mk M.toArray).toList == []) = false := by rw [isEmpty_mk]; simpa using hM
                  have d7 : (ByteArray.mk M.toArray).toList.isEmpty = false := by simpa using d6
                  have HPB : Aside (pathO s = if M.length ≤ 60 then some M else none) := by
                    show _ = _
                    rw [HPA.out, hF]
                  clear hm2 HPA HL hwl hF hM hL0
                  by_cases h6 : M.length ≤ 60
                  · have d8 : decide (60 < ((ByteArray.mk M.toArray).size : Int)) = false := by rw [hmz]; simp; omega
                    have A : Aside (opt (pathO s) = .tuple #[.string ⟨M.toArray⟩, .bool true]) := by
                      show _ = _
                      rw [HPB.out, if_pos h6]
                      rfl
                    generalize ByteArray.mk M.toArray = Q at *
                    go_wp2
                    go_ret2
                    exact ⟨by rw [A.out]; rfl, hbw.trans (hb5.mono hsz)⟩
                  · have d8 : decide (60 < ((ByteArray.mk M.toArray).size : Int)) = true := by rw [hmz]; simp; omega
                    have A : Aside (pathO s = none) := by
                      show _ = _
                      rw [HPB.out, if_neg h6]
                    generalize ByteArray.mk M.toArray = Q at *
                    go_wp2
                    go_ret2
                    exact ⟨by rw [A.out]; rfl, hbw.trans (hb5.mono hsz)⟩
      · have d3 : ((s[0].toNat : Int) != 47) = true := by
          simp
          intro h
          exact h0 (UInt8.toNat_inj.1 (by have : (47 : UInt8).toNat = 47 := rfl; omega))
        rw [path_other s (by rw [first_byte s h1]; simpa using h0)]
        go_enter Tryd.func9, Tryd.ntmps9
        go_wp2
        go_ret2
        exact ⟨rfl, Below.refl _ _⟩
    · have d2 : decide (60 < (s.size : Int)) = true := by simp; omega
      rw [path_long s (by omega)]
      go_enter Tryd.func9, Tryd.ntmps9
      go_wp2
      go_ret2
      exact ⟨rfl, Below.refl _ _⟩
  · have d1 : decide ((s.size : Int) < 1) = true := by simp; omega
    rw [path_empty s (by omega)]
    go_enter Tryd.func9, Tryd.ntmps9
    go_wp2
    go_ret2
    exact ⟨rfl, Below.refl _ _⟩
end Go.Proofs.YtkijglkjpgjdaaaDoor
