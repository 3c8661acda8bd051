/-
  The first 64 primes, as the document reckons them.
-/
import Derived.Test.YtkkacngildnlkaaDoorW2
import Derived.Test.YtkkacngildnlkaaDoorMath2
import Derived.ArgAppend
import Derived.OwnWalk
namespace Go.Proofs.YtkkacngildnlkaaDoor
open Go.RowKit

set_option maxHeartbeats 1600000 in
theorem prime_any (n : Nat) (w : World) (hn : n ≤ 400) :
    Calls Tryd.prog 24 #[.int .i64 (n : Int)] w fun e w' => e = .returned (.bool (Sh.isP n)) ∧ w' = w := by
  go_enter Tryd.func24, Tryd.ntmps24
  go_wp2
  go_loopg [3] 20 (fun gh s3 wr => ∃ k : Nat, gh + k = 22 ∧ 2 ≤ k ∧ k ≤ 22 ∧ s3 = .int .i64 (k : Int) ∧ Sh.pr n (22 - k) k = Sh.isP n ∧ wr = w)
  case atStart => exact ⟨2, by omega, by omega, by omega, rfl, rfl, rfl⟩
  case round =>
    obtain ⟨k, hgh, h2, hk, rfl, hp, rfl⟩ := hrel
    have HP : Aside (Sh.pr n (22 - k) k = Sh.isP n) := hp
    clear hp
    by_cases hlt : k * k ≤ n
    · have d1 : decide ((k : Int) * (k : Int) ≤ (n : Int)) = true := by simp; exact Int.ofNat_le.mpr hlt
      have hk20 : k ≤ 20 := by
        rcases Nat.lt_or_ge 20 k with h | h
        · have := Nat.mul_le_mul (show 21 ≤ k from h) (show 21 ≤ k from h)
          omega
        · exact h
      have hkk : (k : Int) * (k : Int) ≤ 400 := by
        have : ((k * k : Nat) : Int) ≤ (400 : Nat) := Int.ofNat_le.mpr (by omega)
        simpa using this
      obtain ⟨f, hf⟩ : ∃ f, 22 - k = f + 1 := ⟨21 - k, by omega⟩
      by_cases hm : n % k = 0
      · have d2 : ((n : Int) % (k : Int) == 0) = true := by
          rw [beq_iff_eq, ← Int.natCast_emod, hm]
          rfl
        have d2' : ((n : Int).tmod (k : Int) == 0) = true := by rw [Int.tmod_eq_emod_of_nonneg (Int.natCast_nonneg _)]; exact d2
        have HR : Aside (Sh.isP n = false) := by
          have := HP.out
          rw [hf] at this
          simp only [Sh.pr, if_pos hlt, if_pos hm] at this
          exact this.symm
        clear HP hm hf
        go_wp2
        go_ret
        exact ⟨by rw [HR.out]; rfl, rfl⟩
      · have d2 : ((n : Int) % (k : Int) == 0) = false := by
          rw [beq_eq_false_iff_ne, ← Int.natCast_emod]
          omega
        have d2' : ((n : Int).tmod (k : Int) == 0) = false := by rw [Int.tmod_eq_emod_of_nonneg (Int.natCast_nonneg _)]; exact d2
        have HR : Aside (Sh.pr n (22 - (k + 1)) (k + 1) = Sh.isP n) := by
          have := HP.out
          rw [hf] at this
          simp only [Sh.pr, if_pos hlt, if_neg hm] at this
          rw [show 22 - (k + 1) = f by omega]
          exact this
        clear HP hm hf
        go_wp2
        go_roundg (gk - 1)
        case measure => omega
        case rel => exact ⟨k + 1, by omega, by omega, by omega, by go_num, HR.out, rfl⟩
    · have d1 : decide ((k : Int) * (k : Int) ≤ (n : Int)) = false := by
        simp
        have : (n : Int) < ((k * k : Nat) : Int) := Int.ofNat_lt.mpr (by omega)
        simpa using this
      have hkk : (k : Int) * (k : Int) ≤ 484 := by
        have : k * k ≤ 22 * 22 := Nat.mul_le_mul hk hk
        have : ((k * k : Nat) : Int) ≤ (484 : Nat) := Int.ofNat_le.mpr (by omega)
        simpa using this
      have HR : Aside (decide (1 < (n : Int)) = Sh.isP n) := by
        have h1 := HP.out
        show decide (1 < (n : Int)) = Sh.isP n
        rw [← h1]
        cases hq : 22 - k with
        | zero => simp only [Sh.pr]; exact decide_eq_decide.mpr (by omega)
        | succ f => simp only [Sh.pr, if_neg hlt]; exact decide_eq_decide.mpr (by omega)
      clear HP
      cases hi : Sh.isP n with
      | true =>
        have d3 : decide (1 < (n : Int)) = true := by rw [HR.out]; exact hi
        have HI : Aside (Sh.isP n = true) := hi
        clear hi
        go_wp2
        go_ret
        exact ⟨by rw [HI.out]; rfl, rfl⟩
      | false =>
        have d3 : decide (1 < (n : Int)) = false := by rw [HR.out]; exact hi
        have HI : Aside (Sh.isP n = false) := hi
        clear hi
        go_wp2
        go_ret
        exact ⟨by rw [HI.out]; rfl, rfl⟩

theorem addMid (b o j : Nat) : (⟨b, o, none⟩ : Addr).add j = ⟨b, o + j, none⟩ := by unfold Addr.add; split <;> simp_all

def i64s (l : List Nat) : List Value := l.map fun x : Nat => Value.int .i64 (x : Int)
theorem i64s_append (l m : List Nat) : i64s l ++ i64s m = i64s (l ++ m) := by simp [i64s]
theorem info3 : (Tryd.prog.info? 3).map (fun i => (i.zero, i.size, i.bytes)) = some (some (.int .i64 0), 1, 8) := by kernel_rfl

set_option maxHeartbeats 1600000 in
set_option maxRecDepth 100000 in
theorem primes_any (w : World) :
    Calls Tryd.prog 17 #[] w fun e w' => ∃ g cap, e = .returned (.slice (some ⟨g, 0, none⟩) 64 cap) ∧ (∀ i, i < 64 → w'.cell? ⟨g, i, none⟩ = some (.int .i64 (((Sh.pl 312).getD i 0 : Nat) : Int))) ∧ g < w'.heap.size ∧ Below w.heap.size w w' := by
  obtain ⟨i0, hi, hz0, hz1, hz2⟩ := info_parts info3
  go_enter Tryd.func17, Tryd.ntmps17
  go_wp2
  go_loopg [1, 2] 312 (fun gh s1 s2 wr => ∃ n m : Nat, gh + n = 314 ∧ n ≤ 312 ∧ 2 ≤ n ∧ (Sh.pl n).length = m ∧ s2 = .int .i64 (n : Int) ∧ wr.ownsRow w.heap.size 3 1 s1 m (i64s (Sh.pl n)) ∧ Below w.heap.size w wr)
  case atStart => exact ⟨2, 0, by omega, by omega, by omega, rfl, rfl, World.ownsRow_nil _ _ _ _, Below.refl _ _⟩
  case round =>
    obtain ⟨n, m, hgh, hn, hn2, hm, rfl, hown, hbel⟩ := hrel
    have hends := Sh.pl_ends ⟨n, by omega⟩
    simp only at hends
    rw [hm] at hends
    by_cases hlt : m < 64
    · have hn12 : n < 312 := hends.1 hlt
      have d1 : decide ((m : Int) < 64) = true := by simp; omega
      clear hends
      rcases hown.2 with ⟨rfl, h0⟩ | ⟨g, cap, cur, rfl, hbg, hh⟩
      · clear h0
        clear d1
        have k24 := prime_any n wr (by omega)
        have HO : Aside (wr.ownsRow w.heap.size 3 1 (.slice none 0 0) m (i64s (Sh.pl n)) ∧ Below w.heap.size w wr ∧ (Sh.pl n).length = m) := ⟨hown, hbel, hm⟩
        cases hp : Sh.isP n with
        | true =>
          have HP : Aside (Sh.isP n = true) := hp
          rw [hp] at k24
          clear hown hbel hm hp
          go_wp2_with (first
            | (go_at_call 24; refine k24.mono ?_; rintro e w1 ⟨rfl, rfl⟩)
            | (at_builtin; refine wpList_append_own _ rfl (.tmp 10) (.tmp 12) 39 rfl w.heap.size 3 i0 (.int .i64 0) 1 8 Tryd.underlying39 hi hz0 hz1 hz2 rfl (by decide) _ _ _ rfl (HO.out.1.alloc _) ⟨w1.heap.size, 0, none⟩ 1 1 [.int .i64 (n : Int)] rfl rfl ?c1 ?c2 ?c3 ?c4 ?c5 ?_))
          case c1 =>
            intro j u hu
            have := (Blk.new w1 3 #[.int .i64 (n : Int)]).cell (i := j) (v := u) (by simpa using hu)
            rw [addMid, Nat.zero_add]
            exact this
          case c2 => intro u hu; simp only [List.mem_cons, List.not_mem_nil, or_false] at hu; subst hu; rfl
          case c3 => unfold maxLen; omega
          case c4 => omega
          case c5 => have := HO.out.2.1.size; rw [size_alloc]; omega
          intro v' w2 hown' hgrow _
          have R : Aside (w2.ownsRow w.heap.size 3 1 v' (m + 1) (i64s (Sh.pl (n + 1))) ∧ Below w.heap.size w w2 ∧ (Sh.pl (n + 1)).length = m + 1) := by
            obtain ⟨z1, z2, z3⟩ := HO.out
            rw [Sh.pl_succ, HP.out, if_pos rfl, ← i64s_append]
            refine ⟨hown', (z2.alloc z2.size _).grown hgrow (by have := z2.size; rw [size_alloc]; omega) (fun g hg => (z1.lt g hg).1), by rw [List.length_append, z3]; rfl⟩
          clear hown' hgrow HO
          go_wp2
          go_roundg (gk - 1)
          case measure => omega
          case rel =>
            obtain ⟨z1, z2, z3⟩ := R.out
            exact ⟨n + 1, m + 1, by omega, by omega, by omega, z3, by go_num, z1, z2⟩
        | false =>
          have HP : Aside (Sh.isP n = false) := hp
          rw [hp] at k24
          clear hown hbel hm hp
          go_wp2_with (go_at_call 24; refine k24.mono ?_; rintro e w1 ⟨rfl, rfl⟩)
          go_roundg (gk - 1)
          case measure => omega
          case rel =>
            obtain ⟨z1, z2, z3⟩ := HO.out
            have e : Sh.pl (n + 1) = Sh.pl n := by rw [Sh.pl_succ, HP.out]; simp
            exact ⟨n + 1, m, by omega, by omega, by omega, by rw [e]; exact z3, by go_num, by rw [e]; exact z1, z2⟩

      · clear hh hbg
        have k24 := prime_any n wr (by omega)
        have HO : Aside (wr.ownsRow w.heap.size 3 1 (.slice (some ⟨g, 0, none⟩) m cap) m (i64s (Sh.pl n)) ∧ Below w.heap.size w wr ∧ (Sh.pl n).length = m) := ⟨hown, hbel, hm⟩
        cases hp : Sh.isP n with
        | true =>
          have HP : Aside (Sh.isP n = true) := hp
          rw [hp] at k24
          clear hown hbel hm hp
          go_wp2_with (first
            | (go_at_call 24; refine k24.mono ?_; rintro e w1 ⟨rfl, rfl⟩)
            | (at_builtin; refine wpList_append_own _ rfl (.tmp 10) (.tmp 12) 39 rfl w.heap.size 3 i0 (.int .i64 0) 1 8 Tryd.underlying39 hi hz0 hz1 hz2 rfl (by decide) _ _ _ rfl (HO.out.1.alloc _) ⟨w1.heap.size, 0, none⟩ 1 1 [.int .i64 (n : Int)] rfl rfl ?c1 ?c2 ?c3 ?c4 ?c5 ?_))
          case c1 =>
            intro j u hu
            have := (Blk.new w1 3 #[.int .i64 (n : Int)]).cell (i := j) (v := u) (by simpa using hu)
            rw [addMid, Nat.zero_add]
            exact this
          case c2 => intro u hu; simp only [List.mem_cons, List.not_mem_nil, or_false] at hu; subst hu; rfl
          case c3 => unfold maxLen; omega
          case c4 => omega
          case c5 => have := HO.out.2.1.size; rw [size_alloc]; omega
          intro v' w2 hown' hgrow _
          have R : Aside (w2.ownsRow w.heap.size 3 1 v' (m + 1) (i64s (Sh.pl (n + 1))) ∧ Below w.heap.size w w2 ∧ (Sh.pl (n + 1)).length = m + 1) := by
            obtain ⟨z1, z2, z3⟩ := HO.out
            rw [Sh.pl_succ, HP.out, if_pos rfl, ← i64s_append]
            refine ⟨hown', (z2.alloc z2.size _).grown hgrow (by have := z2.size; rw [size_alloc]; omega) (fun g hg => (z1.lt g hg).1), by rw [List.length_append, z3]; rfl⟩
          clear hown' hgrow HO
          go_wp2
          go_roundg (gk - 1)
          case measure => omega
          case rel =>
            obtain ⟨z1, z2, z3⟩ := R.out
            exact ⟨n + 1, m + 1, by omega, by omega, by omega, z3, by go_num, z1, z2⟩
        | false =>
          have HP : Aside (Sh.isP n = false) := hp
          rw [hp] at k24
          clear hown hbel hm hp
          go_wp2_with (go_at_call 24; refine k24.mono ?_; rintro e w1 ⟨rfl, rfl⟩)
          go_roundg (gk - 1)
          case measure => omega
          case rel =>
            obtain ⟨z1, z2, z3⟩ := HO.out
            have e : Sh.pl (n + 1) = Sh.pl n := by rw [Sh.pl_succ, HP.out]; simp
            exact ⟨n + 1, m, by omega, by omega, by omega, by rw [e]; exact z3, by go_num, by rw [e]; exact z1, z2⟩

    · have hn12 : n = 312 := by have := hends.2; omega
      subst hn12
      have hm64 : m = 64 := by rw [← hm]; exact Sh.pl_all
      subst hm64
      rcases hown.2 with ⟨_, h0⟩ | ⟨g, cap, cur, rfl, hbg, hh, _⟩
      · omega
      · have hg : g < wr.heap.size := (Array.getElem?_eq_some_iff.1 hh).1
        have HR : Aside ((∀ i, i < 64 → wr.cell? ⟨g, i, none⟩ = some (.int .i64 (((Sh.pl 312).getD i 0 : Nat) : Int))) ∧ g < wr.heap.size ∧ Below w.heap.size w wr) := by
          refine ⟨fun i hi => ?_, hg, hbel⟩
          rw [hown.cellAt i (by omega)]
          have : i < (Sh.pl 312).length := by rw [Sh.pl_all]; exact hi
          simp [i64s, List.getD, this]
        clear hown hbel hh hends
        go_wp2
        go_ret
        exact ⟨g, cap, rfl, HR.out⟩
end Go.Proofs.YtkkacngildnlkaaDoor
