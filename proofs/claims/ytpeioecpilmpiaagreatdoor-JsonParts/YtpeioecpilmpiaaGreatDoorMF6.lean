/-
  YtpeioecpilmpiaaGreatDoor: the texts J3, one behind the other.
-/
import Derived.Test.YtpeioecpilmpiaaGreatDoorMF3
import Derived.Test.YtpeioecpilmpiaaGreatDoorMF4
import Derived.Test.YtpeioecpilmpiaaGreatDoorMF5
import Derived.Laws.RangeAny
import Derived.WalkSmall
import Derived.WalkKit
import Derived.WalkSpells
import Derived.WalkLawsBesides
import Derived.Deep.LoopGhost
import Derived.Laws.Externs
import Derived.Below
import Derived.BigQuiet
import Derived.Deep.RegionWith
import Derived.OwnWalk
import Derived.Maps.AppendAt
/-
  The reader of the program: a sign behind a \, signs that stand for themselves.
-/
namespace Go.Proofs.YtpeioecpilmpiaaGreatDoor
open Go.RowKit
theorem must_le (s : ByteArray) (q e : Nat) (c : UInt8) (hc : c ≠ 0) (hq : q ≤ s.size) : (if ht s q e c.toNat then q + 1 else q) ≤ s.size := by
  split
  · rename_i h
    by_cases he : e = 0
    · subst he; exact (ht_true s q c hq hc h).1
    · rw [ht_bad s q e c he hc] at h; cases h
  · exact hq
/-- A byte that must stand there. -/
structure Mu (s : ByteArray) (q e c q1 e1 : Nat) : Prop where
  pos : q1 = if ht s q e c then q + 1 else q
  flt : e1 = if ht s q e c then e else fl e 3
  le : q1 ≤ s.size
theorem must_ex (r : Nat) (s : ByteArray) (p d e : Nat) (c : UInt8) (hc : c ≠ 0) (w : World) (h : Rd r s p d e w) (hp : p ≤ s.size) (hs : s.size ≤ 1000) :
    Calls Tryz.prog 85 #[.pointer (some ⟨r, 0, none⟩), .int .u8 (c.toNat : Int)] w fun en w' => en = .returned (.tuple #[]) ∧ ∃ q1 e1, Mu s p e c.toNat q1 e1 ∧ Rd r s q1 d e1 w' ∧ w.grownBy w' (some r) := by
  refine (must_any r s p d e c.toNat w h hp hs).mono ?_
  rintro en w1 ⟨rfl, h1, g1⟩
  exact ⟨rfl, _, _, ⟨rfl, rfl, must_le s p e c hc hp⟩, h1, g1⟩

theorem cases4 (n m : Nat) : (Aside (56320 ≤ n) ∧ decide ((56320 : Int) ≤ n) = true) ∨ (Aside (n < 56320 ∧ m < 56320) ∧ decide ((56320 : Int) ≤ n) = false ∧ decide ((m : Int) < 56320) = true) ∨
    (Aside (n < 56320 ∧ 57343 < m) ∧ decide ((56320 : Int) ≤ n) = false ∧ decide ((m : Int) < 56320) = false ∧ decide ((57343 : Int) < m) = true) ∨
    (Aside (n < 56320 ∧ 56320 ≤ m ∧ m ≤ 57343) ∧ decide ((56320 : Int) ≤ n) = false ∧ decide ((m : Int) < 56320) = false ∧ decide ((57343 : Int) < m) = false ∧ True) := by
  by_cases c1 : 56320 ≤ n
  · exact .inl ⟨c1, by simp; omega⟩
  · by_cases c2 : m < 56320
    · exact .inr (.inl ⟨⟨by omega, c2⟩, by simp; omega, by simp; omega⟩)
    · by_cases c3 : 57343 < m
      · exact .inr (.inr (.inl ⟨⟨by omega, c3⟩, by simp; omega, by simp; omega, by simp; omega⟩))
      · exact .inr (.inr (.inr ⟨⟨by omega, by omega, by omega⟩, by simp; omega, by simp; omega, by simp; omega, trivial⟩))

set_option maxHeartbeats 1600000 in
set_option maxRecDepth 100000 in
theorem point_any (r : Nat) (s : ByteArray) (p d e : Nat) (w : World) (h : Rd r s p d e w) (hp : p ≤ s.size) (hs : s.size ≤ 1000) :
    Calls Tryz.prog 101 #[.pointer (some ⟨r, 0, none⟩)] w fun en w' => ∃ n q e' : Nat, en = .returned (.int .i32 (n : Int)) ∧ n ≤ 1114111 ∧ Out s e (Js.uni (L s p)) (· = n) q e' ∧ Rd r s q d e' w' ∧ w.grownBy w' (some r) := by
  have K := asd (unit_any r s p d e w h hp hs)
  have T0 : Aside True := trivial
  have T1 : Aside True := trivial
  have T2 : Aside True := trivial
  have T3 : Aside True := trivial
  have T4 : Aside True := trivial
  clear h
  go_enter Tryz.func101, Tryz.ntmps101
  go_wp2_with (first
    | (clear T0; go_at_call 117; refine K.out.mono ?_; rintro en w1 ⟨n, q, e1, rfl, hn, O1, h1, g1⟩; have A1 := asd (And.intro O1 (And.intro h1 g1)); clear h1 g1 O1 K; have M1 := asd (must_ex r s q d e1 92 (by decide) w1 A1.out.2.1 A1.out.1.1 hs))
    | (clear T1; go_at_call 85; refine M1.out.mono ?_; rintro en w2 ⟨rfl, q1, e2, m1, h2, g2⟩; have A2 := asd (And.intro m1 (And.intro h2 (gtrans A1.out.2.2 g2))); clear h2 g2 M1 m1; have M2 := asd (must_ex r s q1 d e2 117 (by decide) w2 A2.out.2.1 A2.out.1.le hs))
    | (clear T2; go_at_call 85; refine M2.out.mono ?_; rintro en w3 ⟨rfl, q2, e3, m2, h3, g3⟩; have A3 := asd (And.intro m2 (And.intro h3 (gtrans A2.out.2.2 g3))); clear h3 g3 M2 m2; have M3 := asd (unit_any r s q2 d e3 w3 A3.out.2.1 A3.out.1.le hs))
    | (clear T3; go_at_call 117; refine M3.out.mono ?_; rintro en w4 ⟨m, q3, e4, rfl, hm, O2, h4, g4⟩; have A4 := asd (And.intro O2 (And.intro h4 (gtrans A3.out.2.2 g4))); clear h4 g4 M3 O2; have M4 := asd (fail_any r s q3 d e4 3 w4 A4.out.2.1); have CS := cases4 n m
       rcases CS with ⟨c, b1⟩ | ⟨c, b1, b2⟩ | ⟨c, b1, b2, b3⟩ | ⟨c, b1, b2, b3, b4⟩)
    | (clear T4; go_at_call 31; refine M4.out.mono ?_; rintro en w5 ⟨rfl, h5, g5⟩; have A5 := asd (And.intro h5 (gtrans A4.out.2.2 g5)); clear h5 g5 M4))
  all_goals go_ret
  · exact ⟨n, q, e1, rfl, by omega, pt_one s p e n q e1 A1.out.1 (by omega), A1.out.2.1, A1.out.2.2⟩
  · exact ⟨0, q3, fl e4 3, rfl, by omega, (pt_out s p e n q e1 q1 e2 q2 e3 m q3 e4 A1.out.1 A2.out.1.pos A2.out.1.flt A3.out.1.pos A3.out.1.flt A4.out.1 (by omega)).1 (.inl c.out) _, A5.out.1, A5.out.2⟩
  · exact ⟨0, q3, fl e4 3, rfl, by omega, (pt_out s p e n q e1 q1 e2 q2 e3 m q3 e4 A1.out.1 A2.out.1.pos A2.out.1.flt A3.out.1.pos A3.out.1.flt A4.out.1 (by omega)).1 (.inr (.inl c.out.2)) _, A5.out.1, A5.out.2⟩
  · exact ⟨0, q3, fl e4 3, rfl, by omega, (pt_out s p e n q e1 q1 e2 q2 e3 m q3 e4 A1.out.1 A2.out.1.pos A2.out.1.flt A3.out.1.pos A3.out.1.flt A4.out.1 (by omega)).1 (.inr (.inr c.out.2)) _, A5.out.1, A5.out.2⟩
  · have cc := c.out
    refine ⟨65536 + (n - 55296) * 1024 + (m - 56320), q3, e4, ?_, by omega, (pt_out s p e n q e1 q1 e2 q2 e3 m q3 e4 A1.out.1 A2.out.1.pos A2.out.1.flt A3.out.1.pos A3.out.1.flt A4.out.1 (by omega)).2 (by omega), A4.out.2.1, A4.out.2.2⟩
    rw [show ((65536 + (n - 55296) * 1024 + (m - 56320) : Nat) : Int) = 65536 + ((n : Int) - 55296) * 1024 + ((m : Int) - 56320) by omega]
    rfl
  · exact ⟨n, rfl, by omega, q, e1, pt_one s p e n q e1 A1.out.1 (by omega), A1.out.2.1, A1.out.2.2⟩
def escE : List Nat := [34, 92, 47, 98, 102, 110, 114, 116]

/-- A letter behind a \. -/
theorem esc_one (s : ByteArray) (p e : Nat) (c : UInt8) (v : Nat) (hc : c ≠ 0) (hp : p ≤ s.size) (h : ht s p e c.toNat = true) (hv : ∀ t, Js.esc (c :: t) = some (v, t)) : Out s e (Js.esc (L s p)) (· = v) (p + 1) e := by
  by_cases he : e = 0
  · subst he
    obtain ⟨h1, h2⟩ := ht_true s p c hp hc h
    exact ⟨h1, .inl ⟨rfl, rfl, v, rfl, by rw [h2]; exact hv _⟩⟩
  · rw [ht_bad s p e c he hc] at h
    cases h
theorem esc_none (s : ByteArray) (p e : Nat) (hp : p ≤ s.size) (h0 : ht s p e 117 = false) (h : ∀ i, i < 8 → ht s p e (escE.getD i 0) = false) (P : Nat → Prop) : Out s e (Js.esc (L s p)) P p (fl e 3) := by
  refine ⟨hp, .inr ⟨fl_ne _ _ (by decide), rfl, ?_⟩⟩
  by_cases he : e = 0
  · subst he
    refine .inr ?_
    cases hl : L s p with
    | nil => rfl
    | cons b t =>
      have hb : ∀ c : UInt8, ht s p 0 c.toNat = false → b ≠ c := fun c hc e => ht_false s p c hc t (by rw [hl, e])
      simp only [Js.esc]
      rw [if_neg (hb 34 (h 0 (by omega))), if_neg (hb 92 (h 1 (by omega))), if_neg (hb 47 (h 2 (by omega))), if_neg (hb 98 (h 3 (by omega))), if_neg (hb 102 (h 4 (by omega))), if_neg (hb 110 (h 5 (by omega))), if_neg (hb 114 (h 6 (by omega))), if_neg (hb 116 (h 7 (by omega))), if_neg (hb 117 h0)]
  · exact .inl he
theorem esc_uni (s : ByteArray) (p e n q e' : Nat) (hp : p ≤ s.size) (h0 : ht s p e 117 = true) (O : Out s e (Js.uni (L s (p + 1))) (· = n) q e') : Out s e (Js.esc (L s p)) (· = n) q e' := by
  by_cases he : e = 0
  · subst he
    obtain ⟨h1, h2⟩ := ht_true s p 117 hp (by decide) h0
    have : Js.esc (L s p) = Js.uni (L s (p + 1)) := by rw [h2]; rfl
    rw [this]
    exact O
  · rw [show (117 : Nat) = (117 : UInt8).toNat by rfl, ht_bad s p e 117 he (by decide)] at h0
    cases h0
theorem ht_pos (s : ByteArray) (p e : Nat) (c : UInt8) (hc : c ≠ 0) (hp : p ≤ s.size) (h : ht s p e c.toNat = true) : p + 1 ≤ s.size := by
  have := must_le s p e c hc hp
  rw [h] at this
  exact this

set_option maxHeartbeats 1600000 in
set_option maxRecDepth 100000 in
theorem escaped_any (r : Nat) (s : ByteArray) (p d e : Nat) (w : World) (h : Rd r s p d e w) (hp : p ≤ s.size) (hs : s.size ≤ 1000) :
    Calls Tryz.prog 87 #[.pointer (some ⟨r, 0, none⟩)] w fun en w' => ∃ n q e' : Nat, en = .returned (.int .i32 (n : Int)) ∧ n ≤ 1114111 ∧ Out s e (Js.esc (L s p)) (· = n) q e' ∧ Rd r s q d e' w' ∧ w.grownBy w' (some r) := by
  have K := asd (met_any r s p d e 117 w h hp hs)
  clear h
  have T0 : Aside True := trivial
  cases hu : ht s p e 117 with
  | true =>
    have hu' := asd hu
    rw [hu] at K
    clear hu
    simp only [if_true] at K
    go_enter Tryz.func87, Tryz.ntmps87
    go_wp2_with (first
      | (clear T0; go_at_call 65; refine K.out.mono ?_; rintro en w1 ⟨rfl, h1, g1⟩; have K2 := asd (point_any r s (p + 1) d e w1 h1 (ht_pos s p e 117 (by decide) hp hu'.out) hs); have A1 := asd g1; clear h1 g1 K)
      | (go_at_call 101; refine K2.out.mono ?_; rintro en w2 ⟨n, q, e', rfl, hn, O, h2, g2⟩; have A2 := asd (And.intro O (And.intro h2 g2)); clear O h2 g2 K2))
    go_ret
    exact ⟨n, q, e', rfl, hn, esc_uni s p e n q e' hp hu'.out A2.out.1, A2.out.2.1, gtrans A1.out A2.out.2.2⟩
  | false =>
    have hu' := asd hu
    rw [hu] at K
    clear hu
    simp only [Bool.false_eq_true, if_false] at K
    go_enter Tryz.func87, Tryz.ntmps87
    go_wp2_with (clear T0; go_at_call 65; refine K.out.mono ?_; rintro en w1 ⟨rfl, h1, g1⟩; have A1 := asd (And.intro h1 g1); clear h1 g1 K)
    go_loopg [3, 8] 8 (fun gh s3 s8 wr => ∃ j : Nat, 8 - j ≤ gh ∧ j ≤ 8 ∧ s8 = .int .i64 (j : Int) ∧ Aside ((∀ i, i < j → ht s p e (escE.getD i 0) = false) ∧ Rd r s p d e wr ∧ w.grownBy wr (some r)))
    case atStart => exact ⟨0, by omega, by omega, rfl, fun i hi => absurd hi (Nat.not_lt_zero _), A1.out.1, A1.out.2⟩
    case round =>
      obtain ⟨j, hgh, hj, rfl, I⟩ := hrel
      have T1 : Aside True := trivial
      have hz : Hid (j = 0 ∨ j = 1 ∨ j = 2 ∨ j = 3 ∨ j = 4 ∨ j = 5 ∨ j = 6 ∨ j = 7 ∨ j = 8) := by unfold Hid; omega
      rcases hz with rfl | rfl | rfl | rfl | rfl | rfl | rfl | rfl | rfl
      · have M := asd (met_any r s p d e 34 wr I.out.2.1 hp hs)
        cases hm : ht s p e 34 with
        | true =>
          have hm' := asd hm
          rw [hm] at M
          clear hm
          simp only [if_true] at M
          go_wp2_with (clear T1; go_at_call 65; refine M.out.mono ?_; rintro en w1 ⟨rfl, h1, g1⟩; have A1 := asd (And.intro h1 g1); clear h1 g1 M)
          go_ret
          exact ⟨34, p + 1, e, congrArg (fun z : Int => Ending.returned (Value.int .i32 z)) (by kernel_rfl : wrap32 (((⟨#[34, 92, 47, 8, 12, 10, 13, 9]⟩ : ByteArray)[0].toNat : Nat) : Int) = ((34 : Nat) : Int)), by omega, esc_one s p e 34 34 (by decide) hp hm'.out (fun _ => rfl), A1.out.1, gtrans I.out.2.2 A1.out.2⟩
        | false =>
          have hm' := asd hm
          rw [hm] at M
          clear hm
          simp only [Bool.false_eq_true, if_false] at M
          go_wp2_with (clear T1; go_at_call 65; refine M.out.mono ?_; rintro en w1 ⟨rfl, h1, g1⟩; have A1 := asd (And.intro h1 g1); clear h1 g1 M)
          go_roundg 7
          case measure => omega
          case rel =>
            refine ⟨1, by omega, by omega, rfl, fun i hi => ?_, A1.out.1, gtrans I.out.2.2 A1.out.2⟩
            by_cases hk : i < 0
            · exact I.out.1 i hk
            · obtain rfl : i = 0 := by omega
              exact hm'.out
      · have M := asd (met_any r s p d e 92 wr I.out.2.1 hp hs)
        cases hm : ht s p e 92 with
        | true =>
          have hm' := asd hm
          rw [hm] at M
          clear hm
          simp only [if_true] at M
          go_wp2_with (clear T1; go_at_call 65; refine M.out.mono ?_; rintro en w1 ⟨rfl, h1, g1⟩; have A1 := asd (And.intro h1 g1); clear h1 g1 M)
          go_ret
          exact ⟨92, p + 1, e, congrArg (fun z : Int => Ending.returned (Value.int .i32 z)) (by kernel_rfl : wrap32 (((⟨#[34, 92, 47, 8, 12, 10, 13, 9]⟩ : ByteArray)[1].toNat : Nat) : Int) = ((92 : Nat) : Int)), by omega, esc_one s p e 92 92 (by decide) hp hm'.out (fun _ => rfl), A1.out.1, gtrans I.out.2.2 A1.out.2⟩
        | false =>
          have hm' := asd hm
          rw [hm] at M
          clear hm
          simp only [Bool.false_eq_true, if_false] at M
          go_wp2_with (clear T1; go_at_call 65; refine M.out.mono ?_; rintro en w1 ⟨rfl, h1, g1⟩; have A1 := asd (And.intro h1 g1); clear h1 g1 M)
          go_roundg 6
          case measure => omega
          case rel =>
            refine ⟨2, by omega, by omega, rfl, fun i hi => ?_, A1.out.1, gtrans I.out.2.2 A1.out.2⟩
            by_cases hk : i < 1
            · exact I.out.1 i hk
            · obtain rfl : i = 1 := by omega
              exact hm'.out
      · have M := asd (met_any r s p d e 47 wr I.out.2.1 hp hs)
        cases hm : ht s p e 47 with
        | true =>
          have hm' := asd hm
          rw [hm] at M
          clear hm
          simp only [if_true] at M
          go_wp2_with (clear T1; go_at_call 65; refine M.out.mono ?_; rintro en w1 ⟨rfl, h1, g1⟩; have A1 := asd (And.intro h1 g1); clear h1 g1 M)
          go_ret
          exact ⟨47, p + 1, e, congrArg (fun z : Int => Ending.returned (Value.int .i32 z)) (by kernel_rfl : wrap32 (((⟨#[34, 92, 47, 8, 12, 10, 13, 9]⟩ : ByteArray)[2].toNat : Nat) : Int) = ((47 : Nat) : Int)), by omega, esc_one s p e 47 47 (by decide) hp hm'.out (fun _ => rfl), A1.out.1, gtrans I.out.2.2 A1.out.2⟩
        | false =>
          have hm' := asd hm
          rw [hm] at M
          clear hm
          simp only [Bool.false_eq_true, if_false] at M
          go_wp2_with (clear T1; go_at_call 65; refine M.out.mono ?_; rintro en w1 ⟨rfl, h1, g1⟩; have A1 := asd (And.intro h1 g1); clear h1 g1 M)
          go_roundg 5
          case measure => omega
          case rel =>
            refine ⟨3, by omega, by omega, rfl, fun i hi => ?_, A1.out.1, gtrans I.out.2.2 A1.out.2⟩
            by_cases hk : i < 2
            · exact I.out.1 i hk
            · obtain rfl : i = 2 := by omega
              exact hm'.out
      · have M := asd (met_any r s p d e 98 wr I.out.2.1 hp hs)
        cases hm : ht s p e 98 with
        | true =>
          have hm' := asd hm
          rw [hm] at M
          clear hm
          simp only [if_true] at M
          go_wp2_with (clear T1; go_at_call 65; refine M.out.mono ?_; rintro en w1 ⟨rfl, h1, g1⟩; have A1 := asd (And.intro h1 g1); clear h1 g1 M)
          go_ret
          exact ⟨8, p + 1, e, congrArg (fun z : Int => Ending.returned (Value.int .i32 z)) (by kernel_rfl : wrap32 (((⟨#[34, 92, 47, 8, 12, 10, 13, 9]⟩ : ByteArray)[3].toNat : Nat) : Int) = ((8 : Nat) : Int)), by omega, esc_one s p e 98 8 (by decide) hp hm'.out (fun _ => rfl), A1.out.1, gtrans I.out.2.2 A1.out.2⟩
        | false =>
          have hm' := asd hm
          rw [hm] at M
          clear hm
          simp only [Bool.false_eq_true, if_false] at M
          go_wp2_with (clear T1; go_at_call 65; refine M.out.mono ?_; rintro en w1 ⟨rfl, h1, g1⟩; have A1 := asd (And.intro h1 g1); clear h1 g1 M)
          go_roundg 4
          case measure => omega
          case rel =>
            refine ⟨4, by omega, by omega, rfl, fun i hi => ?_, A1.out.1, gtrans I.out.2.2 A1.out.2⟩
            by_cases hk : i < 3
            · exact I.out.1 i hk
            · obtain rfl : i = 3 := by omega
              exact hm'.out
      · have M := asd (met_any r s p d e 102 wr I.out.2.1 hp hs)
        cases hm : ht s p e 102 with
        | true =>
          have hm' := asd hm
          rw [hm] at M
          clear hm
          simp only [if_true] at M
          go_wp2_with (clear T1; go_at_call 65; refine M.out.mono ?_; rintro en w1 ⟨rfl, h1, g1⟩; have A1 := asd (And.intro h1 g1); clear h1 g1 M)
          go_ret
          exact ⟨12, p + 1, e, congrArg (fun z : Int => Ending.returned (Value.int .i32 z)) (by kernel_rfl : wrap32 (((⟨#[34, 92, 47, 8, 12, 10, 13, 9]⟩ : ByteArray)[4].toNat : Nat) : Int) = ((12 : Nat) : Int)), by omega, esc_one s p e 102 12 (by decide) hp hm'.out (fun _ => rfl), A1.out.1, gtrans I.out.2.2 A1.out.2⟩
        | false =>
          have hm' := asd hm
          rw [hm] at M
          clear hm
          simp only [Bool.false_eq_true, if_false] at M
          go_wp2_with (clear T1; go_at_call 65; refine M.out.mono ?_; rintro en w1 ⟨rfl, h1, g1⟩; have A1 := asd (And.intro h1 g1); clear h1 g1 M)
          go_roundg 3
          case measure => omega
          case rel =>
            refine ⟨5, by omega, by omega, rfl, fun i hi => ?_, A1.out.1, gtrans I.out.2.2 A1.out.2⟩
            by_cases hk : i < 4
            · exact I.out.1 i hk
            · obtain rfl : i = 4 := by omega
              exact hm'.out
      · have M := asd (met_any r s p d e 110 wr I.out.2.1 hp hs)
        cases hm : ht s p e 110 with
        | true =>
          have hm' := asd hm
          rw [hm] at M
          clear hm
          simp only [if_true] at M
          go_wp2_with (clear T1; go_at_call 65; refine M.out.mono ?_; rintro en w1 ⟨rfl, h1, g1⟩; have A1 := asd (And.intro h1 g1); clear h1 g1 M)
          go_ret
          exact ⟨10, p + 1, e, congrArg (fun z : Int => Ending.returned (Value.int .i32 z)) (by kernel_rfl : wrap32 (((⟨#[34, 92, 47, 8, 12, 10, 13, 9]⟩ : ByteArray)[5].toNat : Nat) : Int) = ((10 : Nat) : Int)), by omega, esc_one s p e 110 10 (by decide) hp hm'.out (fun _ => rfl), A1.out.1, gtrans I.out.2.2 A1.out.2⟩
        | false =>
          have hm' := asd hm
          rw [hm] at M
          clear hm
          simp only [Bool.false_eq_true, if_false] at M
          go_wp2_with (clear T1; go_at_call 65; refine M.out.mono ?_; rintro en w1 ⟨rfl, h1, g1⟩; have A1 := asd (And.intro h1 g1); clear h1 g1 M)
          go_roundg 2
          case measure => omega
          case rel =>
            refine ⟨6, by omega, by omega, rfl, fun i hi => ?_, A1.out.1, gtrans I.out.2.2 A1.out.2⟩
            by_cases hk : i < 5
            · exact I.out.1 i hk
            · obtain rfl : i = 5 := by omega
              exact hm'.out
      · have M := asd (met_any r s p d e 114 wr I.out.2.1 hp hs)
        cases hm : ht s p e 114 with
        | true =>
          have hm' := asd hm
          rw [hm] at M
          clear hm
          simp only [if_true] at M
          go_wp2_with (clear T1; go_at_call 65; refine M.out.mono ?_; rintro en w1 ⟨rfl, h1, g1⟩; have A1 := asd (And.intro h1 g1); clear h1 g1 M)
          go_ret
          exact ⟨13, p + 1, e, congrArg (fun z : Int => Ending.returned (Value.int .i32 z)) (by kernel_rfl : wrap32 (((⟨#[34, 92, 47, 8, 12, 10, 13, 9]⟩ : ByteArray)[6].toNat : Nat) : Int) = ((13 : Nat) : Int)), by omega, esc_one s p e 114 13 (by decide) hp hm'.out (fun _ => rfl), A1.out.1, gtrans I.out.2.2 A1.out.2⟩
        | false =>
          have hm' := asd hm
          rw [hm] at M
          clear hm
          simp only [Bool.false_eq_true, if_false] at M
          go_wp2_with (clear T1; go_at_call 65; refine M.out.mono ?_; rintro en w1 ⟨rfl, h1, g1⟩; have A1 := asd (And.intro h1 g1); clear h1 g1 M)
          go_roundg 1
          case measure => omega
          case rel =>
            refine ⟨7, by omega, by omega, rfl, fun i hi => ?_, A1.out.1, gtrans I.out.2.2 A1.out.2⟩
            by_cases hk : i < 6
            · exact I.out.1 i hk
            · obtain rfl : i = 6 := by omega
              exact hm'.out
      · have M := asd (met_any r s p d e 116 wr I.out.2.1 hp hs)
        cases hm : ht s p e 116 with
        | true =>
          have hm' := asd hm
          rw [hm] at M
          clear hm
          simp only [if_true] at M
          go_wp2_with (clear T1; go_at_call 65; refine M.out.mono ?_; rintro en w1 ⟨rfl, h1, g1⟩; have A1 := asd (And.intro h1 g1); clear h1 g1 M)
          go_ret
          exact ⟨9, p + 1, e, congrArg (fun z : Int => Ending.returned (Value.int .i32 z)) (by kernel_rfl : wrap32 (((⟨#[34, 92, 47, 8, 12, 10, 13, 9]⟩ : ByteArray)[7].toNat : Nat) : Int) = ((9 : Nat) : Int)), by omega, esc_one s p e 116 9 (by decide) hp hm'.out (fun _ => rfl), A1.out.1, gtrans I.out.2.2 A1.out.2⟩
        | false =>
          have hm' := asd hm
          rw [hm] at M
          clear hm
          simp only [Bool.false_eq_true, if_false] at M
          go_wp2_with (clear T1; go_at_call 65; refine M.out.mono ?_; rintro en w1 ⟨rfl, h1, g1⟩; have A1 := asd (And.intro h1 g1); clear h1 g1 M)
          go_roundg 0
          case measure => omega
          case rel =>
            refine ⟨8, by omega, by omega, rfl, fun i hi => ?_, A1.out.1, gtrans I.out.2.2 A1.out.2⟩
            by_cases hk : i < 7
            · exact I.out.1 i hk
            · obtain rfl : i = 7 := by omega
              exact hm'.out
      · have M := asd (fail_any r s p d e 3 wr I.out.2.1)
        go_wp2_with (clear T1; go_at_call 31; refine M.out.mono ?_; rintro en w1 ⟨rfl, h1, g1⟩; have A1 := asd (And.intro h1 g1); clear h1 g1 M)
        go_ret
        exact ⟨0, p, fl e 3, rfl, by omega, esc_none s p e hp hu'.out I.out.1 _, A1.out.1, gtrans I.out.2.2 A1.out.2⟩
theorem isPlain_any (n : Nat) (w : World) :
    Calls Tryz.prog 102 #[.int .i32 (n : Int)] w fun en w' => en = .returned (.bool (decide (32 ≤ n) && decide (n ≠ 34) && decide (n ≠ 92))) ∧ w' = w := by
  by_cases h1 : 32 ≤ n
  · have d1 : decide ((32 : Int) ≤ n) = true := by simp; omega
    have e1 : decide (32 ≤ n) = true := by simpa using h1
    by_cases h2 : n = 34
    · subst h2
      go_enter Tryz.func102, Tryz.ntmps102
      go_wp2
      go_ret
      exact ⟨rfl, rfl⟩
    · have d2 : ((n : Int) != 34) = true := by simp; omega
      have e2 : decide (n ≠ 34) = true := by simpa using h2
      by_cases h3 : n = 92
      · subst h3
        go_enter Tryz.func102, Tryz.ntmps102
        go_wp2
        go_ret
        exact ⟨rfl, rfl⟩
      · have d3 : ((n : Int) != 92) = true := by simp; omega
        have e3 : decide (n ≠ 92) = true := by simpa using h3
        rw [e1, e2, e3]
        clear e1 e2 e3 h1 h2 h3
        go_enter Tryz.func102, Tryz.ntmps102
        go_wp2
        go_ret
        exact ⟨rfl, rfl⟩
  · have d1 : decide ((32 : Int) ≤ n) = false := by simp; omega
    have e1 : decide (32 ≤ n) = false := by simpa using h1
    rw [e1]
    clear e1 h1
    go_enter Tryz.func102, Tryz.ntmps102
    go_wp2
    go_ret
    exact ⟨rfl, rfl⟩

theorem isRight_any (n : Nat) (l : ByteArray) (w : World) :
    Calls Tryz.prog 103 #[.int .i32 (n : Int), .string l] w fun en w' => en = .returned (.bool (decide (n ≠ 65533) || Lib.hasPrefix l.data.toList [239, 191, 189])) ∧ w' = w := by
  have K := hasPrefix_call l ⟨#[239, 191, 189]⟩ w
  have ek : (⟨#[239, 191, 189]⟩ : ByteArray).data.toList = [239, 191, 189] := rfl
  rw [ek] at K
  generalize Lib.hasPrefix l.data.toList [239, 191, 189] = b at K ⊢
  have K' := asd K
  clear K
  by_cases h1 : n = 65533
  · subst h1
    go_enter Tryz.func103, Tryz.ntmps103
    go_wp2_with (go_at_call 118; refine K'.out.mono ?_; rintro en w1 ⟨rfl, rfl⟩)
    go_ret
    exact ⟨rfl, rfl⟩
  · have d2 : ((n : Int) != 65533) = true := by simp; omega
    have e2 : decide (n ≠ 65533) = true := by simpa using h1
    rw [e2]
    clear e2 h1
    go_enter Tryz.func103, Tryz.ntmps103
    go_wp2_with fail
    go_ret
    exact ⟨rfl, rfl⟩
theorem ext_list (s : ByteArray) (p : Nat) : (s.extract p s.size).data.toList = L s p := by
  unfold L
  simp
  exact List.take_of_length_le (Nat.le_of_eq (L_len s p))
theorem dec_rest (rest : ByteArray) (j : Nat) : Lib.decodeL (rest.data.toList.drop j) = Utf8.decode rest j := Lib.decodeL_drop rest j

/-- U+FFFD that stands there has three bytes. -/
theorem right_iff (l : Js.B) (hne : l ≠ []) (h : (Lib.decodeL l).1 = 65533) : Lib.hasPrefix l [239, 191, 189] = true ↔ (Lib.decodeL l).2 ≠ 1 := by
  constructor
  · intro hp
    have hpre : [239, 191, 189] <+: l := List.isPrefixOf_iff_prefix.1 hp
    have e : l.take 3 = [239, 191, 189] := (List.prefix_iff_eq_take.1 hpre).symm
    obtain ⟨h1, _, _⟩ := Js.decode_same [239, 191, 189] l (by decide) (by decide) (by rw [show (Lib.decodeL [239, 191, 189]).2 = 3 by decide, e]; rfl)
    rw [h1]
    decide
  · intro hw
    have e := Lib.encode_decode l hne (fun c => hw c.2)
    rw [h] at e
    have he : Lib.encodeRune ((65533 : Nat) : Int) = [239, 191, 189] := by decide
    rw [he] at e
    exact List.isPrefixOf_iff_prefix.2 (by rw [e]; exact List.take_prefix _ _)

/-- A sign that stands for itself. -/
def okSign (l : Js.B) : Bool := decide (32 ≤ (Lib.decodeL l).1) && decide ((Lib.decodeL l).1 ≠ 34) && decide ((Lib.decodeL l).1 ≠ 92) && (decide ((Lib.decodeL l).1 ≠ 65533) || Lib.hasPrefix l [239, 191, 189])
theorem head_of (b : UInt8) (t : Js.B) (h : (Lib.decodeL (b :: t)).1 < 128) : b.toNat = (Lib.decodeL (b :: t)).1 ∧ (Lib.decodeL (b :: t)).2 = 1 := by
  by_cases hb : b.toNat < 128
  · rw [Lib.decodeL_ascii b t hb]
    exact ⟨rfl, rfl⟩
  · exfalso
    rw [Lib.decodeL_N] at h
    have k0 := b.toNat_lt
    have hb0 : ((b :: t).getD 0 0).toNat = b.toNat := rfl
    rw [hb0] at h
    rcases Lib.decodeN_shape (b :: t).length b.toNat ((b :: t).getD 1 0).toNat ((b :: t).getD 2 0).toNat ((b :: t).getD 3 0).toNat with ⟨c, e⟩ | ⟨c1, c2, c3, cv, e⟩ | ⟨c1, c2, c3, c4, cv, cs, e⟩ | ⟨c1, c2, c3, c4, c5, cv, cw, e⟩ | e
    all_goals (rw [e] at h; dsimp only at h; omega)
theorem ok_step (l out : Js.B) (hne : l ≠ []) (h : okSign l = true) : Js.txx l out = Js.txx (l.drop (Lib.decodeL l).2) (out ++ l.take (Lib.decodeL l).2) ∧ Lib.runeLen ((Lib.decodeL l).1 : Int) = ((Lib.decodeL l).2 : Int) ∧ (Lib.decodeL l).2 ≤ l.length := by
  cases l with
  | nil => exact absurd rfl hne
  | cons b t =>
    unfold okSign at h
    simp only [Bool.and_eq_true, Bool.or_eq_true, decide_eq_true_eq] at h
    obtain ⟨⟨⟨h1, h2⟩, h3⟩, h4⟩ := h
    have hg : ¬ ((Lib.decodeL (b :: t)).1 = 65533 ∧ (Lib.decodeL (b :: t)).2 = 1) := fun c => by
      rcases h4 with h4 | h4
      · exact h4 c.1
      · exact (right_iff (b :: t) (by simp) c.1).1 h4 c.2
    have hb1 : b ≠ 34 := fun e => by subst e; rw [Lib.decodeL_ascii 34 t (by decide)] at h2; exact h2 rfl
    have hb2 : b ≠ 92 := fun e => by subst e; rw [Lib.decodeL_ascii 92 t (by decide)] at h3; exact h3 rfl
    refine ⟨Js.txx_plain b t out hb1 hb2 (by rintro (c | c); · omega
                                             · exact hg c), ?_, (Js.decode_same (b :: t) (b :: t) (by simp) hg rfl).2.1⟩
    by_cases h5 : (Lib.decodeL (b :: t)).1 = 65533
    · have e := Lib.encode_decode (b :: t) (by simp) hg
      have hl := congrArg List.length e
      rw [h5] at hl ⊢
      have hk := (Js.decode_same (b :: t) (b :: t) (by simp) hg rfl).2.1
      rw [List.length_take, Nat.min_eq_left hk] at hl
      rw [← hl]
      decide
    · exact Lib.runeLen_decode (b :: t) h5
theorem ok_stop (l out : Js.B) (h : l = [] ∨ (okSign l = false ∧ ∀ t, l ≠ 34 :: t ∧ l ≠ 92 :: t)) : Js.txx l out = none := by
  rcases h with rfl | ⟨h, hq⟩
  · rfl
  · cases l with
    | nil => rfl
    | cons b t =>
      have hb1 : b ≠ 34 := fun e => (hq t).1 (by rw [e])
      have hb2 : b ≠ 92 := fun e => (hq t).2 (by rw [e])
      refine Js.txx_bad b t out hb1 hb2 ?_
      refine Classical.byContradiction fun hn => ?_
      have h32 : 32 ≤ (Lib.decodeL (b :: t)).1 := Nat.not_lt.1 fun c => hn (.inl c)
      have hne : ∀ c : UInt8, c.toNat < 128 → b ≠ c → (Lib.decodeL (b :: t)).1 ≠ c.toNat := fun c hc hbc e => by
        have := (head_of b t (by omega)).1
        exact hbc (UInt8.toNat_inj.1 (this.trans e))
      have h34 := hne 34 (by decide) hb1
      have h92 := hne 92 (by decide) hb2
      have : okSign (b :: t) = true := by
        unfold okSign
        simp only [Bool.and_eq_true, Bool.or_eq_true, decide_eq_true_eq]
        refine ⟨⟨⟨h32, h34⟩, h92⟩, ?_⟩
        by_cases h5 : (Lib.decodeL (b :: t)).1 = 65533
        · exact .inr ((right_iff (b :: t) (by simp) h5).2 fun c => hn (.inr ⟨h5, c⟩))
        · exact .inl h5
      rw [this] at h
      cases h
theorem below_iter (w : World) (s : ByteArray) (p : Nat) : Below w.heap.size w (w.iter s p) := (Below.refl _ _).alloc (Nat.le_refl _) _

set_option maxHeartbeats 800000 in
set_option maxRecDepth 100000 in
theorem plain_any (r : Nat) (s : ByteArray) (p d : Nat) (w : World) (h : Rd r s p d 0 w) (hp : p ≤ s.size) (hs : s.size ≤ 1000) (hq : ∀ t, L s p ≠ 34 :: t ∧ L s p ≠ 92 :: t) :
    Calls Tryz.prog 88 #[.pointer (some ⟨r, 0, none⟩)] w fun en w' => ∃ (t : ByteArray) (q e' : Nat), en = .returned (.string t) ∧ q ≤ s.size ∧ t.size ≤ 1000 ∧
      ((e' = 0 ∧ p < q ∧ ∀ out, Js.txx (L s p) out = Js.txx (L s q) (out ++ t.data.toList)) ∨ (e' = 3 ∧ ∀ out, Js.txx (L s p) out = none)) ∧ Rd r s q d e' w' ∧ w.grownBy w' (some r) := by
  have H := asd (And.intro h hq)
  have c0 := h.c0
  have c1 := h.c1
  have hlt := h.lt
  clear h hq
  have hpz : (p : Int) ≤ s.size := by omega
  go_enter Tryz.func88, Tryz.ntmps88
  go_wp2
  go_quiet (fail)
  have HQ : Aside (Rd r s p d 0 (w.drewN nq) ∧ w.grownBy (w.drewN nq) (some r) ∧ r < (w.drewN nq).heap.size) := ⟨H.out.1.keep rfl, ⟨rfl, rfl, rfl, Nat.le_refl _, fun _ _ _ => rfl⟩, hlt⟩
  clear c0 c1 hlt
  generalize w.drewN nq = wq at *
  have e1 := ext_list s p
  obtain ⟨rest, hrest⟩ : ∃ x, x = s.extract p s.size := ⟨_, rfl⟩
  rw [← hrest] at e1 ⊢
  have E1 := asd (And.intro e1 hrest)
  have hrs : rest.size = s.size - p := by rw [← L_len, ← e1]; rfl
  have hr1 : rest.size ≤ 1000 := by omega
  have hpr : (p : Int) + rest.size ≤ 1000 := by omega
  have HRS := asd hrs
  clear e1 hrest hrs
  have T9 : Aside True := trivial
  go_wp2
  go_loopg [4, 5, 6] rest.size (fun gh s4 s5 s6 wr => ∃ j : Nat, rest.size - j ≤ gh ∧ j ≤ rest.size ∧ s4 = .int .i64 (j : Int) ∧ wr = wq.iter rest j ∧ Aside (∀ out, Js.txx (L s p) out = Js.txx (L s (p + j)) (out ++ (L s p).take j)))
  case atStart => exact ⟨0, by omega, by omega, rfl, rfl, (fun out => by simp : ∀ out, Js.txx (L s p) out = Js.txx (L s (p + 0)) (out ++ (L s p).take 0))⟩
  case round =>
    obtain ⟨j, hgh, hj, rfl, rfl, I⟩ := hrel
    have HI : Aside (∀ k, Rd r s p d 0 (wq.iter rest k) ∧ w.grownBy (wq.iter rest k) (some r)) := fun k => ⟨HQ.out.1.below HQ.out.2.2 (below_iter wq rest k), gtrans HQ.out.2.1 (gbelow (below_iter wq rest k))⟩
    have FA : Aside (∀ k, Calls Tryz.prog 31 #[.pointer (some ⟨r, 0, none⟩), .int .i64 3] (wq.iter rest k) fun en w' => en = .returned (.tuple #[]) ∧ Rd r s p d 3 w' ∧ w.grownBy w' (some r)) := fun k => (fail_any r s p d 0 3 _ (HI.out k).1).mono (by rintro en w2 ⟨rfl, h2, g2⟩; exact ⟨rfl, h2, gtrans (HI.out k).2 g2⟩)
    have T0 : Aside True := trivial
    have T1 : Aside True := trivial
    have T2 : Aside True := trivial
    have TS : Aside ((rest.extract 0 j).size ≤ 1000) := by show _ ≤ _; rw [ByteArray.size_extract]; omega
    have TX : Aside (∀ out, Js.txx (L s p) out = Js.txx (L s (p + j)) (out ++ (rest.extract 0 j).data.toList)) := fun out => by
      rw [I.out out]
      have : (rest.extract 0 j).data.toList = (L s p).take j := by rw [← E1.out.1]; simp
      rw [this]
    have jm : (p : Int) + j ≤ 1000 := by have := HRS.out; omega
    by_cases hjl : j < rest.size
    · have hnx : ∀ ty, (Instr.next (.pointer (some ⟨wq.heap.size, 0, none⟩)) true ty).run Tryz.prog (wq.iter rest j) = _ := fun ty => run_next_any wq rest j ty hjl
      have hLd : L rest j = L s (p + j) := by rw [← L_drop, ← E1.out.1]; rfl
      have hex : (rest.extract j rest.size).data.toList = L s (p + j) := (ext_list rest j).trans hLd
      have hd : Lib.decodeL (L s (p + j)) = Utf8.decode rest j := by rw [← Lib.decodeL_drop, ← hLd]; rfl
      have hne : L s (p + j) ≠ [] := fun e => by have h0 : (L s (p + j)).length = 0 := (by rw [e]; rfl); rw [L_len] at h0; have := HRS.out; omega
      have OK := asd (And.intro (ok_step (L s (p + j)) · hne) hd)
      have hok : okSign (L s (p + j)) = ((decide (32 ≤ (Utf8.decode rest j).1) && decide ((Utf8.decode rest j).1 ≠ 34) && decide ((Utf8.decode rest j).1 ≠ 92)) && (decide ((Utf8.decode rest j).1 ≠ 65533) || Lib.hasPrefix (rest.extract j rest.size).data.toList [239, 191, 189])) := by
        unfold okSign
        rw [hex, hd]
      have P1 := asd (isPlain_any (Utf8.decode rest j).1)
      have R1 := asd (isRight_any (Utf8.decode rest j).1 (rest.extract j rest.size))
      generalize (decide (32 ≤ (Utf8.decode rest j).1) && decide ((Utf8.decode rest j).1 ≠ 34) && decide ((Utf8.decode rest j).1 ≠ 92)) = b1 at *
      generalize (decide ((Utf8.decode rest j).1 ≠ 65533) || Lib.hasPrefix (rest.extract j rest.size).data.toList [239, 191, 189]) = b2 at *
      clear hd hex hLd hne
      have hjz : (j : Int) ≤ rest.size := by omega
      by_cases hb : b1 = true ∧ b2 = true
      · obtain ⟨rfl, rfl⟩ := hb
        have o1 : okSign (L s (p + j)) = true := by rw [hok]; rfl
        obtain ⟨_, o3, o4⟩ := OK.out.1 [] o1
        have o2 : Aside (∀ out, Js.txx (L s (p + j)) out = Js.txx ((L s (p + j)).drop (Lib.decodeL (L s (p + j))).2) (out ++ (L s (p + j)).take (Lib.decodeL (L s (p + j))).2)) := fun out => (OK.out.1 out o1).1
        rw [OK.out.2] at o2 o3 o4
        rw [L_len] at o4
        have o4' : j + (Utf8.decode rest j).2 ≤ rest.size := by have := HRS.out; omega
        clear o4
        have hw := Lib.width_pos rest j
        clear hok o1 OK
        generalize (Utf8.decode rest j).2 = k at *
        generalize (Utf8.decode rest j).1 = n at *
        have jk : (j : Int) + k ≤ 1000 := by omega
        have LN : Aside (∀ w : World, Calls Tryz.prog 104 #[.int .i32 (n : Int)] w fun e w' => e = .returned (.int .i64 (k : Int)) ∧ w' = w) := fun w => by
          have := runeLen_call (n : Int) w
          rw [o3] at this
          exact this
        clear o3
        go_wp2_with (first | (clear T0; go_at_call 102; refine (P1.out _).mono ?_; rintro en w1 ⟨rfl, rfl⟩) | (clear T1; go_at_call 103; refine (R1.out _).mono ?_; rintro en w1 ⟨rfl, rfl⟩) | (clear T2; go_at_call 104; refine (LN.out _).mono ?_; rintro en w1 ⟨rfl, rfl⟩))
        go_roundg (rest.size - (j + k))
        case measure => omega
        case rel =>
          refine ⟨j + k, Nat.le_refl _, by omega, by go_num, rfl, (fun out => ?_ : ∀ out, Js.txx (L s p) out = Js.txx (L s (p + (j + k))) (out ++ (L s p).take (j + k)))⟩
          rw [I.out out, o2.out, L_drop, ← Nat.add_assoc, List.append_assoc]
          congr 2
          rw [← L_drop s p j, ← List.take_add]
      · have ST : Aside (j = 0 → ∀ out, Js.txx (L s p) out = none) := fun h0 out => by
          subst h0
          refine ok_stop (L s p) out (.inr ⟨?_, H.out.2⟩)
          rw [Nat.add_zero] at hok
          rw [hok]
          cases b1 <;> cases b2 <;> first | rfl | exact absurd ⟨rfl, rfl⟩ hb
        clear hok OK
        by_cases j0 : j = 0
        · subst j0
          replace ST : Aside (∀ out, Js.txx (L s p) out = none) := ST.out rfl
          have hez : rest.extract 0 rest.size = rest := by simp
          rw [hez] at R1
          clear hez
          cases b1 with
          | false =>
            clear hb
            go_wp2_with (first | (clear T0; go_at_call 102; refine (P1.out _).mono ?_; rintro en w1 ⟨rfl, rfl⟩) | (clear T9; go_at_call 31; refine (FA.out _).mono ?_; rintro en w9 ⟨rfl, h9, g9⟩; have c9 := h9.c1; have f9 := h9.fz 1; have A9 := asd (And.intro h9 g9); clear h9 g9))
            go_ret
            exact ⟨_, p, 3, rfl, hp, Nat.le_trans (by simp) (Nat.zero_le 1000), .inr ⟨rfl, ST.out⟩, A9.out.1.set1 p, gtrans A9.out.2 (grown_set _ _ _ _)⟩
          | true =>
            obtain rfl : b2 = false := by cases b2 <;> first | rfl | exact absurd ⟨rfl, rfl⟩ hb
            clear hb
            go_wp2_with (first | (clear T0; go_at_call 102; refine (P1.out _).mono ?_; rintro en w1 ⟨rfl, rfl⟩) | (clear T1; go_at_call 103; refine (R1.out _).mono ?_; rintro en w1 ⟨rfl, rfl⟩) | (clear T9; go_at_call 31; refine (FA.out _).mono ?_; rintro en w9 ⟨rfl, h9, g9⟩; have c9 := h9.c1; have f9 := h9.fz 1; have A9 := asd (And.intro h9 g9); clear h9 g9))
            go_ret
            exact ⟨_, p, 3, rfl, hp, Nat.le_trans (by simp) (Nat.zero_le 1000), .inr ⟨rfl, ST.out⟩, A9.out.1.set1 p, gtrans A9.out.2 (grown_set _ _ _ _)⟩
        · have z1 : ((j : Int) == 0) = false := by simp; omega
          have z2 : ¬ ((j : Int) = 0) := by omega
          cases b1 with
          | false =>
            clear hb
            have c9 := (HI.out (j + (Utf8.decode rest j).2)).1.c1
            have f9 := (HI.out (j + (Utf8.decode rest j).2)).1.fz 1
            go_wp2_with (first | (clear T0; go_at_call 102; refine (P1.out _).mono ?_; rintro en w1 ⟨rfl, rfl⟩))
            go_ret
            exact ⟨_, p + j, 0, rfl, by have := HRS.out; omega, TS.out, .inl ⟨rfl, by omega, TX.out⟩, (HI.out (j + (Utf8.decode rest j).2)).1.set1 (p + j), gtrans (HI.out (j + (Utf8.decode rest j).2)).2 (grown_set _ _ _ _)⟩
          | true =>
            obtain rfl : b2 = false := by cases b2 <;> first | rfl | exact absurd ⟨rfl, rfl⟩ hb
            clear hb
            have c9 := (HI.out (j + (Utf8.decode rest j).2)).1.c1
            have f9 := (HI.out (j + (Utf8.decode rest j).2)).1.fz 1
            go_wp2_with (first | (clear T0; go_at_call 102; refine (P1.out _).mono ?_; rintro en w1 ⟨rfl, rfl⟩) | (clear T1; go_at_call 103; refine (R1.out _).mono ?_; rintro en w1 ⟨rfl, rfl⟩))
            go_ret
            exact ⟨_, p + j, 0, rfl, by have := HRS.out; omega, TS.out, .inl ⟨rfl, by omega, TX.out⟩, (HI.out (j + (Utf8.decode rest j).2)).1.set1 (p + j), gtrans (HI.out (j + (Utf8.decode rest j).2)).2 (grown_set _ _ _ _)⟩
    · obtain rfl : j = rest.size := by omega
      have hnx : ∀ ty, (Instr.next (.pointer (some ⟨wq.heap.size, 0, none⟩)) true ty).run Tryz.prog (wq.iter rest rest.size) = _ := fun ty => run_next_end wq rest rest.size ty (by omega)
      by_cases j0 : rest.size = 0
      · have ST : Aside (∀ out, Js.txx (L s p) out = none) := fun out => by rw [L_end s p (by have := HRS.out; omega)]; rfl
        obtain rfl : rest = ⟨#[]⟩ := by
          have : rest.data = #[] := Array.eq_empty_of_size_eq_zero j0
          obtain ⟨d⟩ := rest
          simp at this
          rw [this]
        clear j0 TS TX jm hjl hgh hj hnx
        have hnx : ∀ ty, (Instr.next (.pointer (some ⟨wq.heap.size, 0, none⟩)) true ty).run Tryz.prog (wq.iter ⟨#[]⟩ 0) = _ := fun ty => run_next_end wq ⟨#[]⟩ 0 ty (by decide)
        go_wp2_with (first | (clear T9; go_at_call 31; refine (FA.out _).mono ?_; rintro en w9 ⟨rfl, h9, g9⟩; have c9 := h9.c1; have f9 := h9.fz 1; have A9 := asd (And.intro h9 g9); clear h9 g9))
        go_ret
        exact ⟨_, p, 3, rfl, hp, Nat.le_trans (by simp) (Nat.zero_le 1000), .inr ⟨rfl, ST.out⟩, A9.out.1.set1 p, gtrans A9.out.2 (grown_set _ _ _ _)⟩
      · have hez : rest.extract 0 rest.size = rest := by simp
        rw [hez] at TS TX
        clear hez
        have HP : Aside (p < p + rest.size) := by show _ < _; omega
        have z1 : ((rest.size : Int) == 0) = false := by rw [beq_eq_false_iff_ne]; omega
        have z2 : ¬ ((rest.size : Int) = 0) := by omega
        have c9 := (HI.out (rest.size)).1.c1
        have f9 := (HI.out (rest.size)).1.fz 1
        go_wp2_with fail
        go_ret
        exact ⟨_, p + rest.size, 0, rfl, by have := HRS.out; omega, TS.out, .inl ⟨rfl, HP.out, TX.out⟩, (HI.out (rest.size)).1.set1 (p + rest.size), gtrans (HI.out (rest.size)).2 (grown_set _ _ _ _)⟩
end Go.Proofs.YtpeioecpilmpiaaGreatDoor
