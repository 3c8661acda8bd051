/-
  YtpeioecpilmpiaaGreatDoor: the texts J11, one behind the other.
-/
import Derived.Test.YtpeioecpilmpiaaGreatDoorMF14
import Derived.WalkKit
import Derived.WalkSpells
import Derived.WalkLawsBesides
import Derived.Deep.LoopGhost
import Derived.Laws.Externs
import Derived.Below
import Derived.BigQuiet
import Derived.Deep.RegionWith
import Derived.OwnWalk
import Derived.Maps.AppendAt
/-
  The reader of the program: any value.
-/
namespace Go.Proofs.YtpeioecpilmpiaaGreatDoor
open Go.RowKit
/-- What may be inside, n deep. -/
def sub : Nat → Option (Js.B → Js.Ans)
  | 0 => none
  | n + 1 => some (Js.pv n)
theorem pv_sub (n : Nat) (l : Js.B) : Js.pv n l = Js.va (sub n) (Js.skip l) := by cases n <;> rfl

/-- What a value's reading leaves, at its first byte. -/
def BR (n : Nat) (s : ByteArray) (p d : Nat) (v : Value) (q d' e' : Nat) (w w' : World) : Prop :=
  (e' = 0 ∧ d' = d ∧ ∃ x rest, Js.va (sub n) (L s p) = .ok (x, rest) ∧ L s q = rest ∧ Tv n (Bt w.heap.size w'.heap.size) w' v x) ∨ (e' ≠ 0 ∧ Js.va (sub n) (L s p) = .error e')

theorem Tv.sc {n : Nat} {F : Nat → Prop} {w : World} {v : Value} {x : Js.X} (h : ScV v x) : Tv n F w v x := by
  cases n with
  | zero => exact h
  | succ n => exact .inl h

def nullB : ByteArray := ⟨#[110, 117, 108, 108]⟩
def falseB : ByteArray := ⟨#[102, 97, 108, 115, 101]⟩
def trueB : ByteArray := ⟨#[116, 114, 117, 101]⟩
theorem br_word {n : Nat} {s wd : ByteArray} {p d q e' : Nat} {v : Value} {x : Js.X} {w w' : World} (O : Out s 0 (WD s wd p) (fun _ => True) q e') (hv : Js.va (sub n) (L s p) = Js.word wd.data.toList (L s p) x) (hx : ScV v x) : BR n s p d v q d e' w w' := by
  obtain ⟨_, O⟩ := O
  rcases O with ⟨_, rfl, u, _, h⟩ | ⟨h1, h2, h3⟩
  · unfold WD at h
    split at h
    · rename_i hp
      simp only [Option.some.injEq, Prod.mk.injEq] at h
      refine .inl ⟨rfl, rfl, x, _, ?_, h.2.symm, Tv.sc hx⟩
      rw [hv]
      unfold Js.word
      rw [if_pos hp]
      rfl
    · cases h
  · have h3' : WD s wd p = none := by
      rcases h3 with h3 | h3
      · exact absurd rfl h3
      · exact h3
    unfold WD at h3'
    split at h3'
    · cases h3'
    · rename_i hp
      refine .inr ⟨h1, ?_⟩
      rw [hv, h2]
      unfold Js.word
      rw [if_neg hp]
      rfl
theorem br_text {n : Nat} {s : ByteArray} {p d q e' : Nat} {t l : Js.B} {w w' : World} (hl : L s p = 34 :: l) (O : Out s 0 (SR s p) (· = t) q e') : BR n s p d (.iface 66 (.string (bs t))) q d e' w w' := by
  have hv : Js.va (sub n) (L s p) = match Js.txx l [] with | none => .error 3 | some (t, r) => .ok (Js.mkText t, r) := by
    rw [hl]
    simp only [Js.va]
    rw [if_neg (by decide), if_neg (by decide), if_neg (by decide), if_pos trivial]
    rfl
  have hs : SR s p = Js.txx l [] := by unfold SR; rw [hl]; rfl
  obtain ⟨_, O⟩ := O
  rw [hs] at O
  rcases O with ⟨_, rfl, u, rfl, h⟩ | ⟨h1, h2, h3⟩
  · rw [h] at hv
    exact .inl ⟨rfl, rfl, _, _, hv, rfl, Tv.sc (.inr (.inr (.inr ⟨u, (Js.txx_q l [] u _ h rfl).2, rfl, rfl⟩)))⟩
  · have h3' : Js.txx l [] = none := by
      rcases h3 with h3 | h3
      · exact absurd rfl h3
      · exact h3
    rw [h3'] at hv
    exact .inr ⟨h1, by rw [hv, h2]; rfl⟩
theorem br_num {n : Nat} {s : ByteArray} {p d q e' : Nat} {k : Int} {w w' : World} (hv : Js.va (sub n) (L s p) = match Js.nu (L s p) with | none => .error 3 | some (n, r) => .ok (Js.mkNum n, r)) (O : Out s 0 (Js.nu (L s p)) (· = k) q e') : BR n s p d (.iface 64 (.int .i64 k)) q d e' w w' := by
  obtain ⟨_, O⟩ := O
  rcases O with ⟨_, rfl, u, rfl, h⟩ | ⟨h1, h2, h3⟩
  · have hb := (Js.nu_bd _ _ _ h).2
    rw [h] at hv
    exact .inl ⟨rfl, rfl, _, _, hv, rfl, Tv.sc (.inr (.inr (.inl ⟨u, hb, rfl, rfl⟩)))⟩
  · have h3' : Js.nu (L s p) = none := by
      rcases h3 with h3 | h3
      · exact absurd rfl h3
      · exact h3
    rw [h3'] at hv
    exact .inr ⟨h1, by rw [hv, h2]; rfl⟩
theorem va_other (n : Nat) (s : ByteArray) (p : Nat) (h : ∀ c t, L s p = c :: t → c ≠ 110 ∧ c ≠ 102 ∧ c ≠ 116 ∧ c ≠ 34 ∧ c ≠ 91 ∧ c ≠ 123) : Js.va (sub n) (L s p) = match Js.nu (L s p) with | none => .error 3 | some (n, r) => .ok (Js.mkNum n, r) := by
  cases hl : L s p with
  | nil => rfl
  | cons c t =>
    obtain ⟨h1, h2, h3, h4, h5, h6⟩ := h c t hl
    simp only [Js.va]
    rw [if_neg h1, if_neg h2, if_neg h3, if_neg h4, if_neg h5, if_neg h6]
    rfl
theorem br_list {n : Nat} {s : ByteArray} {p d q d' e' : Nat} {t : Js.B} {sl : Value} {w w' : World} (hl : L s p = 91 :: t) (O : LR n s t d sl q d' e' w w') : BR (n + 1) s p d (.iface 69 sl) q d' e' w w' := by
  have hv : Js.va (sub (n + 1)) (L s p) = (Js.liT (Js.pv n) t).map fun x => (Js.mkList x.1, x.2) := by rw [hl]; exact Js.va_91 (Js.pv n) t
  rcases O with ⟨rfl, rfl, l, rest, h1, h2, h3⟩ | ⟨h1, h2⟩
  · rw [h1] at hv
    exact .inl ⟨rfl, rfl, _, _, hv, h2, h3⟩
  · rw [h2] at hv
    exact .inr ⟨h1, hv⟩
theorem br_obj {n : Nat} {s : ByteArray} {p d q d' e' : Nat} {t : Js.B} {sl : Value} {w w' : World} (hl : L s p = 123 :: t) (O : OR n s t d sl q d' e' w w') : BR (n + 1) s p d (.iface 55 sl) q d' e' w w' := by
  have hv : Js.va (sub (n + 1)) (L s p) = (Js.obT (Js.pv n) t).map fun x => (Js.mkObj x.1, x.2) := by rw [hl]; exact Js.va_123 (Js.pv n) t
  rcases O with ⟨rfl, rfl, l, rest, h1, h2, h3⟩ | ⟨h1, h2⟩
  · rw [h1] at hv
    exact .inl ⟨rfl, rfl, _, _, hv, h2, h3⟩
  · rw [h2] at hv
    exact .inr ⟨h1, hv⟩

set_option maxHeartbeats 1600000 in
set_option maxRecDepth 100000 in
theorem bare_bad (r : Nat) (s : ByteArray) (p d e : Nat) (he : e ≠ 0) (w : World) (h : Rd r s p d e w) (hp : p ≤ s.size) (hs : s.size ≤ 1000) :
    Calls Tryz.prog 52 #[.pointer (some ⟨r, 0, none⟩)] w fun en w' => en = .returned (.iface 64 (.int .i64 0)) ∧ Rd r s p d e w' ∧ w.grownBy w' (some r) := by
  have K := next_any r s p d e w h hp hs
  rw [nx_bad s p e he] at K
  replace K := asd K
  have N := asd (fun w1 h1 => number_bad r s p d e he w1 h1 hp hs)
  rw [fl_bad e 3 he] at N
  clear h
  go_enter Tryz.func52, Tryz.ntmps52
  go_wp2_with (first
    | (go_at_call 66; refine K.out.mono ?_; rintro en w1 ⟨rfl, h1, g1⟩; have A1 := asd (And.intro h1 g1); clear h1 g1 K)
    | (go_at_call 71; refine (N.out _ A1.out.1).mono ?_; rintro en w2 ⟨rfl, h2, g2⟩; have A2 := asd (And.intro h2 (gtrans A1.out.2 g2)); clear h2 g2 N))
  go_ret
  exact ⟨rfl, A2.out.1, A2.out.2⟩

set_option maxHeartbeats 1600000 in
set_option maxRecDepth 100000 in
theorem value_bad (r : Nat) (s : ByteArray) (p d e : Nat) (he : e ≠ 0) (w : World) (h : Rd r s p d e w) (hp : p ≤ s.size) (hs : s.size ≤ 1000) :
    Calls Tryz.prog 30 #[.pointer (some ⟨r, 0, none⟩)] w fun en w' => en = .returned (.iface 64 (.int .i64 0)) ∧ ∃ q, q ≤ s.size ∧ Rd r s q d e w' ∧ w.grownBy w' (some r) := by
  have K := asd (blanks_any r s p d e w h hp hs)
  have HE := asd he
  clear h he
  have T1 : Aside True := trivial
  go_enter Tryz.func30, Tryz.ntmps30
  go_wp2_with (first
    | (clear T1; go_at_call 51; refine K.out.mono ?_; rintro en w1 ⟨rfl, q, hq, _, h1, g1⟩; have A1 := asd (And.intro h1 g1); clear h1 g1 K)
    | (go_at_call 52; refine (bare_bad r s q d e HE.out _ A1.out.1 hq hs).mono ?_; rintro en w2 ⟨rfl, h2, g2⟩; have A2 := asd (And.intro h2 (gtrans A1.out.2 g2)); clear h2 g2)
    | (go_at_call 51; refine (blanks_any r s q d e _ A2.out.1 hq hs).mono ?_; rintro en w3 ⟨rfl, q3, hq3, _, h3, g3⟩; have A3 := asd (And.intro h3 (gtrans A2.out.2 g3)); clear h3 g3))
  go_ret
  exact ⟨rfl, q3, hq3, A3.out.1, A3.out.2⟩

set_option maxHeartbeats 1600000 in
set_option maxRecDepth 100000 in
theorem list_deep (r : Nat) (s : ByteArray) (p : Nat) (w : World) (h : Rd r s p 8 0 w) (hp : p < s.size) (hs : s.size ≤ 1000) :
    Calls Tryz.prog 69 #[.pointer (some ⟨r, 0, none⟩)] w fun en w' => ∃ (sl : Value) (q : Nat), en = .returned sl ∧ sl.oneCell' = true ∧ q ≤ s.size ∧ Rd r s q 8 10 w' ∧ w.grownBy w' (some r) := by
  have O : Aside (Calls Tryz.prog 89 #[.pointer (some ⟨r, 0, none⟩)] w fun en w' => en = .returned (.tuple #[]) ∧ w.grownBy w' (some r) ∧ Rd r s p 8 10 w') := (open_any r s p 8 w h hp hs (by omega)).mono (by
    rintro en w1 ⟨rfl, g1, (⟨_, h1⟩ | ⟨h8, _⟩)⟩
    · exact ⟨rfl, g1, h1⟩
    · exact absurd h8 (by omega))
  have hrw := h.lt
  clear h
  have T1 : Aside True := trivial
  have T2 : Aside True := trivial
  go_enter Tryz.func69, Tryz.ntmps69
  go_wp2_with (first
    | (clear T1; go_at_call 89; refine O.out.mono ?_; rintro en w1 ⟨rfl, g1, h1⟩
       have A1 := asd (And.intro h1 g1)
       have S1 := shut_any r s p 7 10 93 w1 h1 (by omega) hs (by omega)
       rw [show ht s p 10 93 = false from ht_bad s p 10 93 (by decide) (by decide)] at S1
       replace S1 := asd S1
       clear h1 g1 O)
    | (clear T2; go_at_call 90; refine S1.out.mono ?_; rintro en w2 ⟨rfl, h2, g2⟩; have A2 : Aside (Rd r s p 8 10 w2 ∧ w.grownBy w2 (some r)) := And.intro h2 (gtrans A1.out.2 g2); clear h2 g2 S1))
  go_loopg [3, 4] 1 (fun gh s3 s4 wr => ∃ (b : Bool) (q : Nat), (if b then 1 else 0) ≤ gh ∧ s4 = .bool b ∧ (b = true → s3 = .slice none 0 0) ∧ q ≤ s.size ∧ Aside (Rd r s q 8 10 wr ∧ w.grownBy wr (some r) ∧ s3.oneCell' = true))
  case atStart => exact ⟨true, p, Nat.le_refl _, rfl, fun _ => rfl, by omega, A2.out.1, A2.out.2, rfl⟩
  case round =>
    obtain ⟨b, q, hgh, rfl, hb, hq, I⟩ := hrel
    cases b with
    | false =>
      go_wp2_with fail
      go_ret
      exact ⟨_, q, rfl, I.out.2.2, hq, I.out.1, I.out.2.1⟩
    | true =>
      obtain rfl := hb rfl
      clear hb
      have V := asd (value_bad r s q 8 10 (by decide) wr I.out.1 hq hs)
      have G3 := asd I.out.2.1
      have hBw : w.heap.size ≤ wr.heap.size := I.out.2.1.size
      clear I
      have T3 : Aside True := trivial
      have T4 : Aside True := trivial
      go_wp2_with (first
        | (clear T3; go_at_call 30; refine V.out.mono ?_; rintro en w3 ⟨rfl, q2, hq2, h3, g3⟩
           obtain ⟨v', w4, e1, o4, b4, _⟩ := push_run w.heap.size w3 (.slice none 0 0) (.iface 64 (.int .i64 0)) [] ⟨rfl, .inl ⟨rfl, rfl⟩⟩ rfl (by simp) (by have := g3.size; omega) 69
           have HRUN := asd e1
           have A4 := asd (And.intro (h3.below hrw b4) (And.intro (gbel (gtrans G3.out g3) b4) (own_one o4)))
           have MO := more_any r s q2 7 10 93 (by decide) w4 A4.out.1 hq2 hs (by omega)
           rw [show ht s q2 10 44 = false from ht_bad s q2 10 44 (by decide) (by decide), show ht s q2 10 (93 : UInt8).toNat = false from ht_bad s q2 10 93 (by decide) (by decide)] at MO
           replace MO := asd MO
           clear h3 g3 V e1 b4 o4)
        | (at_builtin; refine Lib.wpList_append_run _ rfl _ _ _ _ rfl _ _ rfl rfl _ _ HRUN.out ?_)
        | (clear T4; go_at_call 91; refine MO.out.mono ?_; rintro en w5 ⟨rfl, h5, g5⟩; have A5 : Aside (Rd r s q2 8 10 w5 ∧ w.grownBy w5 (some r)) := And.intro h5 (gtrans A4.out.2.1 g5); clear h5 g5 MO))
      go_roundg 0
      case measure =>
        have : (if true = true then 1 else 0) ≤ gk := hgh
        simp only [if_true] at this
        omega
      case rel => exact ⟨false, q2, Nat.le_refl _, rfl, (fun h => by cases h), hq2, A5.out.1, A5.out.2, A4.out.2.2⟩

set_option maxHeartbeats 1600000 in
set_option maxRecDepth 100000 in
theorem object_deep (r : Nat) (s : ByteArray) (p : Nat) (w : World) (h : Rd r s p 8 0 w) (hp : p < s.size) (hs : s.size ≤ 1000) :
    Calls Tryz.prog 70 #[.pointer (some ⟨r, 0, none⟩)] w fun en w' => ∃ (sl : Value) (q : Nat), en = .returned sl ∧ sl.oneCell' = true ∧ q ≤ s.size ∧ Rd r s q 8 10 w' ∧ w.grownBy w' (some r) := by
  have O : Aside (Calls Tryz.prog 89 #[.pointer (some ⟨r, 0, none⟩)] w fun en w' => en = .returned (.tuple #[]) ∧ w.grownBy w' (some r) ∧ Rd r s p 8 10 w') := (open_any r s p 8 w h hp hs (by omega)).mono (by
    rintro en w1 ⟨rfl, g1, (⟨_, h1⟩ | ⟨h8, _⟩)⟩
    · exact ⟨rfl, g1, h1⟩
    · exact absurd h8 (by omega))
  have hrw := h.lt
  clear h
  have T1 : Aside True := trivial
  have T2 : Aside True := trivial
  go_enter Tryz.func70, Tryz.ntmps70
  go_wp2_with (first
    | (clear T1; go_at_call 89; refine O.out.mono ?_; rintro en w1 ⟨rfl, g1, h1⟩
       have A1 := asd (And.intro h1 g1)
       have S1 := shut_any r s p 7 10 125 w1 h1 (by omega) hs (by omega)
       rw [show ht s p 10 125 = false from ht_bad s p 10 125 (by decide) (by decide)] at S1
       replace S1 := asd S1
       clear h1 g1 O)
    | (clear T2; go_at_call 90; refine S1.out.mono ?_; rintro en w2 ⟨rfl, h2, g2⟩; have A2 : Aside (Rd r s p 8 10 w2 ∧ w.grownBy w2 (some r)) := And.intro h2 (gtrans A1.out.2 g2); clear h2 g2 S1))
  go_loopg [3, 4, 5, 6, 7] 1 (fun gh s3 s4 s5 s6 s7 wr => ∃ (b : Bool) (q : Nat), (if b then 1 else 0) ≤ gh ∧ s4 = .bool b ∧ (b = true → s3 = .slice none 0 0) ∧ q ≤ s.size ∧ Aside (Rd r s q 8 10 wr ∧ w.grownBy wr (some r) ∧ s3.oneCell' = true))
  case atStart => exact ⟨true, p, Nat.le_refl _, rfl, fun _ => rfl, by omega, A2.out.1, A2.out.2, rfl⟩
  case round =>
    obtain ⟨b, q, hgh, rfl, hb, hq, I⟩ := hrel
    cases b with
    | false =>
      go_wp2_with fail
      go_ret
      exact ⟨_, q, rfl, I.out.2.2, hq, I.out.1, I.out.2.1⟩
    | true =>
      obtain rfl := hb rfl
      clear hb
      have G3 := asd I.out.2.1
      have S0 := asd I.out.1
      have hBw : w.heap.size ≤ wr.heap.size := I.out.2.1.size
      clear I
      have T3 : Aside True := trivial
      have T4 : Aside True := trivial
      have T5 : Aside True := trivial
      have T7 : Aside True := trivial
      have T8 : Aside True := trivial
      have T9 : Aside True := trivial
      have T10 : Aside True := trivial
      have T11 : Aside True := trivial
      go_wp2_with (first
        | (clear T3; go_at_call 51; refine (blanks_any r s q 8 10 wr S0.out hq hs).mono ?_; rintro en wa ⟨rfl, q1, hq1, _, h1, g1⟩
           have A1 := asd (And.intro h1 (gtrans G3.out g1))
           clear h1 g1)
        | (clear T4; go_at_call 68; refine (signs_any r s q1 8 10 wa A1.out.1 hq1 hs).mono ?_; rintro en wb ⟨nm, q2, e2, rfl, o2, h2, g2⟩
           obtain ⟨rfl, hq2⟩ : e2 = 10 ∧ q2 ≤ s.size := ⟨by rcases o2.2 with ⟨h, _⟩ | ⟨_, h, _⟩ <;> first | omega | exact h, o2.1⟩
           have A2 := asd (And.intro h2 (gtrans A1.out.2 g2))
           clear h2 g2 o2)
        | (clear T5; go_at_call 26; refine (find_any w.heap.size (.slice none 0 0) [] nm wb ⟨rfl, .inl ⟨rfl, rfl⟩⟩ trivial (by simp)).mono ?_; rintro en wc ⟨rfl, bc⟩
           have A3 := asd (And.intro (A2.out.1.below (by have := A2.out.2.size; omega) bc) (gtrans A2.out.2 (gbelow bc)))
           clear bc)
        | (clear T7; go_at_call 51; refine (blanks_any r s q2 8 10 wc A3.out.1 hq2 hs).mono ?_; rintro en we ⟨rfl, q3, hq3, _, h5, g5⟩
           have A5 := asd (And.intro h5 (gtrans A3.out.2 g5))
           clear h5 g5)
        | (clear T8; go_at_call 85; refine (must_ex r s q3 8 10 58 (by decide) we A5.out.1 hq3 hs).mono ?_; rintro en wf ⟨rfl, q4, e4, m4, h6, g6⟩
           obtain rfl : e4 = 10 := by
            have := m4.flt
            rw [ht_bad s q3 10 58 (by decide) (by decide)] at this
            exact this
           have hq4 := m4.le
           have A6 := asd (And.intro h6 (gtrans A5.out.2 g6))
           clear h6 g6 m4)
        | (clear T9; go_at_call 30; refine (value_bad r s q4 8 10 (by decide) wf A6.out.1 hq4 hs).mono ?_; rintro en wg ⟨rfl, q5, hq5, h7, g7⟩
           have A7 := asd (And.intro h7 (gtrans A6.out.2 g7))
           have hwg := A7.out.2.size
           clear h7 g7)
        | (clear T10; go_at_call 92; refine (insert_any w.heap.size wg.heap.size 0 (.slice none 0 0) [] ⟨nm, .iface 64 (.int .i64 0)⟩ (wg.alloc (.cells #[.string (bs nm), .iface 64 (.int .i64 0)] 58)) ⟨rfl, .inl ⟨rfl, rfl⟩⟩ (Nat.le_refl _) (by simp) (by simp; omega) (heap_alloc_new wg _) (by simp [Value.ownBlock]) rfl (fun m hm => by simp at hm)).mono ?_; rintro en wh ⟨v', rfl, o8, _, kb8⟩
           have hb8 : Below wg.heap.size wg wh := by
            have hz : (wg.alloc (.cells #[.string (bs nm), .iface 64 (.int .i64 0)] 58)).heap.size = wg.heap.size + 1 := by simp
            have := kb8.size
            exact ⟨kb8.os, kb8.tape, kb8.output, by omega, fun k hk => (kb8.block k (by omega) (by simp [Value.ownBlock])).trans (alloc_old wg _ k hk)⟩
           have A8 := asd (And.intro (A7.out.1.below (by omega) hb8) (And.intro (gtrans A7.out.2 (gbelow hb8)) (own_one o8)))
           have MO := more_any r s q5 7 10 125 (by decide) wh A8.out.1 hq5 hs (by omega)
           rw [show ht s q5 10 44 = false from ht_bad s q5 10 44 (by decide) (by decide), show ht s q5 10 (125 : UInt8).toNat = false from ht_bad s q5 10 125 (by decide) (by decide)] at MO
           replace MO := asd MO
           clear o8 kb8 hb8)
        | (clear T11; go_at_call 91; refine MO.out.mono ?_; rintro en wi ⟨rfl, h9, g9⟩
           have A9 : Aside (Rd r s q5 8 10 wi ∧ w.grownBy wi (some r)) := And.intro h9 (gtrans A8.out.2.1 g9)
           clear h9 g9 MO))
      go_roundg 0
      case measure =>
        have : (if true = true then 1 else 0) ≤ gk := hgh
        simp only [if_true] at this
        omega
      case rel => exact ⟨false, q5, Nat.le_refl _, rfl, (fun h => by cases h), hq5, A9.out.1, A9.out.2, A8.out.2.2⟩

set_option maxHeartbeats 3200000 in
set_option maxRecDepth 100000 in
theorem bare_any (n : Nat) (ih : ∀ m, n = m + 1 → VC m) (r : Nat) (s : ByteArray) (p d : Nat) (w : World) (h : Rd r s p d 0 w) (hp : p ≤ s.size) (hs : s.size ≤ 1000) (hd : d + n = 8) :
    Calls Tryz.prog 52 #[.pointer (some ⟨r, 0, none⟩)] w fun en w' => ∃ (ty : TypeId) (vv : Value) (q d' e' : Nat), en = .returned (.iface ty vv) ∧ q ≤ s.size ∧ d ≤ d' ∧ d' ≤ 8 ∧ Rd r s q d' e' w' ∧ w.grownBy w' (some r) ∧ BR n s p d (.iface ty vv) q d' e' w w' := by
  have K := next_any r s p d 0 w h hp hs
  have hrw := h.lt
  clear h
  have T1 : Aside True := trivial
  have hcase : (∃ c : UInt8, ∃ t, L s p = c :: t ∧ nx s p 0 = c.toNat ∧ p < s.size ∧ L s (p + 1) = t ∧ (c = 110 ∨ c = 102 ∨ c = 116 ∨ c = 34 ∨ c = 91 ∨ c = 123)) ∨
      ((∀ c t, L s p = c :: t → c ≠ 110 ∧ c ≠ 102 ∧ c ≠ 116 ∧ c ≠ 34 ∧ c ≠ 91 ∧ c ≠ 123) ∧ nx s p 0 ≠ 110 ∧ nx s p 0 ≠ 102 ∧ nx s p 0 ≠ 116 ∧ nx s p 0 ≠ 34 ∧ nx s p 0 ≠ 91 ∧ nx s p 0 ≠ 123) := by
    by_cases hq : p = s.size
    · refine .inr ⟨fun c t e => ?_, ?_⟩
      · rw [L_end s p (by omega)] at e; cases e
      · rw [nx_end s p hq]; decide
    · have hlt : p < s.size := by omega
      by_cases hc : s.get! p = 110 ∨ s.get! p = 102 ∨ s.get! p = 116 ∨ s.get! p = 34 ∨ s.get! p = 91 ∨ s.get! p = 123
      · exact .inl ⟨s.get! p, _, L_cons s p hlt, nx_at s p hlt, hlt, rfl, hc⟩
      · have hz : ∀ z : UInt8, s.get! p ≠ z → nx s p 0 ≠ z.toNat := fun z hne e => by
          rw [nx_at s p hlt] at e
          exact hne (UInt8.toNat_inj.1 e)
        simp only [not_or] at hc
        refine .inr ⟨fun c t e => ?_, hz 110 hc.1, hz 102 hc.2.1, hz 116 hc.2.2.1, hz 34 hc.2.2.2.1, hz 91 hc.2.2.2.2.1, hz 123 hc.2.2.2.2.2⟩
        rw [L_cons s p hlt] at e
        injection e with e _
        rw [← e]
        exact hc
  rcases hcase with ⟨c, t, hl, hx, hlt, hl1, hc⟩ | ⟨hno, hx1, hx2, hx3, hx4, hx5, hx6⟩
  · rw [hx] at K
    clear hx
    rcases hc with rfl | rfl | rfl | rfl | rfl | rfl
    · replace K := asd K
      have HL := asd hl
      have W := asd (fun w1 h1 => word_any r s nullB p d 0 w1 h1 hp hs (by decide) (by decide))
      clear hl hl1
      go_enter Tryz.func52, Tryz.ntmps52
      go_wp2_with (first
        | (clear T1; go_at_call 66; refine K.out.mono ?_; rintro en w1 ⟨rfl, h1, g1⟩; have A1 := asd (And.intro h1 g1); clear h1 g1 K)
        | (go_at_call 67; refine (W.out _ A1.out.1).mono ?_; rintro en w2 ⟨rfl, q, e1, o2, h2, g2⟩; have A2 := asd (And.intro h2 (And.intro (gtrans A1.out.2 g2) o2)); clear h2 g2 o2 W))
      go_ret
      exact ⟨_, _, q, d, e1, rfl, A2.out.2.2.1, Nat.le_refl _, by omega, A2.out.1, A2.out.2.1, br_word A2.out.2.2 (by rw [HL.out]; rfl) (.inl ⟨rfl, rfl⟩)⟩
    · replace K := asd K
      have HL := asd hl
      have W := asd (fun w1 h1 => word_any r s falseB p d 0 w1 h1 hp hs (by decide) (by decide))
      clear hl hl1
      go_enter Tryz.func52, Tryz.ntmps52
      go_wp2_with (first
        | (clear T1; go_at_call 66; refine K.out.mono ?_; rintro en w1 ⟨rfl, h1, g1⟩; have A1 := asd (And.intro h1 g1); clear h1 g1 K)
        | (go_at_call 67; refine (W.out _ A1.out.1).mono ?_; rintro en w2 ⟨rfl, q, e1, o2, h2, g2⟩; have A2 := asd (And.intro h2 (And.intro (gtrans A1.out.2 g2) o2)); clear h2 g2 o2 W))
      go_ret
      exact ⟨_, _, q, d, e1, rfl, A2.out.2.2.1, Nat.le_refl _, by omega, A2.out.1, A2.out.2.1, br_word A2.out.2.2 (by rw [HL.out]; rfl) (.inr (.inl ⟨false, rfl, rfl⟩))⟩
    · replace K := asd K
      have HL := asd hl
      have W := asd (fun w1 h1 => word_any r s trueB p d 0 w1 h1 hp hs (by decide) (by decide))
      clear hl hl1
      go_enter Tryz.func52, Tryz.ntmps52
      go_wp2_with (first
        | (clear T1; go_at_call 66; refine K.out.mono ?_; rintro en w1 ⟨rfl, h1, g1⟩; have A1 := asd (And.intro h1 g1); clear h1 g1 K)
        | (go_at_call 67; refine (W.out _ A1.out.1).mono ?_; rintro en w2 ⟨rfl, q, e1, o2, h2, g2⟩; have A2 := asd (And.intro h2 (And.intro (gtrans A1.out.2 g2) o2)); clear h2 g2 o2 W))
      go_ret
      exact ⟨_, _, q, d, e1, rfl, A2.out.2.2.1, Nat.le_refl _, by omega, A2.out.1, A2.out.2.1, br_word A2.out.2.2 (by rw [HL.out]; rfl) (.inr (.inl ⟨true, rfl, rfl⟩))⟩
    · replace K := asd K
      have HL := asd hl
      clear hl hl1
      go_enter Tryz.func52, Tryz.ntmps52
      go_wp2_with (first
        | (clear T1; go_at_call 66; refine K.out.mono ?_; rintro en w1 ⟨rfl, h1, g1⟩; have A1 := asd (And.intro h1 g1); clear h1 g1 K)
        | (go_at_call 68; refine (signs_any r s p d 0 _ A1.out.1 hp hs).mono ?_; rintro en w2 ⟨tt, q, e1, rfl, o2, h2, g2⟩; have A2 := asd (And.intro h2 (And.intro (gtrans A1.out.2 g2) o2)); clear h2 g2 o2))
      go_ret
      exact ⟨_, _, q, d, e1, rfl, A2.out.2.2.1, Nat.le_refl _, by omega, A2.out.1, A2.out.2.1, br_text HL.out A2.out.2.2⟩
    · replace K := asd K
      have HL := asd hl
      cases n with
      | zero =>
        obtain rfl : d = 8 := by omega
        clear hl hl1
        go_enter Tryz.func52, Tryz.ntmps52
        go_wp2_with (first
          | (clear T1; go_at_call 66; refine K.out.mono ?_; rintro en w1 ⟨rfl, h1, g1⟩; have A1 := asd (And.intro h1 g1); clear h1 g1 K)
          | (go_at_call 69; refine (list_deep r s p _ A1.out.1 hlt hs).mono ?_; rintro en w2 ⟨sl, q, rfl, o2, hq2, h2, g2⟩; have A2 := asd (And.intro h2 (And.intro (gtrans A1.out.2 g2) hq2)); clear h2 g2))
        go_ret
        exact ⟨_, _, q, 8, 10, rfl, A2.out.2.2, Nat.le_refl _, Nat.le_refl _, A2.out.1, A2.out.2.1, .inr ⟨by decide, by rw [HL.out]; rfl⟩⟩
      | succ m =>
        have HM := asd (ih m rfl)
        have HL1 := asd hl1
        have HD := asd hd
        clear ih hl hl1
        go_enter Tryz.func52, Tryz.ntmps52
        go_wp2_with (first
          | (clear T1; go_at_call 66; refine K.out.mono ?_; rintro en w1 ⟨rfl, h1, g1⟩; have A1 := asd (And.intro h1 g1); clear h1 g1 K)
          | (go_at_call 69; refine (list_any m HM.out r s p d t _ A1.out.1 hlt HL1.out hs HD.out).mono ?_; rintro en w2 ⟨sl, q, d2, e2, rfl, o2, hq2, hd1, hd2, h2, g2, lr⟩; have A2 := asd (And.intro h2 (And.intro (gtrans A1.out.2 g2) lr)); clear h2 g2 lr))
        go_ret
        have hz := A1.out.2.size
        refine ⟨_, _, q, d2, e2, rfl, hq2, hd1, hd2, A2.out.1, A2.out.2.1, ?_⟩
        refine br_list HL.out ?_
        rcases A2.out.2.2 with ⟨a, b, l, rest, c1, c2, c3⟩ | ⟨a, b⟩
        · exact .inl ⟨a, b, l, rest, c1, c2, c3.frame (fun k hk => ⟨by have := hk.1; omega, hk.2⟩) (fun _ _ => rfl)⟩
        · exact .inr ⟨a, b⟩
    · replace K := asd K
      have HL := asd hl
      cases n with
      | zero =>
        obtain rfl : d = 8 := by omega
        clear hl hl1
        go_enter Tryz.func52, Tryz.ntmps52
        go_wp2_with (first
          | (clear T1; go_at_call 66; refine K.out.mono ?_; rintro en w1 ⟨rfl, h1, g1⟩; have A1 := asd (And.intro h1 g1); clear h1 g1 K)
          | (go_at_call 70; refine (object_deep r s p _ A1.out.1 hlt hs).mono ?_; rintro en w2 ⟨sl, q, rfl, o2, hq2, h2, g2⟩; have A2 := asd (And.intro h2 (And.intro (gtrans A1.out.2 g2) hq2)); clear h2 g2))
        go_ret
        exact ⟨_, _, q, 8, 10, rfl, A2.out.2.2, Nat.le_refl _, Nat.le_refl _, A2.out.1, A2.out.2.1, .inr ⟨by decide, by rw [HL.out]; rfl⟩⟩
      | succ m =>
        have HM := asd (ih m rfl)
        have HL1 := asd hl1
        have HD := asd hd
        clear ih hl hl1
        go_enter Tryz.func52, Tryz.ntmps52
        go_wp2_with (first
          | (clear T1; go_at_call 66; refine K.out.mono ?_; rintro en w1 ⟨rfl, h1, g1⟩; have A1 := asd (And.intro h1 g1); clear h1 g1 K)
          | (go_at_call 70; refine (object_any m HM.out r s p d t _ A1.out.1 hlt HL1.out hs HD.out).mono ?_; rintro en w2 ⟨sl, q, d2, e2, rfl, o2, hq2, hd1, hd2, h2, g2, lr⟩; have A2 := asd (And.intro h2 (And.intro (gtrans A1.out.2 g2) lr)); clear h2 g2 lr))
        go_ret
        have hz := A1.out.2.size
        refine ⟨_, _, q, d2, e2, rfl, hq2, hd1, hd2, A2.out.1, A2.out.2.1, ?_⟩
        refine br_obj HL.out ?_
        rcases A2.out.2.2 with ⟨a, b, l, rest, c1, c2, c3⟩ | ⟨a, b⟩
        · exact .inl ⟨a, b, l, rest, c1, c2, c3.frame (fun k hk => ⟨by have := hk.1; omega, hk.2⟩) (fun _ _ => rfl)⟩
        · exact .inr ⟨a, b⟩
  · have HV := asd (va_other n s p hno)
    have z : ∀ z : Nat, nx s p 0 ≠ z → ((nx s p 0 : Int) == (z : Int)) = false := fun z h => by rw [beq_eq_false_iff_ne]; omega
    have z1 := z 110 hx1
    have z2 := z 102 hx2
    have z3 := z 116 hx3
    have z4 := z 34 hx4
    have z5 := z 91 hx5
    have z6 := z 123 hx6
    have y : ∀ z : Nat, nx s p 0 ≠ z → ¬ ((nx s p 0 : Int) = (z : Int)) := fun z h => by omega
    have y1 := y 110 hx1
    have y2 := y 102 hx2
    have y3 := y 116 hx3
    have y4 := y 34 hx4
    have y5 := y 91 hx5
    have y6 := y 123 hx6
    clear z y hx1 hx2 hx3 hx4 hx5 hx6 hno
    generalize nx s p 0 = x at *
    replace K := asd K
    go_enter Tryz.func52, Tryz.ntmps52
    go_wp2_with (first
      | (clear T1; go_at_call 66; refine K.out.mono ?_; rintro en w1 ⟨rfl, h1, g1⟩; have A1 := asd (And.intro h1 g1); clear h1 g1 K)
      | (go_at_call 71; refine (number_ok r s p d _ A1.out.1 hp hs).mono ?_; rintro en w2 ⟨k, q, e1, rfl, o2, h2, g2⟩; have A2 := asd (And.intro h2 (And.intro (gtrans A1.out.2 g2) o2)); clear h2 g2 o2))
    go_ret
    exact ⟨_, _, q, d, e1, rfl, A2.out.2.2.1, Nat.le_refl _, by omega, A2.out.1, A2.out.2.1, br_num HV.out A2.out.2.2⟩

set_option maxHeartbeats 1600000 in
set_option maxRecDepth 100000 in
theorem value_of (n : Nat) (ih : ∀ m, n = m + 1 → VC m) : VC n := by
  intro r s p d e w h hp hs hd
  by_cases he : e = 0
  · subst he
    have K := asd (blanks_any r s p d 0 w h hp hs)
    have HD := asd hd
    have HRL := asd h.lt
    have BA := asd (bare_any n ih)
    clear h ih
    have T1 : Aside True := trivial
    go_enter Tryz.func30, Tryz.ntmps30
    go_wp2_with (first
      | (clear T1; go_at_call 51; refine K.out.mono ?_; rintro en w1 ⟨rfl, q, hq, hl1, h1, g1⟩; have A1 := asd (And.intro h1 (And.intro g1 (hl1 rfl))); clear h1 g1 hl1 K)
      | (go_at_call 52; refine (BA.out r s q d _ A1.out.1 hq hs HD.out).mono ?_; rintro en w2 ⟨ty, vv, q2, d2, e2, rfl, hq2, hd1, hd2, h2, g2, b2⟩; have A2 := asd (And.intro h2 (And.intro (gtrans A1.out.2.1 g2) b2)); clear h2 g2 b2)
      | (go_at_call 51; refine (blanks_any r s q2 d2 e2 _ A2.out.1 hq2 hs).mono ?_; rintro en w3 ⟨rfl, q3, hq3, hl3, h3, g3⟩; have A3 := asd (And.intro h3 (And.intro g3 hl3)); clear h3 g3 hl3))
    go_ret
    have hz := A1.out.2.1.size
    have hz3 := A3.out.2.1.size
    refine ⟨ty, vv, q3, d2, e2, rfl, hq3, hd1, hd2, A3.out.1, gtrans A2.out.2.1 A3.out.2.1, fun h => absurd rfl h, fun _ => ?_⟩
    unfold VR
    rw [pv_sub, ← A1.out.2.2]
    rcases A2.out.2.2 with ⟨rfl, b, x, rest, c1, c2, c3⟩ | ⟨a, b⟩
    · refine .inl ⟨rfl, b, x, rest, c1, by rw [A3.out.2.2 rfl, c2], c3.frame (fun k hk => ⟨by have := hk.1; omega, by have := hk.2; omega⟩) (fun k hk => A3.out.2.1.block k hk.2 (fun e => ?_))⟩
      injection e with e
      have := hk.1
      have := HRL.out
      omega
    · exact .inr ⟨a, b⟩
  · refine (value_bad r s p d e he w h hp hs).mono ?_
    rintro en w1 ⟨rfl, q, hq, h1, g1⟩
    exact ⟨_, _, q, d, e, rfl, hq, Nat.le_refl _, by omega, h1, g1, fun _ => ⟨rfl, rfl⟩, fun h => absurd h he⟩
theorem value_any : ∀ n, VC n
  | 0 => value_of 0 (fun m h => by omega)
  | n + 1 => value_of (n + 1) (fun m h => by obtain rfl : n = m := by omega
                                             exact value_any n)
end Go.Proofs.YtpeioecpilmpiaaGreatDoor
