/-
  YtpeioecpilmpiaaGreatDoor: the texts J4, J5, one behind the other.
-/
import Derived.Test.YtpeioecpilmpiaaGreatDoorMF6
import Derived.WalkKit
import Derived.WalkSpells
import Derived.WalkLawsBesides
import Derived.Deep.LoopGhost
import Derived.Laws.Externs
import Derived.Below
import Derived.BigQuiet
import Derived.Deep.RegionWith
import Derived.OwnWalk
import Derived.Maps.AppendAt
/-
  The reader of the program: the signs of a string.
-/
namespace Go.Proofs.YtpeioecpilmpiaaGreatDoor
open Go.RowKit
theorem gbel {a b c : World} {r : Option Nat} (h : a.grownBy b r) (k : Below a.heap.size b c) : a.grownBy c r :=
  ⟨k.os.trans h.os, k.tape.trans h.tape, k.output.trans h.output, Nat.le_trans h.size k.size, fun i hi hne => (k.block i hi).trans (h.block i hi hne)⟩
theorem Bd.kept {B b r : Nat} {l : List UInt8} {w w' : World} (h : Bd B b l w) (hr : r < B) (hg : w.grownBy w' (some r)) : Bd B b l w' := by
  have key : ∀ p, Lib.BuilderAtF 94 5 B b p (Lib.byteCells l) w → Lib.BuilderAtF 94 5 B b p (Lib.byteCells l) w' := by
    rintro p ⟨hB, v, hb, hown, hne⟩
    have hlt : b < w.heap.size := (Array.getElem?_eq_some_iff.1 hb).1
    refine ⟨hB, v, (hg.block b hlt (fun e => by injection e; omega)).trans hb, hown.kept (row := some r) hg (Or.inr ?_), hne⟩
    rcases hown.2 with ⟨rfl, _⟩ | ⟨g, cap, cur, fz, rfl, hBg, _⟩
    · simp [Value.ownBlock]
    · intro e
      simp only [Value.ownBlock, Option.some.injEq] at e
      omega
  exact h.elim (fun x => .inl (key _ x)) (fun x => .inr (key _ x))

/-- In the midst of a string. -/
def SI (s : ByteArray) (p e q e1 : Nat) (acc : Js.B) : Prop :=
  q ≤ s.size ∧ ((e = 0 ∧ e1 = 0 ∧ acc.length ≤ 1000 * q ∧ (match L s p with | 34 :: l => Js.txx l [] | _ => none) = Js.txx (L s q) acc) ∨
    (e1 ≠ 0 ∧ e1 = fl e 3 ∧ (e ≠ 0 ∨ (match L s p with | 34 :: l => Js.txx l [] | _ => none) = none)))
def SR (s : ByteArray) (p : Nat) : Option (Js.B × Js.B) := match L s p with | 34 :: l => Js.txx l [] | _ => none

theorem SI.start {s : ByteArray} {p e q1 e1 : Nat} (hp : p ≤ s.size) (m : Mu s p e 34 q1 e1) : SI s p e q1 e1 [] := by
  refine ⟨m.le, ?_⟩
  by_cases he : e = 0
  · subst he
    cases c : ht s p 0 34 with
    | true =>
      have m1 := m.pos
      have m2 := m.flt
      rw [c] at m1 m2
      simp only [if_true] at m1 m2
      obtain ⟨h1, h2⟩ := ht_true s p 34 hp (by decide) c
      rw [h2, m1, m2]
      exact .inl ⟨rfl, rfl, by simp, rfl⟩
    | false =>
      have m2 := m.flt
      rw [c] at m2
      have := ht_false s p 34 c
      refine .inr ⟨by rw [m2]; decide, by rw [m2]; rfl, .inr ?_⟩
      split
      · rename_i l hl
        exact absurd hl (this l)
      · rfl
  · have m2 := m.flt
    rw [show (34 : Nat) = (34 : UInt8).toNat by rfl, ht_bad s p e 34 he (by decide)] at m2
    simp only [Bool.false_eq_true, if_false] at m2
    rw [m2]
    exact .inr ⟨fl_ne _ _ (by decide), rfl, .inl he⟩
theorem SI.esc {s : ByteArray} {p e q n q2 e2 : Nat} {acc : Js.B} (h : SI s p e q 0 acc) (hm : ht s q 0 92 = true) (O : Out s 0 (Js.esc (L s (q + 1))) (· = n) q2 e2) :
    SI s p e q2 e2 (acc ++ Lib.encodeRune (n : Int)) ∧ (e2 = 0 → q < q2) := by
  obtain ⟨hq, h⟩ := h
  rcases h with ⟨h1, _, h3, h4⟩ | ⟨h1, _⟩
  · obtain ⟨h5, h6⟩ := ht_true s q 92 hq (by decide) hm
    rw [h6, Js.txx_esc] at h4
    obtain ⟨k1, O⟩ := O
    rcases O with ⟨_, rfl, v, rfl, h7⟩ | ⟨a, b, c⟩
    · have hl := (Js.esc_ok _ _ _ h7).1
      rw [L_len, L_len] at hl
      have he := (Js.enc_len (v : Int)).2
      rw [h7] at h4
      refine ⟨⟨k1, .inl ⟨h1, rfl, ?_, h4⟩⟩, fun _ => by omega⟩
      rw [List.length_append]; omega
    · have c' : Js.esc (L s (q + 1)) = none := by
        rcases c with c | c
        · exact absurd rfl c
        · exact c
      rw [c'] at h4
      exact ⟨⟨k1, .inr ⟨a, by rw [b, h1], .inr h4⟩⟩, fun h => absurd h a⟩
  · exact absurd rfl h1
theorem SI.plain {s : ByteArray} {p e q q2 e2 : Nat} {acc t : Js.B} (h : SI s p e q 0 acc) (hq2 : q2 ≤ s.size) (ht : t.length ≤ 1000)
    (O : (e2 = 0 ∧ q < q2 ∧ ∀ out, Js.txx (L s q) out = Js.txx (L s q2) (out ++ t)) ∨ (e2 = 3 ∧ ∀ out, Js.txx (L s q) out = none)) : SI s p e q2 e2 (acc ++ t) ∧ (e2 = 0 → q < q2) := by
  obtain ⟨hq, h⟩ := h
  rcases h with ⟨h1, _, h3, h4⟩ | ⟨h1, _⟩
  · rcases O with ⟨rfl, h5, h6⟩ | ⟨rfl, h6⟩
    · rw [h6] at h4
      exact ⟨⟨hq2, .inl ⟨h1, rfl, by rw [List.length_append]; omega, h4⟩⟩, fun _ => h5⟩
    · rw [h6] at h4
      exact ⟨⟨hq2, .inr ⟨by decide, by rw [h1]; rfl, .inr h4⟩⟩, fun h => by omega⟩
  · exact absurd rfl h1
theorem SI.stop {s : ByteArray} {p e q : Nat} {acc : Js.B} (h : SI s p e q 0 acc) (hm : ht s q 0 34 = true) : Out s e (SR s p) (· = acc) (q + 1) 0 := by
  obtain ⟨hq, h⟩ := h
  obtain ⟨h5, h6⟩ := ht_true s q 34 hq (by decide) hm
  rcases h with ⟨h1, _, h3, h4⟩ | ⟨h1, _⟩
  · rw [h6, Js.txx_end] at h4
    exact ⟨h5, .inl ⟨h1, rfl, acc, rfl, h4⟩⟩
  · exact absurd rfl h1
theorem SI.bad {s : ByteArray} {p e q e1 : Nat} {acc : Js.B} (h : SI s p e q e1 acc) (he : e1 ≠ 0) (P : Js.B → Prop) : Out s e (SR s p) P q e1 := by
  obtain ⟨hq, h⟩ := h
  rcases h with ⟨_, h1, _⟩ | h
  · exact absurd h1 he
  · exact ⟨hq, .inr h⟩
theorem SI.len {s : ByteArray} {p e q : Nat} {acc : Js.B} (h : SI s p e q 0 acc) (hs : s.size ≤ 1000) : acc.length ≤ 1000000 := by
  obtain ⟨hq, h⟩ := h
  rcases h with ⟨_, _, h1, _⟩ | ⟨h, _⟩
  · omega
  · exact absurd rfl h

set_option maxHeartbeats 3200000 in
set_option maxRecDepth 100000 in
theorem signs_any (r : Nat) (s : ByteArray) (p d e : Nat) (w : World) (h : Rd r s p d e w) (hp : p ≤ s.size) (hs : s.size ≤ 1000) :
    Calls Tryz.prog 68 #[.pointer (some ⟨r, 0, none⟩)] w fun en w' => ∃ (t : Js.B) (q e' : Nat), en = .returned (.string ⟨t.toArray⟩) ∧ Out s e (SR s p) (· = t) q e' ∧ Rd r s q d e' w' ∧ w.grownBy w' (some r) := by
  have M := asd (fun w1 h1 => must_ex r s p d e 34 (by decide) w1 h1 hp hs)
  have hlt := h.lt
  have H := asd h
  clear h
  have T0 : Aside True := trivial
  go_enter Tryz.func68, Tryz.ntmps68
  go_wp2_with (clear T0; go_at_call 85; refine (M.out _ (H.out.below hlt ((Below.refl _ w).alloc (Nat.le_refl _) _))).mono ?_; rintro en w1 ⟨rfl, q1, e1, m1, h1, g1⟩
               have A := asd (And.intro (SI.start hp m1) (And.intro h1 (And.intro (gtrans (gbelow ((Below.refl _ w).alloc (Nat.le_refl _) _)) g1) (Bd.kept (r := r) (show Bd w.heap.size w.heap.size [] _ from Lib.IsBuilderF.of (Lib.fresh_isBuilder 94 5 w)) hlt g1)))); clear m1 h1 g1)
  go_loopg [] (s.size + 2) (fun gh wr => ∃ (q e2 : Nat) (acc : Js.B), (if e2 = 0 then s.size - q + 1 else 0) ≤ gh ∧ Aside (SI s p e q e2 acc ∧ Rd r s q d e2 wr ∧ w.grownBy wr (some r) ∧ Bd w.heap.size w.heap.size acc wr))
  case atStart => exact ⟨q1, e1, [], by split <;> omega, A.out⟩
  case round =>
    obtain ⟨q, e2, acc, hgh, I⟩ := hrel
    have T1 : Aside True := trivial
    have T2 : Aside True := trivial
    have T3 : Aside True := trivial
    have T4 : Aside True := trivial
    have c3 := I.out.2.1.c3
    have J := asd I.out.2
    by_cases he2 : e2 = 0
    · subst he2
      have X := asd (met_any r s q d 0 34 wr I.out.2.1 I.out.1.1 hs)
      cases hm : ht s q 0 34 with
      | true =>
        have hm' := asd hm
        rw [hm] at X
        clear hm
        simp only [if_true] at X
        go_wp2_with (first
          | (clear T2; go_at_call 65; refine X.out.mono ?_; rintro en w2 ⟨rfl, h2, g2⟩; have A2 := asd (And.intro h2 (And.intro (gtrans J.out.2.1 g2) (Bd.kept J.out.2.2 hlt g2))); clear h2 g2)
          | (clear T1; go_at_call 50; refine (string_call w.heap.size w.heap.size acc _ A2.out.2.2 A2.out.2.1.size).mono ?_; rintro en w8 ⟨rfl, _, b8, _⟩; have A8 := asd (And.intro (A2.out.1.below hlt b8) (gbel A2.out.2.1 b8)); clear b8))
        go_ret
        exact ⟨acc, q + 1, 0, rfl, SI.stop I.out.1 hm'.out, A8.out.1, A8.out.2⟩
      | false =>
        have hm' := asd hm
        rw [hm] at X
        clear hm
        simp only [Bool.false_eq_true, if_false] at X
        cases hn : ht s q 0 92 with
        | true =>
          have hn' := asd hn
          clear hn
          go_wp2_with (first
            | (clear T2; go_at_call 65; refine X.out.mono ?_; rintro en w2 ⟨rfl, h2, g2⟩; have A2 := asd (And.intro h2 (And.intro (gtrans J.out.2.1 g2) (Bd.kept J.out.2.2 hlt g2))); clear h2 g2
               have Y := met_any r s q d 0 92 w2 A2.out.1 I.out.1.1 hs
               rw [hn'.out] at Y
               simp only [if_true] at Y
               replace Y := asd Y)
            | (clear T3; go_at_call 65; refine Y.out.mono ?_; rintro en w3 ⟨rfl, h3, g3⟩; have A3 := asd (And.intro h3 (And.intro (gtrans A2.out.2.1 g3) (Bd.kept A2.out.2.2 hlt g3))); clear h3 g3
               have Z := asd (escaped_any r s (q + 1) d 0 w3 A3.out.1 (ht_pos s q 0 92 (by decide) I.out.1.1 hn'.out) hs))
            | (clear T4; go_at_call 87; refine Z.out.mono ?_; rintro en w4 ⟨n, q2, e4, rfl, hnb, O, h4, g4⟩; have A4 := asd (And.intro h4 (And.intro (gtrans A3.out.2.1 g4) (Bd.kept A3.out.2.2 hlt g4))); clear h4 g4
               have S4 := asd (SI.esc I.out.1 hn'.out O)
               clear O)
            | (go_at_call 86; refine (writeRune_call w.heap.size w.heap.size acc (n : Int) (by omega) (by omega) _ A4.out.2.2 (SI.len I.out.1 hs) A4.out.2.1.size).mono ?_; rintro en w5 ⟨⟨nn, rfl⟩, h5, b5, _⟩; have A5 := asd (And.intro (A4.out.1.below hlt b5) (And.intro (gbel A4.out.2.1 b5) h5)); clear h5 b5))
          go_roundg (if e4 = 0 then s.size - q2 + 1 else 0)
          case measure =>
            have h1 := S4.out.2
            have h2 := I.out.1.1
            have h3 := S4.out.1.1
            simp only [if_true] at hgh
            split
            · rename_i h; have := h1 h; omega
            · omega
          case rel => exact ⟨q2, e4, _, Nat.le_refl _, S4.out.1, A5.out.1, A5.out.2.1, A5.out.2.2⟩
        | false =>
          have hn' := asd hn
          clear hn
          go_wp2_with (first
            | (clear T2; go_at_call 65; refine X.out.mono ?_; rintro en w2 ⟨rfl, h2, g2⟩; have A2 := asd (And.intro h2 (And.intro (gtrans J.out.2.1 g2) (Bd.kept J.out.2.2 hlt g2))); clear h2 g2
               have Y := met_any r s q d 0 92 w2 A2.out.1 I.out.1.1 hs
               rw [hn'.out] at Y
               simp only [Bool.false_eq_true, if_false] at Y
               replace Y := asd Y)
            | (clear T3; go_at_call 65; refine Y.out.mono ?_; rintro en w3 ⟨rfl, h3, g3⟩; have A3 := asd (And.intro h3 (And.intro (gtrans A2.out.2.1 g3) (Bd.kept A2.out.2.2 hlt g3))); clear h3 g3
               have Z := asd (plain_any r s q d w3 A3.out.1 I.out.1.1 hs (fun t => ⟨ht_false s q 34 hm'.out t, ht_false s q 92 hn'.out t⟩)))
            | (clear T4; go_at_call 88; refine Z.out.mono ?_; rintro en w4 ⟨t, q2, e4, rfl, hq2, htl, O, h4, g4⟩; have A4 := asd (And.intro h4 (And.intro (gtrans A3.out.2.1 g4) (Bd.kept A3.out.2.2 hlt g4))); clear h4 g4
               have S4 := asd (SI.plain I.out.1 hq2 (show t.data.toList.length ≤ 1000 from htl) O)
               clear O)
            | (go_at_call 48; refine (writeString_call w.heap.size w.heap.size acc t _ A4.out.2.2 (SI.len I.out.1 hs) (by omega) A4.out.2.1.size).mono ?_; rintro en w5 ⟨rfl, h5, b5, _⟩; have A5 := asd (And.intro (A4.out.1.below hlt b5) (And.intro (gbel A4.out.2.1 b5) h5)); clear h5 b5))
          go_roundg (if e4 = 0 then s.size - q2 + 1 else 0)
          case measure =>
            have h1 := S4.out.2
            have h2 := I.out.1.1
            have h3 := S4.out.1.1
            simp only [if_true] at hgh
            split
            · rename_i h; have := h1 h; omega
            · omega
          case rel => exact ⟨q2, e4, _, Nat.le_refl _, S4.out.1, A5.out.1, A5.out.2.1, A5.out.2.2⟩
    · have z1 : ((e2 : Int) == 0) = false := by rw [beq_eq_false_iff_ne]; omega
      have z2 : decide ((e2 : Int) = 0) = false := by simp; omega
      have HE := asd he2
      clear he2
      go_wp2_with (clear T1; go_at_call 50; refine (string_call w.heap.size w.heap.size acc _ J.out.2.2 J.out.2.1.size).mono ?_; rintro en w8 ⟨rfl, _, b8, _⟩; have A8 := asd (And.intro (J.out.1.below hlt b8) (gbel J.out.2.1 b8)); clear b8)
      go_ret
      exact ⟨acc, q, e2, rfl, SI.bad I.out.1 HE.out _, A8.out.1, A8.out.2⟩
end Go.Proofs.YtpeioecpilmpiaaGreatDoor

/-
  The reader of the program: words, what opens, what goes on.
-/
namespace Go.Proofs.YtpeioecpilmpiaaGreatDoor
open Go.RowKit
set_option maxHeartbeats 1600000 in
theorem more_any (r : Nat) (s : ByteArray) (p d e : Nat) (b : UInt8) (_hb : b ≠ 0) (w : World) (h : Rd r s p (d + 1) e w) (hp : p ≤ s.size) (hs : s.size ≤ 1000) (hd : d ≤ 1000) :
    Calls Tryz.prog 91 #[.pointer (some ⟨r, 0, none⟩), .int .u8 (b.toNat : Int)] w fun en w' => en = .returned (.bool (ht s p e 44)) ∧
      Rd r s (if ht s p e 44 then p + 1 else if ht s p e b.toNat then p + 1 else p) (if ht s p e 44 then d + 1 else if ht s p e b.toNat then d else d + 1) (if ht s p e 44 then e else if ht s p e b.toNat then e else fl e 3) w' ∧ w.grownBy w' (some r) := by
  have K := asd (met_any r s p (d + 1) e 44 w h hp hs)
  clear h
  have T0 : Aside True := trivial
  cases h1 : ht s p e 44 with
  | true =>
    rw [h1] at K
    simp only [if_true] at K ⊢
    clear h1
    go_enter Tryz.func91, Tryz.ntmps91
    go_wp2_with (clear T0; go_at_call 65; refine K.out.mono ?_; rintro en w1 ⟨rfl, h1, g1⟩; have H := asd (And.intro h1 g1); clear h1 g1)
    go_ret
    exact ⟨rfl, H.out.1, H.out.2⟩
  | false =>
    rw [h1] at K
    simp only [Bool.false_eq_true, if_false] at K ⊢
    clear h1
    have S := asd (fun w1 h1 => shut_any r s p d e b.toNat w1 h1 hp hs hd)
    cases h2 : ht s p e b.toNat with
    | true =>
      rw [h2] at S
      simp only [if_true] at S ⊢
      clear h2
      generalize b.toNat = B at *
      go_enter Tryz.func91, Tryz.ntmps91
      go_wp2_with (first
        | (clear T0; go_at_call 65; refine K.out.mono ?_; rintro en w1 ⟨rfl, h1, g1⟩; have S1 := asd (S.out w1 h1); have H := asd g1; clear h1 g1)
        | (go_at_call 90; refine S1.out.mono ?_; rintro en w2 ⟨rfl, h2, g2⟩; have H2 := asd (And.intro h2 (gtrans H.out g2)); clear h2 g2))
      go_ret
      exact ⟨rfl, H2.out.1, H2.out.2⟩
    | false =>
      rw [h2] at S
      simp only [Bool.false_eq_true, if_false] at S ⊢
      clear h2
      generalize b.toNat = B at *
      go_enter Tryz.func91, Tryz.ntmps91
      go_wp2_with (first
        | (clear T0; go_at_call 65; refine K.out.mono ?_; rintro en w1 ⟨rfl, h1, g1⟩; have S1 := asd (S.out w1 h1); have H := asd g1; clear h1 g1)
        | (go_at_call 90; refine S1.out.mono ?_; rintro en w2 ⟨rfl, h2, g2⟩; have H2 := asd (gtrans H.out g2); have F2 := asd (fail_any r s _ (d + 1) e 3 w2 h2); clear h2 g2)
        | (go_at_call 31; refine F2.out.mono ?_; rintro en w3 ⟨rfl, h3, g3⟩; have H3 := asd (And.intro h3 (gtrans H2.out g3)); clear h3 g3))
      go_ret
      exact ⟨rfl, H3.out.1, H3.out.2⟩

set_option maxHeartbeats 1600000 in
theorem open_any (r : Nat) (s : ByteArray) (p d : Nat) (w : World) (h : Rd r s p d 0 w) (hp : p < s.size) (hs : s.size ≤ 1000) (hd : d ≤ 8) :
    Calls Tryz.prog 89 #[.pointer (some ⟨r, 0, none⟩)] w fun en w' => en = .returned (.tuple #[]) ∧ w.grownBy w' (some r) ∧
      ((d = 8 ∧ Rd r s p 8 10 w') ∨ (d < 8 ∧ ∃ q, q ≤ s.size ∧ L s q = Js.skip (L s (p + 1)) ∧ Rd r s q (d + 1) 0 w')) := by
  by_cases h8 : d = 8
  · subst h8
    have c2 := h.c2
    have F := asd (fail_any r s p 8 0 10 w h)
    clear h
    go_enter Tryz.func89, Tryz.ntmps89
    go_wp2_with (go_at_call 31; refine F.out.mono ?_; rintro en w3 ⟨rfl, h3, g3⟩; have H3 := asd (And.intro h3 g3); clear h3 g3)
    refine bodyPost_ret (results_none rfl _ _ _) rfl ?_
    exact ⟨rfl, H3.out.2, .inl ⟨trivial, H3.out.1⟩⟩
  · have z1 : ((d : Int) == 8) = false := by rw [beq_eq_false_iff_ne]; omega
    have z2 : ¬ ((d : Int) = 8) := by omega
    have c2 := h.c2
    have f2 := h.fz 2
    have h' := h.set2 (d + 1)
    have e1 : (((d + 1 : Nat)) : Int) = (d : Int) + 1 := by omega
    rw [e1] at h'
    have c1 := h'.c1
    have f1 := h'.fz 1
    have h'' := h'.set1 (p + 1)
    have e2 : (((p + 1 : Nat)) : Int) = (p : Int) + 1 := by omega
    rw [e2] at h''
    have B := asd (And.intro (blanks_any r s (p + 1) (d + 1) 0 _ h'' hp hs) (gtrans (grown_set w r 2 (.int .i64 ((d : Int) + 1))) (grown_set _ r 1 (.int .i64 ((p : Int) + 1)))))
    clear h h' h'' e1 e2
    have D8 : Aside (d < 8) := by show _ < _; omega
    go_enter Tryz.func89, Tryz.ntmps89
    go_wp2_with (go_at_call 51; refine B.out.1.mono ?_; rintro en w3 ⟨rfl, q, hq, hl, h3, g3⟩; have H3 := asd (And.intro h3 (And.intro (hl rfl) (gtrans B.out.2 g3))); clear h3 g3 hl)
    go_end0
    exact ⟨rfl, H3.out.2.2, .inr ⟨D8.out, q, hq, H3.out.2.1, H3.out.1⟩⟩

/-- In the midst of a word. -/
def WI (s wd : ByteArray) (p e i q e1 : Nat) : Prop :=
  q ≤ s.size ∧ ((e = 0 ∧ e1 = 0 ∧ q = p + i ∧ (L s p).take i = wd.data.toList.take i) ∨ (e1 ≠ 0 ∧ e1 = fl e 3 ∧ (e ≠ 0 ∨ wd.data.toList.isPrefixOf (L s p) = false)))
theorem WI.next {s wd : ByteArray} {p e i q e1 q2 e2 : Nat} (h : WI s wd p e i q e1) (hi : i < wd.size) (hz : wd.get! i ≠ 0) (m : Mu s q e1 (wd.get! i).toNat q2 e2) : WI s wd p e (i + 1) q2 e2 := by
  obtain ⟨hq, h⟩ := h
  refine ⟨m.le, ?_⟩
  have m1 := m.pos
  have m2 := m.flt
  rcases h with ⟨h1, rfl, rfl, h4⟩ | ⟨h1, h2, h3⟩
  · cases c : ht s (p + i) 0 (wd.get! i).toNat with
    | true =>
      rw [c] at m1 m2
      simp only [if_true] at m1 m2
      obtain ⟨h5, h6⟩ := ht_true s (p + i) (wd.get! i) hq hz c
      refine .inl ⟨h1, m2, by omega, ?_⟩
      have e1 : (L s p)[i]? = some (wd.get! i) := by
        have : (L s (p + i))[0]? = some (wd.get! i) := by rw [h6]; rfl
        rw [← L_drop, List.getElem?_drop] at this
        simpa using this
      have e2 : wd.data.toList[i]? = some (wd.get! i) := by
        have := L_cons wd i hi
        have h7 : (L wd i)[0]? = some (wd.get! i) := by rw [this]; rfl
        unfold L at h7
        rw [List.getElem?_drop] at h7
        simpa using h7
      rw [List.take_add_one, List.take_add_one, h4, e1, e2]
    | false =>
      rw [c] at m2
      have h5 := ht_false s (p + i) (wd.get! i) c
      refine .inr ⟨by rw [m2]; decide, by rw [m2, h1]; rfl, .inr ?_⟩
      cases hpre : wd.data.toList.isPrefixOf (L s p) with
      | false => rfl
      | true =>
        obtain ⟨t, ht⟩ := List.isPrefixOf_iff_prefix.1 hpre
        have : L s (p + i) = L wd i ++ t := by
          rw [← L_drop, ← ht]
          unfold L
          rw [List.drop_append_of_le_length (by show i ≤ wd.size; omega)]
        rw [L_cons wd i hi] at this
        exact absurd this (h5 _)
  · have c : ht s q e1 (wd.get! i).toNat = false := ht_bad s q e1 _ h1 hz
    rw [c] at m2
    simp only [Bool.false_eq_true, if_false] at m2
    exact .inr ⟨by rw [m2]; exact fl_ne _ _ (by decide), by rw [m2, h2]; exact fl_fl _ _ (by decide), h3⟩
def WD (s wd : ByteArray) (p : Nat) : Option (Unit × Js.B) := if wd.data.toList.isPrefixOf (L s p) then some ((), (L s p).drop wd.size) else none
theorem WI.done {s wd : ByteArray} {p e q e1 : Nat} (h : WI s wd p e wd.size q e1) : Out s e (WD s wd p) (fun _ => True) q e1 := by
  obtain ⟨hq, h⟩ := h
  refine ⟨hq, ?_⟩
  unfold WD
  rcases h with ⟨h1, h2, h3, h4⟩ | ⟨h1, h2, h3⟩
  · refine .inl ⟨h1, h2, (), trivial, ?_⟩
    have hpre : wd.data.toList.isPrefixOf (L s p) = true := by
      rw [List.isPrefixOf_iff_prefix, List.prefix_iff_eq_take]
      have e : wd.data.toList.length = wd.size := rfl
      rw [e, h4, ← e, List.take_length]
    rw [if_pos hpre, h3, L_drop]
  · refine .inr ⟨h1, h2, ?_⟩
    rcases h3 with h3 | h3
    · exact .inl h3
    · exact .inr (by rw [if_neg (by rw [h3]; decide)])

set_option maxHeartbeats 1600000 in
theorem word_any (r : Nat) (s wd : ByteArray) (p d e : Nat) (w : World) (h : Rd r s p d e w) (hp : p ≤ s.size) (hs : s.size ≤ 1000) (hz : ∀ i, i < wd.size → wd.get! i ≠ 0) (hw : wd.size ≤ 1000) :
    Calls Tryz.prog 67 #[.pointer (some ⟨r, 0, none⟩), .string wd] w fun en w' => en = .returned (.tuple #[]) ∧ ∃ q e1, Out s e (WD s wd p) (fun _ => True) q e1 ∧ Rd r s q d e1 w' ∧ w.grownBy w' (some r) := by
  have H := asd h
  have HZ := asd hz
  clear h hz
  have S0 : WI s wd p e 0 p e := by
    refine ⟨hp, ?_⟩
    by_cases he : e = 0
    · exact .inl ⟨he, he, rfl, by simp⟩
    · exact .inr ⟨he, (fl_bad e 3 he).symm, .inl he⟩
  go_enter Tryz.func67, Tryz.ntmps67
  go_wp2
  go_loopg [4, 7] wd.size (fun gh s4 s7 wr => ∃ i q e1 : Nat, wd.size - i ≤ gh ∧ i ≤ wd.size ∧ s7 = .int .i64 (i : Int) ∧ WI s wd p e i q e1 ∧ Aside (Rd r s q d e1 wr ∧ w.grownBy wr (some r)))
  case atStart => exact ⟨0, p, e, by omega, by omega, rfl, S0, H.out, grefl _ _⟩
  case round =>
    obtain ⟨i, q, e1, hgh, hi, rfl, I, R⟩ := hrel
    by_cases hlt : i < wd.size
    · have d1 : decide ((i : Int) < wd.size) = true := by simp; omega
      have M := must_ex r s q d e1 (wd.get! i) (HZ.out i hlt) wr R.out.1 I.1 hs
      have N := asd (fun q2 e2 => I.next (q2 := q2) (e2 := e2) hlt (HZ.out i hlt))
      rw [get_at wd i hlt] at M N
      replace M := asd M
      go_wp2_with (go_at_call 85; refine M.out.mono ?_; rintro en w2 ⟨rfl, q2, e2, m2, h2, g2⟩; have A2 := asd (And.intro (N.out q2 e2 m2) (And.intro h2 (gtrans R.out.2 g2))); clear h2 g2 m2)
      go_roundg (wd.size - (i + 1))
      case measure => omega
      case rel => exact ⟨i + 1, q2, e2, Nat.le_refl _, hlt, by go_num, A2.out.1, A2.out.2.1, A2.out.2.2⟩
    · obtain rfl : i = wd.size := by omega
      go_wp2
      go_end0
      exact ⟨rfl, q, e1, I.done, R.out.1, R.out.2⟩
end Go.Proofs.YtpeioecpilmpiaaGreatDoor
