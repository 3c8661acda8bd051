/-
  The reader of the program: the signs of a string.
-/
import Derived.Test.YtpeioecpilmpiaaGreatDoorJ3
import Derived.WalkKit
import Derived.WalkSpells
import Derived.WalkLawsBesides
import Derived.Deep.LoopGhost
import Derived.Laws.Externs
import Derived.Below
import Derived.BigQuiet
import Derived.Deep.RegionWith
import Derived.OwnWalk
import Derived.Maps.AppendAt
namespace Go.Proofs.YtpeioecpilmpiaaGreatDoor
open Go.RowKit
theorem gbel {a b c : World} {r : Option Nat} (h : a.grownBy b r) (k : Below a.heap.size b c) : a.grownBy c r :=
  ⟨k.os.trans h.os, k.tape.trans h.tape, k.output.trans h.output, Nat.le_trans h.size k.size, fun i hi hne => (k.block i hi).trans (h.block i hi hne)⟩
theorem Bd.kept {B b r : Nat} {l : List UInt8} {w w' : World} (h : Bd B b l w) (hr : r < B) (hg : w.grownBy w' (some r)) : Bd B b l w' := by
  have key : ∀ p, Lib.BuilderAtF 94 5 B b p (Lib.byteCells l) w → Lib.BuilderAtF 94 5 B b p (Lib.byteCells l) w' := by
    rintro p ⟨hB, v, hb, hown, hne⟩
    have hlt : b < w.heap.size := (Array.getElem?_eq_some_iff.1 hb).1
    refine ⟨hB, v, (hg.block b hlt (fun e => by injection e; omega)).trans hb, hown.kept (row := some r) hg (Or.inr ?_), hne⟩
    rcases hown.2 with ⟨rfl, _⟩ | ⟨g, cap, cur, fz, rfl, hBg, _⟩
    · simp [Value.ownBlock]
    · intro e
      simp only [Value.ownBlock, Option.some.injEq] at e
      omega
  exact h.elim (fun x => .inl (key _ x)) (fun x => .inr (key _ x))

/-- In the midst of a string. -/
def SI (s : ByteArray) (p e q e1 : Nat) (acc : Js.B) : Prop :=
  q ≤ s.size ∧ ((e = 0 ∧ e1 = 0 ∧ acc.length ≤ 1000 * q ∧ (match L s p with | 34 :: l => Js.txx l [] | _ => none) = Js.txx (L s q) acc) ∨
    (e1 ≠ 0 ∧ e1 = fl e 3 ∧ (e ≠ 0 ∨ (match L s p with | 34 :: l => Js.txx l [] | _ => none) = none)))
def SR (s : ByteArray) (p : Nat) : Option (Js.B × Js.B) := match L s p with | 34 :: l => Js.txx l [] | _ => none

theorem SI.start {s : ByteArray} {p e q1 e1 : Nat} (hp : p ≤ s.size) (m : Mu s p e 34 q1 e1) : SI s p e q1 e1 [] := by
  refine ⟨m.le, ?_⟩
  by_cases he : e = 0
  · subst he
    cases c : ht s p 0 34 with
    | true =>
      have m1 := m.pos
      have m2 := m.flt
      rw [c] at m1 m2
      simp only [if_true] at m1 m2
      obtain ⟨h1, h2⟩ := ht_true s p 34 hp (by decide) c
      rw [h2, m1, m2]
      exact .inl ⟨rfl, rfl, by simp, rfl⟩
    | false =>
      have m2 := m.flt
      rw [c] at m2
      have := ht_false s p 34 c
      refine .inr ⟨by rw [m2]; decide, by rw [m2]; rfl, .inr ?_⟩
      split
      · rename_i l hl
        exact absurd hl (this l)
      · rfl
  · have m2 := m.flt
    rw [show (34 : Nat) = (34 : UInt8).toNat by rfl, ht_bad s p e 34 he (by decide)] at m2
    simp only [Bool.false_eq_true, if_false] at m2
    rw [m2]
    exact .inr ⟨fl_ne _ _ (by decide), rfl, .inl he⟩
theorem SI.esc {s : ByteArray} {p e q n q2 e2 : Nat} {acc : Js.B} (h : SI s p e q 0 acc) (hm : ht s q 0 92 = true) (O : Out s 0 (Js.esc (L s (q + 1))) (· = n) q2 e2) :
    SI s p e q2 e2 (acc ++ Lib.encodeRune (n : Int)) ∧ (e2 = 0 → q < q2) := by
  obtain ⟨hq, h⟩ := h
  rcases h with ⟨h1, _, h3, h4⟩ | ⟨h1, _⟩
  · obtain ⟨h5, h6⟩ := ht_true s q 92 hq (by decide) hm
    rw [h6, Js.txx_esc] at h4
    obtain ⟨k1, O⟩ := O
    rcases O with ⟨_, rfl, v, rfl, h7⟩ | ⟨a, b, c⟩
    · have hl := (Js.esc_ok _ _ _ h7).1
      rw [L_len, L_len] at hl
      have he := (Js.enc_len (v : Int)).2
      rw [h7] at h4
      refine ⟨⟨k1, .inl ⟨h1, rfl, ?_, h4⟩⟩, fun _ => by omega⟩
      rw [List.length_append]; omega
    · have c' : Js.esc (L s (q + 1)) = none := by
        rcases c with c | c
        · exact absurd rfl c
        · exact c
      rw [c'] at h4
      exact ⟨⟨k1, .inr ⟨a, by rw [b, h1], .inr h4⟩⟩, fun h => absurd h a⟩
  · exact absurd rfl h1
theorem SI.plain {s : ByteArray} {p e q q2 e2 : Nat} {acc t : Js.B} (h : SI s p e q 0 acc) (hq2 : q2 ≤ s.size) (ht : t.length ≤ 1000)
    (O : (e2 = 0 ∧ q < q2 ∧ ∀ out, Js.txx (L s q) out = Js.txx (L s q2) (out ++ t)) ∨ (e2 = 3 ∧ ∀ out, Js.txx (L s q) out = none)) : SI s p e q2 e2 (acc ++ t) ∧ (e2 = 0 → q < q2) := by
  obtain ⟨hq, h⟩ := h
  rcases h with ⟨h1, _, h3, h4⟩ | ⟨h1, _⟩
  · rcases O with ⟨rfl, h5, h6⟩ | ⟨rfl, h6⟩
    · rw [h6] at h4
      exact ⟨⟨hq2, .inl ⟨h1, rfl, by rw [List.length_append]; omega, h4⟩⟩, fun _ => h5⟩
    · rw [h6] at h4
      exact ⟨⟨hq2, .inr ⟨by decide, by rw [h1]; rfl, .inr h4⟩⟩, fun h => by omega⟩
  · exact absurd rfl h1
theorem SI.stop {s : ByteArray} {p e q : Nat} {acc : Js.B} (h : SI s p e q 0 acc) (hm : ht s q 0 34 = true) : Out s e (SR s p) (· = acc) (q + 1) 0 := by
  obtain ⟨hq, h⟩ := h
  obtain ⟨h5, h6⟩ := ht_true s q 34 hq (by decide) hm
  rcases h with ⟨h1, _, h3, h4⟩ | ⟨h1, _⟩
  · rw [h6, Js.txx_end] at h4
    exact ⟨h5, .inl ⟨h1, rfl, acc, rfl, h4⟩⟩
  · exact absurd rfl h1
theorem SI.bad {s : ByteArray} {p e q e1 : Nat} {acc : Js.B} (h : SI s p e q e1 acc) (he : e1 ≠ 0) (P : Js.B → Prop) : Out s e (SR s p) P q e1 := by
  obtain ⟨hq, h⟩ := h
  rcases h with ⟨_, h1, _⟩ | h
  · exact absurd h1 he
  · exact ⟨hq, .inr h⟩
theorem SI.len {s : ByteArray} {p e q : Nat} {acc : Js.B} (h : SI s p e q 0 acc) (hs : s.size ≤ 1000) : acc.length ≤ 1000000 := by
  obtain ⟨hq, h⟩ := h
  rcases h with ⟨_, _, h1, _⟩ | ⟨h, _⟩
  · omega
  · exact absurd rfl h

set_option maxHeartbeats 3200000 in
set_option maxRecDepth 100000 in
theorem signs_any (r : Nat) (s : ByteArray) (p d e : Nat) (w : World) (h : Rd r s p d e w) (hp : p ≤ s.size) (hs : s.size ≤ 1000) :
    Calls Tryz.prog 68 #[.pointer (some ⟨r, 0, none⟩)] w fun en w' => ∃ (t : Js.B) (q e' : Nat), en = .returned (.string ⟨t.toArray⟩) ∧ Out s e (SR s p) (· = t) q e' ∧ Rd r s q d e' w' ∧ w.grownBy w' (some r) := by
  have M := asd (fun w1 h1 => must_ex r s p d e 34 (by decide) w1 h1 hp hs)
  have hlt := h.lt
  have H := asd h
  clear h
  have T0 : Aside True := trivial
  go_enter Tryz.func68, Tryz.ntmps68
  go_wp2_with (clear T0; go_at_call 85; refine (M.out _ (H.out.below hlt ((Below.refl _ w).alloc (Nat.le_refl _) _))).mono ?_; rintro en w1 ⟨rfl, q1, e1, m1, h1, g1⟩
               have A := asd (And.intro (SI.start hp m1) (And.intro h1 (And.intro (gtrans (gbelow ((Below.refl _ w).alloc (Nat.le_refl _) _)) g1) (Bd.kept (r := r) (show Bd w.heap.size w.heap.size [] _ from Lib.IsBuilderF.of (Lib.fresh_isBuilder 94 5 w)) hlt g1)))); clear m1 h1 g1)
  go_loopg [] (s.size + 2) (fun gh wr => ∃ (q e2 : Nat) (acc : Js.B), (if e2 = 0 then s.size - q + 1 else 0) ≤ gh ∧ Aside (SI s p e q e2 acc ∧ Rd r s q d e2 wr ∧ w.grownBy wr (some r) ∧ Bd w.heap.size w.heap.size acc wr))
  case atStart => exact ⟨q1, e1, [], by split <;> omega, A.out⟩
  case round =>
    obtain ⟨q, e2, acc, hgh, I⟩ := hrel
    have T1 : Aside True := trivial
    have T2 : Aside True := trivial
    have T3 : Aside True := trivial
    have T4 : Aside True := trivial
    have c3 := I.out.2.1.c3
    have J := asd I.out.2
    by_cases he2 : e2 = 0
    · subst he2
      have X := asd (met_any r s q d 0 34 wr I.out.2.1 I.out.1.1 hs)
      cases hm : ht s q 0 34 with
      | true =>
        have hm' := asd hm
        rw [hm] at X
        clear hm
        simp only [if_true] at X
        go_wp2_with (first
          | (clear T2; go_at_call 65; refine X.out.mono ?_; rintro en w2 ⟨rfl, h2, g2⟩; have A2 := asd (And.intro h2 (And.intro (gtrans J.out.2.1 g2) (Bd.kept J.out.2.2 hlt g2))); clear h2 g2)
          | (clear T1; go_at_call 50; refine (string_call w.heap.size w.heap.size acc _ A2.out.2.2 A2.out.2.1.size).mono ?_; rintro en w8 ⟨rfl, _, b8, _⟩; have A8 := asd (And.intro (A2.out.1.below hlt b8) (gbel A2.out.2.1 b8)); clear b8))
        go_ret
        exact ⟨acc, q + 1, 0, rfl, SI.stop I.out.1 hm'.out, A8.out.1, A8.out.2⟩
      | false =>
        have hm' := asd hm
        rw [hm] at X
        clear hm
        simp only [Bool.false_eq_true, if_false] at X
        cases hn : ht s q 0 92 with
        | true =>
          have hn' := asd hn
          clear hn
          go_wp2_with (first
            | (clear T2; go_at_call 65; refine X.out.mono ?_; rintro en w2 ⟨rfl, h2, g2⟩; have A2 := asd (And.intro h2 (And.intro (gtrans J.out.2.1 g2) (Bd.kept J.out.2.2 hlt g2))); clear h2 g2
               have Y := met_any r s q d 0 92 w2 A2.out.1 I.out.1.1 hs
               rw [hn'.out] at Y
               simp only [if_true] at Y
               replace Y := asd Y)
            | (clear T3; go_at_call 65; refine Y.out.mono ?_; rintro en w3 ⟨rfl, h3, g3⟩; have A3 := asd (And.intro h3 (And.intro (gtrans A2.out.2.1 g3) (Bd.kept A2.out.2.2 hlt g3))); clear h3 g3
               have Z := asd (escaped_any r s (q + 1) d 0 w3 A3.out.1 (ht_pos s q 0 92 (by decide) I.out.1.1 hn'.out) hs))
            | (clear T4; go_at_call 87; refine Z.out.mono ?_; rintro en w4 ⟨n, q2, e4, rfl, hnb, O, h4, g4⟩; have A4 := asd (And.intro h4 (And.intro (gtrans A3.out.2.1 g4) (Bd.kept A3.out.2.2 hlt g4))); clear h4 g4
               have S4 := asd (SI.esc I.out.1 hn'.out O)
               clear O)
            | (go_at_call 86; refine (writeRune_call w.heap.size w.heap.size acc (n : Int) (by omega) (by omega) _ A4.out.2.2 (SI.len I.out.1 hs) A4.out.2.1.size).mono ?_; rintro en w5 ⟨⟨nn, rfl⟩, h5, b5, _⟩; have A5 := asd (And.intro (A4.out.1.below hlt b5) (And.intro (gbel A4.out.2.1 b5) h5)); clear h5 b5))
          go_roundg (if e4 = 0 then s.size - q2 + 1 else 0)
          case measure =>
            have h1 := S4.out.2
            have h2 := I.out.1.1
            have h3 := S4.out.1.1
            simp only [if_true] at hgh
            split
            · rename_i h; have := h1 h; omega
            · omega
          case rel => exact ⟨q2, e4, _, Nat.le_refl _, S4.out.1, A5.out.1, A5.out.2.1, A5.out.2.2⟩
        | false =>
          have hn' := asd hn
          clear hn
          go_wp2_with (first
            | (clear T2; go_at_call 65; refine X.out.mono ?_; rintro en w2 ⟨rfl, h2, g2⟩; have A2 := asd (And.intro h2 (And.intro (gtrans J.out.2.1 g2) (Bd.kept J.out.2.2 hlt g2))); clear h2 g2
               have Y := met_any r s q d 0 92 w2 A2.out.1 I.out.1.1 hs
               rw [hn'.out] at Y
               simp only [Bool.false_eq_true, if_false] at Y
               replace Y := asd Y)
            | (clear T3; go_at_call 65; refine Y.out.mono ?_; rintro en w3 ⟨rfl, h3, g3⟩; have A3 := asd (And.intro h3 (And.intro (gtrans A2.out.2.1 g3) (Bd.kept A2.out.2.2 hlt g3))); clear h3 g3
               have Z := asd (plain_any r s q d w3 A3.out.1 I.out.1.1 hs (fun t => ⟨ht_false s q 34 hm'.out t, ht_false s q 92 hn'.out t⟩)))
            | (clear T4; go_at_call 88; refine Z.out.mono ?_; rintro en w4 ⟨t, q2, e4, rfl, hq2, htl, O, h4, g4⟩; have A4 := asd (And.intro h4 (And.intro (gtrans A3.out.2.1 g4) (Bd.kept A3.out.2.2 hlt g4))); clear h4 g4
               have S4 := asd (SI.plain I.out.1 hq2 (show t.data.toList.length ≤ 1000 from htl) O)
               clear O)
            | (go_at_call 48; refine (writeString_call w.heap.size w.heap.size acc t _ A4.out.2.2 (SI.len I.out.1 hs) (by omega) A4.out.2.1.size).mono ?_; rintro en w5 ⟨rfl, h5, b5, _⟩; have A5 := asd (And.intro (A4.out.1.below hlt b5) (And.intro (gbel A4.out.2.1 b5) h5)); clear h5 b5))
          go_roundg (if e4 = 0 then s.size - q2 + 1 else 0)
          case measure =>
            have h1 := S4.out.2
            have h2 := I.out.1.1
            have h3 := S4.out.1.1
            simp only [if_true] at hgh
            split
            · rename_i h; have := h1 h; omega
            · omega
          case rel => exact ⟨q2, e4, _, Nat.le_refl _, S4.out.1, A5.out.1, A5.out.2.1, A5.out.2.2⟩
    · have z1 : ((e2 : Int) == 0) = false := by rw [beq_eq_false_iff_ne]; omega
      have z2 : decide ((e2 : Int) = 0) = false := by simp; omega
      have HE := asd he2
      clear he2
      go_wp2_with (clear T1; go_at_call 50; refine (string_call w.heap.size w.heap.size acc _ J.out.2.2 J.out.2.1.size).mono ?_; rintro en w8 ⟨rfl, _, b8, _⟩; have A8 := asd (And.intro (J.out.1.below hlt b8) (gbel J.out.2.1 b8)); clear b8)
      go_ret
      exact ⟨acc, q, e2, rfl, SI.bad I.out.1 HE.out _, A8.out.1, A8.out.2⟩
end Go.Proofs.YtpeioecpilmpiaaGreatDoor
