/-
  YtpeioecpilmpiaaGreatDoor: the texts D8, V1, one behind the other.
-/
import Derived.Test.YtpeioecpilmpiaaGreatDoorMF26
import Derived.WalkKit
import Derived.WalkSpells
import Derived.WalkLawsBesides
import Derived.Deep.LoopGhost
import Derived.Laws.Externs
import Derived.Below
import Derived.BigQuiet
import Derived.Deep.RegionWith
import Derived.OwnWalk
import Derived.Maps.AppendAt
import Derived.WalkSmall
import Derived.Test.YtpeioecpilmpiaaGreatDoorMF25
/-
  The document's reader: a string.
-/
namespace Go.Proofs.YtpeioecpilmpiaaGreatDoor
open Go.RowKit
theorem rn_L (s : ByteArray) (p : Nat) : Si.Sg.rn (s.extract p s.size) 0 = (Lib.decodeL (L s p)).1 ∧ Si.Sg.wd (s.extract p s.size) 0 = (Lib.decodeL (L s p)).2 := by
  have := dec_rest (s.extract p s.size) 0
  rw [List.drop_zero, ext_list] at this
  unfold Si.Sg.rn Si.Sg.wd
  rw [this]
  exact ⟨rfl, rfl⟩

/-- In the midst of a string: where the reader is, its fault, and the signs so far. -/
def TR (s : ByteArray) (p q e : Nat) (acc : Js.B) : Prop :=
  q ≤ s.size ∧ ((e = 0 ∧ p + 1 ≤ q ∧ acc.length ≤ 4 * q ∧ Js.txx (L s q) acc = Js.txx (L s (p + 1)) []) ∨ (e = 3 ∧ Js.txx (L s (p + 1)) [] = none))
/-- What a string leaves. -/
def TO (s : ByteArray) (p q e : Nat) (t : Js.B) : Prop := q ≤ s.size ∧ ((e = 0 ∧ Js.txx (L s (p + 1)) [] = some (t, L s q) ∧ t.length ≤ 4000 ∧ p + 1 ≤ q) ∨ (e = 3 ∧ Js.txx (L s (p + 1)) [] = none ∧ t = []))
theorem TR.esc {s : ByteArray} {p q q2 e2 : Nat} {acc : Js.B} {t : ByteArray} (h : TR s p q 0 acc) (hq : q < s.size) (hx : s.get! q = 92) (E : EO s q q2 e2 t) : TR s p q2 e2 (acc ++ t.data.toList) ∧ (e2 = 0 → q < q2) := by
  obtain ⟨h2, h⟩ := h
  obtain ⟨_, h1, h3, h5⟩ := h.resolve_right (fun h => by cases h.1)
  obtain ⟨f1, f2, f3⟩ := E
  have hl : t.data.toList.length ≤ 4 := f2
  rw [L_cons s q hq, hx, Js.txx_esc] at h5
  rcases f3 with ⟨rfl, n, h, ht, hq2⟩ | ⟨rfl, h⟩
  · rw [h] at h5
    simp only at h5
    have : t.data.toList = Lib.encodeRune n := by rw [ht]
    refine ⟨⟨f1, .inl ⟨rfl, by omega, ?_, ?_⟩⟩, fun _ => by omega⟩
    · rw [List.length_append]; omega
    · rw [this]; exact h5
  · rw [h] at h5
    exact ⟨⟨f1, .inr ⟨rfl, h5.symm⟩⟩, fun h => by cases h⟩
theorem TR.stop {s : ByteArray} {p q : Nat} {acc : Js.B} (h : TR s p q 0 acc) (hq : q < s.size) (hx : s.get! q = 34) (hs : s.size ≤ 1000) : TO s p (q + 1) 0 acc := by
  obtain ⟨h2, h⟩ := h
  obtain ⟨_, h1, h3, h5⟩ := h.resolve_right (fun h => by cases h.1)
  rw [L_cons s q hq, hx, Js.txx_end] at h5
  exact ⟨hq, .inl ⟨rfl, h5.symm, by omega, by omega⟩⟩
theorem TR.over {s : ByteArray} {p q : Nat} {acc : Js.B} (h : TR s p q 0 acc) (hq : s.size ≤ q) : TO s p q 3 [] := by
  obtain ⟨h2, h⟩ := h
  obtain ⟨_, h1, h3, h5⟩ := h.resolve_right (fun h => by cases h.1)
  rw [L_end s q hq, Js.txx_nil] at h5
  exact ⟨h2, .inr ⟨rfl, h5.symm, rfl⟩⟩
theorem TR.bad {s : ByteArray} {p q : Nat} {acc : Js.B} (h : TR s p q 0 acc) (hq : q < s.size) (h34 : s.get! q ≠ 34) (h92 : s.get! q ≠ 92) (hb : (Lib.decodeL (L s q)).1 < 32 ∨ ((Lib.decodeL (L s q)).1 = 65533 ∧ (Lib.decodeL (L s q)).2 = 1)) : TO s p q 3 [] := by
  obtain ⟨h2, h⟩ := h
  obtain ⟨_, h1, h3, h5⟩ := h.resolve_right (fun h => by cases h.1)
  have e := L_cons s q hq
  rw [e] at hb h5
  rw [Js.txx_bad _ _ _ h34 h92 hb] at h5
  exact ⟨h2, .inr ⟨rfl, h5.symm, rfl⟩⟩
theorem TR.plain {s : ByteArray} {p q : Nat} {acc : Js.B} (h : TR s p q 0 acc) (hq : q < s.size) (h34 : s.get! q ≠ 34) (h92 : s.get! q ≠ 92) (hb : ¬ ((Lib.decodeL (L s q)).1 < 32 ∨ ((Lib.decodeL (L s q)).1 = 65533 ∧ (Lib.decodeL (L s q)).2 = 1))) :
    TR s p (q + (Lib.decodeL (L s q)).2) 0 (acc ++ (L s q).take (Lib.decodeL (L s q)).2) ∧ 1 ≤ (Lib.decodeL (L s q)).2 ∧ q + (Lib.decodeL (L s q)).2 ≤ s.size := by
  obtain ⟨h2, h⟩ := h
  obtain ⟨_, h1, h3, h5⟩ := h.resolve_right (fun h => by cases h.1)
  have e := L_cons s q hq
  have hw := Lib.decodeL_width (s.get! q :: L s (q + 1))
  rw [← e] at hw
  have hl : q + (Lib.decodeL (L s q)).2 ≤ s.size ∧ 1 ≤ (Lib.decodeL (L s q)).2 := by
    have := congrArg List.length e
    rw [List.length_cons, L_len] at this
    have h9 := (rn_L s q).2
    have h10 := Si.Sg.wd_pos (s.extract q s.size) 0
    have h11 := Si.Sg.wd_le (s.extract q s.size) 0 (by simp; omega)
    rw [h9] at h10 h11
    simp at h11
    omega
  rw [e] at hb h5
  rw [Js.txx_plain _ _ _ h34 h92 hb, ← e, L_drop] at h5
  refine ⟨⟨hl.1, .inl ⟨rfl, by omega, ?_, h5⟩⟩, hl.2, hl.1⟩
  rw [List.length_append, List.length_take]
  omega
theorem TR.gone {s : ByteArray} {p q e : Nat} {acc : Js.B} (h : TR s p q e acc) (he : e ≠ 0) : TO s p q e [] := by
  obtain ⟨h2, h | h⟩ := h
  · exact absurd h.1 he
  · exact ⟨h2, .inr ⟨h.1, h.2, rfl⟩⟩
theorem TR.len {s : ByteArray} {p q : Nat} {acc : Js.B} (h : TR s p q 0 acc) (hs : s.size ≤ 1000) : (bs acc).size ≤ 4000 := by
  obtain ⟨h2, h⟩ := h
  obtain ⟨_, h1, h3, h5⟩ := h.resolve_right (fun h => by cases h.1)
  have : (bs acc).size = acc.length := by
    show (bs acc).data.size = _
    simp
  omega

theorem bs_cat (a : Js.B) (t : ByteArray) : bs a ++ t = bs (a ++ t.data.toList) := by
  apply ByteArray.ext
  rw [ByteArray.data_append]
  simp

set_option maxHeartbeats 4000000 in
set_option maxRecDepth 100000 in
theorem dtext_any (r : Nat) (s : ByteArray) (p d : Nat) (w : World) (h' : Rq r s p d 0 w) (hp : p < s.size) (hs : s.size ≤ 1000) :
    Calls Tryz.prog 39 #[.pointer (some ⟨r, 0, none⟩)] w fun en w' => ∃ (t : Js.B) (q e' : Nat), en = .returned (.string (bs t)) ∧ TO s p q e' t ∧ Rq r s q d e' w' ∧ w.grownBy w' (some r) := by
  have c1 := h'.c1
  have f1 := h'.fz 1
  have I0 := asd (And.intro h'.inc1 (grown_set w r 1 (.int .i64 ((p : Int) + 1))))
  have be : bs [] = ⟨#[]⟩ := rfl
  clear h'
  go_enter Tryz.func39, Tryz.ntmps39
  go_wp2
  go_loopg [3] (s.size + 1) (fun gh s3 wr => ∃ (q e : Nat) (acc : Js.B), (if e = 0 then s.size - q + 1 else 0) ≤ gh ∧ s3 = .string (bs acc) ∧ Aside (TR s p q e acc) ∧ Aside (Rq r s q d e wr ∧ w.grownBy wr (some r)))
  case atStart => exact ⟨p + 1, 0, [], by rw [if_pos rfl]; omega, rfl, ⟨hp, .inl ⟨rfl, Nat.le_refl _, by simp, rfl⟩⟩, I0⟩
  case round =>
    obtain ⟨q, e, acc, hgh, rfl, T, I⟩ := hrel
    clear I0 c1 f1
    have hq := T.out.1
    have c0 := I.out.1.c0
    have c1 := I.out.1.c1
    have c3 := I.out.1.c3
    by_cases he : e = 0
    · subst he
      simp only [if_true] at hgh
      by_cases hlt : q < s.size
      · have d2 : decide (s.size ≤ q) = false := by simp; omega
        have hxg := get_at s q hlt
        generalize hgx : s[q] = x at *
        by_cases h34 : x.toNat = 34
        · have t1 : ((x.toNat : Int) == 34) = true := by rw [beq_iff_eq]; omega
          have E := asd (T.out.stop hlt (by rw [hxg]; exact UInt8.toNat_inj.1 h34) hs)
          clear T hxg h34
          go_wp2
          go_quiet (fail)
          have I2 := asd (And.intro (I.out.1.drewN nq) (grown_drewN I.out.2 nq))
          generalize wr.drewN nq = w2 at *
          clear c0 c1 c3 I
          have c0 := I2.out.1.c0
          have c1 := I2.out.1.c1
          go_wp2
          go_quiet (fail)
          have I3 := asd (And.intro (I2.out.1.drewN nq) (grown_drewN I2.out.2 nq))
          generalize w2.drewN nq = w3 at *
          clear c0 c1 I2
          have c1 := I3.out.1.c1
          have f1 := I3.out.1.fz 1
          have I4 := asd (And.intro I3.out.1.inc1 (gtrans I3.out.2 (grown_set w3 r 1 (.int .i64 ((q : Int) + 1)))))
          go_wp2
          go_ret
          exact ⟨acc, q + 1, 0, rfl, E.out, I4.out.1, I4.out.2⟩
        · have t1 : ((x.toNat : Int) == 34) = false := by rw [beq_eq_false_iff_ne]; omega
          have t1' : ¬ ((x.toNat : Int) = 34) := by omega
          have n34 : s.get! q ≠ 34 := by rw [hxg]; intro e; exact h34 (by rw [e]; rfl)
          by_cases h92 : x.toNat = 92
          · have t2 : ((x.toNat : Int) == 92) = true := by rw [beq_iff_eq]; omega
            have ST := asd (fun (q2 e2 : Nat) (t : ByteArray) (E : EO s q q2 e2 t) => T.out.esc hlt (by rw [hxg]; exact UInt8.toNat_inj.1 h92) E)
            have zl := T.out.len hs
            have CT := asd (fun t => bs_cat acc t)
            clear T hxg h34 h92 n34
            go_wp2
            go_quiet (fail)
            have I2 := asd (And.intro (I.out.1.drewN nq) (grown_drewN I.out.2 nq))
            generalize wr.drewN nq = w2 at *
            clear c0 c1 c3 I
            have c0 := I2.out.1.c0
            have c1 := I2.out.1.c1
            go_wp2
            go_quiet (fail)
            have I3 := asd (And.intro (I2.out.1.drewN nq) (grown_drewN I2.out.2 nq))
            generalize w2.drewN nq = w3 at *
            clear c0 c1 I2
            have c0 := I3.out.1.c0
            have c1 := I3.out.1.c1
            go_wp2
            go_quiet (fail)
            have I4 := asd (And.intro (I3.out.1.drewN nq) (grown_drewN I3.out.2 nq))
            generalize w3.drewN nq = w4 at *
            clear c0 c1 I3
            go_wp2_with (go_at_call 59; refine (descape_any r s q d _ I4.out.1 hlt hs).mono ?_; rintro en w5 ⟨t, q2, e2, rfl, E, h5, g5⟩; have H5 := asd (And.intro h5 (gtrans I4.out.2 g5)); have TT := asd (ST.out q2 e2 t E); have zt : t.size ≤ 4 := E.2.1; clear h5 g5 E)
            go_roundg (if e2 = 0 then s.size - q2 + 1 else 0)
            case measure =>
              have h1 := TT.out.2
              have h2 := TT.out.1.1
              by_cases e0 : e2 = 0
              · have := h1 e0
                rw [if_pos e0]
                omega
              · rw [if_neg e0]
                omega
            case rel => exact ⟨q2, e2, acc ++ t.data.toList, Nat.le_refl _, by rw [CT.out], TT.out.1, H5⟩
          · have t2 : ((x.toNat : Int) == 92) = false := by rw [beq_eq_false_iff_ne]; omega
            have t2' : ¬ ((x.toNat : Int) = 92) := by omega
            have n92 : s.get! q ≠ 92 := by rw [hxg]; intro e; exact h92 (by rw [e]; rfl)
            have KF := asd (fun u : World => Si.first_any (s.extract q s.size) u (by simp; omega) (by simp; omega))
            rw [(rn_L s q).1, (rn_L s q).2] at KF
            have zl := T.out.len hs
            by_cases hb : (Lib.decodeL (L s q)).1 < 32 ∨ ((Lib.decodeL (L s q)).1 = 65533 ∧ (Lib.decodeL (L s q)).2 = 1)
            · have E := asd (T.out.bad hlt n34 n92 hb)
              clear T hxg h34 h92 n34 n92
              generalize Lib.decodeL (L s q) = nk at *
              obtain ⟨n, k⟩ := nk
              simp only at hb KF
              by_cases hn : n < 32
              · have b1 : decide ((n : Int) < 32) = true := by simp; omega
                clear hb
                go_wp2
                go_quiet (fail)
                have I2 := asd (And.intro (I.out.1.drewN nq) (grown_drewN I.out.2 nq))
                generalize wr.drewN nq = w2 at *
                clear c0 c1 c3 I
                have c0 := I2.out.1.c0
                have c1 := I2.out.1.c1
                go_wp2
                go_quiet (fail)
                have I3 := asd (And.intro (I2.out.1.drewN nq) (grown_drewN I2.out.2 nq))
                generalize w2.drewN nq = w3 at *
                clear c0 c1 I2
                have c0 := I3.out.1.c0
                have c1 := I3.out.1.c1
                go_wp2
                go_quiet (fail)
                have I4 := asd (And.intro (I3.out.1.drewN nq) (grown_drewN I3.out.2 nq))
                generalize w3.drewN nq = w4 at *
                clear c0 c1 I3
                have c0q : ∀ z : Later w4, z.u.cell? ⟨r, 0, none⟩ = some (.string s) := fun z => ((I4.out.1.below I4.out.1.lt z.bel)).c0
                have c1q : ∀ z : Later w4, z.u.cell? ⟨r, 1, none⟩ = some (.int .i64 (q : Int)) := fun z => ((I4.out.1.below I4.out.1.lt z.bel)).c1
                go_wp2
                have hne := later_some w4
                refine wp_region_later (by kernel_rfl) (by kernel_rfl) ?_
                repeat (go_big_quiet_step ((go_at_call 27; exact calls_later (KF.out _))))
                refine wpQuiet_nil ?_
                rintro _ ⟨z, rfl⟩
                have I5 := asd (And.intro (I4.out.1.below I4.out.1.lt z.bel) (gtrans I4.out.2 (gbelow z.bel)))
                generalize z.u = w5 at *
                clear c0q c1q hne I4 KF
                go_wp2_with (go_at_call 25; refine (bad_any r s q d 0 3 _ I5.out.1).mono ?_; rintro en w6 ⟨rfl, h6, g6⟩; have H6 := asd (And.intro h6 (gtrans I5.out.2 g6)); clear h6 g6)
                go_ret
                exact ⟨[], q, 3, rfl, E.out, H6.out.1, H6.out.2⟩
              · have b1 : decide ((n : Int) < 32) = false := by simp; omega
                obtain ⟨rfl, rfl⟩ := hb.resolve_left hn
                clear hb
                go_wp2
                go_quiet (fail)
                have I2 := asd (And.intro (I.out.1.drewN nq) (grown_drewN I.out.2 nq))
                generalize wr.drewN nq = w2 at *
                clear c0 c1 c3 I
                have c0 := I2.out.1.c0
                have c1 := I2.out.1.c1
                go_wp2
                go_quiet (fail)
                have I3 := asd (And.intro (I2.out.1.drewN nq) (grown_drewN I2.out.2 nq))
                generalize w2.drewN nq = w3 at *
                clear c0 c1 I2
                have c0 := I3.out.1.c0
                have c1 := I3.out.1.c1
                go_wp2
                go_quiet (fail)
                have I4 := asd (And.intro (I3.out.1.drewN nq) (grown_drewN I3.out.2 nq))
                generalize w3.drewN nq = w4 at *
                clear c0 c1 I3
                have c0q : ∀ z : Later w4, z.u.cell? ⟨r, 0, none⟩ = some (.string s) := fun z => ((I4.out.1.below I4.out.1.lt z.bel)).c0
                have c1q : ∀ z : Later w4, z.u.cell? ⟨r, 1, none⟩ = some (.int .i64 (q : Int)) := fun z => ((I4.out.1.below I4.out.1.lt z.bel)).c1
                go_wp2
                have hne := later_some w4
                refine wp_region_later (by kernel_rfl) (by kernel_rfl) ?_
                repeat (go_big_quiet_step ((go_at_call 27; exact calls_later (KF.out _))))
                refine wpQuiet_nil ?_
                rintro _ ⟨z, rfl⟩
                have I5 := asd (And.intro (I4.out.1.below I4.out.1.lt z.bel) (gtrans I4.out.2 (gbelow z.bel)))
                generalize z.u = w5 at *
                clear c0q c1q hne I4 KF
                go_wp2_with (go_at_call 25; refine (bad_any r s q d 0 3 _ I5.out.1).mono ?_; rintro en w6 ⟨rfl, h6, g6⟩; have H6 := asd (And.intro h6 (gtrans I5.out.2 g6)); clear h6 g6)
                go_ret
                exact ⟨[], q, 3, rfl, E.out, H6.out.1, H6.out.2⟩
            · obtain ⟨t1g, hk1, hkl⟩ := T.out.plain hlt n34 n92 hb
              have GT0 := asd t1g
              have ev := ext_take s q (Lib.decodeL (L s q)).2
              clear T hxg h34 h92 n34 n92 t1g
              generalize hL : L s q = l at *
              generalize hD : Lib.decodeL l = nk at *
              obtain ⟨n, k⟩ := nk
              simp only at hb KF GT0 ev hk1 hkl
              have CT := asd (bs_cat acc (s.extract q (q + k)))
              have GT : Aside (TR s p (q + k) 0 (acc ++ (s.extract q (q + k)).data.toList)) := by
                show TR _ _ _ _ _
                rw [ev]
                exact GT0.out
              have zx : (s.extract q (q + k)).size ≤ 1000 := by simp; omega
              clear GT0 ev hL hD
              have b1 : decide ((n : Int) < 32) = false := by simp; omega
              by_cases hn : n = 65533
              · have b2 : ((n : Int) == 65533) = true := by rw [beq_iff_eq]; omega
                have b3 : ((k : Int) == 1) = false := by rw [beq_eq_false_iff_ne]; omega
                have b4 : ¬ ((k : Int) = 1) := by omega
                clear hb
                go_wp2
                go_quiet (fail)
                have I2 := asd (And.intro (I.out.1.drewN nq) (grown_drewN I.out.2 nq))
                generalize wr.drewN nq = w2 at *
                clear c0 c1 c3 I
                have c0 := I2.out.1.c0
                have c1 := I2.out.1.c1
                go_wp2
                go_quiet (fail)
                have I3 := asd (And.intro (I2.out.1.drewN nq) (grown_drewN I2.out.2 nq))
                generalize w2.drewN nq = w3 at *
                clear c0 c1 I2
                have c0 := I3.out.1.c0
                have c1 := I3.out.1.c1
                go_wp2
                go_quiet (fail)
                have I4 := asd (And.intro (I3.out.1.drewN nq) (grown_drewN I3.out.2 nq))
                generalize w3.drewN nq = w4 at *
                clear c0 c1 I3
                have c0q : ∀ z : Later w4, z.u.cell? ⟨r, 0, none⟩ = some (.string s) := fun z => ((I4.out.1.below I4.out.1.lt z.bel)).c0
                have c1q : ∀ z : Later w4, z.u.cell? ⟨r, 1, none⟩ = some (.int .i64 (q : Int)) := fun z => ((I4.out.1.below I4.out.1.lt z.bel)).c1
                go_wp2
                have hne := later_some w4
                refine wp_region_later (by kernel_rfl) (by kernel_rfl) ?_
                repeat (go_big_quiet_step ((go_at_call 27; exact calls_later (KF.out _))))
                refine wpQuiet_nil ?_
                rintro _ ⟨z, rfl⟩
                have I5 := asd (And.intro (I4.out.1.below I4.out.1.lt z.bel) (gtrans I4.out.2 (gbelow z.bel)))
                generalize z.u = w5 at *
                clear c0q c1q hne I4 KF
                have c0 := I5.out.1.c0
                have c1 := I5.out.1.c1
                go_wp2
                go_quiet (fail)
                have I6 := asd (And.intro (I5.out.1.drewN nq) (grown_drewN I5.out.2 nq))
                generalize w5.drewN nq = w6 at *
                clear c0 c1 I5
                have c1 := I6.out.1.c1
                have f1 := I6.out.1.fz 1
                have I8 := asd (And.intro (I6.out.1.set1 (q + k)) (gtrans I6.out.2 (grown_set w6 r 1 (.int .i64 ((q + k : Nat) : Int)))))
                rw [show ((q + k : Nat) : Int) = (q : Int) + (k : Int) by omega] at I8
                go_wp2
                go_roundg (s.size - (q + k) + 1)
                case measure => omega
                case rel => exact ⟨q + k, 0, _, Nat.le_refl _, by rw [CT.out], GT.out, I8⟩
              · have b2 : ((n : Int) == 65533) = false := by rw [beq_eq_false_iff_ne]; omega
                have b2' : ¬ ((n : Int) = 65533) := by omega
                clear hb
                go_wp2
                go_quiet (fail)
                have I2 := asd (And.intro (I.out.1.drewN nq) (grown_drewN I.out.2 nq))
                generalize wr.drewN nq = w2 at *
                clear c0 c1 c3 I
                have c0 := I2.out.1.c0
                have c1 := I2.out.1.c1
                go_wp2
                go_quiet (fail)
                have I3 := asd (And.intro (I2.out.1.drewN nq) (grown_drewN I2.out.2 nq))
                generalize w2.drewN nq = w3 at *
                clear c0 c1 I2
                have c0 := I3.out.1.c0
                have c1 := I3.out.1.c1
                go_wp2
                go_quiet (fail)
                have I4 := asd (And.intro (I3.out.1.drewN nq) (grown_drewN I3.out.2 nq))
                generalize w3.drewN nq = w4 at *
                clear c0 c1 I3
                have c0q : ∀ z : Later w4, z.u.cell? ⟨r, 0, none⟩ = some (.string s) := fun z => ((I4.out.1.below I4.out.1.lt z.bel)).c0
                have c1q : ∀ z : Later w4, z.u.cell? ⟨r, 1, none⟩ = some (.int .i64 (q : Int)) := fun z => ((I4.out.1.below I4.out.1.lt z.bel)).c1
                go_wp2
                have hne := later_some w4
                refine wp_region_later (by kernel_rfl) (by kernel_rfl) ?_
                repeat (go_big_quiet_step ((go_at_call 27; exact calls_later (KF.out _))))
                refine wpQuiet_nil ?_
                rintro _ ⟨z, rfl⟩
                have I5 := asd (And.intro (I4.out.1.below I4.out.1.lt z.bel) (gtrans I4.out.2 (gbelow z.bel)))
                generalize z.u = w5 at *
                clear c0q c1q hne I4 KF
                have c0 := I5.out.1.c0
                have c1 := I5.out.1.c1
                go_wp2
                go_quiet (fail)
                have I6 := asd (And.intro (I5.out.1.drewN nq) (grown_drewN I5.out.2 nq))
                generalize w5.drewN nq = w6 at *
                clear c0 c1 I5
                have c1 := I6.out.1.c1
                have f1 := I6.out.1.fz 1
                have I8 := asd (And.intro (I6.out.1.set1 (q + k)) (gtrans I6.out.2 (grown_set w6 r 1 (.int .i64 ((q + k : Nat) : Int)))))
                rw [show ((q + k : Nat) : Int) = (q : Int) + (k : Int) by omega] at I8
                go_wp2
                go_roundg (s.size - (q + k) + 1)
                case measure => omega
                case rel => exact ⟨q + k, 0, _, Nat.le_refl _, by rw [CT.out], GT.out, I8⟩
      · obtain rfl : q = s.size := by omega
        have d2 : decide (s.size ≤ s.size) = true := by simp
        have E := asd (T.out.over (Nat.le_refl _))
        clear T
        go_wp2
        go_quiet (fail)
        have I2 := asd (And.intro (I.out.1.drewN nq) (grown_drewN I.out.2 nq))
        generalize wr.drewN nq = w2 at *
        clear c0 c1 c3 I
        go_wp2_with (go_at_call 25; refine (bad_any r s s.size d 0 3 _ I2.out.1).mono ?_; rintro en w6 ⟨rfl, h6, g6⟩; have H6 := asd (And.intro h6 (gtrans I2.out.2 g6)); clear h6 g6)
        go_ret
        exact ⟨[], s.size, 3, rfl, E.out, H6.out.1, H6.out.2⟩
    · have d3 : ((e : Int) == 0) = false := by rw [beq_eq_false_iff_ne]; omega
      have d4 : ¬ ((e : Int) = 0) := by omega
      have E := asd (T.out.gone he)
      clear T
      go_wp2
      go_ret
      exact ⟨[], q, e, rfl, E.out, I.out.1, I.out.2⟩
end Go.Proofs.YtpeioecpilmpiaaGreatDoor

/-
  What a value and a member leave, and a member without a name.
-/
namespace Go.Proofs.YtpeioecpilmpiaaGreatDoor
open Go.RowKit
theorem Sl.one {B : Nat} {w : World} {v : Value} {l : List Js.B} (h : Sl B w v l) : v.oneCell' = true := by
  obtain ⟨a, c, rfl, _⟩ := h.form
  rfl
theorem Sl.base {B B' : Nat} {w : World} {v : Value} {l : List Js.B} (h : Sl B w v l) (hb : B' ≤ B) : Sl B' w v l := own_base h hb
theorem Sl.grown {B r : Nat} {w w' : World} {v : Value} {l : List Js.B} (h : Sl B w v l) (g : w.grownBy w' (some r)) (hr : r < B) : Sl B w' v l :=
  own_frame h fun k hk => g.block k (own_place h hk).2 (fun e => by injection e with e; have := (own_place h hk).1; omega)
theorem Bk.cell {w : World} {b : Nat} {c : Array Value} (h : Bk w b c) (i : Nat) : w.cell? ⟨b, i, none⟩ = c[i]? := cell_of_row w b i c 28 (0, 0) h
theorem Bk.fz {w : World} {b : Nat} {c : Array Value} (h : Bk w b c) (i : Nat) : w.frozen? ⟨b, i, none⟩ = false := frozen_of_row w b i c 28 h
theorem Bk.set {w : World} {b : Nat} {c : Array Value} (h : Bk w b c) (i : Nat) (v : Value) : Bk (w.setCell ⟨b, i, none⟩ v) b (c.setIfInBounds i v) := set_same h
theorem Bk.below {w w' : World} {b : Nat} {c : Array Value} (h : Bk w b c) (hb : Below w.heap.size w w') : Bk w' b c := h.keep (hb.block b h.lt)

/-- What a member leaves: its name, its value, and what is left. -/
def obS (g : Js.B → Js.Ans) (l : Js.B) (ns : List Js.B) : Except Nat (Js.B × Js.X × Js.B) := match Js.skip l with
  | 34 :: t => (match Js.txx t [] with
    | none => .error 3
    | some (name, r) =>
      if name ∈ ns then .error 7
      else match Js.skip r with
        | 58 :: r1 => (match g r1 with
          | .error e => .error e
          | .ok (x, r2) => .ok (name, x, r2))
        | _ => .error 3)
  | _ => .error 3
/-- How long a value's form may be behind a fault. -/
def bnd (n : Nat) : Nat := 100000 * (n + 1)
/-- What the document's reader leaves of a value. -/
def VOut (r : Nat) (s : ByteArray) (p n : Nat) (w : World) (en : Ending) (w' : World) : Prop :=
  ∃ (q e d : Nat) (k : Int) (f t : Js.B) (m : Int) (nv iv : Value) (ns is : List Js.B), en = .returned (.agg (vc6 k f t m nv iv)) ∧ Rq r s q d e w' ∧ w.grownBy w' (some r) ∧ q ≤ s.size ∧ d ≤ 1000 ∧ 8 ≤ d + n ∧
    Sl w.heap.size w' nv ns ∧ Sl w.heap.size w' iv is ∧ f.length ≤ bnd n ∧
    ((∃ x, Js.pv n (L s p) = .ok (x, L s q) ∧ e = 0 ∧ d + n = 8 ∧ k = (x.kind : Int) ∧ f = x.form ∧ t = x.text ∧ m = x.num ∧ ns = x.names ∧ is = x.items) ∨
      (∃ fa, Js.pv n (L s p) = .error fa ∧ fa ≠ 0 ∧ (e = fa ∨ (fa = 3 ∧ e = 0 ∧ d + n = 8 ∧ q < s.size ∧ Js.isDg (s.get! q) = true))))
/-- The contract of Value at a depth. -/
def VCd (n : Nat) : Prop := ∀ (r : Nat) (s : ByteArray) (p d : Nat) (w : World), Rq r s p d 0 w → d + n = 8 → p ≤ s.size → s.size ≤ 1000 →
  Calls Tryz.prog 23 #[.pointer (some ⟨r, 0, none⟩)] w fun en w' => VOut r s p n w en w'

/-- What member leaves. -/
def MOut (B r : Nat) (s : ByteArray) (p n : Nat) (ns is : List Js.B) (w : World) (en : Ending) (w' : World) : Prop :=
  ∃ (q e d : Nat) (nv iv : Value) (ns' is' : List Js.B), en = .returned (.agg (vc6 6 [] [] 0 nv iv)) ∧ Rq r s q d e w' ∧ w.grownBy w' (some r) ∧ q ≤ s.size ∧ d ≤ 1000 ∧ 8 ≤ d + n ∧ Sl B w' nv ns' ∧ Sl B w' iv is' ∧
    ((∃ name x, obS (Js.pv n) (L s p) ns = .ok (name, x, L s q) ∧ name ∉ ns ∧ e = 0 ∧ d + n = 8 ∧ ns' = ns.take (Js.place ns name) ++ name :: ns.drop (Js.place ns name) ∧ is' = is.take (Js.place ns name) ++ x.form :: is.drop (Js.place ns name)) ∨
      (∃ fa, obS (Js.pv n) (L s p) ns = .error fa ∧ fa ≠ 0 ∧ (e = fa ∨ (fa = 3 ∧ e = 0 ∧ d + n = 8 ∧ q < s.size ∧ Js.isDg (s.get! q) = true)) ∧
        ((ns' = ns ∧ is' = is) ∨ ∃ name f j, name.length ≤ 4000 ∧ f.length ≤ bnd n ∧ j ≤ ns.length ∧ ns' = ns.take j ++ name :: ns.drop j ∧ is' = is.take j ++ f :: is.drop j)))

/-- The memory of member: both blocks that it makes first, and the rows that came in. -/
structure MS (B r : Nat) (s : ByteArray) (V : Array Value) (nv iv : Value) (ns is : List Js.B) (w : World) (q d e : Nat) (u : World) : Prop where
  rq : Rq r s q d e u
  gr : w.grownBy u (some r)
  bv : Bk u w.heap.size V
  bz : Bk u (w.heap.size + 1) z6
  sn : Sl B u nv ns
  si : Sl B u iv is
theorem MS.next {B r : Nat} {s : ByteArray} {V : Array Value} {nv iv : Value} {ns is : List Js.B} {w u u' : World} {q d e q' d' e' : Nat} (h : MS B r s V nv iv ns is w q d e u) (hr : r < B) (hw : r < w.heap.size)
    (g : u.grownBy u' (some r)) (k : Rq r s q' d' e' u') : MS B r s V nv iv ns is w q' d' e' u' :=
  ⟨k, gtrans h.gr g, h.bv.grown g (by omega), h.bz.grown g (by omega), h.sn.grown g hr, h.si.grown g hr⟩
theorem MS.below {B r : Nat} {s : ByteArray} {V : Array Value} {nv iv : Value} {ns is : List Js.B} {w u u' : World} {q d e : Nat} (h : MS B r s V nv iv ns is w q d e u) (hr : r < B) (hw : r < w.heap.size)
    (g : Below u.heap.size u u') : MS B r s V nv iv ns is w q d e u' := h.next hr hw (gbelow g) (h.rq.below h.rq.lt g)
theorem obS_no {g : Js.B → Js.Ans} {l : Js.B} {ns : List Js.B} (h : ∀ t, Js.skip l ≠ 34 :: t) : obS g l ns = .error 3 := by
  unfold obS
  split
  · rename_i t e
    exact absurd e (h t)
  · rfl
theorem obS_text {g : Js.B → Js.Ans} {l t : Js.B} {ns : List Js.B} (h : Js.skip l = 34 :: t) (ht : Js.txx t [] = none) : obS g l ns = .error 3 := by
  unfold obS
  rw [h]
  simp only [ht]
theorem obS_there {g : Js.B → Js.Ans} {l t name r : Js.B} {ns : List Js.B} (h : Js.skip l = 34 :: t) (ht : Js.txx t [] = some (name, r)) (hn : name ∈ ns) : obS g l ns = .error 7 := by
  unfold obS
  rw [h]
  simp only [ht]
  rw [if_pos hn]
theorem obS_colon {g : Js.B → Js.Ans} {l t name r : Js.B} {ns : List Js.B} (h : Js.skip l = 34 :: t) (ht : Js.txx t [] = some (name, r)) (hn : name ∉ ns) (hc : ∀ r1, Js.skip r ≠ 58 :: r1) : obS g l ns = .error 3 := by
  unfold obS
  rw [h]
  simp only [ht]
  rw [if_neg hn]
theorem obS_go {g : Js.B → Js.Ans} {l t name r r1 : Js.B} {ns : List Js.B} (h : Js.skip l = 34 :: t) (ht : Js.txx t [] = some (name, r)) (hn : name ∉ ns) (hc : Js.skip r = 58 :: r1) : obS g l ns = match g r1 with | .error e => .error e | .ok (x, r2) => .ok (name, x, r2) := by
  unfold obS
  rw [h]
  simp only [ht]
  rw [if_neg hn]
  simp only [hc]

theorem obx_obS (g : Js.B → Js.Ans) (hg : Js.Shr g) (l : Js.B) (acc : List (Js.B × Js.X)) : Js.obx g l acc = match obS g l (acc.map (·.1)) with
    | .error e => .error e
    | .ok (name, x, r2) => match Js.skip r2 with
      | 44 :: r3 => Js.obx g r3 (Js.ins acc name x)
      | 125 :: r3 => .ok (Js.ins acc name x, r3)
      | _ => .error 3 := by
  rw [Js.obx_eq g hg]
  split
  · rename_i t e
    cases ht : Js.txx t [] with
    | none => rw [obS_text e ht]
    | some y =>
      obtain ⟨name, r⟩ := y
      simp only []
      split
      · rename_i hn
        rw [obS_there e ht hn]
      · rename_i hn
        split
        · rename_i r1 e1
          rw [obS_go e ht hn e1]
          cases g r1 with
          | error e => rfl
          | ok x => rfl
        · rename_i hx
          rw [obS_colon e ht hn (fun r1 e1 => hx r1 e1)]
  · rename_i hx
    rw [obS_no (fun t e => hx t e)]

/-- The two blocks that member makes first. -/
theorem MS.start {B r : Nat} {s : ByteArray} {nv iv : Value} {ns is : List Js.B} {w : World} {p d : Nat} (h : Rq r s p d 0 w) (sn : Sl B w nv ns) (si : Sl B w iv is) :
    MS B r s (vc6 6 [] [] 0 nv iv) nv iv ns is w p d 0 ((w.alloc (.cells (vc6 6 [] [] 0 nv iv) 28)).alloc (.cells z6 28)) := by
  have b1 : Below w.heap.size w ((w.alloc (.cells (vc6 6 [] [] 0 nv iv) 28)).alloc (.cells z6 28)) := ((Below.refl _ _).alloc (Nat.le_refl _) _).alloc (by simp) _
  have e1 : (w.alloc (.cells (vc6 6 [] [] 0 nv iv) 28)).heap.size = w.heap.size + 1 := by simp
  refine ⟨h.below h.lt b1, gbelow b1, ?_, ?_, sn.below b1, si.below b1⟩
  · exact (Bk.new w _).below ((Below.refl _ _).alloc (Nat.le_refl _) _)
  · have := Bk.new (w.alloc (.cells (vc6 6 [] [] 0 nv iv) 28)) z6
    rw [e1] at this
    exact this

/-- Behind a fault nothing stands. -/
theorem fl3_ne (e : Nat) : fl e 3 ≠ 0 := fl_ne e 3 (by decide)

set_option maxHeartbeats 4000000 in
set_option maxRecDepth 100000 in
/-- No name stands there. -/
theorem dmember_no (B r : Nat) (s : ByteArray) (p d n : Nat) (nv iv : Value) (ns is : List Js.B) (w : World) (h : Rq r s p d 0 w) (hr : r < B) (hp : p ≤ s.size) (hs : s.size ≤ 1000) (hd : d ≤ 1000) (hdn : d + n = 8) (sn : Sl B w nv ns) (si : Sl B w iv is)
    (h34 : iz s (sk s p) 0 34 = false) :
    Calls Tryz.prog 57 #[.pointer (some ⟨r, 0, none⟩), .agg (vc6 6 [] [] 0 nv iv)] w fun en w' => MOut B r s p n ns is w en w' := by
  have rlt := h.lt
  have M0 := asd (MS.start h sn si)
  have hq := sk_le s p
  have E := asd (obS_no (g := Js.pv n) (l := L s p) (ns := ns) (by rw [← L_sk]; exact iz_false h34))
  have K1 := asd (fun w1 h1 => dblanks_sk r s p d 0 w1 h1 hp hs)
  have K2 := asd (fun w1 h1 => is_any r s (sk s p) d 0 34 w1 h1)
  rw [h34] at K2
  have K3 := asd (fun w1 h1 => bad_any r s (sk s p) d 0 3 w1 h1)
  have o1 := sn.one
  have o2 := si.one
  have SN := asd sn
  have SI := asd si
  clear h sn si h34
  generalize sk s p = q at *
  go_enter Tryz.func57, Tryz.ntmps57
  go_wp2_with (first
    | (go_at_call 24; refine (K1.out _ M0.out.rq).mono ?_; rintro en w1 ⟨rfl, h1, g1⟩; have M1 := asd (M0.out.next hr rlt g1 h1); clear h1 g1 M0 K1)
    | (go_at_call 36; refine (K2.out _ M1.out.rq).mono ?_; rintro en w2 ⟨rfl, h2, g2⟩; have M2 := asd (M1.out.next hr rlt ⟨g2.os, g2.tape, g2.output, g2.size, fun k hk _ => g2.block k hk (fun e => by cases e)⟩ h2); clear h2 g2 M1 K2)
    | (go_at_call 25; refine (K3.out _ M2.out.rq).mono ?_; rintro en w3 ⟨rfl, h3, g3⟩; have M3 := asd (M2.out.next hr rlt g3 h3); clear h3 g3 M2 K3)
    | (refine wpList_load_row rfl 28 _ rfl _ rfl 28 _ (0, 0) _ M3.out.bv Tryz.underlying28 rfl (sz28 _ _ _ _ _ _) ?_)
    | (refine wpList_store_row rfl 28 _ _ rfl _ (vc6 6 [] [] 0 nv iv) rfl rfl 28 _ M3.out.bz (sz28 _ _ _ _ _ _) rfl (vc6_one _ _ _ _ _ _ o1 o2) ?_))
  have g4 := grown_row M3.out.gr (w.heap.size + 1) (vc6 6 [] [] 0 nv iv) (by omega)
  refine bodyPost_ret (results_cell_row Tryz.results57 _ _ (w.heap.size + 1) 28 (vc6 6 [] [] 0 nv iv) (0, 0) _ rfl (setRow_heap _ _ _ _ _ _ M3.out.bz) Tryz.underlying28 rfl (sz28 _ _ _ _ _ _)) rfl ?_
  exact ⟨q, fl 0 3, d, nv, iv, ns, is, rfl, M3.out.rq.keep (setRow_other _ _ _ _ (by omega)), g4, hq, hd, by omega, SN.out.grown g4 hr, SI.out.grown g4 hr, .inr ⟨3, E.out, by decide, .inl rfl, .inl ⟨rfl, rfl⟩⟩⟩
end Go.Proofs.YtpeioecpilmpiaaGreatDoor
