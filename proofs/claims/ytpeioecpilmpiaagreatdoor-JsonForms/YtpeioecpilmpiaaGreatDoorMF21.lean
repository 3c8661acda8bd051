/-
  YtpeioecpilmpiaaGreatDoor: the texts D4, D5, SM, SR1, one behind the other.
-/
import Derived.Test.YtpeioecpilmpiaaGreatDoorMF20
import Derived.WalkKit
import Derived.WalkSpells
import Derived.WalkLawsBesides
import Derived.Deep.LoopGhost
import Derived.Laws.Externs
import Derived.Below
import Derived.BigQuiet
import Derived.Deep.RegionWith
import Derived.OwnWalk
import Derived.Maps.AppendAt
import Derived.WalkSmall
import Derived.Test.YtpeioecpilmpiaaGreatDoorMF16
import Derived.Lib.MapLaws
import Derived.Lib.RuneCountTail
import Derived.Lib.TrimU
import Derived.Laws.RangeAny
/-
  The document's reader: word.
-/
namespace Go.Proofs.YtpeioecpilmpiaaGreatDoor
open Go.RowKit
theorem ext_take (s : ByteArray) (p n : Nat) : (s.extract p (p + n)).data.toList = (L s p).take n := by
  unfold L
  simp
theorem pre_iff (s wd : ByteArray) (p : Nat) : wd.data.toList.isPrefixOf (L s p) = true ↔ s.extract p (p + wd.size) = wd := by
  rw [List.isPrefixOf_iff_prefix, List.prefix_iff_eq_take]
  constructor
  · intro h
    apply ByteArray.ext
    apply Array.toList_inj.1
    rw [ext_take]
    exact h.symm
  · intro h
    have := congrArg (fun x : ByteArray => x.data.toList) h
    simp only [ext_take] at this
    exact this.symm
theorem toList_ne' {a b : ByteArray} (h : a ≠ b) : ¬ a.toList = b.toList := fun e => h (by
  rw [ByteArray.toList_eq, ByteArray.toList_eq] at e
  exact ByteArray.ext (Array.toList_inj.mp e))

set_option maxHeartbeats 1000000 in
theorem dword_any (r : Nat) (s wd : ByteArray) (p d e : Nat) (w : World) (h' : Rq r s p d e w) (hp : p ≤ s.size) (hs : s.size ≤ 1000) (hw : wd.size ≤ 1000) :
    Calls Tryz.prog 40 #[.pointer (some ⟨r, 0, none⟩), .string wd] w fun en w' => en = .returned (.bool (wd.data.toList.isPrefixOf (L s p))) ∧ Rq r s (if wd.data.toList.isPrefixOf (L s p) then p + wd.size else p) d e w' ∧ w.grownBy w' (some r) := by
  have c0 := h'.c0
  have c1 := h'.c1
  have f1 := h'.fz 1
  have N0 : Aside (∀ n, Rq r s p d e (w.drewN n) ∧ w.grownBy (w.drewN n) (some r)) := fun n => ⟨h'.drewN n, grown_drewN (grefl _ _) n⟩
  have N1 : Aside (∀ n, Rq r s (p + wd.size) d e ((w.drewN n).setCell ⟨r, 1, none⟩ (.int .i64 ((p : Int) + (wd.size : Int)))) ∧ w.grownBy ((w.drewN n).setCell ⟨r, 1, none⟩ (.int .i64 ((p : Int) + (wd.size : Int)))) (some r)) := fun n => by
    have := (h'.drewN n).set1 (p + wd.size)
    rw [show ((p + wd.size : Nat) : Int) = (p : Int) + (wd.size : Int) by omega] at this
    exact ⟨this, gtrans (grown_drewN (grefl _ _) n) (grown_set _ _ _ _)⟩
  clear h'
  by_cases hz : s.size < p + wd.size
  · have hf : wd.data.toList.isPrefixOf (L s p) = false := by
      rw [Bool.eq_false_iff]
      intro hh
      have := (List.isPrefixOf_iff_prefix.1 hh).length_le
      rw [L_len] at this
      have : wd.data.toList.length = wd.size := rfl
      omega
    rw [hf]
    have d1 : decide ((s.size : Int) - (p : Int) < (wd.size : Int)) = true := by simp; omega
    have N0' := N0
    clear N0 N1 hf
    go_enter Tryz.func40, Tryz.ntmps40
    go_wp2
    go_quiet (fail)
    go_wp2
    go_ret
    exact ⟨rfl, (N0'.out _).1, (N0'.out _).2⟩
  · have d1 : decide ((s.size : Int) - (p : Int) < (wd.size : Int)) = false := by simp; omega
    have hle : p + wd.size ≤ s.size := by omega
    by_cases he : s.extract p (p + wd.size) = wd
    · rw [(pre_iff s wd p).2 he]
      have e0 : s.extract p (p + wd.size) = wd := he
      have e1 : (wd.toList != wd.toList) = false := bne_self_eq_false _
      have N1' := N1
      clear N0 N1
      go_enter Tryz.func40, Tryz.ntmps40
      go_wp2
      go_quiet (fail)
      go_wp2
      go_ret
      exact ⟨rfl, (N1'.out _).1, (N1'.out _).2⟩
    · have hf : wd.data.toList.isPrefixOf (L s p) = false := by
        rw [Bool.eq_false_iff]
        exact fun hh => he ((pre_iff s wd p).1 hh)
      rw [hf]
      have e1 := toList_ne' he
      have e2 : ((s.extract p (p + wd.size)).toList == wd.toList) = false := by rw [beq_eq_false_iff_ne]; exact e1
      have e3 : ((s.extract p (p + wd.size)).toList != wd.toList) = true := by rw [bne_iff_ne]; exact e1
      have N0' := N0
      clear N0 N1 hf he
      generalize hX : s.extract p (p + wd.size) = X at *
      go_enter Tryz.func40, Tryz.ntmps40
      go_wp2
      go_quiet (fail)
      go_wp2
      go_ret
      exact ⟨rfl, (N0'.out _).1, (N0'.out _).2⟩
end Go.Proofs.YtpeioecpilmpiaaGreatDoor

/-
  The document's four digits to base 16.
-/
namespace Go.Proofs.YtpeioecpilmpiaaGreatDoor
open Go.RowKit
/-- Four digits to base 16, below 0: there are none. -/
def hexI (l : Js.B) : Int := match Js.hexs 4 0 l with | none => -1 | some x => (x.1 : Int)
theorem hexs_short : ∀ (k n : Nat) (l : Js.B), l.length < k → Js.hexs k n l = none
  | 0, _, _, h => absurd h (Nat.not_lt_zero _)
  | k + 1, n, [], _ => rfl
  | k + 1, n, b :: t, h => by
    simp only [Js.hexs]
    cases Js.hexv b with
    | none => rfl
    | some d => exact hexs_short k _ t (by simpa using h)
theorem hexI_short (l : Js.B) (h : l.length < 4) : hexI l = -1 := by unfold hexI; rw [hexs_short 4 0 l h]
theorem pow_step {n d j : Nat} (h : n < 16 ^ j) (hd : d < 16) : n * 16 + d < 16 ^ (j + 1) := by
  rw [Nat.pow_succ]
  omega
theorem pow_le3 {n j : Nat} (h : n < 16 ^ j) (hj : j ≤ 3) : n < 4096 := Nat.lt_of_lt_of_le h (Nat.pow_le_pow_right (n := 16) (by omega) hj)
def HX (s : ByteArray) (a b n : Nat) : Prop := a ≤ b ∧ b ≤ a + 4 ∧ n < 16 ^ (b - a) ∧ Js.hexs (a + 4 - b) n (L s b) = Js.hexs 4 0 (L s a)
theorem HX.start (s : ByteArray) (a : Nat) : HX s a a 0 := ⟨by omega, by omega, by simp, by rw [show a + 4 - a = 4 by omega]⟩
theorem HX.step {s : ByteArray} {a b n : Nat} (h : HX s a b n) (hb : b < a + 4) (hs : b < s.size) {v : Nat} (hv : Js.hexv s[b] = some v) (hv16 : v < 16) : HX s a (b + 1) (n * 16 + v) := by
  obtain ⟨h1, h2, h3, h4⟩ := h
  refine ⟨by omega, by omega, ?_, ?_⟩
  · rw [show b + 1 - a = (b - a) + 1 by omega]
    exact pow_step h3 hv16
  · rw [← h4, L_cons s b hs, get_at s b hs, show a + 4 - b = (a + 4 - (b + 1)) + 1 by omega]
    simp only [Js.hexs, hv]
theorem HX.bad {s : ByteArray} {a b n : Nat} (h : HX s a b n) (hb : b < a + 4) (hs : b < s.size) (hv : Js.hexv s[b] = none) : hexI (L s a) = -1 := by
  obtain ⟨h1, h2, h3, h4⟩ := h
  unfold hexI
  rw [← h4, L_cons s b hs, get_at s b hs, show a + 4 - b = (a + 4 - (b + 1)) + 1 by omega]
  simp only [Js.hexs, hv]
theorem HX.done {s : ByteArray} {a n : Nat} (h : HX s a (a + 4) n) : hexI (L s a) = (n : Int) := by
  obtain ⟨h1, h2, h3, h4⟩ := h
  unfold hexI
  rw [← h4, show a + 4 - (a + 4) = 0 by omega]
  rfl
theorem HX.lt {s : ByteArray} {a b n : Nat} (h : HX s a b n) (hb : b < a + 4) : n < 4096 := pow_le3 h.2.2.1 (by have := h.1; omega)

set_option maxHeartbeats 1600000 in
set_option maxRecDepth 100000 in
theorem dhex_any (s : ByteArray) (a : Nat) (w : World) (hs : s.size ≤ 1000) (ha : a ≤ 1000) :
    Calls Tryz.prog 76 #[.string s, .int .i64 (a : Int)] w fun en w' => en = .returned (.int .i64 (hexI (L s a))) ∧ w' = w := by
  by_cases h4 : s.size < a + 4
  · have d1 : decide ((s.size : Int) < (a : Int) + 4) = true := by simp; omega
    rw [hexI_short _ (by rw [L_len]; omega)]
    go_enter Tryz.func76, Tryz.ntmps76
    go_wp2
    go_ret
    exact ⟨rfl, rfl⟩
  · have d1 : decide ((s.size : Int) < (a : Int) + 4) = false := by simp; omega
    have h4' : a + 4 ≤ s.size := by omega
    clear h4
    go_enter Tryz.func76, Tryz.ntmps76
    go_wp2
    go_loopg [5, 6] 4 (fun gh s5 s6 wr => ∃ b n : Nat, a + 4 - b ≤ gh ∧ s5 = .int .i64 (n : Int) ∧ s6 = .int .i64 (b : Int) ∧ Aside (HX s a b n) ∧ wr = w)
    case atStart => exact ⟨a, 0, by omega, rfl, rfl, HX.start s a, rfl⟩
    case round =>
      obtain ⟨b, n, hgh, rfl, rfl, I, rfl⟩ := hrel
      have hb1 := I.out.1
      have hb2 := I.out.2.1
      by_cases hb : b < a + 4
      · have db : decide ((b : Int) < (a : Int) + 4) = true := by simp; omega
        have hlt : b < s.size := by omega
        have hn := I.out.lt hb
        have ST := asd (fun v hv hv16 => I.out.step hb hlt (v := v) hv hv16)
        have BD := asd (fun hv => I.out.bad hb hlt hv)
        clear I
        generalize hgx : s[b] = x at *
        have hx := x.toNat_lt
        by_cases c1 : 48 ≤ x.toNat ∧ x.toNat ≤ 57
        · have N := asd (ST.out (x.toNat - 48) (by unfold Js.hexv; rw [if_pos c1]) (by omega))
          have ev : Aside ((n : Int) * 16 + (x.toNat : Int) - 48 = ((n * 16 + (x.toNat - 48) : Nat) : Int)) := by show _ = _; omega
          have f1 : decide ((48 : Int) ≤ x.toNat) = true := by simp; omega
          have f2 : decide ((x.toNat : Int) ≤ 57) = true := by simp; omega
          obtain ⟨c1, c1'⟩ := c1
          clear ST BD
          go_wp2
          go_roundg (a + 4 - (b + 1))
          case measure => omega
          case rel => exact ⟨b + 1, n * 16 + (x.toNat - 48), Nat.le_refl _, by rw [← ev.out], by go_num, N, rfl⟩
        · by_cases c2 : 97 ≤ x.toNat ∧ x.toNat ≤ 102
          · have N := asd (ST.out (x.toNat - 97 + 10) (by unfold Js.hexv; rw [if_neg c1, if_pos c2]) (by omega))
            have ev : Aside ((n : Int) * 16 + (x.toNat : Int) - 97 + 10 = ((n * 16 + (x.toNat - 97 + 10) : Nat) : Int)) := by show _ = _; omega
            have f1 : decide ((48 : Int) ≤ x.toNat) = true := by simp; omega
            have f2 : decide ((x.toNat : Int) ≤ 57) = false := by simp; omega
            have f3 : decide ((97 : Int) ≤ x.toNat) = true := by simp; omega
            have f4 : decide ((x.toNat : Int) ≤ 102) = true := by simp; omega
            obtain ⟨c2, c2'⟩ := c2
            clear ST BD c1
            go_wp2
            go_roundg (a + 4 - (b + 1))
            case measure => omega
            case rel => exact ⟨b + 1, n * 16 + (x.toNat - 97 + 10), Nat.le_refl _, by rw [← ev.out], by go_num, N, rfl⟩
          · by_cases c3 : 65 ≤ x.toNat ∧ x.toNat ≤ 70
            · have N := asd (ST.out (x.toNat - 65 + 10) (by unfold Js.hexv; rw [if_neg c1, if_neg c2, if_pos c3]) (by omega))
              have ev : Aside ((n : Int) * 16 + (x.toNat : Int) - 65 + 10 = ((n * 16 + (x.toNat - 65 + 10) : Nat) : Int)) := by show _ = _; omega
              have f1 : decide ((48 : Int) ≤ x.toNat) = true := by simp; omega
              have f2 : decide ((x.toNat : Int) ≤ 57) = false := by simp; omega
              have f3 : decide ((97 : Int) ≤ x.toNat) = false := by simp; omega
              have f5 : decide ((65 : Int) ≤ x.toNat) = true := by simp; omega
              have f6 : decide ((x.toNat : Int) ≤ 70) = true := by simp; omega
              obtain ⟨c3, c3'⟩ := c3
              clear ST BD c1 c2
              go_wp2
              go_roundg (a + 4 - (b + 1))
              case measure => omega
              case rel => exact ⟨b + 1, n * 16 + (x.toNat - 65 + 10), Nat.le_refl _, by rw [← ev.out], by go_num, N, rfl⟩
            · have E := asd (BD.out (by unfold Js.hexv; rw [if_neg c1, if_neg c2, if_neg c3]))
              have dall : Hid ((x.toNat < 48) ∨ (57 < x.toNat ∧ x.toNat < 65) ∨ (70 < x.toNat ∧ x.toNat < 97) ∨ 102 < x.toNat) := by unfold Hid; omega
              clear ST BD c1 c2 c3
              rcases dall with c | c | c | c
              · skip
                have g0 : decide ((48 : Int) ≤ x.toNat) = false := by simp; omega
                have g1 : decide ((97 : Int) ≤ x.toNat) = false := by simp; omega
                have g2 : decide ((65 : Int) ≤ x.toNat) = false := by simp; omega
                clear c
                go_wp2
                go_ret
                exact ⟨by rw [E.out]; rfl, rfl⟩
              · skip
                have g0 : decide ((48 : Int) ≤ x.toNat) = true := by simp; omega
                have g1 : decide ((x.toNat : Int) ≤ 57) = false := by simp; omega
                have g2 : decide ((97 : Int) ≤ x.toNat) = false := by simp; omega
                have g3 : decide ((65 : Int) ≤ x.toNat) = false := by simp; omega
                clear c
                go_wp2
                go_ret
                exact ⟨by rw [E.out]; rfl, rfl⟩
              · skip
                have g0 : decide ((48 : Int) ≤ x.toNat) = true := by simp; omega
                have g1 : decide ((x.toNat : Int) ≤ 57) = false := by simp; omega
                have g2 : decide ((97 : Int) ≤ x.toNat) = false := by simp; omega
                have g3 : decide ((65 : Int) ≤ x.toNat) = true := by simp; omega
                have g4 : decide ((x.toNat : Int) ≤ 70) = false := by simp; omega
                clear c
                go_wp2
                go_ret
                exact ⟨by rw [E.out]; rfl, rfl⟩
              · skip
                have g0 : decide ((48 : Int) ≤ x.toNat) = true := by simp; omega
                have g1 : decide ((x.toNat : Int) ≤ 57) = false := by simp; omega
                have g2 : decide ((97 : Int) ≤ x.toNat) = true := by simp; omega
                have g3 : decide ((x.toNat : Int) ≤ 102) = false := by simp; omega
                have g4 : decide ((65 : Int) ≤ x.toNat) = true := by simp; omega
                have g5 : decide ((x.toNat : Int) ≤ 70) = false := by simp; omega
                clear c
                go_wp2
                go_ret
                exact ⟨by rw [E.out]; rfl, rfl⟩
      · obtain rfl : b = a + 4 := by omega
        have db : decide (((a + 4 : Nat) : Int) < (a : Int) + 4) = false := by simp
        have db2 : ¬ (((a + 4 : Nat) : Int) < (a : Int) + 4) := by omega
        have E := asd I.out.done
        clear I
        go_wp2
        go_ret
        exact ⟨by rw [E.out]; rfl, rfl⟩
end Go.Proofs.YtpeioecpilmpiaaGreatDoor

/-
  Plain mathematics of the signs of a text: which there are, where each begins, and what is made of them. No condition beside those written at each theorem.
-/
namespace Go.Proofs.YtpeioecpilmpiaaGreatDoor.Si.Sg

/-- The sign at a place, and how many bytes it takes. -/
def rn (s : ByteArray) (p : Nat) : Nat := (Utf8.decode s p).1
def wd (s : ByteArray) (p : Nat) : Nat := (Utf8.decode s p).2

theorem wd_pos (s : ByteArray) (p : Nat) : 1 ≤ wd s p := Lib.width_pos s p

theorem wd_le (s : ByteArray) (p : Nat) (h : p < s.size) : p + wd s p ≤ s.size := by
  unfold wd
  rw [Lib.decode_at]
  rcases Lib.decodeN_shape (s.size - p) (s.get! p).toNat (s.get! (p + 1)).toNat (s.get! (p + 2)).toNat (s.get! (p + 3)).toNat with ⟨c, e⟩ | ⟨c1, c2, c3, cv, e⟩ | ⟨c1, c2, c3, c4, cv, cs, e⟩ | ⟨c1, c2, c3, c4, c5, cv, cw, e⟩ | e
  all_goals (rw [e]; dsimp only; omega)

theorem rn_ok (s : ByteArray) (p : Nat) : rn s p < 55296 ∨ (57343 < rn s p ∧ rn s p ≤ 1114111) := by
  unfold rn
  rw [Lib.decode_at]
  have k0 := (s.get! p).toNat_lt
  have k1 := (s.get! (p + 1)).toNat_lt
  have k2 := (s.get! (p + 2)).toNat_lt
  have k3 := (s.get! (p + 3)).toNat_lt
  rcases Lib.decodeN_shape (s.size - p) (s.get! p).toNat (s.get! (p + 1)).toNat (s.get! (p + 2)).toNat (s.get! (p + 3)).toNat with ⟨c, e⟩ | ⟨c1, c2, c3, cv, e⟩ | ⟨c1, c2, c3, c4, cv, cs, e⟩ | ⟨c1, c2, c3, c4, c5, cv, cw, e⟩ | e
  all_goals (rw [e]; dsimp only; omega)

theorem rn_len (s : ByteArray) (p : Nat) (h : rn s p ≠ 65533) : Lib.runeLen (rn s p : Int) = (wd s p : Int) := by
  unfold rn wd at *
  rw [← Lib.decodeL_drop] at *
  exact Lib.runeLen_decode _ h

/-- The signs from a place on, each with its place. -/
def sf (s : ByteArray) : Nat → Nat → List (Nat × Nat)
  | 0, _ => []
  | f + 1, p => if p < s.size then (rn s p, p) :: sf s f (p + wd s p) else []

def fr (s : ByteArray) (p : Nat) : List (Nat × Nat) := sf s (s.size - p) p

theorem sf_enough (s : ByteArray) : ∀ (f g p : Nat), s.size - p ≤ f → s.size - p ≤ g → sf s f p = sf s g p
  | 0, 0, _, _, _ => rfl
  | 0, g + 1, p, h, _ => by simp [sf, show ¬ p < s.size by omega]
  | f + 1, 0, p, _, h => by simp [sf, show ¬ p < s.size by omega]
  | f + 1, g + 1, p, h1, h2 => by
    have := wd_pos s p
    simp only [sf]
    rw [sf_enough s f g (p + wd s p) (by omega) (by omega)]

theorem fr_step (s : ByteArray) (p : Nat) (h : p < s.size) : fr s p = (rn s p, p) :: fr s (p + wd s p) := by
  have := wd_pos s p
  unfold fr
  rw [show s.size - p = (s.size - p - 1) + 1 by omega]
  simp only [sf, if_pos h]
  rw [sf_enough s (s.size - p - 1) (s.size - (p + wd s p)) _ (by omega) (by omega)]

theorem fr_end (s : ByteArray) (p : Nat) (h : ¬ p < s.size) : fr s p = [] := by
  unfold fr
  rw [show s.size - p = 0 by omega]
  rfl

/-- Where sign k begins. -/
def pa (s : ByteArray) : Nat → Nat
  | 0 => 0
  | k + 1 => pa s k + wd s (pa s k)

/-- How many signs. -/
def len (s : ByteArray) : Nat := (fr s 0).length

theorem drop_pa (s : ByteArray) : ∀ k, k ≤ len s → (fr s 0).drop k = fr s (pa s k) ∧ pa s k ≤ s.size
  | 0, _ => ⟨rfl, Nat.zero_le _⟩
  | k + 1, h => by
    obtain ⟨h1, h2⟩ := drop_pa s k (by omega)
    have hlt : pa s k < s.size := by
      rcases Nat.lt_or_ge (pa s k) s.size with h3 | h3
      · exact h3
      · rw [fr_end s (pa s k) (by omega)] at h1
        have := congrArg List.length h1
        rw [List.length_drop] at this
        unfold len at h
        simp at this
        omega
    refine ⟨?_, wd_le s _ hlt⟩
    rw [← List.drop_drop, h1, fr_step s _ hlt]
    rfl

theorem pa_lt (s : ByteArray) (k : Nat) (h : k < len s) : pa s k < s.size := by
  obtain ⟨h1, _⟩ := drop_pa s k (by omega)
  rcases Nat.lt_or_ge (pa s k) s.size with h3 | h3
  · exact h3
  · rw [fr_end s (pa s k) (by omega)] at h1
    have := congrArg List.length h1
    rw [List.length_drop] at this
    unfold len at h
    simp at this
    omega

theorem pa_end (s : ByteArray) : pa s (len s) = s.size := by
  obtain ⟨h1, h2⟩ := drop_pa s (len s) (Nat.le_refl _)
  rcases Nat.lt_or_ge (pa s (len s)) s.size with h3 | h3
  · rw [fr_step s _ h3] at h1
    have := congrArg List.length h1
    rw [List.length_drop] at this
    unfold len at this
    simp at this
  · omega

theorem at_pa (s : ByteArray) (k : Nat) (h : k < len s) : (fr s 0)[k]? = some (rn s (pa s k), pa s k) := by
  obtain ⟨h1, _⟩ := drop_pa s k (by omega)
  rw [fr_step s _ (pa_lt s k h)] at h1
  have := congrArg (fun l => l[0]?) h1
  simpa using this

theorem len_le (s : ByteArray) : ∀ k, k ≤ len s → k ≤ pa s k
  | 0, _ => Nat.zero_le _
  | k + 1, h => by
    have := len_le s k (by omega)
    have := wd_pos s (pa s k)
    show k + 1 ≤ pa s k + wd s (pa s k)
    omega

theorem len_size (s : ByteArray) : len s ≤ s.size := by
  have := len_le s (len s) (Nat.le_refl _)
  rw [pa_end] at this
  exact this

theorem len_zero (s : ByteArray) (h : len s = 0) : s.size = 0 := by
  have := pa_end s
  rw [h] at this
  exact this.symm

/-- The places, the signs. -/
def sigs (s : ByteArray) : List Nat := (fr s 0).map Prod.fst
def ats (s : ByteArray) : List Nat := (fr s 0).map Prod.snd
theorem sigs_length (s : ByteArray) : (sigs s).length = len s := by simp [sigs, len]
theorem ats_length (s : ByteArray) : (ats s).length = len s := by simp [ats, len]
theorem sigs_at (s : ByteArray) (k : Nat) (h : k < len s) : (sigs s)[k]? = some (rn s (pa s k)) := by simp [sigs, at_pa s k h]
theorem ats_at (s : ByteArray) (k : Nat) (h : k < len s) : (ats s)[k]? = some (pa s k) := by simp [ats, at_pa s k h]

end Go.Proofs.YtpeioecpilmpiaaGreatDoor.Si.Sg

/-
  What a slice of numbers holds.
-/
namespace Go.Proofs.YtpeioecpilmpiaaGreatDoor.Si
open Go.RowKit
theorem below_iter (w : World) (s : ByteArray) (p : Nat) : Below w.heap.size w (w.iter s p) := (Below.refl _ _).alloc (Nat.le_refl _) _

/-- What a slice of numbers that came in holds. -/
structure Nums (B : Nat) (v : Value) (z : List Int) (w : World) : Prop where
  is : (z = [] ∧ ∃ a c, v = .slice a 0 c) ∨ ∃ g o c, v = .slice (some ⟨g, o, none⟩) z.length c ∧ g < B ∧ ∀ j, j < z.length → w.cell? ⟨g, o + j, none⟩ = some (.int .i64 (z.getD j 0))

theorem Nums.later {B : Nat} {v : Value} {z : List Int} {w u : World} (h : Nums B v z w) (hb : Below B w u) : Nums B v z u := by
  rcases h.is with h | ⟨g, o, c, h1, h2, h3⟩
  · exact ⟨.inl h⟩
  · exact ⟨.inr ⟨g, o, c, h1, h2, fun j hj => by rw [hb.cell (by exact h2)]; exact h3 j hj⟩⟩

end Go.Proofs.YtpeioecpilmpiaaGreatDoor.Si
