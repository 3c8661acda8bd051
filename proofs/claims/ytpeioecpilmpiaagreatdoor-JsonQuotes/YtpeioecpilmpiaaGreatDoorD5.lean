/-
  The document's four digits to base 16.
-/
import Derived.Test.YtpeioecpilmpiaaGreatDoorD4
import Derived.WalkKit
import Derived.WalkSpells
import Derived.WalkLawsBesides
import Derived.Deep.LoopGhost
import Derived.Laws.Externs
import Derived.Below
import Derived.BigQuiet
import Derived.Deep.RegionWith
import Derived.OwnWalk
import Derived.Maps.AppendAt
import Derived.WalkSmall
namespace Go.Proofs.YtpeioecpilmpiaaGreatDoor
open Go.RowKit
/-- Four digits to base 16, below 0: there are none. -/
def hexI (l : Js.B) : Int := match Js.hexs 4 0 l with | none => -1 | some x => (x.1 : Int)
theorem hexs_short : ∀ (k n : Nat) (l : Js.B), l.length < k → Js.hexs k n l = none
  | 0, _, _, h => absurd h (Nat.not_lt_zero _)
  | k + 1, n, [], _ => rfl
  | k + 1, n, b :: t, h => by
    simp only [Js.hexs]
    cases Js.hexv b with
    | none => rfl
    | some d => exact hexs_short k _ t (by simpa using h)
theorem hexI_short (l : Js.B) (h : l.length < 4) : hexI l = -1 := by unfold hexI; rw [hexs_short 4 0 l h]
theorem pow_step {n d j : Nat} (h : n < 16 ^ j) (hd : d < 16) : n * 16 + d < 16 ^ (j + 1) := by
  rw [Nat.pow_succ]
  omega
theorem pow_le3 {n j : Nat} (h : n < 16 ^ j) (hj : j ≤ 3) : n < 4096 := Nat.lt_of_lt_of_le h (Nat.pow_le_pow_right (n := 16) (by omega) hj)
def HX (s : ByteArray) (a b n : Nat) : Prop := a ≤ b ∧ b ≤ a + 4 ∧ n < 16 ^ (b - a) ∧ Js.hexs (a + 4 - b) n (L s b) = Js.hexs 4 0 (L s a)
theorem HX.start (s : ByteArray) (a : Nat) : HX s a a 0 := ⟨by omega, by omega, by simp, by rw [show a + 4 - a = 4 by omega]⟩
theorem HX.step {s : ByteArray} {a b n : Nat} (h : HX s a b n) (hb : b < a + 4) (hs : b < s.size) {v : Nat} (hv : Js.hexv s[b] = some v) (hv16 : v < 16) : HX s a (b + 1) (n * 16 + v) := by
  obtain ⟨h1, h2, h3, h4⟩ := h
  refine ⟨by omega, by omega, ?_, ?_⟩
  · rw [show b + 1 - a = (b - a) + 1 by omega]
    exact pow_step h3 hv16
  · rw [← h4, L_cons s b hs, get_at s b hs, show a + 4 - b = (a + 4 - (b + 1)) + 1 by omega]
    simp only [Js.hexs, hv]
theorem HX.bad {s : ByteArray} {a b n : Nat} (h : HX s a b n) (hb : b < a + 4) (hs : b < s.size) (hv : Js.hexv s[b] = none) : hexI (L s a) = -1 := by
  obtain ⟨h1, h2, h3, h4⟩ := h
  unfold hexI
  rw [← h4, L_cons s b hs, get_at s b hs, show a + 4 - b = (a + 4 - (b + 1)) + 1 by omega]
  simp only [Js.hexs, hv]
theorem HX.done {s : ByteArray} {a n : Nat} (h : HX s a (a + 4) n) : hexI (L s a) = (n : Int) := by
  obtain ⟨h1, h2, h3, h4⟩ := h
  unfold hexI
  rw [← h4, show a + 4 - (a + 4) = 0 by omega]
  rfl
theorem HX.lt {s : ByteArray} {a b n : Nat} (h : HX s a b n) (hb : b < a + 4) : n < 4096 := pow_le3 h.2.2.1 (by have := h.1; omega)

set_option maxHeartbeats 1600000 in
set_option maxRecDepth 100000 in
theorem dhex_any (s : ByteArray) (a : Nat) (w : World) (hs : s.size ≤ 1000) (ha : a ≤ 1000) :
    Calls Tryz.prog 76 #[.string s, .int .i64 (a : Int)] w fun en w' => en = .returned (.int .i64 (hexI (L s a))) ∧ w' = w := by
  by_cases h4 : s.size < a + 4
  · have d1 : decide ((s.size : Int) < (a : Int) + 4) = true := by simp; omega
    rw [hexI_short _ (by rw [L_len]; omega)]
    go_enter Tryz.func76, Tryz.ntmps76
    go_wp2
    go_ret
    exact ⟨rfl, rfl⟩
  · have d1 : decide ((s.size : Int) < (a : Int) + 4) = false := by simp; omega
    have h4' : a + 4 ≤ s.size := by omega
    clear h4
    go_enter Tryz.func76, Tryz.ntmps76
    go_wp2
    go_loopg [5, 6] 4 (fun gh s5 s6 wr => ∃ b n : Nat, a + 4 - b ≤ gh ∧ s5 = .int .i64 (n : Int) ∧ s6 = .int .i64 (b : Int) ∧ Aside (HX s a b n) ∧ wr = w)
    case atStart => exact ⟨a, 0, by omega, rfl, rfl, HX.start s a, rfl⟩
    case round =>
      obtain ⟨b, n, hgh, rfl, rfl, I, rfl⟩ := hrel
      have hb1 := I.out.1
      have hb2 := I.out.2.1
      by_cases hb : b < a + 4
      · have db : decide ((b : Int) < (a : Int) + 4) = true := by simp; omega
        have hlt : b < s.size := by omega
        have hn := I.out.lt hb
        have ST := asd (fun v hv hv16 => I.out.step hb hlt (v := v) hv hv16)
        have BD := asd (fun hv => I.out.bad hb hlt hv)
        clear I
        generalize hgx : s[b] = x at *
        have hx := x.toNat_lt
        by_cases c1 : 48 ≤ x.toNat ∧ x.toNat ≤ 57
        · have N := asd (ST.out (x.toNat - 48) (by unfold Js.hexv; rw [if_pos c1]) (by omega))
          have ev : Aside ((n : Int) * 16 + (x.toNat : Int) - 48 = ((n * 16 + (x.toNat - 48) : Nat) : Int)) := by show _ = _; omega
          have f1 : decide ((48 : Int) ≤ x.toNat) = true := by simp; omega
          have f2 : decide ((x.toNat : Int) ≤ 57) = true := by simp; omega
          obtain ⟨c1, c1'⟩ := c1
          clear ST BD
          go_wp2
          go_roundg (a + 4 - (b + 1))
          case measure => omega
          case rel => exact ⟨b + 1, n * 16 + (x.toNat - 48), Nat.le_refl _, by rw [← ev.out], by go_num, N, rfl⟩
        · by_cases c2 : 97 ≤ x.toNat ∧ x.toNat ≤ 102
          · have N := asd (ST.out (x.toNat - 97 + 10) (by unfold Js.hexv; rw [if_neg c1, if_pos c2]) (by omega))
            have ev : Aside ((n : Int) * 16 + (x.toNat : Int) - 97 + 10 = ((n * 16 + (x.toNat - 97 + 10) : Nat) : Int)) := by show _ = _; omega
            have f1 : decide ((48 : Int) ≤ x.toNat) = true := by simp; omega
            have f2 : decide ((x.toNat : Int) ≤ 57) = false := by simp; omega
            have f3 : decide ((97 : Int) ≤ x.toNat) = true := by simp; omega
            have f4 : decide ((x.toNat : Int) ≤ 102) = true := by simp; omega
            obtain ⟨c2, c2'⟩ := c2
            clear ST BD c1
            go_wp2
            go_roundg (a + 4 - (b + 1))
            case measure => omega
            case rel => exact ⟨b + 1, n * 16 + (x.toNat - 97 + 10), Nat.le_refl _, by rw [← ev.out], by go_num, N, rfl⟩
          · by_cases c3 : 65 ≤ x.toNat ∧ x.toNat ≤ 70
            · have N := asd (ST.out (x.toNat - 65 + 10) (by unfold Js.hexv; rw [if_neg c1, if_neg c2, if_pos c3]) (by omega))
              have ev : Aside ((n : Int) * 16 + (x.toNat : Int) - 65 + 10 = ((n * 16 + (x.toNat - 65 + 10) : Nat) : Int)) := by show _ = _; omega
              have f1 : decide ((48 : Int) ≤ x.toNat) = true := by simp; omega
              have f2 : decide ((x.toNat : Int) ≤ 57) = false := by simp; omega
              have f3 : decide ((97 : Int) ≤ x.toNat) = false := by simp; omega
              have f5 : decide ((65 : Int) ≤ x.toNat) = true := by simp; omega
              have f6 : decide ((x.toNat : Int) ≤ 70) = true := by simp; omega
              obtain ⟨c3, c3'⟩ := c3
              clear ST BD c1 c2
              go_wp2
              go_roundg (a + 4 - (b + 1))
              case measure => omega
              case rel => exact ⟨b + 1, n * 16 + (x.toNat - 65 + 10), Nat.le_refl _, by rw [← ev.out], by go_num, N, rfl⟩
            · have E := asd (BD.out (by unfold Js.hexv; rw [if_neg c1, if_neg c2, if_neg c3]))
              have dall : Hid ((x.toNat < 48) ∨ (57 < x.toNat ∧ x.toNat < 65) ∨ (70 < x.toNat ∧ x.toNat < 97) ∨ 102 < x.toNat) := by unfold Hid; omega
              clear ST BD c1 c2 c3
              rcases dall with c | c | c | c
              · skip
                have g0 : decide ((48 : Int) ≤ x.toNat) = false := by simp; omega
                have g1 : decide ((97 : Int) ≤ x.toNat) = false := by simp; omega
                have g2 : decide ((65 : Int) ≤ x.toNat) = false := by simp; omega
                clear c
                go_wp2
                go_ret
                exact ⟨by rw [E.out]; rfl, rfl⟩
              · skip
                have g0 : decide ((48 : Int) ≤ x.toNat) = true := by simp; omega
                have g1 : decide ((x.toNat : Int) ≤ 57) = false := by simp; omega
                have g2 : decide ((97 : Int) ≤ x.toNat) = false := by simp; omega
                have g3 : decide ((65 : Int) ≤ x.toNat) = false := by simp; omega
                clear c
                go_wp2
                go_ret
                exact ⟨by rw [E.out]; rfl, rfl⟩
              · skip
                have g0 : decide ((48 : Int) ≤ x.toNat) = true := by simp; omega
                have g1 : decide ((x.toNat : Int) ≤ 57) = false := by simp; omega
                have g2 : decide ((97 : Int) ≤ x.toNat) = false := by simp; omega
                have g3 : decide ((65 : Int) ≤ x.toNat) = true := by simp; omega
                have g4 : decide ((x.toNat : Int) ≤ 70) = false := by simp; omega
                clear c
                go_wp2
                go_ret
                exact ⟨by rw [E.out]; rfl, rfl⟩
              · skip
                have g0 : decide ((48 : Int) ≤ x.toNat) = true := by simp; omega
                have g1 : decide ((x.toNat : Int) ≤ 57) = false := by simp; omega
                have g2 : decide ((97 : Int) ≤ x.toNat) = true := by simp; omega
                have g3 : decide ((x.toNat : Int) ≤ 102) = false := by simp; omega
                have g4 : decide ((65 : Int) ≤ x.toNat) = true := by simp; omega
                have g5 : decide ((x.toNat : Int) ≤ 70) = false := by simp; omega
                clear c
                go_wp2
                go_ret
                exact ⟨by rw [E.out]; rfl, rfl⟩
      · obtain rfl : b = a + 4 := by omega
        have db : decide (((a + 4 : Nat) : Int) < (a : Int) + 4) = false := by simp
        have db2 : ¬ (((a + 4 : Nat) : Int) < (a : Int) + 4) := by omega
        have E := asd I.out.done
        clear I
        go_wp2
        go_ret
        exact ⟨by rw [E.out]; rfl, rfl⟩
end Go.Proofs.YtpeioecpilmpiaaGreatDoor
