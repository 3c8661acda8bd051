/-
  The document's reader: blanks.
-/
import Derived.Test.YtpeioecpilmpiaaGreatDoorD1
import Derived.WalkKit
import Derived.WalkSpells
import Derived.WalkLawsBesides
import Derived.Deep.LoopGhost
import Derived.Laws.Externs
import Derived.Below
import Derived.BigQuiet
import Derived.Deep.RegionWith
import Derived.OwnWalk
import Derived.Maps.AppendAt
import Derived.WalkSmall
namespace Go.Proofs.YtpeioecpilmpiaaGreatDoor
open Go.RowKit
theorem Rq.drewN {r : Nat} {s : ByteArray} {p d e : Nat} {w : World} (h : Rq r s p d e w) (n : Nat) : Rq r s p d e (w.drewN n) := h.keep (by rfl)
theorem grown_drewN {w u : World} {r : Option Nat} (h : w.grownBy u r) (n : Nat) : w.grownBy (u.drewN n) r := gtrans h (gbelow (Go.below_drewN (Below.refl _ _) n))

set_option maxHeartbeats 1600000 in
set_option maxRecDepth 100000 in
theorem dblanks_any (r : Nat) (s : ByteArray) (p d e : Nat) (w : World) (h' : Rq r s p d e w) (hp : p ≤ s.size) (hs : s.size ≤ 1000) :
    Calls Tryz.prog 24 #[.pointer (some ⟨r, 0, none⟩)] w fun en w' => en = .returned (.tuple #[]) ∧ ∃ q, q ≤ s.size ∧ L s q = Js.skip (L s p) ∧ Rq r s q d e w' ∧ w.grownBy w' (some r) := by
  have H0 : Aside _ := h'
  clear h'
  go_enter Tryz.func24, Tryz.ntmps24
  go_wp2
  go_loopg [] s.size (fun gh wr => ∃ q : Nat, s.size - q ≤ gh ∧ q ≤ s.size ∧ Aside (Js.skip (L s q) = Js.skip (L s p) ∧ Rq r s q d e wr ∧ w.grownBy wr (some r)))
  case atStart => exact ⟨p, by omega, hp, rfl, H0, grefl _ _⟩
  case round =>
    obtain ⟨q, hgh, hq, I⟩ := hrel
    have c0 := I.out.2.1.c0
    have c1 := I.out.2.1.c1
    have f1 := I.out.2.1.fz 1
    clear H0
    by_cases hlt : q < s.size
    · have d2 : decide (q < s.size) = true := by simpa using hlt
      have SK : Aside (Js.isBl (s[q]) = true → Js.skip (L s (q + 1)) = Js.skip (L s p)) := fun hb => by
        rw [← I.out.1, L_cons s q hlt, get_at s q hlt]
        simp [Js.skip, hb]
      have ST : Aside (Js.isBl (s[q]) = false → L s q = Js.skip (L s p)) := fun hb => by
        rw [← I.out.1, L_cons s q hlt, get_at s q hlt, Js.skip_id _ _ hb]
      have N1 : Aside (∀ u : World, u.heap = wr.heap → wr.grownBy u none → Rq r s (q + 1) d e (u.setCell ⟨r, 1, none⟩ (.int .i64 ((q + 1 : Nat) : Int))) ∧ w.grownBy (u.setCell ⟨r, 1, none⟩ (.int .i64 ((q + 1 : Nat) : Int))) (some r)) := fun u hu hg =>
        ⟨(I.out.2.1.keep (by rw [hu])).set1 (q + 1), gtrans (gtrans I.out.2.2 ⟨hg.os, hg.tape, hg.output, hg.size, fun k hk _ => by rw [hu]⟩) (grown_set _ _ _ _)⟩
      have N0 : Aside (∀ n, Rq r s q d e (wr.drewN n) ∧ w.grownBy (wr.drewN n) (some r)) := fun n => ⟨I.out.2.1.drewN n, grown_drewN I.out.2.2 n⟩
      have G0 : Aside (∀ n, wr.grownBy (wr.drewN n) none) := fun n => gbelow (Go.below_drewN (Below.refl _ _) n)
      generalize hx : s[q] = x at *
      clear I
      by_cases b0 : x.toNat = 32
      · have ex : x = 32 := UInt8.toNat_inj.1 b0
        have t0 : ((x.toNat : Int) == 32) = true := by rw [beq_iff_eq]; omega
        have SK2 : Aside (Js.skip (L s (q + 1)) = Js.skip (L s p)) := SK.out (by rw [ex]; rfl)
        clear SK ST N0 b0 ex
        go_wp2
        go_quiet (fail)
        go_wp2
        go_roundg (s.size - (q + 1))
        case measure => omega
        case rel => exact ⟨q + 1, Nat.le_refl _, hlt, SK2.out, N1.out _ rfl (G0.out _)⟩
      · skip
        by_cases b1 : x.toNat = 9
        · have ex : x = 9 := UInt8.toNat_inj.1 b1
          have t0 : ((x.toNat : Int) == 32) = false := by rw [beq_eq_false_iff_ne]; omega
          have u0 : ¬ ((x.toNat : Int) = 32) := by omega
          have t1 : ((x.toNat : Int) == 9) = true := by rw [beq_iff_eq]; omega
          have SK2 : Aside (Js.skip (L s (q + 1)) = Js.skip (L s p)) := SK.out (by rw [ex]; rfl)
          clear SK ST N0 b1 ex
          go_wp2
          go_quiet (fail)
          go_wp2
          go_roundg (s.size - (q + 1))
          case measure => omega
          case rel => exact ⟨q + 1, Nat.le_refl _, hlt, SK2.out, N1.out _ rfl (G0.out _)⟩
        · skip
          by_cases b2 : x.toNat = 10
          · have ex : x = 10 := UInt8.toNat_inj.1 b2
            have t0 : ((x.toNat : Int) == 32) = false := by rw [beq_eq_false_iff_ne]; omega
            have u0 : ¬ ((x.toNat : Int) = 32) := by omega
            have t1 : ((x.toNat : Int) == 9) = false := by rw [beq_eq_false_iff_ne]; omega
            have u1 : ¬ ((x.toNat : Int) = 9) := by omega
            have t2 : ((x.toNat : Int) == 10) = true := by rw [beq_iff_eq]; omega
            have SK2 : Aside (Js.skip (L s (q + 1)) = Js.skip (L s p)) := SK.out (by rw [ex]; rfl)
            clear SK ST N0 b2 ex
            go_wp2
            go_quiet (fail)
            go_wp2
            go_roundg (s.size - (q + 1))
            case measure => omega
            case rel => exact ⟨q + 1, Nat.le_refl _, hlt, SK2.out, N1.out _ rfl (G0.out _)⟩
          · skip
            by_cases b3 : x.toNat = 13
            · have ex : x = 13 := UInt8.toNat_inj.1 b3
              have t0 : ((x.toNat : Int) == 32) = false := by rw [beq_eq_false_iff_ne]; omega
              have u0 : ¬ ((x.toNat : Int) = 32) := by omega
              have t1 : ((x.toNat : Int) == 9) = false := by rw [beq_eq_false_iff_ne]; omega
              have u1 : ¬ ((x.toNat : Int) = 9) := by omega
              have t2 : ((x.toNat : Int) == 10) = false := by rw [beq_eq_false_iff_ne]; omega
              have u2 : ¬ ((x.toNat : Int) = 10) := by omega
              have t3 : ((x.toNat : Int) == 13) = true := by rw [beq_iff_eq]; omega
              have SK2 : Aside (Js.skip (L s (q + 1)) = Js.skip (L s p)) := SK.out (by rw [ex]; rfl)
              clear SK ST N0 b3 ex
              go_wp2
              go_quiet (fail)
              go_wp2
              go_roundg (s.size - (q + 1))
              case measure => omega
              case rel => exact ⟨q + 1, Nat.le_refl _, hlt, SK2.out, N1.out _ rfl (G0.out _)⟩
            · skip
              have t0 : ((x.toNat : Int) == 32) = false := by rw [beq_eq_false_iff_ne]; omega
              have u0 : ¬ ((x.toNat : Int) = 32) := by omega
              have t1 : ((x.toNat : Int) == 9) = false := by rw [beq_eq_false_iff_ne]; omega
              have u1 : ¬ ((x.toNat : Int) = 9) := by omega
              have t2 : ((x.toNat : Int) == 10) = false := by rw [beq_eq_false_iff_ne]; omega
              have u2 : ¬ ((x.toNat : Int) = 10) := by omega
              have t3 : ((x.toNat : Int) == 13) = false := by rw [beq_eq_false_iff_ne]; omega
              have u3 : ¬ ((x.toNat : Int) = 13) := by omega
              have SE : Aside (L s q = Js.skip (L s p)) := ST.out (by
                simp only [Js.isBl, Bool.or_eq_false_iff, beq_eq_false_iff_ne]
                refine ⟨⟨⟨?_, ?_⟩, ?_⟩, ?_⟩
                all_goals (intro e; subst e; first | exact b0 rfl | exact b1 rfl | exact b2 rfl | exact b3 rfl))
              clear SK ST N1 b0 b1 b2 b3
              go_wp2
              go_quiet (fail)
              go_wp2
              go_end0
              exact ⟨rfl, q, hq, SE.out, (N0.out _).1, (N0.out _).2⟩
    · obtain rfl : q = s.size := by omega
      have d2 : decide (s.size < s.size) = false := by simp
      have SE : Aside (L s s.size = Js.skip (L s p)) := by
        show _ = _
        rw [← I.out.1, L_end s s.size (Nat.le_refl _)]
        rfl
      have N0 : Aside (∀ n, Rq r s s.size d e (wr.drewN n) ∧ w.grownBy (wr.drewN n) (some r)) := fun n => ⟨I.out.2.1.drewN n, grown_drewN I.out.2.2 n⟩
      clear I
      go_wp2
      go_quiet (fail)
      go_wp2
      go_end0
      exact ⟨rfl, s.size, hq, SE.out, (N0.out _).1, (N0.out _).2⟩
end Go.Proofs.YtpeioecpilmpiaaGreatDoor
