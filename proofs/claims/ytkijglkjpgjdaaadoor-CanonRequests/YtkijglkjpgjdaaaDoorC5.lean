/-
  Whether a text may be a key: as the program tells it, and as the document does.
-/
import Derived.Test.YtkijglkjpgjdaaaDoorC4
namespace Go.Proofs.YtkijglkjpgjdaaaDoor
open Go.RowKit

/-- May all signs from a place on be in a key? -/
def keyAll (s : ByteArray) (p : Nat) : Bool := (Si.Sg.fr s p).all fun x => keySign (x.1 : Int)
/-- May it be a key? -/
def key (s : ByteArray) : Bool := decide (1 ≤ s.size) && decide (s.size ≤ 24) && keyAll s 0

theorem keyAll_step (s : ByteArray) (k : Nat) (h : k < Si.Sg.len s) : keyAll s (Si.Sg.pa s k) = (keySign (Si.Sg.rn s (Si.Sg.pa s k) : Int) && keyAll s (Si.Sg.pa s (k + 1))) := by
  show (Si.Sg.fr s (Si.Sg.pa s k)).all _ = _
  rw [Si.Sg.fr_step s _ (Si.Sg.pa_lt s k h)]
  rfl
theorem keyAll_end (s : ByteArray) : keyAll s (Si.Sg.pa s (Si.Sg.len s)) = true := by
  unfold keyAll
  rw [Si.Sg.fr_end s _ (by rw [Si.Sg.pa_end]; omega)]
  rfl

set_option maxHeartbeats 1600000 in
theorem key_any (s : ByteArray) (w : World) :
    Calls Tryd.prog 12 #[.string s] w fun e w' => e = .returned (.bool (key s)) ∧ Below w.heap.size w w' := by
  by_cases h0 : 1 ≤ s.size
  · have d0 := Si.toList_some h0
    by_cases h1 : s.size ≤ 24
    · have d1 : decide (24 < (s.size : Int)) = false := by simp; omega
      have er : key s = keyAll s 0 := by simp [key, h0, h1]
      rw [er]
      go_enter Tryd.func12, Tryd.ntmps12
      go_wp2
      go_loopg [] s.size (fun gh wr => ∃ k : Nat, s.size - Si.Sg.pa s k ≤ gh ∧ k ≤ Si.Sg.len s ∧ keyAll s (Si.Sg.pa s k) = keyAll s 0 ∧ wr = w.iter s (Si.Sg.pa s k))
      case atStart => exact ⟨0, by simp [Si.Sg.pa], by omega, rfl, rfl⟩
      case round =>
        obtain ⟨k, hgh, hk, hf, rfl⟩ := hrel
        by_cases hp : k < Si.Sg.len s
        · have hlt := Si.Sg.pa_lt s k hp
          have hnx : ∀ ty, (Instr.next (.pointer (some ⟨w.heap.size, 0, none⟩)) true ty).run Tryd.prog (w.iter s (Si.Sg.pa s k)) = _ := fun ty => run_next_any w s (Si.Sg.pa s k) ty hlt
          have h1 := Si.Sg.wd_pos s (Si.Sg.pa s k)
          have ks := isKeySign_any ((Utf8.decode s (Si.Sg.pa s k)).1 : Int)
          have hstep := keyAll_step s k hp
          by_cases hc : keySign (Si.Sg.rn s (Si.Sg.pa s k) : Int) = true
          · have e : Aside (keyAll s (Si.Sg.pa s (k + 1)) = keyAll s 0) := by
              show _ = _
              rw [← hf, hstep, hc, Bool.true_and]
            have hc2 : keySign ((Utf8.decode s (Si.Sg.pa s k)).1 : Int) = true := hc
            rw [hc2] at ks
            clear hf hc hstep hc2
            go_wp2_with (go_at_call 26; refine (ks _).mono ?_; rintro e w1 ⟨rfl, rfl⟩)
            go_roundg (s.size - Si.Sg.pa s (k + 1))
            case measure => show s.size - (Si.Sg.pa s k + Si.Sg.wd s (Si.Sg.pa s k)) < _; omega
            case rel => exact ⟨k + 1, Nat.le_refl _, by omega, e.out, rfl⟩
          · have hc : keySign (Si.Sg.rn s (Si.Sg.pa s k) : Int) = false := by simpa using hc
            have e : Aside (keyAll s 0 = false) := by
              show _ = _
              rw [← hf, hstep, hc, Bool.false_and]
            have hc2 : keySign ((Utf8.decode s (Si.Sg.pa s k)).1 : Int) = false := hc
            rw [hc2] at ks
            clear hf hc hstep hc2
            go_wp2_with (go_at_call 26; refine (ks _).mono ?_; rintro e w1 ⟨rfl, rfl⟩)
            go_ret
            exact ⟨by rw [e.out]; rfl, Si.below_iter w s _⟩
        · obtain rfl : k = Si.Sg.len s := by omega
          have hnx : ∀ ty, (Instr.next (.pointer (some ⟨w.heap.size, 0, none⟩)) true ty).run Tryd.prog (w.iter s (Si.Sg.pa s (Si.Sg.len s))) = _ := fun ty => run_next_end w s _ ty (by rw [Si.Sg.pa_end]; omega)
          have e : Aside (keyAll s 0 = true) := by
            show _ = _
            rw [← hf, keyAll_end]
          clear hf
          go_wp2
          go_ret
          exact ⟨by rw [e.out]; rfl, Si.below_iter w s _⟩
    · have d1 : decide (24 < (s.size : Int)) = true := by simp; omega
      have er : key s = false := by simp [key, h1]
      rw [er]
      go_enter Tryd.func12, Tryd.ntmps12
      go_wp2
      go_ret
      exact ⟨rfl, Below.refl _ _⟩
  · have d0 := Si.toList_empty (show s.size = 0 by omega)
    have er : key s = false := by simp [key, h0]
    rw [er]
    go_enter Tryd.func12, Tryd.ntmps12
    go_wp2
    go_ret
    exact ⟨rfl, Below.refl _ _⟩

set_option maxHeartbeats 1600000 in
set_option maxRecDepth 1000000 in
theorem refKey_any (s : ByteArray) (w : World) :
    Calls Tryd.prog 13 #[.string s] w fun e w' => e = .returned (.bool (key s)) ∧ Below w.heap.size w w' := by
  by_cases h0 : 1 ≤ s.size
  · have d0 : decide ((s.size : Int) < 1) = false := by simp; omega
    by_cases h1 : s.size ≤ 24
    · have d1 : decide (24 < (s.size : Int)) = false := by simp; omega
      have er : key s = keyAll s 0 := by simp [key, h0, h1]
      rw [er]
      have kS := Si.signs_any s w (by omega)
      go_enter Tryd.func13, Tryd.ntmps13
      go_wp2_with (go_at_call 27; refine kS.mono ?_; rintro e w1 ⟨v1, v2, rfl, hn1, hn2, hb1⟩)
      clear kS
      have hls := Si.Sg.len_size s
      obtain ⟨a, c, rfl, hc⟩ := hn1.form
      rw [Si.zs_length, Si.Sg.sigs_length] at *
      go_loopg [5] (Si.Sg.len s) (fun gh s5 wr => ∃ k : Nat, Si.Sg.len s - k ≤ gh ∧ k ≤ Si.Sg.len s ∧ s5 = .int .i64 (k : Int) ∧ keyAll s (Si.Sg.pa s k) = keyAll s 0 ∧ wr = w1)
      case atStart => exact ⟨0, by omega, by omega, rfl, rfl, rfl⟩
      case round =>
        obtain ⟨k, hgh, hk, rfl, hf, rfl⟩ := hrel
        by_cases hp : k < Si.Sg.len s
        · obtain ⟨g, o, rfl, hg, hcell⟩ := hc k hp
          rw [Si.zs_at hp] at hcell
          have dk : decide (k < Si.Sg.len s) = true := by simpa using hp
          have ks := Si.refSort_any ((Si.Sg.rn s (Si.Sg.pa s k) : Nat) : Int)
          have hstep := keyAll_step s k hp
          unfold keySign at hstep
          generalize Si.Sg.rn s (Si.Sg.pa s k) = R at *
          generalize Si.sort (R : Int) = Z at *
          clear hc
          by_cases hz : Z = 2 ∨ Z = 3 ∨ (R : Int) = 45 ∨ (R : Int) = 95 ∨ (R : Int) = 46
          · have F : Aside (keyAll s (Si.Sg.pa s (k + 1)) = keyAll s 0) := by
              show _ = _
              rw [← hf, hstep, show (decide ((R : Int) = 45) || decide ((R : Int) = 95) || decide ((R : Int) = 46) || decide (Z = 2) || decide (Z = 3)) = true by simp; omega, Bool.true_and]
            clear hstep hf
            by_cases y1 : Z = 2
            · have z1 : (Z != 2) = false := by simp; omega
              clear hz y1
              go_wp2_with (go_at_call 28; refine (ks _).mono ?_; rintro e w2 ⟨rfl, rfl⟩)
              go_roundg (Si.Sg.len s - (k + 1))
              case measure => omega
              case rel => exact ⟨k + 1, Nat.le_refl _, by omega, by go_num, F.out, rfl⟩
            · have z1 : (Z != 2) = true := by simp; omega
              by_cases y2 : Z = 3
              · have z2 : (Z != 3) = false := by simp; omega
                clear hz y1 y2
                go_wp2_with (go_at_call 28; refine (ks _).mono ?_; rintro e w2 ⟨rfl, rfl⟩)
                go_roundg (Si.Sg.len s - (k + 1))
                case measure => omega
                case rel => exact ⟨k + 1, Nat.le_refl _, by omega, by go_num, F.out, rfl⟩
              · have z2 : (Z != 3) = true := by simp; omega
                by_cases y3 : (R : Int) = 45
                · have z3 : ((R : Int) != 45) = false := by simp; omega
                  clear hz y1 y2 y3
                  go_wp2_with (go_at_call 28; refine (ks _).mono ?_; rintro e w2 ⟨rfl, rfl⟩)
                  go_roundg (Si.Sg.len s - (k + 1))
                  case measure => omega
                  case rel => exact ⟨k + 1, Nat.le_refl _, by omega, by go_num, F.out, rfl⟩
                · have z3 : ((R : Int) != 45) = true := by simp; omega
                  by_cases y4 : (R : Int) = 95
                  · have z4 : ((R : Int) != 95) = false := by simp; omega
                    clear hz y1 y2 y3 y4
                    go_wp2_with (go_at_call 28; refine (ks _).mono ?_; rintro e w2 ⟨rfl, rfl⟩)
                    go_roundg (Si.Sg.len s - (k + 1))
                    case measure => omega
                    case rel => exact ⟨k + 1, Nat.le_refl _, by omega, by go_num, F.out, rfl⟩
                  · have z4 : ((R : Int) != 95) = true := by simp; omega
                    have z5 : ((R : Int) != 46) = false := by simp; omega
                    clear hz y1 y2 y3 y4
                    go_wp2_with (go_at_call 28; refine (ks _).mono ?_; rintro e w2 ⟨rfl, rfl⟩)
                    go_roundg (Si.Sg.len s - (k + 1))
                    case measure => omega
                    case rel => exact ⟨k + 1, Nat.le_refl _, by omega, by go_num, F.out, rfl⟩
          · have F : Aside (keyAll s 0 = false) := by
              show _ = _
              rw [← hf, hstep, show (decide ((R : Int) = 45) || decide ((R : Int) = 95) || decide ((R : Int) = 46) || decide (Z = 2) || decide (Z = 3)) = false by simp; omega, Bool.false_and]
            have z1 : (Z != 2) = true := by simp; omega
            have z2 : (Z != 3) = true := by simp; omega
            have z3 : ((R : Int) != 45) = true := by simp; omega
            have z4 : ((R : Int) != 95) = true := by simp; omega
            have z5 : ((R : Int) != 46) = true := by simp; omega
            clear hz hstep hf
            go_wp2_with (go_at_call 28; refine (ks _).mono ?_; rintro e w2 ⟨rfl, rfl⟩)
            go_ret
            exact ⟨by rw [F.out]; rfl, hb1⟩
        · obtain rfl : k = Si.Sg.len s := by omega
          have dk : decide (Si.Sg.len s < Si.Sg.len s) = false := by simp
          have e : Aside (keyAll s 0 = true) := by
            show _ = _
            rw [← hf, keyAll_end]
          clear hf
          go_wp2
          go_ret
          exact ⟨by rw [e.out]; rfl, hb1⟩
    · have d1 : decide (24 < (s.size : Int)) = true := by simp; omega
      have er : key s = false := by simp [key, h1]
      rw [er]
      go_enter Tryd.func13, Tryd.ntmps13
      go_wp2
      go_ret
      exact ⟨rfl, Below.refl _ _⟩
  · have d0 : decide ((s.size : Int) < 1) = true := by simp; omega
    have er : key s = false := by simp [key, h0]
    rw [er]
    go_enter Tryd.func13, Tryd.ntmps13
    go_wp2
    go_ret
    exact ⟨rfl, Below.refl _ _⟩
end Go.Proofs.YtkijglkjpgjdaaaDoor
