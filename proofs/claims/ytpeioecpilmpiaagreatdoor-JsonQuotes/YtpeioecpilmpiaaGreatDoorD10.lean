/-
  The document's own form of a string.
-/
import Derived.Test.YtpeioecpilmpiaaGreatDoorD6
import Derived.WalkKit
import Derived.WalkSpells
import Derived.WalkLawsBesides
import Derived.Deep.LoopGhost
import Derived.Laws.Externs
import Derived.Below
import Derived.BigQuiet
import Derived.Deep.RegionWith
import Derived.OwnWalk
import Derived.Maps.AppendAt
import Derived.WalkSmall
namespace Go.Proofs.YtpeioecpilmpiaaGreatDoor
open Go.RowKit
def HEX : ByteArray := ⟨#[48, 49, 50, 51, 52, 53, 54, 55, 56, 57, 97, 98, 99, 100, 101, 102]⟩
theorem hex_cut : ∀ i : Fin 16, (ByteArray.extract ⟨#[48, 49, 50, 51, 52, 53, 54, 55, 56, 57, 97, 98, 99, 100, 101, 102]⟩ i.val (i.val + 1)).data.toList = [Js.hx i.val] := by decide +kernel
theorem hex_at (n : Nat) (h : n < 16) : ByteArray.extract ⟨#[48, 49, 50, 51, 52, 53, 54, 55, 56, 57, 97, 98, 99, 100, 101, 102]⟩ n (n + 1) = bs [Js.hx n] := by
  apply ByteArray.ext
  apply Array.toList_inj.1
  exact hex_cut ⟨n, h⟩
theorem cut_one (s : ByteArray) (k : Nat) (h : k < s.size) : s.extract k (k + 1) = bs [s[k]] := by
  apply ByteArray.ext
  apply Array.toList_inj.1
  rw [ext_take, L_cons s k h, get_at s k h]
  simp
theorem bs_bs (a b : Js.B) : bs a ++ bs b = bs (a ++ b) := by
  apply ByteArray.ext
  rw [ByteArray.data_append]
  simp
/-- The form so far. -/
def QF (s : ByteArray) (k : Nat) : Js.B := 34 :: (s.data.toList.take k).flatMap Js.qb
theorem QF_next (s : ByteArray) (k : Nat) (h : k < s.size) : QF s (k + 1) = QF s k ++ Js.qb s[k] := by
  unfold QF
  have hk : k < s.data.toList.length := h
  rw [List.take_succ_eq_append_getElem hk]
  simp
  rfl
theorem qb_len (b : UInt8) : (Js.qb b).length ≤ 6 := by
  unfold Js.qb
  repeat' split
  all_goals simp
theorem QF_len (s : ByteArray) : ∀ k, k ≤ s.size → (QF s k).length ≤ 1 + 6 * k
  | 0, _ => by simp [QF]
  | k + 1, h => by
    rw [QF_next s k (by omega), List.length_append]
    have := QF_len s k (by omega)
    have := qb_len s[k]
    omega
theorem QF_all (s : ByteArray) : QF s s.size ++ [34] = Js.quote s.data.toList := by
  unfold QF Js.quote
  have e : s.data.toList.take s.size = s.data.toList := List.take_of_length_le (Nat.le_refl s.data.toList.length)
  rw [e]

set_option maxHeartbeats 4000000 in
set_option maxRecDepth 100000 in
theorem dquote_any (s : ByteArray) (w : World) (hs : s.size ≤ 10000) :
    Calls Tryz.prog 19 #[.string s] w fun en w' => en = .returned (.string (bs (Js.quote s.data.toList))) ∧ Below w.heap.size w w' := by
  go_enter Tryz.func19, Tryz.ntmps19
  go_wp2
  go_loopg [4, 5] s.size (fun gh s4 s5 wr => ∃ k : Nat, s.size - k ≤ gh ∧ k ≤ s.size ∧ s5 = .int .i64 (k : Int) ∧ s4 = .string (bs (QF s k)) ∧ Below w.heap.size w wr)
  case atStart => exact ⟨0, by omega, by omega, rfl, rfl, Below.refl _ _⟩
  case round =>
    obtain ⟨k, hgh, hk, rfl, rfl, hbw⟩ := hrel
    by_cases hlt : k < s.size
    · have d2 : decide (k < s.size) = true := by simpa using hlt
      have NX := asd (QF_next s k hlt)
      have c1 := cut_one s k hlt
      have zl : (bs (QF s k)).size ≤ 60001 := by
        have := QF_len s k hk
        show (bs (QF s k)).data.size ≤ _
        simp only []
        show (QF s k).length ≤ _
        omega
      generalize hgx : s[k] = x at *
      have hx := x.toNat_lt
      have CT := asd (fun l => bs_bs (QF s k) l)
      generalize bs (QF s k) = A at *
      by_cases b34 : x.toNat = 34
      · obtain rfl : x = 34 := UInt8.toNat_inj.1 b34
        have cc : A ++ (⟨#[92]⟩ : ByteArray) ++ bs [34] = bs (QF s (k + 1)) := by
          rw [NX.out, show Js.qb 34 = [92, 34] by rfl, ← CT.out, ByteArray.append_assoc]
          rfl
        clear NX CT
        go_wp2
        go_roundg (s.size - (k + 1))
        case measure => omega
        case rel => exact ⟨k + 1, Nat.le_refl _, hlt, by go_num, by first | rfl | rw [← cc] | (rw [cc]), hbw⟩
      · skip
        by_cases b92 : x.toNat = 92
        · obtain rfl : x = 92 := UInt8.toNat_inj.1 b92
          have cc : A ++ (⟨#[92]⟩ : ByteArray) ++ bs [92] = bs (QF s (k + 1)) := by
            rw [NX.out, show Js.qb 92 = [92, 92] by rfl, ← CT.out, ByteArray.append_assoc]
            rfl
          clear NX CT
          go_wp2
          go_roundg (s.size - (k + 1))
          case measure => omega
          case rel => exact ⟨k + 1, Nat.le_refl _, hlt, by go_num, by first | rfl | rw [← cc] | (rw [cc]), hbw⟩
        · skip
          by_cases b8 : x.toNat = 8
          · obtain rfl : x = 8 := UInt8.toNat_inj.1 b8
            have cc : A ++ (⟨#[92, 98]⟩ : ByteArray) = bs (QF s (k + 1)) := by
              rw [NX.out, show Js.qb 8 = [92, 98] by rfl, ← CT.out]
            clear NX CT
            go_wp2
            go_roundg (s.size - (k + 1))
            case measure => omega
            case rel => exact ⟨k + 1, Nat.le_refl _, hlt, by go_num, by first | rfl | rw [← cc] | (rw [cc]), hbw⟩
          · skip
            by_cases b9 : x.toNat = 9
            · obtain rfl : x = 9 := UInt8.toNat_inj.1 b9
              have cc : A ++ (⟨#[92, 116]⟩ : ByteArray) = bs (QF s (k + 1)) := by
                rw [NX.out, show Js.qb 9 = [92, 116] by rfl, ← CT.out]
              clear NX CT
              go_wp2
              go_roundg (s.size - (k + 1))
              case measure => omega
              case rel => exact ⟨k + 1, Nat.le_refl _, hlt, by go_num, by first | rfl | rw [← cc] | (rw [cc]), hbw⟩
            · skip
              by_cases b10 : x.toNat = 10
              · obtain rfl : x = 10 := UInt8.toNat_inj.1 b10
                have cc : A ++ (⟨#[92, 110]⟩ : ByteArray) = bs (QF s (k + 1)) := by
                  rw [NX.out, show Js.qb 10 = [92, 110] by rfl, ← CT.out]
                clear NX CT
                go_wp2
                go_roundg (s.size - (k + 1))
                case measure => omega
                case rel => exact ⟨k + 1, Nat.le_refl _, hlt, by go_num, by first | rfl | rw [← cc] | (rw [cc]), hbw⟩
              · skip
                by_cases b12 : x.toNat = 12
                · obtain rfl : x = 12 := UInt8.toNat_inj.1 b12
                  have cc : A ++ (⟨#[92, 102]⟩ : ByteArray) = bs (QF s (k + 1)) := by
                    rw [NX.out, show Js.qb 12 = [92, 102] by rfl, ← CT.out]
                  clear NX CT
                  go_wp2
                  go_roundg (s.size - (k + 1))
                  case measure => omega
                  case rel => exact ⟨k + 1, Nat.le_refl _, hlt, by go_num, by first | rfl | rw [← cc] | (rw [cc]), hbw⟩
                · skip
                  by_cases b13 : x.toNat = 13
                  · obtain rfl : x = 13 := UInt8.toNat_inj.1 b13
                    have cc : A ++ (⟨#[92, 114]⟩ : ByteArray) = bs (QF s (k + 1)) := by
                      rw [NX.out, show Js.qb 13 = [92, 114] by rfl, ← CT.out]
                    clear NX CT
                    go_wp2
                    go_roundg (s.size - (k + 1))
                    case measure => omega
                    case rel => exact ⟨k + 1, Nat.le_refl _, hlt, by go_num, by first | rfl | rw [← cc] | (rw [cc]), hbw⟩
                  · skip
                    have t34 : ((x.toNat : Int) == 34) = false := by rw [beq_eq_false_iff_ne]; omega
                    have u34 : ¬ ((x.toNat : Int) = 34) := by omega
                    have t92 : ((x.toNat : Int) == 92) = false := by rw [beq_eq_false_iff_ne]; omega
                    have u92 : ¬ ((x.toNat : Int) = 92) := by omega
                    have t8 : ((x.toNat : Int) == 8) = false := by rw [beq_eq_false_iff_ne]; omega
                    have u8 : ¬ ((x.toNat : Int) = 8) := by omega
                    have t9 : ((x.toNat : Int) == 9) = false := by rw [beq_eq_false_iff_ne]; omega
                    have u9 : ¬ ((x.toNat : Int) = 9) := by omega
                    have t10 : ((x.toNat : Int) == 10) = false := by rw [beq_eq_false_iff_ne]; omega
                    have u10 : ¬ ((x.toNat : Int) = 10) := by omega
                    have t12 : ((x.toNat : Int) == 12) = false := by rw [beq_eq_false_iff_ne]; omega
                    have u12 : ¬ ((x.toNat : Int) = 12) := by omega
                    have t13 : ((x.toNat : Int) == 13) = false := by rw [beq_eq_false_iff_ne]; omega
                    have u13 : ¬ ((x.toNat : Int) = 13) := by omega
                    have hn : ∀ c : UInt8, x.toNat ≠ c.toNat → ¬ x = c := fun c hc e => hc (by rw [e])
                    by_cases h32 : x.toNat < 32
                    · have d3 : decide ((x.toNat : Int) < 32) = true := by simp; omega
                      have eq : Js.qb x = [92, 117, 48, 48, Js.hx (x.toNat / 16), Js.hx (x.toNat % 16)] := by
                        unfold Js.qb
                        rw [if_neg (by rintro (e | e); exact hn 34 b34 e; exact hn 92 b92 e), if_neg (hn 8 b8), if_neg (hn 9 b9), if_neg (hn 10 b10), if_neg (hn 12 b12), if_neg (hn 13 b13), if_pos h32]
                      have h1 := hex_at (x.toNat / 16) (by omega)
                      have h2 := hex_at (x.toNat % 16) (by omega)
                      have cc : A ++ (⟨#[92, 117, 48, 48]⟩ : ByteArray) ++ bs [Js.hx (x.toNat / 16)] ++ bs [Js.hx (x.toNat % 16)] = bs (QF s (k + 1)) := by
                        rw [NX.out, eq, ← CT.out, ByteArray.append_assoc, ByteArray.append_assoc]
                        rfl
                      clear NX CT eq hn b34 b92 b8 b9 b10 b12 b13
                      go_wp2
                      go_quiet (fail)
                      go_wp2
                      go_roundg (s.size - (k + 1))
                      case measure => omega
                      case rel => exact ⟨k + 1, Nat.le_refl _, hlt, by go_num, by first | rfl | rw [← cc] | (rw [cc]), Go.below_drewN hbw _⟩
                    · have d3 : decide ((x.toNat : Int) < 32) = false := by simp; omega
                      have eq : Js.qb x = [x] := by
                        unfold Js.qb
                        rw [if_neg (by rintro (e | e); exact hn 34 b34 e; exact hn 92 b92 e), if_neg (hn 8 b8), if_neg (hn 9 b9), if_neg (hn 10 b10), if_neg (hn 12 b12), if_neg (hn 13 b13), if_neg h32]
                      have cc : A ++ bs [x] = bs (QF s (k + 1)) := by rw [NX.out, eq, ← CT.out]
                      clear NX CT eq hn b34 b92 b8 b9 b10 b12 b13
                      go_wp2
                      go_roundg (s.size - (k + 1))
                      case measure => omega
                      case rel => exact ⟨k + 1, Nat.le_refl _, hlt, by go_num, by first | rfl | rw [← cc] | (rw [cc]), hbw⟩
    · obtain rfl : k = s.size := by omega
      have d2 : decide (s.size < s.size) = false := by simp
      have CT := bs_bs (QF s s.size) [34]
      rw [QF_all] at CT
      have zl : (bs (QF s s.size)).size ≤ 60001 := by
        have := QF_len s s.size hk
        show (bs (QF s s.size)).data.size ≤ _
        simp only []
        show (QF s s.size).length ≤ _
        omega
      have cc : bs (QF s s.size) ++ (⟨#[34]⟩ : ByteArray) = bs (Js.quote s.data.toList) := CT
      clear CT
      generalize bs (QF s s.size) = A at *
      go_wp2
      go_ret
      exact ⟨by first | rfl | rw [← cc] | (rw [cc]; rfl), hbw⟩
end Go.Proofs.YtpeioecpilmpiaaGreatDoor
