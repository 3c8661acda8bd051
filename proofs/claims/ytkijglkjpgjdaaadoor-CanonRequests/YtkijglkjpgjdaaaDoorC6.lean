/-
  A part's bytes, as the program reads them.
-/
import Derived.Test.YtkijglkjpgjdaaaDoorC5
import Derived.Deep.RegionWith
import Derived.Deep.QuietTactic
namespace Go.Proofs.YtkijglkjpgjdaaaDoor
open Go.RowKit

theorem own_drewN {w : World} {base : Nat} {e : TypeId} {size : Nat} {v : Value} {n : Nat} {xs : List Value} (h : w.ownsRow base e size v n xs) : ∀ k, (w.drewN k).ownsRow base e size v n xs
  | 0 => h
  | k + 1 => (own_drewN h k).drew
theorem below_drewN {B : Nat} {u w : World} (h : Below B u w) : ∀ n, Below B u (w.drewN n)
  | 0 => h
  | n + 1 => (below_drewN h n).drew

theorem size_drewN (w : World) : ∀ n, (w.drewN n).heap.size = w.heap.size
  | 0 => rfl
  | n + 1 => size_drewN w n
theorem size_alloc (w : World) (o : Obj) : (w.alloc o).heap.size = w.heap.size + 1 := by
  show (w.heap.push o).size = _
  simp

theorem conv_row {w : World} {base : Nat} {v : Value} {l : List UInt8} (h : w.ownsRow base 5 1 v l.length (Pa.cellsB l)) : (convert 41 9 v).run Tryd.prog w = .ok (.string ⟨l.toArray⟩) w := by
  rcases h.2 with ⟨rfl, h0⟩ | ⟨g, cap, cur, rfl, hg, hh, _⟩
  · have : l = [] := List.eq_nil_of_length_eq_zero h0
    subst this
    exact run_convert_bytes_nil w 41 5 Tryd.underlying41 Tryd.underlying5 0 0 9 Tryd.underlying9
  · exact Pa.conv_own base g cap l l.length w rfl h

theorem or_hex : ∀ a b : Fin 16, bits BinOp.or IntKind.i64 ((a.val : Int) * 16) (b.val : Int) = ((a.val * 16 + b.val : Nat) : Int) := by decide +kernel

theorem hex_byte (a b : Int) (ha : 0 ≤ a ∧ a ≤ 15) (hb : 0 ≤ b ∧ b ≤ 15) : bits BinOp.or IntKind.i64 (a * 16) b = a * 16 + b := by
  obtain ⟨m, rfl⟩ : ∃ m : Nat, a = m := ⟨a.toNat, by omega⟩
  obtain ⟨n, rfl⟩ : ∃ n : Nat, b = n := ⟨b.toNat, by omega⟩
  have := or_hex ⟨m, by omega⟩ ⟨n, by omega⟩
  dsimp only at this
  rw [this]
  omega

theorem index_str (t : ByteArray) (n : Nat) (h : n < t.size) (z : Int) (hz : z = (n : Int)) (w : World) : (Instr.index 9 (.string t) (.int .i64 z)).run Tryd.prog w = .ok (.int .u8 (t[n].toNat : Int)) w := by
  subst hz
  have h0 : (0 : Int) ≤ (n : Int) := by omega
  have h1 : t[n]? = some t[n] := getElem?_pos t n h
  simp only [Instr.index, asIntOf, Sem.run_bind, Sem.run_pure, Result.andThen_ok, run_underlying Tryd.underlying9, h0, if_true, Int.toNat_natCast, h1]

theorem wrap_small (z : Int) (h0 : 0 ≤ z) (h1 : z ≤ 2000000) : IntKind.i64.wrap z = z := Pa.wraps_i64 z h0 (by omega)

/-- What holds at each round's head. -/
def BRel (s : ByteArray) (w : World) (v s5 : Value) (wr : World) (k : Nat) : Prop :=
  ∃ L : List UInt8, s5 = .int .i64 (k : Int) ∧ k ≤ s.size ∧ L.length ≤ k ∧ wr.ownsRow w.heap.size 5 1 v L.length (Pa.cellsB L) ∧ Below w.heap.size w wr ∧ Cn.rest L (s.data.toList.drop k) = Cn.readB s.data.toList

set_option maxHeartbeats 1600000 in
set_option maxRecDepth 1000000 in
theorem readBytes_any (s : ByteArray) (w : World) (hs : s.size ≤ 1000000) :
    Calls Tryd.prog 62 #[.string s] w fun e w' => e = .returned (opt (Cn.readB s.data.toList)) ∧ Below w.heap.size w w' := by
  obtain ⟨i0, hi, hz0, hz1, hz2⟩ := info_parts Pa.Tryd.info5
  have k84 : Aside (∀ (b : UInt8) (u : World), _) := fun b u => hexValue_any b u
  go_enter Tryd.func62, Tryd.ntmps62
  go_wp2
  go_loopg [4, 5] s.size (fun gh v s5 wr => ∃ k : Nat, s.size - k ≤ gh ∧ BRel s w v s5 wr k)
  case atStart => exact ⟨0, by omega, [], rfl, by omega, by simp, World.ownsRow_nil _ _ _ _, Below.refl _ _, Cn.rest_start _⟩
  case round =>
    obtain ⟨k, hgh, L, rfl, hk, hL, hown, hbw, hr⟩ := hrel
    have hsz := hbw.size
    by_cases hp : k < s.size
    · rw [byte_at s k hp] at hr
      by_cases hc : s[k] = 37
      · rw [hc] at hr
        have d1 : ((s[k].toNat : Int) != 37) = false := by rw [hc]; rfl
        by_cases h2 : k + 2 < s.size
        · have d2 : decide ((s.size : Int) ≤ (k : Int) + 2) = false := by simp; omega
          rw [byte_at s (k + 1) (by omega), byte_at s (k + 1 + 1) (by omega)] at hr
          clear hc
          have r1 := Cn.hexV_range s[k + 1]
          have r2 := Cn.hexV_range s[k + 2]
          have x1 := index_str s (k + 1) (by omega) ((k : Int) + 1) (by omega)
          have x2 := index_str s (k + 2) (by omega) ((k : Int) + 2) (by omega)
          have y1 := wrap_small ((k : Int) + 1) (by omega) (by omega)
          have y2 := wrap_small ((k : Int) + 2) (by omega) (by omega)
          have hr2 : Cn.rest L (37 :: s[k + 1] :: s[k + 2] :: s.data.toList.drop (k + 3)) = Cn.readB s.data.toList := hr
          clear hr
          by_cases hx : Cn.hexV s[k + 1] < 0 ∨ Cn.hexV s[k + 2] < 0
          · have A : Aside (Cn.readB s.data.toList = none) := by
              show _ = _
              rw [← hr2]
              exact Cn.rest_bad _ _ _ _ hx
            clear hr2
            have HK : Aside (∀ (b : UInt8) (u : World), Calls Tryd.prog 84 #[.int .u8 (b.toNat : Int)] u fun e w' => e = .returned (.int .i64 (Cn.hexV b)) ∧ w' = u) := k84.out
            clear k84
            generalize Cn.hexV = F at *
            clear r1 r2
            go_wp2_with fail
            go_quiet (first | (go_at_call 84; exact Calls.quiet_of_same (HK.out _ _)))
            go_wp2
            all_goals first
              | (go_ret2; exact ⟨by rw [A.out]; rfl, below_drewN hbw _⟩)
              | (exfalso; omega)
          · rw [Cn.rest_hex _ _ _ _ hx] at hr2
            have e1 := hex_byte (Cn.hexV s[k + 1]) (Cn.hexV s[k + 2]) (by omega) (by omega)
            have A : Aside (Cn.rest (L ++ [UInt8.ofNat (Cn.hexV s[k + 1] * 16 + Cn.hexV s[k + 2]).toNat]) (s.data.toList.drop (k + 3)) = Cn.readB s.data.toList) := hr2
            clear hr2
            have HK : Aside (∀ (b : UInt8) (u : World), Calls Tryd.prog 84 #[.int .u8 (b.toNat : Int)] u fun e w' => e = .returned (.int .i64 (Cn.hexV b)) ∧ w' = u) := k84.out
            clear k84
            generalize Cn.hexV = F at *
            have d3 : decide (F s[k + 1] < 0) = false := by simp; omega
            have d4 : decide (F s[k + 2] < 0) = false := by simp; omega
            go_wp2_with fail
            go_quiet (first | (go_at_call 84; exact Calls.quiet_of_same (HK.out _ _)))
            have hownN := own_drewN hown nq
            have hbN := below_drewN hbw nq
            have hsN := size_drewN wr nq
            go_wp2_with (at_builtin; refine wpList_append_own _ rfl (.tmp 45) (.tmp 51) 41 rfl w.heap.size 5 i0 (.int .u8 0) 1 1 Tryd.underlying41 hi hz0 hz1 hz2 rfl (by decide) _ _ _ rfl (hownN.alloc _) ⟨wr.heap.size, 0, none⟩ 1 1 [.int .u8 (F s[k + 1] * 16 + F s[k + 2])] rfl rfl ?c1 ?c2 ?c3 ?c4 ?c5 ?_)
            case c1 => have h := cell_one_new (wr.drewN nq) (.int .u8 (F s[k + 1] * 16 + F s[k + 2])) 5; rw [hsN] at h; exact h
            case c2 => intro u hu; simp at hu; subst hu; rfl
            case c3 => unfold maxLen; omega
            case c4 => omega
            case c5 => simp; omega
            intro v' w1 hown' hgrow _
            have E : Aside (w1.ownsRow w.heap.size 5 1 v' (L.length + 1) (Pa.cellsB (L ++ [UInt8.ofNat (F s[k + 1] * 16 + F s[k + 2]).toNat])) ∧ Below w.heap.size w w1) := by
              refine ⟨?_, (hbN.alloc (by rw [hsN]; exact hsz) _).grown hgrow (by rw [size_alloc, hsN]; omega) (fun g hg => (hownN.lt g hg).1)⟩
              have hv : ((UInt8.ofNat (F s[k + 1] * 16 + F s[k + 2]).toNat).toNat : Int) = F s[k + 1] * 16 + F s[k + 2] := by
                rw [UInt8.toNat_ofNat', Nat.mod_eq_of_lt (by omega)]
                omega
              rw [← Pa.cellsB_snoc, hv]
              exact hown'
            clear hown' hgrow hownN hbN hown
            go_wp2
            go_roundg (s.size - (k + 3))
            case measure => omega
            case rel => exact ⟨k + 3, Nat.le_refl _, L ++ [UInt8.ofNat (F s[k + 1] * 16 + F s[k + 2]).toNat], by go_num, by omega, by simp; omega, by rw [List.length_append]; exact E.out.1, E.out.2, A.out⟩
        · have d2 : decide ((s.size : Int) ≤ (k : Int) + 2) = true := by simp; omega
          have A : Aside (Cn.readB s.data.toList = none) := by
            show _ = _
            rw [← hr]
            exact Cn.rest_short _ _ (by have : s.data.toList.length = s.size := rfl; rw [List.length_drop]; omega)
          clear hr hc
          go_wp2
          go_ret2
          exact ⟨by rw [A.out]; rfl, hbw⟩
      · have d1 : ((s[k].toNat : Int) != 37) = true := by
          simp
          intro h
          exact hc (UInt8.toNat_inj.1 (by have : (37 : UInt8).toNat = 37 := rfl; omega))
        rw [Cn.rest_plain _ _ _ hc] at hr
        have A : Aside (Cn.rest (L ++ [s[k]]) (s.data.toList.drop (k + 1)) = Cn.readB s.data.toList) := hr
        clear hr hc
        go_wp2_with (at_builtin; refine wpList_append_own _ rfl (.tmp 18) (.tmp 22) 41 rfl w.heap.size 5 i0 (.int .u8 0) 1 1 Tryd.underlying41 hi hz0 hz1 hz2 rfl (by decide) _ _ _ rfl (hown.alloc _) ⟨wr.heap.size, 0, none⟩ 1 1 [.int .u8 (s[k].toNat : Int)] rfl rfl ?c1 ?c2 ?c3 ?c4 ?c5 ?_)
        case c1 => exact (cell_one_new _ _ _)
        case c2 => intro u hu; simp at hu; subst hu; rfl
        case c3 => unfold maxLen; omega
        case c4 => omega
        case c5 => simp; omega
        intro v' w1 hown' hgrow _
        go_wp2
        go_roundg (s.size - (k + 1))
        case measure => omega
        case rel =>
          refine ⟨k + 1, Nat.le_refl _, L ++ [s[k]], by go_num, by omega, by simp; omega, ?_, (hbw.alloc hsz _).grown hgrow (by simp; omega) (fun g hg => (hown.lt g hg).1), A.out⟩
          rw [← Pa.cellsB_snoc, List.length_append]
          exact hown'
    · obtain rfl : k = s.size := by omega
      have hd : s.data.toList.drop s.size = [] := List.drop_eq_nil_of_le (Nat.le_refl _)
      rw [hd, Cn.rest_nil] at hr
      have hcv := conv_row hown
      have A : Aside (Cn.readB s.data.toList = some L) := hr.symm
      clear hr hd
      go_wp2
      go_ret2
      exact ⟨by rw [A.out]; rfl, hbw⟩
end Go.Proofs.YtkijglkjpgjdaaaDoor
