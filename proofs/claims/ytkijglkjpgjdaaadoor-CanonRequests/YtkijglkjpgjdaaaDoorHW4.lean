/-
  A block's 64 words: the program's 'blockWords'.
-/
import Derived.Test.YtkijglkjpgjdaaaDoorHW3
import Derived.Deep.RegionWith
namespace Go.Proofs.YtkijglkjpgjdaaaDoor.Ha
open Go.RowKit

theorem below_row {B : Nat} {a w : World} (h : Below B a w) {g : Nat} (hg : B ≤ g) (cs : Array Value) : Below B a (w.setRow g cs) :=
  h.trans ⟨rfl, rfl, rfl, by simp, fun k hk => setRow_other w g k cs (by omega)⟩
set_option maxHeartbeats 1600000 in
set_option maxRecDepth 100000 in
theorem bw_any (l : List Nat) (w : World) (hl : l.length = 64) (hb : ∀ x ∈ l, x < 256) :
    Calls Tryd.prog 100 #[.agg (u8s l)] w fun e w' => e = .returned (.agg (u32s (Sh.ws l 48))) ∧ Below w.heap.size w w' := by
  have HL : Aside (l.length = 64 ∧ ∀ x ∈ l, x < 256) := ⟨hl, hb⟩
  clear hl hb
  go_enter Tryd.func100, Tryd.ntmps100
  go_wp2
  go_loopg [10] 16 (fun gh s10 wr => ∃ k : Nat, 16 - k ≤ gh ∧ k ≤ 16 ∧ s10 = .int .i64 (k : Int) ∧ BW l w (firsts l k) wr)
  case atStart => exact ⟨0, by omega, by omega, rfl, BW.first l w⟩
  case round =>
    obtain ⟨k, hgh, hk, rfl, hA⟩ := hrel
    by_cases hlt : k < 16
    · have d1 : decide ((k : Int) < 16) = true := by simp; omega
      obtain ⟨hl, hb⟩ := HL.out
      obtain ⟨x0, hx0⟩ : ∃ x, x = l.getD (4 * k) 0 := ⟨_, rfl⟩
      obtain ⟨x1, hx1⟩ : ∃ x, x = l.getD (4 * k + 1) 0 := ⟨_, rfl⟩
      obtain ⟨x2, hx2⟩ : ∃ x, x = l.getD (4 * k + 2) 0 := ⟨_, rfl⟩
      obtain ⟨x3, hx3⟩ : ∃ x, x = l.getD (4 * k + 3) 0 := ⟨_, rfl⟩
      have c0 := hA.a.cell (u8s_at l (4 * k) (by omega))
      have c1 := hA.a.cell (u8s_at l (4 * k + 1) (by omega))
      have c2 := hA.a.cell (u8s_at l (4 * k + 2) (by omega))
      have c3 := hA.a.cell (u8s_at l (4 * k + 3) (by omega))
      have cw := hA.at (by rw [firsts_len]; omega) k (by omega)
      have fw := hA.c.frozen k
      have hor := or_ints x0 x1 x2 x3 (by rw [hx0]; exact getD_lt hb (by decide) _) (by rw [hx1]; exact getD_lt hb (by decide) _) (by rw [hx2]; exact getD_lt hb (by decide) _) (by rw [hx3]; exact getD_lt hb (by decide) _)
      have hw : ((x0 * 256 + x1) * 256 + x2) * 256 + x3 = Sh.word l k := by rw [hx0, hx1, hx2, hx3]; rfl
      rw [hw] at hor
      rw [← hx0] at c0
      rw [← hx1] at c1
      rw [← hx2] at c2
      rw [← hx3] at c3
      have N : Aside (BW l w (firsts l (k + 1)) (wr.setCell ⟨w.heap.size + 1 + 1, k, none⟩ (.int .u32 (Sh.word l k : Nat)))) := by
        show BW _ _ _ _
        rw [firsts_succ]
        exact hA.next k (Sh.word l k) (firsts_len l k) (by omega)
      clear hA hw hx0 hx1 hx2 hx3 hl hb
      generalize Sh.word l k = wd at hor N
      go_wp2_with fail
      go_region
      go_wp2
      go_roundg (16 - (k + 1))
      case measure => omega
      case rel => exact ⟨k + 1, Nat.le_refl _, by omega, by go_num, N.out.drew⟩
    · obtain rfl : k = 16 := by omega
      go_wp2
      have HA : Aside (BW l w (Sh.ws l 0) wr) := hA
      clear hA
      go_loopg [5] 48 (fun gh s5 wr => ∃ j k : Nat, 48 - j ≤ gh ∧ j ≤ 48 ∧ k = 16 + j ∧ s5 = .int .i64 (k : Int) ∧ BW l w (Sh.ws l j) wr)
      case atStart => exact ⟨0, 16, by omega, by omega, rfl, rfl, HA.out⟩
      case round =>
        clear HA
        obtain ⟨j, k, hgh, hk, hkj, rfl, hA⟩ := hrel
        by_cases hlt : k < 64
        · have d1 : decide ((k : Int) < 64) = true := by simp; omega
          obtain ⟨hl, hb⟩ := HL.out
          have hm : (Sh.ws l j).length ≤ 64 := by rw [Sh.ws_len]; omega
          have hlen := Sh.ws_len l j
          obtain ⟨x16, hx16⟩ : ∃ x, x = (Sh.ws l j).getD (k - 16) 0 := ⟨_, rfl⟩
          obtain ⟨x15, hx15⟩ : ∃ x, x = (Sh.ws l j).getD (k - 15) 0 := ⟨_, rfl⟩
          obtain ⟨x7, hx7⟩ : ∃ x, x = (Sh.ws l j).getD (k - 7) 0 := ⟨_, rfl⟩
          obtain ⟨x2, hx2⟩ : ∃ x, x = (Sh.ws l j).getD (k - 2) 0 := ⟨_, rfl⟩
          have c16 := hA.was hm (k - 16) (by omega)
          have c15 := hA.was hm (k - 15) (by omega)
          have c7 := hA.was hm (k - 7) (by omega)
          have c2 := hA.was hm (k - 2) (by omega)
          have cw := hA.at hm k (by omega)
          have fw := hA.c.frozen k
          have l15 : x15 < 4294967296 := by rw [hx15]; exact getD_lt (ws_lt l hb j) (by decide) _
          have l2 : x2 < 4294967296 := by rw [hx2]; exact getD_lt (ws_lt l hb j) (by decide) _
          have s0 := ss0_is x15 l15
          have s1 := ss1_is x2 l2
          have r7 : Aside (∀ u, Calls Tryd.prog 101 #[.int .u32 (x15 : Int), .int .i64 7] u fun e w' => e = .returned (.int .u32 (Sh.rr x15 7 : Nat)) ∧ w' = u) := fun u => right_any x15 7 u l15 (by decide) (by decide)
          have r18 : Aside (∀ u, Calls Tryd.prog 101 #[.int .u32 (x15 : Int), .int .i64 18] u fun e w' => e = .returned (.int .u32 (Sh.rr x15 18 : Nat)) ∧ w' = u) := fun u => right_any x15 18 u l15 (by decide) (by decide)
          have r17 : Aside (∀ u, Calls Tryd.prog 101 #[.int .u32 (x2 : Int), .int .i64 17] u fun e w' => e = .returned (.int .u32 (Sh.rr x2 17 : Nat)) ∧ w' = u) := fun u => right_any x2 17 u l2 (by decide) (by decide)
          have r19 : Aside (∀ u, Calls Tryd.prog 101 #[.int .u32 (x2 : Int), .int .i64 19] u fun e w' => e = .returned (.int .u32 (Sh.rr x2 19 : Nat)) ∧ w' = u) := fun u => right_any x2 19 u l2 (by decide) (by decide)
          have N : Aside (BW l w (Sh.ws l (j + 1)) (wr.setCell ⟨w.heap.size + 1 + 1, k, none⟩ (.int .u32 (((x16 : Int) + (Sh.ss0 x15 : Nat) + (x7 : Int) + (Sh.ss1 x2 : Nat)) % 4294967296)))) := by
            show BW _ _ _ _
            rw [show ((x16 : Int) + (Sh.ss0 x15 : Nat) + (x7 : Int) + (Sh.ss1 x2 : Nat)) % 4294967296 = (((x16 + Sh.ss0 x15 + x7 + Sh.ss1 x2) % 4294967296 : Nat) : Int) by simp]
            rw [wnext_is l j k hkj, ← hx16, ← hx15, ← hx7, ← hx2]
            exact hA.next k _ (by omega) (by omega)
          rw [← hx16] at c16
          rw [← hx15] at c15
          rw [← hx7] at c7
          rw [← hx2] at c2
          have h16 : 16 ≤ k := by omega
          have HK : Aside (k = 16 + j) := hkj
          clear hA hx16 hx15 hx7 hx2 hl hb hm hlen hkj
          go_wp2_with fail
          go_region
          go_wp2_with (first
            | (go_at_call_of 101 (Value.int IntKind.i64 7); refine (r7.out _).mono ?_; rintro e w1 ⟨rfl, rfl⟩)
            | (go_at_call_of 101 (Value.int IntKind.i64 18); refine (r18.out _).mono ?_; rintro e w1 ⟨rfl, rfl⟩)
            | (go_at_call_of 101 (Value.int IntKind.i64 17); refine (r17.out _).mono ?_; rintro e w1 ⟨rfl, rfl⟩)
            | (go_at_call_of 101 (Value.int IntKind.i64 19); refine (r19.out _).mono ?_; rintro e w1 ⟨rfl, rfl⟩))
          clear r7 r18 r17 r19
          go_region
          go_wp2
          go_roundg (48 - (j + 1))
          case measure => have := HK.out; omega
          case rel =>
            refine ⟨j + 1, k + 1, Nat.le_refl _, by have := HK.out; omega, by have := HK.out; omega, by go_num, ?_⟩
            exact N.out.drew.drew
        · obtain rfl : j = 48 := by omega
          obtain rfl : k = 64 := by omega
          have hC : Blk wr (w.heap.size + 1 + 1) 76 (u32s (Sh.ws l 48)) := by
            have := hA.c
            unfold mem at this
            rw [Sh.ws_len] at this
            simpa using this
          have hB := hA.b
          go_wp2_with (first
            | (refine wpList_load_row rfl 76 _ rfl _ rfl 76 _ (0, 0) _ hC Tryd.underlying76 rfl (by rw [u32s_size, Sh.ws_len]; exact sz25) ?_)
            | (refine wpList_store_row rfl 76 _ _ rfl _ _ rfl rfl 76 _ hB (by rw [u32s_size, Sh.ws_len]; exact sz25) (by rw [u32s_size, u32s_size, Sh.ws_len]; simp) (u32s_one _) ?_))
          have hR : Blk (wr.setRow (w.heap.size + 1) (u32s (Sh.ws l 48))) (w.heap.size + 1) 76 (u32s (Sh.ws l 48)) := hB.row
          refine bodyPost_ret (v := .agg (u32s (Sh.ws l 48))) (results_cell_row Tryd.results100 _ _ (w.heap.size + 1) 76 _ (0, 0) _ rfl hR Tryd.underlying76 rfl (by rw [u32s_size, Sh.ws_len]; exact sz25)) rfl ⟨rfl, ?_⟩
          exact below_row hA.bel (by omega) _
end Go.Proofs.YtkijglkjpgjdaaaDoor.Ha
