/-
  Bytes that come, one by one; the end that is laid behind them.
-/
import Derived.Test.YtkijglkjpgjdaaaDoorHW8
namespace Go.Proofs.YtkijglkjpgjdaaaDoor.Ha
open Go.RowKit

def bytes (s : ByteArray) : List Nat := s.data.toList.map UInt8.toNat

theorem bytes_len (s : ByteArray) : (bytes s).length = s.size := by simp [bytes]
theorem bytes_lt (s : ByteArray) : ∀ x ∈ bytes s, x < 256 := fun x hx => by
  simp only [bytes, List.mem_map] at hx
  obtain ⟨y, _, rfl⟩ := hx
  exact y.toNat_lt
theorem bytes_at (s : ByteArray) (k : Nat) (h : k < s.size) : (bytes s).take (k + 1) = (bytes s).take k ++ [s[k].toNat] := by
  have hk : k < (bytes s).length := by rw [bytes_len]; exact h
  rw [List.take_succ_eq_append_getElem hk]
  simp [bytes]
  rfl

theorem Hs.nx {b : Nat} {h : Sh.HS} {w : World} (k : Hs b h w) : Hs b h w.drew := ⟨k.at_, k.tab⟩

set_option maxHeartbeats 1600000 in
set_option maxRecDepth 100000 in
theorem write_any (h : Sh.HS) (s : ByteArray) (b : Nat) (w : World) (hH : Hs b h w) (hb : b ≠ 4) (hok : h.Ok) (hn : h.n + s.size < 1000000000) :
    Calls Tryd.prog 51 #[.pointer (some ⟨b, 0, none⟩), .string s] w fun e w' => e = .returned (.tuple #[]) ∧ Hs b (Sh.putAll h (bytes s)) w' ∧ Upd b w w' := by
  have HH : Aside (Hs b h w ∧ h.Ok) := ⟨hH, hok⟩
  clear hH hok
  go_enter Tryd.func51, Tryd.ntmps51
  go_wp2
  go_loopg [9] s.size (fun gh s9 wr => ∃ k : Nat, s.size - k ≤ gh ∧ k ≤ s.size ∧ s9 = .int .i64 (k : Int) ∧ Hs b (Sh.putAll h ((bytes s).take k)) wr ∧ Upd b w wr)
  case atStart => exact ⟨0, by omega, by omega, rfl, HH.out.1, Upd.refl b w⟩
  case round =>
    obtain ⟨k, hgh, hk, rfl, h1, h2⟩ := hrel
    by_cases hlt : k < s.size
    · have k21 := put_any (Sh.putAll h ((bytes s).take k)) s[k].toNat b wr h1 hb (Sh.putAll_ok HH.out.2 _ (fun x hx => bytes_lt s x (List.mem_of_mem_take hx))) s[k].toNat_lt (by rw [Sh.putAll_n, List.length_take, bytes_len]; omega)
      rw [← Sh.putAll_snoc, ← bytes_at s k hlt] at k21
      have H2 : Aside (Upd b w wr) := h2
      clear h1 h2
      go_wp2_with (go_at_call 77; refine k21.mono ?_; rintro e w1 ⟨rfl, h3, h4⟩)
      go_roundg (s.size - (k + 1))
      case measure => omega
      case rel => exact ⟨k + 1, Nat.le_refl _, by omega, by go_num, h3, H2.out.trans h4⟩
    · obtain rfl : k = s.size := by omega
      have H : Aside (Hs b (Sh.putAll h (bytes s)) wr ∧ Upd b w wr) := by
        rw [List.take_of_length_le (by rw [bytes_len]; omega)] at h1
        exact ⟨h1, h2⟩
      clear h1 h2
      go_wp2
      go_end0
      exact ⟨rfl, H.out⟩

theorem write_nil (s : ByteArray) (w : World) : Calls Tryd.prog 51 #[.pointer none, .string s] w fun e w' => e = .returned (.tuple #[]) ∧ w' = w := by
  go_enter Tryd.func51, Tryd.ntmps51
  go_wp2
  exact bodyPost_ret (v := .tuple #[]) (by simp [results, Tryd.results51]) rfl ⟨rfl, rfl⟩

theorem sum_nil (w : World) : Calls Tryd.prog 52 #[.pointer none] w fun e w' => e = .returned (.string ⟨#[]⟩) ∧ w' = w := by
  go_enter Tryd.func52, Tryd.ntmps52
  go_wp2
  go_ret
  exact ⟨rfl, rfl⟩

theorem zero46 : ∀ w, (zeroValue 92).run Tryd.prog w = .ok (.agg (cellsH Sh.h0)) w := (zero_of_info (P := Tryd.prog) (t := 92) (v := .agg (cellsH Sh.h0)) (n := 73) (by kernel_rfl)).1

theorem new_any (w : World) (hT : Tab w) : Calls Tryd.prog 50 #[] w fun e w' => e = .returned (.pointer (some ⟨w.heap.size, 0, none⟩)) ∧ Hs w.heap.size Sh.h0 w' ∧ Below w.heap.size w w' ∧ w'.heap.size = w.heap.size + 1 := by
  have hz := zero46
  go_enter Tryd.func50, Tryd.ntmps50
  go_wp2
  go_ret
  have hbel : Below w.heap.size w (w.alloc (.cells (cellsH Sh.h0) 92)) := (Below.refl _ _).alloc (Nat.le_refl _) _
  exact ⟨rfl, ⟨⟨Blk.new w 92 (cellsH Sh.h0), rfl⟩, hT.later hbel⟩, hbel, size_alloc _ _⟩

set_option maxHeartbeats 1600000 in
set_option maxRecDepth 100000 in
theorem pad_any (h : Sh.HS) (b : Nat) (w : World) (hH : Hs b h w) (hb : b ≠ 4) (hok : h.Ok) (hn : h.n < 900000000) :
    Calls Tryd.prog 78 #[.pointer (some ⟨b, 0, none⟩)] w fun e w' => e = .returned (.tuple #[]) ∧ Hs b (Sh.putAll h ([128] ++ List.replicate (Sh.zs h.n) 0 ++ Sh.be (8 * h.n) 8)) w' ∧ Upd b w w' := by
  have HH : Aside (Hs b h w ∧ h.Ok) := ⟨hH, hok⟩
  have cs := hH.at_.size
  have k21 := put_any h 128 b w hH hb hok (by decide) (by omega)
  clear hH hok
  go_enter Tryd.func78, Tryd.ntmps78
  go_wp2_with (go_at_call 77; refine k21.mono ?_; rintro e w1 ⟨rfl, h3, h4⟩)
  have HA : Aside (Hs b (Sh.putAll h ([128] ++ List.replicate 0 0)) w1 ∧ Upd b w w1) := ⟨h3, h4⟩
  clear h3 h4 k21 cs
  have hzl := Sh.zs_lt h.n
  go_loopg [] 64 (fun gh wr => ∃ k : Nat, Sh.zs h.n - k ≤ gh ∧ k ≤ Sh.zs h.n ∧ Hs b (Sh.putAll h ([128] ++ List.replicate k 0)) wr ∧ Upd b w wr)
  case atStart => exact ⟨0, by omega, by omega, HA.out⟩
  case round =>
    clear HA
    obtain ⟨k, hgh, hk, h1, h2⟩ := hrel
    have cs := h1.at_.size
    have hnn : (Sh.putAll h ([128] ++ List.replicate k 0)).n = h.n + 1 + k := by rw [Sh.putAll_n]; simp; omega
    rw [hnn] at cs
    by_cases hlt : k < Sh.zs h.n
    · have d1 : ((((h.n + 1 + k : Nat) : Int) % 64) != 56) = true := by
        have := Sh.zs_least h.n k hlt
        rw [bne_iff_ne]
        omega
      have k21 := put_any (Sh.putAll h ([128] ++ List.replicate k 0)) 0 b wr h1 hb (Sh.putAll_ok HH.out.2 _ (fun x hx => by
        simp only [List.mem_append, List.mem_singleton, List.mem_replicate] at hx
        omega)) (by decide) (by omega)
      rw [← Sh.putAll_snoc, List.append_assoc, ← List.replicate_succ'] at k21
      have H2 : Aside (Upd b w wr) := h2
      generalize h.n + 1 + k = m at cs d1
      clear h1 h2 hnn
      go_wp2_with (go_at_call 77; refine k21.mono ?_; rintro e w1 ⟨rfl, h3, h4⟩)
      go_roundg (Sh.zs h.n - (k + 1))
      case measure => omega
      case rel => exact ⟨k + 1, Nat.le_refl _, by omega, h3, H2.out.trans h4⟩
    · obtain rfl : k = Sh.zs h.n := by omega
      have d1 : ((((h.n + 1 + Sh.zs h.n : Nat) : Int) % 64) != 56) = false := by
        have := Sh.zs_is h.n
        rw [bne_eq_false_iff_eq]
        omega
      have HB : Aside (Hs b (Sh.putAll h ([128] ++ List.replicate (Sh.zs h.n) 0 ++ Sh.be (8 * h.n) 0)) wr ∧ Upd b w wr) := by
        refine ⟨?_, h2⟩
        have e : [128] ++ List.replicate (Sh.zs h.n) 0 ++ Sh.be (8 * h.n) 0 = [128] ++ List.replicate (Sh.zs h.n) 0 := by simp [Sh.be]
        rw [e]
        exact h1
      clear h1 h2 hnn
      generalize h.n + 1 + Sh.zs h.n = m at cs d1
      go_wp2
      clear cs d1 hzl hlt hgh hk
      go_loopg [20] 8 (fun gh s20 wr => ∃ k : Nat, 8 - k ≤ gh ∧ k ≤ 8 ∧ s20 = .int .i64 (k : Int) ∧ Hs b (Sh.putAll h ([128] ++ List.replicate (Sh.zs h.n) 0 ++ Sh.be (8 * h.n) k)) wr ∧ Upd b w wr)
      case atStart => exact ⟨0, by omega, by omega, rfl, HB.out⟩
      case round =>
        clear HB
        obtain ⟨k, hgh, hk, rfl, h1, h2⟩ := hrel
        by_cases hlt : k < 8
        · have d1 : decide ((k : Int) < 8) = true := by simp; omega
          obtain ⟨x, hx⟩ : ∃ x, x = 8 * h.n / 2 ^ (56 - 8 * k) % 256 := ⟨_, rfl⟩
          have hv : (h.n : Int) * 8 / 2 ^ (56 - 8 * k) % 256 = (x : Int) := by
            rw [hx, Nat.mul_comm 8 h.n]
            simp
          have k21 := put_any (Sh.putAll h ([128] ++ List.replicate (Sh.zs h.n) 0 ++ Sh.be (8 * h.n) k)) x b wr h1 hb (Sh.putAll_ok HH.out.2 _ (fun y hy => by
            simp only [List.mem_append, List.mem_singleton, List.mem_replicate, Sh.be, List.mem_map] at hy
            rcases hy with (hy | hy) | ⟨j, _, hy⟩
            · omega
            · omega
            · rw [← hy]
              exact Nat.mod_lt _ (by decide))) (by rw [hx]; exact Nat.mod_lt _ (by decide)) (by
                rw [Sh.putAll_n]
                simp only [List.length_append, List.length_replicate, Sh.be_len, List.length_cons, List.length_nil]
                have := Sh.zs_lt h.n
                omega)
          rw [← Sh.putAll_snoc, List.append_assoc, hx, ← Sh.be_succ, ← hx] at k21
          have H2 : Aside (Upd b w wr) := h2
          clear h1 h2 hx
          go_wp2_with (go_at_call 77; refine k21.mono ?_; rintro e w1 ⟨rfl, h3, h4⟩)
          go_roundg (8 - (k + 1))
          case measure => omega
          case rel => exact ⟨k + 1, Nat.le_refl _, by omega, by go_num, h3, H2.out.trans h4⟩
        · obtain rfl : k = 8 := by omega
          have H : Aside (Hs b (Sh.putAll h ([128] ++ List.replicate (Sh.zs h.n) 0 ++ Sh.be (8 * h.n) 8)) wr ∧ Upd b w wr) := ⟨h1, h2⟩
          clear h1 h2
          go_wp2
          go_end0
          exact ⟨rfl, H.out⟩
end Go.Proofs.YtkijglkjpgjdaaaDoor.Ha
