/-
  A block's 64 words, as the program makes them.
-/
import Derived.Test.YtkijglkjpgjdaaaDoorHW2
import Derived.Deep.MidRow
namespace Go.Proofs.YtkijglkjpgjdaaaDoor.Ha
open Go.RowKit

theorem or_ints (a b c d : Nat) (ha : a < 256) (hb : b < 256) (hc : c < 256) (hd : d < 256) :
    bits BinOp.or IntKind.u32 (bits BinOp.or IntKind.u32 (bits BinOp.or IntKind.u32 ((a : Int) % 4294967296 * 16777216 % 4294967296) ((b : Int) % 4294967296 * 65536 % 4294967296)) ((c : Int) % 4294967296 * 256 % 4294967296)) ((d : Int) % 4294967296)
      = ((((a * 256 + b) * 256 + c) * 256 + d : Nat) : Int) := by
  rw [show (a : Int) % 4294967296 * 16777216 % 4294967296 = ((a * 16777216 : Nat) : Int) by omega, show (b : Int) % 4294967296 * 65536 % 4294967296 = ((b * 65536 : Nat) : Int) by omega,
    show (c : Int) % 4294967296 * 256 % 4294967296 = ((c * 256 : Nat) : Int) by omega, show (d : Int) % 4294967296 = (d : Int) by omega]
  have l1 : a * 16777216 ||| b * 65536 < 4294967296 := Nat.or_lt_two_pow (n := 32) (by omega) (by omega)
  have l2 : a * 16777216 ||| b * 65536 ||| c * 256 < 4294967296 := Nat.or_lt_two_pow (n := 32) l1 (by omega)
  rw [or32 _ _ (by omega) (by omega), or32 _ _ l1 (by omega), or32 _ _ l2 (by omega), or_word a b c d ha hb hc hd]

theorem ws_lt (l : List Nat) (hl : ∀ x ∈ l, x < 256) : ∀ n, ∀ x ∈ Sh.ws l n, x < 4294967296
  | 0 => fun x hx => by
    simp only [Sh.ws, List.mem_map] at hx
    obtain ⟨i, _, rfl⟩ := hx
    exact word_lt l hl i
  | n + 1 => fun x hx => by
    simp only [Sh.ws, List.mem_append, List.mem_singleton] at hx
    rcases hx with hx | rfl
    · exact ws_lt l hl n x hx
    · exact Nat.mod_lt _ (by decide)

theorem firsts_16 (l : List Nat) : firsts l 16 = Sh.ws l 0 := rfl

theorem sz24 : (Tryd.prog.info? 75).map (·.size) = some 8 := by kernel_rfl
theorem sz25 : (Tryd.prog.info? 76).map (·.size) = some 64 := by kernel_rfl
theorem sz44 : (Tryd.prog.info? 90).map (·.size) = some 64 := by kernel_rfl
theorem sz46 : (Tryd.prog.info? 92).map (·.size) = some 73 := by kernel_rfl

theorem u32s_one (l : List Nat) : (u32s l).all (·.oneCell') = true := all_oneCell_toArray fun v hv => by
  simp only [List.mem_map] at hv
  obtain ⟨x, _, rfl⟩ := hv
  rfl
theorem u8s_one (l : List Nat) : (u8s l).all (·.oneCell') = true := all_oneCell_toArray fun v hv => by
  simp only [List.mem_map] at hv
  obtain ⟨x, _, rfl⟩ := hv
  rfl

/-- What stands in the memory of 'blockWords'. -/
structure BW (l : List Nat) (w : World) (m : List Nat) (wr : World) : Prop where
  size : wr.heap.size = w.heap.size + 3
  a : Blk wr w.heap.size 90 (u8s l)
  b : Blk wr (w.heap.size + 1) 76 (u32s (List.replicate 64 0))
  c : Blk wr (w.heap.size + 1 + 1) 76 (u32s (mem m))
  bel : Below w.heap.size w wr

theorem BW.first (l : List Nat) (w : World) : BW l w [] (((w.alloc (.cells (u8s l) 90)).alloc (.cells (u32s (List.replicate 64 0)) 76)).alloc (.cells (u32s (List.replicate 64 0)) 76)) := by
  refine ⟨by simp, ((Blk.new w 90 (u8s l)).alloc _).alloc _, ?_, ?_, (((Below.refl _ _).alloc (Nat.le_refl _) _).alloc (by simp) _).alloc (by simp; omega) _⟩
  · have := (Blk.new (w.alloc (.cells (u8s l) 90)) 76 (u32s (List.replicate 64 0)))
    rw [size_alloc] at this
    exact this.alloc _
  · have := (Blk.new ((w.alloc (.cells (u8s l) 90)).alloc (.cells (u32s (List.replicate 64 0)) 76)) 76 (u32s (List.replicate 64 0)))
    rw [size_alloc, size_alloc] at this
    exact this

theorem BW.next {l : List Nat} {w : World} {m : List Nat} {wr : World} (h : BW l w m wr) (k x : Nat) (hk : m.length = k) (hm : k < 64) : BW l w (m ++ [x]) (wr.setCell ⟨w.heap.size + 1 + 1, k, none⟩ (.int .u32 (x : Int))) := by
  subst hk
  refine ⟨by rw [size_setCell]; exact h.size, h.a.other (by simp; omega) _, h.b.other (by simp) _, ?_, h.bel.setCell (by simp; omega) _⟩
  have := h.c.set m.length (.int .u32 (x : Int))
  rw [u32s_set, mem_set m x hm] at this
  exact this

theorem BW.drew {l : List Nat} {w : World} {m : List Nat} {wr : World} (h : BW l w m wr) : BW l w m wr.drew := ⟨h.size, h.a, h.b, h.c, h.bel.drew⟩

theorem BW.at {l : List Nat} {w : World} {m : List Nat} {wr : World} (h : BW l w m wr) (hm : m.length ≤ 64) (i : Nat) (hi : i < 64) : wr.cell? ⟨w.heap.size + 1 + 1, i, none⟩ = some (.int .u32 (((mem m).getD i 0 : Nat) : Int)) :=
  h.c.cell (u32s_at (mem m) i (by rw [mem_len m hm]; exact hi))

theorem BW.was {l : List Nat} {w : World} {m : List Nat} {wr : World} (h : BW l w m wr) (hm : m.length ≤ 64) (i : Nat) (hi : i < m.length) : wr.cell? ⟨w.heap.size + 1 + 1, i, none⟩ = some (.int .u32 ((m.getD i 0 : Nat) : Int)) := by
  have := h.at hm i (by omega)
  rw [mem_at m i hi] at this
  exact this

theorem wnext_is (l : List Nat) (j k : Nat) (hk : k = 16 + j) : Sh.ws l (j + 1) = Sh.ws l j ++ [((Sh.ws l j).getD (k - 16) 0 + Sh.ss0 ((Sh.ws l j).getD (k - 15) 0) + (Sh.ws l j).getD (k - 7) 0 + Sh.ss1 ((Sh.ws l j).getD (k - 2) 0)) % 4294967296] := by
  subst hk
  simp only [Sh.ws, Sh.wnext, Sh.ws_len]

theorem ss0_is (x : Nat) (hx : x < 4294967296) : bits BinOp.xor IntKind.u32 (bits BinOp.xor IntKind.u32 ((Sh.rr x 7 : Nat) : Int) ((Sh.rr x 18 : Nat) : Int)) ((x : Int) / 8) = ((Sh.ss0 x : Nat) : Int) := by
  rw [xor32 _ _ (Sh.rr_lt hx) (Sh.rr_lt hx)]
  have := xor32 (Sh.rr x 7 ^^^ Sh.rr x 18) (x / 8) (Sh.xor_lt (Sh.rr_lt hx) (Sh.rr_lt hx)) (by omega)
  unfold Sh.ss0
  rw [← this]
  simp
theorem ss1_is (x : Nat) (hx : x < 4294967296) : bits BinOp.xor IntKind.u32 (bits BinOp.xor IntKind.u32 ((Sh.rr x 17 : Nat) : Int) ((Sh.rr x 19 : Nat) : Int)) ((x : Int) / 1024) = ((Sh.ss1 x : Nat) : Int) := by
  rw [xor32 _ _ (Sh.rr_lt hx) (Sh.rr_lt hx)]
  have := xor32 (Sh.rr x 17 ^^^ Sh.rr x 19) (x / 1024) (Sh.xor_lt (Sh.rr_lt hx) (Sh.rr_lt hx)) (by omega)
  unfold Sh.ss1
  rw [← this]
  simp
end Go.Proofs.YtkijglkjpgjdaaaDoor.Ha
