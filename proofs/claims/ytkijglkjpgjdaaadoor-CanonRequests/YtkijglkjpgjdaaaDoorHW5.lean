/-
  What a round reckons, number by number; the constants' table; the start.
-/
import Derived.Test.YtkijglkjpgjdaaaDoorHW4
namespace Go.Proofs.YtkijglkjpgjdaaaDoor.Ha
open Go.RowKit

def vals (v : Sh.V8) : Array Value := #[.int .u32 (v.a : Int), .int .u32 (v.b : Int), .int .u32 (v.c : Int), .int .u32 (v.d : Int), .int .u32 (v.e : Int), .int .u32 (v.f : Int), .int .u32 (v.g : Int), .int .u32 (v.h : Int)]

/-- The constants lie where the program's variable lies. -/
def Tab (w : World) : Prop := ∀ i, i < 64 → w.cell? ⟨4, i, none⟩ = some (.int .u32 ((Sh.K.getD i 0 : Nat) : Int))

theorem Tab.pos {w : World} (h : Tab w) : 4 < w.heap.size := block_lt_of_cell (h 0 (by decide))
theorem Tab.below {w w' : World} {N : Nat} (h : Tab w) (hb : Below N w w') (hN : 4 < N) : Tab w' := fun i hi => (hb.cell (p := ⟨4, i, none⟩) hN).trans (h i hi)
theorem Tab.later {w w' : World} (h : Tab w) (hb : Below w.heap.size w w') : Tab w' := h.below hb h.pos

theorem xor3 (a b c : Nat) (ha : a < 4294967296) (hb : b < 4294967296) (hc : c < 4294967296) : bits BinOp.xor IntKind.u32 (bits BinOp.xor IntKind.u32 (a : Int) (b : Int)) (c : Int) = ((a ^^^ b ^^^ c : Nat) : Int) := by
  rw [xor32 a b ha hb, xor32 _ c (Sh.xor_lt ha hb) hc]

theorem ch_steps (e f g : Nat) (he : e < 4294967296) (hf : f < 4294967296) (hg : g < 4294967296) : ∃ ne p q c : Nat,
    bits BinOp.xor IntKind.u32 IntKind.u32.max (e : Int) = (ne : Int) ∧ bits BinOp.and IntKind.u32 (e : Int) (f : Int) = (p : Int) ∧ bits BinOp.and IntKind.u32 (ne : Int) (g : Int) = (q : Int) ∧ bits BinOp.xor IntKind.u32 (p : Int) (q : Int) = (c : Int) ∧ c = Sh.ch e f g :=
  ⟨4294967295 - e, e &&& f, (4294967295 - e) &&& g, Sh.ch e f g, not32 e he, and32 e f he hf, and32 _ g (by omega) hg, xor32 _ _ (Sh.and_lt he) (Sh.and_lt (by omega)), rfl⟩

theorem maj_steps (a b c : Nat) (ha : a < 4294967296) (hb : b < 4294967296) (hc : c < 4294967296) : ∃ p q r m : Nat,
    bits BinOp.and IntKind.u32 (a : Int) (b : Int) = (p : Int) ∧ bits BinOp.and IntKind.u32 (a : Int) (c : Int) = (q : Int) ∧ bits BinOp.and IntKind.u32 (b : Int) (c : Int) = (r : Int) ∧
    bits BinOp.xor IntKind.u32 (bits BinOp.xor IntKind.u32 (p : Int) (q : Int)) (r : Int) = (m : Int) ∧ m = Sh.maj a b c :=
  ⟨a &&& b, a &&& c, b &&& c, Sh.maj a b c, and32 a b ha hb, and32 a c ha hc, and32 b c hb hc, xor3 _ _ _ (Sh.and_lt ha) (Sh.and_lt ha) (Sh.and_lt hb), rfl⟩

theorem bs1_is (e : Nat) (he : e < 4294967296) : bits BinOp.xor IntKind.u32 (bits BinOp.xor IntKind.u32 ((Sh.rr e 6 : Nat) : Int) ((Sh.rr e 11 : Nat) : Int)) ((Sh.rr e 25 : Nat) : Int) = ((Sh.bs1 e : Nat) : Int) :=
  xor3 _ _ _ (Sh.rr_lt he) (Sh.rr_lt he) (Sh.rr_lt he)
theorem bs0_is (e : Nat) (he : e < 4294967296) : bits BinOp.xor IntKind.u32 (bits BinOp.xor IntKind.u32 ((Sh.rr e 2 : Nat) : Int) ((Sh.rr e 13 : Nat) : Int)) ((Sh.rr e 22 : Nat) : Int) = ((Sh.bs0 e : Nat) : Int) :=
  xor3 _ _ _ (Sh.rr_lt he) (Sh.rr_lt he) (Sh.rr_lt he)

theorem start_any (w : World) :
    Calls Tryd.prog 92 #[] w fun e w' => e = .returned (.agg (vals Sh.start)) ∧ Below w.heap.size w w' := by
  go_enter Tryd.func92, Tryd.ntmps92
  go_wp2
  refine bodyPost_ret (v := .agg (vals Sh.start)) (results_cell_row Tryd.results92 _ _ w.heap.size 75 _ (0, 0) _ rfl (heap_alloc_new _ _) Tryd.underlying75 rfl sz24) rfl ⟨rfl, ?_⟩
  exact (Below.refl _ _).alloc (Nat.le_refl _) _

/-- What stands in the memory of 'mixed'. -/
structure MX (v : Sh.V8) (l : List Nat) (w : World) (g : Nat) (wr : World) : Prop where
  a : Blk wr w.heap.size 75 (vals v)
  c : Blk wr (w.heap.size + 1 + 1) 75 (vals Sh.zeroV)
  g : Blk wr g 76 (u32s (Sh.ws l 48))
  tab : Tab wr
  bel : Below w.heap.size w wr

theorem MX.drew {v : Sh.V8} {l : List Nat} {w : World} {g : Nat} {wr : World} (h : MX v l w g wr) : MX v l w g wr.drew := ⟨h.a, h.c, h.g, h.tab, h.bel.drew⟩

theorem MX.first (v : Sh.V8) (l : List Nat) (w w1 : World) (hT : Tab w) (hb : Below (w.heap.size + 3) (((w.alloc (.cells (vals v) 75)).alloc (.cells (u8s l) 90)).alloc (.cells (vals Sh.zeroV) 75)) w1) :
    MX v l w w1.heap.size (w1.alloc (.cells (u32s (Sh.ws l 48)) 76)) := by
  have a0 := (((Blk.new w 75 (vals v)).alloc (.cells (u8s l) 90)).alloc (.cells (vals Sh.zeroV) 75)).below hb (by omega)
  have c0 := Blk.new ((w.alloc (.cells (vals v) 75)).alloc (.cells (u8s l) 90)) 75 (vals Sh.zeroV)
  rw [size_alloc, size_alloc] at c0
  have b0 : Below w.heap.size w (((w.alloc (.cells (vals v) 75)).alloc (.cells (u8s l) 90)).alloc (.cells (vals Sh.zeroV) 75)) := (((Below.refl _ _).alloc (Nat.le_refl _) _).alloc (by simp) _).alloc (by simp; omega) _
  have b1 := b0.trans (hb.mono (by omega))
  have b2 := b1.alloc b1.size (.cells (u32s (Sh.ws l 48)) 76)
  exact ⟨a0.alloc _, (c0.below hb (by omega)).alloc _, Blk.new _ _ _, hT.later b2, b2⟩
end Go.Proofs.YtkijglkjpgjdaaaDoor.Ha
