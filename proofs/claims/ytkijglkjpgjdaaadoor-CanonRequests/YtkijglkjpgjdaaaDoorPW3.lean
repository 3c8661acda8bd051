/-
  The bytes of a number, as the program makes them and as the document's own function makes them.
-/
import Derived.Test.YtkijglkjpgjdaaaDoorPW2
import Derived.Laws.BytesArg
namespace Go.Proofs.YtkijglkjpgjdaaaDoor.Pa
open Go.RowKit

theorem Tryd.info5 : (Tryd.prog.info? 5).map (fun i => (i.zero, i.size, i.bytes)) = some (some (.int .u8 0), 1, 1) := by kernel_rfl

theorem wraps_i64 (n : Int) (h₀ : 0 ≤ n) (h₁ : n < 2 ^ 63) : IntKind.i64.wrap n = n := by
  rw [IntKind.wrap_i64]
  omega

theorem and127 (m : Nat) (h : m ≤ 4611686018427387904) : bits BinOp.and IntKind.i64 (m : Int) 127 = ((m % 128 : Nat) : Int) := by
  have e := bits_mask .i64 63 (by decide) wraps_i64 7 (by decide) (m : Int) (by omega) (by omega)
  simpa using e

theorem or128 (m : Nat) (h : m < 128) : bits BinOp.or IntKind.i64 (m : Int) 128 = ((m + 128 : Nat) : Int) := by
  have e := (bits_nat .i64 63 (by decide) wraps_i64 m 128 (by omega) (by omega)).2
  rw [show ((128 : Nat) : Int) = 128 from rfl] at e
  rw [e, Nat.or_comm, nat_join 7 128 m (by decide) (by omega), Nat.add_comm]

theorem byte_low (m : Nat) (h : m ≤ 4611686018427387904) : bits BinOp.and IntKind.i64 (m : Int) 127 % 256 = ((UInt8.ofNat (m % 128)).toNat : Int) := by
  rw [and127 m h, UInt8.toNat_ofNat', Nat.mod_eq_of_lt (a := m % 128) (b := 2 ^ 8) (by omega)]
  omega

theorem byte_high (m : Nat) (h : m ≤ 4611686018427387904) : bits BinOp.or IntKind.i64 (bits BinOp.and IntKind.i64 (m : Int) 127) 128 % 256 = ((UInt8.ofNat (m % 128 + 128)).toNat : Int) := by
  rw [and127 m h, or128 _ (by omega), UInt8.toNat_ofNat', Nat.mod_eq_of_lt (a := m % 128 + 128) (b := 2 ^ 8) (by omega)]
  omega

theorem cellsB_snoc (l : List UInt8) (u : UInt8) : cellsB l ++ [.int .u8 (u.toNat : Int)] = cellsB (l ++ [u]) := by
  simp [cellsB]

theorem strOf_bytes (l : List UInt8) : strOfNums (l.map fun u => (u.toNat : Int)) = ⟨l.toArray⟩ := by
  unfold strOfNums
  congr 2
  rw [List.map_map]
  conv => rhs; rw [← List.map_id l]
  apply List.map_congr_left
  intro u _
  simp

theorem conv_own (base g cap : Nat) (l : List UInt8) (n : Nat) (w : World) (hl : l.length = n) (hown : w.ownsRow base 5 1 (.slice (some ⟨g, 0, none⟩) n cap) n (cellsB l)) :
    (convert 41 9 (.slice (some ⟨g, 0, none⟩) n cap)).run Tryd.prog w = .ok (.string ⟨l.toArray⟩) w := by
  rw [← strOf_bytes]
  refine run_convert_bytes_arg w 41 5 Tryd.underlying41 Tryd.underlying5 g 0 n cap _ (by simpa using hl) (fun i hi => ?_) 9 Tryd.underlying9
  rw [Nat.zero_add, hown.cellAt i (by omega)]
  have hi' : i < l.length := by omega
  simp [cellsB, List.getElem?_eq_getElem hi']

/-- What holds at each round's head of the loop. -/
def NumRel (n : Nat) (w : World) (s0 v : Value) (wr : World) (k : Nat) : Prop :=
  ∃ (m : Nat) (l : List UInt8), s0 = .int .i64 (m : Int) ∧ m ≤ 4611686018427387904 ∧ m < 128 ^ k ∧ k + l.length = 10 ∧ 1 ≤ l.length ∧ Pk.hi k m ++ l.reverse = Pk.numB n ∧
    wr.ownsRow w.heap.size 5 1 v l.length (cellsB l) ∧ Below w.heap.size w wr

set_option maxHeartbeats 1600000 in
set_option maxRecDepth 1000000 in
theorem numBytes_any (n : Nat) (w : World) (hn : n ≤ 4611686018427387904) :
    Calls Tryd.prog 54 #[.int .i64 (n : Int)] w fun e w' => e = .returned (.string ⟨(Pk.numB n).toArray⟩) ∧ Below w.heap.size w w' := by
  obtain ⟨i0, hi, hz0, hz1, hz2⟩ := info_parts Tryd.info5
  have hb := byte_low n hn
  go_enter Tryd.func54, Tryd.ntmps54
  go_wp2_with fail
  clear hb
  go_loopg [0, 3] 9 (fun gh s0 v wr => ∃ k, k ≤ gh ∧ NumRel n w s0 v wr k)
  case atStart =>
    refine ⟨9, Nat.le_refl _, n / 128, [UInt8.ofNat (n % 128)], by simp, by omega, by rw [Pk.pow9]; omega, rfl, by simp, by simp [Pk.numB], ?_, (Below.refl _ _).alloc (Nat.le_refl _) _⟩
    exact World.ownsRow_lit w _ 1 (Nat.le_refl _) (by decide) rfl
  case round =>
    obtain ⟨k, hgh, m, l, rfl, hm, hmk, hkl, hl1, hcat, hown, hbel⟩ := hrel
    by_cases hlt : 0 < m
    · obtain ⟨k', rfl⟩ : ∃ k', k = k' + 1 := by
        cases k with
        | zero => simp at hmk; omega
        | succ k' => exact ⟨k', rfl⟩
      have hA : Aside (m ≤ 4611686018427387904 ∧ m < 128 ^ (k' + 1) ∧ k' + 1 + l.length = 10 ∧ Pk.hi (k' + 1) m ++ l.reverse = Pk.numB n ∧ Below w.heap.size w wr) := ⟨hm, hmk, hkl, hcat, hbel⟩
      clear hmk hcat
      go_wp2_with (first
        | (at_builtin; refine wpList_append_own _ rfl (.tmp 14) (.tmp 19) 41 rfl w.heap.size 5 i0 (.int .u8 0) 1 1 Tryd.underlying41 hi hz0 hz1 hz2 rfl (by decide) _ _ _ rfl (hown.alloc _) ⟨wr.heap.size, 0, none⟩ 1 1 [.int .u8 (bits BinOp.or IntKind.i64 (bits BinOp.and IntKind.i64 (m : Int) 127) 128 % 256)] rfl rfl ?c1 ?c2 ?c3 ?c4 ?c5 ?_))
      case c1 => exact (cell_one_new _ _ _)
      case c2 => intro u hu; simp at hu; subst hu; rfl
      case c3 => unfold maxLen; omega
      case c4 => omega
      case c5 => have := hbel.size; simp; omega
      intro v' w1 hown' hgrow _
      obtain ⟨a1, a2, a3, a4, a5⟩ := hA.out
      have hown2 : w1.ownsRow w.heap.size 5 1 v' (l.length + 1) (cellsB (l ++ [UInt8.ofNat (m % 128 + 128)])) := by
        rw [← cellsB_snoc, ← byte_high m a1]
        exact hown'
      have hbel2 : Below w.heap.size w w1 := (a5.alloc a5.size _).grown hgrow (by have := a5.size; simp; omega) (fun g hg => (hown.lt g hg).1)
      have R : Aside (NumRel n w (.int .i64 ((m / 128 : Nat) : Int)) v' w1 k') := by
        refine ⟨m / 128, l ++ [UInt8.ofNat (m % 128 + 128)], rfl, by omega, Pk.div_lt_pow a2, by simp; omega, by simp, ?_, by simpa using hown2, hbel2⟩
        rw [← a4, Pk.hi_step _ _ (by omega)]
        simp
      clear hown' hgrow hown hA hown2 hbel2 a1 a2 a3 a4 a5 hbel
      go_wp2
      go_roundg k'
      case measure => omega
      case rel => exact ⟨k', Nat.le_refl _, R.out⟩
    · obtain rfl : m = 0 := by omega
      rw [Pk.hi_zero, List.nil_append] at hcat
      rcases hown.2 with ⟨_, h0⟩ | ⟨g, cap, cur, rfl, hbg, _⟩
      · omega
      · have hrev := rev_any w.heap.size g cap l wr hown (by omega) hbg
        have A : Aside (l.reverse = Pk.numB n ∧ Below w.heap.size w wr) := ⟨hcat, hbel⟩
        clear hcat hbel hown hmk
        go_wp2_with (go_at_call 80; refine hrev.mono ?_; rintro e w1 ⟨rfl, hown1, hbel1⟩; have hconv := conv_own w.heap.size g cap l.reverse l.length w1 (by simp) hown1)
        go_ret
        exact ⟨by rw [A.out.1]; rfl, A.out.2.trans hbel1⟩
end Go.Proofs.YtkijglkjpgjdaaaDoor.Pa
