/-
  FrameLong's walk: so many bytes, framed and read again.
-/
import Derived.Test.YtknobijonpdbbaaF7
import Derived.Laws.IdiomStrings
import Derived.WideShapes
namespace Go.Proofs.Ytknobijonpdbbaa
open Go.RowKit
def vb (b : UInt8) : Value := .int .u8 (b.toNat : Int)
/-- Bytes of the call's own in block g. -/
def RowB (w : World) (g : Nat) (l : List UInt8) : Prop := w.heap[g]? = some (.cells (l.map vb).toArray 5 (0, 0))
theorem cell_of_row (w : World) (b j : Nat) (cs : Array Value) (t : TypeId) (m : Nat × Nat) (h : w.heap[b]? = some (.cells cs t m)) : w.cell? ⟨b, j, none⟩ = cs[j]? := by simp [World.cell?, h]
theorem RowB.fz {w : World} {g : Nat} {l : List UInt8} (h : RowB w g l) (j : Nat) : w.frozen? ⟨g, j, none⟩ = false := by
  unfold RowB at h
  simp [World.frozen?, h]
theorem RowB.at {w : World} {g : Nat} {l : List UInt8} (h : RowB w g l) (j : Nat) (hj : j < l.length) : w.cell? ⟨g, j, none⟩ = some (vb l[j]) := by
  rw [cell_of_row w g j _ _ _ h]
  simp [hj]
theorem set_same {w : World} {b k : Nat} {cs : Array Value} {t : TypeId} {m : Nat × Nat} {v : Value} (h : w.heap[b]? = some (.cells cs t m)) : (w.setCell ⟨b, k, none⟩ v).heap[b]? = some (.cells (cs.setIfInBounds k v) t m) := by
  have hlt : b < w.heap.size := (Array.getElem?_eq_some_iff.1 h).1
  have hv : w.heap[b]'hlt = .cells cs t m := (Array.getElem?_eq_some_iff.1 h).2
  simp [World.setCell, Array.getElem?_modify, h]
theorem RowB.set {w : World} {g : Nat} {l : List UInt8} (h : RowB w g l) (j : Nat) (b : UInt8) : RowB (w.setCell ⟨g, j, none⟩ (vb b)) g (l.set j b) := by
  unfold RowB
  rw [set_same h]
  congr 2
  apply Array.ext'
  simp [List.map_set]
theorem RowB.back {w : World} {g : Nat} {l : List UInt8} (h : RowB w g l) (cap : Nat) : (convert 35 9 (.slice (some ⟨g, 0, none⟩) l.length cap)).run Try.prog w = .ok (.string (bs l)) w := by
  refine run_convert_bytes_back w 35 9 5 ⟨g, 0, none⟩ cap l Try.underlying35 Try.underlying5 Try.underlying9 fun j hj => ?_
  rw [Go.WideShapes.add_plain, Nat.zero_add]
  exact h.at j hj
theorem info5 : (Try.prog.info? 5).map (fun i => (i.zero, i.size, i.bytes)) = some (some (.int .u8 0), 1, 1) := by kernel_rfl
theorem mk_bytes (n : Nat) (hn : n ≤ 10000000) (u : World) : (Instr.makeSlice 35 (.int .i64 (n : Int)) (.int .i64 (n : Int))).run Try.prog u = .ok (.slice (some ⟨u.heap.size, 0, none⟩) n n) (u.alloc (.cells (Array.replicate n (vb 0)) 5)) := by
  obtain ⟨i0, hi0, hz0, hzs, hzb⟩ := info_parts info5
  have := run_make (P := Try.prog) u 35 5 i0 (.int .u8 0) Try.underlying35 hi0 hz0 .i64 .i64 n n (by omega) (Int.le_refl _) (by rw [hzb]; omega) (by omega)
  rw [this]
  simp only [Int.toNat_natCast, hzs, Nat.mul_one]
  have e : madeCells (Value.int IntKind.u8 0).cells n = Array.replicate n (vb 0) := by
    apply Array.ext'
    apply List.ext_getElem?
    intro j
    have hz1 : (Value.int IntKind.u8 0).cells = #[Value.int IntKind.u8 0] := rfl
    by_cases hj : j < n
    · simp [madeCells, vb, hz1, hj, Nat.mod_one]
    · simp [madeCells, vb, hz1, hj]
  rw [e]
theorem row_new (u : World) (l : List UInt8) : RowB (u.alloc (.cells (l.map vb).toArray 5)) u.heap.size l := by
  unfold RowB
  exact heap_alloc_new u _
theorem set_next (n k : Nat) (b : UInt8) (h : k < n) : (List.replicate k b ++ List.replicate (n - k) (0 : UInt8)).set k b = List.replicate (k + 1) b ++ List.replicate (n - (k + 1)) 0 := by
  rw [List.set_append_right _ _ (by simp)]
  obtain ⟨m, hm⟩ : ∃ m, n - k = m + 1 := ⟨n - k - 1, by omega⟩
  rw [hm, show n - (k + 1) = m by omega, List.replicate_succ, List.length_replicate, Nat.sub_self, List.set_cons_zero, List.replicate_succ']
  simp

theorem long_out (n : Int) (b : Nat) (w : World) (h : n < 0 ∨ 3000 < n) :
    Calls Try.prog 4 #[.int .i64 n, .int .u8 (b : Int)] w fun e w' => e = .returned (.bool true) ∧ Below w.heap.size w w' := by
  have k0 := awake_any w
  have k1 : Aside (∀ u : World, Calls Try.prog 11 #[.int .i64 n] u fun e w' => e = .returned (.int .i64 0) ∧ w' = u) := fun u => by
    have := size_any n u
    rw [if_pos (by omega)] at this
    exact this
  by_cases h0 : n < 0
  · have d0 : decide (n < 0) = true := by simpa using h0
    go_enter Try.func4, Try.ntmps4
    go_wp2_with (first
      | (go_at_call 8; refine k0.mono ?_; rintro e w1 ⟨rfl, hb1⟩)
      | (go_at_call 11; refine (k1.out _).mono ?_; rintro e w2 ⟨rfl, rfl⟩))
    go_ret
    exact ⟨rfl, hb1⟩
  · have d0 : decide (n < 0) = false := by simpa using h0
    have d1 : decide (3000 < n) = true := by simp; omega
    go_enter Try.func4, Try.ntmps4
    go_wp2_with (first
      | (go_at_call 8; refine k0.mono ?_; rintro e w1 ⟨rfl, hb1⟩)
      | (go_at_call 11; refine (k1.out _).mono ?_; rintro e w2 ⟨rfl, rfl⟩))
    go_ret
    exact ⟨rfl, hb1⟩

/-- What is made of so many bytes: the frame, and what is read of it. -/
def Fill (w : World) (g n k : Nat) (b : UInt8) (wr : World) : Prop := RowB wr g (List.replicate k b ++ List.replicate (n - k) 0) ∧ Below g w wr

set_option maxHeartbeats 1600000 in
set_option maxRecDepth 100000 in
theorem long_in (n : Nat) (b : UInt8) (w : World) (h : n ≤ 3000) :
    Calls Try.prog 4 #[.int .i64 (n : Int), .int .u8 (b.toNat : Int)] w fun e w' => e = .returned (.bool true) ∧ Below w.heap.size w w' := by
  have k0 := awake_any w
  have hmk := mk_bytes n (by omega)
  have d0 : decide ((n : Int) < 0) = false := by simp
  have d1 : decide (3000 < (n : Int)) = false := by simp; omega
  go_enter Try.func4, Try.ntmps4
  go_wp2_with (first
    | (go_at_call 8; refine k0.mono ?_; rintro e w1 ⟨rfl, hb1⟩; clear k0))
  clear hmk
  have R0 : Aside (Fill w1 w1.heap.size n 0 b (w1.alloc (.cells (Array.replicate n (vb 0)) 5))) := ⟨by simpa using row_new w1 (List.replicate n 0), (Below.refl _ _).alloc (Nat.le_refl _) _⟩
  generalize w1.alloc (.cells (Array.replicate n (vb 0)) 5) = w2 at *
  go_loopg [28] n (fun gh s28 wr => ∃ k : Nat, n - k ≤ gh ∧ k ≤ n ∧ s28 = .int .i64 (k : Int) ∧ Aside (Fill w1 w1.heap.size n k b wr))
  case atStart => exact ⟨0, by omega, by omega, rfl, R0⟩
  case round =>
    obtain ⟨k, hgh, hk, rfl, F⟩ := hrel
    by_cases hp : k < n
    · have dk : decide (k < n) = true := by simpa using hp
      have cc := F.out.1.at k (by simp; omega)
      have fz := F.out.1.fz k
      have F2 : Aside (Fill w1 w1.heap.size n (k + 1) b (wr.setCell ⟨w1.heap.size, k, none⟩ (vb b))) := by
        refine ⟨?_, F.out.2.setCell (p := ⟨w1.heap.size, k, none⟩) (Nat.le_refl _) (vb b)⟩
        have := F.out.1.set k b
        rw [set_next n k b hp] at this
        exact this
      clear F
      go_wp2
      go_roundg (n - (k + 1))
      case measure => omega
      case rel => exact ⟨k + 1, Nat.le_refl _, by omega, by go_num, F2⟩
    · obtain rfl : k = n := by omega
      have dk : decide (k < k) = false := by simp
      have hbk := (show RowB wr w1.heap.size (List.replicate k b) by simpa using F.out.1).back k
      rw [List.length_replicate] at hbk
      have hB := F.out.2
      have B0 : Below w.heap.size w wr := hb1.trans (hB.mono hb1.size)
      have zs : (bs (List.replicate k b)).size = k := by rw [bs_size, List.length_replicate]
      have k1 : ∀ u : World, _ := fun u : World => make_any (bs (List.replicate k b)) u (by omega)
      unfold mkS mkE at k1
      rw [zs, bs_list] at k1
      have k5 : ∀ u : World, _ := fun u : World => size_any (k : Int) u
      have hl : (List.replicate k b).length = k := List.length_replicate
      by_cases hc : 2000 < k
      · have d2 : decide (2000 < (k : Int)) = true := by simp; omega
        simp only [if_pos hc] at k1
        rw [if_pos (by omega)] at k5
        have K1 := asd k1
        have K5 := asd k5
        clear k1 k5 F
        generalize bs (List.replicate k b) = S at *
        go_wp2_with (first
          | (go_at_call 10; refine (K1.out _).mono ?_; rintro e w3 ⟨rfl, hb3⟩)
          | (go_at_call 11; refine (K5.out _).mono ?_; rintro e w4 ⟨rfl, rfl⟩))
        go_ret
        exact ⟨rfl, B0.trans (hb3.mono B0.size)⟩
      · have d2 : decide (2000 < (k : Int)) = false := by simp; omega
        simp only [if_neg hc] at k1
        rw [if_neg (by omega)] at k5
        have zm : (bs (Fr.mk (List.replicate k b))).size = k + 10 := by rw [bs_size, Fr.mk_len, hl]
        have k2 : ∀ u : World, _ := fun u : World => first_any (bs (Fr.mk (List.replicate k b))) u (by omega)
        have ef := Fr.first_mk (List.replicate k b) [] (by omega)
        rw [List.append_nil, hl] at ef
        unfold fst3 at k2
        rw [bs_list, ef] at k2
        have k3 : ∀ u : World, _ := fun u : World => refMake_any (bs (List.replicate k b)) u (by omega)
        rw [bs_list] at k3
        have K1 := asd k1
        have K2 := asd k2
        have K3 := asd k3
        have K5 := asd k5
        clear k1 k2 k3 k5 F ef
        have e1 := beq_strs' (rfl : bs (List.replicate k b) = bs (List.replicate k b))
        have e2 := beq_strs' (rfl : bs (Fr.mk (List.replicate k b)) = bs (Fr.mk (List.replicate k b)))
        generalize bs (Fr.mk (List.replicate k b)) = M at *
        generalize bs (List.replicate k b) = S at *
        go_wp2_with (first
          | (go_at_call 10; refine (K1.out _).mono ?_; rintro e w3 ⟨rfl, hb3⟩; clear K1)
          | (go_at_call 14; refine (K2.out _).mono ?_; rintro e w5 ⟨rfl, hb5⟩; clear K2)
          | (go_at_call 15; refine (K3.out _).mono ?_; rintro e w6 ⟨rfl, hb6⟩; clear K3)
          | (go_at_call 11; refine (K5.out _).mono ?_; rintro e w4 ⟨rfl, rfl⟩))
        go_ret
        have b3 := B0.trans (hb3.mono B0.size)
        have b5 := b3.trans (hb5.mono b3.size)
        exact ⟨rfl, b5.trans (hb6.mono b5.size)⟩
end Go.Proofs.Ytknobijonpdbbaa
