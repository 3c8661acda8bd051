/-
  Numbers of parts of 2^16: their parts, their product, which is greater, as the document has it.
-/
import Derived.Test.YtkkacngildnlkaaDoorW2
import Derived.Test.YtkkacngildnlkaaDoorMath2
import Derived.OwnWalk
namespace Go.Proofs.YtkkacngildnlkaaDoor
open Go.RowKit

def u64s (l : List Nat) : Array Value := (l.map fun x : Nat => Value.int .u64 (x : Int)).toArray
theorem u64s_size (l : List Nat) : (u64s l).size = l.length := by simp [u64s]
theorem u64s_at (l : List Nat) (i : Nat) (h : i < l.length) : (u64s l)[i]? = some (.int .u64 ((l.getD i 0 : Nat) : Int)) := by simp [u64s, h]
theorem u64s_set (l : List Nat) (i x : Nat) : (u64s l).setIfInBounds i (.int .u64 (x : Int)) = u64s (l.set i x) := by simp [u64s, List.map_set]
theorem info50 : (Tryd.prog.info? 50).map (fun i => (i.zero, i.size, i.bytes)) = some (some (.int .u64 0), 1, 8) := by kernel_rfl

/-- A slice's numbers lie in block g. -/
def Nums (w : World) (g : Nat) (l : List Nat) : Prop := g < w.heap.size ∧ ∀ i, i < l.length → w.cell? ⟨g, i, none⟩ = some (.int .u64 ((l.getD i 0 : Nat) : Int))

theorem Nums.below {w w' : World} {g N : Nat} {l : List Nat} (h : Nums w g l) (hb : Below N w w') (hN : g < N) : Nums w' g l :=
  ⟨Nat.lt_of_lt_of_le h.1 hb.size, fun i hi => (hb.cell (p := ⟨g, i, none⟩) hN).trans (h.2 i hi)⟩
theorem Nums.of {w : World} {g : Nat} {l : List Nat} (h : Blk w g 50 (u64s l)) : Nums w g l := ⟨h.lt, fun i hi => h.cell (u64s_at l i hi)⟩

theorem parts_of (x : Nat) (w : World) (hx : x < 18446744073709551616) :
    Calls Tryd.prog 26 #[.int .u64 (x : Int)] w fun e w' => e = .returned (.slice (some ⟨w.heap.size, 0, none⟩) 4 4) ∧ Nums w' w.heap.size (Sh.partsL x) ∧ Below w.heap.size w w' := by
  go_enter Tryd.func26, Tryd.ntmps26
  go_wp2
  go_ret
  refine ⟨rfl, Nums.of ?_, (Below.refl _ _).alloc (Nat.le_refl _) _⟩
  have e : #[Value.int .u64 ((x : Int) % 65536), Value.int .u64 ((x : Int) / 65536 % 65536), Value.int .u64 ((x : Int) / 4294967296 % 65536), Value.int .u64 ((x : Int) / 281474976710656)] = u64s (Sh.partsL x) := by simp [u64s, Sh.partsL]
  rw [e]
  exact Blk.new _ _ _

set_option maxHeartbeats 1600000 in
set_option maxRecDepth 100000 in
theorem above_any (l : List Nat) (n sft g len cap : Nat) (w : World) (hl : l.length = len) (hN : Nums w g l) (hn : n < 65536) (hlen : len ≤ 100) :
    Calls Tryd.prog 27 #[.slice (some ⟨g, 0, none⟩) len cap, .int .i64 (n : Int), .int .i64 (sft : Int)] w fun e w' => e = .returned (.bool (Sh.ab l n sft l.length)) ∧ w' = w := by
  have HL : Aside (l.length = len ∧ Nums w g l) := ⟨hl, hN⟩
  rw [hl]
  clear hl hN
  go_enter Tryd.func27, Tryd.ntmps27
  go_wp2
  go_loopg [7] len (fun gh s7 wr => ∃ k : Nat, k ≤ gh ∧ k ≤ len ∧ s7 = .int .i64 ((k : Int) - 1) ∧ Sh.ab l n sft k = Sh.ab l n sft len ∧ wr = w)
  case atStart => exact ⟨len, Nat.le_refl _, Nat.le_refl _, rfl, rfl, rfl⟩
  case round =>
    obtain ⟨k, hgh, hk, rfl, hr, rfl⟩ := hrel
    have HR : Aside (Sh.ab l n sft k = Sh.ab l n sft len) := hr
    clear hr
    cases k with
    | zero =>
      have HR2 : Aside (Sh.ab l n sft len = false) := HR.out.symm
      clear HR
      go_wp2
      go_ret
      exact ⟨by rw [HR2.out]; rfl, rfl⟩
    | succ i =>
      have e1 : ((i + 1 : Nat) : Int) - 1 = (i : Int) := by omega
      rw [e1]
      obtain ⟨x, hx⟩ : ∃ x, x = l.getD i 0 := ⟨_, rfl⟩
      have cx := HL.out.2.2 i (by rw [HL.out.1]; omega)
      rw [← hx] at cx
      have d0 : decide ((0 : Int) ≤ (i : Int)) = true := by simp
      by_cases hs : i = sft
      · subst hs
        have d1 : ((i : Int) == (i : Int)) = true := by simp
        by_cases he : x = n
        · have d2 : ((x : Int) != (n : Int)) = false := by rw [he]; simp
          have HX : Aside (Sh.ab l n i i = Sh.ab l n i len) := by
            have := HR.out
            simp only [Sh.ab, if_pos, ← hx] at this
            rw [if_pos he] at this
            exact this
          clear HR hx he e1
          go_wp2
          go_roundg i
          case measure => omega
          case rel => exact ⟨i, Nat.le_refl _, by omega, rfl, HX.out, rfl⟩
        · have d2 : ((x : Int) != (n : Int)) = true := by rw [bne_iff_ne]; omega
          have HX : Aside (decide (n < x) = Sh.ab l n i len) := by
            have := HR.out
            simp only [Sh.ab, if_pos, ← hx] at this
            rw [if_neg he] at this
            exact this
          clear HR hx he e1
          go_wp2
          go_ret
          exact ⟨by rw [← HX.out]; rfl, rfl⟩
      · have d1 : ((i : Int) == (sft : Int)) = false := by rw [beq_eq_false_iff_ne]; omega
        by_cases he : x = 0
        · have d2 : ((x : Int) != 0) = false := by rw [he]; rfl
          have HX : Aside (Sh.ab l n sft i = Sh.ab l n sft len) := by
            have := HR.out
            simp only [Sh.ab, if_neg hs, ← hx] at this
            rw [if_pos he] at this
            exact this
          clear HR hx he e1 hs
          go_wp2
          go_roundg i
          case measure => omega
          case rel => exact ⟨i, Nat.le_refl _, by omega, rfl, HX.out, rfl⟩
        · have d2 : ((x : Int) != 0) = true := by rw [bne_iff_ne]; omega
          have d3 : decide (0 < x) = true := by simp; omega
          have d4 : decide (0 < (x : Int)) = true := by simp; omega
          have HX : Aside (true = Sh.ab l n sft len) := by
            have := HR.out
            simp only [Sh.ab, if_neg hs, ← hx] at this
            rw [if_neg he, d3] at this
            exact this
          clear HR hx he e1 hs
          go_wp2
          go_ret
          exact ⟨by rw [← HX.out]; rfl, rfl⟩

theorem tin_len (a b o : List Nat) (i : Nat) : ∀ k, (Sh.tin a b o i k).length = o.length
  | 0 => rfl
  | k + 1 => by simp [Sh.tin, tin_len a b o i k]
theorem tout_len (a b : List Nat) : ∀ i, (Sh.tout a b i).length = a.length + b.length + 1
  | 0 => by simp [Sh.tout]
  | i + 1 => by rw [Sh.tout, tin_len, tout_len a b i]
theorem tcar_len (o : List Nat) : ∀ i, (Sh.tcar o i).length = o.length
  | 0 => rfl
  | i + 1 => by simp [Sh.tcar, tcar_len o i]

theorem made_zeros (n : Nat) : madeCells #[Value.int .u64 0] n = u64s (List.replicate n 0) := by
  apply Array.ext_getElem?
  intro i
  by_cases h : i < n
  · rw [u64s_at _ _ (by simpa using h)]
    simp [madeCells, h, List.getD, Nat.mod_one]
  · rw [Array.getElem?_eq_none (by rw [size_madeCells]; omega), Array.getElem?_eq_none (by rw [u64s_size]; simp; omega)]

/-- What stands in the memory of 'times'. -/
structure TM (a b : List Nat) (w : World) (ga gb : Nat) (o : List Nat) (wr : World) : Prop where
  a : Nums wr ga a
  b : Nums wr gb b
  ha : ga < w.heap.size
  hb : gb < w.heap.size
  o : Blk wr w.heap.size 50 (u64s o)
  bel : Below w.heap.size w wr

theorem TM.drew {a b : List Nat} {w : World} {ga gb : Nat} {o : List Nat} {wr : World} (h : TM a b w ga gb o wr) : TM a b w ga gb o wr.drew := ⟨h.a, h.b, h.ha, h.hb, h.o, h.bel.drew⟩
theorem TM.put {a b : List Nat} {w : World} {ga gb : Nat} {o : List Nat} {wr : World} (h : TM a b w ga gb o wr) (i x : Nat) : TM a b w ga gb (o.set i x) (wr.setCell ⟨w.heap.size, i, none⟩ (.int .u64 (x : Int))) := by
  have ha := h.ha
  have hb := h.hb
  have bl : Below w.heap.size wr (wr.setCell ⟨w.heap.size, i, none⟩ (.int .u64 (x : Int))) := (Below.refl w.heap.size wr).setCell (by exact Nat.le_refl _) _
  refine ⟨h.a.below bl ha, h.b.below bl hb, ha, hb, ?_, h.bel.trans bl⟩
  have := h.o.set i (.int .u64 (x : Int))
  rw [u64s_set] at this
  exact this

set_option maxHeartbeats 1600000 in
set_option maxRecDepth 100000 in
theorem times_any (a b : List Nat) (n m ga gb ca cb : Nat) (w : World) (hna : a.length = n) (hnb : b.length = m) (hn : n ≤ 20) (hm : m ≤ 20) (hA : Nums w ga a) (hB : Nums w gb b) :
    Calls Tryd.prog 25 #[.slice (some ⟨ga, 0, none⟩) n ca, .slice (some ⟨gb, 0, none⟩) m cb] w fun e w' => e = .returned (.slice (some ⟨w.heap.size, 0, none⟩) (n + m + 1) (n + m + 1)) ∧ Nums w' w.heap.size (Sh.timesL a b) ∧ Below w.heap.size w w' := by
  have hmk : ∀ u : World, (Instr.makeSlice 51 (.int .i64 ((n : Int) + (m : Int) + 1)) (.int .i64 ((n : Int) + (m : Int) + 1))).run Tryd.prog u = .ok (.slice (some ⟨u.heap.size, 0, none⟩) (n + m + 1) (n + m + 1)) (u.alloc (.cells (u64s (List.replicate (n + m + 1) 0)) 50)) := by
    intro u
    have := run_make_row' (P := Tryd.prog) 51 50 (.int .u64 0) 8 Tryd.underlying51 info50 rfl .i64 .i64 (n + m + 1) (by omega) (by omega) u
    rw [made_zeros] at this
    simpa using this
  have H0 : Aside (TM a b w ga gb (Sh.tout a b 0) (w.alloc (.cells (u64s (List.replicate (n + m + 1) 0)) 50)) ∧ a.length = n ∧ b.length = m) := by
    have bl : Below w.heap.size w (w.alloc (.cells (u64s (List.replicate (n + m + 1) 0)) 50)) := (Below.refl _ _).alloc (Nat.le_refl _) _
    refine ⟨⟨hA.below bl hA.1, hB.below bl hB.1, hA.1, hB.1, ?_, bl⟩, hna, hnb⟩
    show Blk _ _ 50 (u64s (List.replicate (a.length + b.length + 1) 0))
    rw [hna, hnb]
    exact Blk.new _ _ _
  clear hA hB hna hnb
  go_enter Tryd.func25, Tryd.ntmps25
  go_wp2
  clear hmk
  generalize w.alloc (.cells (u64s (List.replicate (n + m + 1) 0)) 50) = w0 at H0 ⊢
  have HLn : Aside (a.length = n ∧ b.length = m) := H0.out.2
  go_loopg [6] n (fun gh s6 wr => ∃ i : Nat, n - i ≤ gh ∧ i ≤ n ∧ s6 = .int .i64 (i : Int) ∧ TM a b w ga gb (Sh.tout a b i) wr)
  case atStart => exact ⟨0, by omega, by omega, rfl, H0.out.1⟩
  case round =>
    clear H0
    obtain ⟨i, hgh, hi, rfl, hT⟩ := hrel
    by_cases hlt : i < n
    · have d1 : decide ((i : Int) < (n : Int)) = true := by simp; omega
      have d1' : decide (i < n) = true := by simp; omega
      have H1 : Aside (TM a b w ga gb (Sh.tin a b (Sh.tout a b i) i 0) wr) := hT
      clear hT
      go_wp2
      go_loopg [7] m (fun gh s7 wr => ∃ k : Nat, m - k ≤ gh ∧ k ≤ m ∧ s7 = .int .i64 (k : Int) ∧ TM a b w ga gb (Sh.tin a b (Sh.tout a b i) i k) wr)
      case atStart => exact ⟨0, by omega, by omega, rfl, H1.out⟩
      case round =>
        clear H1
        obtain ⟨k, hgh2, hk, rfl, hT⟩ := hrel
        by_cases hkm : k < m
        · have d2 : decide (k < m) = true := by simp; omega
          obtain ⟨O, hO⟩ : ∃ O, O = Sh.tin a b (Sh.tout a b i) i k := ⟨_, rfl⟩
          rw [← hO] at hT
          have hOl : O.length = n + m + 1 := by rw [hO, tin_len, tout_len, HLn.out.1, HLn.out.2]
          obtain ⟨x, hx⟩ : ∃ x, x = O.getD (i + k) 0 := ⟨_, rfl⟩
          obtain ⟨y, hy⟩ : ∃ y, y = a.getD i 0 := ⟨_, rfl⟩
          obtain ⟨z, hz⟩ : ∃ z, z = b.getD k 0 := ⟨_, rfl⟩
          have c1 := hT.o.cell (u64s_at O (i + k) (by omega))
          have c2 := hT.a.2 i (by rw [HLn.out.1]; exact hlt)
          have c3 := hT.b.2 k (by rw [HLn.out.2]; exact hkm)
          have f1 := hT.o.frozen (i + k)
          rw [← hx] at c1
          rw [← hy] at c2
          rw [← hz] at c3
          obtain ⟨v, hv⟩ : ∃ v, v = (x + y * z) % 18446744073709551616 := ⟨_, rfl⟩
          have hwr : IntKind.u64.wrap ((x : Int) + IntKind.u64.wrap ((y : Int) * (z : Int))) = (v : Int) := by
            rw [hv, IntKind.wrap_u64, IntKind.wrap_u64]
            simp
          have N : Aside (TM a b w ga gb (Sh.tin a b (Sh.tout a b i) i (k + 1)) (wr.setCell ⟨w.heap.size, i + k, none⟩ (.int .u64 (v : Int)))) := by
            have h1 := hT.put (i + k) v
            show TM a b w ga gb ((Sh.tin a b (Sh.tout a b i) i k).set (i + k) (((Sh.tin a b (Sh.tout a b i) i k).getD (i + k) 0 + a.getD i 0 * b.getD k 0) % 18446744073709551616)) _
            rw [← hO, ← hx, ← hy, ← hz, ← hv]
            exact h1
          clear hT hO hx hy hz hOl hv
          go_wp2_with fail
          go_region
          go_wp2
          go_roundg (m - (k + 1))
          case measure => omega
          case rel => exact ⟨k + 1, Nat.le_refl _, by omega, by go_num, N.out.drew⟩
        · have d2 : decide (k < m) = false := by simp; omega
          have H2 : Aside (TM a b w ga gb (Sh.tout a b (i + 1)) wr) := by
            obtain rfl : k = b.length := by rw [HLn.out.2]; omega
            exact hT
          clear hT
          go_wp2
          go_roundg (n - (i + 1))
          case measure => omega
          case rel => exact ⟨i + 1, Nat.le_refl _, by omega, by go_num, H2.out⟩
    · have d1 : decide (i < n) = false := by simp; omega
      have H1 : Aside (TM a b w ga gb (Sh.tcar (Sh.tout a b a.length) 0) wr) := by
        obtain rfl : i = a.length := by rw [HLn.out.1]; omega
        exact hT
      clear hT
      go_wp2
      go_loopg [8] (n + m) (fun gh s8 wr => ∃ i : Nat, n + m - i ≤ gh ∧ i ≤ n + m ∧ s8 = .int .i64 (i : Int) ∧ TM a b w ga gb (Sh.tcar (Sh.tout a b a.length) i) wr)
      case atStart => exact ⟨0, by omega, by omega, rfl, H1.out⟩
      case round =>
        clear H1
        obtain ⟨j, hgh3, hj, rfl, hT⟩ := hrel
        by_cases hjn : j < n + m
        · have d3 : decide ((j : Int) + 1 < (n : Int) + (m : Int) + 1) = true := by simp; omega
          have d3' : decide (j < n + m) = true := by simp; omega
          obtain ⟨O, hO⟩ : ∃ O, O = Sh.tcar (Sh.tout a b a.length) j := ⟨_, rfl⟩
          rw [← hO] at hT
          have hOl : O.length = n + m + 1 := by rw [hO, tcar_len, tout_len, HLn.out.1, HLn.out.2]
          obtain ⟨x, hx⟩ : ∃ x, x = O.getD j 0 := ⟨_, rfl⟩
          obtain ⟨y, hy⟩ : ∃ y, y = O.getD (j + 1) 0 := ⟨_, rfl⟩
          have c1 := hT.o.cell (u64s_at O j (by omega))
          have c2 := hT.o.cell (u64s_at O (j + 1) (by omega))
          have f1 := hT.o.frozen (j + 1)
          rw [← hx] at c1
          rw [← hy] at c2
          obtain ⟨v, hv⟩ : ∃ v, v = (y + x / 65536) % 18446744073709551616 := ⟨_, rfl⟩
          have hwr : IntKind.u64.wrap ((y : Int) + IntKind.u64.wrap ((x : Int) / 65536)) = (v : Int) := by
            rw [hv, IntKind.wrap_u64, IntKind.wrap_u64]
            simp
          have H3 : Aside (TM a b w ga gb (O.set (j + 1) v) (wr.setCell ⟨w.heap.size, j + 1, none⟩ (.int .u64 (v : Int))).drew) := (hT.put (j + 1) v).drew
          have HO : Aside (Sh.tcar (Sh.tout a b a.length) (j + 1) = (O.set (j + 1) v).set j (x % 65536) ∧ O.length = n + m + 1 ∧ x = O.getD j 0) := by
            refine ⟨?_, hOl, hx⟩
            rw [hv, hx, hy, hO]
            rfl
          clear hT hO hx hy hOl hv
          go_wp2_with fail
          go_region
          generalize (wr.setCell ⟨w.heap.size, j + 1, none⟩ (.int .u64 (v : Int))).drew = w2 at H3 ⊢
          clear c1 c2 f1 hwr
          have c1 : w2.cell? ⟨w.heap.size, j, none⟩ = some (.int .u64 (x : Int)) := by
            have h1 := H3.out.o.cell (u64s_at (O.set (j + 1) v) j (by rw [List.length_set, HO.out.2.1]; omega))
            have h2 : (O.set (j + 1) v).getD j 0 = x := by
              rw [HO.out.2.2]
              simp [List.getD]
            rw [h2] at h1
            exact h1
          have f1 := H3.out.o.frozen j
          obtain ⟨r, hr⟩ : ∃ r, r = x % 65536 := ⟨_, rfl⟩
          have hr1 : (x : Int) % 65536 = (r : Int) := by rw [hr]; simp
          have hrl : r < 65536 := by rw [hr]; exact Nat.mod_lt _ (by decide)
          have hr2 : IntKind.u64.wrap (r : Int) = (r : Int) := by rw [IntKind.wrap_u64]; omega
          have H4 : Aside (TM a b w ga gb (Sh.tcar (Sh.tout a b a.length) (j + 1)) (w2.setCell ⟨w.heap.size, j, none⟩ (.int .u64 (r : Int)))) := by
            show TM _ _ _ _ _ _ _
            rw [HO.out.1, ← hr]
            exact H3.out.put j r
          clear hr H3 HO
          go_wp2
          go_roundg (n + m - (j + 1))
          case measure => omega
          case rel => exact ⟨j + 1, Nat.le_refl _, by omega, by go_num, H4.out⟩
        · have d3 : decide ((j : Int) + 1 < (n : Int) + (m : Int) + 1) = false := by simp; omega
          have d3' : decide (j < n + m) = false := by simp; omega
          have H2 : Aside (Nums wr w.heap.size (Sh.timesL a b) ∧ Below w.heap.size w wr) := by
            refine ⟨?_, hT.bel⟩
            unfold Sh.timesL
            rw [HLn.out.1, HLn.out.2]
            have h1 := Nums.of hT.o
            rw [HLn.out.1, show j = n + m by omega] at h1
            exact h1
          clear hT
          go_wp2
          go_ret
          exact ⟨rfl, H2.out⟩
end Go.Proofs.YtkkacngildnlkaaDoor
