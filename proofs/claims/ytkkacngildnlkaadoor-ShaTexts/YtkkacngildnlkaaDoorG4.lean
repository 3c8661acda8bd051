/-
  The constants, reckoned from the roots: the document's own.
-/
import Derived.Test.YtkkacngildnlkaaDoorG3
import Derived.Test.YtkkacngildnlkaaDoorR1
import Derived.Test.YtkkacngildnlkaaDoorW8
import Derived.Deep.RegionHeld
namespace Go.Proofs.YtkkacngildnlkaaDoor
open Go.RowKit

def mem8 (m : List Nat) : List Nat := m ++ List.replicate (8 - m.length) 0
theorem mem8_len (m : List Nat) (h : m.length ≤ 8) : (mem8 m).length = 8 := by simp [mem8]; omega
theorem mem8_set (m : List Nat) (x : Nat) (h : m.length < 8) : (mem8 m).set m.length x = mem8 (m ++ [x]) := by
  unfold mem8
  rw [show 8 - m.length = (8 - (m ++ [x]).length) + 1 by simp; omega]
  exact fill_next m _ x

def sq (i : Nat) : List Nat := ((Sh.pl 312).take i).map fun p => Sh.root p 2
def cu (i : Nat) : List Nat := ((Sh.pl 312).take i).map fun p => Sh.root p 3

theorem pl_lt : ∀ x ∈ Sh.pl 312, x < 312 := fun x hx => by
  simp only [Sh.pl, List.mem_filter, List.mem_range] at hx
  exact hx.1

theorem sq_len (i : Nat) (h : i ≤ 64) : (sq i).length = i := by simp [sq, Sh.pl_all]; omega
theorem cu_len (i : Nat) (h : i ≤ 64) : (cu i).length = i := by simp [cu, Sh.pl_all]; omega
theorem take_next (i : Nat) (h : i < 64) : (Sh.pl 312).take (i + 1) = (Sh.pl 312).take i ++ [(Sh.pl 312).getD i 0] := by
  have hi : i < (Sh.pl 312).length := by rw [Sh.pl_all]; exact h
  rw [List.take_succ_eq_append_getElem hi, List.getD, List.getElem?_eq_getElem hi]
  rfl
theorem sq_succ (i : Nat) (h : i < 64) : sq (i + 1) = sq i ++ [Sh.root ((Sh.pl 312).getD i 0) 2] := by
  unfold sq
  rw [take_next i h, List.map_append]
  rfl
theorem cu_succ (i : Nat) (h : i < 64) : cu (i + 1) = cu i ++ [Sh.root ((Sh.pl 312).getD i 0) 3] := by
  unfold cu
  rw [take_next i h, List.map_append]
  rfl
theorem cu_all : cu 64 = Sh.K := by
  unfold cu
  rw [List.take_of_length_le (by rw [Sh.pl_all]; omega)]
  exact Sh.cubes
theorem sq_all : u32s (mem8 (sq 8)) = vals Sh.start := by
  have h : sq 8 = [1779033703, 3144134277, 1013904242, 2773480762, 1359893119, 2600822924, 528734635, 1541459225] := Sh.squares
  rw [h]
  rfl

/-- What stands in the memory of 'Roots'. -/
structure RT (w : World) (g V a k : Nat) (wr : World) : Prop where
  p : ∀ j, j < 64 → wr.cell? ⟨g, j, none⟩ = some (.int .i64 (((Sh.pl 312).getD j 0 : Nat) : Int))
  hg : g < V
  v : Blk wr V 24 (u32s (mem8 (sq a)))
  k : Blk wr (V + 1) 25 (u32s (mem (cu k)))
  b : Blk wr w.heap.size 24 (vals Sh.zeroV)
  b1 : Blk wr (w.heap.size + 1) 25 (u32s (List.replicate 64 0))
  bel : Below w.heap.size w wr
  hV : w.heap.size + 1 < V

theorem RT.call {w : World} {g V a k : Nat} {wr wr' : World} (h : RT w g V a k wr) (hb : Below wr.heap.size wr wr') : RT w g V a k wr' := by
  have hk := h.k.lt
  have hg := h.hg
  have hV := h.hV
  exact ⟨fun j hj => (hb.cell (p := ⟨g, j, none⟩) (by show g < _; omega)).trans (h.p j hj), hg, h.v.below hb (by omega), h.k.below hb hk, h.b.below hb (by omega), h.b1.below hb (by omega), h.bel.trans (hb.mono h.bel.size), hV⟩

theorem RT.putV {w : World} {g V a k : Nat} {wr : World} (h : RT w g V a k wr) (ha : a < 8) (x : Nat) (hx : x = Sh.root ((Sh.pl 312).getD a 0) 2) : RT w g V (a + 1) k (wr.setCell ⟨V, a, none⟩ (.int .u32 (x : Int))) := by
  have hg := h.hg
  have hV := h.hV
  refine ⟨fun j hj => ?_, hg, ?_, h.k.other (by simp) _, h.b.other (by simp; omega) _, h.b1.other (by simp; omega) _, h.bel.setCell (by simp; omega) _, hV⟩
  · rw [World.cell?_setCell_other _ _ _ _ (fun e => by have := (Addr.mk.inj e).1; omega)]
    exact h.p j hj
  · have h1 := h.v.set a (.int .u32 (x : Int))
    have h2 := mem8_set (sq a) x (by rw [sq_len a (by omega)]; exact ha)
    rw [sq_len a (by omega)] at h2
    rw [u32s_set, h2, hx, ← sq_succ a (by omega)] at h1
    rw [hx]
    exact h1

theorem RT.putK {w : World} {g V a k : Nat} {wr : World} (h : RT w g V a k wr) (hk : k < 64) (x : Nat) (hx : x = Sh.root ((Sh.pl 312).getD k 0) 3) : RT w g V a (k + 1) (wr.setCell ⟨V + 1, k, none⟩ (.int .u32 (x : Int))) := by
  have hg := h.hg
  have hV := h.hV
  refine ⟨fun j hj => ?_, hg, h.v.other (by simp) _, ?_, h.b.other (by simp; omega) _, h.b1.other (by simp; omega) _, h.bel.setCell (by simp; omega) _, hV⟩
  · rw [World.cell?_setCell_other _ _ _ _ (fun e => by have := (Addr.mk.inj e).1; omega)]
    exact h.p j hj
  · have h1 := h.k.set k (.int .u32 (x : Int))
    have h2 := mem_set (cu k) x (by rw [cu_len k (by omega)]; exact hk)
    rw [cu_len k (by omega)] at h2
    rw [u32s_set, h2, hx, ← cu_succ k hk] at h1
    rw [hx]
    exact h1

theorem RT.first (w w1 : World) (g : Nat) (hp : ∀ i, i < 64 → w1.cell? ⟨g, i, none⟩ = some (.int .i64 (((Sh.pl 312).getD i 0 : Nat) : Int))) (hg : g < w1.heap.size)
    (hb : Below (w.heap.size + 2) ((w.alloc (.cells (vals Sh.zeroV) 24)).alloc (.cells (u32s (List.replicate 64 0)) 25)) w1) :
    RT w g w1.heap.size 0 0 ((w1.alloc (.cells (vals Sh.zeroV) 24)).alloc (.cells (u32s (List.replicate 64 0)) 25)) := by
  have b0 : Below w.heap.size w ((w.alloc (.cells (vals Sh.zeroV) 24)).alloc (.cells (u32s (List.replicate 64 0)) 25)) := ((Below.refl _ _).alloc (Nat.le_refl _) _).alloc (by simp) _
  have hs := hb.size
  rw [size_alloc, size_alloc] at hs
  have bb := ((Blk.new w 24 (vals Sh.zeroV)).alloc (.cells (u32s (List.replicate 64 0)) 25)).below hb (by omega)
  have bb1 := Blk.new (w.alloc (.cells (vals Sh.zeroV) 24)) 25 (u32s (List.replicate 64 0))
  rw [size_alloc] at bb1
  have bb2 := bb1.below hb (by omega)
  have bl : Below w.heap.size w w1 := b0.trans (hb.mono (by omega))
  have nk := Blk.new (w1.alloc (.cells (vals Sh.zeroV) 24)) 25 (u32s (List.replicate 64 0))
  rw [size_alloc] at nk
  have bw : Below w1.heap.size w1 ((w1.alloc (.cells (vals Sh.zeroV) 24)).alloc (.cells (u32s (List.replicate 64 0)) 25)) := ((Below.refl _ _).alloc (Nat.le_refl _) _).alloc (by simp) _
  exact ⟨fun j hj => (bw.cell (p := ⟨g, j, none⟩) hg).trans (hp j hj), hg, (Blk.new w1 24 (vals Sh.zeroV)).alloc _, nk, (bb.alloc _).alloc _, (bb2.alloc _).alloc _, bl.trans (bw.mono bl.size), by omega⟩

theorem Blk.range {w : World} {b : Nat} {t : TypeId} {c : Array Value} (h : Blk w b t c) : w.rangeAt b 0 c.toList := fun j v hv => by
  rw [Nat.zero_add]
  exact h.cell (by simpa using hv)

theorem takeH_to {P : Program} {md : Region.Mode} {ops : Array Oper} {Q : Exit → Act → World → Prop} {S : World → Prop} {i : Nat} {oi : Oper} {v : Value} {fuel : Nat} {listed : Array Bool} {a : Act} {w : World} (d : Option Tmp) (hi : ops[i]? = some oi) (hd : oi.dst = d)
    (hs : Region.noSelect ops = true) (hf : Region.free md ops listed i = true) (hr : (Region.ready md ops listed).contains i = true)
    (hQ : ∀ c a w, Q (.panic c) (a.put oi.dst v) w → Q (.panic c) a w) (hy : YieldsIf P ops S oi v a) (hS : S w)
    (h : wpAnyH P md ops Q S fuel (listed.setIfInBounds i true) (a.put d v) w) : wpAnyH P md ops Q S (fuel + 1) listed a w := by
  subst hd
  exact wpAnyH_take hi hs hf hr hQ hy hS h

theorem rowstore_to {P : Program} {o : Oper} {a : Act} {w : World} {K : Act → World → Prop} {Q : Exit → Act → World → Prop} (ty : TypeId) (x y : Operand) (dst : Option Tmp) (hdst : o.dst = dst) (ho : o.op = .store ty x y)
    (g : Nat) (cells : Array Value) (hx : a.eval x = .pointer (some ⟨g, 0, none⟩)) (hy : a.eval y = .agg cells)
    (t : TypeId) (old : Array Value) (hg : w.heap[g]? = some (.cells old t (0, 0))) (hi : (P.info? ty).map (·.size) = some cells.size)
    (hold : old.size = cells.size) (h1 : cells.all (·.oneCell') = true)
    (h : K (a.put dst undef) (w.setRow g cells)) : o.wp P a w K Q := by
  subst hdst
  exact wp_store_row ty x y ho g cells hx hy t old hg hi hold h1 h

set_option maxHeartbeats 1600000 in
set_option maxRecDepth 100000 in
theorem roots_any (w : World) :
    Calls Tryd.prog 7 #[] w fun e w' => e = .returned (.tuple #[.agg (vals Sh.start), .agg (u32s Sh.K)]) ∧ Below w.heap.size w w' := by
  go_enter Tryd.func7, Tryd.ntmps7
  go_wp2_with (go_at_call 17; refine (primes_any _).mono ?_; rintro e w1 ⟨g, cap, rfl, hp, hg, hb1⟩)
  have H0 : Aside (RT w g w1.heap.size 0 0 ((w1.alloc (.cells (vals Sh.zeroV) 24)).alloc (.cells (u32s (List.replicate 64 0)) 25))) := RT.first w w1 g hp hg (by rw [size_alloc, size_alloc] at hb1; exact hb1)
  clear hp hg hb1
  change Code.wp _ _ _ _ ((w1.alloc (.cells (vals Sh.zeroV) 24)).alloc (.cells (u32s (List.replicate 64 0)) 25))
  generalize (w1.alloc (.cells (vals Sh.zeroV) 24)).alloc (.cells (u32s (List.replicate 64 0)) 25) = w2 at H0 ⊢
  generalize w1.heap.size = V at H0 ⊢
  go_loopg [5] 64 (fun gh s5 wr => ∃ i a : Nat, 64 - i ≤ gh ∧ i ≤ 64 ∧ a = min i 8 ∧ s5 = .int .i64 (i : Int) ∧ RT w g V a i wr)
  case atStart => exact ⟨0, 0, by omega, by omega, by omega, rfl, H0.out⟩
  case round =>
    clear H0
    obtain ⟨i, a, hgh, hi, ha, rfl, hR⟩ := hrel
    by_cases hlt : i < 64
    · have d1 : decide ((i : Int) < 64) = true := by simp; omega
      obtain ⟨p, hp⟩ : ∃ p, p = (Sh.pl 312).getD i 0 := ⟨_, rfl⟩
      have hpl : p < 312 := by rw [hp]; exact getD_lt pl_lt (by decide) i
      obtain ⟨x, hx⟩ : ∃ x, x = Sh.root p 3 := ⟨_, rfl⟩
      have k18 : Aside (∀ u, Calls Tryd.prog 18 #[.int .i64 (p : Int), .int .i64 3] u fun e w' => e = .returned (.int .u32 (x : Int)) ∧ Below u.heap.size u w') := fun u => by rw [hx]; exact root_three p u (by omega)
      by_cases hi8 : i < 8
      · have d2 : decide ((i : Int) < 8) = true := by simp; omega
        obtain rfl : a = i := by omega
        obtain ⟨y, hy⟩ : ∃ y, y = Sh.root p 2 := ⟨_, rfl⟩
        have k18b : Aside (∀ u, Calls Tryd.prog 18 #[.int .i64 (p : Int), .int .i64 2] u fun e w' => e = .returned (.int .u32 (y : Int)) ∧ Below u.heap.size u w') := fun u => by rw [hy]; exact root_two p u (by omega)
        have HP : Aside (p = (Sh.pl 312).getD a 0 ∧ x = Sh.root p 3 ∧ y = Sh.root p 2) := ⟨hp, hx, hy⟩
        have c1 := hR.p a hlt
        rw [← hp] at c1
        have HR : Aside (RT w g V a a wr) := hR
        clear hR hp hx hy ha
        have hne : (g = V) = False := by
          have := HR.out.hg
          simp
          omega
        have hne2 : (V = g) = False := by
          have := HR.out.hg
          simp
          omega
        go_wp2_with (first
          | (go_at_call_of 18 (Value.int IntKind.i64 2); refine (k18b.out _).mono ?_; rintro e w3 ⟨rfl, h3⟩; have R3 : Aside (RT w g V a a w3) := HR.out.call h3; clear h3; have c2 := R3.out.p a hlt; rw [← HP.out.1] at c2; have c3 := R3.out.v.cell (u32s_at (mem8 (sq a)) a (by rw [mem8_len _ (by rw [sq_len a (by omega)]; omega)]; exact hi8)); have f3 := R3.out.v.frozen a)
          | (go_at_call_of 18 (Value.int IntKind.i64 3); have R4 : Aside (RT w g V (a + 1) a (w3.setCell ⟨V, a, none⟩ (.int .u32 (y : Int)))) := R3.out.putV hi8 y (by rw [HP.out.2.2, ← HP.out.1]); clear c2 c3 f3; generalize w3.setCell ⟨V, a, none⟩ (.int .u32 (y : Int)) = w4 at R4 ⊢; refine (k18.out _).mono ?_; rintro e w5 ⟨rfl, h5⟩; have R5 : Aside (RT w g V (a + 1) a w5) := R4.out.call h5; clear h5; have c5 := R5.out.k.cell (u32s_at (mem (cu a)) a (by rw [mem_len _ (by rw [cu_len a (by omega)]; omega)]; exact hlt)); have f5 := R5.out.k.frozen a))
        have R6 : Aside (RT w g V (a + 1) (a + 1) (w5.setCell ⟨V + 1, a, none⟩ (.int .u32 (x : Int)))) := R5.out.putK hlt x (by rw [HP.out.2.1, ← HP.out.1])
        generalize w5.setCell ⟨V + 1, a, none⟩ (.int .u32 (x : Int)) = w6 at R6 ⊢
        go_roundg (64 - (a + 1))
        case measure => omega
        case rel => exact ⟨a + 1, a + 1, Nat.le_refl _, by omega, by omega, by go_num, R6.out⟩
      · have d2 : decide ((i : Int) < 8) = false := by simp; omega
        obtain rfl : a = 8 := by omega
        have HP : Aside (p = (Sh.pl 312).getD i 0 ∧ x = Sh.root p 3) := ⟨hp, hx⟩
        have c1 := hR.p i hlt
        rw [← hp] at c1
        have HR : Aside (RT w g V 8 i wr) := hR
        clear hR hp hx ha
        go_wp2_with (go_at_call_of 18 (Value.int IntKind.i64 3); refine (k18.out _).mono ?_; rintro e w5 ⟨rfl, h5⟩; have R5 : Aside (RT w g V 8 i w5) := HR.out.call h5; clear h5; have c5 := R5.out.k.cell (u32s_at (mem (cu i)) i (by rw [mem_len _ (by rw [cu_len i (by omega)]; omega)]; exact hlt)); have f5 := R5.out.k.frozen i)
        have R6 : Aside (RT w g V 8 (i + 1) (w5.setCell ⟨V + 1, i, none⟩ (.int .u32 (x : Int)))) := R5.out.putK hlt x (by rw [HP.out.2, ← HP.out.1])
        generalize w5.setCell ⟨V + 1, i, none⟩ (.int .u32 (x : Int)) = w6 at R6 ⊢
        go_roundg (64 - (i + 1))
        case measure => omega
        case rel => exact ⟨i + 1, 8, Nat.le_refl _, by omega, by omega, by go_num, R6.out⟩
    · obtain rfl : i = 64 := by omega
      obtain rfl : a = 8 := by omega
      have hv : Blk wr V 24 (vals Sh.start) := by
        have := hR.v
        rw [sq_all] at this
        exact this
      have hk : Blk wr (V + 1) 25 (u32s Sh.K) := by
        have := hR.k
        have e : mem (cu 64) = Sh.K := by
          rw [cu_all]
          rfl
        rw [e] at this
        exact this
      have HF : Aside (Blk wr V 24 (vals Sh.start) ∧ Blk wr (V + 1) 25 (u32s Sh.K) ∧ Blk wr w.heap.size 24 (vals Sh.zeroV) ∧ Blk wr (w.heap.size + 1) 25 (u32s (List.replicate 64 0)) ∧ Below w.heap.size w wr ∧ w.heap.size + 1 < V) := ⟨hv, hk, hR.b, hR.b1, hR.bel, hR.hV⟩
      clear hv hk hR ha
      have hsz : (Tryd.prog.info? 25).map (·.size) = some (u32s Sh.K).size := sz25
      go_wp2_with fail
      refine wp_region_held (S := fun u => Blk u V 24 (vals Sh.start) ∧ Blk u (V + 1) 25 (u32s Sh.K)) (by kernel_rfl) ?_
      change wpAnyH _ _ _ _ _ _ _ _ (World.drew _)
      have hS : Blk wr.drew V 24 (vals Sh.start) ∧ Blk wr.drew (V + 1) 25 (u32s Sh.K) := ⟨HF.out.1, HF.out.2.1⟩
      refine takeH_to (i := 0) (v := .agg (vals Sh.start).toList.toArray) (some 27) rfl rfl (by kernel_rfl) (by kernel_rfl) (by kernel_rfl) (fun _ _ _ h => h) (yieldsIf_load_mid (by rfl) 24 (.tmp 3) rfl V 0 rfl (vals Sh.start).toList _ (fun u hu => hu.1.range) Tryd.underlying24 rfl sz24) hS ?_
      simp only [Act.put, List.setIfInBounds_toArray, List.set_cons_zero, List.set_cons_succ]
      refine takeH_to (i := 1) (v := .agg (u32s Sh.K).toList.toArray) (some 28) rfl rfl (by kernel_rfl) (by kernel_rfl) (by kernel_rfl) (fun _ _ _ h => h) (yieldsIf_load_mid (by rfl) 25 (.tmp 4) rfl (V + 1) 0 rfl (u32s Sh.K).toList _ (fun u hu => hu.2.range) Tryd.underlying25 rfl sz25) hS ?_
      simp only [Act.put, List.setIfInBounds_toArray, List.set_cons_zero, List.set_cons_succ]
      obtain ⟨-, -, hb, hb1, hbel, hV⟩ := HF.out
      refine wpAnyH_ready (rs := [2]) (by kernel_rfl) (by simp) ?_
      refine AllReadyH.cons rfl (fun K hK => ?_) AllReadyH.nil
      · rw [if_pos (by rfl)]
        refine rowstore_to 24 (.tmp 0) (.tmp 27) none rfl rfl w.heap.size (vals Sh.start) rfl rfl 24 (vals Sh.zeroV) hb sz24 rfl (eight_one ..) ?_
        have hS2 : Blk (wr.drew.setRow w.heap.size (vals Sh.start)) V 24 (vals Sh.start) ∧ Blk (wr.drew.setRow w.heap.size (vals Sh.start)) (V + 1) 25 (u32s Sh.K) := ⟨(setRow_other _ _ _ _ (by omega)).trans hS.1, (setRow_other _ _ _ _ (by omega)).trans hS.2⟩
        refine hK.out _ _ hS2 (fun _ => ?_)
        clear hK K
        simp only [Act.put]
        refine wpAnyH_ready (rs := [3]) (by kernel_rfl) (by simp) ?_
        refine AllReadyH.cons rfl (fun K hK => ?_) AllReadyH.nil
        rw [if_pos (by rfl)]
        have hb2 : Blk (wr.drew.setRow w.heap.size (vals Sh.start)) (w.heap.size + 1) 25 (u32s (List.replicate 64 0)) := (setRow_other _ _ _ _ (by omega)).trans hb1
        refine rowstore_to 25 (.tmp 1) (.tmp 28) none rfl rfl (w.heap.size + 1) (u32s Sh.K) rfl rfl 25 (u32s (List.replicate 64 0)) hb2 sz25 rfl (u32s_one _) ?_
        refine hK.out _ _ ⟨(setRow_other _ _ _ _ (by omega)).trans hS2.1, (setRow_other _ _ _ _ (by omega)).trans hS2.2⟩ (fun _ => ?_)
        clear hK K
        have HR1 : Aside (Blk ((wr.drew.setRow w.heap.size (vals Sh.start)).setRow (w.heap.size + 1) (u32s Sh.K)) w.heap.size 24 (vals Sh.start)) := (setRow_other _ _ _ _ (by omega)).trans (Blk.row (w := wr.drew) hb)
        have HR2 : Aside (Blk ((wr.drew.setRow w.heap.size (vals Sh.start)).setRow (w.heap.size + 1) (u32s Sh.K)) (w.heap.size + 1) 25 (u32s Sh.K)) := hb2.row
        have HR3 : Aside (Below w.heap.size w ((wr.drew.setRow w.heap.size (vals Sh.start)).setRow (w.heap.size + 1) (u32s Sh.K))) := below_row (below_row hbel.drew (Nat.le_refl _) _) (by omega) _
        generalize (wr.drew.setRow w.heap.size (vals Sh.start)).setRow (w.heap.size + 1) (u32s Sh.K) = wz at HR1 HR2 HR3 ⊢
        clear hS hS2 hb hb1 hb2 hbel
        refine wpAnyH_done (by kernel_rfl) ?_ _
        simp only [Act.put]
        go_wp2
        refine bodyPost_ret (v := .tuple #[.agg (vals Sh.start), .agg (u32s Sh.K)]) (results_two Tryd.results7 _ _ ⟨w.heap.size, 0, none⟩ ⟨w.heap.size + 1, 0, none⟩ _ _ rfl rfl (run_loadVar_row _ _ 24 24 _ (0, 0) _ HR1.out Tryd.underlying24 rfl sz24) (run_loadVar_row _ _ 25 25 _ (0, 0) _ HR2.out Tryd.underlying25 rfl hsz)) rfl ⟨rfl, HR3.out⟩
end Go.Proofs.YtkkacngildnlkaaDoor
