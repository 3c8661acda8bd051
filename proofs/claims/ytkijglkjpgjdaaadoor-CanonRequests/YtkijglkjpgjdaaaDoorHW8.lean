/-
  One byte more: the program's 'put'.
-/
import Derived.Test.YtkijglkjpgjdaaaDoorHW6
import Derived.Test.YtkijglkjpgjdaaaDoorHW7
namespace Go.Proofs.YtkijglkjpgjdaaaDoor.Ha
open Go.RowKit

/-- All blocks that were there, but b, are as they were. -/
structure Upd (b : Nat) (w w' : World) : Prop where
  os : w'.os = w.os
  tape : w'.tape = w.tape
  output : w'.output = w.output
  size : w.heap.size ≤ w'.heap.size
  block : ∀ k, k < w.heap.size → k ≠ b → w'.heap[k]? = w.heap[k]?

theorem Upd.refl (b : Nat) (w : World) : Upd b w w := ⟨rfl, rfl, rfl, Nat.le_refl _, fun _ _ _ => rfl⟩
theorem Upd.trans {b : Nat} {u v w : World} (h : Upd b u v) (k : Upd b v w) : Upd b u w :=
  ⟨k.os.trans h.os, k.tape.trans h.tape, k.output.trans h.output, Nat.le_trans h.size k.size, fun i hi hb => (k.block i (Nat.lt_of_lt_of_le hi h.size) hb).trans (h.block i hi hb)⟩
theorem Upd.drew {b : Nat} {u w : World} (h : Upd b u w) : Upd b u w.drew := ⟨h.os, h.tape, h.output, h.size, h.block⟩
theorem Upd.cell {b : Nat} {u w : World} (h : Upd b u w) (i : Nat) (v : Value) : Upd b u (w.setCell ⟨b, i, none⟩ v) :=
  h.trans ⟨rfl, rfl, rfl, by rw [size_setCell]; exact Nat.le_refl _, fun k _ hk => heap_setCell_other w _ k v hk⟩
theorem Upd.cells {b : Nat} {u w : World} (h : Upd b u w) (o : Nat) (vs : List Value) : Upd b u (w.setCells b o vs) := by
  obtain ⟨h1, h2, h3, h4⟩ := setCells_kept b vs o w
  exact h.trans ⟨h1, h2, h3, Nat.le_of_eq h4.symm, fun k _ hk => setCells_other b vs o w k hk⟩
theorem Upd.of {b : Nat} {w w' : World} (h : Below w.heap.size w w') : Upd b w w' := ⟨h.os, h.tape, h.output, h.size, fun k hk _ => h.block k hk⟩
theorem Upd.tab {b : Nat} {w w' : World} (h : Upd b w w') (t : Tab w) (hb : b ≠ 4) : Tab w' := fun i hi => by
  rw [World.cell?_of_block (w := w) (h.block 4 t.pos (Ne.symm hb))]
  exact t i hi
theorem Upd.below {b N : Nat} {u w w' : World} (h : Upd b w w') (k : Below N u w) (hN : N ≤ b) (hw : N ≤ w.heap.size) : Below N u w' :=
  k.trans ⟨h.os, h.tape, h.output, h.size, fun i hi => h.block i (by omega) (by omega)⟩

/-- The Hash in block b, and the constants. -/
structure Hs (b : Nat) (h : Sh.HS) (w : World) : Prop where
  at_ : HashAt w b h
  tab : Tab w

theorem take_to {P : Program} {md : Region.Mode} {ops : Array Oper} {Q : Exit → Act → World → Prop} {i : Nat} {oi : Oper} {v : Value} {fuel : Nat} {listed : Array Bool} {a : Act} {w : World} (d : Option Tmp) (hi : ops[i]? = some oi) (hd : oi.dst = d)
    (hs : Region.noSelect ops = true) (hf : Region.free md ops listed i = true) (hr : (Region.ready md ops listed).contains i = true)
    (hQ : ∀ c a w, Q (.panic c) (a.put oi.dst v) w → Q (.panic c) a w) (hy : Yields P ops oi v a)
    (h : wpAny P md ops Q fuel (listed.setIfInBounds i true) (a.put d v) w) : wpAny P md ops Q (fuel + 1) listed a w := by
  subst hd
  exact wpAny_take hi hs hf hr hQ hy h

theorem load_to {P : Program} {Q : Exit → Act → World → Prop} {op : Oper} {a : Act} {w : World} {K : Act → World → Prop} (ty : TypeId) (x : Operand) (dst : Option Tmp) (hdst : op.dst = dst) (ho : op.op = .load ty x)
    (b o : Nat) (hx : a.eval x = .pointer (some ⟨b, o, none⟩)) (cs : List Value) (d : TypeDesc) (hc : w.rangeAt b o cs)
    (hu : P.underlying ty = some d) (hd : d.isRow = true) (hi : (P.info? ty).map (·.size) = some cs.length)
    (h : K (a.put dst (.agg cs.toArray)) w) : op.wp P a w K Q := by
  subst hdst
  exact wp_load_mid ty x ho b o hx cs d hc hu hd hi h

theorem store_to {P : Program} {Q : Exit → Act → World → Prop} {op : Oper} {a : Act} {w : World} {K : Act → World → Prop} (ty : TypeId) (x y : Operand) (dst : Option Tmp) (hdst : op.dst = dst) (ho : op.op = .store ty x y)
    (b o : Nat) (cells : Array Value) (hx : a.eval x = .pointer (some ⟨b, o, none⟩)) (hy : a.eval y = .agg cells)
    (ht : w.there b o cells.size) (hi : (P.info? ty).map (·.size) = some cells.size) (h1 : cells.all (·.oneCell') = true)
    (h : K (a.put dst undef) (w.setCells b o cells.toList)) : op.wp P a w K Q := by
  subst hdst
  exact wp_store_mid ty x y ho b o cells hx hy ht hi h1 h

set_option maxHeartbeats 1600000 in
set_option maxRecDepth 100000 in
theorem put_first (h : Sh.HS) (x b : Nat) (w : World) (hH : Hs b h w) (hb : b ≠ 4) (hok : h.Ok) (_hx : x < 256) (_hn : h.n < 1000000000) (h0 : h.n = 0) (hm : (h.n + 1) % 64 ≠ 0) :
    Calls Tryd.prog 77 #[.pointer (some ⟨b, 0, none⟩), .int .u8 (x : Int)] w fun e w' => e = .returned (.tuple #[]) ∧ Hs b (Sh.put h x) w' ∧ Upd b w w' := by
  obtain ⟨v2, hv2⟩ : ∃ v, v = Sh.start := ⟨_, rfl⟩
  obtain ⟨n, hnn⟩ : ∃ n, n = h.n := ⟨_, rfl⟩
  obtain ⟨q, hq⟩ : ∃ q, q = h.n % 64 := ⟨_, rfl⟩
  have hput : Sh.put h x = ⟨v2, h.blk.set q x, n + 1⟩ := by
    simp only [Sh.put]
    rw [if_neg hm, if_pos h0, ← hq, ← hnn, ← hv2]
  have cs := hH.at_.size
  rw [← hnn] at cs
  have d1 : (n : Int) % 64 = (q : Int) := by omega
  have hq64 : q < 64 := by omega
  have hn' : n < 1000000000 := by omega
  have HH : Aside (Hs b h w) := hH
  have HZ : Aside (n = h.n ∧ q = h.n % 64 ∧ h.Ok ∧ v2 = Sh.start ∧ Sh.put h x = ⟨v2, h.blk.set q x, n + 1⟩) := ⟨hnn, hq, hok, hv2, hput⟩
  have d0 : ((n : Int) == 0) = true := by rw [beq_iff_eq]; omega
  have k28 := start_any w
  have d2 : (((n : Int) + 1) % 64 == 0) = false := by rw [beq_eq_false_iff_ne]; omega
  clear hnn hq hok h0 hm _hn hv2 hput
  clear hH
  go_enter Tryd.func77, Tryd.ntmps77
  go_wp2_with (first
    | (go_at_call 92; refine k28.mono ?_; rintro e w1 ⟨rfl, hb1⟩; have hH1 := HH.out.at_.below hb1 HH.out.at_.1.lt)
    | (refine wpList_store_mid rfl 75 _ _ rfl b 0 (vals Sh.start) rfl rfl hH1.there sz24 (eight_one ..) ?_))
  have HS : Aside (Hs b ⟨v2, h.blk, n⟩ (w1.setCells b 0 (vals Sh.start).toList) ∧ Upd b w (w1.setCells b 0 (vals Sh.start).toList)) := by
    have u1 := (Upd.of (b := b) hb1).cells 0 (vals Sh.start).toList
    obtain ⟨z1, z2, z3, z4, z5⟩ := HZ.out
    refine ⟨⟨?_, u1.tab HH.out.tab hb⟩, u1⟩
    rw [z4, z1]
    exact hH1.setWords Sh.start
  generalize w1.setCells b 0 (vals Sh.start).toList = w1' at HS ⊢
  clear cs hH1 hb1 w1 k28 d0
  have cs := HS.out.1.at_.size
  have cb := HS.out.1.at_.byte q hq64
  have fb := HS.out.1.at_.frozen (8 + q)
  simp only at cs cb
  simp only [Act.put]
  go_region
  have HU : Aside (Hs b ⟨v2, h.blk.set q x, n⟩ ((w1'.setCell ⟨b, 8 + q, none⟩ (.int .u8 (x : Int))).drew) ∧ Upd b w ((w1'.setCell ⟨b, 8 + q, none⟩ (.int .u8 (x : Int))).drew)) := by
    obtain ⟨z1, z2⟩ := HS.out
    have u := (z2.cell (8 + q) (.int .u8 (x : Int))).drew
    exact ⟨⟨z1.at_.setByte q x hq64, u.tab HH.out.tab hb⟩, u⟩
  generalize (w1'.setCell ⟨b, 8 + q, none⟩ (.int .u8 (x : Int))).drew = w2 at HU ⊢
  clear cs cb fb HS
  have cs := HU.out.1.at_.size
  have fs := HU.out.1.at_.frozen 72
  simp only at cs
  go_wp2
  have HV : Aside (Hs b ⟨v2, h.blk.set q x, n + 1⟩ (w2.setCell ⟨b, 72, none⟩ (.int .i64 ((n : Int) + 1))) ∧ Upd b w (w2.setCell ⟨b, 72, none⟩ (.int .i64 ((n : Int) + 1)))) := by
    obtain ⟨z1, z2⟩ := HU.out
    have u := z2.cell 72 (.int .i64 ((n : Int) + 1))
    exact ⟨⟨z1.at_.setSize (n + 1), u.tab HH.out.tab hb⟩, u⟩
  generalize w2.setCell ⟨b, 72, none⟩ (.int .i64 ((n : Int) + 1)) = w3 at HV ⊢
  clear cs fs HU d2 w2
  go_end0
  obtain ⟨z1, z2, z3, z4, z5⟩ := HZ.out
  rw [z5]
  exact ⟨rfl, HV.out⟩
set_option maxHeartbeats 1600000 in
set_option maxRecDepth 100000 in
theorem put_plain (h : Sh.HS) (x b : Nat) (w : World) (hH : Hs b h w) (hb : b ≠ 4) (hok : h.Ok) (_hx : x < 256) (hn : h.n < 1000000000) (h0 : h.n ≠ 0) (hm : (h.n + 1) % 64 ≠ 0) :
    Calls Tryd.prog 77 #[.pointer (some ⟨b, 0, none⟩), .int .u8 (x : Int)] w fun e w' => e = .returned (.tuple #[]) ∧ Hs b (Sh.put h x) w' ∧ Upd b w w' := by
  obtain ⟨v2, hv2⟩ : ∃ v, v = h.v := ⟨_, rfl⟩
  obtain ⟨n, hnn⟩ : ∃ n, n = h.n := ⟨_, rfl⟩
  obtain ⟨q, hq⟩ : ∃ q, q = h.n % 64 := ⟨_, rfl⟩
  have hput : Sh.put h x = ⟨v2, h.blk.set q x, n + 1⟩ := by
    simp only [Sh.put]
    rw [if_neg hm, if_neg h0, ← hq, ← hnn, ← hv2]
  have cs := hH.at_.size
  rw [← hnn] at cs
  have d1 : (n : Int) % 64 = (q : Int) := by omega
  have hq64 : q < 64 := by omega
  have hn' : n < 1000000000 := by omega
  have HH : Aside (Hs b h w) := hH
  have HZ : Aside (n = h.n ∧ q = h.n % 64 ∧ h.Ok ∧ v2 = h.v ∧ Sh.put h x = ⟨v2, h.blk.set q x, n + 1⟩) := ⟨hnn, hq, hok, hv2, hput⟩
  have d0 : ((n : Int) == 0) = false := by rw [beq_eq_false_iff_ne]; omega
  have d2 : (((n : Int) + 1) % 64 == 0) = false := by rw [beq_eq_false_iff_ne]; omega
  clear hnn hq hok h0 hm hn hv2 hput
  have HS : Aside (Hs b ⟨v2, h.blk, n⟩ w ∧ Upd b w w) := by
    obtain ⟨z1, z2, z3, z4, z5⟩ := HZ.out
    rw [z4, z1]
    exact ⟨HH.out, Upd.refl b w⟩
  have cb := hH.at_.byte q hq64
  have fb := hH.at_.frozen (8 + q)
  clear hH
  go_enter Tryd.func77, Tryd.ntmps77
  go_wp2_with fail
  go_region
  have HU : Aside (Hs b ⟨v2, h.blk.set q x, n⟩ ((w.setCell ⟨b, 8 + q, none⟩ (.int .u8 (x : Int))).drew) ∧ Upd b w ((w.setCell ⟨b, 8 + q, none⟩ (.int .u8 (x : Int))).drew)) := by
    obtain ⟨z1, z2⟩ := HS.out
    have u := (z2.cell (8 + q) (.int .u8 (x : Int))).drew
    exact ⟨⟨z1.at_.setByte q x hq64, u.tab HH.out.tab hb⟩, u⟩
  generalize (w.setCell ⟨b, 8 + q, none⟩ (.int .u8 (x : Int))).drew = w2 at HU ⊢
  clear cs cb fb HS
  have cs := HU.out.1.at_.size
  have fs := HU.out.1.at_.frozen 72
  simp only at cs
  go_wp2
  have HV : Aside (Hs b ⟨v2, h.blk.set q x, n + 1⟩ (w2.setCell ⟨b, 72, none⟩ (.int .i64 ((n : Int) + 1))) ∧ Upd b w (w2.setCell ⟨b, 72, none⟩ (.int .i64 ((n : Int) + 1)))) := by
    obtain ⟨z1, z2⟩ := HU.out
    have u := z2.cell 72 (.int .i64 ((n : Int) + 1))
    exact ⟨⟨z1.at_.setSize (n + 1), u.tab HH.out.tab hb⟩, u⟩
  generalize w2.setCell ⟨b, 72, none⟩ (.int .i64 ((n : Int) + 1)) = w3 at HV ⊢
  clear cs fs HU d2 w2
  go_end0
  obtain ⟨z1, z2, z3, z4, z5⟩ := HZ.out
  rw [z5]
  exact ⟨rfl, HV.out⟩
set_option maxHeartbeats 1600000 in
set_option maxRecDepth 100000 in
theorem put_full (h : Sh.HS) (x b : Nat) (w : World) (hH : Hs b h w) (hb : b ≠ 4) (hok : h.Ok) (hx : x < 256) (hn : h.n < 1000000000) (h0 : h.n ≠ 0) (hm : (h.n + 1) % 64 = 0) :
    Calls Tryd.prog 77 #[.pointer (some ⟨b, 0, none⟩), .int .u8 (x : Int)] w fun e w' => e = .returned (.tuple #[]) ∧ Hs b (Sh.put h x) w' ∧ Upd b w w' := by
  obtain ⟨v2, hv2⟩ : ∃ v, v = h.v := ⟨_, rfl⟩
  obtain ⟨n, hnn⟩ : ∃ n, n = h.n := ⟨_, rfl⟩
  obtain ⟨q, hq⟩ : ∃ q, q = h.n % 64 := ⟨_, rfl⟩
  have hput : Sh.put h x = ⟨Sh.mix v2 (h.blk.set q x), h.blk.set q x, n + 1⟩ := by
    simp only [Sh.put]
    rw [if_pos hm, if_neg h0, ← hq, ← hnn, ← hv2]
  have cs := hH.at_.size
  rw [← hnn] at cs
  have d1 : (n : Int) % 64 = (q : Int) := by omega
  have hq64 : q < 64 := by omega
  have hn' : n < 1000000000 := by omega
  have HH : Aside (Hs b h w) := hH
  have HZ : Aside (n = h.n ∧ q = h.n % 64 ∧ h.Ok ∧ v2 = h.v ∧ Sh.put h x = ⟨Sh.mix v2 (h.blk.set q x), h.blk.set q x, n + 1⟩) := ⟨hnn, hq, hok, hv2, hput⟩
  have d0 : ((n : Int) == 0) = false := by rw [beq_eq_false_iff_ne]; omega
  have d2 : (((n : Int) + 1) % 64 == 0) = true := by rw [beq_iff_eq]; omega
  have k29 : Aside (∀ u, Tab u → Calls Tryd.prog 93 #[.agg (vals v2), .agg (u8s (h.blk.set q x))] u fun e w' => e = .returned (.agg (vals (Sh.mix v2 (h.blk.set q x)))) ∧ Below u.heap.size u w') := fun u hu => by
    refine mixed_any v2 (h.blk.set q x) u hu (by rw [hv2]; exact hok.v) (by rw [List.length_set]; exact hok.blk) (fun y hy => ?_)
    rcases List.mem_or_eq_of_mem_set hy with h1 | h1
    · exact hok.byte y h1
    · omega
  clear hnn hq hok h0 hm hn hv2 hput
  have HS : Aside (Hs b ⟨v2, h.blk, n⟩ w ∧ Upd b w w) := by
    obtain ⟨z1, z2, z3, z4, z5⟩ := HZ.out
    rw [z4, z1]
    exact ⟨HH.out, Upd.refl b w⟩
  have cb := hH.at_.byte q hq64
  have fb := hH.at_.frozen (8 + q)
  clear hH
  go_enter Tryd.func77, Tryd.ntmps77
  go_wp2_with fail
  go_region
  have HU : Aside (Hs b ⟨v2, h.blk.set q x, n⟩ ((w.setCell ⟨b, 8 + q, none⟩ (.int .u8 (x : Int))).drew) ∧ Upd b w ((w.setCell ⟨b, 8 + q, none⟩ (.int .u8 (x : Int))).drew)) := by
    obtain ⟨z1, z2⟩ := HS.out
    have u := (z2.cell (8 + q) (.int .u8 (x : Int))).drew
    exact ⟨⟨z1.at_.setByte q x hq64, u.tab HH.out.tab hb⟩, u⟩
  generalize (w.setCell ⟨b, 8 + q, none⟩ (.int .u8 (x : Int))).drew = w2 at HU ⊢
  clear cs cb fb HS
  have cs := HU.out.1.at_.size
  have fs := HU.out.1.at_.frozen 72
  simp only at cs
  go_wp2_with fail
  have HV : Aside (Hs b ⟨v2, h.blk.set q x, n + 1⟩ (w2.setCell ⟨b, 72, none⟩ (.int .i64 ((n : Int) + 1))) ∧ Upd b w (w2.setCell ⟨b, 72, none⟩ (.int .i64 ((n : Int) + 1)))) := by
    obtain ⟨z1, z2⟩ := HU.out
    have u := z2.cell 72 (.int .i64 ((n : Int) + 1))
    exact ⟨⟨z1.at_.setSize (n + 1), u.tab HH.out.tab hb⟩, u⟩
  generalize w2.setCell ⟨b, 72, none⟩ (.int .i64 ((n : Int) + 1)) = w3 at HV ⊢
  clear cs fs HU d2 w2
  have hs44 : (Tryd.prog.info? 90).map (·.size) = some (u8s (h.blk.set q x)).toList.length := by rw [u8s_len, HV.out.1.at_.2]; exact sz44
  have hT : Aside (Tab w3.drew) := HV.out.1.tab
  refine wp_region_any (by kernel_rfl) ?_
  change wpAny _ _ _ _ _ _ _ (World.drew _)
  refine take_to (i := 0) (v := .pointer (some ⟨b, 0, none⟩)) (some 36) rfl rfl (by kernel_rfl) (by kernel_rfl) (by kernel_rfl) (fun _ _ _ h => h) (Or.inl ⟨by rfl, fun u => by go_simp⟩) ?_
  simp only [Act.put, List.setIfInBounds_toArray, List.set_cons_zero, List.set_cons_succ]
  refine take_to (i := 1) (v := .pointer (some ⟨b, 0, none⟩)) (some 37) rfl rfl (by kernel_rfl) (by kernel_rfl) (by kernel_rfl) (fun _ _ _ h => h) (Or.inl ⟨by rfl, fun u => by go_simp⟩) ?_
  simp only [Act.put, List.setIfInBounds_toArray, List.set_cons_zero, List.set_cons_succ]
  refine take_to (i := 2) (v := .pointer (some ⟨b, 0, none⟩)) (some 38) rfl rfl (by kernel_rfl) (by kernel_rfl) (by kernel_rfl) (fun _ _ _ h => h) (Or.inl ⟨by rfl, fun u => by go_simp⟩) ?_
  simp only [Act.put, List.setIfInBounds_toArray, List.set_cons_zero, List.set_cons_succ]
  refine take_to (i := 3) (v := .pointer (some ⟨b, 0, none⟩)) (some 39) rfl rfl (by kernel_rfl) (by kernel_rfl) (by kernel_rfl) (fun _ _ _ h => h) (Or.inl ⟨by rfl, fun u => by go_simp⟩) ?_
  simp only [Act.put, List.setIfInBounds_toArray, List.set_cons_zero, List.set_cons_succ]
  refine take_to (i := 5) (v := .pointer (some ⟨b, 0, none⟩)) (some 41) rfl rfl (by kernel_rfl) (by kernel_rfl) (by kernel_rfl) (fun _ _ _ h => h) (Or.inl ⟨by rfl, fun u => by go_simp⟩) ?_
  simp only [Act.put, List.setIfInBounds_toArray, List.set_cons_zero, List.set_cons_succ]
  refine take_to (i := 6) (v := .pointer (some ⟨b, 0, none⟩)) (some 42) rfl rfl (by kernel_rfl) (by kernel_rfl) (by kernel_rfl) (fun _ _ _ h => h) (Or.inl ⟨by rfl, fun u => by go_simp⟩) ?_
  simp only [Act.put, List.setIfInBounds_toArray, List.set_cons_zero, List.set_cons_succ]
  refine take_to (i := 7) (v := .pointer (some ⟨b, 8, none⟩)) (some 43) rfl rfl (by kernel_rfl) (by kernel_rfl) (by kernel_rfl) (fun _ _ _ h => h) (Or.inl ⟨by rfl, fun u => by go_simp⟩) ?_
  simp only [Act.put, List.setIfInBounds_toArray, List.set_cons_zero, List.set_cons_succ]
  refine wpAny_ready (rs := [4, 8]) (by kernel_rfl) (by simp) ?_
  refine AllReady.cons rfl (fun K hK => ?_) (AllReady.cons rfl (fun K hK => ?_) AllReady.nil)
  · rw [if_pos (by rfl)]
    refine load_to 75 (.tmp 39) (some 40) rfl rfl b 0 rfl (vals v2).toList _ HV.out.1.at_.drew.rangeV Tryd.underlying75 rfl sz24 ?_
    refine hK _ _ ?_
    clear hK K
    simp only [Act.put, List.setIfInBounds_toArray, List.set_cons_zero, List.set_cons_succ]
    refine wpAny_ready (rs := [8]) (by kernel_rfl) (by simp) ?_
    refine AllReady.cons rfl (fun K hK => ?_) AllReady.nil
    · rw [if_pos (by rfl)]
      refine load_to 90 (.tmp 43) (some 44) rfl rfl b 8 rfl (u8s (h.blk.set q x)).toList _ HV.out.1.at_.drew.rangeB Tryd.underlying90 rfl hs44 ?_
      refine hK _ _ ?_
      clear hK K
      simp only [Act.put, List.setIfInBounds_toArray, List.set_cons_zero, List.set_cons_succ]
      refine wpAny_ready (rs := [9]) (by kernel_rfl) (by simp) ?_
      refine AllReady.cons rfl (fun K hK => ?_) AllReady.nil
      · rw [if_pos (by rfl)]
        go_simp
        refine (k29.out _ hT.out).mono ?_
        rintro e w4 ⟨rfl, hb4⟩
        refine hK _ _ ?_
        clear hK K
        refine take_to (i := 10) (v := .pointer (some ⟨b, 0, none⟩)) (some 46) rfl rfl (by kernel_rfl) (by kernel_rfl) (by kernel_rfl) (fun _ _ _ h => h) (Or.inl ⟨by rfl, fun u => by go_simp⟩) ?_
        simp only [Act.put, List.setIfInBounds_toArray, List.set_cons_zero, List.set_cons_succ]
        refine take_to (i := 11) (v := .pointer (some ⟨b, 0, none⟩)) (some 47) rfl rfl (by kernel_rfl) (by kernel_rfl) (by kernel_rfl) (fun _ _ _ h => h) (Or.inl ⟨by rfl, fun u => by go_simp⟩) ?_
        simp only [Act.put, List.setIfInBounds_toArray, List.set_cons_zero, List.set_cons_succ]
        have hH4 := HV.out.1.at_.drew.below hb4 HV.out.1.at_.1.lt
        refine wpAny_ready (rs := [12]) (by kernel_rfl) (by simp) ?_
        refine AllReady.cons rfl (fun K hK => ?_) AllReady.nil
        rw [if_pos (by rfl)]
        refine store_to 75 (.tmp 47) (.tmp 45) none rfl rfl b 0 (vals (Sh.mix v2 (h.blk.set q x))) rfl rfl hH4.there sz24 (eight_one ..) ?_
        refine hK _ _ ?_
        clear hK K
        refine wpAny_done (by kernel_rfl) ?_ _
        have F : Aside (Hs b (Sh.put h x) (w4.setCells b 0 (vals (Sh.mix v2 (h.blk.set q x))).toList) ∧ Upd b w (w4.setCells b 0 (vals (Sh.mix v2 (h.blk.set q x))).toList)) := by
          have u4 := (HV.out.2.drew.trans (Upd.of hb4)).cells 0 (vals (Sh.mix v2 (h.blk.set q x))).toList
          have hw := hH4.setWords (Sh.mix v2 (h.blk.set q x))
          obtain ⟨z1, z2, z3, z4, z5⟩ := HZ.out
          refine ⟨⟨?_, u4.tab HH.out.tab hb⟩, u4⟩
          rw [z5]
          exact hw
        generalize w4.setCells b 0 (vals (Sh.mix v2 (h.blk.set q x))).toList = w5 at F ⊢
        clear hH4 hb4 w4 HV hT k29 hs44
        simp only [Act.put]
        go_wp2
        go_end0
        exact ⟨rfl, F.out⟩
  · rw [if_pos (by rfl)]
    refine load_to 90 (.tmp 43) (some 44) rfl rfl b 8 rfl (u8s (h.blk.set q x)).toList _ HV.out.1.at_.drew.rangeB Tryd.underlying90 rfl hs44 ?_
    refine hK _ _ ?_
    clear hK K
    simp only [Act.put, List.setIfInBounds_toArray, List.set_cons_zero, List.set_cons_succ]
    refine wpAny_ready (rs := [4]) (by kernel_rfl) (by simp) ?_
    refine AllReady.cons rfl (fun K hK => ?_) AllReady.nil
    · rw [if_pos (by rfl)]
      refine load_to 75 (.tmp 39) (some 40) rfl rfl b 0 rfl (vals v2).toList _ HV.out.1.at_.drew.rangeV Tryd.underlying75 rfl sz24 ?_
      refine hK _ _ ?_
      clear hK K
      simp only [Act.put, List.setIfInBounds_toArray, List.set_cons_zero, List.set_cons_succ]
      refine wpAny_ready (rs := [9]) (by kernel_rfl) (by simp) ?_
      refine AllReady.cons rfl (fun K hK => ?_) AllReady.nil
      · rw [if_pos (by rfl)]
        go_simp
        refine (k29.out _ hT.out).mono ?_
        rintro e w4 ⟨rfl, hb4⟩
        refine hK _ _ ?_
        clear hK K
        refine take_to (i := 10) (v := .pointer (some ⟨b, 0, none⟩)) (some 46) rfl rfl (by kernel_rfl) (by kernel_rfl) (by kernel_rfl) (fun _ _ _ h => h) (Or.inl ⟨by rfl, fun u => by go_simp⟩) ?_
        simp only [Act.put, List.setIfInBounds_toArray, List.set_cons_zero, List.set_cons_succ]
        refine take_to (i := 11) (v := .pointer (some ⟨b, 0, none⟩)) (some 47) rfl rfl (by kernel_rfl) (by kernel_rfl) (by kernel_rfl) (fun _ _ _ h => h) (Or.inl ⟨by rfl, fun u => by go_simp⟩) ?_
        simp only [Act.put, List.setIfInBounds_toArray, List.set_cons_zero, List.set_cons_succ]
        have hH4 := HV.out.1.at_.drew.below hb4 HV.out.1.at_.1.lt
        refine wpAny_ready (rs := [12]) (by kernel_rfl) (by simp) ?_
        refine AllReady.cons rfl (fun K hK => ?_) AllReady.nil
        rw [if_pos (by rfl)]
        refine store_to 75 (.tmp 47) (.tmp 45) none rfl rfl b 0 (vals (Sh.mix v2 (h.blk.set q x))) rfl rfl hH4.there sz24 (eight_one ..) ?_
        refine hK _ _ ?_
        clear hK K
        refine wpAny_done (by kernel_rfl) ?_ _
        have F : Aside (Hs b (Sh.put h x) (w4.setCells b 0 (vals (Sh.mix v2 (h.blk.set q x))).toList) ∧ Upd b w (w4.setCells b 0 (vals (Sh.mix v2 (h.blk.set q x))).toList)) := by
          have u4 := (HV.out.2.drew.trans (Upd.of hb4)).cells 0 (vals (Sh.mix v2 (h.blk.set q x))).toList
          have hw := hH4.setWords (Sh.mix v2 (h.blk.set q x))
          obtain ⟨z1, z2, z3, z4, z5⟩ := HZ.out
          refine ⟨⟨?_, u4.tab HH.out.tab hb⟩, u4⟩
          rw [z5]
          exact hw
        generalize w4.setCells b 0 (vals (Sh.mix v2 (h.blk.set q x))).toList = w5 at F ⊢
        clear hH4 hb4 w4 HV hT k29 hs44
        simp only [Act.put]
        go_wp2
        go_end0
        exact ⟨rfl, F.out⟩

theorem put_any (h : Sh.HS) (x b : Nat) (w : World) (hH : Hs b h w) (hb : b ≠ 4) (hok : h.Ok) (hx : x < 256) (hn : h.n < 1000000000) :
    Calls Tryd.prog 77 #[.pointer (some ⟨b, 0, none⟩), .int .u8 (x : Int)] w fun e w' => e = .returned (.tuple #[]) ∧ Hs b (Sh.put h x) w' ∧ Upd b w w' := by
  by_cases h0 : h.n = 0
  · exact put_first h x b w hH hb hok hx hn h0 (by omega)
  · by_cases hm : (h.n + 1) % 64 = 0
    · exact put_full h x b w hH hb hok hx hn h0 hm
    · exact put_plain h x b w hH hb hok hx hn h0 hm

end Go.Proofs.YtkijglkjpgjdaaaDoor.Ha
