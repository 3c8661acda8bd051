/-
  Ytnmamaeoghgegaa: the texts DX4, DX5, DX6, one behind the other.
-/
import Derived.Test.YtnmamaeoghgegaaG8
import Derived.Shelf.Spec.SlicesInsertGrow
import Derived.Deep.RegionLawGrows
/-
  slices.Insert at files: one file is put at its place.
-/
namespace Go.Proofs.Ytnmamaeoghgegaa.Dk
open Go.RowKit
set_option maxRecDepth 100000

theorem run_copy_rowk {P : Program} (w : World) (dT sT ty elem : TypeId) (g o dLen dCap : Nat) (a : Addr) (sLen sCap k m : Nat) (cur : Array Value) (t : TypeId) (cs : List Value)
    (hu : P.underlying dT = some (.slice elem)) (hs : (P.info? elem).map (·.size) = some k)
    (hg : w.heap[g]? = some (.cells cur t (0, 0))) (hm : Nat.min sLen dLen = m) (hn : cs.length = m * k)
    (hsrc : ∀ j v, cs[j]? = some v → w.cell? (a.add j) = some v) (hfit : o + cs.length ≤ cur.size) (h1 : ∀ v ∈ cs, v.oneCell' = true) :
    (Builtin.copy_ #[dT, sT] ty #[.slice (some ⟨g, o, none⟩) dLen dCap, .slice (some a) sLen sCap]).run P w =
      .ok (goInt m) (w.setRow g (cur.toList.take o ++ cs ++ cur.toList.drop (o + cs.length)).toArray) := by
  have hl := run_loadCells_list (P := P) w a cs hsrc
  have hst := run_storeCells_at P g o t cs 0 cur w hg (by simpa using hfit) h1
  cases hq : P.info? elem with
  | none => simp [hq] at hs
  | some i =>
    have hi : i.size = k := by simpa [hq] using hs
    simp [Builtin.copy_, run_underlying hu, Builtin.lenOf, Builtin.firstCells, sizeOf, typeInfo, hq, hi, hm, ← hn, hl, hst]

theorem ins_shift (X C F : List Value) (p q N : Nat) (hC : X.take N = C) (hN : C.length = N) (hF : F.length = q) (hp : p ≤ N) (hX : N + q ≤ X.length) :
    ((X.take (p + q) ++ C.drop p ++ X.drop (p + q + (C.drop p).length)).take p ++ F ++ (X.take (p + q) ++ C.drop p ++ X.drop (p + q + (C.drop p).length)).drop (p + F.length)).take (N + q) = C.take p ++ F ++ C.drop p := by
  have e1 : (X.take (p + q)).length = p + q := by rw [List.length_take]; omega
  have e2 : (X.take (p + q) ++ C.drop p ++ X.drop (p + q + (C.drop p).length)).take p = C.take p := by
    rw [List.append_assoc, List.take_append_of_le_length (by omega), List.take_take, Nat.min_eq_left (by omega), ← hC, List.take_take, Nat.min_eq_left hp]
  have e3 : (X.take (p + q) ++ C.drop p ++ X.drop (p + q + (C.drop p).length)).drop (p + F.length) = C.drop p ++ X.drop (p + q + (C.drop p).length) := by
    rw [hF, List.append_assoc]
    exact List.drop_left' e1
  rw [e2, e3, ← List.append_assoc, List.take_append_of_le_length (by simp; omega), List.take_of_length_le (by simp; omega)]

theorem ins_grow (Z C F : List Value) (p q N : Nat) (hN : C.length = N) (hF : F.length = q) (hp : p ≤ N) (_hZ : N + q ≤ p + Z.length) :
    ((((C.take p ++ Z).take p ++ F ++ (C.take p ++ Z).drop (p + F.length)).take (p + q) ++ C.drop p ++ ((C.take p ++ Z).take p ++ F ++ (C.take p ++ Z).drop (p + F.length)).drop (p + q + (C.drop p).length))).take (N + q) = C.take p ++ F ++ C.drop p := by
  have e1 : (C.take p).length = p := by rw [List.length_take]; omega
  have e2 : (C.take p ++ Z).take p = C.take p := List.take_left' e1
  have e3 : ((C.take p ++ Z).take p ++ F ++ (C.take p ++ Z).drop (p + F.length)).take (p + q) = C.take p ++ F := by
    rw [e2]
    exact List.take_left' (by rw [List.length_append, e1, hF])
  rw [e3, List.take_append_of_le_length (by simp; omega), List.take_of_length_le (by simp; omega)]

theorem flat_take (l : List Fv) (i : Nat) : (l.flatMap Fv.cells).take (i * 3) = (l.take i).flatMap Fv.cells := by
  induction l generalizing i with
  | nil => simp
  | cons a r ih =>
    cases i with
    | zero => simp
    | succ i =>
      rw [List.take_succ_cons, List.flatMap_cons, List.flatMap_cons, ← ih i, show (i + 1) * 3 = a.cells.length + i * 3 by simp [Fv.cells]; omega, List.take_length_add_append]
theorem flat_drop (l : List Fv) (i : Nat) : (l.flatMap Fv.cells).drop (i * 3) = (l.drop i).flatMap Fv.cells := by
  induction l generalizing i with
  | nil => simp
  | cons a r ih =>
    cases i with
    | zero => simp
    | succ i =>
      rw [List.drop_succ_cons, List.flatMap_cons, ← ih i, show (i + 1) * 3 = a.cells.length + i * 3 by simp [Fv.cells]; omega, List.drop_length_add_append]

theorem flat_ins (l : List Fv) (i : Nat) (f : Fv) : (l.flatMap Fv.cells).take (i * 3) ++ f.cells ++ (l.flatMap Fv.cells).drop (i * 3) = (l.take i ++ f :: l.drop i).flatMap Fv.cells := by
  rw [flat_take, flat_drop, List.flatMap_append, List.flatMap_cons, List.append_assoc]

theorem sizeOf64 (w : World) : (Go.sizeOf 70).run Try.prog w = .ok 3 w := by kernel_rfl

theorem cells_one {l : List Fv} (h : ∀ x ∈ l, x.v.oneCell' = true) : ∀ v ∈ l.flatMap Fv.cells, v.oneCell' = true := by
  intro v hv
  obtain ⟨x, hx, hv⟩ := List.mem_flatMap.1 hv
  simp only [Fv.cells, List.mem_cons, List.not_mem_nil, or_false] at hv
  rcases hv with rfl | rfl | rfl
  · rfl
  · exact h x hx
  · rfl

theorem grown_refl (w : World) (r : Option Nat) : w.grownBy w r := ⟨rfl, rfl, rfl, Nat.le_refl _, fun _ _ _ => rfl⟩

set_option maxHeartbeats 4000000 in
theorem insert_shift (B g cap i vb : Nat) (l : List Fv) (f : Fv) (w : World) (h : w.ownsRow B 70 3 (.slice (some ⟨g, 0, none⟩) l.length cap) l.length (l.flatMap Fv.cells)) (hi : i < l.length) (hroom : l.length + 1 ≤ cap)
    (hv : w.heap[vb]? = some (.cells #[.string f.name, f.v, .int .i64 (f.sure : Int)] 70 (0, 0))) (hne : vb ≠ g) (hone : f.v.oneCell' = true) (h1 : ∀ x ∈ l, x.v.oneCell' = true) :
    Calls Try.prog 40 #[.slice (some ⟨g, 0, none⟩) l.length cap, .int .i64 (i : Int), .slice (some ⟨vb, 0, none⟩) 1 1] w fun e w' => ∃ v', e = .returned v' ∧ w'.ownsRow B 70 3 v' (l.length + 1) ((l.take i ++ f :: l.drop i).flatMap Fv.cells) ∧ v'.ownBlock = some g ∧ w.grownBy w' (some g) := by
  obtain ⟨cur, hcur, hcs, hnc, hcm, hBg, htk⟩ := own_setRow h
  have hlen : (l.flatMap Fv.cells).length = l.length * 3 := flat_len l
  have hcell : ∀ j v, (l.flatMap Fv.cells)[j]? = some v → w.cell? ⟨g, j, none⟩ = some v := fun j v hj => own_cell h rfl hj
  have hc63 : cap ≤ 9223372036854775807 := by unfold maxLen at hcm; omega
  have hov : ∀ lb cb, (callFunc 84 #[.slice (some ⟨vb, 0, none⟩) 1 1, .slice (some ⟨g, (i + 1) * 3, none⟩) lb cb]).run Try.prog w = .ok (.value (.bool false)) w := fun lb cb => by
    rw [run_callFunc_extern Try.func84 (by kernel_rfl) (by kernel_rfl) (by kernel_rfl) (e := Extern.SlicesOverlaps.overlaps #[60, 60] #[4]) (by kernel_rfl),
      Lib.run_overlaps_apart w 60 4 70 Try.underlying60 3 sizeOf64 ⟨vb, 0, none⟩ ⟨g, (i + 1) * 3, none⟩ 1 1 lb cb hne 70 70 3 cur.size (by simp [World.shape?, hv]) (by simp [World.shape?, hcur]) (by omega) (frozen_of_row w vb 0 _ _ hv) (frozen_of_row w vb 3 _ _ hv)]
    rfl
  have hdl : ((l.flatMap Fv.cells).drop (i * 3)).length = (l.length - i) * 3 := by rw [List.length_drop, hlen]; omega
  have hcp1 : ∀ ty dc sc, (Builtin.copy_ #[60, 60] ty #[.slice (some ⟨g, (i + 1) * 3, none⟩) (l.length - i) dc, .slice (some ⟨g, i * 3, none⟩) (l.length + 1 - i) sc]).run Try.prog w.drew = .ok (goInt ((l.length - i : Nat) : Int)) (w.drew.setRow g (cur.toList.take ((i + 1) * 3) ++ (l.flatMap Fv.cells).drop (i * 3) ++ cur.toList.drop ((i + 1) * 3 + ((l.flatMap Fv.cells).drop (i * 3)).length)).toArray) := fun ty dc sc =>
    run_copy_rowk w.drew 60 60 ty 70 g ((i + 1) * 3) (l.length - i) dc ⟨g, i * 3, none⟩ (l.length + 1 - i) sc 3 (l.length - i) cur 70 ((l.flatMap Fv.cells).drop (i * 3)) Try.underlying60 size64 hcur (by simp only [Nat.min_def]; split <;> omega) hdl
      (fun j v hj => by rw [Addr.add_lit]; exact hcell (i * 3 + j) v (by rwa [List.getElem?_drop] at hj)) (by rw [hdl, hcs]; omega) (fun v hv => cells_one h1 v (List.mem_of_mem_drop hv))
  generalize hX1 : (cur.toList.take ((i + 1) * 3) ++ (l.flatMap Fv.cells).drop (i * 3) ++ cur.toList.drop ((i + 1) * 3 + ((l.flatMap Fv.cells).drop (i * 3)).length)).toArray = X1 at hcp1
  have hX1s : X1.size = cap * 3 := by rw [← hX1]; simp only [List.size_toArray, List.length_append, List.length_take, List.length_drop, Array.length_toList, hcs, hlen]; omega
  have hX1h : (w.drew.setRow g X1).heap[g]? = some (.cells X1 70 (0, 0)) := setRow_heap w.drew g cur X1 70 _ hcur
  have hcp2 : ∀ ty dc, (Builtin.copy_ #[60, 60] ty #[.slice (some ⟨g, i * 3, none⟩) (l.length + 1 - i) dc, .slice (some ⟨vb, 0, none⟩) 1 1]).run Try.prog (w.drew.setRow g X1) = .ok (goInt ((1 : Nat) : Int)) ((w.drew.setRow g X1).setRow g (X1.toList.take (i * 3) ++ f.cells ++ X1.toList.drop (i * 3 + f.cells.length)).toArray) := fun ty dc =>
    run_copy_rowk (w.drew.setRow g X1) 60 60 ty 70 g (i * 3) (l.length + 1 - i) dc ⟨vb, 0, none⟩ 1 1 3 1 X1 70 f.cells Try.underlying60 size64 hX1h (by simp only [Nat.min_def]; split <;> omega) rfl
      (fun j v hj => by
        rw [Addr.add_lit, Nat.zero_add, cell_of_row _ vb j _ _ _ ((setRow_other w.drew g vb X1 hne).trans hv)]
        rw [← hj, ← Array.getElem?_toList]
        rfl) (by simp [Fv.cells]; omega) (by simpa using cells_one (l := [f]) (by simpa using hone))
  generalize hX2 : (X1.toList.take (i * 3) ++ f.cells ++ X1.toList.drop (i * 3 + f.cells.length)).toArray = X2 at hcp2
  have F : Aside ((w.drew.setRow g X1 |>.setRow g X2).ownsRow B 70 3 (.slice (some ⟨g, 0, none⟩) (l.length + 1) cap) (l.length + 1) ((l.take i ++ f :: l.drop i).flatMap Fv.cells)) := by
    have hX2s : X2.size = cap * 3 := by rw [← hX2]; simp only [List.size_toArray, List.length_append, List.length_take, List.length_drop, Array.length_toList, hX1s, Fv.cells, List.length_cons, List.length_nil]; omega
    refine ⟨?_, .inr ⟨g, cap, X2, rfl, hBg, setRow_heap _ g X1 X2 70 _ hX1h, hroom, hcm, hX2s, ?_⟩⟩
    · rw [flat_len, List.length_append, List.length_cons, List.length_take, List.length_drop]; omega
    · rw [← flat_ins, ← hX2, ← hX1]
      have := ins_shift cur.toList (l.flatMap Fv.cells) f.cells (i * 3) 3 (l.length * 3) htk hlen rfl (by omega) (by have := Array.length_toList (xs := cur); omega)
      rw [show i * 3 + 3 = (i + 1) * 3 by omega] at this
      rw [show (l.length + 1) * 3 = l.length * 3 + 3 by omega]
      exact this
  have G : Aside (w.grownBy (w.drew.setRow g X1 |>.setRow g X2) (some g)) := grown_setRow (grown_setRow (⟨rfl, rfl, rfl, Nat.le_refl _, fun _ _ _ => rfl⟩ : w.grownBy w.drew (some g)) X1) X2
  generalize (w.drew.setRow g X1).setRow g X2 = W2 at hcp2 F G
  have hW1 : Hid (X1 = X1) := rfl
  generalize hW : w.drew.setRow g X1 = W1 at hcp1 hcp2
  clear hX1 hX2 hX1s hX1h hcur hcell htk hcs hdl hlen hv h hW hone h1
  generalize l.length = n at *
  have hz2 : ¬ ((i : Int) = (n : Int)) := by omega
  have hin : i ≤ n := by omega
  have hb2 : ¬ (cap = i + 1) := by omega
  have hb3 : (i : Int) ≤ (n : Int) + 1 := by omega
  have hb4 : ¬ (cap = i) := by omega
  have hw1 : IntKind.i64.wrap ((i : Int) + 1) = (i : Int) + 1 := by rw [IntKind.wrap_i64]; omega
  have htn : ((i : Int) + 1).toNat = i + 1 := by omega
  have hb1 : (0 : Int) ≤ (i : Int) + 1 := by omega
  go_enter Try.func40, Try.ntmps40
  go_wp2_with (simp only [hov])
  go_region_law (refine step_copy_runI rfl _ _ 60 60 rfl _ _ (by simp [Act.eval, Act.put]) (by simp [Act.eval, Act.put]) (hcp1 _ _ _) ?_)
  go_wp2_with (at_builtin; refine wpList_copy_runI _ rfl _ _ 60 60 rfl _ _ rfl rfl (hcp2 _ _) ?_)
  go_ret
  exact ⟨_, rfl, F.out, rfl, G.out⟩

def zf : Value := .agg #[.string ⟨#[]⟩, .slice none 0 0, .int .i64 0]
theorem info64 : (Try.prog.info? 70).map (fun i => (i.zero, i.size, i.bytes)) = some (some zf, 3, 48) := by kernel_rfl

theorem alloc_old (w : World) (o : Obj) (k : Nat) (hk : k < w.heap.size) : (w.alloc o).heap[k]? = w.heap[k]? := ((Below.refl w.heap.size w).alloc (Nat.le_refl _) o).block k hk

theorem own_heap {w w' : World} {base : Nat} {e : TypeId} {size : Nat} {v : Value} {n : Nat} {xs : List Value} (h : w.ownsRow base e size v n xs) (hh : w'.heap = w.heap) : w'.ownsRow base e size v n xs := own_frame h fun k _ => by rw [hh]

set_option maxHeartbeats 4000000 in
theorem insert_grow (B g cap i vb : Nat) (l : List Fv) (f : Fv) (w : World) (h : w.ownsRow B 70 3 (.slice (some ⟨g, 0, none⟩) l.length cap) l.length (l.flatMap Fv.cells)) (hi : i < l.length) (hroom : cap < l.length + 1) (hl : l.length ≤ 1000) (hBw : B ≤ w.heap.size)
    (hv : w.heap[vb]? = some (.cells #[.string f.name, f.v, .int .i64 (f.sure : Int)] 70 (0, 0))) (hone : f.v.oneCell' = true) (h1 : ∀ x ∈ l, x.v.oneCell' = true) :
    Calls Try.prog 40 #[.slice (some ⟨g, 0, none⟩) l.length cap, .int .i64 (i : Int), .slice (some ⟨vb, 0, none⟩) 1 1] w fun e w' => ∃ v', e = .returned v' ∧ w'.ownsRow B 70 3 v' (l.length + 1) ((l.take i ++ f :: l.drop i).flatMap Fv.cells) ∧ v'.ownBlock = some w.heap.size ∧ w.grownBy w' none := by
  obtain ⟨cur, hcur, hcs, hnc, hcm, hBg, htk⟩ := own_setRow h
  obtain ⟨i0, hi0, hz0, hzs, hzb⟩ := info_parts info64
  have hlen : (l.flatMap Fv.cells).length = l.length * 3 := flat_len l
  have hcell : ∀ j v, (l.flatMap Fv.cells)[j]? = some v → w.cell? ⟨g, j, none⟩ = some v := fun j v hj => own_cell h rfl hj
  have hglt : g < w.heap.size := (Array.getElem?_eq_some_iff.1 hcur).1
  have hvlt : vb < w.heap.size := (Array.getElem?_eq_some_iff.1 hv).1
  have hold : (Builtin.firstCells i0.size i (.slice (some ⟨g, 0, none⟩) i cap)).run Try.prog w.drew = .ok ((l.flatMap Fv.cells).take (i * 3)).toArray w.drew := by
    rw [hzs]
    exact run_firstCells_some w.drew 3 i ⟨g, 0, none⟩ i cap ((l.flatMap Fv.cells).take (i * 3)) (by rw [List.length_take, hlen]; omega) (fun j v hj => by
      rw [Addr.add_lit, Nat.zero_add]
      rw [List.getElem?_take] at hj
      split at hj
      · exact hcell j v hj
      · cases hj)
  have hik : i + (l.length + 1 - i) = l.length + 1 := by omega
  have hrz : ∀ ty, (Builtin.append_ #[60, 3] ty #[.slice (some ⟨g, 0, none⟩) i cap, .int .i64 ((l.length : Int) + 1 - (i : Int))]).run Try.prog w =
      .ok (.slice (some ⟨w.heap.size, 0, none⟩) (l.length + 1) (grownCap w (l.length + 1) cap 70)) (w.drew.alloc (.cells (((l.flatMap Fv.cells).take (i * 3)).toArray ++ Builtin.zeroCells zf.cells (l.length + 1 - i) ++ Builtin.zeroCells zf.cells (grownCap w (l.length + 1) cap 70 - (l.length + 1))) 70)) := fun ty => by
    have h := Lib.run_append_grow_zeros w 60 3 ty 70 i0 zf .i64 .i64 Try.underlying60 Try.underlying3 hi0 hz0 (some ⟨g, 0, none⟩) i cap ((l.flatMap Fv.cells).take (i * 3)) hold (l.length + 1 - i) (by omega) (by omega) (by omega) (by omega) (by rw [hzb]; omega) (by rw [hzb, hik]; exact growslice_fits hroom (by omega))
    rw [hik] at h
    rw [show (l.length : Int) + 1 - (i : Int) = ((l.length + 1 - i : Nat) : Int) by omega]
    exact h
  have hGn : l.length + 1 ≤ grownCap w (l.length + 1) cap 70 := grownCap_ge w _ _ _
  have hG63 : grownCap w (l.length + 1) cap 70 ≤ maxLen := grownCap_le_maxLen w _ _ _ (by unfold maxLen; omega)
  generalize grownCap w (l.length + 1) cap 70 = G at *
  generalize hZ : Builtin.zeroCells zf.cells (l.length + 1 - i) ++ Builtin.zeroCells zf.cells (G - (l.length + 1)) = Z
  have hZs : Z.size = (G - i) * 3 := by
    rw [← hZ, Array.size_append, size_zeroCells, size_zeroCells]
    show (l.length + 1 - i) * 3 + (G - (l.length + 1)) * 3 = _
    omega
  generalize hROW : ((l.flatMap Fv.cells).take (i * 3)).toArray ++ Builtin.zeroCells zf.cells (l.length + 1 - i) ++ Builtin.zeroCells zf.cells (G - (l.length + 1)) = ROW at hrz
  have hRL : ROW.toList = (l.flatMap Fv.cells).take (i * 3) ++ Z.toList := by
    rw [← hROW, Array.append_assoc, hZ]
    simp
  have hRs : ROW.size = G * 3 := by
    have e := congrArg List.length hRL
    have e2 := Array.length_toList (xs := Z)
    have e3 := Array.length_toList (xs := ROW)
    rw [List.length_append, List.length_take, hlen] at e
    omega
  have hW1 : (w.drew.alloc (.cells ROW 70)).heap[w.heap.size]? = some (.cells ROW 70 (0, 0)) := heap_alloc_new w.drew _
  have hcpA : ∀ W : World, W.heap = (w.drew.alloc (.cells ROW 70)).heap → ∀ ty dc, (Builtin.copy_ #[60, 60] ty #[.slice (some ⟨w.heap.size, i * 3, none⟩) (l.length + 1 - i) dc, .slice (some ⟨vb, 0, none⟩) 1 1]).run Try.prog W = .ok (goInt ((1 : Nat) : Int)) (W.setRow w.heap.size (ROW.toList.take (i * 3) ++ f.cells ++ ROW.toList.drop (i * 3 + f.cells.length)).toArray) := fun W hW ty dc =>
    run_copy_rowk W 60 60 ty 70 w.heap.size (i * 3) (l.length + 1 - i) dc ⟨vb, 0, none⟩ 1 1 3 1 ROW 70 f.cells Try.underlying60 size64 (by rw [hW]; exact hW1) (by simp only [Nat.min_def]; split <;> omega) rfl
      (fun j v hj => by
        rw [Addr.add_lit, Nat.zero_add, cell_of_row W vb j _ _ _ (by rw [hW]; exact (alloc_old w.drew _ vb hvlt).trans hv)]
        rw [← hj, ← Array.getElem?_toList]
        rfl) (by simp [Fv.cells]; omega) (by simpa using cells_one (l := [f]) (by simpa using hone))
  generalize hXA : (ROW.toList.take (i * 3) ++ f.cells ++ ROW.toList.drop (i * 3 + f.cells.length)).toArray = XA at hcpA
  have hXAs : XA.size = G * 3 := by rw [← hXA]; simp only [List.size_toArray, List.length_append, List.length_take, List.length_drop, Array.length_toList, hRs, Fv.cells, List.length_cons, List.length_nil]; omega
  have hXAh : ((w.drew.alloc (.cells ROW 70)).setRow w.heap.size XA).heap[w.heap.size]? = some (.cells XA 70 (0, 0)) := setRow_heap _ _ ROW XA 70 _ hW1
  have hdl : ((l.flatMap Fv.cells).drop (i * 3)).length = (l.length - i) * 3 := by rw [List.length_drop, hlen]; omega
  have hcpB : ∀ W : World, W.heap = ((w.drew.alloc (.cells ROW 70)).setRow w.heap.size XA).heap → ∀ ty dc sc, (Builtin.copy_ #[60, 60] ty #[.slice (some ⟨w.heap.size, (i + 1) * 3, none⟩) (l.length - i) dc, .slice (some ⟨g, i * 3, none⟩) (l.length - i) sc]).run Try.prog W = .ok (goInt ((l.length - i : Nat) : Int)) (W.setRow w.heap.size (XA.toList.take ((i + 1) * 3) ++ (l.flatMap Fv.cells).drop (i * 3) ++ XA.toList.drop ((i + 1) * 3 + ((l.flatMap Fv.cells).drop (i * 3)).length)).toArray) := fun W hW ty dc sc =>
    run_copy_rowk W 60 60 ty 70 w.heap.size ((i + 1) * 3) (l.length - i) dc ⟨g, i * 3, none⟩ (l.length - i) sc 3 (l.length - i) XA 70 ((l.flatMap Fv.cells).drop (i * 3)) Try.underlying60 size64 (by rw [hW]; exact hXAh) (by simp only [Nat.min_def]; split <;> omega) hdl
      (fun j v hj => by
        rw [Addr.add_lit]
        have := hcell (i * 3 + j) v (by rwa [List.getElem?_drop] at hj)
        rw [← this]
        refine World.cell?_of_block ?_
        show W.heap[g]? = w.heap[g]?
        rw [hW]
        exact (setRow_other _ _ g XA (by omega)).trans (alloc_old w.drew _ g hglt)) (by rw [hdl, hXAs]; omega) (fun v hv => cells_one h1 v (List.mem_of_mem_drop hv))
  generalize hXB : (XA.toList.take ((i + 1) * 3) ++ (l.flatMap Fv.cells).drop (i * 3) ++ XA.toList.drop ((i + 1) * 3 + ((l.flatMap Fv.cells).drop (i * 3)).length)).toArray = XB at hcpB
  have F : Aside (((w.drew.alloc (.cells ROW 70)).setRow w.heap.size XA |>.setRow w.heap.size XB).ownsRow B 70 3 (.slice (some ⟨w.heap.size, 0, none⟩) (l.length + 1) G) (l.length + 1) ((l.take i ++ f :: l.drop i).flatMap Fv.cells)) := by
    have hXBs : XB.size = G * 3 := by rw [← hXB]; simp only [List.size_toArray, List.length_append, List.length_take, List.length_drop, Array.length_toList, hXAs, hlen]; omega
    refine ⟨?_, .inr ⟨w.heap.size, G, XB, rfl, hBw, setRow_heap _ _ XA XB 70 _ hXAh, hGn, hG63, hXBs, ?_⟩⟩
    · rw [flat_len, List.length_append, List.length_cons, List.length_take, List.length_drop]; omega
    · rw [← flat_ins, ← hXB, ← hXA, hRL]
      have := ins_grow Z.toList (l.flatMap Fv.cells) f.cells (i * 3) 3 (l.length * 3) hlen rfl (by omega) (by have := Array.length_toList (xs := Z); omega)
      rw [show i * 3 + 3 = (i + 1) * 3 by omega] at this
      rw [show (l.length + 1) * 3 = l.length * 3 + 3 by omega]
      exact this
  have GB : Aside (∀ W : World, W.heap = ((w.drew.alloc (.cells ROW 70)).setRow w.heap.size XA |>.setRow w.heap.size XB).heap → W.os = w.os → W.tape = w.tape → W.output = w.output → w.grownBy W none) := fun W hW a b c =>
    ⟨a, b, c, by rw [hW]; simp, fun k hk _ => by rw [hW]; exact (setRow_other _ _ k XB (by omega)).trans ((setRow_other _ _ k XA (by omega)).trans (alloc_old w.drew _ k hk))⟩
  clear hXB hXA hXAs hXAh hROW hRL hRs hW1 hZ hZs hold hcell htk hcs hcur hdl hlen hv h hone h1
  have hcn : cap = l.length := by omega
  subst hcn
  generalize hn : l.length = n at *
  have hz2 : ¬ ((i : Int) = (n : Int)) := by omega
  have hz3 : (n : Int) < (n : Int) + 1 := by omega
  have hin : i ≤ n := by omega
  have hGi : ¬ (G = i) := by omega
  have hGim : ¬ (G = i + 1) := by omega
  have hci : ¬ (n = i) := by omega
  have hw1 : IntKind.i64.wrap ((i : Int) + 1) = (i : Int) + 1 := by rw [IntKind.wrap_i64]; omega
  have htn : ((i : Int) + 1).toNat = i + 1 := by omega
  have hb1 : (0 : Int) ≤ (i : Int) + 1 := by omega
  have hb3 : (i : Int) ≤ (n : Int) := by omega
  have hG' : G ≤ 9223372036854775807 := by unfold maxLen at hG63; omega
  have hA := hcpA (w.alloc (.cells ROW 70)).drew rfl
  have hB := hcpB (((w.alloc (.cells ROW 70)).drew.setRow w.heap.size XA).drew) rfl
  clear hcpA hcpB
  go_enter Try.func40, Try.ntmps40
  go_wp2_with (at_builtin; refine Lib.wpList_append_run _ rfl _ _ _ _ rfl _ _ rfl rfl _ _ (hrz _) ?_)
  go_region
  go_wp2
  go_ret
  exact ⟨_, rfl, own_heap F.out rfl, rfl, GB.out _ rfl rfl rfl rfl⟩

set_option maxHeartbeats 4000000 in
theorem insert_end (B vb : Nat) (v : Value) (l : List Fv) (f : Fv) (w : World) (h : w.ownsRow B 70 3 v l.length (l.flatMap Fv.cells)) (hl : l.length ≤ 1000) (hBw : B ≤ w.heap.size)
    (hv : w.heap[vb]? = some (.cells #[.string f.name, f.v, .int .i64 (f.sure : Int)] 70 (0, 0))) (hone : f.v.oneCell' = true) :
    Calls Try.prog 40 #[v, .int .i64 (l.length : Int), .slice (some ⟨vb, 0, none⟩) 1 1] w fun e w' => ∃ v', e = .returned v' ∧ w'.ownsRow B 70 3 v' (l.length + 1) (l.flatMap Fv.cells ++ f.cells) ∧ (v'.ownBlock = v.ownBlock ∨ v'.ownBlock = some w.heap.size) ∧ w.grownBy w' v.ownBlock := by
  obtain ⟨i0, hi0, hz0, hzs, hzb⟩ := info_parts info64
  obtain ⟨a, cap, ev⟩ := own_any h
  have hcap : l.length ≤ cap ∧ cap ≤ 9223372036854775807 ∧ (a = none → cap = 0) := by
    rcases h.2 with ⟨e, e'⟩ | ⟨g', cap', cur, e, _, _, h3, h4, _⟩
    · rw [ev] at e
      injection e with e1 e2 e3
      omega
    · rw [ev] at e
      injection e with e1 e2 e3
      subst e3
      refine ⟨h3, by unfold maxLen at h4; omega, fun e => ?_⟩
      rw [e] at e1
      cases e1
  obtain ⟨hc1, hc2, hc3⟩ := hcap
  have hc4 : ∀ ad, a = some ad → ∃ g, ad = ⟨g, 0, none⟩ := by
    intro ad ha
    rcases h.2 with ⟨e, e'⟩ | ⟨g', cap', cur, e, _⟩
    · rw [ev] at e
      injection e with e1 e2 e3
      rw [ha] at e1
      cases e1
    · rw [ev] at e
      injection e with e1 e2 e3
      rw [ha] at e1
      injection e1 with e1
      exact ⟨g', e1⟩
  have hap : ∀ ty, ∃ v' w', (Builtin.append_ #[60, 60] ty #[v, .slice (some ⟨vb, 0, none⟩) 1 1]).run Try.prog w = .ok v' w' ∧ w'.ownsRow B 70 3 v' (l.length + 1) (l.flatMap Fv.cells ++ f.cells) ∧ w.grownBy w' v.ownBlock ∧ (v' = .slice none 0 0 ↔ v = .slice none 0 0 ∧ 1 = 0) ∧ (v'.ownBlock = v.ownBlock ∨ v'.ownBlock = some w.heap.size) := fun ty =>
    run_append_own_at w B 60 ty 70 i0 zf 3 48 Try.underlying60 hi0 hz0 hzs hzb rfl (by omega) v l.length (l.flatMap Fv.cells) h ⟨vb, 0, none⟩ 1 1 f.cells rfl (fun j u hj => by
      rw [Addr.add_lit, Nat.zero_add, cell_of_row w vb j _ _ _ hv, ← hj, ← Array.getElem?_toList]
      rfl) (by simpa using cells_one (l := [f]) (by simpa using hone)) (by unfold maxLen; omega) (by omega) hBw
  have HAP : Aside _ := hap
  clear hap h hv hi0 hz0 hzs hzb
  subst ev
  generalize l.length = n at *
  obtain ⟨v', w', hrun, r1, r2, r3, r4⟩ := HAP.out 60
  have R : Aside _ := And.intro r1 (And.intro r2 r4)
  clear r1 r2 r3 r4 HAP
  cases a with
  | none =>
    obtain rfl := hc3 rfl
    obtain rfl : n = 0 := by omega
    go_enter Try.func40, Try.ntmps40
    go_wp2_with (at_builtin; refine Lib.wpList_append_run _ rfl _ _ _ _ rfl _ _ rfl rfl _ _ hrun ?_)
    go_ret
    exact ⟨_, rfl, R.out.1, R.out.2.2, R.out.2.1⟩
  | some ad =>
    obtain ⟨g, rfl⟩ := hc4 ad rfl
    by_cases hce : cap = n
    · subst hce
      go_enter Try.func40, Try.ntmps40
      go_wp2_with (at_builtin; refine Lib.wpList_append_run _ rfl _ _ _ _ rfl _ _ rfl rfl _ _ hrun ?_)
      go_ret
      exact ⟨_, rfl, R.out.1, R.out.2.2, R.out.2.1⟩
    · go_enter Try.func40, Try.ntmps40
      go_wp2_with (at_builtin; refine Lib.wpList_append_run _ rfl _ _ _ _ rfl _ _ rfl rfl _ _ hrun ?_)
      go_ret
      exact ⟨_, rfl, R.out.1, R.out.2.2, R.out.2.1⟩

theorem insert_any (B vb i : Nat) (v : Value) (l : List Fv) (f : Fv) (w : World) (h : w.ownsRow B 70 3 v l.length (l.flatMap Fv.cells)) (hi : i ≤ l.length) (hl : l.length ≤ 1000) (hBw : B ≤ w.heap.size)
    (hv : w.heap[vb]? = some (.cells #[.string f.name, f.v, .int .i64 (f.sure : Int)] 70 (0, 0))) (hne : v.ownBlock ≠ some vb) (hone : f.v.oneCell' = true) (h1 : ∀ x ∈ l, x.v.oneCell' = true) :
    Calls Try.prog 40 #[v, .int .i64 (i : Int), .slice (some ⟨vb, 0, none⟩) 1 1] w fun e w' => ∃ v', e = .returned v' ∧ w'.ownsRow B 70 3 v' (l.length + 1) ((l.take i ++ f :: l.drop i).flatMap Fv.cells) ∧ (v'.ownBlock = v.ownBlock ∨ v'.ownBlock = some w.heap.size) ∧ w.grownBy w' v.ownBlock := by
  by_cases hlt : i < l.length
  · obtain ⟨g, cap, rfl, h2, h3, _⟩ := own_form h (by omega)
    by_cases hr : l.length + 1 ≤ cap
    · refine (insert_shift B g cap i vb l f w h hlt hr hv (fun e => hne (by rw [e]; rfl)) hone h1).mono ?_
      rintro e w' ⟨v', rfl, a, b, c⟩
      exact ⟨v', rfl, a, .inl b, c⟩
    · refine (insert_grow B g cap i vb l f w h hlt (by omega) hl hBw hv hone h1).mono ?_
      rintro e w' ⟨v', rfl, a, b, c⟩
      exact ⟨v', rfl, a, .inr b, ⟨c.os, c.tape, c.output, c.size, fun k hk _ => c.block k hk (by simp)⟩⟩
  · obtain rfl : i = l.length := by omega
    refine (insert_end B vb v l f w h hl hBw hv hone).mono ?_
    rintro e w' ⟨v', rfl, a, b, c⟩
    refine ⟨v', rfl, ?_, b, c⟩
    rw [List.take_of_length_le (Nat.le_refl _), List.drop_of_length_le (Nat.le_refl _), List.flatMap_append, List.flatMap_cons, List.flatMap_nil, List.append_nil]
    exact a
end Go.Proofs.Ytnmamaeoghgegaa.Dk

/-
  slices.Delete at files; a file is dropped; Remove.
-/
namespace Go.Proofs.Ytnmamaeoghgegaa.Dk
open Go.RowKit
set_option maxRecDepth 100000

theorem forget_any2 {w : World} {B b : Nat} {d : Ds} (h : Rep w B b d) (hl : d.pieces.length ≤ 100000) (n : ByteArray) :
    Calls Try.prog 94 #[.pointer (some ⟨b, 0, none⟩), .string n] w fun e w' => e = .returned (.tuple #[]) ∧ ∃ v', v'.ownBlock = d.vp.ownBlock ∧ Rep w' B b { d with pieces := keepOf n d.pieces, vp := v' } ∧ Step (d.foot b) (d.foot b) w w' ∧ ∀ k, k < w.heap.size → k ≠ b → d.vp.ownBlock ≠ some k → w'.heap[k]? = w.heap[k]? := by
  have hw : w.heap.size < (w.alloc (.cells #[.string n] 9)).heap.size := by simp
  have hb0 : Below w.heap.size w (w.alloc (.cells #[.string n] 9)) := (Below.refl _ _).alloc (Nat.le_refl _) _
  have h1 := h.below hb0
  have hne : d.vp.ownBlock ≠ some w.heap.size := fun e => by have := (h.pcs.lt _ e).2; omega
  have hx : (w.alloc (.cells #[.string n] 9)).cell? ⟨w.heap.size, 0, none⟩ = some (.string n) := by simp
  have c1 := h1.c1
  have kd := deleteFunc_any B w.heap.size d.vp d.pieces n _ h1.pcs hl hx hne
  have H1 : Aside (Rep (w.alloc (.cells #[.string n] 9)) B b d ∧ Step (d.foot b) (d.foot b) w (w.alloc (.cells #[.string n] 9))) := ⟨h1, Step.ofBelow hb0⟩
  clear h h1 hb0 hx hne
  go_enter Try.func94, Try.ntmps94
  go_wp2_with (go_at_call 103; refine kd.mono ?_; rintro e w1 ⟨v', rfl, ho, hv, hg⟩; have hc1 := (H1.out.1.repieces_cell hg); have hf1 := H1.out.1.repieces_fz hg; obtain ⟨a', cap', rfl⟩ := own_any ho)
  go_end0
  have := H1.out.1.repieces ho hv hg
  refine ⟨rfl, _, hv, this.1, H1.out.2.trans this.2, fun k hk hb hp => ?_⟩
  exact (Below.heap_setCell w1 ⟨b, 1, none⟩ _ k hb).trans ((hg.block k (by omega) (fun e => hp e.symm)).trans (alloc_old w _ k hk))

theorem del_math (X C : List Value) (p q N : Nat) (hC : X.take N = C) (hN : C.length = N) (hp : p + q ≤ N) :
    ((X.take p ++ C.drop (p + q) ++ X.drop (p + (C.drop (p + q)).length)).take N).take (N - q) = C.take p ++ C.drop (p + q) := by
  have hX : N ≤ X.length := by rw [← hN, ← hC, List.length_take]; omega
  have e1 : X.take p = C.take p := by rw [← hC, List.take_take, Nat.min_eq_left (by omega)]
  rw [List.take_take, Nat.min_eq_left (by omega), e1]
  refine List.take_left' ?_
  rw [List.length_append, List.length_take, List.length_drop, hN]
  omega

theorem flat_erase (l : List Fv) (i : Nat) : (l.flatMap Fv.cells).take (i * 3) ++ (l.flatMap Fv.cells).drop (i * 3 + 3) = (l.eraseIdx i).flatMap Fv.cells := by
  rw [show i * 3 + 3 = (i + 1) * 3 by omega, flat_take, flat_drop, List.eraseIdx_eq_take_drop_succ, List.flatMap_append]

theorem step_append_run {P : Program} {ops : Array Oper} {o : Oper} {a : Act} {w : World} {K : Act → World → Prop} {Q : Exit → Act → World → Prop} {E : Prop}
    (hg : o.guard = none) (d x : Operand) (dT sT : TypeId) (hop : o.op = Op.call { callee := Callee.builtin Builtin.append, args := #[d, x], argTypes := #[dT, sT] })
    (v u : Value) (hd : a.eval d = v) (hx : a.eval x = u) {v' : Value} {w' : World} (hr : (Builtin.append_ #[dT, sT] o.type #[v, u]).run P w = .ok v' w') (hK : K (a.put o.dst v') w') :
    if Region.wanted o (yielded ops a.tmps) = true then Oper.wp P o a w K Q else E := by
  have hw : Region.wanted o (yielded ops a.tmps) = true := by simp [Region.wanted, hg]
  rw [if_pos hw]
  unfold Oper.wp
  simp [execOp, hop, resolve, invoke, builtin, hd, hx, hr, Result.andThen]
  exact hK

set_option maxHeartbeats 4000000 in
theorem delete_any (B g cap i : Nat) (l : List Fv) (w : World) (h : w.ownsRow B 70 3 (.slice (some ⟨g, 0, none⟩) l.length cap) l.length (l.flatMap Fv.cells)) (hi : i < l.length) (hl : l.length ≤ 1000) (h1 : ∀ x ∈ l, x.v.oneCell' = true) :
    Calls Try.prog 95 #[.slice (some ⟨g, 0, none⟩) l.length cap, .int .i64 (i : Int), .int .i64 ((i : Int) + 1)] w fun e w' => ∃ v', e = .returned v' ∧ w'.ownsRow B 70 3 v' (l.eraseIdx i).length ((l.eraseIdx i).flatMap Fv.cells) ∧ v'.ownBlock = some g ∧ w.grownBy w' (some g) := by
  obtain ⟨cur, hcur, hcs, hnc, hcm, hBg, htk⟩ := own_setRow h
  obtain ⟨i0, hi0, hz0, hzs, hzb⟩ := info_parts info64
  have hlen : (l.flatMap Fv.cells).length = l.length * 3 := flat_len l
  have hcell : ∀ j v, (l.flatMap Fv.cells)[j]? = some v → w.cell? ⟨g, j, none⟩ = some v := fun j v hj => own_cell h rfl hj
  have hc63 : cap ≤ 9223372036854775807 := by unfold maxLen at hcm; omega
  have hdl : ((l.flatMap Fv.cells).drop ((i + 1) * 3)).length = (l.length - (i + 1)) * 3 := by rw [List.length_drop, hlen]; omega
  have hap : ∀ A : Addr, (cap ≠ i + 1 → A = ⟨g, (i + 1) * 3, none⟩) → ∀ ty c, (Builtin.append_ #[60, 60] ty #[.slice (some ⟨g, 0, none⟩) i cap, .slice (some A) (l.length - (i + 1)) c]).run Try.prog w.drew = .ok (.slice (some ⟨g, 0, none⟩) (i + (l.length - (i + 1))) cap) (w.drew.setRow g (cur.toList.take (i * 3) ++ (l.flatMap Fv.cells).drop ((i + 1) * 3) ++ cur.toList.drop (i * 3 + ((l.flatMap Fv.cells).drop ((i + 1) * 3)).length)).toArray) := fun A hA ty c => by
    have := run_append_room (P := Try.prog) w.drew 60 ty 70 i0 Try.underlying60 hi0 g i cap cur hcur A (l.length - (i + 1)) c ((l.flatMap Fv.cells).drop ((i + 1) * 3)) (by rw [hzs]; exact hdl) (fun j u hj => by
      by_cases he : cap = i + 1
      · have := (List.getElem?_eq_some_iff.1 hj).1
        omega
      · rw [hA he, Addr.add_lit]
        exact hcell ((i + 1) * 3 + j) u (by rwa [List.getElem?_drop] at hj)) (fun v hv => cells_one h1 v (List.mem_of_mem_drop hv)) (by omega) (by rw [hzs]; omega)
    rw [hzs] at this
    exact this
  generalize hX1 : (cur.toList.take (i * 3) ++ (l.flatMap Fv.cells).drop ((i + 1) * 3) ++ cur.toList.drop (i * 3 + ((l.flatMap Fv.cells).drop ((i + 1) * 3)).length)).toArray = X1 at hap
  have hX1s : X1.size = cap * 3 := by rw [← hX1]; simp only [List.size_toArray, List.length_append, List.length_take, List.length_drop, Array.length_toList, hcs, hlen]; omega
  have hX1h : (w.drew.setRow g X1).heap[g]? = some (.cells X1 70 (0, 0)) := setRow_heap w.drew g cur X1 70 _ hcur
  have hO1 : (w.drew.setRow g X1).ownsRow B 70 3 (.slice (some ⟨g, 0, none⟩) l.length cap) l.length (X1.toList.take (l.length * 3)) :=
    ⟨by have := Array.length_toList (xs := X1); rw [List.length_take]; omega, .inr ⟨g, cap, X1, rfl, hBg, hX1h, hnc, hcm, hX1s, rfl⟩⟩
  have hz : (Builtin.zeroCells #[.string ⟨#[]⟩, .slice none 0 0, .int .i64 0] 1).toList.length = 3 := by rw [Array.length_toList, size_zeroCells]; rfl
  have hcl : ∀ ty c, (Builtin.clear_ #[60] ty #[.slice (some ⟨g, (l.length - 1) * 3, none⟩) 1 c]).run Try.prog (w.drew.setRow g X1) = .ok (.tuple #[]) _ := fun ty c =>
    run_clear_row (w.drew.setRow g X1) 60 70 ty #[.string ⟨#[]⟩, .slice none 0 0, .int .i64 0] Try.underlying60 zero64 (by simp [Value.oneCell']) (by simp) g (l.length - 1) 1 c X1 hX1h (by omega) (by simp; omega)
  have C := own_cleared hO1 hX1h (Builtin.zeroCells #[.string ⟨#[]⟩, .slice none 0 0, .int .i64 0] 1).toList (i := l.length - 1) (by omega) (by rw [hz]; omega)
  generalize hW : (w.drew.setRow g X1).setRow g _ = W at hcl C
  have G : Aside (w.grownBy W (some g)) := by
    rw [← hW]
    exact grown_setRow (grown_setRow (⟨rfl, rfl, rfl, Nat.le_refl _, fun _ _ _ => rfl⟩ : w.grownBy w.drew (some g)) X1) _
  have F : Aside (W.ownsRow B 70 3 (.slice (some ⟨g, 0, none⟩) (l.length - 1) cap) (l.eraseIdx i).length ((l.eraseIdx i).flatMap Fv.cells)) := by
    have e := del_math cur.toList (l.flatMap Fv.cells) (i * 3) 3 (l.length * 3) htk hlen (by omega)
    rw [flat_erase, show i * 3 + 3 = (i + 1) * 3 by omega, show l.length * 3 - 3 = (l.length - 1) * 3 by omega] at e
    have e2 : X1.toList = cur.toList.take (i * 3) ++ (l.flatMap Fv.cells).drop ((i + 1) * 3) ++ cur.toList.drop (i * 3 + ((l.flatMap Fv.cells).drop ((i + 1) * 3)).length) := by rw [← hX1]
    rw [e2, e] at C
    rw [List.length_eraseIdx_of_lt hi]
    exact C
  generalize hW1 : w.drew.setRow g X1 = W1 at hcl hap
  clear hW hW1 C hO1 hX1 hX1s hX1h hcur hcell htk hcs hdl hlen h h1 hz hz0 hzs hzb hi0
  generalize (l.eraseIdx i).flatMap Fv.cells = XS at *
  generalize (l.eraseIdx i).length = m at *
  generalize l.length = n at *
  have hik : i + (n - (i + 1)) = n - 1 := by omega
  rw [hik] at hap
  have hin : (i : Int) ≤ (n : Int) := by omega
  have hw1 : IntKind.i64.wrap ((i : Int) + 1) = (i : Int) + 1 := by rw [IntKind.wrap_i64]; omega
  have htn : ((i : Int) + 1).toNat = i + 1 := by omega
  have hb1 : (0 : Int) ≤ (i : Int) + 1 := by omega
  have hb2 : (i : Int) + 1 ≤ (n : Int) := by omega
  have hb5 : (i : Int) ≤ (i : Int) + 1 := by omega
  have hz2 : ((i : Int) == (i : Int) + 1) = false := by simp; omega
  have hz3 : ¬ ((i : Int) = (i : Int) + 1) := by omega
  have hic : i ≤ cap := by omega
  have hm1 : n - 1 ≤ cap := by omega
  have hm2 : n - (n - 1) = 1 := by omega
  have hm3 : ¬ cap = n - 1 := by omega
  have hm4 : n - 1 ≤ n := by omega
  have hm5 : (i + 1) ≤ n := by omega
  by_cases hce : cap = i + 1
  · obtain rfl : n = i + 1 := by omega
    subst hce
    have hap' := hap ⟨g, 0, none⟩ (fun h => absurd rfl h)
    clear hap hm1 hm2 hm3 hm4 hm5 hik hin hic hb2 hi hnc hc63 hcm
    simp only [Nat.add_sub_cancel, Nat.sub_self] at hap' hcl F
    go_enter Try.func95, Try.ntmps95
    go_wp2
    go_region_law (refine step_append_run rfl _ _ 60 60 rfl (.slice (some ⟨g, 0, none⟩) i (i + 1)) (.slice (some ⟨g, 0, none⟩) 0 0) (by simp [Act.eval, Act.put]) (by simp [Act.eval, Act.put]) (hap' 60 0) ?_)
    all_goals
      go_wp2
      go_ret
      exact ⟨_, rfl, F.out, rfl, G.out⟩
  · have hap' := hap ⟨g, (i + 1) * 3, none⟩ (fun _ => rfl)
    clear hap
    go_enter Try.func95, Try.ntmps95
    go_wp2
    go_region_law (refine step_append_run rfl _ _ 60 60 rfl (.slice (some ⟨g, 0, none⟩) i cap) (.slice (some ⟨g, (i + 1) * 3, none⟩) (n - (i + 1)) (cap - (i + 1))) (by simp [Act.eval, Act.put]) (by simp [Act.eval, Act.put]) (hap' 60 (cap - (i + 1))) ?_)
    all_goals
      go_wp2
      go_ret
      exact ⟨_, rfl, F.out, rfl, G.out⟩
end Go.Proofs.Ytnmamaeoghgegaa.Dk

/-
  A file is dropped; Remove.
-/
namespace Go.Proofs.Ytnmamaeoghgegaa.Dk
open Go.RowKit
set_option maxRecDepth 100000

theorem Rep.one {w : World} {B b : Nat} {d : Ds} (h : Rep w B b d) : ∀ x ∈ d.files, x.v.oneCell' = true := fun x hx => own_one (h.rows x hx)

theorem sub_flatMap {α β : Type} (g : α → List β) : ∀ {l m : List α}, l.Sublist m → (l.flatMap g).Sublist (m.flatMap g)
  | _, _, .slnil => .slnil
  | _, _, .cons a h => by rw [List.flatMap_cons]; exact (sub_flatMap g h).trans (List.sublist_append_right _ _)
  | _, _, .cons_cons a h => by rw [List.flatMap_cons, List.flatMap_cons]; exact (sub_flatMap g h).append_left _

theorem foot_sub {b : Nat} {d : Ds} {L : List Fv} {v' v'' : Value} {P : List Pc} (hL : L.Sublist d.files) (hv : v'.ownBlock = d.vf.ownBlock) (hp : v''.ownBlock = d.vp.ownBlock) : (Ds.foot b { d with files := L, pieces := P, vf := v', vp := v'' }).Sublist (d.foot b) := by
  unfold Ds.foot ob
  simp only
  rw [hv, hp]
  exact (((sub_flatMap _ hL).append_left _).append_left _).cons_cons _

/-- The table is another one, of files that were there. -/
theorem Rep.refiles {w w1 : World} {B b : Nat} {d : Ds} {v' : Value} {L : List Fv} (h : Rep w B b d) (hL : L.Sublist d.files) (ho : w1.ownsRow B 70 3 v' L.length (L.flatMap Fv.cells)) (hv : v'.ownBlock = d.vf.ownBlock) (hg : w.grownBy w1 d.vf.ownBlock) :
    Rep (w1.setCell ⟨b, 0, none⟩ v') B b { d with files := L, vf := v' } ∧ (∀ k, k < w.heap.size → k ≠ b → d.vf.ownBlock ≠ some k → (w1.setCell ⟨b, 0, none⟩ v').heap[k]? = w.heap[k]?) := by
  have hblk : w1.heap[b]? = some (.cells d.cells 63 (0, 0)) := (hg.block b h.b_lt (fun e => h.b_vf e.symm rfl)).trans h.blk
  have keep : ∀ k, k < w.heap.size → k ≠ b → d.vf.ownBlock ≠ some k → (w1.setCell ⟨b, 0, none⟩ v').heap[k]? = w.heap[k]? := fun k hk hb hp =>
    (Below.heap_setCell w1 ⟨b, 0, none⟩ v' k hb).trans (hg.block k hk (fun e => hp e.symm))
  refine ⟨⟨h.ge, set_same hblk rfl, own_frame ho fun k hk => Below.heap_setCell w1 ⟨b, 0, none⟩ v' k (h.b_vf (hv ▸ hk)), own_frame h.pcs fun k hk => keep k (h.pcs.lt k hk).2 (h.b_vp hk) (fun e => h.vf_vp e hk), fun f hf => own_frame (h.rows f (hL.subset hf)) fun k hk => keep k ((h.rows f (hL.subset hf)).lt k hk).2 (h.b_f (hL.subset hf) hk) (fun e => h.vf_f (hL.subset hf) e hk), ?_⟩, keep⟩
  exact h.nodup.sublist (foot_sub (P := d.pieces) hL hv rfl)

theorem Rep.refiles_cell {w w1 : World} {B b : Nat} {d : Ds} (h : Rep w B b d) (hg : w.grownBy w1 d.vf.ownBlock) : w1.cell? ⟨b, 0, none⟩ = some d.vf ∧ w1.frozen? ⟨b, 0, none⟩ = false := by
  have hblk : w1.heap[b]? = some (.cells d.cells 63 (0, 0)) := (hg.block b h.b_lt (fun e => h.b_vf e.symm rfl)).trans h.blk
  exact ⟨by rw [cell_of_row w1 b 0 _ _ _ hblk]; rfl, frozen_of_row w1 b 0 _ _ hblk⟩

set_option maxHeartbeats 800000 in
theorem drop_any {w : World} {B b i : Nat} {d : Ds} {f : Fv} (h : Rep w B b d) (hl : d.pieces.length ≤ 100000) (hll : d.files.length ≤ 1000) (hf : d.files[i]? = some f) :
    Calls Try.prog 71 #[.pointer (some ⟨b, 0, none⟩), .int .i64 (i : Int)] w fun e w' => e = .returned (.tuple #[]) ∧ ∃ v' v'', v'.ownBlock = d.vf.ownBlock ∧ v''.ownBlock = d.vp.ownBlock ∧
      Rep w' B b { d with files := d.files.eraseIdx i, pieces := keepOf f.name d.pieces, vf := v', vp := v'' } ∧ Step (d.foot b) (Ds.foot b { d with files := d.files.eraseIdx i, pieces := keepOf f.name d.pieces, vf := v', vp := v'' }) w w' ∧ (∀ k, k < w.heap.size → k ≠ b → d.vf.ownBlock ≠ some k → d.vp.ownBlock ≠ some k → w'.heap[k]? = w.heap[k]?) := by
  have hi : i < d.files.length := (List.getElem?_eq_some_iff.1 hf).1
  obtain ⟨g, cap, ev, hcap, hcm, hg⟩ := h.vf_form hf
  obtain ⟨e0, e1, e2⟩ := h.fcells hf hg
  have c0 := h.c0
  have hci : i < cap := by omega
  have kf := forget_any2 h hl f.name
  have kd : Aside (∀ (v'' : Value) (u : World), Rep u B b { d with pieces := keepOf f.name d.pieces, vp := v'' } → _) := fun (v'' : Value) (u : World) hu => by
    have ht := hu.tab
    simp only at ht
    rw [ev] at ht
    exact delete_any B g cap i d.files u ht hi hll hu.one
  have HC : Aside (∀ (v'' : Value) (u : World), Rep u B b { d with pieces := keepOf f.name d.pieces, vp := v'' } → u.cell? ⟨b, 0, none⟩ = some (.slice (some ⟨g, 0, none⟩) d.files.length cap)) := fun v'' u hu => by rw [← ev]; exact hu.c0
  have HF : Aside (∀ (v'' : Value) (u u1 : World), Rep u B b { d with pieces := keepOf f.name d.pieces, vp := v'' } → u.grownBy u1 (some g) → u1.cell? ⟨b, 0, none⟩ = some (.slice (some ⟨g, 0, none⟩) d.files.length cap) ∧ u1.frozen? ⟨b, 0, none⟩ = false) := fun v'' u u1 hu hgr => by
    have := hu.refiles_cell (w1 := u1) (by simp only; rw [hg]; exact hgr)
    rw [← ev]
    exact this
  have EV : Aside (d.vf = .slice (some ⟨g, 0, none⟩) d.files.length cap ∧ d.vf.ownBlock = some g) := ⟨ev, hg⟩
  rw [ev] at c0
  clear h hf ev hg
  have hw1 : IntKind.i64.wrap ((i : Int) + 1) = (i : Int) + 1 := by rw [IntKind.wrap_i64]; omega
  go_enter Try.func71, Try.ntmps71
  go_wp2_with (first
    | (go_at_call 94; refine kf.mono ?_; rintro e w1 ⟨rfl, v'', hv'', hr1, s1, k1⟩; have x0 := HC.out _ _ hr1)
    | (go_at_call 95; refine (kd.out _ _ hr1).mono ?_; rintro e w2 ⟨v', rfl, ho, hv', hgr⟩; obtain ⟨x1, x2⟩ := HF.out _ _ _ hr1 hgr; obtain ⟨a', cap', rfl⟩ := own_any ho))
  go_end0
  obtain ⟨ev, hg⟩ := EV.out
  have := hr1.refiles (L := d.files.eraseIdx i) (List.eraseIdx_sublist _ _) ho (by rw [hv']; exact hg.symm) (by show w1.grownBy w2 d.vf.ownBlock; rw [hg]; exact hgr)
  refine ⟨rfl, _, v'', hv'.trans hg.symm, hv'', this.1, ?_, ?_⟩
  · refine ⟨hgr.os.trans s1.os, hgr.tape.trans s1.tape, hgr.output.trans s1.output, ?_, ?_, ?_⟩
    · have := hgr.size
      have := s1.size
      simp
      omega
    · intro k hk hn
      have hk1 : k < w1.heap.size := by have := s1.size; omega
      exact (this.2 k hk1 (fun e => hn (e ▸ foot_b)) (fun e => hn (foot_vf e))).trans (s1.block k hk hn)
    · intro k hk
      exact .inl ((foot_sub (d := d) (List.eraseIdx_sublist _ _) (hv'.trans hg.symm) hv'').subset hk)
  · intro k hk hb hvf hvp
    have hk1 : k < w1.heap.size := by have := s1.size; omega
    exact (this.2 k hk1 hb hvf).trans (k1 k hk hb hvp)

theorem pl_drop {d : Ds} {i : Nat} {f : Fv} {v' v'' : Value} (hf : d.files[i]? = some f) : Ds.pl { d with files := d.files.eraseIdx i, pieces := keepOf f.name d.pieces, vf := v', vp := v'' } = d.pl.drop i := by
  unfold St.drop
  rw [pl_get hf]
  simp only [Ds.pl, List.eraseIdx_eq_take_drop_succ, List.map_append, List.map_take, List.map_drop]
  rfl

theorem Ok.dpieces {d : Ds} (h : Ok d.pl) : d.pieces.length ≤ 100000 := Nat.le_trans h.pieces (by omega)

set_option maxHeartbeats 800000 in
theorem remove_any {w : World} {B b : Nat} {d : Ds} (h : Rep w B b d) (ok : Ok d.pl) (n : ByteArray) :
    Calls Try.prog 47 #[.pointer (some ⟨b, 0, none⟩), .string n] w fun e w' => e = .returned (.int .i64 (opRemove d.pl n).1) ∧ ∃ d', Rep w' B b d' ∧ d'.pl = (opRemove d.pl n).2 ∧ Step (d.foot b) (d'.foot b) w w' := by
  have ko := open_any h ok.fuse ok.rise (by have := ok.dfew; omega) n
  unfold opRemove
  rw [power_pl, names_pl]
  cases hp : d.power with
  | false =>
    rw [hp] at ko
    simp only [Bool.false_and, Bool.false_eq_true, if_false] at ko ⊢
    clear h
    go_enter Try.func47, Try.ntmps47
    go_wp2_with (go_at_call 69; refine ko.mono ?_; rintro e w1 ⟨rfl, h1, s1⟩)
    go_ret
    exact ⟨rfl, d.spent, h1, rfl, s1⟩
  | true =>
    cases hh : has d.names n with
    | false =>
      rw [hp, hh] at ko
      simp only [Bool.and_false, Bool.false_eq_true, if_false, if_true] at ko ⊢
      clear h
      go_enter Try.func47, Try.ntmps47
      go_wp2_with (go_at_call 69; refine ko.mono ?_; rintro e w1 ⟨rfl, h1, s1⟩)
      go_ret
      exact ⟨rfl, d.spent, h1, rfl, s1⟩
    | true =>
      rw [hp, hh] at ko
      simp only [Bool.and_true, if_true] at ko ⊢
      obtain ⟨f, hf, hfn, hfm⟩ := dhas_get ok.rise hh
      generalize hi : place d.names n = i at *
      have hfew := ok.dfew
      have hpc := ok.dpieces
      have ks : Aside (∀ u : World, Rep u B b d.spent → _) := fun (u : World) hu => drop_any (d := d.spent) hu hpc (by show d.files.length ≤ _; omega) hf
      have HF : Aside (d.files[i]? = some f) := hf
      clear h hfn hfm hf hi
      go_enter Try.func47, Try.ntmps47
      go_wp2_with (first
        | (go_at_call 69; refine ko.mono ?_; rintro e w1 ⟨rfl, h1, s1⟩)
        | (go_at_call 71; refine (ks.out _ h1).mono ?_; rintro e w2 ⟨rfl, v', v'', hv, hv2, h2, s2, _⟩))
      go_ret
      exact ⟨rfl, _, h2, pl_drop (d := d.spent) HF.out, s1.trans s2⟩
end Go.Proofs.Ytnmamaeoghgegaa.Dk
