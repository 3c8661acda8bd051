/-
  YtpeioecpilmpiaaGreatDoor: the texts J7, one behind the other.
-/
import Derived.Test.YtpeioecpilmpiaaGreatDoorMF9
import Derived.Test.YtpeioecpilmpiaaGreatDoorMF8
import Derived.Test.YtpeioecpilmpiaaGreatDoorMF10
import Derived.Shelf.Spec.SlicesInsertGrow
import Derived.Deep.RegionLawGrows
import Derived.WalkKit
import Derived.WalkSpells
import Derived.WalkLawsBesides
import Derived.Deep.LoopGhost
import Derived.Laws.Externs
import Derived.Below
import Derived.BigQuiet
import Derived.Deep.RegionWith
import Derived.OwnWalk
import Derived.Maps.AppendAt
/-
  Tables of members; slices.Insert of one member.
-/
namespace Go.Proofs.YtpeioecpilmpiaaGreatDoor
open Go.RowKit
/-- A member of an object as it lies in a table. -/
structure Mb where
  name : Js.B
  v : Value
instance : Inhabited Mb := ⟨⟨[], .nilIface⟩⟩
def Mb.cells (f : Mb) : List Value := [.string ⟨f.name.toArray⟩, f.v]
abbrev bs (l : Js.B) : ByteArray := ⟨l.toArray⟩
theorem bs_list (l : Js.B) : (bs l).data.toList = l := by simp
theorem own_frame {w w' : World} {base : Nat} {e : TypeId} {size : Nat} {v : Value} {n : Nat} {xs : List Value} (h : w.ownsRow base e size v n xs) (hb : ∀ k, v.ownBlock = some k → w'.heap[k]? = w.heap[k]?) : w'.ownsRow base e size v n xs := by
  obtain ⟨h1, h2⟩ := h
  refine ⟨h1, ?_⟩
  rcases h2 with h2 | ⟨g, cap, cur, hv, hg, hh, r⟩
  · exact .inl h2
  · exact .inr ⟨g, cap, cur, hv, hg, (hb g (by rw [hv]; rfl)).trans hh, r⟩
theorem own_form {w : World} {base : Nat} {e : TypeId} {size : Nat} {v : Value} {n : Nat} {xs : List Value} (h : w.ownsRow base e size v n xs) (hn : 0 < n) : ∃ g cap, v = .slice (some ⟨g, 0, none⟩) n cap ∧ n ≤ cap ∧ cap ≤ maxLen ∧ v.ownBlock = some g := by
  rcases h.2 with ⟨_, h0⟩ | ⟨g, cap, cur, rfl, hb, hh, h3, h4, h5, h6⟩
  · omega
  · exact ⟨g, cap, rfl, h3, h4, rfl⟩

theorem own_one {w : World} {base : Nat} {e : TypeId} {size : Nat} {v : Value} {n : Nat} {xs : List Value} (h : w.ownsRow base e size v n xs) : v.oneCell' = true := by
  rcases h.2 with ⟨rfl, h0⟩ | ⟨g, cap, cur, rfl, hb, hh, h3, h4, h5, h6⟩ <;> rfl

theorem own_any {w : World} {base : Nat} {e : TypeId} {size : Nat} {v : Value} {n : Nat} {xs : List Value} (h : w.ownsRow base e size v n xs) : ∃ a cap, v = .slice a n cap := by
  rcases h.2 with ⟨rfl, rfl⟩ | ⟨g, cap, cur, rfl, hb, hh, h3, h4, h5, h6⟩
  · exact ⟨none, 0, rfl⟩
  · exact ⟨_, cap, rfl⟩

theorem own_cell {w : World} {base g : Nat} {e : TypeId} {size : Nat} {v : Value} {n : Nat} {xs : List Value} (h : w.ownsRow base e size v n xs) (hg : v.ownBlock = some g) {j : Nat} {u : Value} (hu : xs[j]? = some u) : w.cell? ⟨g, j, none⟩ = some u := by
  have := h.cells hg j u hu
  rwa [Addr.add_lit, Nat.zero_add] at this

theorem own_frozen {w : World} {base g : Nat} {e : TypeId} {size : Nat} {v : Value} {n : Nat} {xs : List Value} (h : w.ownsRow base e size v n xs) (hg : v.ownBlock = some g) (j : Nat) : w.frozen? ⟨g, j, none⟩ = false := by
  rcases h.2 with ⟨rfl, _⟩ | ⟨g', cap, cur, rfl, hb, hh, h3, h4, h5, h6⟩
  · simp [Value.ownBlock] at hg
  · simp [Value.ownBlock] at hg
    subst hg
    exact frozen_of_row w g' j cur e hh

theorem own_setRow {w : World} {base g : Nat} {e : TypeId} {size : Nat} {n cap : Nat} {xs : List Value} (h : w.ownsRow base e size (.slice (some ⟨g, 0, none⟩) n cap) n xs) : ∃ cur, w.heap[g]? = some (.cells cur e (0, 0)) ∧ cur.size = cap * size ∧ n ≤ cap ∧ cap ≤ maxLen ∧ base ≤ g ∧ cur.toList.take (n * size) = xs := by
  rcases h.2 with ⟨h2, _⟩ | ⟨g', cap', cur, hv, hb, hh, h3, h4, h5, h6⟩
  · cases h2
  · injection hv with e1 e2 e3
    injection e1 with e1
    injection e1 with e1
    subst e1 e3
    exact ⟨cur, hh, h5, h3, h4, hb, h6⟩

theorem grown_setRow {w wr : World} {g : Nat} (h : w.grownBy wr (some g)) (cs : Array Value) : w.grownBy (wr.setRow g cs) (some g) :=
  ⟨h.os, h.tape, h.output, by simpa using h.size, fun k hk hn => (setRow_other wr g k cs (fun e => hn (by rw [e]))).trans (h.block k hk hn)⟩

theorem flat_at : ∀ {l : List Mb} {i : Nat} {f : Mb}, l[i]? = some f → (l.flatMap Mb.cells)[i * 2]? = some (.string (bs f.name)) ∧ (l.flatMap Mb.cells)[i * 2 + 1]? = some f.v
  | [], i, f, h => by simp at h
  | a :: r, 0, f, h => by
    simp at h
    subst h
    simp [List.flatMap_cons, Mb.cells]
  | a :: r, i + 1, f, h => by
    have ih := flat_at (l := r) (i := i) (f := f) (by simpa using h)
    simp only [List.flatMap_cons]
    rw [show (i + 1) * 2 = i * 2 + 2 by omega, show i * 2 + 2 + 1 = (i * 2 + 1) + 2 by omega]
    have e : ∀ k, (a.cells ++ r.flatMap Mb.cells)[k + 2]? = (r.flatMap Mb.cells)[k]? := fun k => by
      rw [List.getElem?_append_right (by simp [Mb.cells])]
      congr 1
    rw [e, e]
    exact ih
theorem flat_len (l : List Mb) : (l.flatMap Mb.cells).length = l.length * 2 := by
  induction l with
  | nil => rfl
  | cons a r ih => simp [List.flatMap_cons, ih, Mb.cells]; omega
theorem size58 : (Tryz.prog.info? 58).map (·.size) = some 2 := by kernel_rfl
theorem app_54 (ty : TypeId) (b : Option Addr) (n c : Nat) (b2 : Option Addr) (m k : Nat) (w : World) :
    (Builtin.append_ #[55, 54] ty #[.slice b n c, .slice b2 m k]).run Tryz.prog w = (Builtin.append_ #[55, 55] ty #[.slice b n c, .slice b2 m k]).run Tryz.prog w := by
  unfold Builtin.append_
  simp only [List.getElem?_toArray, List.getElem?_cons_zero, List.getElem?_cons_succ, Sem.run_bind, run_underlying Tryz.underlying54, run_underlying Tryz.underlying55, Result.andThen_ok, Sem.run_pure]

theorem run_copy_rowk {P : Program} (w : World) (dT sT ty elem : TypeId) (g o dLen dCap : Nat) (a : Addr) (sLen sCap k m : Nat) (cur : Array Value) (t : TypeId) (cs : List Value)
    (hu : P.underlying dT = some (.slice elem)) (hs : (P.info? elem).map (·.size) = some k)
    (hg : w.heap[g]? = some (.cells cur t (0, 0))) (hm : Nat.min sLen dLen = m) (hn : cs.length = m * k)
    (hsrc : ∀ j v, cs[j]? = some v → w.cell? (a.add j) = some v) (hfit : o + cs.length ≤ cur.size) (h1 : ∀ v ∈ cs, v.oneCell' = true) :
    (Builtin.copy_ #[dT, sT] ty #[.slice (some ⟨g, o, none⟩) dLen dCap, .slice (some a) sLen sCap]).run P w =
      .ok (goInt m) (w.setRow g (cur.toList.take o ++ cs ++ cur.toList.drop (o + cs.length)).toArray) := by
  have hl := run_loadCells_list (P := P) w a cs hsrc
  have hst := run_storeCells_at P g o t cs 0 cur w hg (by simpa using hfit) h1
  cases hq : P.info? elem with
  | none => simp [hq] at hs
  | some i =>
    have hi : i.size = k := by simpa [hq] using hs
    simp [Builtin.copy_, run_underlying hu, Builtin.lenOf, Builtin.firstCells, sizeOf, typeInfo, hq, hi, hm, ← hn, hl, hst]

theorem ins_shift (X C F : List Value) (p q N : Nat) (hC : X.take N = C) (hN : C.length = N) (hF : F.length = q) (hp : p ≤ N) (hX : N + q ≤ X.length) :
    ((X.take (p + q) ++ C.drop p ++ X.drop (p + q + (C.drop p).length)).take p ++ F ++ (X.take (p + q) ++ C.drop p ++ X.drop (p + q + (C.drop p).length)).drop (p + F.length)).take (N + q) = C.take p ++ F ++ C.drop p := by
  have e1 : (X.take (p + q)).length = p + q := by rw [List.length_take]; omega
  have e2 : (X.take (p + q) ++ C.drop p ++ X.drop (p + q + (C.drop p).length)).take p = C.take p := by
    rw [List.append_assoc, List.take_append_of_le_length (by omega), List.take_take, Nat.min_eq_left (by omega), ← hC, List.take_take, Nat.min_eq_left hp]
  have e3 : (X.take (p + q) ++ C.drop p ++ X.drop (p + q + (C.drop p).length)).drop (p + F.length) = C.drop p ++ X.drop (p + q + (C.drop p).length) := by
    rw [hF, List.append_assoc]
    exact List.drop_left' e1
  rw [e2, e3, ← List.append_assoc, List.take_append_of_le_length (by simp; omega), List.take_of_length_le (by simp; omega)]

theorem ins_grow (Z C F : List Value) (p q N : Nat) (hN : C.length = N) (hF : F.length = q) (hp : p ≤ N) (_hZ : N + q ≤ p + Z.length) :
    ((((C.take p ++ Z).take p ++ F ++ (C.take p ++ Z).drop (p + F.length)).take (p + q) ++ C.drop p ++ ((C.take p ++ Z).take p ++ F ++ (C.take p ++ Z).drop (p + F.length)).drop (p + q + (C.drop p).length))).take (N + q) = C.take p ++ F ++ C.drop p := by
  have e1 : (C.take p).length = p := by rw [List.length_take]; omega
  have e2 : (C.take p ++ Z).take p = C.take p := List.take_left' e1
  have e3 : ((C.take p ++ Z).take p ++ F ++ (C.take p ++ Z).drop (p + F.length)).take (p + q) = C.take p ++ F := by
    rw [e2]
    exact List.take_left' (by rw [List.length_append, e1, hF])
  rw [e3, List.take_append_of_le_length (by simp; omega), List.take_of_length_le (by simp; omega)]

theorem flat_take (l : List Mb) (i : Nat) : (l.flatMap Mb.cells).take (i * 2) = (l.take i).flatMap Mb.cells := by
  induction l generalizing i with
  | nil => simp
  | cons a r ih =>
    cases i with
    | zero => simp
    | succ i =>
      rw [List.take_succ_cons, List.flatMap_cons, List.flatMap_cons, ← ih i, show (i + 1) * 2 = a.cells.length + i * 2 by simp [Mb.cells]; omega, List.take_length_add_append]
theorem flat_drop (l : List Mb) (i : Nat) : (l.flatMap Mb.cells).drop (i * 2) = (l.drop i).flatMap Mb.cells := by
  induction l generalizing i with
  | nil => simp
  | cons a r ih =>
    cases i with
    | zero => simp
    | succ i =>
      rw [List.drop_succ_cons, List.flatMap_cons, ← ih i, show (i + 1) * 2 = a.cells.length + i * 2 by simp [Mb.cells]; omega, List.drop_length_add_append]

theorem flat_ins (l : List Mb) (i : Nat) (f : Mb) : (l.flatMap Mb.cells).take (i * 2) ++ f.cells ++ (l.flatMap Mb.cells).drop (i * 2) = (l.take i ++ f :: l.drop i).flatMap Mb.cells := by
  rw [flat_take, flat_drop, List.flatMap_append, List.flatMap_cons, List.append_assoc]

theorem sizeOf58 (w : World) : (Go.sizeOf 58).run Tryz.prog w = .ok 2 w := by kernel_rfl

theorem cells_one {l : List Mb} (h : ∀ x ∈ l, x.v.oneCell' = true) : ∀ v ∈ l.flatMap Mb.cells, v.oneCell' = true := by
  intro v hv
  obtain ⟨x, hx, hv⟩ := List.mem_flatMap.1 hv
  simp only [Mb.cells, List.mem_cons, List.not_mem_nil, or_false] at hv
  rcases hv with rfl | rfl
  · rfl
  · exact h x hx


set_option maxHeartbeats 4000000 in
set_option maxRecDepth 100000 in
theorem insert_shift (B g cap i vb : Nat) (l : List Mb) (f : Mb) (w : World) (h : w.ownsRow B 58 2 (.slice (some ⟨g, 0, none⟩) l.length cap) l.length (l.flatMap Mb.cells)) (hi : i < l.length) (hroom : l.length + 1 ≤ cap)
    (hv : w.heap[vb]? = some (.cells #[.string (bs f.name), f.v] 58 (0, 0))) (hne : vb ≠ g) (hone : f.v.oneCell' = true) (h1 : ∀ x ∈ l, x.v.oneCell' = true) :
    Calls Tryz.prog 92 #[.slice (some ⟨g, 0, none⟩) l.length cap, .int .i64 (i : Int), .slice (some ⟨vb, 0, none⟩) 1 1] w fun e w' => ∃ v', e = .returned v' ∧ w'.ownsRow B 58 2 v' (l.length + 1) ((l.take i ++ f :: l.drop i).flatMap Mb.cells) ∧ v'.ownBlock = some g ∧ w.grownBy w' (some g) := by
  obtain ⟨cur, hcur, hcs, hnc, hcm, hBg, htk⟩ := own_setRow h
  have hlen : (l.flatMap Mb.cells).length = l.length * 2 := flat_len l
  have hcell : ∀ j v, (l.flatMap Mb.cells)[j]? = some v → w.cell? ⟨g, j, none⟩ = some v := fun j v hj => own_cell h rfl hj
  have hc63 : cap ≤ 9223372036854775807 := by unfold maxLen at hcm; omega
  have hov : ∀ lb cb, (callFunc 105 #[.slice (some ⟨vb, 0, none⟩) 1 1, .slice (some ⟨g, (i + 1) * 2, none⟩) lb cb]).run Tryz.prog w = .ok (.value (.bool false)) w := fun lb cb => by
    rw [run_callFunc_extern Tryz.func105 (by kernel_rfl) (by kernel_rfl) (by kernel_rfl) (e := Extern.SlicesOverlaps.overlaps #[54, 54] #[4]) (by kernel_rfl),
      Lib.run_overlaps_apart w 54 4 58 Tryz.underlying54 2 sizeOf58 ⟨vb, 0, none⟩ ⟨g, (i + 1) * 2, none⟩ 1 1 lb cb hne 58 58 2 cur.size (by simp [World.shape?, hv]) (by simp [World.shape?, hcur]) (by omega) (frozen_of_row w vb 0 _ _ hv) (frozen_of_row w vb 2 _ _ hv)]
    rfl
  have hdl : ((l.flatMap Mb.cells).drop (i * 2)).length = (l.length - i) * 2 := by rw [List.length_drop, hlen]; omega
  have hcp1 : ∀ ty dc sc, (Builtin.copy_ #[55, 55] ty #[.slice (some ⟨g, (i + 1) * 2, none⟩) (l.length - i) dc, .slice (some ⟨g, i * 2, none⟩) (l.length + 1 - i) sc]).run Tryz.prog w.drew = .ok (goInt ((l.length - i : Nat) : Int)) (w.drew.setRow g (cur.toList.take ((i + 1) * 2) ++ (l.flatMap Mb.cells).drop (i * 2) ++ cur.toList.drop ((i + 1) * 2 + ((l.flatMap Mb.cells).drop (i * 2)).length)).toArray) := fun ty dc sc =>
    run_copy_rowk w.drew 55 55 ty 58 g ((i + 1) * 2) (l.length - i) dc ⟨g, i * 2, none⟩ (l.length + 1 - i) sc 2 (l.length - i) cur 58 ((l.flatMap Mb.cells).drop (i * 2)) Tryz.underlying55 size58 hcur (by simp only [Nat.min_def]; split <;> omega) hdl
      (fun j v hj => by rw [Addr.add_lit]; exact hcell (i * 2 + j) v (by rwa [List.getElem?_drop] at hj)) (by rw [hdl, hcs]; omega) (fun v hv => cells_one h1 v (List.mem_of_mem_drop hv))
  generalize hX1 : (cur.toList.take ((i + 1) * 2) ++ (l.flatMap Mb.cells).drop (i * 2) ++ cur.toList.drop ((i + 1) * 2 + ((l.flatMap Mb.cells).drop (i * 2)).length)).toArray = X1 at hcp1
  have hX1s : X1.size = cap * 2 := by rw [← hX1]; simp only [List.size_toArray, List.length_append, List.length_take, List.length_drop, Array.length_toList, hcs, hlen]; omega
  have hX1h : (w.drew.setRow g X1).heap[g]? = some (.cells X1 58 (0, 0)) := setRow_heap w.drew g cur X1 58 _ hcur
  have hcp2 : ∀ ty dc, (Builtin.copy_ #[55, 54] ty #[.slice (some ⟨g, i * 2, none⟩) (l.length + 1 - i) dc, .slice (some ⟨vb, 0, none⟩) 1 1]).run Tryz.prog (w.drew.setRow g X1) = .ok (goInt ((1 : Nat) : Int)) ((w.drew.setRow g X1).setRow g (X1.toList.take (i * 2) ++ f.cells ++ X1.toList.drop (i * 2 + f.cells.length)).toArray) := fun ty dc =>
    run_copy_rowk (w.drew.setRow g X1) 55 54 ty 58 g (i * 2) (l.length + 1 - i) dc ⟨vb, 0, none⟩ 1 1 2 1 X1 58 f.cells Tryz.underlying55 size58 hX1h (by simp only [Nat.min_def]; split <;> omega) rfl
      (fun j v hj => by
        rw [Addr.add_lit, Nat.zero_add, cell_of_row _ vb j _ _ _ ((setRow_other w.drew g vb X1 hne).trans hv)]
        rw [← hj, ← Array.getElem?_toList]
        rfl) (by simp [Mb.cells]; omega) (by simpa using cells_one (l := [f]) (by simpa using hone))
  generalize hX2 : (X1.toList.take (i * 2) ++ f.cells ++ X1.toList.drop (i * 2 + f.cells.length)).toArray = X2 at hcp2
  have F : Aside ((w.drew.setRow g X1 |>.setRow g X2).ownsRow B 58 2 (.slice (some ⟨g, 0, none⟩) (l.length + 1) cap) (l.length + 1) ((l.take i ++ f :: l.drop i).flatMap Mb.cells)) := by
    have hX2s : X2.size = cap * 2 := by rw [← hX2]; simp only [List.size_toArray, List.length_append, List.length_take, List.length_drop, Array.length_toList, hX1s, Mb.cells, List.length_cons, List.length_nil]; omega
    refine ⟨?_, .inr ⟨g, cap, X2, rfl, hBg, setRow_heap _ g X1 X2 58 _ hX1h, hroom, hcm, hX2s, ?_⟩⟩
    · rw [flat_len, List.length_append, List.length_cons, List.length_take, List.length_drop]; omega
    · rw [← flat_ins, ← hX2, ← hX1]
      have := ins_shift cur.toList (l.flatMap Mb.cells) f.cells (i * 2) 2 (l.length * 2) htk hlen rfl (by omega) (by have := Array.length_toList (xs := cur); omega)
      rw [show i * 2 + 2 = (i + 1) * 2 by omega] at this
      rw [show (l.length + 1) * 2 = l.length * 2 + 2 by omega]
      exact this
  have G : Aside (w.grownBy (w.drew.setRow g X1 |>.setRow g X2) (some g)) := grown_setRow (grown_setRow (⟨rfl, rfl, rfl, Nat.le_refl _, fun _ _ _ => rfl⟩ : w.grownBy w.drew (some g)) X1) X2
  generalize (w.drew.setRow g X1).setRow g X2 = W2 at hcp2 F G
  have hW1 : Hid (X1 = X1) := rfl
  generalize hW : w.drew.setRow g X1 = W1 at hcp1 hcp2
  clear hX1 hX2 hX1s hX1h hcur hcell htk hcs hdl hlen hv h hW hone h1
  generalize l.length = n at *
  have hz2 : ¬ ((i : Int) = (n : Int)) := by omega
  have hin : i ≤ n := by omega
  have hb2 : ¬ (cap = i + 1) := by omega
  have hb3 : (i : Int) ≤ (n : Int) + 1 := by omega
  have hb4 : ¬ (cap = i) := by omega
  have hw1 : IntKind.i64.wrap ((i : Int) + 1) = (i : Int) + 1 := by rw [IntKind.wrap_i64]; omega
  have htn : ((i : Int) + 1).toNat = i + 1 := by omega
  have hb1 : (0 : Int) ≤ (i : Int) + 1 := by omega
  go_enter Tryz.func92, Tryz.ntmps92
  go_wp2_with (simp only [hov])
  go_region_law (refine step_copy_runI rfl _ _ 55 55 rfl _ _ (by simp [Act.eval, Act.put]) (by simp [Act.eval, Act.put]) (hcp1 _ _ _) ?_)
  go_wp2_with (at_builtin; refine wpList_copy_runI _ rfl _ _ 55 54 rfl _ _ rfl rfl (hcp2 _ _) ?_)
  go_ret
  exact ⟨_, rfl, F.out, rfl, G.out⟩

def zf : Value := .agg #[.string ⟨#[]⟩, .nilIface]
theorem info58 : (Tryz.prog.info? 58).map (fun i => (i.zero, i.size, i.bytes)) = some (some zf, 2, 32) := by kernel_rfl

theorem alloc_old (w : World) (o : Obj) (k : Nat) (hk : k < w.heap.size) : (w.alloc o).heap[k]? = w.heap[k]? := ((Below.refl w.heap.size w).alloc (Nat.le_refl _) o).block k hk

theorem own_heap {w w' : World} {base : Nat} {e : TypeId} {size : Nat} {v : Value} {n : Nat} {xs : List Value} (h : w.ownsRow base e size v n xs) (hh : w'.heap = w.heap) : w'.ownsRow base e size v n xs := own_frame h fun k _ => by rw [hh]

set_option maxHeartbeats 4000000 in
set_option maxRecDepth 100000 in
theorem insert_grow (B g cap i vb : Nat) (l : List Mb) (f : Mb) (w : World) (h : w.ownsRow B 58 2 (.slice (some ⟨g, 0, none⟩) l.length cap) l.length (l.flatMap Mb.cells)) (hi : i < l.length) (hroom : cap < l.length + 1) (hl : l.length ≤ 1000) (hBw : B ≤ w.heap.size)
    (hv : w.heap[vb]? = some (.cells #[.string (bs f.name), f.v] 58 (0, 0))) (hone : f.v.oneCell' = true) (h1 : ∀ x ∈ l, x.v.oneCell' = true) :
    Calls Tryz.prog 92 #[.slice (some ⟨g, 0, none⟩) l.length cap, .int .i64 (i : Int), .slice (some ⟨vb, 0, none⟩) 1 1] w fun e w' => ∃ v', e = .returned v' ∧ w'.ownsRow B 58 2 v' (l.length + 1) ((l.take i ++ f :: l.drop i).flatMap Mb.cells) ∧ v'.ownBlock = some w.heap.size ∧ w.grownBy w' none := by
  obtain ⟨cur, hcur, hcs, hnc, hcm, hBg, htk⟩ := own_setRow h
  obtain ⟨i0, hi0, hz0, hzs, hzb⟩ := info_parts info58
  have hlen : (l.flatMap Mb.cells).length = l.length * 2 := flat_len l
  have hcell : ∀ j v, (l.flatMap Mb.cells)[j]? = some v → w.cell? ⟨g, j, none⟩ = some v := fun j v hj => own_cell h rfl hj
  have hglt : g < w.heap.size := (Array.getElem?_eq_some_iff.1 hcur).1
  have hvlt : vb < w.heap.size := (Array.getElem?_eq_some_iff.1 hv).1
  have hold : (Builtin.firstCells i0.size i (.slice (some ⟨g, 0, none⟩) i cap)).run Tryz.prog w.drew = .ok ((l.flatMap Mb.cells).take (i * 2)).toArray w.drew := by
    rw [hzs]
    exact run_firstCells_some w.drew 2 i ⟨g, 0, none⟩ i cap ((l.flatMap Mb.cells).take (i * 2)) (by rw [List.length_take, hlen]; omega) (fun j v hj => by
      rw [Addr.add_lit, Nat.zero_add]
      rw [List.getElem?_take] at hj
      split at hj
      · exact hcell j v hj
      · cases hj)
  have hik : i + (l.length + 1 - i) = l.length + 1 := by omega
  have hrz : ∀ ty, (Builtin.append_ #[55, 3] ty #[.slice (some ⟨g, 0, none⟩) i cap, .int .i64 ((l.length : Int) + 1 - (i : Int))]).run Tryz.prog w =
      .ok (.slice (some ⟨w.heap.size, 0, none⟩) (l.length + 1) (grownCap w (l.length + 1) cap 58)) (w.drew.alloc (.cells (((l.flatMap Mb.cells).take (i * 2)).toArray ++ Builtin.zeroCells zf.cells (l.length + 1 - i) ++ Builtin.zeroCells zf.cells (grownCap w (l.length + 1) cap 58 - (l.length + 1))) 58)) := fun ty => by
    have h := Lib.run_append_grow_zeros w 55 3 ty 58 i0 zf .i64 .i64 Tryz.underlying55 Tryz.underlying3 hi0 hz0 (some ⟨g, 0, none⟩) i cap ((l.flatMap Mb.cells).take (i * 2)) hold (l.length + 1 - i) (by omega) (by omega) (by omega) (by omega) (by rw [hzb]; omega) (by rw [hzb, hik]; exact growslice_fits hroom (by omega))
    rw [hik] at h
    rw [show (l.length : Int) + 1 - (i : Int) = ((l.length + 1 - i : Nat) : Int) by omega]
    exact h
  have hGn : l.length + 1 ≤ grownCap w (l.length + 1) cap 58 := grownCap_ge w _ _ _
  have hG63 : grownCap w (l.length + 1) cap 58 ≤ maxLen := grownCap_le_maxLen w _ _ _ (by unfold maxLen; omega)
  generalize grownCap w (l.length + 1) cap 58 = G at *
  generalize hZ : Builtin.zeroCells zf.cells (l.length + 1 - i) ++ Builtin.zeroCells zf.cells (G - (l.length + 1)) = Z
  have hZs : Z.size = (G - i) * 2 := by
    rw [← hZ, Array.size_append, size_zeroCells, size_zeroCells]
    show (l.length + 1 - i) * 2 + (G - (l.length + 1)) * 2 = _
    omega
  generalize hROW : ((l.flatMap Mb.cells).take (i * 2)).toArray ++ Builtin.zeroCells zf.cells (l.length + 1 - i) ++ Builtin.zeroCells zf.cells (G - (l.length + 1)) = ROW at hrz
  have hRL : ROW.toList = (l.flatMap Mb.cells).take (i * 2) ++ Z.toList := by
    rw [← hROW, Array.append_assoc, hZ]
    simp
  have hRs : ROW.size = G * 2 := by
    have e := congrArg List.length hRL
    have e2 := Array.length_toList (xs := Z)
    have e3 := Array.length_toList (xs := ROW)
    rw [List.length_append, List.length_take, hlen] at e
    omega
  have hW1 : (w.drew.alloc (.cells ROW 58)).heap[w.heap.size]? = some (.cells ROW 58 (0, 0)) := heap_alloc_new w.drew _
  have hcpA : ∀ W : World, W.heap = (w.drew.alloc (.cells ROW 58)).heap → ∀ ty dc, (Builtin.copy_ #[55, 54] ty #[.slice (some ⟨w.heap.size, i * 2, none⟩) (l.length + 1 - i) dc, .slice (some ⟨vb, 0, none⟩) 1 1]).run Tryz.prog W = .ok (goInt ((1 : Nat) : Int)) (W.setRow w.heap.size (ROW.toList.take (i * 2) ++ f.cells ++ ROW.toList.drop (i * 2 + f.cells.length)).toArray) := fun W hW ty dc =>
    run_copy_rowk W 55 54 ty 58 w.heap.size (i * 2) (l.length + 1 - i) dc ⟨vb, 0, none⟩ 1 1 2 1 ROW 58 f.cells Tryz.underlying55 size58 (by rw [hW]; exact hW1) (by simp only [Nat.min_def]; split <;> omega) rfl
      (fun j v hj => by
        rw [Addr.add_lit, Nat.zero_add, cell_of_row W vb j _ _ _ (by rw [hW]; exact (alloc_old w.drew _ vb hvlt).trans hv)]
        rw [← hj, ← Array.getElem?_toList]
        rfl) (by simp [Mb.cells]; omega) (by simpa using cells_one (l := [f]) (by simpa using hone))
  generalize hXA : (ROW.toList.take (i * 2) ++ f.cells ++ ROW.toList.drop (i * 2 + f.cells.length)).toArray = XA at hcpA
  have hXAs : XA.size = G * 2 := by rw [← hXA]; simp only [List.size_toArray, List.length_append, List.length_take, List.length_drop, Array.length_toList, hRs, Mb.cells, List.length_cons, List.length_nil]; omega
  have hXAh : ((w.drew.alloc (.cells ROW 58)).setRow w.heap.size XA).heap[w.heap.size]? = some (.cells XA 58 (0, 0)) := setRow_heap _ _ ROW XA 58 _ hW1
  have hdl : ((l.flatMap Mb.cells).drop (i * 2)).length = (l.length - i) * 2 := by rw [List.length_drop, hlen]; omega
  have hcpB : ∀ W : World, W.heap = ((w.drew.alloc (.cells ROW 58)).setRow w.heap.size XA).heap → ∀ ty dc sc, (Builtin.copy_ #[55, 55] ty #[.slice (some ⟨w.heap.size, (i + 1) * 2, none⟩) (l.length - i) dc, .slice (some ⟨g, i * 2, none⟩) (l.length - i) sc]).run Tryz.prog W = .ok (goInt ((l.length - i : Nat) : Int)) (W.setRow w.heap.size (XA.toList.take ((i + 1) * 2) ++ (l.flatMap Mb.cells).drop (i * 2) ++ XA.toList.drop ((i + 1) * 2 + ((l.flatMap Mb.cells).drop (i * 2)).length)).toArray) := fun W hW ty dc sc =>
    run_copy_rowk W 55 55 ty 58 w.heap.size ((i + 1) * 2) (l.length - i) dc ⟨g, i * 2, none⟩ (l.length - i) sc 2 (l.length - i) XA 58 ((l.flatMap Mb.cells).drop (i * 2)) Tryz.underlying55 size58 (by rw [hW]; exact hXAh) (by simp only [Nat.min_def]; split <;> omega) hdl
      (fun j v hj => by
        rw [Addr.add_lit]
        have := hcell (i * 2 + j) v (by rwa [List.getElem?_drop] at hj)
        rw [← this]
        refine World.cell?_of_block ?_
        show W.heap[g]? = w.heap[g]?
        rw [hW]
        exact (setRow_other _ _ g XA (by omega)).trans (alloc_old w.drew _ g hglt)) (by rw [hdl, hXAs]; omega) (fun v hv => cells_one h1 v (List.mem_of_mem_drop hv))
  generalize hXB : (XA.toList.take ((i + 1) * 2) ++ (l.flatMap Mb.cells).drop (i * 2) ++ XA.toList.drop ((i + 1) * 2 + ((l.flatMap Mb.cells).drop (i * 2)).length)).toArray = XB at hcpB
  have F : Aside (((w.drew.alloc (.cells ROW 58)).setRow w.heap.size XA |>.setRow w.heap.size XB).ownsRow B 58 2 (.slice (some ⟨w.heap.size, 0, none⟩) (l.length + 1) G) (l.length + 1) ((l.take i ++ f :: l.drop i).flatMap Mb.cells)) := by
    have hXBs : XB.size = G * 2 := by rw [← hXB]; simp only [List.size_toArray, List.length_append, List.length_take, List.length_drop, Array.length_toList, hXAs, hlen]; omega
    refine ⟨?_, .inr ⟨w.heap.size, G, XB, rfl, hBw, setRow_heap _ _ XA XB 58 _ hXAh, hGn, hG63, hXBs, ?_⟩⟩
    · rw [flat_len, List.length_append, List.length_cons, List.length_take, List.length_drop]; omega
    · rw [← flat_ins, ← hXB, ← hXA, hRL]
      have := ins_grow Z.toList (l.flatMap Mb.cells) f.cells (i * 2) 2 (l.length * 2) hlen rfl (by omega) (by have := Array.length_toList (xs := Z); omega)
      rw [show i * 2 + 2 = (i + 1) * 2 by omega] at this
      rw [show (l.length + 1) * 2 = l.length * 2 + 2 by omega]
      exact this
  have GB : Aside (∀ W : World, W.heap = ((w.drew.alloc (.cells ROW 58)).setRow w.heap.size XA |>.setRow w.heap.size XB).heap → W.os = w.os → W.tape = w.tape → W.output = w.output → w.grownBy W none) := fun W hW a b c =>
    ⟨a, b, c, by rw [hW]; simp, fun k hk _ => by rw [hW]; exact (setRow_other _ _ k XB (by omega)).trans ((setRow_other _ _ k XA (by omega)).trans (alloc_old w.drew _ k hk))⟩
  clear hXB hXA hXAs hXAh hROW hRL hRs hW1 hZ hZs hold hcell htk hcs hcur hdl hlen hv h hone h1
  have hcn : cap = l.length := by omega
  subst hcn
  generalize hn : l.length = n at *
  have hz2 : ¬ ((i : Int) = (n : Int)) := by omega
  have hz3 : (n : Int) < (n : Int) + 1 := by omega
  have hin : i ≤ n := by omega
  have hGi : ¬ (G = i) := by omega
  have hGim : ¬ (G = i + 1) := by omega
  have hci : ¬ (n = i) := by omega
  have hw1 : IntKind.i64.wrap ((i : Int) + 1) = (i : Int) + 1 := by rw [IntKind.wrap_i64]; omega
  have htn : ((i : Int) + 1).toNat = i + 1 := by omega
  have hb1 : (0 : Int) ≤ (i : Int) + 1 := by omega
  have hb3 : (i : Int) ≤ (n : Int) := by omega
  have hG' : G ≤ 9223372036854775807 := by unfold maxLen at hG63; omega
  have hA := hcpA (w.alloc (.cells ROW 58)).drew rfl
  have hB := hcpB (((w.alloc (.cells ROW 58)).drew.setRow w.heap.size XA).drew) rfl
  clear hcpA hcpB
  go_enter Tryz.func92, Tryz.ntmps92
  go_wp2_with (at_builtin; refine Lib.wpList_append_run _ rfl _ _ _ _ rfl _ _ rfl rfl _ _ (hrz _) ?_)
  go_region
  go_wp2
  go_ret
  exact ⟨_, rfl, own_heap F.out rfl, rfl, GB.out _ rfl rfl rfl rfl⟩

set_option maxHeartbeats 4000000 in
set_option maxRecDepth 100000 in
theorem insert_end (B vb : Nat) (v : Value) (l : List Mb) (f : Mb) (w : World) (h : w.ownsRow B 58 2 v l.length (l.flatMap Mb.cells)) (hl : l.length ≤ 1000) (hBw : B ≤ w.heap.size)
    (hv : w.heap[vb]? = some (.cells #[.string (bs f.name), f.v] 58 (0, 0))) (hone : f.v.oneCell' = true) :
    Calls Tryz.prog 92 #[v, .int .i64 (l.length : Int), .slice (some ⟨vb, 0, none⟩) 1 1] w fun e w' => ∃ v', e = .returned v' ∧ w'.ownsRow B 58 2 v' (l.length + 1) (l.flatMap Mb.cells ++ f.cells) ∧ (v'.ownBlock = v.ownBlock ∨ v'.ownBlock = some w.heap.size) ∧ w.grownBy w' v.ownBlock := by
  obtain ⟨i0, hi0, hz0, hzs, hzb⟩ := info_parts info58
  obtain ⟨a, cap, ev⟩ := own_any h
  have hcap : l.length ≤ cap ∧ cap ≤ 9223372036854775807 ∧ (a = none → cap = 0) := by
    rcases h.2 with ⟨e, e'⟩ | ⟨g', cap', cur, e, _, _, h3, h4, _⟩
    · rw [ev] at e
      injection e with e1 e2 e3
      omega
    · rw [ev] at e
      injection e with e1 e2 e3
      subst e3
      refine ⟨h3, by unfold maxLen at h4; omega, fun e => ?_⟩
      rw [e] at e1
      cases e1
  obtain ⟨hc1, hc2, hc3⟩ := hcap
  have hc4 : ∀ ad, a = some ad → ∃ g, ad = ⟨g, 0, none⟩ := by
    intro ad ha
    rcases h.2 with ⟨e, e'⟩ | ⟨g', cap', cur, e, _⟩
    · rw [ev] at e
      injection e with e1 e2 e3
      rw [ha] at e1
      cases e1
    · rw [ev] at e
      injection e with e1 e2 e3
      rw [ha] at e1
      injection e1 with e1
      exact ⟨g', e1⟩
  have hap : ∀ ty, ∃ v' w', (Builtin.append_ #[55, 54] ty #[v, .slice (some ⟨vb, 0, none⟩) 1 1]).run Tryz.prog w = .ok v' w' ∧ w'.ownsRow B 58 2 v' (l.length + 1) (l.flatMap Mb.cells ++ f.cells) ∧ w.grownBy w' v.ownBlock ∧ (v' = .slice none 0 0 ↔ v = .slice none 0 0 ∧ 1 = 0) ∧ (v'.ownBlock = v.ownBlock ∨ v'.ownBlock = some w.heap.size) := fun ty => by
    have hap0 := run_append_own_at w B 55 ty 58 i0 zf 2 32 Tryz.underlying55 hi0 hz0 hzs hzb rfl (by omega) v l.length (l.flatMap Mb.cells) h ⟨vb, 0, none⟩ 1 1 f.cells rfl (fun j u hj => by
        rw [Addr.add_lit, Nat.zero_add, cell_of_row w vb j _ _ _ hv, ← hj, ← Array.getElem?_toList]
        rfl) (by simpa using cells_one (l := [f]) (by simpa using hone)) (by unfold maxLen; omega) (by omega) hBw
    obtain ⟨v', w', x1, x2⟩ := hap0
    refine ⟨v', w', ?_, x2⟩
    rw [ev] at x1 ⊢
    rw [app_54]
    exact x1
  have HAP : Aside _ := hap
  clear hap h hv hi0 hz0 hzs hzb
  subst ev
  generalize l.length = n at *
  obtain ⟨v', w', hrun, r1, r2, r3, r4⟩ := HAP.out 55
  have R : Aside _ := And.intro r1 (And.intro r2 r4)
  clear r1 r2 r3 r4 HAP
  cases a with
  | none =>
    obtain rfl := hc3 rfl
    obtain rfl : n = 0 := by omega
    go_enter Tryz.func92, Tryz.ntmps92
    go_wp2_with (at_builtin; refine Lib.wpList_append_run _ rfl _ _ _ _ rfl _ _ rfl rfl _ _ hrun ?_)
    go_ret
    exact ⟨_, rfl, R.out.1, R.out.2.2, R.out.2.1⟩
  | some ad =>
    obtain ⟨g, rfl⟩ := hc4 ad rfl
    by_cases hce : cap = n
    · subst hce
      go_enter Tryz.func92, Tryz.ntmps92
      go_wp2_with (at_builtin; refine Lib.wpList_append_run _ rfl _ _ _ _ rfl _ _ rfl rfl _ _ hrun ?_)
      go_ret
      exact ⟨_, rfl, R.out.1, R.out.2.2, R.out.2.1⟩
    · go_enter Tryz.func92, Tryz.ntmps92
      go_wp2_with (at_builtin; refine Lib.wpList_append_run _ rfl _ _ _ _ rfl _ _ rfl rfl _ _ hrun ?_)
      go_ret
      exact ⟨_, rfl, R.out.1, R.out.2.2, R.out.2.1⟩

theorem insert_any (B vb i : Nat) (v : Value) (l : List Mb) (f : Mb) (w : World) (h : w.ownsRow B 58 2 v l.length (l.flatMap Mb.cells)) (hi : i ≤ l.length) (hl : l.length ≤ 1000) (hBw : B ≤ w.heap.size)
    (hv : w.heap[vb]? = some (.cells #[.string (bs f.name), f.v] 58 (0, 0))) (hne : v.ownBlock ≠ some vb) (hone : f.v.oneCell' = true) (h1 : ∀ x ∈ l, x.v.oneCell' = true) :
    Calls Tryz.prog 92 #[v, .int .i64 (i : Int), .slice (some ⟨vb, 0, none⟩) 1 1] w fun e w' => ∃ v', e = .returned v' ∧ w'.ownsRow B 58 2 v' (l.length + 1) ((l.take i ++ f :: l.drop i).flatMap Mb.cells) ∧ (v'.ownBlock = v.ownBlock ∨ v'.ownBlock = some w.heap.size) ∧ w.grownBy w' v.ownBlock := by
  by_cases hlt : i < l.length
  · obtain ⟨g, cap, rfl, h2, h3, _⟩ := own_form h (by omega)
    by_cases hr : l.length + 1 ≤ cap
    · refine (insert_shift B g cap i vb l f w h hlt hr hv (fun e => hne (by rw [e]; rfl)) hone h1).mono ?_
      rintro e w' ⟨v', rfl, a, b, c⟩
      exact ⟨v', rfl, a, .inl b, c⟩
    · refine (insert_grow B g cap i vb l f w h hlt (by omega) hl hBw hv hone h1).mono ?_
      rintro e w' ⟨v', rfl, a, b, c⟩
      exact ⟨v', rfl, a, .inr b, ⟨c.os, c.tape, c.output, c.size, fun k hk _ => c.block k hk (by simp)⟩⟩
  · obtain rfl : i = l.length := by omega
    refine (insert_end B vb v l f w h hl hBw hv hone).mono ?_
    rintro e w' ⟨v', rfl, a, b, c⟩
    refine ⟨v', rfl, ?_, b, c⟩
    rw [List.take_of_length_le (Nat.le_refl _), List.drop_of_length_le (Nat.le_refl _), List.flatMap_append, List.flatMap_cons, List.flatMap_nil, List.append_nil]
    exact a
end Go.Proofs.YtpeioecpilmpiaaGreatDoor
