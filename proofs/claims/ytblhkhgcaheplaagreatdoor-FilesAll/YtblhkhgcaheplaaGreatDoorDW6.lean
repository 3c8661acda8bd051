/-
  slices.DeleteFunc at pieces, and what forgets a file's pieces.
-/
import Derived.Test.YtblhkhgcaheplaaGreatDoorDW5
import Derived.Deep.MidRow
namespace Go.Proofs.YtblhkhgcaheplaaGreatDoor.Dk
open Go.RowKit
set_option maxRecDepth 100000

theorem drop_next {α : Type} [Inhabited α] {D l : List α} {j : Nat} (h : D.drop j = l.drop j) (hj : j < l.length) (hl : D.length = l.length) : D[j]! = l[j]! ∧ D.drop (j + 1) = l.drop (j + 1) := by
  have e : (D.drop j)[0]? = (l.drop j)[0]? := by rw [h]
  rw [List.getElem?_drop, List.getElem?_drop, Nat.add_zero, getbang D j (by omega), getbang l j hj] at e
  refine ⟨Option.some.inj e, ?_⟩
  rw [← List.drop_drop, ← List.drop_drop, h]

theorem take_next {α : Type} [Inhabited α] (l : List α) (j : Nat) (h : j < l.length) : l.take (j + 1) = l.take j ++ [l[j]!] := by
  rw [List.take_add_one, getbang l j h]
  rfl

theorem filter_first (n : ByteArray) (l : List Pc) (i : Nat) (hi : i < l.length) (hf : l.findIdx (isOf n) = i) : l.take i = (l.take (i + 1)).filter fun p => !isOf n p := by
  have h := (List.findIdx_eq hi).1 hf
  rw [take_next l i hi, List.filter_append]
  have h1 : (l.take i).filter (fun p => !isOf n p) = l.take i := by
    rw [List.filter_eq_self]
    intro x hx
    obtain ⟨k, hk, rfl⟩ := List.getElem_of_mem hx
    rw [List.length_take] at hk
    rw [List.getElem_take]
    have := h.2 k (by omega)
    simpa using this
  have h2 : [l[i]!].filter (fun p => !isOf n p) = [] := by
    have := h.1
    rw [← getElem!_pos l i hi] at this
    generalize l[i]! = z at this
    simp [this]
  rw [h1, h2, List.append_nil]

/-- What stands ahead of what is cleared stays. -/
theorem own_cleared {w : World} {base g : Nat} {e : TypeId} {size n cap i : Nat} {xs : List Value} (h : w.ownsRow base e size (.slice (some ⟨g, 0, none⟩) n cap) n xs) {cur : Array Value} (hg : w.heap[g]? = some (.cells cur e (0, 0))) (zs : List Value) (hi : i ≤ n) (hz : i * size + zs.length ≤ cur.size) :
    (w.setRow g (cur.toList.take (i * size) ++ zs ++ cur.toList.drop (i * size + zs.length)).toArray).ownsRow base e size (.slice (some ⟨g, 0, none⟩) i cap) i (xs.take (i * size)) := by
  obtain ⟨cur', hg', h5, h3, h4, hb, h6⟩ := own_setRow h
  rw [hg] at hg'
  injection hg' with hg'
  injection hg' with hg' _ _
  subst hg'
  have hm : i * size ≤ n * size := Nat.mul_le_mul_right _ hi
  have hl : xs.length = n * size := h.1
  refine ⟨by rw [List.length_take, hl]; omega, .inr ⟨g, cap, _, rfl, hb, setRow_heap w g cur _ e _ hg, by omega, h4, ?_, ?_⟩⟩
  · simp only [List.size_toArray, List.length_append, List.length_take, List.length_drop, Array.length_toList]
    omega
  · rw [← h6, List.take_take, Nat.min_eq_left hm]
    have hlt : (cur.toList.take (i * size)).length = i * size := by rw [List.length_take, Array.length_toList]; omega
    rw [List.append_assoc, List.take_append_of_le_length (by omega), List.take_of_length_le (by omega)]

theorem grown_setRow {w wr : World} {g : Nat} (h : w.grownBy wr (some g)) (cs : Array Value) : w.grownBy (wr.setRow g cs) (some g) :=
  ⟨h.os, h.tape, h.output, by simpa using h.size, fun k hk hn => (setRow_other wr g k cs (fun e => hn (by rw [e]))).trans (h.block k hk hn)⟩
theorem grown_set {w wr : World} {g : Nat} (h : w.grownBy wr (some g)) (j : Nat) (v : Value) : w.grownBy (wr.setCell ⟨g, j, none⟩ v) (some g) :=
  ⟨h.os, h.tape, h.output, by simpa using h.size, fun k hk hn => (Below.heap_setCell wr ⟨g, j, none⟩ v k (fun e => hn (by rw [e]))).trans (h.block k hk hn)⟩
theorem grown_alloc {w wr : World} {g : Nat} (h : w.grownBy wr (some g)) (o : Obj) : w.grownBy (wr.alloc o) (some g) := h.trans (World.grownBy_alloc wr o _)
theorem grown_below {w w' : World} {r : Option Nat} (h : Below w.heap.size w w') : w.grownBy w' r := ⟨h.os, h.tape, h.output, h.size, fun k hk _ => h.block k hk⟩

theorem size66 : (Tryz.prog.info? 54).map (·.size) = some 2 := by kernel_rfl
theorem size64 : (Tryz.prog.info? 52).map (·.size) = some 3 := by kernel_rfl

theorem pc_one (y : Pc) : (#[.string y.name, .int .i64 (y.size : Int)] : Array Value).all (·.oneCell') = true := by simp [Value.oneCell']

theorem own_there {w : World} {base g : Nat} {e : TypeId} {size : Nat} {v : Value} {n : Nat} {xs : List Value} (h : w.ownsRow base e size v n xs) (hg : v.ownBlock = some g) {o k : Nat} (hk : o + k ≤ n * size) : w.there g o k := fun j hj => by
  refine ⟨?_, own_frozen h hg _⟩
  have : o + j < xs.length := by rw [h.1]; omega
  rw [own_cell h hg (List.getElem?_eq_getElem this)]
  rfl

set_option maxHeartbeats 3200000 in
theorem deleteFunc_hit (B bx g cap i0 : Nat) (l : List Pc) (n : ByteArray) (w : World) (h : w.ownsRow B 54 2 (.slice (some ⟨g, 0, none⟩) l.length cap) l.length (l.flatMap Pc.cells)) (hl : l.length ≤ 100000) (hx : w.cell? ⟨bx, 0, none⟩ = some (.string n)) (hne : bx ≠ g)
   (hf : firstOf n l = (i0 : Int)) (hi0 : i0 < l.length) (hfi : l.findIdx (isOf n) = i0) :
    Calls Tryz.prog 75 #[.slice (some ⟨g, 0, none⟩) l.length cap, .func (.func 76) #[] #[.pointer (some ⟨bx, 0, none⟩)]] w fun e w' => ∃ v', e = .returned v' ∧ w'.ownsRow B 54 2 v' (l.filter fun p => !isOf n p).length ((l.filter fun p => !isOf n p).flatMap Pc.cells) ∧ v'.ownBlock = some g ∧ w.grownBy w' (some g) := by
  have ki := indexFunc_any B bx _ l n w h hl hx
  rw [hf] at ki
  have hcap : l.length ≤ cap ∧ cap ≤ maxLen := by
    obtain ⟨cur, _, _, h1, h2, _⟩ := own_setRow h
    exact ⟨h1, h2⟩
  obtain ⟨hcap1, hcap2⟩ := hcap
  have hglt : g < w.heap.size := by
    obtain ⟨cur, h0, _⟩ := own_setRow h
    exact (Array.getElem?_eq_some_iff.1 h0).1
  have dn : ((i0 : Int) == -1) = false := by simp
  have hm : cap ≤ 9223372036854775807 := by unfold maxLen at hcap2; omega
  have H0 : Aside (w.ownsRow B 54 2 (.slice (some ⟨g, 0, none⟩) l.length cap) l.length (l.flatMap Pc.cells)) := h
  have HI : Aside (l.take i0 = (l.take (i0 + 1)).filter fun p => !isOf n p) := filter_first n l i0 hi0 hfi
  clear h hf hfi
  go_enter Tryz.func75, Tryz.ntmps75
  go_wp2_with (go_at_call 89; refine ki.mono ?_; rintro e w1 ⟨rfl, hb1⟩)
  go_loopg [5, 6, 7] l.length (fun gh s5 s6 _ wr => ∃ (i j : Nat) (D : List Pc), l.length - j ≤ gh ∧ s5 = .int .i64 (i : Int) ∧ s6 = .int .i64 (j : Int) ∧ j ≤ l.length ∧ i < j ∧ Aside (D.length = l.length ∧ D.take i = (l.take j).filter (fun p => !isOf n p) ∧ D.drop j = l.drop j) ∧ Aside (wr.ownsRow B 54 2 (.slice (some ⟨g, 0, none⟩) l.length cap) l.length (D.flatMap Pc.cells)) ∧ w.grownBy wr (some g))
  case atStart =>
    refine ⟨i0, i0 + 1, l, by omega, rfl, by go_num, by omega, by omega, ?_, own_frame H0.out (fun k hk => ?_), grown_below hb1⟩
    · show _ ∧ _ ∧ _
      exact ⟨rfl, HI.out, rfl⟩
    · injection hk with hk
      exact hb1.block k (by rw [← hk]; exact hglt)
  case round =>
    obtain ⟨i, j, D, hgh, rfl, rfl, hj, hij, I, OWN, hgr⟩ := hrel
    have hsz := hgr.size
    by_cases hlt : j < l.length
    · have d3 : decide (j < l.length) = true := by simpa using hlt
      obtain ⟨hD, hT, hR⟩ := I.out
      have hown := OWN.out
      have hown' := hown
      rw [← hD] at hown'
      obtain ⟨g', eg, e0, e1⟩ := row_cells hown' j (by omega)
      obtain rfl : g = g' := by injection eg with eg; injection eg
      clear eg
      obtain ⟨g', eg, ei0, ei1⟩ := row_cells hown' i (by omega)
      obtain rfl : g = g' := by injection eg with eg; injection eg
      clear eg
      have hx' := hgr.cell hx (by simp; exact hne)
      have hth : ∀ o o' : Obj, ((wr.alloc o).alloc o').there g (i * 2) 2 := fun o o' => own_there ((hown.alloc o).alloc o') rfl (by omega)
      obtain ⟨hDj, hDr⟩ := drop_next hR hlt hD
      have I' : Aside (D[j]! = l[j]! ∧ D.length = l.length ∧ D.take i = (l.take j).filter (fun p => !isOf n p) ∧ D.drop (j + 1) = l.drop (j + 1)) := ⟨hDj, hD, hT, hDr⟩
      clear hown hown' hT hR I hDj hDr
      have HQ : Aside (∀ u : World, _) := fun u : World => forgetIs_any D[j]! n bx u
      have hxa : ∀ o, (wr.alloc o).cell? ⟨bx, 0, none⟩ = some (.string n) := fun o => cell_below hx' ((Below.refl _ _).alloc (Nat.le_refl _) o)
      cases hq : isOf n D[j]! with
      | true =>
        rw [hq] at HQ
        have HQ2 : Aside (isOf n D[j]! = true) := hq
        generalize hy : D[j]! = y at e0 e1 HQ
        clear hy hq
        go_wp2_with (go_at_call 76; refine (HQ.out _ (hxa _)).mono ?_; rintro e w' ⟨rfl, rfl⟩)
        go_roundg (l.length - (j + 1))
        case measure => omega
        case rel =>
          refine ⟨i, j + 1, D, Nat.le_refl _, rfl, by go_num, by omega, by omega, ?_, (OWN.out.alloc _).alloc _, grown_alloc (grown_alloc hgr _) _⟩
          show _ ∧ _ ∧ _
          obtain ⟨h1, h2, h3, h4⟩ := I'.out
          refine ⟨h2, ?_, h4⟩
          have hq := HQ2.out
          rw [h1] at hq
          rw [take_next l j hlt, List.filter_append, h3]
          generalize l[j]! = z at hq
          simp [hq]
      | false =>
        rw [hq] at HQ
        have HQ2 : Aside (isOf n D[j]! = false) := hq
        generalize hy : D[j]! = y at e0 e1 HQ
        have Y : Aside (D[j]! = y) := hy
        clear hy hq ei0 ei1
        go_wp2_with (first
          | (go_at_call 76; refine (HQ.out _ (hxa _)).mono ?_; rintro e w' ⟨rfl, rfl⟩)
          | (refine wpList_store_mid rfl 54 (.tmp 33) (.tmp 32) rfl g (i * 2) #[.string y.name, .int .i64 (y.size : Int)] rfl rfl (hth _ _) size66 (pc_one y) ?_))
        go_roundg (l.length - (j + 1))
        case measure => omega
        case rel =>
          obtain ⟨h1, h2, h3, h4⟩ := I'.out
          have hy := Y.out
          refine ⟨i + 1, j + 1, D.set i y, Nat.le_refl _, by go_num, by go_num, by omega, by omega, ?_, ?_, grown_set (grown_set (grown_alloc (grown_alloc hgr _) _) _ _) _ _⟩
          · show _ ∧ _ ∧ _
            have hq := HQ2.out
            rw [h1] at hq
            refine ⟨by simpa using h2, ?_, ?_⟩
            · rw [take_next l j hlt, List.filter_append, ← h3, List.take_set, take_next D i (by omega), ← h1, hy]
              have hq' : isOf n y = false := by rw [← hy, h1]; exact hq
              rw [List.set_append_right _ _ (by rw [List.length_take]; omega), List.length_take, Nat.min_eq_left (by omega), Nat.sub_self]
              simp [hq']
            · rw [List.drop_set_of_lt (by omega)]
              exact h4
          · have := own_set (own_set ((OWN.out.alloc (.cells #[.string y.name, .int .i64 (y.size : Int)] 54)).alloc (.cells #[.string y.name, .int .i64 (y.size : Int)] 54)) (g := g) rfl (i * 2) (by omega) (.string y.name)) (g := g) rfl (i * 2 + 1) (by omega) (.int .i64 (y.size : Int))
            rw [← flat_set2 D i y (by omega)] at this
            exact this
    · obtain rfl : j = l.length := by omega
      have d3 : decide (l.length < l.length) = false := by simp
      obtain ⟨cur, hcur, hcs, _, _, _, _⟩ := own_setRow OWN.out
      have hz : (Builtin.zeroCells #[.string ⟨#[]⟩, .int .i64 0] (l.length - i)).toList.length = (l.length - i) * 2 := by rw [Array.length_toList, size_zeroCells]; rfl
      have hmul : (i + (l.length - i)) * 2 ≤ cur.size := by rw [hcs]; exact Nat.mul_le_mul_right _ (by omega)
      have hcl : ∀ ty, (Builtin.clear_ #[42] ty #[.slice (some ⟨g, i * 2, none⟩) (l.length - i) (cap - i)]).run Tryz.prog wr = .ok (.tuple #[]) _ := fun ty =>
        run_clear_row wr 42 54 ty #[.string ⟨#[]⟩, .int .i64 0] Tryz.underlying42 zero66 (by simp [Value.oneCell']) (by simp) g i (l.length - i) (cap - i) cur hcur (by omega) hmul
      have C : Aside _ := own_cleared OWN.out hcur (Builtin.zeroCells #[.string ⟨#[]⟩, .int .i64 0] (l.length - i)).toList (i := i) (by omega) (by rw [hz]; omega)
      generalize hW : wr.setRow g _ = W at hcl C
      have hgW : w.grownBy W (some g) := by rw [← hW]; exact grown_setRow hgr _
      clear hW hcur hz hmul
      have hic : i ≤ cap := by omega
      have hne2 : ¬ cap = i := by omega
      go_wp2
      go_ret
      refine ⟨_, rfl, ?_, rfl, hgW⟩
      obtain ⟨h2, h3, h4⟩ := I.out
      have c := C.out
      rw [flat_take2, h3, List.take_of_length_le (Nat.le_refl _)] at c
      have hlen : (l.filter fun p => !isOf n p).length = i := by
        have := congrArg List.length h3
        rw [List.take_of_length_le (Nat.le_refl _), List.length_take, Nat.min_eq_left (by omega)] at this
        exact this.symm
      rw [hlen]
      exact c
end Go.Proofs.YtblhkhgcaheplaaGreatDoor.Dk
