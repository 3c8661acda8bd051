/-
  Ytnmamaeoghgegaa: the texts DW6, DW7, DW8, DM2, DW9, DW10, DX1, one behind the other.
-/
import Derived.Test.YtnmamaeoghgegaaG6
import Derived.Deep.MidRow
import Derived.Deep.RegionWith
/-
  slices.DeleteFunc at pieces, and what forgets a file's pieces.
-/
namespace Go.Proofs.Ytnmamaeoghgegaa.Dk
open Go.RowKit
set_option maxRecDepth 100000

theorem drop_next {α : Type} [Inhabited α] {D l : List α} {j : Nat} (h : D.drop j = l.drop j) (hj : j < l.length) (hl : D.length = l.length) : D[j]! = l[j]! ∧ D.drop (j + 1) = l.drop (j + 1) := by
  have e : (D.drop j)[0]? = (l.drop j)[0]? := by rw [h]
  rw [List.getElem?_drop, List.getElem?_drop, Nat.add_zero, getbang D j (by omega), getbang l j hj] at e
  refine ⟨Option.some.inj e, ?_⟩
  rw [← List.drop_drop, ← List.drop_drop, h]

theorem take_next {α : Type} [Inhabited α] (l : List α) (j : Nat) (h : j < l.length) : l.take (j + 1) = l.take j ++ [l[j]!] := by
  rw [List.take_add_one, getbang l j h]
  rfl

theorem filter_first (n : ByteArray) (l : List Pc) (i : Nat) (hi : i < l.length) (hf : l.findIdx (isOf n) = i) : l.take i = (l.take (i + 1)).filter fun p => !isOf n p := by
  have h := (List.findIdx_eq hi).1 hf
  rw [take_next l i hi, List.filter_append]
  have h1 : (l.take i).filter (fun p => !isOf n p) = l.take i := by
    rw [List.filter_eq_self]
    intro x hx
    obtain ⟨k, hk, rfl⟩ := List.getElem_of_mem hx
    rw [List.length_take] at hk
    rw [List.getElem_take]
    have := h.2 k (by omega)
    simpa using this
  have h2 : [l[i]!].filter (fun p => !isOf n p) = [] := by
    have := h.1
    rw [← getElem!_pos l i hi] at this
    generalize l[i]! = z at this
    simp [this]
  rw [h1, h2, List.append_nil]

/-- What stands ahead of what is cleared stays. -/
theorem own_cleared {w : World} {base g : Nat} {e : TypeId} {size n cap i : Nat} {xs : List Value} (h : w.ownsRow base e size (.slice (some ⟨g, 0, none⟩) n cap) n xs) {cur : Array Value} (hg : w.heap[g]? = some (.cells cur e (0, 0))) (zs : List Value) (hi : i ≤ n) (hz : i * size + zs.length ≤ cur.size) :
    (w.setRow g (cur.toList.take (i * size) ++ zs ++ cur.toList.drop (i * size + zs.length)).toArray).ownsRow base e size (.slice (some ⟨g, 0, none⟩) i cap) i (xs.take (i * size)) := by
  obtain ⟨cur', hg', h5, h3, h4, hb, h6⟩ := own_setRow h
  rw [hg] at hg'
  injection hg' with hg'
  injection hg' with hg' _ _
  subst hg'
  have hm : i * size ≤ n * size := Nat.mul_le_mul_right _ hi
  have hl : xs.length = n * size := h.1
  refine ⟨by rw [List.length_take, hl]; omega, .inr ⟨g, cap, _, rfl, hb, setRow_heap w g cur _ e _ hg, by omega, h4, ?_, ?_⟩⟩
  · simp only [List.size_toArray, List.length_append, List.length_take, List.length_drop, Array.length_toList]
    omega
  · rw [← h6, List.take_take, Nat.min_eq_left hm]
    have hlt : (cur.toList.take (i * size)).length = i * size := by rw [List.length_take, Array.length_toList]; omega
    rw [List.append_assoc, List.take_append_of_le_length (by omega), List.take_of_length_le (by omega)]

theorem grown_setRow {w wr : World} {g : Nat} (h : w.grownBy wr (some g)) (cs : Array Value) : w.grownBy (wr.setRow g cs) (some g) :=
  ⟨h.os, h.tape, h.output, by simpa using h.size, fun k hk hn => (setRow_other wr g k cs (fun e => hn (by rw [e]))).trans (h.block k hk hn)⟩
theorem grown_set {w wr : World} {g : Nat} (h : w.grownBy wr (some g)) (j : Nat) (v : Value) : w.grownBy (wr.setCell ⟨g, j, none⟩ v) (some g) :=
  ⟨h.os, h.tape, h.output, by simpa using h.size, fun k hk hn => (Below.heap_setCell wr ⟨g, j, none⟩ v k (fun e => hn (by rw [e]))).trans (h.block k hk hn)⟩
theorem grown_alloc {w wr : World} {g : Nat} (h : w.grownBy wr (some g)) (o : Obj) : w.grownBy (wr.alloc o) (some g) := h.trans (World.grownBy_alloc wr o _)
theorem grown_below {w w' : World} {r : Option Nat} (h : Below w.heap.size w w') : w.grownBy w' r := ⟨h.os, h.tape, h.output, h.size, fun k hk _ => h.block k hk⟩

theorem size66 : (Try.prog.info? 75).map (·.size) = some 2 := by kernel_rfl
theorem size64 : (Try.prog.info? 70).map (·.size) = some 3 := by kernel_rfl

theorem pc_one (y : Pc) : (#[.string y.name, .int .i64 (y.size : Int)] : Array Value).all (·.oneCell') = true := by simp [Value.oneCell']

theorem own_there {w : World} {base g : Nat} {e : TypeId} {size : Nat} {v : Value} {n : Nat} {xs : List Value} (h : w.ownsRow base e size v n xs) (hg : v.ownBlock = some g) {o k : Nat} (hk : o + k ≤ n * size) : w.there g o k := fun j hj => by
  refine ⟨?_, own_frozen h hg _⟩
  have : o + j < xs.length := by rw [h.1]; omega
  rw [own_cell h hg (List.getElem?_eq_getElem this)]
  rfl

set_option maxHeartbeats 3200000 in
theorem deleteFunc_hit (B bx g cap i0 : Nat) (l : List Pc) (n : ByteArray) (w : World) (h : w.ownsRow B 75 2 (.slice (some ⟨g, 0, none⟩) l.length cap) l.length (l.flatMap Pc.cells)) (hl : l.length ≤ 100000) (hx : w.cell? ⟨bx, 0, none⟩ = some (.string n)) (hne : bx ≠ g)
   (hf : firstOf n l = (i0 : Int)) (hi0 : i0 < l.length) (hfi : l.findIdx (isOf n) = i0) :
    Calls Try.prog 103 #[.slice (some ⟨g, 0, none⟩) l.length cap, .func (.func 104) #[] #[.pointer (some ⟨bx, 0, none⟩)]] w fun e w' => ∃ v', e = .returned v' ∧ w'.ownsRow B 75 2 v' (l.filter fun p => !isOf n p).length ((l.filter fun p => !isOf n p).flatMap Pc.cells) ∧ v'.ownBlock = some g ∧ w.grownBy w' (some g) := by
  have ki := indexFunc_any B bx _ l n w h hl hx
  rw [hf] at ki
  have hcap : l.length ≤ cap ∧ cap ≤ maxLen := by
    obtain ⟨cur, _, _, h1, h2, _⟩ := own_setRow h
    exact ⟨h1, h2⟩
  obtain ⟨hcap1, hcap2⟩ := hcap
  have hglt : g < w.heap.size := by
    obtain ⟨cur, h0, _⟩ := own_setRow h
    exact (Array.getElem?_eq_some_iff.1 h0).1
  have dn : ((i0 : Int) == -1) = false := by simp
  have hm : cap ≤ 9223372036854775807 := by unfold maxLen at hcap2; omega
  have H0 : Aside (w.ownsRow B 75 2 (.slice (some ⟨g, 0, none⟩) l.length cap) l.length (l.flatMap Pc.cells)) := h
  have HI : Aside (l.take i0 = (l.take (i0 + 1)).filter fun p => !isOf n p) := filter_first n l i0 hi0 hfi
  clear h hf hfi
  go_enter Try.func103, Try.ntmps103
  go_wp2_with (go_at_call 108; refine ki.mono ?_; rintro e w1 ⟨rfl, hb1⟩)
  go_loopg [5, 6, 7] l.length (fun gh s5 s6 _ wr => ∃ (i j : Nat) (D : List Pc), l.length - j ≤ gh ∧ s5 = .int .i64 (i : Int) ∧ s6 = .int .i64 (j : Int) ∧ j ≤ l.length ∧ i < j ∧ Aside (D.length = l.length ∧ D.take i = (l.take j).filter (fun p => !isOf n p) ∧ D.drop j = l.drop j) ∧ Aside (wr.ownsRow B 75 2 (.slice (some ⟨g, 0, none⟩) l.length cap) l.length (D.flatMap Pc.cells)) ∧ w.grownBy wr (some g))
  case atStart =>
    refine ⟨i0, i0 + 1, l, by omega, rfl, by go_num, by omega, by omega, ?_, own_frame H0.out (fun k hk => ?_), grown_below hb1⟩
    · show _ ∧ _ ∧ _
      exact ⟨rfl, HI.out, rfl⟩
    · injection hk with hk
      exact hb1.block k (by rw [← hk]; exact hglt)
  case round =>
    obtain ⟨i, j, D, hgh, rfl, rfl, hj, hij, I, OWN, hgr⟩ := hrel
    have hsz := hgr.size
    by_cases hlt : j < l.length
    · have d3 : decide (j < l.length) = true := by simpa using hlt
      obtain ⟨hD, hT, hR⟩ := I.out
      have hown := OWN.out
      have hown' := hown
      rw [← hD] at hown'
      obtain ⟨g', eg, e0, e1⟩ := row_cells hown' j (by omega)
      obtain rfl : g = g' := by injection eg with eg; injection eg
      clear eg
      obtain ⟨g', eg, ei0, ei1⟩ := row_cells hown' i (by omega)
      obtain rfl : g = g' := by injection eg with eg; injection eg
      clear eg
      have hx' := hgr.cell hx (by simp; exact hne)
      have hth : ∀ o o' : Obj, ((wr.alloc o).alloc o').there g (i * 2) 2 := fun o o' => own_there ((hown.alloc o).alloc o') rfl (by omega)
      obtain ⟨hDj, hDr⟩ := drop_next hR hlt hD
      have I' : Aside (D[j]! = l[j]! ∧ D.length = l.length ∧ D.take i = (l.take j).filter (fun p => !isOf n p) ∧ D.drop (j + 1) = l.drop (j + 1)) := ⟨hDj, hD, hT, hDr⟩
      clear hown hown' hT hR I hDj hDr
      have HQ : Aside (∀ u : World, _) := fun u : World => forgetIs_any D[j]! n bx u
      have hxa : ∀ o, (wr.alloc o).cell? ⟨bx, 0, none⟩ = some (.string n) := fun o => cell_below hx' ((Below.refl _ _).alloc (Nat.le_refl _) o)
      cases hq : isOf n D[j]! with
      | true =>
        rw [hq] at HQ
        have HQ2 : Aside (isOf n D[j]! = true) := hq
        generalize hy : D[j]! = y at e0 e1 HQ
        clear hy hq
        go_wp2_with (go_at_call 104; refine (HQ.out _ (hxa _)).mono ?_; rintro e w' ⟨rfl, rfl⟩)
        go_roundg (l.length - (j + 1))
        case measure => omega
        case rel =>
          refine ⟨i, j + 1, D, Nat.le_refl _, rfl, by go_num, by omega, by omega, ?_, (OWN.out.alloc _).alloc _, grown_alloc (grown_alloc hgr _) _⟩
          show _ ∧ _ ∧ _
          obtain ⟨h1, h2, h3, h4⟩ := I'.out
          refine ⟨h2, ?_, h4⟩
          have hq := HQ2.out
          rw [h1] at hq
          rw [take_next l j hlt, List.filter_append, h3]
          generalize l[j]! = z at hq
          simp [hq]
      | false =>
        rw [hq] at HQ
        have HQ2 : Aside (isOf n D[j]! = false) := hq
        generalize hy : D[j]! = y at e0 e1 HQ
        have Y : Aside (D[j]! = y) := hy
        clear hy hq ei0 ei1
        go_wp2_with (first
          | (go_at_call 104; refine (HQ.out _ (hxa _)).mono ?_; rintro e w' ⟨rfl, rfl⟩)
          | (refine wpList_store_mid rfl 75 (.tmp 33) (.tmp 32) rfl g (i * 2) #[.string y.name, .int .i64 (y.size : Int)] rfl rfl (hth _ _) size66 (pc_one y) ?_))
        go_roundg (l.length - (j + 1))
        case measure => omega
        case rel =>
          obtain ⟨h1, h2, h3, h4⟩ := I'.out
          have hy := Y.out
          refine ⟨i + 1, j + 1, D.set i y, Nat.le_refl _, by go_num, by go_num, by omega, by omega, ?_, ?_, grown_set (grown_set (grown_alloc (grown_alloc hgr _) _) _ _) _ _⟩
          · show _ ∧ _ ∧ _
            have hq := HQ2.out
            rw [h1] at hq
            refine ⟨by simpa using h2, ?_, ?_⟩
            · rw [take_next l j hlt, List.filter_append, ← h3, List.take_set, take_next D i (by omega), ← h1, hy]
              have hq' : isOf n y = false := by rw [← hy, h1]; exact hq
              rw [List.set_append_right _ _ (by rw [List.length_take]; omega), List.length_take, Nat.min_eq_left (by omega), Nat.sub_self]
              simp [hq']
            · rw [List.drop_set_of_lt (by omega)]
              exact h4
          · have := own_set (own_set ((OWN.out.alloc (.cells #[.string y.name, .int .i64 (y.size : Int)] 75)).alloc (.cells #[.string y.name, .int .i64 (y.size : Int)] 75)) (g := g) rfl (i * 2) (by omega) (.string y.name)) (g := g) rfl (i * 2 + 1) (by omega) (.int .i64 (y.size : Int))
            rw [← flat_set2 D i y (by omega)] at this
            exact this
    · obtain rfl : j = l.length := by omega
      have d3 : decide (l.length < l.length) = false := by simp
      obtain ⟨cur, hcur, hcs, _, _, _, _⟩ := own_setRow OWN.out
      have hz : (Builtin.zeroCells #[.string ⟨#[]⟩, .int .i64 0] (l.length - i)).toList.length = (l.length - i) * 2 := by rw [Array.length_toList, size_zeroCells]; rfl
      have hmul : (i + (l.length - i)) * 2 ≤ cur.size := by rw [hcs]; exact Nat.mul_le_mul_right _ (by omega)
      have hcl : ∀ ty, (Builtin.clear_ #[61] ty #[.slice (some ⟨g, i * 2, none⟩) (l.length - i) (cap - i)]).run Try.prog wr = .ok (.tuple #[]) _ := fun ty =>
        run_clear_row wr 61 75 ty #[.string ⟨#[]⟩, .int .i64 0] Try.underlying61 zero66 (by simp [Value.oneCell']) (by simp) g i (l.length - i) (cap - i) cur hcur (by omega) hmul
      have C : Aside _ := own_cleared OWN.out hcur (Builtin.zeroCells #[.string ⟨#[]⟩, .int .i64 0] (l.length - i)).toList (i := i) (by omega) (by rw [hz]; omega)
      generalize hW : wr.setRow g _ = W at hcl C
      have hgW : w.grownBy W (some g) := by rw [← hW]; exact grown_setRow hgr _
      clear hW hcur hz hmul
      have hic : i ≤ cap := by omega
      have hne2 : ¬ cap = i := by omega
      go_wp2
      go_ret
      refine ⟨_, rfl, ?_, rfl, hgW⟩
      obtain ⟨h2, h3, h4⟩ := I.out
      have c := C.out
      rw [flat_take2, h3, List.take_of_length_le (Nat.le_refl _)] at c
      have hlen : (l.filter fun p => !isOf n p).length = i := by
        have := congrArg List.length h3
        rw [List.take_of_length_le (Nat.le_refl _), List.length_take, Nat.min_eq_left (by omega)] at this
        exact this.symm
      rw [hlen]
      exact c
end Go.Proofs.Ytnmamaeoghgegaa.Dk

/-
  A file's pieces are forgotten.
-/
namespace Go.Proofs.Ytnmamaeoghgegaa.Dk
open Go.RowKit
set_option maxRecDepth 100000

def keepOf (n : ByteArray) (l : List Pc) : List Pc := l.filter fun p => !isOf n p

theorem deleteFunc_any (B bx : Nat) (v : Value) (l : List Pc) (n : ByteArray) (w : World) (h : w.ownsRow B 75 2 v l.length (l.flatMap Pc.cells)) (hl : l.length ≤ 100000) (hx : w.cell? ⟨bx, 0, none⟩ = some (.string n)) (hne : v.ownBlock ≠ some bx) :
    Calls Try.prog 103 #[v, .func (.func 104) #[] #[.pointer (some ⟨bx, 0, none⟩)]] w fun e w' => ∃ v', e = .returned v' ∧ w'.ownsRow B 75 2 v' (keepOf n l).length ((keepOf n l).flatMap Pc.cells) ∧ v'.ownBlock = v.ownBlock ∧ w.grownBy w' v.ownBlock := by
  by_cases ha : l.any (isOf n) = true
  · have hlt : l.findIdx (isOf n) < l.length := by
      rw [List.findIdx_lt_length]
      simpa using ha
    obtain ⟨g, cap, rfl, _, _, _⟩ := own_form h (by omega)
    exact deleteFunc_hit B bx g cap (l.findIdx (isOf n)) l n w h hl hx (fun e => hne (by rw [e]; rfl)) (by rw [firstOf, if_pos ha]) hlt rfl
  · have ki := indexFunc_any B bx v l n w h hl hx
    have hk : keepOf n l = l := by
      unfold keepOf
      rw [List.filter_eq_self]
      intro x hx
      have := ha
      rw [List.any_eq_true] at this
      cases hq : isOf n x with
      | false => rfl
      | true => exact absurd ⟨x, hx, hq⟩ this
    rw [hk]
    rw [firstOf, if_neg ha] at ki
    have H : Aside (w.ownsRow B 75 2 v l.length (l.flatMap Pc.cells)) := h
    clear hk ha h hx hne
    go_enter Try.func103, Try.ntmps103
    go_wp2_with (go_at_call 108; refine ki.mono ?_; rintro e w1 ⟨rfl, hb1⟩)
    go_ret
    exact ⟨_, rfl, own_frame H.out (fun k hk => hb1.block k (H.out.lt k hk).2), rfl, grown_below hb1⟩

theorem app_ne {α : Type} {l m : List α} (h : (l ++ m).Nodup) {x : α} (hx : x ∈ l) : x ∉ m := by
  intro hm
  have := (List.nodup_append.1 h).2.2 x hx x hm
  exact this rfl

theorem Rep.b_vf {w : World} {B b : Nat} {d : Ds} (h : Rep w B b d) {k : Nat} (hk : d.vf.ownBlock = some k) : k ≠ b := fun e =>
  (List.nodup_cons.1 h.nodup).1 (List.mem_append_left _ (mem_ob.2 (e ▸ hk)))
theorem Rep.b_vp {w : World} {B b : Nat} {d : Ds} (h : Rep w B b d) {k : Nat} (hk : d.vp.ownBlock = some k) : k ≠ b := fun e =>
  (List.nodup_cons.1 h.nodup).1 (List.mem_append_right _ (List.mem_append_left _ (mem_ob.2 (e ▸ hk))))
theorem Rep.b_f {w : World} {B b : Nat} {d : Ds} (h : Rep w B b d) {f : Fv} (hf : f ∈ d.files) {k : Nat} (hk : f.v.ownBlock = some k) : k ≠ b := fun e =>
  (List.nodup_cons.1 h.nodup).1 (List.mem_append_right _ (List.mem_append_right _ (List.mem_flatMap.2 ⟨f, hf, mem_ob.2 (e ▸ hk)⟩)))
theorem Rep.vf_vp {w : World} {B b : Nat} {d : Ds} (h : Rep w B b d) {k : Nat} (hk : d.vf.ownBlock = some k) : d.vp.ownBlock ≠ some k := fun e =>
  app_ne (List.nodup_cons.1 h.nodup).2 (mem_ob.2 hk) (List.mem_append_left _ (mem_ob.2 e))
theorem Rep.vf_f {w : World} {B b : Nat} {d : Ds} (h : Rep w B b d) {f : Fv} (hf : f ∈ d.files) {k : Nat} (hk : d.vf.ownBlock = some k) : f.v.ownBlock ≠ some k := fun e =>
  app_ne (List.nodup_cons.1 h.nodup).2 (mem_ob.2 hk) (List.mem_append_right _ (List.mem_flatMap.2 ⟨f, hf, mem_ob.2 e⟩))
theorem Rep.vp_f {w : World} {B b : Nat} {d : Ds} (h : Rep w B b d) {f : Fv} (hf : f ∈ d.files) {k : Nat} (hk : d.vp.ownBlock = some k) : f.v.ownBlock ≠ some k := fun e =>
  app_ne (List.nodup_append.1 (List.nodup_cons.1 h.nodup).2).2.1 (mem_ob.2 hk) (List.mem_flatMap.2 ⟨f, hf, mem_ob.2 e⟩)

theorem Rep.b_lt {w : World} {B b : Nat} {d : Ds} (h : Rep w B b d) : b < w.heap.size := (h.lt b foot_b).2

theorem Rep.repieces {w w1 : World} {B b : Nat} {d : Ds} {v' : Value} {L : List Pc} (h : Rep w B b d) (ho : w1.ownsRow B 75 2 v' L.length (L.flatMap Pc.cells)) (hv : v'.ownBlock = d.vp.ownBlock) (hg : w.grownBy w1 d.vp.ownBlock) :
    Rep (w1.setCell ⟨b, 1, none⟩ v') B b { d with pieces := L, vp := v' } ∧ Step (d.foot b) (d.foot b) w (w1.setCell ⟨b, 1, none⟩ v') := by
  have hfo : Ds.foot b { d with pieces := L, vp := v' } = d.foot b := by unfold Ds.foot ob; simp only; rw [hv]
  have hblk : w1.heap[b]? = some (.cells d.cells 63 (0, 0)) := (hg.block b h.b_lt (fun e => h.b_vp e.symm rfl)).trans h.blk
  have keep : ∀ k, k < w.heap.size → k ≠ b → d.vp.ownBlock ≠ some k → (w1.setCell ⟨b, 1, none⟩ v').heap[k]? = w.heap[k]? := fun k hk hb hp =>
    (Below.heap_setCell w1 ⟨b, 1, none⟩ v' k hb).trans (hg.block k hk (fun e => hp e.symm))
  refine ⟨⟨h.ge, set_same hblk rfl, own_frame h.tab fun k hk => keep k (h.tab.lt k hk).2 (h.b_vf hk) (h.vf_vp hk), own_frame ho fun k hk => Below.heap_setCell w1 ⟨b, 1, none⟩ v' k (h.b_vp (hv ▸ hk)), fun f hf => own_frame (h.rows f hf) fun k hk => keep k ((h.rows f hf).lt k hk).2 (h.b_f hf hk) (fun e => h.vp_f hf e hk), by rw [hfo]; exact h.nodup⟩, ?_⟩
  refine ⟨hg.os, hg.tape, hg.output, by simpa using hg.size, fun k hk hn => keep k hk (fun e => hn (e ▸ foot_b)) (fun e => hn (foot_vp e)), fun k hk => .inl hk⟩

theorem Rep.repieces_cell {w w1 : World} {B b : Nat} {d : Ds} (h : Rep w B b d) (hg : w.grownBy w1 d.vp.ownBlock) : w1.cell? ⟨b, 1, none⟩ = some d.vp := by
  rw [cell_of_row w1 b 1 _ _ _ ((hg.block b h.b_lt (fun e => h.b_vp e.symm rfl)).trans h.blk)]
  rfl
theorem Rep.repieces_fz {w w1 : World} {B b : Nat} {d : Ds} (h : Rep w B b d) (hg : w.grownBy w1 d.vp.ownBlock) : w1.frozen? ⟨b, 1, none⟩ = false :=
  frozen_of_row w1 b 1 _ _ ((hg.block b h.b_lt (fun e => h.b_vp e.symm rfl)).trans h.blk)

theorem forget_any {w : World} {B b : Nat} {d : Ds} (h : Rep w B b d) (hl : d.pieces.length ≤ 100000) (n : ByteArray) :
    Calls Try.prog 94 #[.pointer (some ⟨b, 0, none⟩), .string n] w fun e w' => e = .returned (.tuple #[]) ∧ ∃ v', v'.ownBlock = d.vp.ownBlock ∧ Rep w' B b { d with pieces := keepOf n d.pieces, vp := v' } ∧ Step (d.foot b) (d.foot b) w w' := by
  have hw : w.heap.size < (w.alloc (.cells #[.string n] 9)).heap.size := by simp
  have hb0 : Below w.heap.size w (w.alloc (.cells #[.string n] 9)) := (Below.refl _ _).alloc (Nat.le_refl _) _
  have h1 := h.below hb0
  have hne : d.vp.ownBlock ≠ some w.heap.size := fun e => by have := (h.pcs.lt _ e).2; omega
  have hx : (w.alloc (.cells #[.string n] 9)).cell? ⟨w.heap.size, 0, none⟩ = some (.string n) := by simp
  have c1 := h1.c1
  have kd := deleteFunc_any B w.heap.size d.vp d.pieces n _ h1.pcs hl hx hne
  have H1 : Aside (Rep (w.alloc (.cells #[.string n] 9)) B b d ∧ Step (d.foot b) (d.foot b) w (w.alloc (.cells #[.string n] 9))) := ⟨h1, Step.ofBelow hb0⟩
  clear h h1 hb0 hx hne
  go_enter Try.func94, Try.ntmps94
  go_wp2_with (go_at_call 103; refine kd.mono ?_; rintro e w1 ⟨v', rfl, ho, hv, hg⟩; have hc1 := (H1.out.1.repieces_cell hg); have hf1 := H1.out.1.repieces_fz hg; obtain ⟨a', cap', rfl⟩ := own_any ho)
  go_end0
  have := H1.out.1.repieces ho hv hg
  exact ⟨rfl, _, hv, this.1, H1.out.2.trans this.2⟩
end Go.Proofs.Ytnmamaeoghgegaa.Dk

/-
  A file is changed where it lies; Sync, Read, Sure.
-/
namespace Go.Proofs.Ytnmamaeoghgegaa.Dk
open Go.RowKit
set_option maxRecDepth 100000

theorem flatMap_set_same {α β : Type} (g : α → List β) : ∀ (l : List α) (i : Nat) (f f' : α), l[i]? = some f → g f' = g f → (l.set i f').flatMap g = l.flatMap g
  | [], i, f, f', h, _ => by simp at h
  | a :: r, 0, f, f', h, hg => by
    simp at h
    subst h
    simp [List.flatMap_cons, hg]
  | a :: r, i + 1, f, f', h, hg => by
    simp only [List.set_cons_succ, List.flatMap_cons]
    rw [flatMap_set_same g r i f f' (by simpa using h) hg]

theorem mem_set_cases {α : Type} {l : List α} {i : Nat} {a x : α} (h : x ∈ l.set i a) : x = a ∨ x ∈ l := by
  rcases List.mem_or_eq_of_mem_set h with h | h
  · exact .inr h
  · exact .inl h

/-- A file is another one, in the same block; its table was written. -/
theorem Rep.setFile {w w' : World} {B b g i : Nat} {d : Ds} {f f' : Fv} (h : Rep w B b d) (hf : d.files[i]? = some f) (hg : d.vf.ownBlock = some g)
    (ht : w'.ownsRow B 70 3 d.vf d.files.length ((d.files.set i f').flatMap Fv.cells)) (hgr : w.grownBy w' (some g)) (hv : f'.v.ownBlock = f.v.ownBlock) (hrow : w.ownsRow B 5 1 f'.v f'.bytes.length (bcells f'.bytes)) :
    Rep w' B b { d with files := d.files.set i f' } ∧ Step (d.foot b) (d.foot b) w w' := by
  have hm : f ∈ d.files := List.mem_of_getElem? hf
  have hfo : Ds.foot b { d with files := d.files.set i f' } = d.foot b := by
    unfold Ds.foot
    simp only
    rw [flatMap_set_same (fun f => ob f.v) d.files i f f' hf (by unfold ob; rw [hv])]
  have keep : ∀ k, k < w.heap.size → k ≠ g → w'.heap[k]? = w.heap[k]? := fun k hk hn => hgr.block k hk (fun e => hn (Option.some.inj e))
  refine ⟨⟨h.ge, ?_, by simpa using ht, ?_, ?_, by rw [hfo]; exact h.nodup⟩, ?_⟩
  · exact (keep b h.b_lt (fun e => h.b_vf hg e.symm)).trans h.blk
  · exact own_frame h.pcs fun k hk => keep k (h.pcs.lt k hk).2 (fun e => h.vf_vp hg (e ▸ hk))
  · intro x hx
    rcases mem_set_cases hx with rfl | hx
    · exact own_frame hrow fun k hk => keep k (hrow.lt k hk).2 (fun e => h.vf_f hm hg (by rw [← hv, ← e]; exact hk))
    · exact own_frame (h.rows x hx) fun k hk => keep k ((h.rows x hx).lt k hk).2 (fun e => h.vf_f hx hg (e ▸ hk))
  · exact ⟨hgr.os, hgr.tape, hgr.output, hgr.size, fun k hk hn => keep k hk (fun e => hn (foot_vf (e ▸ hg))), fun k hk => .inl hk⟩

theorem Rep.vf_form {w : World} {B b i : Nat} {d : Ds} {f : Fv} (h : Rep w B b d) (hf : d.files[i]? = some f) : ∃ g cap, d.vf = .slice (some ⟨g, 0, none⟩) d.files.length cap ∧ d.files.length ≤ cap ∧ cap ≤ maxLen ∧ d.vf.ownBlock = some g := by
  have := (List.getElem?_eq_some_iff.1 hf).1
  exact own_form h.tab (by omega)

theorem Rep.fcells {w : World} {B b i g : Nat} {d : Ds} {f : Fv} (h : Rep w B b d) (hf : d.files[i]? = some f) (hg : d.vf.ownBlock = some g) : w.cell? ⟨g, i * 3, none⟩ = some (.string f.name) ∧ w.cell? ⟨g, i * 3 + 1, none⟩ = some f.v ∧ w.cell? ⟨g, i * 3 + 2, none⟩ = some (.int .i64 (f.sure : Int)) := by
  obtain ⟨c0, c1, c2⟩ := flat_at hf
  exact ⟨own_cell h.tab hg c0, own_cell h.tab hg c1, own_cell h.tab hg c2⟩

/-- The first n of a slice. -/
def cutV (v : Value) (n : Nat) : Value := match v with
  | .slice a _ c => .slice a n c
  | v => v

theorem own_cutV {w : World} {base : Nat} {e : TypeId} {v : Value} {n : Nat} {xs : List Value} (h : w.ownsRow base e 1 v n xs) (i : Nat) (hi : i ≤ n) : w.ownsRow base e 1 (cutV v i) i (xs.take i) ∧ (cutV v i).ownBlock = v.ownBlock := by
  rcases h.2 with ⟨rfl, rfl⟩ | ⟨g, cap, cur, rfl, _⟩
  · obtain rfl : i = 0 := by omega
    exact ⟨by simpa [cutV] using World.ownsRow_nil w base e 1, rfl⟩
  · have := own_cut h i hi
    rw [Nat.mul_one] at this
    exact ⟨this, rfl⟩

theorem bcells_take (l : List UInt8) (n : Nat) : (bcells l).take n = bcells (l.take n) := by simp [bcells, List.map_take]
theorem bcells_len (l : List UInt8) : (bcells l).length = l.length := by simp [bcells]

/-- What settle makes of a file. -/
def Fv.settled (f : Fv) (n : Nat) : Fv := ⟨f.name, f.bytes.take n, n, cutV f.v n⟩

set_option maxHeartbeats 800000 in
theorem settle_any {w : World} {B b i n : Nat} {d : Ds} {f : Fv} (h : Rep w B b d) (hl : d.pieces.length ≤ 100000) (_hll : d.files.length ≤ 1000) (hf : d.files[i]? = some f) (hn : n ≤ f.bytes.length) (_hbl : f.bytes.length ≤ 100000) :
    Calls Try.prog 70 #[.pointer (some ⟨b, 0, none⟩), .int .i64 (i : Int), .int .i64 (n : Int)] w fun e w' => e = .returned (.tuple #[]) ∧ ∃ v', v'.ownBlock = d.vp.ownBlock ∧
      Rep w' B b { d with files := d.files.set i (f.settled n), pieces := keepOf f.name d.pieces, vp := v' } ∧ Step (d.foot b) (d.foot b) w w' := by
  have hi : i < d.files.length := (List.getElem?_eq_some_iff.1 hf).1
  obtain ⟨g, cap, ev, hcap, hcm, hg⟩ := h.vf_form hf
  obtain ⟨e0, e1, e2⟩ := h.fcells hf hg
  have c0 := h.c0
  have f1 := own_frozen h.tab hg (i * 3 + 1)
  have f2 := own_frozen h.tab hg (i * 3 + 2)
  have hrow := h.rows f (List.mem_of_getElem? hf)
  obtain ⟨hcut, hcb⟩ := own_cutV hrow n hn
  have ht := own_set (own_set h.tab hg (i * 3 + 1) (by omega) (cutV f.v n)) hg (i * 3 + 2) (by omega) (.int .i64 (n : Int))
  have hfs := flat_set d.files i f (f.settled n) hf rfl
  have hSF : Aside (Rep ((w.setCell ⟨g, i * 3 + 1, none⟩ (cutV f.v n)).setCell ⟨g, i * 3 + 2, none⟩ (.int .i64 (n : Int))) B b { d with files := d.files.set i (f.settled n) } ∧ Step (d.foot b) (d.foot b) w ((w.setCell ⟨g, i * 3 + 1, none⟩ (cutV f.v n)).setCell ⟨g, i * 3 + 2, none⟩ (.int .i64 (n : Int)))) := by
    refine h.setFile hf hg ?_ ?_ hcb ?_
    · rw [hfs]; exact ht
    · exact grown_set (grown_set ⟨rfl, rfl, rfl, Nat.le_refl _, fun _ _ _ => rfl⟩ _ _) _ _
    · rw [bcells_take] at hcut
      have : (f.bytes.take n).length = n := by rw [List.length_take]; omega
      show w.ownsRow B 5 1 (cutV f.v n) (f.bytes.take n).length (bcells (f.bytes.take n))
      rw [this]
      exact hcut
  have kf : Aside (∀ u : World, Rep u B b { d with files := d.files.set i (f.settled n) } → _) := fun (u : World) hu => forget_any (d := { d with files := d.files.set i (f.settled n) }) hu hl f.name
  obtain ⟨a, c, ea⟩ := own_any hrow
  have hac : f.bytes.length ≤ c ∧ c ≤ 9223372036854775807 ∧ (a = none → f.bytes.length = 0 ∧ c = 0) := by
    rcases hrow.2 with ⟨e, e'⟩ | ⟨g', cap', cur, e, _, _, h3, h4, _⟩
    · rw [ea] at e
      injection e with e1 e2 e3
      omega
    · rw [ea] at e
      injection e with e1 e2 e3
      subst e3
      refine ⟨h3, by unfold maxLen at h4; omega, fun e => ?_⟩
      rw [e] at e1
      cases e1
  obtain ⟨hc1, hc2, hc3⟩ := hac
  have hcv : cutV f.v n = .slice a n c := by rw [ea]; rfl
  rw [hcv] at hSF
  rw [ea] at e1
  rw [ev] at c0
  have hnc : n ≤ c := by omega
  have FO : Aside (Ds.foot b { d with files := d.files.set i (f.settled n) } = d.foot b) := by
    show Ds.foot b _ = _
    unfold Ds.foot
    simp only
    rw [flatMap_set_same (fun f => ob f.v) d.files i f (f.settled n) hf (by show ob (cutV f.v n) = ob f.v; unfold ob; rw [hcb])]
  clear h ht hfs hrow hcut hcb hcv hf ea ev
  have hnm : ((w.setCell ⟨g, i * 3 + 1, none⟩ (.slice a n c)).setCell ⟨g, i * 3 + 2, none⟩ (.int .i64 (n : Int))).cell? ⟨g, i * 3, none⟩ = some (.string f.name) := by
    rw [World.cell?_setCell_other _ _ _ _ (by simp), World.cell?_setCell_other _ _ _ _ (by simp)]
    exact e0
  cases a with
  | none =>
    obtain ⟨h1, h2⟩ := hc3 rfl
    obtain rfl : n = 0 := by omega
    subst h2
    go_enter Try.func70, Try.ntmps70
    go_wp2_with (go_at_call 94; refine (kf.out _ hSF.out.1).mono ?_; rintro e w2 ⟨rfl, v', hv, hr, hs⟩)
    go_end0
    rw [FO.out] at hs
    exact ⟨rfl, v', hv, hr, hSF.out.2.trans hs⟩
  | some ad =>
    go_enter Try.func70, Try.ntmps70
    go_wp2_with (go_at_call 94; refine (kf.out _ hSF.out.1).mono ?_; rintro e w2 ⟨rfl, v', hv, hr, hs⟩)
    go_end0
    rw [FO.out] at hs
    exact ⟨rfl, v', hv, hr, hSF.out.2.trans hs⟩
end Go.Proofs.Ytnmamaeoghgegaa.Dk

/-
  A disk as plain data, and what each call makes of it, as the program does it.
-/
namespace Go.Proofs.Ytnmamaeoghgegaa.Dk
open Go.RowKit
set_option maxRecDepth 100000

structure F where
  name : ByteArray
  bytes : List UInt8
  sure : Nat

structure St where
  files : List F
  pieces : List Pc
  room : Nat
  fused : Bool
  fuse : Nat
  down : Bool

def Fv.pl (f : Fv) : F := ⟨f.name, f.bytes, f.sure⟩
def Ds.pl (d : Ds) : St := ⟨d.files.map Fv.pl, d.pieces, d.room, d.fused, d.fuse, d.down⟩
def St.names (s : St) : List ByteArray := s.files.map F.name
def St.power (s : St) : Bool := !(s.down || (s.fused && s.fuse == 0))
def St.spent (s : St) : St := { s with down := !s.power, fuse := if s.power && s.fused then s.fuse - 1 else s.fuse }
theorem names_pl (d : Ds) : d.pl.names = d.names := by simp [St.names, Ds.pl, Ds.names, Fv.pl]
theorem power_pl (d : Ds) : d.pl.power = d.power := rfl
theorem spent_pl (d : Ds) : d.spent.pl = d.pl.spent := rfl

def wait (n : ByteArray) (l : List Pc) : Nat := ((l.filter (isOf n)).map Pc.size).sum
def St.total (s : St) : Nat := (s.files.map fun f => f.bytes.length).sum

structure Ok (s : St) : Prop where
  rising : Rising s.names
  few : s.files.length ≤ 16
  room : s.room ≤ 60000
  fuse : s.fuse ≤ 9223372036854775807
  used : s.total ≤ 60000
  sizes : ∀ p ∈ s.pieces, 0 < p.size
  waits : ∀ f ∈ s.files, f.sure + wait f.name s.pieces = f.bytes.length
  named : ∀ p ∈ s.pieces, p.name ∈ s.names

theorem wait_nil (n : ByteArray) : wait n [] = 0 := rfl
theorem wait_cons (n : ByteArray) (p : Pc) (l : List Pc) : wait n (p :: l) = (if cmp p.name n = 0 then p.size else 0) + wait n l := by
  unfold wait isOf
  by_cases h : cmp p.name n = 0 <;> simp [h]
theorem wait_app (n : ByteArray) (l m : List Pc) : wait n (l ++ m) = wait n l + wait n m := by simp [wait]

theorem sum_zero {α : Type} (l : List α) (g : α → Nat) (h : ∀ x ∈ l, g x = 0) : (l.map g).sum = 0 := by
  induction l with
  | nil => rfl
  | cons a r ih =>
    simp only [List.map_cons, List.sum_cons]
    rw [h a List.mem_cons_self, ih fun x hx => h x (List.mem_cons_of_mem _ hx)]

theorem sum_hit (l : List ByteArray) (hn : l.Nodup) (x : ByteArray) (k : Nat) (hx : x ∈ l) : (l.map fun n => if cmp x n = 0 then k else 0).sum = k := by
  induction l with
  | nil => cases hx
  | cons a r ih =>
    rw [List.nodup_cons] at hn
    simp only [List.map_cons, List.sum_cons]
    by_cases h : cmp x a = 0
    · have e := cmp_zero.1 h
      subst e
      have h0 : (r.map fun n => if cmp x n = 0 then k else 0).sum = 0 := by
        refine sum_zero _ _ fun n hn' => if_neg ?_
        intro e
        exact hn.1 (cmp_zero.1 e ▸ hn')
      rw [if_pos h, h0]
      omega
    · rw [if_neg h, Nat.zero_add]
      refine ih hn.2 ?_
      rcases List.mem_cons.1 hx with e | e
      · exact absurd (cmp_zero.2 e) h
      · exact e

theorem sum_add_map {α : Type} (l : List α) (g h : α → Nat) : (l.map fun x => g x + h x).sum = (l.map g).sum + (l.map h).sum := by
  induction l with
  | nil => rfl
  | cons a r ih => simp only [List.map_cons, List.sum_cons, ih]; omega

theorem sum_waits (l : List ByteArray) (hn : l.Nodup) : ∀ ps : List Pc, (∀ p ∈ ps, p.name ∈ l) → (ps.map Pc.size).sum = (l.map fun n => wait n ps).sum
  | [], _ => (sum_zero l _ fun _ _ => rfl).symm
  | p :: r, h => by
    have ih := sum_waits l hn r (fun q hq => h q (List.mem_cons_of_mem _ hq))
    simp only [wait_cons, sum_add_map, List.map_cons, List.sum_cons, ih]
    rw [sum_hit l hn p.name p.size (h p List.mem_cons_self)]

theorem sum_le_map {α : Type} (l : List α) (g h : α → Nat) (hh : ∀ x ∈ l, g x ≤ h x) : (l.map g).sum ≤ (l.map h).sum := by
  induction l with
  | nil => exact Nat.le_refl _
  | cons a r ih =>
    simp only [List.map_cons, List.sum_cons]
    have := hh a List.mem_cons_self
    have := ih fun x hx => hh x (List.mem_cons_of_mem _ hx)
    omega

theorem Ok.sum {s : St} (h : Ok s) : (s.pieces.map Pc.size).sum ≤ s.total := by
  rw [sum_waits s.names h.rising.nodup s.pieces h.named]
  unfold St.names St.total
  rw [List.map_map]
  refine sum_le_map _ _ _ fun f hf => ?_
  have := h.waits f hf
  show wait f.name s.pieces ≤ _
  omega

theorem len_le_sum (l : List Pc) (h : ∀ p ∈ l, 0 < p.size) : l.length ≤ (l.map Pc.size).sum := by
  induction l with
  | nil => exact Nat.le_refl _
  | cons a r ih =>
    simp only [List.length_cons, List.map_cons, List.sum_cons]
    have := h a List.mem_cons_self
    have := ih fun x hx => h x (List.mem_cons_of_mem _ hx)
    omega

theorem Ok.pieces {s : St} (h : Ok s) : s.pieces.length ≤ 60000 := by
  have := len_le_sum _ h.sizes
  have := h.sum
  have := h.used
  omega

theorem mem_le_sum {α : Type} (l : List α) (g : α → Nat) {x : α} (hx : x ∈ l) : g x ≤ (l.map g).sum := by
  induction l with
  | nil => cases hx
  | cons a r ih =>
    simp only [List.map_cons, List.sum_cons]
    rcases List.mem_cons.1 hx with rfl | hx
    · omega
    · have := ih hx
      omega

theorem Ok.bytes {s : St} (h : Ok s) {f : F} (hf : f ∈ s.files) : f.bytes.length ≤ 60000 := by
  have := mem_le_sum s.files (fun f => f.bytes.length) hf
  have := h.used
  unfold St.total at this
  omega
theorem Ok.sure {s : St} (h : Ok s) {f : F} (hf : f ∈ s.files) : f.sure ≤ f.bytes.length := by
  have := h.waits f hf
  omega

theorem Ok.spent {s : St} (h : Ok s) : Ok s.spent := by
  refine ⟨h.rising, h.few, h.room, ?_, h.used, h.sizes, h.waits, h.named⟩
  have := h.fuse
  unfold St.spent
  simp only
  split <;> omega

/-- The first k of a file's bytes stay, and are sure. -/
def St.settle (s : St) (i k : Nat) : St := match s.files[i]? with
  | some f => { s with files := s.files.set i ⟨f.name, f.bytes.take k, k⟩, pieces := keepOf f.name s.pieces }
  | none => s
/-- A file is gone. -/
def St.drop (s : St) (i : Nat) : St := match s.files[i]? with
  | some f => { s with files := s.files.eraseIdx i, pieces := keepOf f.name s.pieces }
  | none => s

def St.len (s : St) (n : ByteArray) : Nat := match s.files[place s.names n]? with
  | some f => f.bytes.length
  | none => 0

def opSync (s : St) (n : ByteArray) : Int × St :=
  if s.power then if has s.names n then (0, s.spent.settle (place s.names n) (s.len n)) else (6, s.spent) else (12, s.spent)
def opCut (s : St) (n : ByteArray) (k : Int) : Int × St :=
  if s.power then if has s.names n then (0, s.spent.settle (place s.names n) (min (max k 0) (s.len n : Int)).toNat) else (6, s.spent) else (12, s.spent)
def opRemove (s : St) (n : ByteArray) : Int × St :=
  if s.power then if has s.names n then (0, s.spent.drop (place s.names n)) else (6, s.spent) else (12, s.spent)

theorem has_get {s : St} (hr : Rising s.names) {n : ByteArray} (h : has s.names n = true) : ∃ f, s.files[place s.names n]? = some f ∧ f.name = n ∧ f ∈ s.files := by
  obtain ⟨h1, h2⟩ := (place_mem hr n).1 (has_iff.1 h)
  have hl : place s.names n < s.files.length := by simpa [St.names] using h1
  refine ⟨s.files[place s.names n], List.getElem?_eq_getElem hl, ?_, List.getElem_mem hl⟩
  rw [getElem!_pos s.names (place s.names n) h1] at h2
  refine Eq.trans ?_ h2
  simp [St.names]
end Go.Proofs.Ytnmamaeoghgegaa.Dk

/-
  Sync and Cut.
-/
namespace Go.Proofs.Ytnmamaeoghgegaa.Dk
open Go.RowKit
set_option maxRecDepth 100000

theorem dhas_get {d : Ds} (hr : Rising d.names) {n : ByteArray} (h : has d.names n = true) : ∃ f, d.files[place d.names n]? = some f ∧ f.name = n ∧ f ∈ d.files := by
  obtain ⟨h1, h2⟩ := (place_mem hr n).1 (has_iff.1 h)
  have hl : place d.names n < d.files.length := by simpa [Ds.names] using h1
  refine ⟨d.files[place d.names n], List.getElem?_eq_getElem hl, ?_, List.getElem_mem hl⟩
  rw [getElem!_pos d.names (place d.names n) h1] at h2
  refine Eq.trans ?_ h2
  simp [Ds.names]

theorem Ok.rise {d : Ds} (h : Ok d.pl) : Rising d.names := by rw [← names_pl]; exact h.rising
theorem Ok.dfew {d : Ds} (h : Ok d.pl) : d.files.length ≤ 16 := by simpa [Ds.pl] using h.few
theorem Ok.dbytes {d : Ds} (h : Ok d.pl) {f : Fv} (hf : f ∈ d.files) : f.bytes.length ≤ 60000 := h.bytes (f := f.pl) (List.mem_map.2 ⟨f, hf, rfl⟩)
theorem pl_get {d : Ds} {i : Nat} {f : Fv} (h : d.files[i]? = some f) : d.pl.files[i]? = some f.pl := by
  show (d.files.map Fv.pl)[i]? = _
  rw [List.getElem?_map, h]
  rfl

theorem pl_settle {d : Ds} {i k : Nat} {f : Fv} {v' : Value} (hf : d.files[i]? = some f) : Ds.pl { d.spent with files := d.files.set i (f.settled k), pieces := keepOf f.name d.pieces, vp := v' } = d.pl.spent.settle i k := by
  have h1 : d.pl.spent.files[i]? = some f.pl := pl_get hf
  unfold St.settle
  rw [h1]
  simp only [Ds.pl, List.map_set]
  rfl

theorem foot_settle {d : Ds} {b i k : Nat} {f : Fv} {v' : Value} {l : List Pc} (hf : d.files[i]? = some f) (hv : v'.ownBlock = d.vp.ownBlock) (hc : (cutV f.v k).ownBlock = f.v.ownBlock) : Ds.foot b { d.spent with files := d.files.set i (f.settled k), pieces := l, vp := v' } = d.foot b := by
  unfold Ds.foot
  simp only
  rw [flatMap_set_same (fun f => ob f.v) d.files i f (f.settled k) hf (by show ob (cutV f.v k) = ob f.v; unfold ob; rw [hc])]
  unfold ob
  rw [hv]
  rfl

set_option maxHeartbeats 800000 in
theorem sync_any {w : World} {B b : Nat} {d : Ds} (h : Rep w B b d) (ok : Ok d.pl) (n : ByteArray) :
    Calls Try.prog 29 #[.pointer (some ⟨b, 0, none⟩), .string n] w fun e w' => e = .returned (.int .i64 (opSync d.pl n).1) ∧ ∃ d', Rep w' B b d' ∧ d'.pl = (opSync d.pl n).2 ∧ Step (d.foot b) (d'.foot b) w w' := by
  have ko := open_any h ok.fuse ok.rise (by have := ok.dfew; omega) n
  unfold opSync
  rw [power_pl, names_pl]
  cases hp : d.power with
  | false =>
    rw [hp] at ko
    simp only [Bool.false_and, Bool.false_eq_true, if_false] at ko ⊢
    clear h
    go_enter Try.func29, Try.ntmps29
    go_wp2_with (go_at_call 69; refine ko.mono ?_; rintro e w1 ⟨rfl, h1, s1⟩)
    go_ret
    exact ⟨rfl, d.spent, h1, rfl, s1⟩
  | true =>
    cases hh : has d.names n with
    | false =>
      rw [hp, hh] at ko
      simp only [Bool.and_false, Bool.false_eq_true, if_false, if_true] at ko ⊢
      clear h
      go_enter Try.func29, Try.ntmps29
      go_wp2_with (go_at_call 69; refine ko.mono ?_; rintro e w1 ⟨rfl, h1, s1⟩)
      go_ret
      exact ⟨rfl, d.spent, h1, rfl, s1⟩
    | true =>
      rw [hp, hh] at ko
      simp only [Bool.and_true, if_true] at ko ⊢
      obtain ⟨f, hf, hfn, hfm⟩ := dhas_get ok.rise hh
      generalize hi : place d.names n = i at *
      have hlt : i < d.files.length := (List.getElem?_eq_some_iff.1 hf).1
      have hlen : d.pl.len n = f.bytes.length := by
        unfold St.len
        rw [names_pl, hi, pl_get hf]
        rfl
      rw [hlen]
      obtain ⟨g, cap, ev, hcap, hcm, hg⟩ := h.vf_form hf
      have hfew := ok.dfew
      have hby := ok.dbytes hfm
      have ks : Aside (∀ u : World, Rep u B b d.spent → _) := fun (u : World) hu => settle_any (d := d.spent) (n := f.bytes.length) hu (by have := ok.pieces; exact Nat.le_trans this (by omega)) (by show d.files.length ≤ _; omega) hf (Nat.le_refl _) (by omega)
      have hfc : Aside (∀ u : World, Rep u B b d.spent → u.cell? ⟨b, 0, none⟩ = some (.slice (some ⟨g, 0, none⟩) d.files.length cap) ∧ u.cell? ⟨g, i * 3 + 1, none⟩ = some f.v) := fun (u : World) hu => ⟨by rw [← ev]; exact hu.c0, (hu.fcells (d := d.spent) hf hg).2.1⟩
      obtain ⟨a, c, ea⟩ := own_any (h.rows f hfm)
      have hcb : Aside ((cutV f.v f.bytes.length).ownBlock = f.v.ownBlock) := (own_cutV (h.rows f hfm) f.bytes.length (Nat.le_refl _)).2
      have HF : Aside (d.files[i]? = some f) := hf
      clear h hfn hfm hf hi hlen ev
      rw [ea] at hfc
      go_enter Try.func29, Try.ntmps29
      go_wp2_with (first
        | (go_at_call 69; refine ko.mono ?_; rintro e w1 ⟨rfl, h1, s1⟩; obtain ⟨x1, x2⟩ := hfc.out w1 h1)
        | (go_at_call 70; refine (ks.out _ h1).mono ?_; rintro e w2 ⟨rfl, v', hv, h2, s2⟩))
      go_ret
      refine ⟨rfl, _, h2, pl_settle HF.out, ?_⟩
      have fo : Ds.foot b { d.spent with files := d.files.set i (f.settled f.bytes.length), pieces := keepOf f.name d.pieces, vp := v' } = d.foot b := foot_settle HF.out hv hcb.out
      exact (s1.trans s2).trans (fo ▸ Step.refl _ _)
end Go.Proofs.Ytnmamaeoghgegaa.Dk

/-
  Cut.
-/
namespace Go.Proofs.Ytnmamaeoghgegaa.Dk
open Go.RowKit
set_option maxRecDepth 100000

theorem min_max_cases (k : Int) (l : Nat) : ∃ m : Nat, (min (max k 0) (l : Int)).toNat = m ∧ m ≤ l ∧ (m : Int) = min (max k 0) (l : Int) := ⟨_, rfl, by omega, by omega⟩

set_option maxHeartbeats 1600000 in
theorem cut_any {w : World} {B b : Nat} {d : Ds} (h : Rep w B b d) (ok : Ok d.pl) (n : ByteArray) (k : Int) :
    Calls Try.prog 50 #[.pointer (some ⟨b, 0, none⟩), .string n, .int .i64 k] w fun e w' => e = .returned (.int .i64 (opCut d.pl n k).1) ∧ ∃ d', Rep w' B b d' ∧ d'.pl = (opCut d.pl n k).2 ∧ Step (d.foot b) (d'.foot b) w w' := by
  have ko := open_any h ok.fuse ok.rise (by have := ok.dfew; omega) n
  unfold opCut
  rw [power_pl, names_pl]
  cases hp : d.power with
  | false =>
    rw [hp] at ko
    simp only [Bool.false_and, Bool.false_eq_true, if_false] at ko ⊢
    clear h
    go_enter Try.func50, Try.ntmps50
    go_wp2_with (go_at_call 69; refine ko.mono ?_; rintro e w1 ⟨rfl, h1, s1⟩)
    go_ret
    exact ⟨rfl, d.spent, h1, rfl, s1⟩
  | true =>
    cases hh : has d.names n with
    | false =>
      rw [hp, hh] at ko
      simp only [Bool.and_false, Bool.false_eq_true, if_false, if_true] at ko ⊢
      clear h
      go_enter Try.func50, Try.ntmps50
      go_wp2_with (go_at_call 69; refine ko.mono ?_; rintro e w1 ⟨rfl, h1, s1⟩)
      go_ret
      exact ⟨rfl, d.spent, h1, rfl, s1⟩
    | true =>
      rw [hp, hh] at ko
      simp only [Bool.and_true, if_true] at ko ⊢
      obtain ⟨f, hf, hfn, hfm⟩ := dhas_get ok.rise hh
      generalize hi : place d.names n = i at *
      have hlt : i < d.files.length := (List.getElem?_eq_some_iff.1 hf).1
      have hlen : d.pl.len n = f.bytes.length := by
        unfold St.len
        rw [names_pl, hi, pl_get hf]
        rfl
      rw [hlen]
      obtain ⟨m, em, hml, hm⟩ := min_max_cases k f.bytes.length
      rw [em]
      clear em
      obtain ⟨g, cap, ev, hcap, hcm, hg⟩ := h.vf_form hf
      have hfew := ok.dfew
      have hby := ok.dbytes hfm
      have ks : Aside (∀ u : World, Rep u B b d.spent → _) := fun (u : World) hu => settle_any (d := d.spent) (n := m) hu (by have := ok.pieces; exact Nat.le_trans this (by omega)) (by show d.files.length ≤ _; omega) hf hml (by omega)
      have hfc : Aside (∀ u : World, Rep u B b d.spent → u.cell? ⟨b, 0, none⟩ = some (.slice (some ⟨g, 0, none⟩) d.files.length cap) ∧ u.cell? ⟨g, i * 3 + 1, none⟩ = some f.v) := fun (u : World) hu => ⟨by rw [← ev]; exact hu.c0, (hu.fcells (d := d.spent) hf hg).2.1⟩
      obtain ⟨a, c, ea⟩ := own_any (h.rows f hfm)
      have hcb : Aside ((cutV f.v m).ownBlock = f.v.ownBlock) := (own_cutV (h.rows f hfm) m hml).2
      have HF : Aside (d.files[i]? = some f) := hf
      have fo : Aside (∀ v' : Value, v'.ownBlock = d.vp.ownBlock → Ds.foot b { d.spent with files := d.files.set i (f.settled m), pieces := keepOf f.name d.pieces, vp := v' } = d.foot b) := fun v' hv => foot_settle hf hv hcb.out
      clear h hfn hfm hf hi hlen ev
      rw [ea] at hfc
      generalize f.bytes.length = L at *
      rw [hm] at ks
      go_enter Try.func50, Try.ntmps50
      go_wp2_with (first
        | (go_at_call 69; refine ko.mono ?_; rintro e w1 ⟨rfl, h1, s1⟩; obtain ⟨x1, x2⟩ := hfc.out w1 h1)
        | (go_at_call 70; refine (ks.out _ h1).mono ?_; rintro e w2 ⟨rfl, v', hv, h2, s2⟩))
      go_ret
      exact ⟨rfl, _, h2, pl_settle HF.out, (s1.trans s2).trans (fo.out v' hv ▸ Step.refl _ _)⟩
end Go.Proofs.Ytnmamaeoghgegaa.Dk

/-
  What is asked of a disk: Used, Waits, Holes, Down, Free, Read, Sure.
-/
namespace Go.Proofs.Ytnmamaeoghgegaa.Dk
open Go.RowKit
set_option maxRecDepth 100000

theorem Rep.row {w : World} {B b : Nat} {d : Ds} (h : Rep w B b d) : ∃ a cap, d.vf = .slice a d.files.length cap ∧ ∀ t, t < d.files.length → ∃ g a' c', a = some ⟨g, 0, none⟩ ∧ w.cell? ⟨g, t * 3, none⟩ = some (.string d.files[t]!.name) ∧ w.cell? ⟨g, t * 3 + 1, none⟩ = some (.slice a' d.files[t]!.bytes.length c') ∧ w.cell? ⟨g, t * 3 + 2, none⟩ = some (.int .i64 (d.files[t]!.sure : Int)) := by
  obtain ⟨a, cap, e⟩ := own_any h.tab
  refine ⟨a, cap, e, fun t ht => ?_⟩
  obtain ⟨g, c', e', _, _, hg⟩ := own_form h.tab (by omega)
  have hf := getbang d.files t ht
  obtain ⟨c0, c1, c2⟩ := flat_at hf
  obtain ⟨a', c'', e''⟩ := own_any (h.rows _ (List.mem_of_getElem? hf))
  rw [e''] at c1
  rw [e] at e'
  injection e' with e1 e2 e3
  exact ⟨g, a', c'', e1, own_cell h.tab hg c0, own_cell h.tab hg c1, own_cell h.tab hg c2⟩

theorem Rep.prow {w : World} {B b : Nat} {d : Ds} (h : Rep w B b d) : ∃ a cap, d.vp = .slice a d.pieces.length cap ∧ ∀ t, t < d.pieces.length → ∃ g, a = some ⟨g, 0, none⟩ ∧ w.cell? ⟨g, t * 2, none⟩ = some (.string d.pieces[t]!.name) ∧ w.cell? ⟨g, t * 2 + 1, none⟩ = some (.int .i64 (d.pieces[t]!.size : Int)) := by
  obtain ⟨a, cap, e⟩ := own_any h.pcs
  refine ⟨a, cap, e, fun t ht => ?_⟩
  have := h.pcs
  rw [e] at this
  exact row_cells this t ht

def usedL (l : List Fv) : Nat := (l.map fun f => f.bytes.length).sum
theorem used_pl (d : Ds) : d.pl.total = usedL d.files := by
  unfold St.total usedL Ds.pl
  simp only [List.map_map]
  rfl
theorem used_next (l : List Fv) (k : Nat) (h : k < l.length) : usedL (l.take (k + 1)) = usedL (l.take k) + l[k]!.bytes.length := by
  rw [take_next l k h]
  simp [usedL]
theorem used_take (l : List Fv) (k : Nat) : usedL (l.take k) ≤ usedL l := by
  have := congrArg usedL (List.take_append_drop k l)
  unfold usedL at this ⊢
  rw [List.map_append, List.sum_append] at this
  omega

def sizeL (l : List Pc) : Nat := (l.map Pc.size).sum
theorem size_next (l : List Pc) (k : Nat) (h : k < l.length) : sizeL (l.take (k + 1)) = sizeL (l.take k) + l[k]!.size := by
  rw [take_next l k h]
  simp [sizeL]
theorem size_take (l : List Pc) (k : Nat) : sizeL (l.take k) ≤ sizeL l := by
  have := congrArg sizeL (List.take_append_drop k l)
  unfold sizeL at this ⊢
  rw [List.map_append, List.sum_append] at this
  omega
def St.late (s : St) : Nat := sizeL s.pieces

set_option maxHeartbeats 800000 in
theorem used_any {w : World} {B b : Nat} {d : Ds} (h : Rep w B b d) (ok : Ok d.pl) :
    Calls Try.prog 39 #[.pointer (some ⟨b, 0, none⟩)] w fun e w' => e = .returned (.int .i64 (d.pl.total : Nat)) ∧ Below w.heap.size w w' := by
  have c0 := h.c0
  obtain ⟨a, cap, ev, hc'⟩ := h.row
  have hc : Aside (∀ t, t < d.files.length → ∃ g a' c', a = some ⟨g, 0, none⟩ ∧ w.cell? ⟨g, t * 3, none⟩ = some (.string d.files[t]!.name) ∧ w.cell? ⟨g, t * 3 + 1, none⟩ = some (.slice a' d.files[t]!.bytes.length c') ∧ w.cell? ⟨g, t * 3 + 2, none⟩ = some (.int .i64 (d.files[t]!.sure : Int))) := hc'
  rw [ev] at c0
  have hu : usedL d.files ≤ 60000 := by rw [← used_pl]; exact ok.used
  rw [used_pl]
  have hfew := ok.dfew
  clear hc' h ok ev
  generalize d.files = l at *
  go_enter Try.func39, Try.ntmps39
  go_wp2
  go_loopg [3, 5, 13] l.length (fun gh s3 _ s13 wr => ∃ k : Nat, l.length - k ≤ gh ∧ k ≤ l.length ∧ s3 = .int .i64 (usedL (l.take k) : Nat) ∧ s13 = .int .i64 (k : Int) ∧ Below w.heap.size w wr)
  case atStart => exact ⟨0, by omega, by omega, rfl, rfl, Below.refl _ _⟩
  case round =>
    obtain ⟨k, hgh, hk, rfl, rfl, hb⟩ := hrel
    have hsz := hb.size
    by_cases hlt : k < l.length
    · have d3 : decide (k < l.length) = true := by simpa using hlt
      obtain ⟨g, a', c', rfl, e0, e1, e2⟩ := hc.out k hlt
      replace e0 := cell_below e0 hb
      replace e1 := cell_below e1 hb
      replace e2 := cell_below e2 hb
      have hn := used_next l k hlt
      have hle := used_take l (k + 1)
      generalize l[k]! = y at *
      have HN : Aside (usedL (l.take (k + 1)) = usedL (l.take k) + y.bytes.length) := hn
      have hadd : usedL (l.take k) + y.bytes.length ≤ 60000 := by omega
      clear hn hle
      go_wp2
      go_roundg (l.length - (k + 1))
      case measure => omega
      case rel => exact ⟨k + 1, Nat.le_refl _, by omega, by rw [HN.out]; go_num, by go_num, hb.alloc hsz _⟩
    · obtain rfl : k = l.length := by omega
      have d3 : decide (l.length < l.length) = false := by simp
      rw [List.take_of_length_le (Nat.le_refl _)]
      go_wp2
      go_ret
      exact ⟨rfl, hb⟩

set_option maxHeartbeats 800000 in
theorem waits_any {w : World} {B b : Nat} {d : Ds} (h : Rep w B b d) (ok : Ok d.pl) :
    Calls Try.prog 14 #[.pointer (some ⟨b, 0, none⟩)] w fun e w' => e = .returned (.int .i64 (d.pl.late : Nat)) ∧ Below w.heap.size w w' := by
  have c1 := h.c1
  obtain ⟨a, cap, ev, hc'⟩ := h.prow
  have hc : Aside (∀ t, t < d.pieces.length → ∃ g, a = some ⟨g, 0, none⟩ ∧ w.cell? ⟨g, t * 2, none⟩ = some (.string d.pieces[t]!.name) ∧ w.cell? ⟨g, t * 2 + 1, none⟩ = some (.int .i64 (d.pieces[t]!.size : Int))) := hc'
  rw [ev] at c1
  have hu : sizeL d.pieces ≤ 60000 := Nat.le_trans ok.sum ok.used
  have hfew : d.pieces.length ≤ 60000 := ok.pieces
  show Calls Try.prog 14 _ w fun e w' => e = .returned (.int .i64 (sizeL d.pieces : Nat)) ∧ Below w.heap.size w w'
  clear hc' h ok ev
  generalize d.pieces = l at *
  go_enter Try.func14, Try.ntmps14
  go_wp2
  go_loopg [3, 5, 13] l.length (fun gh s3 _ s13 wr => ∃ k : Nat, l.length - k ≤ gh ∧ k ≤ l.length ∧ s3 = .int .i64 (sizeL (l.take k) : Nat) ∧ s13 = .int .i64 (k : Int) ∧ Below w.heap.size w wr)
  case atStart => exact ⟨0, by omega, by omega, rfl, rfl, Below.refl _ _⟩
  case round =>
    obtain ⟨k, hgh, hk, rfl, rfl, hb⟩ := hrel
    have hsz := hb.size
    by_cases hlt : k < l.length
    · have d3 : decide (k < l.length) = true := by simpa using hlt
      obtain ⟨g, rfl, e0, e1⟩ := hc.out k hlt
      replace e0 := cell_below e0 hb
      replace e1 := cell_below e1 hb
      have hn := size_next l k hlt
      have hle := size_take l (k + 1)
      generalize l[k]! = y at *
      have HN : Aside (sizeL (l.take (k + 1)) = sizeL (l.take k) + y.size) := hn
      have hadd : sizeL (l.take k) + y.size ≤ 60000 := by omega
      clear hn hle
      go_wp2
      go_roundg (l.length - (k + 1))
      case measure => omega
      case rel => exact ⟨k + 1, Nat.le_refl _, by omega, by rw [HN.out]; go_num, by go_num, hb.alloc hsz _⟩
    · obtain rfl : k = l.length := by omega
      have d3 : decide (l.length < l.length) = false := by simp
      rw [List.take_of_length_le (Nat.le_refl _)]
      go_wp2
      go_ret
      exact ⟨rfl, hb⟩

theorem holes_any {w : World} {B b : Nat} {d : Ds} (h : Rep w B b d) (ok : Ok d.pl) :
    Calls Try.prog 38 #[.pointer (some ⟨b, 0, none⟩)] w fun e w' => e = .returned (.int .i64 (16 - (d.pl.files.length : Int))) ∧ w' = w := by
  have c0 := h.c0
  obtain ⟨a, cap, ev⟩ := own_any h.tab
  rw [ev] at c0
  have hfew := ok.dfew
  have hl : d.pl.files.length = d.files.length := by simp [Ds.pl]
  rw [hl]
  clear h ok ev hl
  generalize d.files.length = n at *
  go_enter Try.func38, Try.ntmps38
  go_wp2
  go_ret
  exact ⟨rfl, rfl⟩

theorem down_any {w : World} {B b : Nat} {d : Ds} (h : Rep w B b d) :
    Calls Try.prog 63 #[.pointer (some ⟨b, 0, none⟩)] w fun e w' => e = .returned (.bool d.pl.down) ∧ w' = w := by
  have c5 := h.c5
  clear h
  show Calls Try.prog 63 _ w fun e w' => e = .returned (.bool d.down) ∧ w' = w
  go_enter Try.func63, Try.ntmps63
  go_wp2
  go_ret
  exact ⟨rfl, rfl⟩

def St.free (s : St) : Nat := s.room - s.total

theorem Rep.drew {w : World} {B b : Nat} {d : Ds} (h : Rep w B b d) : Rep w.drew B b d := h.frame fun _ _ => rfl
theorem below_drew {w w' : World} (h : Below w.drew.heap.size w.drew w') : Below w.heap.size w w' := ⟨h.os, h.tape, h.output, h.size, h.block⟩

theorem free_any {w : World} {B b : Nat} {d : Ds} (h : Rep w B b d) (ok : Ok d.pl) :
    Calls Try.prog 62 #[.pointer (some ⟨b, 0, none⟩)] w fun e w' => e = .returned (.int .i64 (d.pl.free : Nat)) ∧ Below w.heap.size w w' := by
  have c2 := h.c2
  have ku := used_any h.drew ok
  have hr : d.room ≤ 60000 := ok.room
  have hu := ok.used
  have F : Aside (d.pl.free = d.room - d.pl.total) := (rfl : d.pl.free = d.room - d.pl.total)
  clear h ok
  generalize d.pl.total = T at *
  generalize d.room = R at *
  rw [F.out]
  have hw : IntKind.i64.wrap ((R : Int) - (T : Int)) = (R : Int) - (T : Int) := by rw [IntKind.wrap_i64]; omega
  go_enter Try.func62, Try.ntmps62
  go_wp2
  go_region_with (go_at_call 39; refine ku.mono ?_; rintro e w1 ⟨rfl, hb'⟩; have hb := below_drew hb'; have c2' := cell_below c2 hb)
  all_goals
    go_wp2
    go_ret
    refine ⟨?_, hb⟩
    show Ending.returned (Value.int .i64 (max ((R : Int) - (T : Int)) 0)) = _
    congr 2
    omega

theorem conv_row {w : World} {base : Nat} {v : Value} {l : List UInt8} (h : w.ownsRow base 5 1 v l.length (bcells l)) : (convert 49 9 v).run Try.prog w = .ok (.string ⟨l.toArray⟩) w := by
  rcases h.2 with ⟨rfl, h0⟩ | ⟨g, cap, cur, rfl, hg, hh, _⟩
  · have : l = [] := List.eq_nil_of_length_eq_zero h0
    subst this
    exact run_convert_bytes_nil w 49 5 Try.underlying49 Try.underlying5 0 0 9 Try.underlying9
  · have := run_convert_bytes_arg w 49 5 Try.underlying49 Try.underlying5 g 0 l.length cap (l.map fun b => (b.toNat : Int)) (by simp) (fun i hi => by
      have hi' : i < l.length := by simpa using hi
      rw [Nat.zero_add, h.cellAt i (by omega)]
      simp [bcells, List.getElem?_eq_getElem hi']) 9 Try.underlying9
    rw [this]
    congr 2
    unfold strOfNums
    congr 1
    simp only [List.map_map]
    congr 1
    conv => rhs; rw [← List.map_id l]
    refine List.map_congr_left fun x _ => ?_
    show UInt8.ofNat ((x.toNat : Int)).toNat = x
    simp

def St.bytesOf (s : St) (n : ByteArray) : List UInt8 := match s.files[place s.names n]? with
  | some f => f.bytes
  | none => []
def St.sureOf (s : St) (n : ByteArray) : Nat := match s.files[place s.names n]? with
  | some f => f.sure
  | none => 0
def opRead (s : St) (n : ByteArray) : ByteArray × Int := if has s.names n then (⟨(s.bytesOf n).toArray⟩, 0) else (⟨#[]⟩, 6)
def opSure (s : St) (n : ByteArray) : Nat := if has s.names n then s.sureOf n else 0

set_option maxHeartbeats 800000 in
theorem read_any {w : World} {B b : Nat} {d : Ds} (h : Rep w B b d) (ok : Ok d.pl) (n : ByteArray) :
    Calls Try.prog 12 #[.pointer (some ⟨b, 0, none⟩), .string n] w fun e w' => e = .returned (.tuple #[.string (opRead d.pl n).1, .int .i64 (opRead d.pl n).2]) ∧ Below w.heap.size w w' := by
  have kf := find_any h ok.rise (by have := ok.dfew; omega) n
  unfold opRead St.bytesOf
  rw [names_pl]
  cases hh : has d.names n with
  | false =>
    rw [hh] at kf
    clear h ok
    simp only [Bool.false_eq_true, if_false]
    go_enter Try.func12, Try.ntmps12
    go_wp2_with (go_at_call 33; refine kf.mono ?_; rintro e w1 ⟨rfl, hb⟩)
    go_ret2
    exact ⟨rfl, hb⟩
  | true =>
    rw [hh] at kf
    obtain ⟨f, hf, hfn, hfm⟩ := dhas_get ok.rise hh
    have hfp := pl_get hf
    simp only [if_true]
    rw [hfp]
    generalize place d.names n = i at *
    have hlt : i < d.files.length := (List.getElem?_eq_some_iff.1 hf).1
    obtain ⟨g, cap, ev, hcap, hcm, hg⟩ := h.vf_form hf
    have hfew := ok.dfew
    have hfc : Aside (∀ u : World, Rep u B b d → u.cell? ⟨b, 0, none⟩ = some (.slice (some ⟨g, 0, none⟩) d.files.length cap) ∧ u.cell? ⟨g, i * 3 + 1, none⟩ = some f.v) := fun (u : World) hu => ⟨by rw [← ev]; exact hu.c0, (hu.fcells hf hg).2.1⟩
    have hcv : Aside (∀ u : World, Rep u B b d → (convert 49 9 f.v).run Try.prog u = .ok (.string ⟨f.bytes.toArray⟩) u) := fun (u : World) hu => conv_row (hu.rows f hfm)
    obtain ⟨a, c, ea⟩ := own_any (h.rows f hfm)
    have H : Aside (Rep w B b d) := h
    rw [ea] at hfc hcv
    clear h ok hf hfn hfm hfp ev ea
    show Calls Try.prog 12 _ w fun e w' => e = .returned (.tuple #[.string ⟨f.bytes.toArray⟩, .int .i64 0]) ∧ _
    go_enter Try.func12, Try.ntmps12
    go_wp2_with (go_at_call 33; refine kf.mono ?_; rintro e w1 ⟨rfl, hb⟩; obtain ⟨x1, x2⟩ := hfc.out w1 (H.out.below hb); have x3 := hcv.out w1 (H.out.below hb))
    go_ret2
    exact ⟨rfl, hb⟩

set_option maxHeartbeats 800000 in
theorem sure_any {w : World} {B b : Nat} {d : Ds} (h : Rep w B b d) (ok : Ok d.pl) (n : ByteArray) :
    Calls Try.prog 58 #[.pointer (some ⟨b, 0, none⟩), .string n] w fun e w' => e = .returned (.int .i64 (opSure d.pl n : Nat)) ∧ Below w.heap.size w w' := by
  have kf := find_any h ok.rise (by have := ok.dfew; omega) n
  unfold opSure St.sureOf
  rw [names_pl]
  cases hh : has d.names n with
  | false =>
    rw [hh] at kf
    clear h ok
    simp only [Bool.false_eq_true, if_false]
    go_enter Try.func58, Try.ntmps58
    go_wp2_with (go_at_call 33; refine kf.mono ?_; rintro e w1 ⟨rfl, hb⟩)
    go_ret
    exact ⟨rfl, hb⟩
  | true =>
    rw [hh] at kf
    obtain ⟨f, hf, hfn, hfm⟩ := dhas_get ok.rise hh
    have hfp := pl_get hf
    simp only [if_true]
    rw [hfp]
    generalize place d.names n = i at *
    have hlt : i < d.files.length := (List.getElem?_eq_some_iff.1 hf).1
    obtain ⟨g, cap, ev, hcap, hcm, hg⟩ := h.vf_form hf
    have hfew := ok.dfew
    have hfc : Aside (∀ u : World, Rep u B b d → u.cell? ⟨b, 0, none⟩ = some (.slice (some ⟨g, 0, none⟩) d.files.length cap) ∧ u.cell? ⟨g, i * 3 + 2, none⟩ = some (.int .i64 (f.sure : Int))) := fun (u : World) hu => ⟨by rw [← ev]; exact hu.c0, (hu.fcells hf hg).2.2⟩
    have H : Aside (Rep w B b d) := h
    clear h ok hf hfn hfm hfp ev
    show Calls Try.prog 58 _ w fun e w' => e = .returned (.int .i64 (f.sure : Nat)) ∧ _
    go_enter Try.func58, Try.ntmps58
    go_wp2_with (go_at_call 33; refine kf.mono ?_; rintro e w1 ⟨rfl, hb⟩; obtain ⟨x1, x2⟩ := hfc.out w1 (H.out.below hb))
    go_ret
    exact ⟨rfl, hb⟩
end Go.Proofs.Ytnmamaeoghgegaa.Dk
