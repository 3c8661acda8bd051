/-
  One byte of a path's form, as the program writes it.
-/
import Derived.Test.YtkijglkjpgjdaaaDoorC9
import Derived.Test.YtkijglkjpgjdaaaDoorHW8
namespace Go.Proofs.YtkijglkjpgjdaaaDoor
open Go.RowKit

theorem digit_is (n : Nat) (hn : n < 16) (w : World) : (Instr.index 9 (.string ⟨#[48, 49, 50, 51, 52, 53, 54, 55, 56, 57, 65, 66, 67, 68, 69, 70]⟩) (.int .u8 (n : Int))).run Tryd.prog w = .ok (.int .u8 ((Cn.hexC n).toNat : Int)) w := by
  have hb : ∀ m : Fin 16, (⟨#[48, 49, 50, 51, 52, 53, 54, 55, 56, 57, 65, 66, 67, 68, 69, 70]⟩ : ByteArray)[m.val]? = some (Cn.hexC m.val) := by decide
  have h1 := hb ⟨n, hn⟩
  simp only at h1
  have h0 : (0 : Int) ≤ (n : Int) := by omega
  simp only [Instr.index, asIntOf, Sem.run_bind, Sem.run_pure, Result.andThen_ok, run_underlying Tryd.underlying9, h0, if_true, Int.toNat_natCast, h1]

theorem and15 (x : Nat) (h : x < 256) : bits BinOp.and IntKind.u8 (x : Int) 15 = ((x % 16 : Nat) : Int) := by
  have h : ∀ m : Fin 256, bits BinOp.and IntKind.u8 (m.val : Int) 15 = ((m.val % 16 : Nat) : Int) := by decide +kernel
  exact h ⟨x, by assumption⟩

theorem append_to {P : Program} {Q : Exit → Act → World → Prop} {o : Oper} {a : Act} {w : World} {K : Act → World → Prop} (dst : Option Tmp) (hdst : o.dst = dst) (s x : Operand) (t : TypeId)
    (ho : o.op = .call { callee := .builtin .append, args := #[s, x], argTypes := #[t, t] })
    (base : Nat) (e : TypeId) (i : TypeInfo) (z : Value) (size bytes : Nat) (ht : P.underlying t = some (.slice e)) (hi : P.info? e = some i) (hz : i.zero = some z)
    (hsize : i.size = size) (hby : i.bytes = bytes) (hzs : z.cells.size = size) (hsz : 0 < size)
    (v : Value) (n : Nat) (xs : List Value) (hs : a.eval s = v) (hown : w.ownsRow base e size v n xs)
    (ad : Addr) (m c : Nat) (news : List Value) (hx : a.eval x = .slice (some ad) m c) (hl : news.length = m * size) (hnews : ∀ j u, news[j]? = some u → w.cell? (ad.add j) = some u) (h1 : ∀ u ∈ news, u.oneCell' = true)
    (h63 : n + m ≤ maxLen) (hbytes : (n + m) * bytes ≤ 140737488355328) (hbase : base ≤ w.heap.size)
    (h : ∀ v' w', w'.ownsRow base e size v' (n + m) (xs ++ news) → w.grownBy w' v.ownBlock → (v' = .slice none 0 0 ↔ v = .slice none 0 0 ∧ m = 0) → K (a.put dst v') w') : o.wp P a w K Q := by
  subst hdst
  exact wp_append_own w s x t ho base e i z size bytes ht hi hz hsize hby hzs hsz v n xs hs hown ad m c news hx hl hnews h1 h63 hbytes hbase h

theorem cellsB_app (l m : List UInt8) : Pa.cellsB l ++ Pa.cellsB m = Pa.cellsB (l ++ m) := by simp [Pa.cellsB]

set_option maxHeartbeats 1600000 in
set_option maxRecDepth 100000 in
theorem appendByte_any (base : Nat) (v : Value) (L : List UInt8) (b : UInt8) (w : World) (hown : w.ownsRow base 5 1 v L.length (Pa.cellsB L)) (hL : L.length ≤ 1000000) (hB : base ≤ w.heap.size) :
    Calls Tryd.prog 38 #[v, .int .u8 (b.toNat : Int)] w fun e w' => ∃ v', e = .returned v' ∧ w'.ownsRow base 5 1 v' (L ++ Cn.writeB b).length (Pa.cellsB (L ++ Cn.writeB b)) ∧ Below base w w' := by
  obtain ⟨i0, hi, hz0, hz1, hz2⟩ := info_parts Pa.Tryd.info5
  have hb := b.toNat_lt
  have k1 := isPlain_any b
  by_cases hc : Cn.plain b = true
  · rw [hc] at k1
    have e : Aside (Cn.writeB b = [b]) := by show _ = _; unfold Cn.writeB; rw [if_pos hc]
    clear hc
    go_enter Tryd.func38, Tryd.ntmps38
    go_wp2_with (first
      | (go_at_call 64; refine (k1 _).mono ?_; rintro e w1 ⟨rfl, rfl⟩)
      | (at_builtin; refine wpList_append_own _ rfl (.tmp 7) (.tmp 9) 41 rfl base 5 i0 (.int .u8 0) 1 1 Tryd.underlying41 hi hz0 hz1 hz2 rfl (by decide) _ _ _ rfl (hown.alloc _) ⟨_, 0, none⟩ 1 1 [.int .u8 (b.toNat : Int)] rfl rfl ?c1 ?c2 ?c3 ?c4 ?c5 ?_))
    case c1 => exact (cell_one_new _ _ _)
    case c2 => intro u hu; simp at hu; subst hu; rfl
    case c3 => unfold maxLen; omega
    case c4 => omega
    case c5 => simp; omega
    intro v' w3 hown' hgrow _
    go_wp2
    go_ret
    refine ⟨_, rfl, ?_, ((Below.refl base _).alloc hB _).grown hgrow (by rw [size_alloc]; omega) (fun g hg => (hown.lt g hg).1)⟩
    rw [e.out, ← Pa.cellsB_snoc, List.length_append]
    exact hown'
  · have hc : Cn.plain b = false := by simpa using hc
    rw [hc] at k1
    obtain ⟨x, hx⟩ : ∃ x, b.toNat = x := ⟨_, rfl⟩
    obtain ⟨p, hp⟩ : ∃ p, p = x / 16 := ⟨_, rfl⟩
    obtain ⟨q, hq⟩ : ∃ q, q = x % 16 := ⟨_, rfl⟩
    have e : Aside (Cn.writeB b = [37, Cn.hexC p, Cn.hexC q]) := by
      show _ = _
      unfold Cn.writeB
      rw [hc, hx, hp, hq]
      rfl
    rw [hx] at k1 hb ⊢
    have e1 : (x : Int) / 16 = (p : Int) := by omega
    have e2 : bits BinOp.and IntKind.u8 (x : Int) 15 = (q : Int) := by rw [hq]; exact and15 x hb
    have g1 := digit_is p (by omega)
    have g2 := digit_is q (by omega)
    clear hp hq hc
    generalize Cn.hexC p = hp at *
    generalize Cn.hexC q = hq at *
    have H : Aside (w.ownsRow base 5 1 v L.length (Pa.cellsB L)) := hown
    clear hown
    go_enter Tryd.func38, Tryd.ntmps38
    go_wp2_with (go_at_call 64; refine (k1 _).mono ?_; rintro e w1 ⟨rfl, rfl⟩)
    refine wp_region_any (by kernel_rfl) ?_
    change wpAny _ _ _ _ _ _ _ (World.drew _)
    refine Ha.take_to (i := 0) (v := v) (some 11) rfl rfl (by kernel_rfl) (by kernel_rfl) (by kernel_rfl) (fun _ _ _ h => h) (Or.inl ⟨by rfl, fun u => by go_simp⟩) ?_
    simp only [Act.put, List.setIfInBounds_toArray, List.set_cons_zero, List.set_cons_succ]
    refine Ha.take_to (i := 1) (v := .int .u8 (x : Int)) (some 12) rfl rfl (by kernel_rfl) (by kernel_rfl) (by kernel_rfl) (fun _ _ _ h => h) (Or.inl ⟨by rfl, fun u => by go_simp⟩) ?_
    simp only [Act.put, List.setIfInBounds_toArray, List.set_cons_zero, List.set_cons_succ]
    refine Ha.take_to (i := 2) (v := .int .u8 (p : Int)) (some 13) rfl rfl (by kernel_rfl) (by kernel_rfl) (by kernel_rfl) (fun _ _ _ h => h) (Or.inl ⟨by rfl, fun u => by go_simp⟩) ?_
    simp only [Act.put, List.setIfInBounds_toArray, List.set_cons_zero, List.set_cons_succ]
    refine Ha.take_to (i := 3) (v := .int .u8 (hp.toNat : Int)) (some 14) rfl rfl (by kernel_rfl) (by kernel_rfl) (by kernel_rfl) (fun _ _ _ h => h) (Or.inl ⟨by rfl, fun u => by go_simp⟩) ?_
    simp only [Act.put, List.setIfInBounds_toArray, List.set_cons_zero, List.set_cons_succ]
    refine Ha.take_to (i := 4) (v := .int .u8 (x : Int)) (some 15) rfl rfl (by kernel_rfl) (by kernel_rfl) (by kernel_rfl) (fun _ _ _ h => h) (Or.inl ⟨by rfl, fun u => by go_simp⟩) ?_
    simp only [Act.put, List.setIfInBounds_toArray, List.set_cons_zero, List.set_cons_succ]
    refine Ha.take_to (i := 5) (v := .int .u8 (q : Int)) (some 16) rfl rfl (by kernel_rfl) (by kernel_rfl) (by kernel_rfl) (fun _ _ _ h => h) (Or.inl ⟨by rfl, fun u => by go_simp⟩) ?_
    simp only [Act.put, List.setIfInBounds_toArray, List.set_cons_zero, List.set_cons_succ]
    refine Ha.take_to (i := 6) (v := .int .u8 (hq.toNat : Int)) (some 17) rfl rfl (by kernel_rfl) (by kernel_rfl) (by kernel_rfl) (fun _ _ _ h => h) (Or.inl ⟨by rfl, fun u => by go_simp⟩) ?_
    simp only [Act.put, List.setIfInBounds_toArray, List.set_cons_zero, List.set_cons_succ]
    refine wpAny_ready (rs := [7]) (by kernel_rfl) (by simp) ?_
    refine AllReady.cons rfl (fun K hK => ?_) AllReady.nil
    rw [if_pos (by rfl)]
    go_simp
    refine hK _ _ ?_
    clear hK K
    have hown2 : (w1.drew.alloc (.cells #[.int .u8 37, .int .u8 (hp.toNat : Int), .int .u8 (hq.toNat : Int)] 5)).ownsRow base 5 1 v L.length (Pa.cellsB L) := H.out.drew.alloc _
    refine wpAny_ready (rs := [8]) (by kernel_rfl) (by simp) ?_
    refine AllReady.cons rfl (fun K hK => ?_) AllReady.nil
    rw [if_pos (by rfl)]
    refine append_to (some 19) rfl (.tmp 11) (.tmp 18) 41 rfl base 5 i0 (.int .u8 0) 1 1 Tryd.underlying41 hi hz0 hz1 hz2 rfl (by decide) v L.length (Pa.cellsB L) rfl hown2 ⟨w1.drew.heap.size, 0, none⟩ 3 3 (Pa.cellsB [37, hp, hq]) rfl rfl ?c1 ?c2 ?c3 ?c4 ?c5 ?_
    case c1 =>
      intro j u hu
      have := (Ha.Blk.new w1.drew 5 #[.int .u8 37, .int .u8 (hp.toNat : Int), .int .u8 (hq.toNat : Int)]).cell (i := j) (v := u) (by simpa [Pa.cellsB] using hu)
      rw [Addr.add_mid, Nat.zero_add]
      exact this
    case c2 => intro u hu; simp only [Pa.cellsB, List.map_cons, List.map_nil, List.mem_cons, List.not_mem_nil, or_false] at hu; rcases hu with rfl | rfl | rfl <;> rfl
    case c3 => unfold maxLen; omega
    case c4 => omega
    case c5 => show base ≤ (w1.alloc _).heap.size; rw [size_alloc]; omega
    intro v' w3 hown' hgrow _
    refine hK _ _ ?_
    clear hK K
    have R : Aside (w3.ownsRow base 5 1 v' (L ++ Cn.writeB b).length (Pa.cellsB (L ++ Cn.writeB b)) ∧ Below base w1 w3) := by
      rw [e.out, ← cellsB_app, List.length_append]
      exact ⟨hown', (((Below.refl base _).alloc hB _).drew).grown hgrow (by show base ≤ (w1.alloc _).heap.size; rw [size_alloc]; omega) (fun g hg => (H.out.lt g hg).1)⟩
    clear hown' hgrow H g1 g2 hown2
    simp only [Act.put, List.setIfInBounds_toArray, List.set_cons_zero, List.set_cons_succ]
    refine Ha.take_to (i := 9) (v := v') (some 4) rfl rfl (by kernel_rfl) (by kernel_rfl) (by kernel_rfl) (fun _ _ _ h => h) (Or.inl ⟨by rfl, fun u => by go_simp⟩) ?_
    simp only [Act.put, List.setIfInBounds_toArray, List.set_cons_zero, List.set_cons_succ]
    refine wpAny_done (by kernel_rfl) ?_ _
    go_wp2
    go_ret
    exact ⟨_, rfl, R.out⟩
end Go.Proofs.YtkijglkjpgjdaaaDoor
