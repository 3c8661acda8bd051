/-
  YtpeioecpilmpiaaGreatDoor: the texts J18, J19, J20, one behind the other.
-/
import Derived.Test.YtpeioecpilmpiaaGreatDoorMF17
import Derived.Deep.RegionHeld3
import Derived.WalkKit
import Derived.WalkSpells
import Derived.WalkLawsBesides
import Derived.Deep.LoopGhost
import Derived.Laws.Externs
import Derived.Below
import Derived.BigQuiet
import Derived.Deep.RegionWith
import Derived.OwnWalk
import Derived.Maps.AppendAt
import Derived.Test.YtpeioecpilmpiaaGreatDoorMF16
/-
  Forms of objects.
-/
namespace Go.Proofs.YtpeioecpilmpiaaGreatDoor
open Go.RowKit
theorem Tv.isIface : ∀ {n : Nat} {F : Nat → Prop} {w : World} {v : Value} {x : Js.X}, Tv n F w v x → ∃ ty vv, v = .iface ty vv := by
  intro n F w v x h
  have hs : ScV v x → ∃ ty vv, v = .iface ty vv := by
    rintro (⟨_, rfl⟩ | ⟨b, _, rfl⟩ | ⟨k, _, _, rfl⟩ | ⟨t, _, _, rfl⟩) <;> exact ⟨_, _, rfl⟩
  cases n with
  | zero => exact hs h
  | succ n =>
    rcases h with h | ⟨l, vs, sl, _, rfl, _⟩ | ⟨l, vs, sl, _, rfl, _⟩
    · exact hs h
    · exact ⟨_, _, rfl⟩
    · exact ⟨_, _, rfl⟩

theorem pushS_run2 (B : Nat) (w : World) (sl : Value) (ls : List Js.B) (b : Js.B) (h : w.ownsRow B 9 1 sl ls.length (strs ls)) (hl : ls.length ≤ 100000) (hB : B ≤ w.heap.size) (ty : TypeId) :
    ∃ v' w', (Builtin.append_ #[26, 26] ty #[sl, .slice (some ⟨w.heap.size, 0, none⟩) 1 1]).run Tryz.prog (w.alloc (.cells #[.string (bs b)] 9)) = .ok v' w' ∧ w'.ownsRow B 9 1 v' (ls ++ [b]).length (strs (ls ++ [b])) ∧ Below B w w' ∧ ∀ (w0 : World) (k : Nat), w0.ownsRow B 9 1 sl ls.length (strs ls) → w0.heap.size ≤ k → k < w.heap.size → w'.heap[k]? = w.heap[k]? := by
  obtain ⟨i0, hi0, hz0, hzs, hzb⟩ := info_parts info9
  have ho : (w.alloc (.cells #[.string (bs b)] 9)).ownsRow B 9 1 sl ls.length (strs ls) := own_frame h (fun k hk => alloc_old w _ k (own_place h hk).2)
  obtain ⟨v', w', e1, e2, e3, _, e5⟩ := run_append_own_at (P := Tryz.prog) (w.alloc (.cells #[.string (bs b)] 9)) B 26 ty 9 i0 (.string ByteArray.empty) 1 16 Tryz.underlying26 hi0 hz0 hzs hzb rfl (by omega) sl ls.length (strs ls) ho ⟨w.heap.size, 0, none⟩ 1 1 [.string (bs b)] rfl (fun j x hj => by
      rw [Addr.add_lit, Nat.zero_add, cell_of_row _ w.heap.size j _ _ _ (heap_alloc_new w _), ← hj, ← Array.getElem?_toList]) (by simp [Value.oneCell']) (by unfold maxLen; omega) (by omega) (by simp; omega)
  have hz : (w.alloc (.cells #[.string (bs b)] 9)).heap.size = w.heap.size + 1 := by simp
  refine ⟨v', w', e1, by rw [strs_app, List.length_append]; exact e2, ⟨e3.os, e3.tape, e3.output, by have := e3.size; omega, fun k hkB => ?_⟩, fun w0 k h0 hk0 hk => ?_⟩
  · exact (e3.block k (by omega) (fun e => by have := (own_place h e.symm).1; omega)).trans (alloc_old w _ k (by omega))
  · exact (e3.block k (by omega) (fun e => by have := (own_place h0 e.symm).2; omega)).trans (alloc_old w _ k hk)


theorem cell_same {w w' : World} {k : Nat} (h : w'.heap[k]? = w.heap[k]?) (i : Nat) : w'.cell? ⟨k, i, none⟩ = w.cell? ⟨k, i, none⟩ := by
  unfold World.cell?
  simp only [h]

/-- An append of which it is known how it runs, as one step of a region that draws. -/
theorem step_append_run {P : Program} {ops : Array Oper} {o : Oper} {a : Act} {w : World} {K : Act → World → Prop} {Q : Exit → Act → World → Prop} {E : Prop}
    (hg : o.guard = none) (d x : Operand) (dT sT : TypeId) (hop : o.op = Op.call { callee := Callee.builtin Builtin.append, args := #[d, x], argTypes := #[dT, sT] })
    (v u : Value) (hd : a.eval d = v) (hx : a.eval x = u) {v' : Value} {w' : World} (hr : (Builtin.append_ #[dT, sT] o.type #[v, u]).run P w = .ok v' w') (hK : K (a.put o.dst v') w') :
    if Region.wanted o (yielded ops a.tmps) = true then Oper.wp P o a w K Q else E := by
  have hw : Region.wanted o (yielded ops a.tmps) = true := by simp [Region.wanted, hg]
  rw [if_pos hw]
  unfold Oper.wp
  simp [execOp, hop, resolve, invoke, builtin, hd, hx, hr, Result.andThen]
  exact hK

set_option maxHeartbeats 6400000 in
set_option maxRecDepth 100000 in
theorem objForm_any (n : Nat) (ih : FCt n) (F : Nat → Prop) (w : World) (sl : Value) (ms : List Mb) (l : List (Js.B × Js.X)) (ho : w.ownsRow 0 58 2 sl ms.length (ms.flatMap Mb.cells)) (hnm : ms.map Mb.name = l.map (·.1)) (hvd : ∀ m ∈ ms, Lib.validD m.name = true) (hi : ∀ p ∈ ms.zip l, Tv n F w p.1.v p.2.2) (hF : ∀ k, F k → k < w.heap.size) (hV : Vars w) (hsz : (Js.mkObj l).form.length ≤ 100000) :
    Calls Tryz.prog 35 #[sl] w fun e w' => e = .returned (.string (bs (Js.mkObj l).form)) ∧ Below w.heap.size w w' := by
  obtain ⟨a, cap, rfl⟩ := own_any ho
  have hlen : ms.length = l.length := by have := congrArg List.length hnm; simpa using this
  have hjl : (Js.joins (l.map Js.pairB)).length + 2 = (Js.mkObj l).form.length := by simp [Js.mkObj]
  have hcl := count_le (l.map Js.pairB)
  rw [List.length_map] at hcl
  have AT := asd (fun (i : Nat) (hlt : i < l.length) => (show ∃ g u y, a = some ⟨g, 0, none⟩ ∧ w.cell? ⟨g, i * 2, none⟩ = some (.string (bs y.1)) ∧ w.cell? ⟨g, i * 2 + 1, none⟩ = some u ∧ l[i]? = some y ∧ Tv n F w u y.2 ∧ (Js.pairB y).length ≤ 100000 ∧ Lib.validD y.1 = true from by
    obtain ⟨g, c', e, _, _, hg⟩ := own_form ho (by omega)
    injection e with e1 e2 e3
    have hu : ms[i]? = some ms[i] := List.getElem?_eq_getElem (by omega)
    have hy : l[i]? = some l[i] := List.getElem?_eq_getElem hlt
    have hm : (ms[i], l[i]) ∈ ms.zip l := by
      refine List.mem_of_getElem? (i := i) ?_
      rw [List.getElem?_zip_eq_some]
      exact ⟨hu, hy⟩
    have hname : ms[i].name = (l[i]).1 := by
      have := congrArg (fun x => x[i]?) hnm
      simp only [List.getElem?_map, hu, hy, Option.map_some, Option.some.injEq] at this
      exact this
    obtain ⟨c0, c1⟩ := flat_at hu
    rw [hname] at c0
    have hp := S_mem (l.map Js.pairB) (Js.pairB l[i]) (List.mem_map.2 ⟨l[i], List.getElem_mem hlt, rfl⟩)
    have hj := Js.joins_len (l.map Js.pairB) (by intro e; have := congrArg List.length e; simp at this; subst this; simp at hlt)
    refine ⟨g, ms[i].v, l[i], e1, own_cell ho hg c0, own_cell ho hg c1, hy, hi _ hm, by omega, ?_⟩
    rw [← hname]
    exact hvd _ (List.getElem_mem (by omega))))
  have hln : l.length ≤ 100001 := by omega
  have HS := asd (And.intro hjl hsz)
  have HV := asd hV
  have HF := asd hF
  rw [hlen]
  clear ho hi hF hV hjl hsz hcl hlen hnm hvd
  go_enter Tryz.func35, Tryz.ntmps35
  go_wp2
  go_loopg [3, 5, 8] l.length (fun gh s3 s5 s8 wr => ∃ i : Nat, l.length - i ≤ gh ∧ i ≤ l.length ∧ s8 = .int .i64 (i : Int) ∧ Aside (wr.ownsRow w.heap.size 9 1 s3 ((l.take i).map Js.pairB).length (strs ((l.take i).map Js.pairB)) ∧ Below w.heap.size w wr))
  case atStart => exact ⟨0, by omega, by omega, rfl, ⟨rfl, .inl ⟨rfl, rfl⟩⟩, Below.refl _ _⟩
  case round =>
    obtain ⟨i, hgh, hil, rfl, I⟩ := hrel
    by_cases hlt : i < l.length
    · obtain ⟨g, u, y, rfl, c1, c2, hy, hT, hyl, hyv⟩ := AT.out i hlt
      have d1 : decide ((i : Int) < l.length) = true := decide_eq_true (by omega)
      have c1' := cell_below c1 I.out.2
      have c2' := cell_below c2 I.out.2
      have ht : (l.take (i + 1)).map Js.pairB = (l.take i).map Js.pairB ++ [Js.pairB y] := by rw [List.take_add_one, hy]; simp
      have HT := asd ht
      have hll : ((l.take i).map Js.pairB).length ≤ 100000 := by rw [List.length_map, List.length_take]; omega
      have hpl : (Js.quote y.1).length + 1 + y.2.form.length ≤ 100000 := by simpa [Js.pairB, Nat.add_assoc, Nat.add_comm 1] using hyl
      obtain ⟨ty, vv, rfl⟩ := hT.isIface
      have hwz : (wr.alloc (Obj.cells #[.string (bs y.1), .iface ty vv] 58)).heap.size = wr.heap.size + 1 := by simp
      obtain ⟨Q, hQ⟩ : ∃ Q, Q = bs (Js.quote y.1) := ⟨_, rfl⟩
      obtain ⟨Fm, hFm⟩ : ∃ Fm, Fm = bs y.2.form := ⟨_, rfl⟩
      have hzQ : Q.size ≤ 100000 := by subst hQ; show (Js.quote y.1).length ≤ _; omega
      have hzF : Fm.size ≤ 100000 := by subst hFm; show y.2.form.length ≤ _; omega
      have hz1 : ¬ 9223372036854775807 < Q.size + 1 := by omega
      have hz2 : ¬ 9223372036854775807 < Q.size + 1 + Fm.size := by omega
      have EQ : Aside (Q ++ ⟨#[58]⟩ ++ Fm = bs (Js.pairB y)) := by
        show _ = _
        subst hQ hFm
        show bs _ ++ bs [58] ++ bs _ = _
        rw [bs_app, bs_app, List.append_assoc]
        rfl
      have BA : Aside (Below w.heap.size w (wr.alloc (Obj.cells #[.string (bs y.1), .iface ty vv] 58)).drew) := (Below.alloc I.out.2 I.out.2.size _).drew
      have K1 : Aside (Calls Tryz.prog 29 #[.string (bs y.1)] (wr.alloc (Obj.cells #[.string (bs y.1), .iface ty vv] 58)).drew fun e w' => e = .returned (.string Q) ∧ Below (wr.heap.size + 1) (wr.alloc (Obj.cells #[.string (bs y.1), .iface ty vv] 58)).drew w') := by
        show Calls _ _ _ _ _
        rw [← hwz, hQ]
        exact quoted_any (bs y.1) _ (by show y.1.length ≤ _; have h1 := Js.q_len y.1; have h2 : (Js.quote y.1).length = (Js.q y.1).length + 2 := by simp [Js.quote_q]
                                        omega) (HV.out.below BA.out) hyv
      have HFm := asd hFm
      have HTV := asd hT
      have HPL : Aside (y.2.form.length ≤ 100000) := by show _ ≤ _; omega
      have HY := asd hy
      clear hQ hFm hT hy ht c1 c2 hyl hpl hyv
      have HWZ : Aside ((wr.alloc (Obj.cells #[.string (bs y.1), .iface ty vv] 58)).drew.heap.size = wr.heap.size + 1) := hwz
      clear hwz
      have T1 : Aside True := trivial
      go_wp2_with fail
      go_region_held3 (fun u => u.cell? ⟨wr.heap.size, 0, none⟩ = some (.string (bs y.1)) ∧ u.cell? ⟨wr.heap.size, 1, none⟩ = some (.iface ty vv)) (go_keep) ((first
        | (go_at_call 29; go_loud (
           clear T1; refine Calls.mono K1.out ?_; rintro e w2 ⟨rfl, b2⟩
           have k0 : w2.cell? ⟨wr.heap.size, 0, none⟩ = some (.string (bs y.1)) := (cell_of_row _ _ _ _ _ _ ((b2.block wr.heap.size (Nat.lt_succ_self _)).trans (heap_alloc_new wr _)))
           have k1 : w2.cell? ⟨wr.heap.size, 1, none⟩ = some (.iface ty vv) := (cell_of_row _ _ _ _ _ _ ((b2.block wr.heap.size (Nat.lt_succ_self _)).trans (heap_alloc_new wr _)))
           have hb2 : Aside (Below w.heap.size w w2) := BA.out.trans (b2.mono (Nat.le_succ_of_le I.out.2.size))
           have sz2 : Aside (wr.heap.size ≤ w2.heap.size) := Nat.le_of_succ_le (Nat.le_trans (Nat.le_of_eq HWZ.out.symm) b2.size)
           have sz3 : Aside (wr.heap.size < w2.heap.size) := Nat.lt_of_lt_of_le (Nat.lt_succ_self _) (Nat.le_trans (Nat.le_of_eq HWZ.out.symm) b2.size)
           have sm2 : Aside (∀ k, k < wr.heap.size → w2.heap[k]? = wr.heap[k]?) := fun k hk => (b2.block k (Nat.lt_succ_of_lt hk)).trans (alloc_old wr _ k hk)
           clear b2 K1))
        | (go_at_call 22; go_loud (
           refine Calls.mono (ih F _ _ y.2 (HTV.out.frame (fun _ h => h) (fun k hk => hb2.out.block k (HF.out k hk))) (fun k hk => by have := HF.out k hk; have := hb2.out.size; omega) (HV.out.below hb2.out) HPL.out) ?_; rw [← HFm.out]; rintro e w3 ⟨rfl, b3⟩
           have hb3 : Below w.heap.size w w3 := hb2.out.trans (b3.mono hb2.out.size)
           obtain ⟨v', w4, e1, o3, b4, m4⟩ := pushS_run2 w.heap.size w3 _ _ (Js.pairB y) (own_frame I.out.1 (fun k hk => (b3.block k (Nat.lt_of_lt_of_le (own_place I.out.1 hk).2 sz2.out)).trans (sm2.out k (own_place I.out.1 hk).2))) hll hb3.size 26
           rw [← EQ.out] at e1
           have k2 : w3.cell? ⟨wr.heap.size, 0, none⟩ = some (.string (bs y.1)) := cell_below k0 b3
           have k3 : w3.cell? ⟨wr.heap.size, 1, none⟩ = some (.iface ty vv) := cell_below k1 b3
           have n4 := m4 wr wr.heap.size I.out.1 (Nat.le_refl _) (Nat.lt_of_lt_of_le sz3.out b3.size)
           have k4 : w4.cell? ⟨wr.heap.size, 0, none⟩ = some (.string (bs y.1)) := (cell_same n4 0).trans k2
           have k5 : w4.cell? ⟨wr.heap.size, 1, none⟩ = some (.iface ty vv) := (cell_same n4 1).trans k3
           have HRUN := asd e1
           have A3 := asd (And.intro o3 (hb3.trans b4))
           clear e1 o3 b4 b3 m4 n4))
        | (refine step_append_run rfl (.tmp 12) (.tmp 21) 26 26 rfl _ _ (by simp [Act.eval]) (by simp [Act.eval]) HRUN.out ?_)))
      all_goals
        go_wp2
        go_roundg (l.length - (i + 1))
        case measure => omega
        case rel => exact ⟨i + 1, Nat.le_refl _, hlt, by go_num, by rw [HT.out]; exact A3.out.1, A3.out.2⟩
    · obtain rfl : i = l.length := by omega
      have hd : decide ((l.length : Int) < l.length) = false := decide_eq_false (by omega)
      have O := I.out.1
      rw [List.take_length] at O
      have J := asd (joinOwn_any w.heap.size wr _ (l.map Js.pairB) O (by rw [List.length_map]; omega) (by have := HS.out; omega))
      clear O
      have hz : (bs (Js.joins (l.map Js.pairB))).size ≤ 100000 := by show (Js.joins (l.map Js.pairB)).length ≤ _; have := HS.out; omega
      have EQ : Aside (bs [123] ++ bs (Js.joins (l.map Js.pairB)) ++ bs [125] = bs (Js.mkObj l).form) := by
        show _ = _
        rw [bs_app, bs_app]
        rfl
      generalize bs (Js.joins (l.map Js.pairB)) = S at J EQ hz
      go_wp2_with (go_at_call 55; refine J.out.mono ?_; rintro e w2 ⟨rfl, b2⟩)
      go_ret
      exact ⟨by rw [← EQ.out]; rfl, I.out.2.trans (b2.mono I.out.2.size)⟩
end Go.Proofs.YtpeioecpilmpiaaGreatDoor

/-
  Forms.
-/
namespace Go.Proofs.YtpeioecpilmpiaaGreatDoor
open Go.RowKit
theorem as60_62 (v : Value) (w : World) : (Instr.typeAssert (.iface 60 v) 20 62 true).run Tryz.prog w = .ok (.tuple #[.bool false, .bool false]) w := by kernel_rfl
theorem as60_64 (v : Value) (w : World) : (Instr.typeAssert (.iface 60 v) 20 64 true).run Tryz.prog w = .ok (.tuple #[.int .i64 0, .bool false]) w := by kernel_rfl
theorem as60_66 (v : Value) (w : World) : (Instr.typeAssert (.iface 60 v) 20 66 true).run Tryz.prog w = .ok (.tuple #[.string ⟨#[]⟩, .bool false]) w := by kernel_rfl
theorem as60_69 (v : Value) (w : World) : (Instr.typeAssert (.iface 60 v) 20 69 true).run Tryz.prog w = .ok (.tuple #[.slice none 0 0, .bool false]) w := by kernel_rfl
theorem as60_55 (v : Value) (w : World) : (Instr.typeAssert (.iface 60 v) 20 55 true).run Tryz.prog w = .ok (.tuple #[.slice none 0 0, .bool false]) w := by kernel_rfl
theorem as62_62 (v : Value) (w : World) : (Instr.typeAssert (.iface 62 v) 20 62 true).run Tryz.prog w = .ok (.tuple #[v, .bool true]) w := by kernel_rfl
theorem as64_62 (v : Value) (w : World) : (Instr.typeAssert (.iface 64 v) 20 62 true).run Tryz.prog w = .ok (.tuple #[.bool false, .bool false]) w := by kernel_rfl
theorem as64_64 (v : Value) (w : World) : (Instr.typeAssert (.iface 64 v) 20 64 true).run Tryz.prog w = .ok (.tuple #[v, .bool true]) w := by kernel_rfl
theorem as66_62 (v : Value) (w : World) : (Instr.typeAssert (.iface 66 v) 20 62 true).run Tryz.prog w = .ok (.tuple #[.bool false, .bool false]) w := by kernel_rfl
theorem as66_64 (v : Value) (w : World) : (Instr.typeAssert (.iface 66 v) 20 64 true).run Tryz.prog w = .ok (.tuple #[.int .i64 0, .bool false]) w := by kernel_rfl
theorem as66_66 (v : Value) (w : World) : (Instr.typeAssert (.iface 66 v) 20 66 true).run Tryz.prog w = .ok (.tuple #[v, .bool true]) w := by kernel_rfl
theorem as69_62 (v : Value) (w : World) : (Instr.typeAssert (.iface 69 v) 20 62 true).run Tryz.prog w = .ok (.tuple #[.bool false, .bool false]) w := by kernel_rfl
theorem as69_64 (v : Value) (w : World) : (Instr.typeAssert (.iface 69 v) 20 64 true).run Tryz.prog w = .ok (.tuple #[.int .i64 0, .bool false]) w := by kernel_rfl
theorem as69_66 (v : Value) (w : World) : (Instr.typeAssert (.iface 69 v) 20 66 true).run Tryz.prog w = .ok (.tuple #[.string ⟨#[]⟩, .bool false]) w := by kernel_rfl
theorem as69_69 (v : Value) (w : World) : (Instr.typeAssert (.iface 69 v) 20 69 true).run Tryz.prog w = .ok (.tuple #[v, .bool true]) w := by kernel_rfl
theorem as55_62 (v : Value) (w : World) : (Instr.typeAssert (.iface 55 v) 20 62 true).run Tryz.prog w = .ok (.tuple #[.bool false, .bool false]) w := by kernel_rfl
theorem as55_64 (v : Value) (w : World) : (Instr.typeAssert (.iface 55 v) 20 64 true).run Tryz.prog w = .ok (.tuple #[.int .i64 0, .bool false]) w := by kernel_rfl
theorem as55_66 (v : Value) (w : World) : (Instr.typeAssert (.iface 55 v) 20 66 true).run Tryz.prog w = .ok (.tuple #[.string ⟨#[]⟩, .bool false]) w := by kernel_rfl
theorem as55_69 (v : Value) (w : World) : (Instr.typeAssert (.iface 55 v) 20 69 true).run Tryz.prog w = .ok (.tuple #[.slice none 0 0, .bool false]) w := by kernel_rfl
theorem as55_55 (v : Value) (w : World) : (Instr.typeAssert (.iface 55 v) 20 55 true).run Tryz.prog w = .ok (.tuple #[v, .bool true]) w := by kernel_rfl

set_option maxHeartbeats 3200000 in
set_option maxRecDepth 100000 in
theorem formNull (w : World) : Calls Tryz.prog 22 #[.iface 60 (.agg #[])] w fun e w' => e = .returned (.string (bs Js.mkNull.form)) ∧ Below w.heap.size w w' := by
  have a1 := as60_62
  have a2 := as60_64
  have a3 := as60_66
  have a4 := as60_69
  have a5 := as60_55
  go_enter Tryz.func22, Tryz.ntmps22
  go_wp2
  go_ret
  exact ⟨rfl, Below.refl _ _⟩

set_option maxHeartbeats 3200000 in
set_option maxRecDepth 100000 in
theorem formTruth (b : Bool) (w : World) : Calls Tryz.prog 22 #[.iface 62 (.bool b)] w fun e w' => e = .returned (.string (bs (Js.mkTruth b).form)) ∧ Below w.heap.size w w' := by
  have a1 := as62_62
  have K := asd (formatBool_call b w)
  go_enter Tryz.func22, Tryz.ntmps22
  go_wp2_with (go_at_call 32; refine K.out.mono ?_; rintro e w2 ⟨rfl, rfl⟩)
  go_ret
  refine ⟨?_, Below.refl _ _⟩
  cases b <;> rfl

set_option maxHeartbeats 3200000 in
set_option maxRecDepth 100000 in
theorem formNum (n : Int) (hn : n.natAbs < 1000000000000000) (w : World) (hV : Vars w) : Calls Tryz.prog 22 #[.iface 64 (.int .i64 n)] w fun e w' => e = .returned (.string (bs (Js.mkNum n).form)) ∧ Below w.heap.size w w' := by
  have a1 := as64_62
  have a2 := as64_64
  have K := asd (itoa_any n (by omega) (by omega) w hV.pow)
  clear hV
  go_enter Tryz.func22, Tryz.ntmps22
  go_wp2_with (go_at_call 33; refine K.out.mono ?_; rintro e w2 ⟨rfl, b2⟩)
  go_ret
  exact ⟨rfl, b2⟩

set_option maxHeartbeats 3200000 in
set_option maxRecDepth 100000 in
theorem formText (t : Js.B) (ht : Lib.validD t = true) (hl : t.length ≤ 100000) (w : World) (hV : Vars w) : Calls Tryz.prog 22 #[.iface 66 (.string (bs t))] w fun e w' => e = .returned (.string (bs (Js.mkText t).form)) ∧ Below w.heap.size w w' := by
  have a1 := as66_62
  have a2 := as66_64
  have a3 := as66_66
  have K := asd (quoted_any (bs t) w hl hV ht)
  clear hV ht
  go_enter Tryz.func22, Tryz.ntmps22
  go_wp2_with (go_at_call 29; refine K.out.mono ?_; rintro e w2 ⟨rfl, b2⟩)
  go_ret
  exact ⟨rfl, b2⟩

set_option maxHeartbeats 3200000 in
set_option maxRecDepth 100000 in
theorem formList (sl : Value) (f : ByteArray) (w : World) (h : Calls Tryz.prog 34 #[sl] w fun e w' => e = .returned (.string f) ∧ Below w.heap.size w w') : Calls Tryz.prog 22 #[.iface 69 sl] w fun e w' => e = .returned (.string f) ∧ Below w.heap.size w w' := by
  have a1 := as69_62
  have a2 := as69_64
  have a3 := as69_66
  have a4 := as69_69
  have K := asd h
  clear h
  go_enter Tryz.func22, Tryz.ntmps22
  go_wp2_with (go_at_call 34; refine K.out.mono ?_; rintro e w2 ⟨rfl, b2⟩)
  go_ret
  exact ⟨rfl, b2⟩

set_option maxHeartbeats 3200000 in
set_option maxRecDepth 100000 in
theorem formObj (sl : Value) (f : ByteArray) (w : World) (h : Calls Tryz.prog 35 #[sl] w fun e w' => e = .returned (.string f) ∧ Below w.heap.size w w') : Calls Tryz.prog 22 #[.iface 55 sl] w fun e w' => e = .returned (.string f) ∧ Below w.heap.size w w' := by
  have a1 := as55_62
  have a2 := as55_64
  have a3 := as55_66
  have a4 := as55_69
  have a5 := as55_55
  have K := asd h
  clear h
  go_enter Tryz.func22, Tryz.ntmps22
  go_wp2_with (go_at_call 35; refine K.out.mono ?_; rintro e w2 ⟨rfl, b2⟩)
  go_ret
  exact ⟨rfl, b2⟩

theorem formSc {w : World} {v : Value} {x : Js.X} (h : ScV v x) (hV : Vars w) (hl : x.form.length ≤ 100000) : Calls Tryz.prog 22 #[v] w fun e w' => e = .returned (.string (bs x.form)) ∧ Below w.heap.size w w' := by
  rcases h with ⟨rfl, rfl⟩ | ⟨b, rfl, rfl⟩ | ⟨n, hn, rfl, rfl⟩ | ⟨t, ht, rfl, rfl⟩
  · exact formNull w
  · exact formTruth b w
  · exact formNum n hn w hV
  · refine formText t ht ?_ w hV
    have h1 := Js.q_len t
    have h2 : (Js.mkText t).form.length = (Js.q t).length + 2 := by simp [Js.mkText, Js.quote_q]
    omega

theorem form_any : ∀ n, FCt n
  | 0 => fun _ _ _ _ h _ hV hl => formSc h hV hl
  | n + 1 => fun F w v x h hF hV hl => by
    rcases h with h | ⟨l, vs, sl, rfl, rfl, ho, hlen, hg, hi⟩ | ⟨l, ms, sl, rfl, rfl, ho, hnm, hg, hvd, hi⟩
    · exact formSc h hV hl
    · exact formList sl _ w (listForm_any n (form_any n) _ w sl vs l ho hlen hi (fun k hk => hF k hk.1) hV hl)
    · exact formObj sl _ w (objForm_any n (form_any n) _ w sl ms l ho hnm hvd hi (fun k hk => hF k hk.1) hV hl)
end Go.Proofs.YtpeioecpilmpiaaGreatDoor

/-
  Form and Quote.
-/
namespace Go.Proofs.YtpeioecpilmpiaaGreatDoor
open Go.RowKit
/-- What read answers, told in two ways. -/
theorem read_err (s : ByteArray) (w : World) (hs : s.size ≤ 1000000) (e : Nat) (h : Js.of s.data.toList = .error e) :
    Calls Tryz.prog 21 #[.string s] w fun en w' => en = .returned (.tuple #[.nilIface, .int .i64 (e : Int)]) ∧ ((e : Int) != 0) = true ∧ Below w.heap.size w w' := by
  refine (read_any s w hs).mono ?_
  rintro en w' ⟨hr, hb⟩
  unfold RdA at hr
  rw [h] at hr
  refine ⟨hr.1, ?_, hb⟩
  have := hr.2
  rw [bne_iff_ne]
  omega
theorem read_ok (s : ByteArray) (w : World) (hs : s.size ≤ 1000000) (x : Js.X) (h : Js.of s.data.toList = .ok x) :
    Calls Tryz.prog 21 #[.string s] w fun en w' => (∃ ty vv, en = .returned (.tuple #[.iface ty vv, .int .i64 0]) ∧ Tv 8 (Bt w.heap.size w'.heap.size) w' (.iface ty vv) x) ∧ Below w.heap.size w w' := by
  refine (read_any s w hs).mono ?_
  rintro en w' ⟨hr, hb⟩
  unfold RdA at hr
  rw [h] at hr
  exact ⟨hr, hb⟩

/-- Form, by plain data. -/
def formP (b : Js.B) : Js.B × Nat := match Js.of b with
  | .ok x => (x.form, 0)
  | .error e => ([], e)

set_option maxHeartbeats 1600000 in
set_option maxRecDepth 100000 in
theorem Form_any (s : ByteArray) (w : World) (hs : s.size ≤ 1000000) (hV : Vars w) :
    Calls Tryz.prog 8 #[.string s] w fun e w' => e = .returned (.tuple #[.string (bs (formP s.data.toList).1), .int .i64 ((formP s.data.toList).2 : Int)]) ∧ Below w.heap.size w w' := by
  cases hof : Js.of s.data.toList with
  | error e =>
    have R := asd (read_err s w hs e hof)
    have EQ : Aside (formP s.data.toList = ([], e)) := by show _ = _; unfold formP; rw [hof]
    clear hV hof
    go_enter Tryz.func8, Tryz.ntmps8
    go_wp2_with (go_at_call 21; refine R.out.mono ?_; rintro en w2 ⟨rfl, hne, b2⟩)
    go_ret2
    exact ⟨by rw [EQ.out]; rfl, b2⟩
  | ok x =>
    have R := asd (read_ok s w hs x hof)
    have EQ : Aside (formP s.data.toList = (x.form, 0)) := by show _ = _; unfold formP; rw [hof]
    have HV := asd hV
    have HB : Aside (x.form.length ≤ 100000) := by
      show _ ≤ _
      have := Js.of_bd _ _ hof
      omega
    clear hV hof
    go_enter Tryz.func8, Tryz.ntmps8
    go_wp2_with (first
      | (go_at_call 21; refine R.out.mono ?_; rintro en w2 ⟨⟨ty, vv, rfl, T⟩, b2⟩
         have HT := asd T
         have B2 := asd b2
         clear T b2)
      | (go_at_call 22; refine (form_any 8 _ _ _ x HT.out (fun k hk => hk.2) (HV.out.below B2.out) HB.out).mono ?_; rintro e w3 ⟨rfl, b3⟩))
    go_ret2
    exact ⟨by rw [EQ.out]; rfl, B2.out.trans (b3.mono B2.out.size)⟩

/-- Quote, by plain data. -/
def quoteP (b : Js.B) : Js.B × Bool := if b.length ≤ 400 ∧ Lib.validD b = true then (Js.quote b, true) else ([], false)

set_option maxHeartbeats 1600000 in
set_option maxRecDepth 100000 in
theorem Quote_any (s : ByteArray) (w : World) (hs : s.size ≤ 1000000) (hV : Vars w) (hU : Lib.Utf8Tabs 0 1 w) :
    Calls Tryz.prog 18 #[.string s] w fun e w' => e = .returned (.tuple #[.string (bs (quoteP s.data.toList).1), .bool (quoteP s.data.toList).2]) ∧ Below w.heap.size w w' := by
  by_cases h4 : s.size ≤ 400
  · have d1 : decide ((400 : Int) < s.size) = false := decide_eq_false (by omega)
    have K := asd (validString_any s w (by omega) hU)
    by_cases hv : Lib.validD s.data.toList = true
    · have EQ : Aside (quoteP s.data.toList = (Js.quote s.data.toList, true)) := by show _ = _; unfold quoteP; rw [if_pos ⟨h4, hv⟩]
      have Q := asd (fun w' (h : Vars w') => quoted_any s w' (by omega) h hv)
      have HV := asd hV
      clear hV
      go_enter Tryz.func18, Tryz.ntmps18
      go_wp2_with (first
        | (go_at_call 28; refine K.out.mono ?_; rw [hv]; rintro e w2 ⟨rfl, b2⟩; have B2 := asd b2; clear b2 K)
        | (go_at_call 29; refine (Q.out _ (HV.out.below B2.out)).mono ?_; rintro e w3 ⟨rfl, b3⟩))
      go_ret2
      exact ⟨by rw [EQ.out]; rfl, B2.out.trans (b3.mono B2.out.size)⟩
    · have hv' : Lib.validD s.data.toList = false := by simpa using hv
      have EQ : Aside (quoteP s.data.toList = ([], false)) := by show _ = _; unfold quoteP; rw [if_neg (fun h => hv h.2)]
      clear hV
      go_enter Tryz.func18, Tryz.ntmps18
      go_wp2_with (go_at_call 28; refine K.out.mono ?_; rw [hv']; rintro e w2 ⟨rfl, b2⟩)
      go_ret2
      exact ⟨by rw [EQ.out]; rfl, b2⟩
  · have d1 : decide ((400 : Int) < s.size) = true := decide_eq_true (by omega)
    have EQ : Aside (quoteP s.data.toList = ([], false)) := by show _ = _; unfold quoteP; rw [if_neg (fun h => h4 h.1)]
    clear hV
    go_enter Tryz.func18, Tryz.ntmps18
    go_wp2
    go_ret2
    exact ⟨by rw [EQ.out]; rfl, Below.refl _ _⟩
end Go.Proofs.YtpeioecpilmpiaaGreatDoor
