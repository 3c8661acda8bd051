/-
  What a list is written as.
-/
import Derived.Test.YtpeioecpilmpiaaGreatDoorJ16
import Derived.WalkKit
import Derived.WalkSpells
import Derived.WalkLawsBesides
import Derived.Deep.LoopGhost
import Derived.Laws.Externs
import Derived.Below
import Derived.BigQuiet
import Derived.Deep.RegionWith
import Derived.OwnWalk
import Derived.Maps.AppendAt
namespace Go.Proofs.YtpeioecpilmpiaaGreatDoor
open Go.RowKit
/-- Texts as they lie in a table. -/
def strs (ls : List Js.B) : List Value := ls.map fun b => .string (bs b)
theorem strs_len (ls : List Js.B) : (strs ls).length = ls.length := by simp [strs]
theorem strs_app (a b : List Js.B) : strs (a ++ b) = strs a ++ strs b := by simp [strs]
theorem info9 : (Tryz.prog.info? 9).map (fun i => (i.zero, i.size, i.bytes)) = some (some (.string ByteArray.empty), 1, 16) := by kernel_rfl

theorem pushS_run (B : Nat) (w : World) (sl : Value) (ls : List Js.B) (b : Js.B) (h : w.ownsRow B 9 1 sl ls.length (strs ls)) (hl : ls.length ≤ 100000) (hB : B ≤ w.heap.size) (ty : TypeId) :
    ∃ v' w', (Builtin.append_ #[26, 26] ty #[sl, .slice (some ⟨w.heap.size, 0, none⟩) 1 1]).run Tryz.prog (w.alloc (.cells #[.string (bs b)] 9)) = .ok v' w' ∧ w'.ownsRow B 9 1 v' (ls ++ [b]).length (strs (ls ++ [b])) ∧ Below B w w' := by
  obtain ⟨i0, hi0, hz0, hzs, hzb⟩ := info_parts info9
  have ho : (w.alloc (.cells #[.string (bs b)] 9)).ownsRow B 9 1 sl ls.length (strs ls) := own_frame h (fun k hk => alloc_old w _ k (own_place h hk).2)
  obtain ⟨v', w', e1, e2, e3, _, e5⟩ := run_append_own_at (P := Tryz.prog) (w.alloc (.cells #[.string (bs b)] 9)) B 26 ty 9 i0 (.string ByteArray.empty) 1 16 Tryz.underlying26 hi0 hz0 hzs hzb rfl (by omega) sl ls.length (strs ls) ho ⟨w.heap.size, 0, none⟩ 1 1 [.string (bs b)] rfl (fun j x hj => by
      rw [Addr.add_lit, Nat.zero_add, cell_of_row _ w.heap.size j _ _ _ (heap_alloc_new w _), ← hj, ← Array.getElem?_toList]) (by simp [Value.oneCell']) (by unfold maxLen; omega) (by omega) (by simp; omega)
  have hz : (w.alloc (.cells #[.string (bs b)] 9)).heap.size = w.heap.size + 1 := by simp
  refine ⟨v', w', e1, by rw [strs_app, List.length_append]; exact e2, ⟨e3.os, e3.tape, e3.output, by have := e3.size; omega, fun k hkB => ?_⟩⟩
  exact (e3.block k (by omega) (fun e => by have := (own_place h e.symm).1; omega)).trans (alloc_old w _ k (by omega))

theorem bs_app (a b : Js.B) : bs a ++ bs b = bs (a ++ b) := by
  apply ByteArray.ext
  apply Array.toList_inj.1
  simp [bs]

/-- Join over a call's own texts. -/
theorem joinOwn_any (B : Nat) (w : World) (sl : Value) (ls : List Js.B) (h : w.ownsRow B 9 1 sl ls.length (strs ls)) (hl : ls.length ≤ 1000000) (hj : (Js.joins ls).length ≤ 1000000) :
    Calls Tryz.prog 55 #[sl, .string ⟨#[44]⟩] w fun e w' => e = .returned (.string (bs (Js.joins ls))) ∧ Below w.heap.size w w' := by
  have hm : (ls.map bs).map (fun x => x.data.toList) = ls := by
    rw [List.map_map]
    conv => rhs; rw [← List.map_id ls]
    refine List.map_congr_left fun x _ => ?_
    simp
  cases ls with
  | nil =>
    obtain ⟨a, cap, rfl⟩ := own_any h
    refine (join_none a cap ⟨#[44]⟩ w).mono ?_
    rintro e w' ⟨rfl, rfl⟩
    exact ⟨rfl, Below.refl _ _⟩
  | cons b t =>
    obtain ⟨g, cap, rfl, h2, h3, hg⟩ := own_form h (by simp)
    have := join_call g 0 cap ((b :: t).map bs) ⟨#[44]⟩ w (fun j x hx => by
      rw [Nat.zero_add]
      refine own_cell h hg ?_
      unfold strs
      rw [List.getElem?_map, Option.map_eq_some_iff] at hx
      obtain ⟨y, hy, rfl⟩ := hx
      rw [List.getElem?_map, hy]
      rfl) (own_place h hg).2 (by simp at hl ⊢; omega) (by simpa using h2) (by rw [hm]; show (Js.joins (b :: t)).length ≤ _; omega)
    rw [hm] at this
    have e1 : ((b :: t).map bs).length = (b :: t).length := by simp
    rw [e1] at this
    exact this

/-- What form answers. -/
def FCt (n : Nat) : Prop := ∀ (F : Nat → Prop) (w : World) (v : Value) (x : Js.X), Tv n F w v x → (∀ k, F k → k < w.heap.size) → Vars w → x.form.length ≤ 100000 →
  Calls Tryz.prog 22 #[v] w fun e w' => e = .returned (.string (bs x.form)) ∧ Below w.heap.size w w'

theorem S_mem : ∀ (ls : List Js.B) (f : Js.B), f ∈ ls → f.length + 1 ≤ Js.S ls
  | a :: t, f, h => by
    rw [Js.S_cons]
    rcases List.mem_cons.1 h with rfl | h
    · omega
    · have := S_mem t f h; omega
theorem form_le (l : List Js.X) (x : Js.X) (h : x ∈ l) : x.form.length ≤ (Js.joins (l.map Js.X.form)).length := by
  have hne : l.map Js.X.form ≠ [] := by intro e; have := congrArg List.length e; simp at this; subst this; simp at h
  have h1 := Js.joins_len _ hne
  have h2 : x.form.length + 1 ≤ Js.S (l.map Js.X.form) := by
    exact S_mem _ _ (List.mem_map.2 ⟨x, h, rfl⟩)
  omega
theorem count_le (l : List Js.B) : l.length ≤ (Js.joins l).length + 1 := by
  cases l with
  | nil => simp
  | cons a t =>
    have h1 := Js.joins_len (a :: t) (by simp)
    have : ∀ l : List Js.B, l.length ≤ Js.S l := fun l => by
      induction l with
      | nil => simp
      | cons a t ih => rw [Js.S_cons, List.length_cons]; omega
    have := this (a :: t)
    omega

set_option maxHeartbeats 3200000 in
set_option maxRecDepth 100000 in
theorem listForm_any (n : Nat) (ih : FCt n) (F : Nat → Prop) (w : World) (sl : Value) (vs : List Value) (l : List Js.X) (ho : w.ownsRow 0 20 1 sl vs.length vs) (hlen : vs.length = l.length) (hi : ∀ p ∈ vs.zip l, Tv n F w p.1 p.2) (hF : ∀ k, F k → k < w.heap.size) (hV : Vars w) (hsz : (Js.mkList l).form.length ≤ 100000) :
    Calls Tryz.prog 34 #[sl] w fun e w' => e = .returned (.string (bs (Js.mkList l).form)) ∧ Below w.heap.size w w' := by
  obtain ⟨a, cap, rfl⟩ := own_any ho
  have hjl : (Js.joins (l.map Js.X.form)).length + 2 = (Js.mkList l).form.length := by simp [Js.mkList]
  have hcl := count_le (l.map Js.X.form)
  rw [List.length_map] at hcl
  have AT := asd (fun (i : Nat) (hlt : i < l.length) => (show ∃ g u y, a = some ⟨g, 0, none⟩ ∧ w.cell? ⟨g, i, none⟩ = some u ∧ l[i]? = some y ∧ Tv n F w u y ∧ y.form.length ≤ 100000 from by
    obtain ⟨g, c', e, _, _, hg⟩ := own_form ho (by omega)
    injection e with e1 e2 e3
    have hu : vs[i]? = some vs[i] := List.getElem?_eq_getElem (by omega)
    have hy : l[i]? = some l[i] := List.getElem?_eq_getElem hlt
    have hm : (vs[i], l[i]) ∈ vs.zip l := by
      refine List.mem_of_getElem? (i := i) ?_
      rw [List.getElem?_zip_eq_some]
      exact ⟨hu, hy⟩
    refine ⟨g, vs[i], l[i], e1, own_cell ho hg hu, hy, hi _ hm, ?_⟩
    have := form_le l l[i] (List.getElem_mem hlt)
    omega))
  have hln : l.length ≤ 100001 := by omega
  have HS := asd (And.intro hjl hsz)
  have HV := asd hV
  have HF := asd hF
  rw [hlen]
  clear ho hi hF hV hjl hsz hcl hlen
  go_enter Tryz.func34, Tryz.ntmps34
  go_wp2
  go_loopg [3, 5, 8] l.length (fun gh s3 s5 s8 wr => ∃ i : Nat, l.length - i ≤ gh ∧ i ≤ l.length ∧ s8 = .int .i64 (i : Int) ∧ Aside (wr.ownsRow w.heap.size 9 1 s3 ((l.take i).map Js.X.form).length (strs ((l.take i).map Js.X.form)) ∧ Below w.heap.size w wr))
  case atStart => exact ⟨0, by omega, by omega, rfl, ⟨rfl, .inl ⟨rfl, rfl⟩⟩, Below.refl _ _⟩
  case round =>
    obtain ⟨i, hgh, hil, rfl, I⟩ := hrel
    by_cases hlt : i < l.length
    · obtain ⟨g, u, y, rfl, c1, hy, hT, hyl⟩ := AT.out i hlt
      have d1 : decide ((i : Int) < l.length) = true := decide_eq_true (by omega)
      have c2 := cell_below c1 I.out.2
      have ht : (l.take (i + 1)).map Js.X.form = (l.take i).map Js.X.form ++ [y.form] := by rw [List.take_add_one, hy]; simp
      have HT := asd ht
      have K := asd (ih F wr u y (hT.frame (fun _ h => h) (fun k hk => I.out.2.block k (HF.out k hk))) (fun k hk => by have := HF.out k hk; have := I.out.2.size; omega) (HV.out.below I.out.2) hyl)
      have hll : ((l.take i).map Js.X.form).length ≤ 100000 := by rw [List.length_map, List.length_take]; omega
      have HY := asd hy
      clear hT hy ht c1
      have T1 : Aside True := trivial
      go_wp2_with (first
        | (clear T1; go_at_call 22; refine K.out.mono ?_; rintro e w2 ⟨rfl, b2⟩
           have hb2 : Below w.heap.size w w2 := I.out.2.trans (b2.mono I.out.2.size)
           obtain ⟨v', w3, e1, o3, b3⟩ := pushS_run w.heap.size w2 _ _ y.form (own_frame I.out.1 (fun k hk => b2.block k (own_place I.out.1 hk).2)) hll hb2.size 26
           have HRUN := asd e1
           have A3 := asd (And.intro o3 (hb2.trans b3))
           clear e1 o3 b3 b2 K)
        | (at_builtin; refine Lib.wpList_append_run _ rfl _ _ _ _ rfl _ _ rfl rfl _ _ HRUN.out ?_))
      go_roundg (l.length - (i + 1))
      case measure => omega
      case rel => exact ⟨i + 1, Nat.le_refl _, hlt, by go_num, by rw [HT.out]; exact A3.out.1, A3.out.2⟩
    · obtain rfl : i = l.length := by omega
      have hd : decide ((l.length : Int) < l.length) = false := decide_eq_false (by omega)
      have O := I.out.1
      rw [List.take_length] at O
      have J := asd (joinOwn_any w.heap.size wr _ (l.map Js.X.form) O (by rw [List.length_map]; omega) (by have := HS.out; omega))
      clear O
      have hz : (bs (Js.joins (l.map Js.X.form))).size ≤ 100000 := by show (Js.joins (l.map Js.X.form)).length ≤ _; have := HS.out; omega
      have EQ : Aside (bs [91] ++ bs (Js.joins (l.map Js.X.form)) ++ bs [93] = bs (Js.mkList l).form) := by
        show _ = _
        rw [bs_app, bs_app]
        rfl
      generalize bs (Js.joins (l.map Js.X.form)) = S at J EQ hz
      go_wp2_with (go_at_call 55; refine J.out.mono ?_; rintro e w2 ⟨rfl, b2⟩)
      go_ret
      exact ⟨by rw [← EQ.out]; rfl, I.out.2.trans (b2.mono I.out.2.size)⟩
end Go.Proofs.YtpeioecpilmpiaaGreatDoor
