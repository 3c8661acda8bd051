/-
  Maps of the call's own: numbers to numbers, texts to true.
-/
import Derived.Test.YtblhkhgcaheplaaGreatDoorH4
import Derived.Maps.OwnSet
namespace Go.Proofs.YtblhkhgcaheplaaGreatDoor
open Go.RowKit Go.Maps
set_option maxRecDepth 100000

theorem keyI : Keyed Tryz.prog 3 := int_keyed Tryz.underlying3
theorem keyS : Keyed Tryz.prog 9 := string_keyed Tryz.underlying9
theorem zero3 (w : World) : (zeroValue 3).run Tryz.prog w = .ok (.int .i64 0) w := Tryz.zeroValue3 w
theorem zero4 (w : World) : (zeroValue 4).run Tryz.prog w = .ok (.bool false) w := Tryz.zeroValue4 w

def lI (n : Int) : Lit := .int .i64 n
def lS (t : ByteArray) : Lit := .string t.data.toList
theorem lI_ne {a b : Int} (h : a ≠ b) : lI a ≠ lI b := fun e => h (by injection e)
theorem lS_ne {a b : ByteArray} (h : a ≠ b) : lS a ≠ lS b := fun e => h (by
  injection e with e
  apply ByteArray.ext
  exact Array.toList_inj.1 e)

/-- A map from numbers to numbers. -/
structure MapI (w : World) (b : Nat) (P : List (Int × Nat)) : Prop where
  own : ∃ D : DataW Unit, w.ownsMap Tryz.prog 3 (plainElem Tryz.prog 3) b P.length D ∧ Tidy D ∧ (∀ n, has D (lI n) = P.any fun x => decide (x.1 = n)) ∧ (∀ x ∈ P, D.atKey (lI x.1) (.lit (.int .i64 0)) = .lit (.int .i64 (x.2 : Int))) ∧ Maps.size D = P.length

theorem MapI.kept {w w' : World} {b : Nat} {P : List (Int × Nat)} {row : Option Nat} (h : MapI w b P) (hg : w.grownBy w' row) (hne : some b ≠ row) : MapI w' b P := by
  obtain ⟨D, a, r⟩ := h.own
  exact ⟨D, a.kept hg hne, r⟩
theorem MapI.lt {w : World} {b : Nat} {P : List (Int × Nat)} (h : MapI w b P) : b < w.heap.size := by
  obtain ⟨D, a, _⟩ := h.own
  exact a.lt
theorem MapI.frame {w w' : World} {b : Nat} {P : List (Int × Nat)} (h : MapI w b P) (e : w'.heap[b]? = w.heap[b]?) : MapI w' b P := by
  obtain ⟨D, ⟨es, cl, hb, r⟩, r2⟩ := h.own
  exact ⟨D, ⟨es, cl, e.trans hb, r⟩, r2⟩
theorem MapI.made (w : World) : MapI (w.alloc (.map #[] 0)) w.heap.size [] := ⟨.map [], World.ownsMap_made w _ _ _, tidy_empty, fun _ => rfl, fun x hx => (by cases hx), rfl⟩

theorem MapI.look {w : World} {b : Nat} {P : List (Int × Nat)} (h : MapI w b P) (n : Int) (hw : (Lit.int .i64 n).wf = true) : ∃ c : Int, (Instr.lookup 26 (.map (some b)) (.int .i64 n) true).run Tryz.prog w = .ok (.tuple #[.int .i64 c, .bool (P.any fun x => decide (x.1 = n))]) w ∧ ∀ i : Nat, (n, i) ∈ P → c = i := by
  obtain ⟨D, a, _, hh, hat, _⟩ := h.own
  obtain ⟨v, ps, hrun, hv⟩ := a.look_ok keyI Tryz.underlying26 (zero3 w) (plainElem_int Tryz.underlying3 (by decide)) (keyOf_int_mk Tryz.underlying3 hw)
  obtain ⟨c, rfl, hc, _⟩ := plainElem_int_inv Tryz.underlying3 hv
  refine ⟨c, by rw [← hh n]; exact hrun, fun i hi => ?_⟩
  have h1 := hat _ hi
  simp only [Prod.mk.injEq] at hc
  rw [show D.atKey (lI n) (.lit (.int .i64 0)) = _ from hc.1] at h1
  injection h1 with h1
  injection h1

theorem MapI.len {w : World} {b : Nat} {P : List (Int × Nat)} (h : MapI w b P) (ty : TypeId) : (Builtin.len_ #[26] ty #[.map (some b)]).run Tryz.prog w = .ok (.int .i64 (P.length : Int)) w := by
  obtain ⟨D, a, _, _, _, hs⟩ := h.own
  rw [← hs]
  exact a.len Tryz.underlying26 ty

theorem MapI.put {w : World} {b : Nat} {P : List (Int × Nat)} (h : MapI w b P) (n : Int) (i : Nat) (hw : (Lit.int .i64 n).wf = true) (hi : i ≤ 1000) (hn : (P.any fun x => decide (x.1 = n)) = false) (hP : P.length ≤ 1000) :
    ∃ w', (Instr.mapUpdate 26 (.map (some b)) (.int .i64 n) (.int .i64 (i : Int))).run Tryz.prog w = .ok () w' ∧ MapI w' b (P ++ [(n, i)]) ∧ w.grownBy w' (some b) := by
  obtain ⟨D, a, td, hh, hat, hs⟩ := h.own
  have hk : WideAt.IsKeyLit (lI n) := by simp [WideAt.IsKeyLit, lI]
  obtain ⟨w', hrun, ho, hg⟩ := a.update keyI Tryz.underlying26 (by unfold maxLen; omega) (keyOf_int_mk Tryz.underlying3 hw) (plainElem_int Tryz.underlying3 (a := (i : Int)) (WalkArith.wf_i64 (by omega)))
  refine ⟨w', hrun, ⟨D.put (lI n) (.lit (.int .i64 (i : Int))), by rw [List.length_append]; exact ho, td.put hk _, fun m => ?_, fun x hx => ?_, ?_⟩, hg⟩
  · rw [List.any_append]
    by_cases e : m = n
    · subst e
      rw [has_put_same td.isMap hk]
      simp
    · rw [has_put_other (lI_ne e), hh m]
      have : ¬ n = m := fun e' => e e'.symm
      simp [this]
  · rcases List.mem_append.1 hx with hx | hx
    · have hne : x.1 ≠ n := fun e => by
        have : (P.any fun y => decide (y.1 = n)) = true := List.any_eq_true.2 ⟨x, hx, by simp [e]⟩
        rw [this] at hn
        cases hn
      rw [atKey_put_other (lI_ne hne)]
      exact hat x hx
    · obtain rfl := List.mem_singleton.1 hx
      exact atKey_put_same td.isMap hk _ _
  · rw [size_put td, hh n, hn, List.length_append, hs]
    rfl

/-- A map from texts to true. -/
structure MapS (w : World) (b : Nat) (Q : List ByteArray) : Prop where
  own : ∃ D : DataW Unit, w.ownsMap Tryz.prog 9 (plainElem Tryz.prog 4) b Q.length D ∧ Tidy D ∧ (∀ t, D.atKey (lS t) (.lit (.bool false)) = .lit (.bool (Dk.has Q t))) ∧ (∀ t, has D (lS t) = Dk.has Q t) ∧ Maps.size D = Q.length

theorem MapS.kept {w w' : World} {b : Nat} {Q : List ByteArray} {row : Option Nat} (h : MapS w b Q) (hg : w.grownBy w' row) (hne : some b ≠ row) : MapS w' b Q := by
  obtain ⟨D, a, r⟩ := h.own
  exact ⟨D, a.kept hg hne, r⟩
theorem MapS.lt {w : World} {b : Nat} {Q : List ByteArray} (h : MapS w b Q) : b < w.heap.size := by
  obtain ⟨D, a, _⟩ := h.own
  exact a.lt
theorem MapS.frame {w w' : World} {b : Nat} {Q : List ByteArray} (h : MapS w b Q) (e : w'.heap[b]? = w.heap[b]?) : MapS w' b Q := by
  obtain ⟨D, ⟨es, cl, hb, r⟩, r2⟩ := h.own
  exact ⟨D, ⟨es, cl, e.trans hb, r⟩, r2⟩
theorem MapS.made (w : World) : MapS (w.alloc (.map #[] 0)) w.heap.size [] := ⟨.map [], World.ownsMap_made w _ _ _, tidy_empty, fun _ => rfl, fun _ => rfl, rfl⟩

theorem has_app (Q : List ByteArray) (t m : ByteArray) : Dk.has (Q ++ [t]) m = (Dk.has Q m || decide (Dk.cmp t m = 0)) := by simp [Dk.has]

theorem plainElem_bool_inv {v : Value} {z : DataW Unit × List MemPlace} (h : plainElem Tryz.prog 4 v = some z) : ∃ x, v = .bool x ∧ z = (.lit (.bool x), []) := by
  unfold plainElem at h
  rw [Tryz.underlying4] at h
  split at h
  · cases h
    exact ⟨_, rfl, rfl⟩
  · rename_i e
    cases e
  · rename_i e
    cases e
  · cases h

theorem MapS.look {w : World} {b : Nat} {Q : List ByteArray} (h : MapS w b Q) (t : ByteArray) (ht : t.size ≤ maxLen) : (Instr.lookup 27 (.map (some b)) (.string t) false).run Tryz.prog w = .ok (.bool (Dk.has Q t)) w := by
  obtain ⟨D, a, _, hat, _, _⟩ := h.own
  obtain ⟨v, ps, hrun, hv⟩ := a.lookup keyS Tryz.underlying27 (zero4 w) (plainElem_bool Tryz.underlying4 false) (Go.WideMaps.keyOf_string_mk Tryz.underlying9 ht)
  obtain ⟨x, rfl, hx⟩ := plainElem_bool_inv hv
  simp only [Prod.mk.injEq] at hx
  have h1 := hat t
  rw [show D.atKey (lS t) (.lit (.bool false)) = _ from hx.1] at h1
  injection h1 with h1
  injection h1 with h1
  rw [hrun, h1]

theorem MapS.len {w : World} {b : Nat} {Q : List ByteArray} (h : MapS w b Q) (ty : TypeId) : (Builtin.len_ #[27] ty #[.map (some b)]).run Tryz.prog w = .ok (.int .i64 (Q.length : Int)) w := by
  obtain ⟨D, a, _, _, _, hs⟩ := h.own
  rw [← hs]
  exact a.len Tryz.underlying27 ty

theorem MapS.put {w : World} {b : Nat} {Q : List ByteArray} (h : MapS w b Q) (t : ByteArray) (ht : t.size ≤ maxLen) (hn : Dk.has Q t = false) (hQ : Q.length ≤ 1000) :
    ∃ w', (Instr.mapUpdate 27 (.map (some b)) (.string t) (.bool true)).run Tryz.prog w = .ok () w' ∧ MapS w' b (Q ++ [t]) ∧ w.grownBy w' (some b) := by
  obtain ⟨D, a, td, hat, hh, hs⟩ := h.own
  have hk : WideAt.IsKeyLit (lS t) := by simp [WideAt.IsKeyLit, lS]
  obtain ⟨w', hrun, ho, hg⟩ := a.update keyS Tryz.underlying27 (by unfold maxLen; omega) (Go.WideMaps.keyOf_string_mk Tryz.underlying9 ht) (plainElem_bool Tryz.underlying4 true)
  refine ⟨w', hrun, ⟨D.put (lS t) (.lit (.bool true)), by rw [List.length_append]; exact ho, td.put hk _, fun m => ?_, fun m => ?_, ?_⟩, hg⟩
  · by_cases e : m = t
    · subst e
      rw [atKey_put_same td.isMap hk, has_app, decide_eq_true (Dk.cmp_self _), Bool.or_true]
    · rw [atKey_put_other (lS_ne e), hat m, has_app, decide_eq_false (fun e' => e (Dk.cmp_zero.1 e').symm), Bool.or_false]
  · by_cases e : m = t
    · subst e
      rw [has_put_same td.isMap hk, has_app, decide_eq_true (Dk.cmp_self _), Bool.or_true]
    · rw [has_put_other (lS_ne e), hh m, has_app, decide_eq_false (fun e' => e (Dk.cmp_zero.1 e').symm), Bool.or_false]
  · rw [size_put td, hh t, hn, List.length_append, hs]
    rfl
end Go.Proofs.YtblhkhgcaheplaaGreatDoor
