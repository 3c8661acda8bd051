/-
  Item.
-/
import Derived.Test.YtpeioecpilmpiaaGreatDoorJ22
import Derived.Deep.RegionHeld3
import Derived.WalkKit
import Derived.WalkSpells
import Derived.WalkLawsBesides
import Derived.Deep.LoopGhost
import Derived.Laws.Externs
import Derived.Below
import Derived.BigQuiet
import Derived.Deep.RegionWith
import Derived.OwnWalk
import Derived.Maps.AppendAt
namespace Go.Proofs.YtpeioecpilmpiaaGreatDoor
open Go.RowKit
theorem Six.list {w w' : World} {v : Value} {x : Js.X} (h : Six w w' v x) (hk : x.kind = 5) : ∃ (l : List Js.X) (vs : List Value) (ao : Option Addr) (cap : Nat), x = Js.mkList l ∧ v = .iface 69 (.slice ao l.length cap) ∧ Aside (w'.ownsRow 0 20 1 (.slice ao l.length cap) vs.length vs ∧ vs.length = l.length ∧
    ∀ p ∈ vs.zip l, Tv 7 (Bt w.heap.size w'.heap.size) w' p.1 p.2) := by
  rcases h with ⟨rfl, rfl⟩ | ⟨b, rfl, rfl⟩ | ⟨n, rfl, rfl⟩ | ⟨t, rfl, rfl⟩ | h | ⟨l, ms, ao, cap, rfl, rfl, S⟩
  · cases hk
  · cases hk
  · cases hk
  · cases hk
  · exact h
  · cases hk

theorem list_at {w w' : World} {ao : Option Addr} {cap n : Nat} {l : List Js.X} {vs : List Value} (h : w'.ownsRow 0 20 1 (.slice ao n cap) vs.length vs ∧ vs.length = l.length ∧ ∀ p ∈ vs.zip l, Tv 7 (Bt w.heap.size w'.heap.size) w' p.1 p.2) (k : Nat) (hk : k < l.length) :
    ∃ g u y, ao = some ⟨g, 0, none⟩ ∧ w'.cell? ⟨g, k, none⟩ = some u ∧ l[k]? = some y ∧ Tv 7 (Bt w.heap.size w'.heap.size) w' u y := by
  obtain ⟨ho, hlen, hi⟩ := h
  obtain ⟨g, c', e, _, _, hg⟩ := own_form ho (by omega)
  injection e with e1 e2 e3
  have hu : vs[k]? = some vs[k] := List.getElem?_eq_getElem (by omega)
  have hy : l[k]? = some l[k] := List.getElem?_eq_getElem hk
  have hm : (vs[k], l[k]) ∈ vs.zip l := by
    refine List.mem_of_getElem? (i := k) ?_
    rw [List.getElem?_zip_eq_some]
    exact ⟨hu, hy⟩
  exact ⟨g, vs[k], l[k], e1, own_cell ho hg hu, hy, hi _ hm⟩

/-- Item, by plain data. -/
def itemP (b : Js.B) (i : Int) : Js.B × Bool := match Js.of b with
  | .ok x => if x.kind = 5 then (if 0 ≤ i then (match x.items[i.toNat]? with | some f => (f, true) | none => ([], false)) else ([], false)) else ([], false)
  | .error _ => ([], false)

theorem itemP_neg {b : Js.B} {i : Int} {x : Js.X} (h : Js.of b = .ok x) (hi : i < 0) : itemP b i = ([], false) := by
  unfold itemP
  rw [h]
  simp only [if_neg (show ¬ 0 ≤ i by omega), ite_self]
theorem itemP_other {b : Js.B} {i : Int} {x : Js.X} (h : Js.of b = .ok x) (hi : ¬ x.kind = 5) : itemP b i = ([], false) := by
  unfold itemP
  rw [h]
  simp only [if_neg hi]
theorem itemP_out {b : Js.B} {k : Nat} {x : Js.X} (h : Js.of b = .ok x) (hk : x.items.length ≤ k) : itemP b k = ([], false) := by
  unfold itemP
  rw [h]
  simp only [Int.toNat_natCast, List.getElem?_eq_none hk, ite_self]
theorem itemP_in {b : Js.B} {k : Nat} {l : List Js.X} {y : Js.X} (h : Js.of b = .ok (Js.mkList l)) (hy : l[k]? = some y) : itemP b k = (y.form, true) := by
  unfold itemP
  rw [h]
  simp only [Int.toNat_natCast, Js.mkList, List.getElem?_map, hy, Option.map_some, if_pos (show (0 : Int) ≤ k by omega), if_true]

set_option maxHeartbeats 3200000 in
set_option maxRecDepth 100000 in
theorem Item_any (s : ByteArray) (i : Int) (w : World) (hs : s.size ≤ 1000000) (hV : Vars w) (h1 : -9223372036854775808 ≤ i) (h2 : i ≤ 9223372036854775807) :
    Calls Tryz.prog 14 #[.string s, .int .i64 i] w fun e w' => e = .returned (.tuple #[.string (bs (itemP s.data.toList i).1), .bool (itemP s.data.toList i).2]) ∧ Below w.heap.size w w' := by
  cases hof : Js.of s.data.toList with
  | error e =>
    have R := asd (read_err s w hs e hof)
    have EP : Aside (Js.of s.data.toList = .error e) := hof
    clear hof hV
    have n69 := asN_69
    by_cases hi : i < 0
    · have d1 : decide (i < 0) = true := decide_eq_true hi
      go_enter Tryz.func14, Tryz.ntmps14
      go_wp2_with (go_at_call 21; refine R.out.mono ?_; rintro en w2 ⟨rfl, hne, b2⟩)
      go_ret2
      exact ⟨by unfold itemP; rw [EP.out]; rfl, b2⟩
    · have d1 : decide (i < 0) = false := decide_eq_false hi
      have d2 : decide (0 ≤ i) = true := decide_eq_true (by omega)
      go_enter Tryz.func14, Tryz.ntmps14
      go_wp2_with (go_at_call 21; refine R.out.mono ?_; rintro en w2 ⟨rfl, hne, b2⟩)
      go_ret2
      exact ⟨by unfold itemP; rw [EP.out]; rfl, b2⟩
  | ok x =>
    have R := asd (read_six s w hs x hof)
    have EP : Aside (Js.of s.data.toList = .ok x) := hof
    have HB : Aside (x.form.length ≤ 400) := by
      show _ ≤ _
      have := Js.of_bd _ _ hof
      omega
    have HV := asd hV
    clear hof hV
    by_cases hi : i < 0
    · have d1 : decide (i < 0) = true := decide_eq_true hi
      have EQ := asd (itemP_neg EP.out hi)
      have a6069 := as60_69
      have a6269 := as62_69
      have a6469 := as64_69
      have a6669 := as66_69
      have a6969 := as69_69
      have a5569 := as55_69
      go_enter Tryz.func14, Tryz.ntmps14
      go_wp2_with (go_at_call 21; refine R.out.mono ?_; rintro en w2 ⟨⟨v, rfl, S⟩, b2⟩; rcases S with ⟨rfl, rfl⟩ | ⟨b, rfl, rfl⟩ | ⟨n, rfl, rfl⟩ | ⟨t, rfl, rfl⟩ | ⟨l, vs, ao, cap, rfl, rfl, S⟩ | ⟨l, ms, ao, cap, rfl, rfl, S⟩)
      all_goals
        go_ret2
        exact ⟨by rw [EQ.out]; rfl, b2⟩
    · have d1 : decide (i < 0) = false := decide_eq_false hi
      by_cases hk : x.kind = 5
      · obtain ⟨k, rfl⟩ : ∃ k : Nat, i = (k : Int) := ⟨i.toNat, by omega⟩
        have a69 := as69_69
        have HK := asd hk
        by_cases hlt : k < x.items.length
        · have HL := asd hlt
          clear hk hlt
          go_enter Tryz.func14, Tryz.ntmps14
          go_wp2_with (first
            | (go_at_call 21; go_loud (
               refine R.out.mono ?_; rintro en w2 ⟨⟨v, rfl, S⟩, b2⟩; obtain ⟨l, vs, ao, cap, rfl, rfl, S5⟩ := S.list HK.out
               have hkl : k < l.length := by have := HL.out; simpa [Js.mkList] using this
               obtain ⟨g, u, y, rfl, c1, hy, hT⟩ := list_at S5.out k hkl
               have d3 : decide ((l.length : Int) ≤ k) = false := decide_eq_false (by omega)
               have HT := asd hT
               have HY := asd hy
               have B2 := asd b2
               clear hT hy b2))
            | (go_at_call 22; refine (form_any 7 _ _ _ y HT.out (fun k hk => hk.2) (HV.out.below B2.out) (by
               have := form_le l y (List.mem_of_getElem? HY.out)
               have h5 := HB.out
               have h6 : (Js.mkList l).form.length = (Js.joins (l.map Js.X.form)).length + 2 := by simp [Js.mkList]
               omega)).mono ?_; rintro e w3 ⟨rfl, b3⟩))
          go_ret2
          exact ⟨by rw [itemP_in EP.out HY.out]; rfl, B2.out.trans (b3.mono B2.out.size)⟩
        · have HL : Aside (x.items.length ≤ k) := by show _ ≤ _; omega
          have EQ := asd (itemP_out EP.out HL.out)
          clear hk hlt
          go_enter Tryz.func14, Tryz.ntmps14
          go_wp2_with (go_at_call 21; refine R.out.mono ?_; rintro en w2 ⟨⟨v, rfl, S⟩, b2⟩; obtain ⟨l, vs, ao, cap, rfl, rfl, S5⟩ := S.list HK.out
                       have d3 : decide ((l.length : Int) ≤ k) = true := decide_eq_true (by have := HL.out; simp only [Js.mkList, List.length_map] at this; omega)
                       have d4 : decide (l.length ≤ k) = true := decide_eq_true (by have := HL.out; simp only [Js.mkList, List.length_map] at this; omega))
          go_ret2
          exact ⟨by rw [EQ.out]; rfl, b2⟩
      · have d2 : decide (0 ≤ i) = true := decide_eq_true (by omega)
        have HK := asd hk
        have EQ := asd (itemP_other (i := i) EP.out hk)
        clear hk
        have a6069 := as60_69
        have a6269 := as62_69
        have a6469 := as64_69
        have a6669 := as66_69
        have a6969 := as69_69
        have a5569 := as55_69
        go_enter Tryz.func14, Tryz.ntmps14
        go_wp2_with (go_at_call 21; refine R.out.mono ?_; rintro en w2 ⟨⟨v, rfl, S⟩, b2⟩; rcases S with ⟨rfl, rfl⟩ | ⟨b, rfl, rfl⟩ | ⟨n, rfl, rfl⟩ | ⟨t, rfl, rfl⟩ | ⟨l, vs, ao, cap, rfl, rfl, S⟩ | ⟨l, ms, ao, cap, rfl, rfl, S⟩; all_goals (try exact absurd rfl HK.out))
        all_goals
          go_ret2
          exact ⟨by rw [EQ.out]; rfl, b2⟩
end Go.Proofs.YtpeioecpilmpiaaGreatDoor
