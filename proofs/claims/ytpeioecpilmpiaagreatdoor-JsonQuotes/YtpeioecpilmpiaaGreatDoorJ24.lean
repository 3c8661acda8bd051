/-
  Field.
-/
import Derived.Test.YtpeioecpilmpiaaGreatDoorJ23
import Derived.Deep.RegionHeld3
import Derived.WalkKit
import Derived.WalkSpells
import Derived.WalkLawsBesides
import Derived.Deep.LoopGhost
import Derived.Laws.Externs
import Derived.Below
import Derived.BigQuiet
import Derived.Deep.RegionWith
import Derived.OwnWalk
import Derived.Maps.AppendAt
namespace Go.Proofs.YtpeioecpilmpiaaGreatDoor
open Go.RowKit
theorem Six.obj {w w' : World} {v : Value} {x : Js.X} (h : Six w w' v x) (hk : x.kind = 6) : ∃ (l : List (Js.B × Js.X)) (ms : List Mb) (ao : Option Addr) (cap : Nat), x = Js.mkObj l ∧ v = .iface 55 (.slice ao l.length cap) ∧ Aside (w'.ownsRow 0 58 2 (.slice ao l.length cap) ms.length (ms.flatMap Mb.cells) ∧ ms.map Mb.name = l.map (·.1) ∧ (∀ m ∈ ms, Lib.validD m.name = true) ∧
    ∀ p ∈ ms.zip l, Tv 7 (Bt w.heap.size w'.heap.size) w' p.1.v p.2.2) := by
  rcases h with ⟨rfl, rfl⟩ | ⟨b, rfl, rfl⟩ | ⟨n, rfl, rfl⟩ | ⟨t, rfl, rfl⟩ | ⟨l, vs, ao, cap, rfl, rfl, S⟩ | h
  · cases hk
  · cases hk
  · cases hk
  · cases hk
  · cases hk
  · exact h

theorem good_rise {n : Nat} {l : List (Js.B × Js.X)} (h : Js.Good (n + 1) (Js.mkObj l)) : Js.Rise (l.map (·.1)) := by
  rcases h with h | ⟨l', e, _⟩ | ⟨l', e, hr, _⟩
  · rcases h with e | ⟨_, e⟩ | ⟨_, _, e⟩ | ⟨_, _, e⟩ <;> (have h6 := congrArg Js.X.kind e; simp [Js.mkObj, Js.mkNull, Js.mkTruth, Js.mkNum, Js.mkText] at h6)
  · have h6 := congrArg Js.X.kind e
    simp [Js.mkObj, Js.mkList] at h6
  · have := congrArg Js.X.names e
    simp only [Js.mkObj] at this
    rw [this]; exact hr

theorem mem_at {w w' : World} {ao : Option Addr} {cap n : Nat} {l : List (Js.B × Js.X)} {ms : List Mb} (h : w'.ownsRow 0 58 2 (.slice ao n cap) ms.length (ms.flatMap Mb.cells) ∧ ms.map Mb.name = l.map (·.1) ∧ (∀ m ∈ ms, Lib.validD m.name = true) ∧ ∀ p ∈ ms.zip l, Tv 7 (Bt w.heap.size w'.heap.size) w' p.1.v p.2.2) (k : Nat) (hk : k < l.length) :
    ∃ g u y, ao = some ⟨g, 0, none⟩ ∧ w'.cell? ⟨g, k * 2, none⟩ = some (.string (bs y.1)) ∧ w'.cell? ⟨g, k * 2 + 1, none⟩ = some u ∧ l[k]? = some y ∧ Tv 7 (Bt w.heap.size w'.heap.size) w' u y.2 := by
  obtain ⟨ho, hnm, _, hi⟩ := h
  have hlen : ms.length = l.length := by have := congrArg List.length hnm; simpa using this
  obtain ⟨g, c', e, _, _, hg⟩ := own_form ho (by omega)
  injection e with e1 e2 e3
  have hu : ms[k]? = some ms[k] := List.getElem?_eq_getElem (by omega)
  have hy : l[k]? = some l[k] := List.getElem?_eq_getElem hk
  have hm : (ms[k], l[k]) ∈ ms.zip l := by
    refine List.mem_of_getElem? (i := k) ?_
    rw [List.getElem?_zip_eq_some]
    exact ⟨hu, hy⟩
  have hname : ms[k].name = (l[k]).1 := by
    have := congrArg (fun x => x[k]?) hnm
    simp only [List.getElem?_map, hu, hy, Option.map_some, Option.some.injEq] at this
    exact this
  obtain ⟨c0, c1⟩ := flat_at hu
  rw [hname] at c0
  exact ⟨g, ms[k].v, l[k], e1, own_cell ho hg c0, own_cell ho hg c1, hy, hi _ hm⟩

/-- Field, by plain data. -/
def fieldP (b n : Js.B) : Js.B × Bool := match Js.of b with
  | .ok x => if x.kind = 6 ∧ n ∈ x.names then (x.items[Js.place x.names n]!, true) else ([], false)
  | .error _ => ([], false)
theorem fieldP_err {b n : Js.B} {e : Nat} (h : Js.of b = .error e) : fieldP b n = ([], false) := by unfold fieldP; rw [h]
theorem fieldP_no {b n : Js.B} {x : Js.X} (h : Js.of b = .ok x) (hn : ¬ (x.kind = 6 ∧ n ∈ x.names)) : fieldP b n = ([], false) := by
  unfold fieldP
  rw [h]
  simp only [if_neg hn]
theorem fieldP_yes {b n : Js.B} {l : List (Js.B × Js.X)} {y : Js.B × Js.X} (h : Js.of b = .ok (Js.mkObj l)) (hn : n ∈ l.map (·.1)) (hy : l[Js.place (l.map (·.1)) n]? = some y) : fieldP b n = (y.2.form, true) := by
  unfold fieldP
  rw [h]
  have e : (Js.mkObj l).items[Js.place (Js.mkObj l).names n]! = y.2.form := by
    show (l.map (·.2.form))[Js.place (l.map (·.1)) n]! = _
    rw [List.getElem!_eq_getElem?_getD, List.getElem?_map, hy]
    rfl
  simp only []
  rw [if_pos ⟨rfl, hn⟩, e]

theorem find_nil (n : Js.B) (w : World) : Calls Tryz.prog 26 #[.slice none 0 0, .string (bs n)] w fun e w' => e = .returned (.tuple #[.int .i64 0, .bool false]) ∧ Below w.heap.size w w' :=
  find_any 0 (.slice none 0 0) [] n w (World.ownsRow_nil w 0 58 2) (by first | trivial | simp [Js.Rise]) (by simp)

set_option maxHeartbeats 3200000 in
set_option maxRecDepth 100000 in
theorem Field_any (s nn : ByteArray) (w : World) (hs : s.size ≤ 1000000) (hV : Vars w) :
    Calls Tryz.prog 13 #[.string s, .string nn] w fun e w' => e = .returned (.tuple #[.string (bs (fieldP s.data.toList nn.data.toList).1), .bool (fieldP s.data.toList nn.data.toList).2]) ∧ Below w.heap.size w w' := by
  have FN := asd (fun w => (find_nil nn.data.toList w : Calls Tryz.prog 26 #[.slice none 0 0, .string nn] w _))
  cases hof : Js.of s.data.toList with
  | error e =>
    have R := asd (read_err s w hs e hof)
    have EQ := asd (fieldP_err (n := nn.data.toList) hof)
    clear hof hV
    have n55 := asN_55
    go_enter Tryz.func13, Tryz.ntmps13
    go_wp2_with (first
      | (go_at_call 21; refine R.out.mono ?_; rintro en w2 ⟨rfl, hne, b2⟩)
      | (go_at_call 26; refine (FN.out _).mono ?_; rintro en w3 ⟨rfl, b3⟩))
    go_ret2
    exact ⟨by rw [EQ.out]; rfl, b2.trans (b3.mono b2.size)⟩
  | ok x =>
    have R := asd (read_six s w hs x hof)
    have EP : Aside (Js.of s.data.toList = .ok x) := hof
    have HB : Aside (x.form.length ≤ 400 ∧ Js.Good 8 x) := by
      show _ ∧ _
      have := Js.of_bd _ _ hof
      exact ⟨by omega, this.2.2⟩
    have HV := asd hV
    clear hof hV
    by_cases hk : x.kind = 6
    · have HK := asd hk
      have a55 := as55_55
      clear hk
      by_cases hn : nn.data.toList ∈ x.names
      · have HN := asd hn
        clear hn
        go_enter Tryz.func13, Tryz.ntmps13
        go_wp2_with (first
          | (go_at_call 21; go_loud (
             refine R.out.mono ?_; rintro en w2 ⟨⟨v, rfl, S⟩, b2⟩; obtain ⟨l, ms, ao, cap, rfl, rfl, S5⟩ := S.obj HK.out
             have hrise := good_rise HB.out.2
             have hcnt := count_le (l.map Js.pairB)
             rw [List.length_map] at hcnt
             have hjl : (Js.joins (l.map Js.pairB)).length + 2 = (Js.mkObj l).form.length := by simp [Js.mkObj]
             have hb := HB.out.1
             have hn' : nn.data.toList ∈ l.map (·.1) := HN.out
             have hlen : ms.length = l.length := by have := congrArg List.length S5.out.2.1; simpa using this
             have hpl : Js.place (l.map (·.1)) nn.data.toList < l.length := by
               have := ((Js.place_mem hrise _).1 hn').1
               rwa [List.length_map] at this
             have F := asd (find_any 0 _ ms nn.data.toList w2 S5.out.1 (by rw [S5.out.2.1]; exact hrise) (by omega))
             rw [S5.out.2.1, decide_eq_true hn'] at F
             obtain ⟨g, u, y, rfl, c0, c1, hy, hT⟩ := mem_at S5.out _ hpl
             have hyf : y.2.form.length ≤ 100000 := by
               have h1 := S_mem (l.map Js.pairB) (Js.pairB y) (List.mem_map.2 ⟨y, List.mem_of_getElem? hy, rfl⟩)
               have h2 := Js.joins_len (l.map Js.pairB) (by intro e; have := congrArg List.length e; simp at this; subst this; simp at hpl)
               have h3 : (Js.pairB y).length = (Js.quote y.1).length + 1 + y.2.form.length := by simp [Js.pairB]; omega
               omega
             have HT := asd hT
             have EQ := asd (fieldP_yes EP.out hn' hy)
             have HYF := asd hyf
             have B2 := asd b2
             clear hT hy b2 hrise hcnt hjl hb hn' hlen hyf c0
             generalize Js.place (l.map (·.1)) nn.data.toList = k at *))
          | (go_at_call 26; go_loud (
             refine F.out.mono ?_; rintro en w3 ⟨rfl, b3⟩
             have B3 := asd b3
             have c1' := cell_below c1 b3
             clear b3))
          | (go_at_call 22; go_loud (
             refine (form_any 7 _ _ _ y.2 (HT.out.frame (fun _ h => h) (fun k hk => B3.out.block k hk.2)) (fun k hk => Nat.lt_of_lt_of_le hk.2 B3.out.size) ((HV.out.below B2.out).below B3.out) HYF.out).mono ?_; rintro e w4 ⟨rfl, b4⟩)))
        go_ret2
        exact ⟨by rw [EQ.out]; rfl, (B2.out.trans (B3.out.mono B2.out.size)).trans (b4.mono (Nat.le_trans B2.out.size B3.out.size))⟩
      · have HN := asd hn
        have EQ := asd (fieldP_no (n := nn.data.toList) EP.out (fun h => hn h.2))
        clear hn
        go_enter Tryz.func13, Tryz.ntmps13
        go_wp2_with (first
          | (go_at_call 21; go_loud (
             refine R.out.mono ?_; rintro en w2 ⟨⟨v, rfl, S⟩, b2⟩; obtain ⟨l, ms, ao, cap, rfl, rfl, S5⟩ := S.obj HK.out
             have hrise := good_rise HB.out.2
             have hcnt := count_le (l.map Js.pairB)
             rw [List.length_map] at hcnt
             have hjl : (Js.joins (l.map Js.pairB)).length + 2 = (Js.mkObj l).form.length := by simp [Js.mkObj]
             have hb := HB.out.1
             have hn' : ¬ nn.data.toList ∈ l.map (·.1) := HN.out
             have hlen : ms.length = l.length := by have := congrArg List.length S5.out.2.1; simpa using this
             have F := asd (find_any 0 _ ms nn.data.toList w2 S5.out.1 (by rw [S5.out.2.1]; exact hrise) (by omega))
             rw [S5.out.2.1, decide_eq_false hn'] at F
             clear hrise hcnt hjl hb hn' hlen))
          | (go_at_call 26; go_loud (
             refine F.out.mono ?_; rintro en w3 ⟨rfl, b3⟩)))
        go_ret2
        exact ⟨by rw [EQ.out]; rfl, b2.trans (b3.mono b2.size)⟩
    · have HK := asd hk
      have EQ := asd (fieldP_no (n := nn.data.toList) EP.out (fun h => hk h.1))
      clear hk
      have a6055 := as60_55
      have a6255 := as62_55
      have a6455 := as64_55
      have a6655 := as66_55
      have a6955 := as69_55
      have a5555 := as55_55
      go_enter Tryz.func13, Tryz.ntmps13
      go_wp2_with (first
        | (go_at_call 21; refine R.out.mono ?_; rintro en w2 ⟨⟨v, rfl, S⟩, b2⟩; rcases S with ⟨rfl, rfl⟩ | ⟨b, rfl, rfl⟩ | ⟨n, rfl, rfl⟩ | ⟨t, rfl, rfl⟩ | ⟨l, vs, ao, cap, rfl, rfl, S⟩ | ⟨l, ms, ao, cap, rfl, rfl, S⟩; all_goals (try exact absurd rfl HK.out))
        | (go_at_call 26; refine (FN.out _).mono ?_; rintro en w3 ⟨rfl, b3⟩))
      all_goals
        go_ret2
        exact ⟨by rw [EQ.out]; rfl, b2.trans (b3.mono b2.size)⟩
end Go.Proofs.YtpeioecpilmpiaaGreatDoor
