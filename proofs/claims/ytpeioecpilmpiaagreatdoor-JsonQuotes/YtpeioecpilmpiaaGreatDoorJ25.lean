/-
  Names.
-/
import Derived.Test.YtpeioecpilmpiaaGreatDoorJ24
import Derived.Deep.RegionHeld3
import Derived.WalkKit
import Derived.WalkSpells
import Derived.WalkLawsBesides
import Derived.Deep.LoopGhost
import Derived.Laws.Externs
import Derived.Below
import Derived.BigQuiet
import Derived.Deep.RegionWith
import Derived.OwnWalk
import Derived.Maps.AppendAt
namespace Go.Proofs.YtpeioecpilmpiaaGreatDoor
open Go.RowKit
/-- Names, by plain data. -/
def namesP (b : Js.B) : List Js.B := match Js.of b with
  | .ok x => if x.kind = 6 then x.names else []
  | .error _ => []
theorem namesP_err {b : Js.B} {e : Nat} (h : Js.of b = .error e) : namesP b = [] := by unfold namesP; rw [h]
theorem namesP_no {b : Js.B} {x : Js.X} (h : Js.of b = .ok x) (hn : ¬ x.kind = 6) : namesP b = [] := by
  unfold namesP
  rw [h]
  simp only [if_neg hn]
theorem namesP_yes {b : Js.B} {l : List (Js.B × Js.X)} (h : Js.of b = .ok (Js.mkObj l)) : namesP b = l.map (·.1) := by
  unfold namesP
  rw [h]
  rfl
/-- The answer of Names. -/
def NmA (ls : List Js.B) (w : World) (e : Ending) (w' : World) : Prop := ∃ v, e = .returned v ∧ w'.ownsRow w.heap.size 9 1 v ls.length (strs ls)
theorem NmA.nil (w w' : World) : NmA [] w (.returned (.slice none 0 0)) w' := ⟨_, rfl, World.ownsRow_nil _ _ _ _⟩

set_option maxHeartbeats 3200000 in
set_option maxRecDepth 100000 in
theorem Names_any (s : ByteArray) (w : World) (hs : s.size ≤ 1000000) :
    Calls Tryz.prog 10 #[.string s] w fun e w' => NmA (namesP s.data.toList) w e w' ∧ Below w.heap.size w w' := by
  cases hof : Js.of s.data.toList with
  | error e =>
    have R := asd (read_err s w hs e hof)
    have EQ := asd (namesP_err hof)
    clear hof
    have n55 := asN_55
    rw [EQ.out]
    go_enter Tryz.func10, Tryz.ntmps10
    go_wp2_with (go_at_call 21; refine R.out.mono ?_; rintro en w2 ⟨rfl, hne, b2⟩)
    go_loopg [7, 9, 22] 0 (fun gh s7 s9 s22 wr => s7 = .slice none 0 0 ∧ s22 = .int .i64 0 ∧ Aside (wr = w2))
    case atStart => exact ⟨rfl, rfl, rfl⟩
    case round =>
      obtain ⟨rfl, rfl, hw⟩ := hrel
      go_wp2
      go_ret
      exact ⟨NmA.nil _ _, by rw [hw.out]; exact b2⟩
  | ok x =>
    have R := asd (read_six s w hs x hof)
    have EP : Aside (Js.of s.data.toList = .ok x) := hof
    have HB : Aside (x.form.length ≤ 400) := by
      show _ ≤ _
      have := Js.of_bd _ _ hof
      omega
    clear hof
    by_cases hk : x.kind = 6
    · have HK := asd hk
      have a55 := as55_55
      clear hk
      go_enter Tryz.func10, Tryz.ntmps10
      go_wp2_with (go_at_call 21; refine R.out.mono ?_; rintro en w2 ⟨⟨v, rfl, S⟩, b2⟩; obtain ⟨l, ms, ao, cap, rfl, rfl, S5⟩ := S.obj HK.out)
      have EQ := asd (namesP_yes EP.out)
      have HN : Aside (l.length ≤ 1000) := by
        show _ ≤ _
        have hcnt := count_le (l.map Js.pairB)
        rw [List.length_map] at hcnt
        have hjl : (Js.joins (l.map Js.pairB)).length + 2 = (Js.mkObj l).form.length := by simp [Js.mkObj]
        have hb := HB.out
        omega
      have AT := asd (fun (i : Nat) (hlt : i < l.length) => mem_at S5.out i hlt)
      have B2 := asd b2
      clear b2 S S5 R EP HB
      go_loopg [7, 9, 22] l.length (fun gh s7 s9 s22 wr => ∃ i : Nat, l.length - i ≤ gh ∧ i ≤ l.length ∧ s22 = .int .i64 (i : Int) ∧ Aside (wr.ownsRow w2.heap.size 9 1 s7 ((l.take i).map (·.1)).length (strs ((l.take i).map (·.1))) ∧ Below w2.heap.size w2 wr))
      case atStart => exact ⟨0, by omega, by omega, rfl, ⟨rfl, .inl ⟨rfl, rfl⟩⟩, Below.refl _ _⟩
      case round =>
        obtain ⟨i, hgh, hil, rfl, I⟩ := hrel
        by_cases hlt : i < l.length
        · obtain ⟨g, u, y, rfl, c1, c2, hy, hT⟩ := AT.out i hlt
          have d1 : decide ((i : Int) < l.length) = true := decide_eq_true (by omega)
          have hln : l.length ≤ 1000 := HN.out
          have c1' := cell_below c1 I.out.2
          have c2' := cell_below c2 I.out.2
          have ht : (l.take (i + 1)).map (·.1) = (l.take i).map (·.1) ++ [y.1] := by rw [List.take_add_one, hy]; simp
          have HT := asd ht
          have hll : ((l.take i).map (·.1)).length ≤ 100000 := by rw [List.length_map, List.length_take]; have := HN.out; omega
          obtain ⟨ty, vv, rfl⟩ := hT.isIface
          obtain ⟨v', w4, e1, o3, b4⟩ := pushS_run w2.heap.size (wr.alloc (Obj.cells #[.string (bs y.1), .iface ty vv] 58)) _ _ y.1 (own_frame I.out.1 (fun k hk => alloc_old wr _ k (own_place I.out.1 hk).2)) hll (by have := I.out.2.size; simp; omega) 26
          have hwz : (wr.alloc (Obj.cells #[.string (bs y.1), .iface ty vv] 58)).heap.size = wr.heap.size + 1 := by simp
          rw [hwz] at e1
          clear hwz
          have HRUN := asd e1
          have A3 := asd (And.intro o3 b4)
          clear hT hy ht c1 c2 e1 o3 b4
          go_wp2_with (at_builtin; refine Lib.wpList_append_run _ rfl _ _ _ _ rfl _ _ rfl rfl _ _ HRUN.out ?_)
          go_roundg (l.length - (i + 1))
          case measure => omega
          case rel => exact ⟨i + 1, Nat.le_refl _, hlt, by go_num, by rw [HT.out]; exact A3.out.1, (I.out.2.alloc I.out.2.size _).trans A3.out.2⟩
        · obtain rfl : i = l.length := by omega
          have hd : decide ((l.length : Int) < l.length) = false := decide_eq_false (by omega)
          go_wp2
          go_ret
          refine ⟨⟨_, rfl, ?_⟩, B2.out.trans (I.out.2.mono B2.out.size)⟩
          have O := I.out.1
          rw [List.take_length] at O
          rw [EQ.out]
          exact own_base O B2.out.size
    · have HK := asd hk
      have EQ := asd (namesP_no EP.out hk)
      clear hk
      have a6055 := as60_55
      have a6255 := as62_55
      have a6455 := as64_55
      have a6655 := as66_55
      have a6955 := as69_55
      have a5555 := as55_55
      rw [EQ.out]
      go_enter Tryz.func10, Tryz.ntmps10
      go_wp2_with (go_at_call 21; refine R.out.mono ?_; rintro en w2 ⟨⟨v, rfl, S⟩, b2⟩; rcases S with ⟨rfl, rfl⟩ | ⟨b, rfl, rfl⟩ | ⟨n, rfl, rfl⟩ | ⟨t, rfl, rfl⟩ | ⟨l, vs, ao, cap, rfl, rfl, S⟩ | ⟨l, ms, ao, cap, rfl, rfl, S⟩; all_goals (try exact absurd rfl HK.out))
      all_goals
        go_loopg [7, 9, 22] 0 (fun gh s7 s9 s22 wr => s7 = .slice none 0 0 ∧ s22 = .int .i64 0 ∧ Aside (wr = w2))
        case atStart => exact ⟨rfl, rfl, rfl⟩
        case round =>
          obtain ⟨rfl, rfl, hw⟩ := hrel
          go_wp2
          go_ret
          exact ⟨NmA.nil _ _, by rw [hw.out]; exact b2⟩
end Go.Proofs.YtpeioecpilmpiaaGreatDoor
