/-
  Number and Text.
-/
import Derived.Test.YtpeioecpilmpiaaGreatDoorJ20
import Derived.WalkKit
import Derived.WalkSpells
import Derived.WalkLawsBesides
import Derived.Deep.LoopGhost
import Derived.Laws.Externs
import Derived.Below
import Derived.BigQuiet
import Derived.Deep.RegionWith
import Derived.OwnWalk
import Derived.Maps.AppendAt
namespace Go.Proofs.YtpeioecpilmpiaaGreatDoor
open Go.RowKit
theorem as60_60 (v : Value) (w : World) : (Instr.typeAssert (.iface 60 v) 20 60 true).run Tryz.prog w = .ok (.tuple #[v, .bool true]) w := by kernel_rfl
theorem as62_60 (v : Value) (w : World) : (Instr.typeAssert (.iface 62 v) 20 60 true).run Tryz.prog w = .ok (.tuple #[.agg #[], .bool false]) w := by kernel_rfl
theorem as62_64 (v : Value) (w : World) : (Instr.typeAssert (.iface 62 v) 20 64 true).run Tryz.prog w = .ok (.tuple #[.int .i64 0, .bool false]) w := by kernel_rfl
theorem as62_66 (v : Value) (w : World) : (Instr.typeAssert (.iface 62 v) 20 66 true).run Tryz.prog w = .ok (.tuple #[.string ⟨#[]⟩, .bool false]) w := by kernel_rfl
theorem as62_69 (v : Value) (w : World) : (Instr.typeAssert (.iface 62 v) 20 69 true).run Tryz.prog w = .ok (.tuple #[.slice none 0 0, .bool false]) w := by kernel_rfl
theorem as62_55 (v : Value) (w : World) : (Instr.typeAssert (.iface 62 v) 20 55 true).run Tryz.prog w = .ok (.tuple #[.slice none 0 0, .bool false]) w := by kernel_rfl
theorem as64_60 (v : Value) (w : World) : (Instr.typeAssert (.iface 64 v) 20 60 true).run Tryz.prog w = .ok (.tuple #[.agg #[], .bool false]) w := by kernel_rfl
theorem as64_66 (v : Value) (w : World) : (Instr.typeAssert (.iface 64 v) 20 66 true).run Tryz.prog w = .ok (.tuple #[.string ⟨#[]⟩, .bool false]) w := by kernel_rfl
theorem as64_69 (v : Value) (w : World) : (Instr.typeAssert (.iface 64 v) 20 69 true).run Tryz.prog w = .ok (.tuple #[.slice none 0 0, .bool false]) w := by kernel_rfl
theorem as64_55 (v : Value) (w : World) : (Instr.typeAssert (.iface 64 v) 20 55 true).run Tryz.prog w = .ok (.tuple #[.slice none 0 0, .bool false]) w := by kernel_rfl
theorem as66_60 (v : Value) (w : World) : (Instr.typeAssert (.iface 66 v) 20 60 true).run Tryz.prog w = .ok (.tuple #[.agg #[], .bool false]) w := by kernel_rfl
theorem as66_69 (v : Value) (w : World) : (Instr.typeAssert (.iface 66 v) 20 69 true).run Tryz.prog w = .ok (.tuple #[.slice none 0 0, .bool false]) w := by kernel_rfl
theorem as66_55 (v : Value) (w : World) : (Instr.typeAssert (.iface 66 v) 20 55 true).run Tryz.prog w = .ok (.tuple #[.slice none 0 0, .bool false]) w := by kernel_rfl
theorem as69_60 (v : Value) (w : World) : (Instr.typeAssert (.iface 69 v) 20 60 true).run Tryz.prog w = .ok (.tuple #[.agg #[], .bool false]) w := by kernel_rfl
theorem as69_55 (v : Value) (w : World) : (Instr.typeAssert (.iface 69 v) 20 55 true).run Tryz.prog w = .ok (.tuple #[.slice none 0 0, .bool false]) w := by kernel_rfl
theorem as55_60 (v : Value) (w : World) : (Instr.typeAssert (.iface 55 v) 20 60 true).run Tryz.prog w = .ok (.tuple #[.agg #[], .bool false]) w := by kernel_rfl
theorem asN_60 (w : World) : (Instr.typeAssert .nilIface 20 60 true).run Tryz.prog w = .ok (.tuple #[.agg #[], .bool false]) w := by kernel_rfl
theorem asN_62 (w : World) : (Instr.typeAssert .nilIface 20 62 true).run Tryz.prog w = .ok (.tuple #[.bool false, .bool false]) w := by kernel_rfl
theorem asN_64 (w : World) : (Instr.typeAssert .nilIface 20 64 true).run Tryz.prog w = .ok (.tuple #[.int .i64 0, .bool false]) w := by kernel_rfl
theorem asN_66 (w : World) : (Instr.typeAssert .nilIface 20 66 true).run Tryz.prog w = .ok (.tuple #[.string ⟨#[]⟩, .bool false]) w := by kernel_rfl
theorem asN_69 (w : World) : (Instr.typeAssert .nilIface 20 69 true).run Tryz.prog w = .ok (.tuple #[.slice none 0 0, .bool false]) w := by kernel_rfl
theorem asN_55 (w : World) : (Instr.typeAssert .nilIface 20 55 true).run Tryz.prog w = .ok (.tuple #[.slice none 0 0, .bool false]) w := by kernel_rfl

/-- What a value read may be. -/
def Six (w w' : World) (v : Value) (x : Js.X) : Prop :=
  (x = Js.mkNull ∧ v = .iface 60 (.agg #[])) ∨ (∃ b, x = Js.mkTruth b ∧ v = .iface 62 (.bool b)) ∨ (∃ n : Int, x = Js.mkNum n ∧ v = .iface 64 (.int .i64 n)) ∨ (∃ t, x = Js.mkText t ∧ v = .iface 66 (.string (bs t))) ∨
  (∃ (l : List Js.X) (vs : List Value) (ao : Option Addr) (cap : Nat), x = Js.mkList l ∧ v = .iface 69 (.slice ao l.length cap) ∧ Aside (w'.ownsRow 0 20 1 (.slice ao l.length cap) vs.length vs ∧ vs.length = l.length ∧
    ∀ p ∈ vs.zip l, Tv 7 (Bt w.heap.size w'.heap.size) w' p.1 p.2)) ∨
  (∃ (l : List (Js.B × Js.X)) (ms : List Mb) (ao : Option Addr) (cap : Nat), x = Js.mkObj l ∧ v = .iface 55 (.slice ao l.length cap) ∧ Aside (w'.ownsRow 0 58 2 (.slice ao l.length cap) ms.length (ms.flatMap Mb.cells) ∧ ms.map Mb.name = l.map (·.1) ∧ (∀ m ∈ ms, Lib.validD m.name = true) ∧
    ∀ p ∈ ms.zip l, Tv 7 (Bt w.heap.size w'.heap.size) w' p.1.v p.2.2))

theorem Tv.six {w w' : World} {v : Value} {x : Js.X} (h : Tv 8 (Bt w.heap.size w'.heap.size) w' v x) : Six w w' v x := by
  rcases h with (h | h | ⟨n, _, h⟩ | ⟨t, _, h⟩) | ⟨l, vs, sl, e1, e2, ho, hl, hg, hi⟩ | ⟨l, ms, sl, e1, e2, ho, hl, hg, hvd, hi⟩
  · exact .inl h
  · exact .inr (.inl h)
  · exact .inr (.inr (.inl ⟨n, h⟩))
  · exact .inr (.inr (.inr (.inl ⟨t, h⟩)))
  · obtain ⟨a, cap, rfl⟩ := own_any ho
    refine .inr (.inr (.inr (.inr (.inl ⟨l, vs, a, cap, e1, by rw [← hl]; exact e2, ?_⟩))))
    rw [← hl]
    exact ⟨ho, rfl, fun p hp => (hi p hp).frame (fun _ h => h.1) (fun _ _ => rfl)⟩
  · obtain ⟨a, cap, rfl⟩ := own_any ho
    have hlen : ms.length = l.length := by have := congrArg List.length hl; simpa using this
    refine .inr (.inr (.inr (.inr (.inr ⟨l, ms, a, cap, e1, by rw [← hlen]; exact e2, ?_⟩))))
    rw [← hlen]
    exact ⟨ho, hl, hvd, fun p hp => (hi p hp).frame (fun _ h => h.1) (fun _ _ => rfl)⟩

/-- What read answers, by the value's kind. -/
theorem read_six (s : ByteArray) (w : World) (hs : s.size ≤ 1000000) (x : Js.X) (h : Js.of s.data.toList = .ok x) :
    Calls Tryz.prog 21 #[.string s] w fun en w' => (∃ v, en = .returned (.tuple #[v, .int .i64 0]) ∧ Six w w' v x) ∧ Below w.heap.size w w' := by
  refine (read_ok s w hs x h).mono ?_
  rintro en w' ⟨⟨ty, vv, rfl, hT⟩, hb⟩
  exact ⟨⟨_, rfl, hT.six⟩, hb⟩

def kindP (b : Js.B) : Nat := match Js.of b with
  | .ok x => x.kind
  | .error _ => 0
def numberP (b : Js.B) : Int × Bool := match Js.of b with
  | .ok x => if x.kind = 3 then (x.num, true) else (0, false)
  | .error _ => (0, false)
def textP (b : Js.B) : Js.B × Bool := match Js.of b with
  | .ok x => if x.kind = 4 then (x.text, true) else ([], false)
  | .error _ => ([], false)
def lenP (b : Js.B) : Nat := match Js.of b with
  | .ok x => x.items.length
  | .error _ => 0

set_option maxHeartbeats 3200000 in
set_option maxRecDepth 100000 in
theorem Number_any (s : ByteArray) (w : World) (hs : s.size ≤ 1000000) :
    Calls Tryz.prog 15 #[.string s] w fun e w' => e = .returned (.tuple #[.int .i64 (numberP s.data.toList).1, .bool (numberP s.data.toList).2]) ∧ Below w.heap.size w w' := by
  cases hof : Js.of s.data.toList with
  | error e =>
    have R := asd (read_err s w hs e hof)
    have EP : Aside (Js.of s.data.toList = .error e) := hof
    clear hof
    have n64 := asN_64
    go_enter Tryz.func15, Tryz.ntmps15
    go_wp2_with (go_at_call 21; refine R.out.mono ?_; rintro en w2 ⟨rfl, hne, b2⟩)
    go_ret2
    exact ⟨by unfold numberP; rw [EP.out]; rfl, b2⟩
  | ok x =>
    have R := asd (read_six s w hs x hof)
    have EP : Aside (Js.of s.data.toList = .ok x) := hof
    clear hof
    have a6064 := as60_64
    have a6264 := as62_64
    have a6464 := as64_64
    have a6664 := as66_64
    have a6964 := as69_64
    have a5564 := as55_64
    go_enter Tryz.func15, Tryz.ntmps15
    go_wp2_with (go_at_call 21; refine R.out.mono ?_; rintro en w2 ⟨⟨v, rfl, S⟩, b2⟩; rcases S with ⟨rfl, rfl⟩ | ⟨b, rfl, rfl⟩ | ⟨n, rfl, rfl⟩ | ⟨t, rfl, rfl⟩ | ⟨l, vs, ao, cap, rfl, rfl, S⟩ | ⟨l, ms, ao, cap, rfl, rfl, S⟩)
    all_goals
      go_ret2
      exact ⟨by unfold numberP; rw [EP.out]; first | rfl | simp [Js.mkList, Js.mkObj], b2⟩

set_option maxHeartbeats 3200000 in
set_option maxRecDepth 100000 in
theorem Text_any (s : ByteArray) (w : World) (hs : s.size ≤ 1000000) :
    Calls Tryz.prog 16 #[.string s] w fun e w' => e = .returned (.tuple #[.string (bs (textP s.data.toList).1), .bool (textP s.data.toList).2]) ∧ Below w.heap.size w w' := by
  cases hof : Js.of s.data.toList with
  | error e =>
    have R := asd (read_err s w hs e hof)
    have EP : Aside (Js.of s.data.toList = .error e) := hof
    clear hof
    have n66 := asN_66
    go_enter Tryz.func16, Tryz.ntmps16
    go_wp2_with (go_at_call 21; refine R.out.mono ?_; rintro en w2 ⟨rfl, hne, b2⟩)
    go_ret2
    exact ⟨by unfold textP; rw [EP.out]; rfl, b2⟩
  | ok x =>
    have R := asd (read_six s w hs x hof)
    have EP : Aside (Js.of s.data.toList = .ok x) := hof
    clear hof
    have a6066 := as60_66
    have a6266 := as62_66
    have a6466 := as64_66
    have a6666 := as66_66
    have a6966 := as69_66
    have a5566 := as55_66
    go_enter Tryz.func16, Tryz.ntmps16
    go_wp2_with (go_at_call 21; refine R.out.mono ?_; rintro en w2 ⟨⟨v, rfl, S⟩, b2⟩; rcases S with ⟨rfl, rfl⟩ | ⟨b, rfl, rfl⟩ | ⟨n, rfl, rfl⟩ | ⟨t, rfl, rfl⟩ | ⟨l, vs, ao, cap, rfl, rfl, S⟩ | ⟨l, ms, ao, cap, rfl, rfl, S⟩)
    all_goals
      go_ret2
      exact ⟨by unfold textP; rw [EP.out]; first | rfl | simp [Js.mkList, Js.mkObj], b2⟩
end Go.Proofs.YtpeioecpilmpiaaGreatDoor
