/-
  YtpeioecpilmpiaaGreatDoor: the texts J21, J22, J23, J24, one behind the other.
-/
import Derived.Test.YtpeioecpilmpiaaGreatDoorMF18
import Derived.WalkKit
import Derived.WalkSpells
import Derived.WalkLawsBesides
import Derived.Deep.LoopGhost
import Derived.Laws.Externs
import Derived.Below
import Derived.BigQuiet
import Derived.Deep.RegionWith
import Derived.OwnWalk
import Derived.Maps.AppendAt
import Derived.Deep.RegionHeld3
/-
  Number and Text.
-/
namespace Go.Proofs.YtpeioecpilmpiaaGreatDoor
open Go.RowKit
theorem as60_60 (v : Value) (w : World) : (Instr.typeAssert (.iface 60 v) 20 60 true).run Tryz.prog w = .ok (.tuple #[v, .bool true]) w := by kernel_rfl
theorem as62_60 (v : Value) (w : World) : (Instr.typeAssert (.iface 62 v) 20 60 true).run Tryz.prog w = .ok (.tuple #[.agg #[], .bool false]) w := by kernel_rfl
theorem as62_64 (v : Value) (w : World) : (Instr.typeAssert (.iface 62 v) 20 64 true).run Tryz.prog w = .ok (.tuple #[.int .i64 0, .bool false]) w := by kernel_rfl
theorem as62_66 (v : Value) (w : World) : (Instr.typeAssert (.iface 62 v) 20 66 true).run Tryz.prog w = .ok (.tuple #[.string ⟨#[]⟩, .bool false]) w := by kernel_rfl
theorem as62_69 (v : Value) (w : World) : (Instr.typeAssert (.iface 62 v) 20 69 true).run Tryz.prog w = .ok (.tuple #[.slice none 0 0, .bool false]) w := by kernel_rfl
theorem as62_55 (v : Value) (w : World) : (Instr.typeAssert (.iface 62 v) 20 55 true).run Tryz.prog w = .ok (.tuple #[.slice none 0 0, .bool false]) w := by kernel_rfl
theorem as64_60 (v : Value) (w : World) : (Instr.typeAssert (.iface 64 v) 20 60 true).run Tryz.prog w = .ok (.tuple #[.agg #[], .bool false]) w := by kernel_rfl
theorem as64_66 (v : Value) (w : World) : (Instr.typeAssert (.iface 64 v) 20 66 true).run Tryz.prog w = .ok (.tuple #[.string ⟨#[]⟩, .bool false]) w := by kernel_rfl
theorem as64_69 (v : Value) (w : World) : (Instr.typeAssert (.iface 64 v) 20 69 true).run Tryz.prog w = .ok (.tuple #[.slice none 0 0, .bool false]) w := by kernel_rfl
theorem as64_55 (v : Value) (w : World) : (Instr.typeAssert (.iface 64 v) 20 55 true).run Tryz.prog w = .ok (.tuple #[.slice none 0 0, .bool false]) w := by kernel_rfl
theorem as66_60 (v : Value) (w : World) : (Instr.typeAssert (.iface 66 v) 20 60 true).run Tryz.prog w = .ok (.tuple #[.agg #[], .bool false]) w := by kernel_rfl
theorem as66_69 (v : Value) (w : World) : (Instr.typeAssert (.iface 66 v) 20 69 true).run Tryz.prog w = .ok (.tuple #[.slice none 0 0, .bool false]) w := by kernel_rfl
theorem as66_55 (v : Value) (w : World) : (Instr.typeAssert (.iface 66 v) 20 55 true).run Tryz.prog w = .ok (.tuple #[.slice none 0 0, .bool false]) w := by kernel_rfl
theorem as69_60 (v : Value) (w : World) : (Instr.typeAssert (.iface 69 v) 20 60 true).run Tryz.prog w = .ok (.tuple #[.agg #[], .bool false]) w := by kernel_rfl
theorem as69_55 (v : Value) (w : World) : (Instr.typeAssert (.iface 69 v) 20 55 true).run Tryz.prog w = .ok (.tuple #[.slice none 0 0, .bool false]) w := by kernel_rfl
theorem as55_60 (v : Value) (w : World) : (Instr.typeAssert (.iface 55 v) 20 60 true).run Tryz.prog w = .ok (.tuple #[.agg #[], .bool false]) w := by kernel_rfl
theorem asN_60 (w : World) : (Instr.typeAssert .nilIface 20 60 true).run Tryz.prog w = .ok (.tuple #[.agg #[], .bool false]) w := by kernel_rfl
theorem asN_62 (w : World) : (Instr.typeAssert .nilIface 20 62 true).run Tryz.prog w = .ok (.tuple #[.bool false, .bool false]) w := by kernel_rfl
theorem asN_64 (w : World) : (Instr.typeAssert .nilIface 20 64 true).run Tryz.prog w = .ok (.tuple #[.int .i64 0, .bool false]) w := by kernel_rfl
theorem asN_66 (w : World) : (Instr.typeAssert .nilIface 20 66 true).run Tryz.prog w = .ok (.tuple #[.string ⟨#[]⟩, .bool false]) w := by kernel_rfl
theorem asN_69 (w : World) : (Instr.typeAssert .nilIface 20 69 true).run Tryz.prog w = .ok (.tuple #[.slice none 0 0, .bool false]) w := by kernel_rfl
theorem asN_55 (w : World) : (Instr.typeAssert .nilIface 20 55 true).run Tryz.prog w = .ok (.tuple #[.slice none 0 0, .bool false]) w := by kernel_rfl

/-- What a value read may be. -/
def Six (w w' : World) (v : Value) (x : Js.X) : Prop :=
  (x = Js.mkNull ∧ v = .iface 60 (.agg #[])) ∨ (∃ b, x = Js.mkTruth b ∧ v = .iface 62 (.bool b)) ∨ (∃ n : Int, x = Js.mkNum n ∧ v = .iface 64 (.int .i64 n)) ∨ (∃ t, x = Js.mkText t ∧ v = .iface 66 (.string (bs t))) ∨
  (∃ (l : List Js.X) (vs : List Value) (ao : Option Addr) (cap : Nat), x = Js.mkList l ∧ v = .iface 69 (.slice ao l.length cap) ∧ Aside (w'.ownsRow 0 20 1 (.slice ao l.length cap) vs.length vs ∧ vs.length = l.length ∧
    ∀ p ∈ vs.zip l, Tv 7 (Bt w.heap.size w'.heap.size) w' p.1 p.2)) ∨
  (∃ (l : List (Js.B × Js.X)) (ms : List Mb) (ao : Option Addr) (cap : Nat), x = Js.mkObj l ∧ v = .iface 55 (.slice ao l.length cap) ∧ Aside (w'.ownsRow 0 58 2 (.slice ao l.length cap) ms.length (ms.flatMap Mb.cells) ∧ ms.map Mb.name = l.map (·.1) ∧ (∀ m ∈ ms, Lib.validD m.name = true) ∧
    ∀ p ∈ ms.zip l, Tv 7 (Bt w.heap.size w'.heap.size) w' p.1.v p.2.2))

theorem Tv.six {w w' : World} {v : Value} {x : Js.X} (h : Tv 8 (Bt w.heap.size w'.heap.size) w' v x) : Six w w' v x := by
  rcases h with (h | h | ⟨n, _, h⟩ | ⟨t, _, h⟩) | ⟨l, vs, sl, e1, e2, ho, hl, hg, hi⟩ | ⟨l, ms, sl, e1, e2, ho, hl, hg, hvd, hi⟩
  · exact .inl h
  · exact .inr (.inl h)
  · exact .inr (.inr (.inl ⟨n, h⟩))
  · exact .inr (.inr (.inr (.inl ⟨t, h⟩)))
  · obtain ⟨a, cap, rfl⟩ := own_any ho
    refine .inr (.inr (.inr (.inr (.inl ⟨l, vs, a, cap, e1, by rw [← hl]; exact e2, ?_⟩))))
    rw [← hl]
    exact ⟨ho, rfl, fun p hp => (hi p hp).frame (fun _ h => h.1) (fun _ _ => rfl)⟩
  · obtain ⟨a, cap, rfl⟩ := own_any ho
    have hlen : ms.length = l.length := by have := congrArg List.length hl; simpa using this
    refine .inr (.inr (.inr (.inr (.inr ⟨l, ms, a, cap, e1, by rw [← hlen]; exact e2, ?_⟩))))
    rw [← hlen]
    exact ⟨ho, hl, hvd, fun p hp => (hi p hp).frame (fun _ h => h.1) (fun _ _ => rfl)⟩

/-- What read answers, by the value's kind. -/
theorem read_six (s : ByteArray) (w : World) (hs : s.size ≤ 1000000) (x : Js.X) (h : Js.of s.data.toList = .ok x) :
    Calls Tryz.prog 21 #[.string s] w fun en w' => (∃ v, en = .returned (.tuple #[v, .int .i64 0]) ∧ Six w w' v x) ∧ Below w.heap.size w w' := by
  refine (read_ok s w hs x h).mono ?_
  rintro en w' ⟨⟨ty, vv, rfl, hT⟩, hb⟩
  exact ⟨⟨_, rfl, hT.six⟩, hb⟩

def kindP (b : Js.B) : Nat := match Js.of b with
  | .ok x => x.kind
  | .error _ => 0
def numberP (b : Js.B) : Int × Bool := match Js.of b with
  | .ok x => if x.kind = 3 then (x.num, true) else (0, false)
  | .error _ => (0, false)
def textP (b : Js.B) : Js.B × Bool := match Js.of b with
  | .ok x => if x.kind = 4 then (x.text, true) else ([], false)
  | .error _ => ([], false)
def lenP (b : Js.B) : Nat := match Js.of b with
  | .ok x => x.items.length
  | .error _ => 0

set_option maxHeartbeats 3200000 in
set_option maxRecDepth 100000 in
theorem Number_any (s : ByteArray) (w : World) (hs : s.size ≤ 1000000) :
    Calls Tryz.prog 15 #[.string s] w fun e w' => e = .returned (.tuple #[.int .i64 (numberP s.data.toList).1, .bool (numberP s.data.toList).2]) ∧ Below w.heap.size w w' := by
  cases hof : Js.of s.data.toList with
  | error e =>
    have R := asd (read_err s w hs e hof)
    have EP : Aside (Js.of s.data.toList = .error e) := hof
    clear hof
    have n64 := asN_64
    go_enter Tryz.func15, Tryz.ntmps15
    go_wp2_with (go_at_call 21; refine R.out.mono ?_; rintro en w2 ⟨rfl, hne, b2⟩)
    go_ret2
    exact ⟨by unfold numberP; rw [EP.out]; rfl, b2⟩
  | ok x =>
    have R := asd (read_six s w hs x hof)
    have EP : Aside (Js.of s.data.toList = .ok x) := hof
    clear hof
    have a6064 := as60_64
    have a6264 := as62_64
    have a6464 := as64_64
    have a6664 := as66_64
    have a6964 := as69_64
    have a5564 := as55_64
    go_enter Tryz.func15, Tryz.ntmps15
    go_wp2_with (go_at_call 21; refine R.out.mono ?_; rintro en w2 ⟨⟨v, rfl, S⟩, b2⟩; rcases S with ⟨rfl, rfl⟩ | ⟨b, rfl, rfl⟩ | ⟨n, rfl, rfl⟩ | ⟨t, rfl, rfl⟩ | ⟨l, vs, ao, cap, rfl, rfl, S⟩ | ⟨l, ms, ao, cap, rfl, rfl, S⟩)
    all_goals
      go_ret2
      exact ⟨by unfold numberP; rw [EP.out]; first | rfl | simp [Js.mkList, Js.mkObj], b2⟩

set_option maxHeartbeats 3200000 in
set_option maxRecDepth 100000 in
theorem Text_any (s : ByteArray) (w : World) (hs : s.size ≤ 1000000) :
    Calls Tryz.prog 16 #[.string s] w fun e w' => e = .returned (.tuple #[.string (bs (textP s.data.toList).1), .bool (textP s.data.toList).2]) ∧ Below w.heap.size w w' := by
  cases hof : Js.of s.data.toList with
  | error e =>
    have R := asd (read_err s w hs e hof)
    have EP : Aside (Js.of s.data.toList = .error e) := hof
    clear hof
    have n66 := asN_66
    go_enter Tryz.func16, Tryz.ntmps16
    go_wp2_with (go_at_call 21; refine R.out.mono ?_; rintro en w2 ⟨rfl, hne, b2⟩)
    go_ret2
    exact ⟨by unfold textP; rw [EP.out]; rfl, b2⟩
  | ok x =>
    have R := asd (read_six s w hs x hof)
    have EP : Aside (Js.of s.data.toList = .ok x) := hof
    clear hof
    have a6066 := as60_66
    have a6266 := as62_66
    have a6466 := as64_66
    have a6666 := as66_66
    have a6966 := as69_66
    have a5566 := as55_66
    go_enter Tryz.func16, Tryz.ntmps16
    go_wp2_with (go_at_call 21; refine R.out.mono ?_; rintro en w2 ⟨⟨v, rfl, S⟩, b2⟩; rcases S with ⟨rfl, rfl⟩ | ⟨b, rfl, rfl⟩ | ⟨n, rfl, rfl⟩ | ⟨t, rfl, rfl⟩ | ⟨l, vs, ao, cap, rfl, rfl, S⟩ | ⟨l, ms, ao, cap, rfl, rfl, S⟩)
    all_goals
      go_ret2
      exact ⟨by unfold textP; rw [EP.out]; first | rfl | simp [Js.mkList, Js.mkObj], b2⟩
end Go.Proofs.YtpeioecpilmpiaaGreatDoor

/-
  Kind and Len.
-/
namespace Go.Proofs.YtpeioecpilmpiaaGreatDoor
open Go.RowKit

set_option maxHeartbeats 3200000 in
set_option maxRecDepth 100000 in
theorem Kind_any (s : ByteArray) (w : World) (hs : s.size ≤ 1000000) :
    Calls Tryz.prog 11 #[.string s] w fun e w' => e = .returned (.int .i64 (kindP s.data.toList : Nat)) ∧ Below w.heap.size w w' := by
  cases hof : Js.of s.data.toList with
  | error e =>
    have R := asd (read_err s w hs e hof)
    have EP : Aside (Js.of s.data.toList = .error e) := hof
    clear hof
    have n60 := asN_60
    have n62 := asN_62
    have n64 := asN_64
    have n66 := asN_66
    have n69 := asN_69
    have n55 := asN_55
    go_enter Tryz.func11, Tryz.ntmps11
    go_wp2_with (go_at_call 21; refine R.out.mono ?_; rintro en w2 ⟨rfl, hne, b2⟩)
    go_ret
    exact ⟨by unfold kindP; rw [EP.out]; rfl, b2.alloc b2.size _⟩
  | ok x =>
    have R := asd (read_six s w hs x hof)
    have EP : Aside (Js.of s.data.toList = .ok x) := hof
    clear hof
    have a6060 := as60_60
    have a6062 := as60_62
    have a6064 := as60_64
    have a6066 := as60_66
    have a6069 := as60_69
    have a6055 := as60_55
    have a6260 := as62_60
    have a6262 := as62_62
    have a6264 := as62_64
    have a6266 := as62_66
    have a6269 := as62_69
    have a6255 := as62_55
    have a6460 := as64_60
    have a6462 := as64_62
    have a6464 := as64_64
    have a6466 := as64_66
    have a6469 := as64_69
    have a6455 := as64_55
    have a6660 := as66_60
    have a6662 := as66_62
    have a6664 := as66_64
    have a6666 := as66_66
    have a6669 := as66_69
    have a6655 := as66_55
    have a6960 := as69_60
    have a6962 := as69_62
    have a6964 := as69_64
    have a6966 := as69_66
    have a6969 := as69_69
    have a6955 := as69_55
    have a5560 := as55_60
    have a5562 := as55_62
    have a5564 := as55_64
    have a5566 := as55_66
    have a5569 := as55_69
    have a5555 := as55_55
    go_enter Tryz.func11, Tryz.ntmps11
    go_wp2_with (go_at_call 21; refine R.out.mono ?_; rintro en w2 ⟨⟨v, rfl, S⟩, b2⟩; rcases S with ⟨rfl, rfl⟩ | ⟨b, rfl, rfl⟩ | ⟨n, rfl, rfl⟩ | ⟨t, rfl, rfl⟩ | ⟨l, vs, ao, cap, rfl, rfl, S⟩ | ⟨l, ms, ao, cap, rfl, rfl, S⟩)
    all_goals
      go_ret
      exact ⟨by unfold kindP; rw [EP.out]; first | rfl | simp [Js.mkList, Js.mkObj], b2.alloc b2.size _⟩

set_option maxHeartbeats 3200000 in
set_option maxRecDepth 100000 in
theorem Len_any (s : ByteArray) (w : World) (hs : s.size ≤ 1000000) :
    Calls Tryz.prog 12 #[.string s] w fun e w' => e = .returned (.int .i64 (lenP s.data.toList : Nat)) ∧ Below w.heap.size w w' := by
  cases hof : Js.of s.data.toList with
  | error e =>
    have R := asd (read_err s w hs e hof)
    have EP : Aside (Js.of s.data.toList = .error e) := hof
    clear hof
    have n69 := asN_69
    have n55 := asN_55
    go_enter Tryz.func12, Tryz.ntmps12
    go_wp2_with (go_at_call 21; refine R.out.mono ?_; rintro en w2 ⟨rfl, hne, b2⟩)
    go_ret
    exact ⟨by unfold lenP; rw [EP.out]; rfl, b2⟩
  | ok x =>
    have R := asd (read_six s w hs x hof)
    have EP : Aside (Js.of s.data.toList = .ok x) := hof
    clear hof
    have a6069 := as60_69
    have a6055 := as60_55
    have a6269 := as62_69
    have a6255 := as62_55
    have a6469 := as64_69
    have a6455 := as64_55
    have a6669 := as66_69
    have a6655 := as66_55
    have a6969 := as69_69
    have a6955 := as69_55
    have a5569 := as55_69
    have a5555 := as55_55
    go_enter Tryz.func12, Tryz.ntmps12
    go_wp2_with (go_at_call 21; refine R.out.mono ?_; rintro en w2 ⟨⟨v, rfl, S⟩, b2⟩; rcases S with ⟨rfl, rfl⟩ | ⟨b, rfl, rfl⟩ | ⟨n, rfl, rfl⟩ | ⟨t, rfl, rfl⟩ | ⟨l, vs, ao, cap, rfl, rfl, S⟩ | ⟨l, ms, ao, cap, rfl, rfl, S⟩)
    all_goals
      go_ret
      exact ⟨by unfold lenP; rw [EP.out]; first | rfl | simp [Js.mkList, Js.mkObj], b2⟩
end Go.Proofs.YtpeioecpilmpiaaGreatDoor

/-
  Item.
-/
namespace Go.Proofs.YtpeioecpilmpiaaGreatDoor
open Go.RowKit
theorem Six.list {w w' : World} {v : Value} {x : Js.X} (h : Six w w' v x) (hk : x.kind = 5) : ∃ (l : List Js.X) (vs : List Value) (ao : Option Addr) (cap : Nat), x = Js.mkList l ∧ v = .iface 69 (.slice ao l.length cap) ∧ Aside (w'.ownsRow 0 20 1 (.slice ao l.length cap) vs.length vs ∧ vs.length = l.length ∧
    ∀ p ∈ vs.zip l, Tv 7 (Bt w.heap.size w'.heap.size) w' p.1 p.2) := by
  rcases h with ⟨rfl, rfl⟩ | ⟨b, rfl, rfl⟩ | ⟨n, rfl, rfl⟩ | ⟨t, rfl, rfl⟩ | h | ⟨l, ms, ao, cap, rfl, rfl, S⟩
  · cases hk
  · cases hk
  · cases hk
  · cases hk
  · exact h
  · cases hk

theorem list_at {w w' : World} {ao : Option Addr} {cap n : Nat} {l : List Js.X} {vs : List Value} (h : w'.ownsRow 0 20 1 (.slice ao n cap) vs.length vs ∧ vs.length = l.length ∧ ∀ p ∈ vs.zip l, Tv 7 (Bt w.heap.size w'.heap.size) w' p.1 p.2) (k : Nat) (hk : k < l.length) :
    ∃ g u y, ao = some ⟨g, 0, none⟩ ∧ w'.cell? ⟨g, k, none⟩ = some u ∧ l[k]? = some y ∧ Tv 7 (Bt w.heap.size w'.heap.size) w' u y := by
  obtain ⟨ho, hlen, hi⟩ := h
  obtain ⟨g, c', e, _, _, hg⟩ := own_form ho (by omega)
  injection e with e1 e2 e3
  have hu : vs[k]? = some vs[k] := List.getElem?_eq_getElem (by omega)
  have hy : l[k]? = some l[k] := List.getElem?_eq_getElem hk
  have hm : (vs[k], l[k]) ∈ vs.zip l := by
    refine List.mem_of_getElem? (i := k) ?_
    rw [List.getElem?_zip_eq_some]
    exact ⟨hu, hy⟩
  exact ⟨g, vs[k], l[k], e1, own_cell ho hg hu, hy, hi _ hm⟩

/-- Item, by plain data. -/
def itemP (b : Js.B) (i : Int) : Js.B × Bool := match Js.of b with
  | .ok x => if x.kind = 5 then (if 0 ≤ i then (match x.items[i.toNat]? with | some f => (f, true) | none => ([], false)) else ([], false)) else ([], false)
  | .error _ => ([], false)

theorem itemP_neg {b : Js.B} {i : Int} {x : Js.X} (h : Js.of b = .ok x) (hi : i < 0) : itemP b i = ([], false) := by
  unfold itemP
  rw [h]
  simp only [if_neg (show ¬ 0 ≤ i by omega), ite_self]
theorem itemP_other {b : Js.B} {i : Int} {x : Js.X} (h : Js.of b = .ok x) (hi : ¬ x.kind = 5) : itemP b i = ([], false) := by
  unfold itemP
  rw [h]
  simp only [if_neg hi]
theorem itemP_out {b : Js.B} {k : Nat} {x : Js.X} (h : Js.of b = .ok x) (hk : x.items.length ≤ k) : itemP b k = ([], false) := by
  unfold itemP
  rw [h]
  simp only [Int.toNat_natCast, List.getElem?_eq_none hk, ite_self]
theorem itemP_in {b : Js.B} {k : Nat} {l : List Js.X} {y : Js.X} (h : Js.of b = .ok (Js.mkList l)) (hy : l[k]? = some y) : itemP b k = (y.form, true) := by
  unfold itemP
  rw [h]
  simp only [Int.toNat_natCast, Js.mkList, List.getElem?_map, hy, Option.map_some, if_pos (show (0 : Int) ≤ k by omega), if_true]

set_option maxHeartbeats 3200000 in
set_option maxRecDepth 100000 in
theorem Item_any (s : ByteArray) (i : Int) (w : World) (hs : s.size ≤ 1000000) (hV : Vars w) (h1 : -9223372036854775808 ≤ i) (h2 : i ≤ 9223372036854775807) :
    Calls Tryz.prog 14 #[.string s, .int .i64 i] w fun e w' => e = .returned (.tuple #[.string (bs (itemP s.data.toList i).1), .bool (itemP s.data.toList i).2]) ∧ Below w.heap.size w w' := by
  cases hof : Js.of s.data.toList with
  | error e =>
    have R := asd (read_err s w hs e hof)
    have EP : Aside (Js.of s.data.toList = .error e) := hof
    clear hof hV
    have n69 := asN_69
    by_cases hi : i < 0
    · have d1 : decide (i < 0) = true := decide_eq_true hi
      go_enter Tryz.func14, Tryz.ntmps14
      go_wp2_with (go_at_call 21; refine R.out.mono ?_; rintro en w2 ⟨rfl, hne, b2⟩)
      go_ret2
      exact ⟨by unfold itemP; rw [EP.out]; rfl, b2⟩
    · have d1 : decide (i < 0) = false := decide_eq_false hi
      have d2 : decide (0 ≤ i) = true := decide_eq_true (by omega)
      go_enter Tryz.func14, Tryz.ntmps14
      go_wp2_with (go_at_call 21; refine R.out.mono ?_; rintro en w2 ⟨rfl, hne, b2⟩)
      go_ret2
      exact ⟨by unfold itemP; rw [EP.out]; rfl, b2⟩
  | ok x =>
    have R := asd (read_six s w hs x hof)
    have EP : Aside (Js.of s.data.toList = .ok x) := hof
    have HB : Aside (x.form.length ≤ 400) := by
      show _ ≤ _
      have := Js.of_bd _ _ hof
      omega
    have HV := asd hV
    clear hof hV
    by_cases hi : i < 0
    · have d1 : decide (i < 0) = true := decide_eq_true hi
      have EQ := asd (itemP_neg EP.out hi)
      have a6069 := as60_69
      have a6269 := as62_69
      have a6469 := as64_69
      have a6669 := as66_69
      have a6969 := as69_69
      have a5569 := as55_69
      go_enter Tryz.func14, Tryz.ntmps14
      go_wp2_with (go_at_call 21; refine R.out.mono ?_; rintro en w2 ⟨⟨v, rfl, S⟩, b2⟩; rcases S with ⟨rfl, rfl⟩ | ⟨b, rfl, rfl⟩ | ⟨n, rfl, rfl⟩ | ⟨t, rfl, rfl⟩ | ⟨l, vs, ao, cap, rfl, rfl, S⟩ | ⟨l, ms, ao, cap, rfl, rfl, S⟩)
      all_goals
        go_ret2
        exact ⟨by rw [EQ.out]; rfl, b2⟩
    · have d1 : decide (i < 0) = false := decide_eq_false hi
      by_cases hk : x.kind = 5
      · obtain ⟨k, rfl⟩ : ∃ k : Nat, i = (k : Int) := ⟨i.toNat, by omega⟩
        have a69 := as69_69
        have HK := asd hk
        by_cases hlt : k < x.items.length
        · have HL := asd hlt
          clear hk hlt
          go_enter Tryz.func14, Tryz.ntmps14
          go_wp2_with (first
            | (go_at_call 21; go_loud (
               refine R.out.mono ?_; rintro en w2 ⟨⟨v, rfl, S⟩, b2⟩; obtain ⟨l, vs, ao, cap, rfl, rfl, S5⟩ := S.list HK.out
               have hkl : k < l.length := by have := HL.out; simpa [Js.mkList] using this
               obtain ⟨g, u, y, rfl, c1, hy, hT⟩ := list_at S5.out k hkl
               have d3 : decide ((l.length : Int) ≤ k) = false := decide_eq_false (by omega)
               have HT := asd hT
               have HY := asd hy
               have B2 := asd b2
               clear hT hy b2))
            | (go_at_call 22; refine (form_any 7 _ _ _ y HT.out (fun k hk => hk.2) (HV.out.below B2.out) (by
               have := form_le l y (List.mem_of_getElem? HY.out)
               have h5 := HB.out
               have h6 : (Js.mkList l).form.length = (Js.joins (l.map Js.X.form)).length + 2 := by simp [Js.mkList]
               omega)).mono ?_; rintro e w3 ⟨rfl, b3⟩))
          go_ret2
          exact ⟨by rw [itemP_in EP.out HY.out]; rfl, B2.out.trans (b3.mono B2.out.size)⟩
        · have HL : Aside (x.items.length ≤ k) := by show _ ≤ _; omega
          have EQ := asd (itemP_out EP.out HL.out)
          clear hk hlt
          go_enter Tryz.func14, Tryz.ntmps14
          go_wp2_with (go_at_call 21; refine R.out.mono ?_; rintro en w2 ⟨⟨v, rfl, S⟩, b2⟩; obtain ⟨l, vs, ao, cap, rfl, rfl, S5⟩ := S.list HK.out
                       have d3 : decide ((l.length : Int) ≤ k) = true := decide_eq_true (by have := HL.out; simp only [Js.mkList, List.length_map] at this; omega)
                       have d4 : decide (l.length ≤ k) = true := decide_eq_true (by have := HL.out; simp only [Js.mkList, List.length_map] at this; omega))
          go_ret2
          exact ⟨by rw [EQ.out]; rfl, b2⟩
      · have d2 : decide (0 ≤ i) = true := decide_eq_true (by omega)
        have HK := asd hk
        have EQ := asd (itemP_other (i := i) EP.out hk)
        clear hk
        have a6069 := as60_69
        have a6269 := as62_69
        have a6469 := as64_69
        have a6669 := as66_69
        have a6969 := as69_69
        have a5569 := as55_69
        go_enter Tryz.func14, Tryz.ntmps14
        go_wp2_with (go_at_call 21; refine R.out.mono ?_; rintro en w2 ⟨⟨v, rfl, S⟩, b2⟩; rcases S with ⟨rfl, rfl⟩ | ⟨b, rfl, rfl⟩ | ⟨n, rfl, rfl⟩ | ⟨t, rfl, rfl⟩ | ⟨l, vs, ao, cap, rfl, rfl, S⟩ | ⟨l, ms, ao, cap, rfl, rfl, S⟩; all_goals (try exact absurd rfl HK.out))
        all_goals
          go_ret2
          exact ⟨by rw [EQ.out]; rfl, b2⟩
end Go.Proofs.YtpeioecpilmpiaaGreatDoor

/-
  Field.
-/
namespace Go.Proofs.YtpeioecpilmpiaaGreatDoor
open Go.RowKit
theorem Six.obj {w w' : World} {v : Value} {x : Js.X} (h : Six w w' v x) (hk : x.kind = 6) : ∃ (l : List (Js.B × Js.X)) (ms : List Mb) (ao : Option Addr) (cap : Nat), x = Js.mkObj l ∧ v = .iface 55 (.slice ao l.length cap) ∧ Aside (w'.ownsRow 0 58 2 (.slice ao l.length cap) ms.length (ms.flatMap Mb.cells) ∧ ms.map Mb.name = l.map (·.1) ∧ (∀ m ∈ ms, Lib.validD m.name = true) ∧
    ∀ p ∈ ms.zip l, Tv 7 (Bt w.heap.size w'.heap.size) w' p.1.v p.2.2) := by
  rcases h with ⟨rfl, rfl⟩ | ⟨b, rfl, rfl⟩ | ⟨n, rfl, rfl⟩ | ⟨t, rfl, rfl⟩ | ⟨l, vs, ao, cap, rfl, rfl, S⟩ | h
  · cases hk
  · cases hk
  · cases hk
  · cases hk
  · cases hk
  · exact h

theorem good_rise {n : Nat} {l : List (Js.B × Js.X)} (h : Js.Good (n + 1) (Js.mkObj l)) : Js.Rise (l.map (·.1)) := by
  rcases h with h | ⟨l', e, _⟩ | ⟨l', e, hr, _⟩
  · rcases h with e | ⟨_, e⟩ | ⟨_, _, e⟩ | ⟨_, _, e⟩ <;> (have h6 := congrArg Js.X.kind e; simp [Js.mkObj, Js.mkNull, Js.mkTruth, Js.mkNum, Js.mkText] at h6)
  · have h6 := congrArg Js.X.kind e
    simp [Js.mkObj, Js.mkList] at h6
  · have := congrArg Js.X.names e
    simp only [Js.mkObj] at this
    rw [this]; exact hr

theorem mem_at {w w' : World} {ao : Option Addr} {cap n : Nat} {l : List (Js.B × Js.X)} {ms : List Mb} (h : w'.ownsRow 0 58 2 (.slice ao n cap) ms.length (ms.flatMap Mb.cells) ∧ ms.map Mb.name = l.map (·.1) ∧ (∀ m ∈ ms, Lib.validD m.name = true) ∧ ∀ p ∈ ms.zip l, Tv 7 (Bt w.heap.size w'.heap.size) w' p.1.v p.2.2) (k : Nat) (hk : k < l.length) :
    ∃ g u y, ao = some ⟨g, 0, none⟩ ∧ w'.cell? ⟨g, k * 2, none⟩ = some (.string (bs y.1)) ∧ w'.cell? ⟨g, k * 2 + 1, none⟩ = some u ∧ l[k]? = some y ∧ Tv 7 (Bt w.heap.size w'.heap.size) w' u y.2 := by
  obtain ⟨ho, hnm, _, hi⟩ := h
  have hlen : ms.length = l.length := by have := congrArg List.length hnm; simpa using this
  obtain ⟨g, c', e, _, _, hg⟩ := own_form ho (by omega)
  injection e with e1 e2 e3
  have hu : ms[k]? = some ms[k] := List.getElem?_eq_getElem (by omega)
  have hy : l[k]? = some l[k] := List.getElem?_eq_getElem hk
  have hm : (ms[k], l[k]) ∈ ms.zip l := by
    refine List.mem_of_getElem? (i := k) ?_
    rw [List.getElem?_zip_eq_some]
    exact ⟨hu, hy⟩
  have hname : ms[k].name = (l[k]).1 := by
    have := congrArg (fun x => x[k]?) hnm
    simp only [List.getElem?_map, hu, hy, Option.map_some, Option.some.injEq] at this
    exact this
  obtain ⟨c0, c1⟩ := flat_at hu
  rw [hname] at c0
  exact ⟨g, ms[k].v, l[k], e1, own_cell ho hg c0, own_cell ho hg c1, hy, hi _ hm⟩

/-- Field, by plain data. -/
def fieldP (b n : Js.B) : Js.B × Bool := match Js.of b with
  | .ok x => if x.kind = 6 ∧ n ∈ x.names then (x.items[Js.place x.names n]!, true) else ([], false)
  | .error _ => ([], false)
theorem fieldP_err {b n : Js.B} {e : Nat} (h : Js.of b = .error e) : fieldP b n = ([], false) := by unfold fieldP; rw [h]
theorem fieldP_no {b n : Js.B} {x : Js.X} (h : Js.of b = .ok x) (hn : ¬ (x.kind = 6 ∧ n ∈ x.names)) : fieldP b n = ([], false) := by
  unfold fieldP
  rw [h]
  simp only [if_neg hn]
theorem fieldP_yes {b n : Js.B} {l : List (Js.B × Js.X)} {y : Js.B × Js.X} (h : Js.of b = .ok (Js.mkObj l)) (hn : n ∈ l.map (·.1)) (hy : l[Js.place (l.map (·.1)) n]? = some y) : fieldP b n = (y.2.form, true) := by
  unfold fieldP
  rw [h]
  have e : (Js.mkObj l).items[Js.place (Js.mkObj l).names n]! = y.2.form := by
    show (l.map (·.2.form))[Js.place (l.map (·.1)) n]! = _
    rw [List.getElem!_eq_getElem?_getD, List.getElem?_map, hy]
    rfl
  simp only []
  rw [if_pos ⟨rfl, hn⟩, e]

theorem find_nil (n : Js.B) (w : World) : Calls Tryz.prog 26 #[.slice none 0 0, .string (bs n)] w fun e w' => e = .returned (.tuple #[.int .i64 0, .bool false]) ∧ Below w.heap.size w w' :=
  find_any 0 (.slice none 0 0) [] n w (World.ownsRow_nil w 0 58 2) (by first | trivial | simp [Js.Rise]) (by simp)

set_option maxHeartbeats 3200000 in
set_option maxRecDepth 100000 in
theorem Field_any (s nn : ByteArray) (w : World) (hs : s.size ≤ 1000000) (hV : Vars w) :
    Calls Tryz.prog 13 #[.string s, .string nn] w fun e w' => e = .returned (.tuple #[.string (bs (fieldP s.data.toList nn.data.toList).1), .bool (fieldP s.data.toList nn.data.toList).2]) ∧ Below w.heap.size w w' := by
  have FN := asd (fun w => (find_nil nn.data.toList w : Calls Tryz.prog 26 #[.slice none 0 0, .string nn] w _))
  cases hof : Js.of s.data.toList with
  | error e =>
    have R := asd (read_err s w hs e hof)
    have EQ := asd (fieldP_err (n := nn.data.toList) hof)
    clear hof hV
    have n55 := asN_55
    go_enter Tryz.func13, Tryz.ntmps13
    go_wp2_with (first
      | (go_at_call 21; refine R.out.mono ?_; rintro en w2 ⟨rfl, hne, b2⟩)
      | (go_at_call 26; refine (FN.out _).mono ?_; rintro en w3 ⟨rfl, b3⟩))
    go_ret2
    exact ⟨by rw [EQ.out]; rfl, b2.trans (b3.mono b2.size)⟩
  | ok x =>
    have R := asd (read_six s w hs x hof)
    have EP : Aside (Js.of s.data.toList = .ok x) := hof
    have HB : Aside (x.form.length ≤ 400 ∧ Js.Good 8 x) := by
      show _ ∧ _
      have := Js.of_bd _ _ hof
      exact ⟨by omega, this.2.2⟩
    have HV := asd hV
    clear hof hV
    by_cases hk : x.kind = 6
    · have HK := asd hk
      have a55 := as55_55
      clear hk
      by_cases hn : nn.data.toList ∈ x.names
      · have HN := asd hn
        clear hn
        go_enter Tryz.func13, Tryz.ntmps13
        go_wp2_with (first
          | (go_at_call 21; go_loud (
             refine R.out.mono ?_; rintro en w2 ⟨⟨v, rfl, S⟩, b2⟩; obtain ⟨l, ms, ao, cap, rfl, rfl, S5⟩ := S.obj HK.out
             have hrise := good_rise HB.out.2
             have hcnt := count_le (l.map Js.pairB)
             rw [List.length_map] at hcnt
             have hjl : (Js.joins (l.map Js.pairB)).length + 2 = (Js.mkObj l).form.length := by simp [Js.mkObj]
             have hb := HB.out.1
             have hn' : nn.data.toList ∈ l.map (·.1) := HN.out
             have hlen : ms.length = l.length := by have := congrArg List.length S5.out.2.1; simpa using this
             have hpl : Js.place (l.map (·.1)) nn.data.toList < l.length := by
               have := ((Js.place_mem hrise _).1 hn').1
               rwa [List.length_map] at this
             have F := asd (find_any 0 _ ms nn.data.toList w2 S5.out.1 (by rw [S5.out.2.1]; exact hrise) (by omega))
             rw [S5.out.2.1, decide_eq_true hn'] at F
             obtain ⟨g, u, y, rfl, c0, c1, hy, hT⟩ := mem_at S5.out _ hpl
             have hyf : y.2.form.length ≤ 100000 := by
               have h1 := S_mem (l.map Js.pairB) (Js.pairB y) (List.mem_map.2 ⟨y, List.mem_of_getElem? hy, rfl⟩)
               have h2 := Js.joins_len (l.map Js.pairB) (by intro e; have := congrArg List.length e; simp at this; subst this; simp at hpl)
               have h3 : (Js.pairB y).length = (Js.quote y.1).length + 1 + y.2.form.length := by simp [Js.pairB]; omega
               omega
             have HT := asd hT
             have EQ := asd (fieldP_yes EP.out hn' hy)
             have HYF := asd hyf
             have B2 := asd b2
             clear hT hy b2 hrise hcnt hjl hb hn' hlen hyf c0
             generalize Js.place (l.map (·.1)) nn.data.toList = k at *))
          | (go_at_call 26; go_loud (
             refine F.out.mono ?_; rintro en w3 ⟨rfl, b3⟩
             have B3 := asd b3
             have c1' := cell_below c1 b3
             clear b3))
          | (go_at_call 22; go_loud (
             refine (form_any 7 _ _ _ y.2 (HT.out.frame (fun _ h => h) (fun k hk => B3.out.block k hk.2)) (fun k hk => Nat.lt_of_lt_of_le hk.2 B3.out.size) ((HV.out.below B2.out).below B3.out) HYF.out).mono ?_; rintro e w4 ⟨rfl, b4⟩)))
        go_ret2
        exact ⟨by rw [EQ.out]; rfl, (B2.out.trans (B3.out.mono B2.out.size)).trans (b4.mono (Nat.le_trans B2.out.size B3.out.size))⟩
      · have HN := asd hn
        have EQ := asd (fieldP_no (n := nn.data.toList) EP.out (fun h => hn h.2))
        clear hn
        go_enter Tryz.func13, Tryz.ntmps13
        go_wp2_with (first
          | (go_at_call 21; go_loud (
             refine R.out.mono ?_; rintro en w2 ⟨⟨v, rfl, S⟩, b2⟩; obtain ⟨l, ms, ao, cap, rfl, rfl, S5⟩ := S.obj HK.out
             have hrise := good_rise HB.out.2
             have hcnt := count_le (l.map Js.pairB)
             rw [List.length_map] at hcnt
             have hjl : (Js.joins (l.map Js.pairB)).length + 2 = (Js.mkObj l).form.length := by simp [Js.mkObj]
             have hb := HB.out.1
             have hn' : ¬ nn.data.toList ∈ l.map (·.1) := HN.out
             have hlen : ms.length = l.length := by have := congrArg List.length S5.out.2.1; simpa using this
             have F := asd (find_any 0 _ ms nn.data.toList w2 S5.out.1 (by rw [S5.out.2.1]; exact hrise) (by omega))
             rw [S5.out.2.1, decide_eq_false hn'] at F
             clear hrise hcnt hjl hb hn' hlen))
          | (go_at_call 26; go_loud (
             refine F.out.mono ?_; rintro en w3 ⟨rfl, b3⟩)))
        go_ret2
        exact ⟨by rw [EQ.out]; rfl, b2.trans (b3.mono b2.size)⟩
    · have HK := asd hk
      have EQ := asd (fieldP_no (n := nn.data.toList) EP.out (fun h => hk h.1))
      clear hk
      have a6055 := as60_55
      have a6255 := as62_55
      have a6455 := as64_55
      have a6655 := as66_55
      have a6955 := as69_55
      have a5555 := as55_55
      go_enter Tryz.func13, Tryz.ntmps13
      go_wp2_with (first
        | (go_at_call 21; refine R.out.mono ?_; rintro en w2 ⟨⟨v, rfl, S⟩, b2⟩; rcases S with ⟨rfl, rfl⟩ | ⟨b, rfl, rfl⟩ | ⟨n, rfl, rfl⟩ | ⟨t, rfl, rfl⟩ | ⟨l, vs, ao, cap, rfl, rfl, S⟩ | ⟨l, ms, ao, cap, rfl, rfl, S⟩; all_goals (try exact absurd rfl HK.out))
        | (go_at_call 26; refine (FN.out _).mono ?_; rintro en w3 ⟨rfl, b3⟩))
      all_goals
        go_ret2
        exact ⟨by rw [EQ.out]; rfl, b2.trans (b3.mono b2.size)⟩
end Go.Proofs.YtpeioecpilmpiaaGreatDoor
