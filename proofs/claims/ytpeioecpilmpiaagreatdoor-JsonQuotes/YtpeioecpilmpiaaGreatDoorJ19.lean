/-
  Forms.
-/
import Derived.Test.YtpeioecpilmpiaaGreatDoorJ18
import Derived.Deep.RegionHeld3
import Derived.WalkKit
import Derived.WalkSpells
import Derived.WalkLawsBesides
import Derived.Deep.LoopGhost
import Derived.Laws.Externs
import Derived.Below
import Derived.BigQuiet
import Derived.Deep.RegionWith
import Derived.OwnWalk
import Derived.Maps.AppendAt
namespace Go.Proofs.YtpeioecpilmpiaaGreatDoor
open Go.RowKit
theorem as60_62 (v : Value) (w : World) : (Instr.typeAssert (.iface 60 v) 20 62 true).run Tryz.prog w = .ok (.tuple #[.bool false, .bool false]) w := by kernel_rfl
theorem as60_64 (v : Value) (w : World) : (Instr.typeAssert (.iface 60 v) 20 64 true).run Tryz.prog w = .ok (.tuple #[.int .i64 0, .bool false]) w := by kernel_rfl
theorem as60_66 (v : Value) (w : World) : (Instr.typeAssert (.iface 60 v) 20 66 true).run Tryz.prog w = .ok (.tuple #[.string ⟨#[]⟩, .bool false]) w := by kernel_rfl
theorem as60_69 (v : Value) (w : World) : (Instr.typeAssert (.iface 60 v) 20 69 true).run Tryz.prog w = .ok (.tuple #[.slice none 0 0, .bool false]) w := by kernel_rfl
theorem as60_55 (v : Value) (w : World) : (Instr.typeAssert (.iface 60 v) 20 55 true).run Tryz.prog w = .ok (.tuple #[.slice none 0 0, .bool false]) w := by kernel_rfl
theorem as62_62 (v : Value) (w : World) : (Instr.typeAssert (.iface 62 v) 20 62 true).run Tryz.prog w = .ok (.tuple #[v, .bool true]) w := by kernel_rfl
theorem as64_62 (v : Value) (w : World) : (Instr.typeAssert (.iface 64 v) 20 62 true).run Tryz.prog w = .ok (.tuple #[.bool false, .bool false]) w := by kernel_rfl
theorem as64_64 (v : Value) (w : World) : (Instr.typeAssert (.iface 64 v) 20 64 true).run Tryz.prog w = .ok (.tuple #[v, .bool true]) w := by kernel_rfl
theorem as66_62 (v : Value) (w : World) : (Instr.typeAssert (.iface 66 v) 20 62 true).run Tryz.prog w = .ok (.tuple #[.bool false, .bool false]) w := by kernel_rfl
theorem as66_64 (v : Value) (w : World) : (Instr.typeAssert (.iface 66 v) 20 64 true).run Tryz.prog w = .ok (.tuple #[.int .i64 0, .bool false]) w := by kernel_rfl
theorem as66_66 (v : Value) (w : World) : (Instr.typeAssert (.iface 66 v) 20 66 true).run Tryz.prog w = .ok (.tuple #[v, .bool true]) w := by kernel_rfl
theorem as69_62 (v : Value) (w : World) : (Instr.typeAssert (.iface 69 v) 20 62 true).run Tryz.prog w = .ok (.tuple #[.bool false, .bool false]) w := by kernel_rfl
theorem as69_64 (v : Value) (w : World) : (Instr.typeAssert (.iface 69 v) 20 64 true).run Tryz.prog w = .ok (.tuple #[.int .i64 0, .bool false]) w := by kernel_rfl
theorem as69_66 (v : Value) (w : World) : (Instr.typeAssert (.iface 69 v) 20 66 true).run Tryz.prog w = .ok (.tuple #[.string ⟨#[]⟩, .bool false]) w := by kernel_rfl
theorem as69_69 (v : Value) (w : World) : (Instr.typeAssert (.iface 69 v) 20 69 true).run Tryz.prog w = .ok (.tuple #[v, .bool true]) w := by kernel_rfl
theorem as55_62 (v : Value) (w : World) : (Instr.typeAssert (.iface 55 v) 20 62 true).run Tryz.prog w = .ok (.tuple #[.bool false, .bool false]) w := by kernel_rfl
theorem as55_64 (v : Value) (w : World) : (Instr.typeAssert (.iface 55 v) 20 64 true).run Tryz.prog w = .ok (.tuple #[.int .i64 0, .bool false]) w := by kernel_rfl
theorem as55_66 (v : Value) (w : World) : (Instr.typeAssert (.iface 55 v) 20 66 true).run Tryz.prog w = .ok (.tuple #[.string ⟨#[]⟩, .bool false]) w := by kernel_rfl
theorem as55_69 (v : Value) (w : World) : (Instr.typeAssert (.iface 55 v) 20 69 true).run Tryz.prog w = .ok (.tuple #[.slice none 0 0, .bool false]) w := by kernel_rfl
theorem as55_55 (v : Value) (w : World) : (Instr.typeAssert (.iface 55 v) 20 55 true).run Tryz.prog w = .ok (.tuple #[v, .bool true]) w := by kernel_rfl

set_option maxHeartbeats 3200000 in
set_option maxRecDepth 100000 in
theorem formNull (w : World) : Calls Tryz.prog 22 #[.iface 60 (.agg #[])] w fun e w' => e = .returned (.string (bs Js.mkNull.form)) ∧ Below w.heap.size w w' := by
  have a1 := as60_62
  have a2 := as60_64
  have a3 := as60_66
  have a4 := as60_69
  have a5 := as60_55
  go_enter Tryz.func22, Tryz.ntmps22
  go_wp2
  go_ret
  exact ⟨rfl, Below.refl _ _⟩

set_option maxHeartbeats 3200000 in
set_option maxRecDepth 100000 in
theorem formTruth (b : Bool) (w : World) : Calls Tryz.prog 22 #[.iface 62 (.bool b)] w fun e w' => e = .returned (.string (bs (Js.mkTruth b).form)) ∧ Below w.heap.size w w' := by
  have a1 := as62_62
  have K := asd (formatBool_call b w)
  go_enter Tryz.func22, Tryz.ntmps22
  go_wp2_with (go_at_call 32; refine K.out.mono ?_; rintro e w2 ⟨rfl, rfl⟩)
  go_ret
  refine ⟨?_, Below.refl _ _⟩
  cases b <;> rfl

set_option maxHeartbeats 3200000 in
set_option maxRecDepth 100000 in
theorem formNum (n : Int) (hn : n.natAbs < 1000000000000000) (w : World) (hV : Vars w) : Calls Tryz.prog 22 #[.iface 64 (.int .i64 n)] w fun e w' => e = .returned (.string (bs (Js.mkNum n).form)) ∧ Below w.heap.size w w' := by
  have a1 := as64_62
  have a2 := as64_64
  have K := asd (itoa_any n (by omega) (by omega) w hV.pow)
  clear hV
  go_enter Tryz.func22, Tryz.ntmps22
  go_wp2_with (go_at_call 33; refine K.out.mono ?_; rintro e w2 ⟨rfl, b2⟩)
  go_ret
  exact ⟨rfl, b2⟩

set_option maxHeartbeats 3200000 in
set_option maxRecDepth 100000 in
theorem formText (t : Js.B) (ht : Lib.validD t = true) (hl : t.length ≤ 100000) (w : World) (hV : Vars w) : Calls Tryz.prog 22 #[.iface 66 (.string (bs t))] w fun e w' => e = .returned (.string (bs (Js.mkText t).form)) ∧ Below w.heap.size w w' := by
  have a1 := as66_62
  have a2 := as66_64
  have a3 := as66_66
  have K := asd (quoted_any (bs t) w hl hV ht)
  clear hV ht
  go_enter Tryz.func22, Tryz.ntmps22
  go_wp2_with (go_at_call 29; refine K.out.mono ?_; rintro e w2 ⟨rfl, b2⟩)
  go_ret
  exact ⟨rfl, b2⟩

set_option maxHeartbeats 3200000 in
set_option maxRecDepth 100000 in
theorem formList (sl : Value) (f : ByteArray) (w : World) (h : Calls Tryz.prog 34 #[sl] w fun e w' => e = .returned (.string f) ∧ Below w.heap.size w w') : Calls Tryz.prog 22 #[.iface 69 sl] w fun e w' => e = .returned (.string f) ∧ Below w.heap.size w w' := by
  have a1 := as69_62
  have a2 := as69_64
  have a3 := as69_66
  have a4 := as69_69
  have K := asd h
  clear h
  go_enter Tryz.func22, Tryz.ntmps22
  go_wp2_with (go_at_call 34; refine K.out.mono ?_; rintro e w2 ⟨rfl, b2⟩)
  go_ret
  exact ⟨rfl, b2⟩

set_option maxHeartbeats 3200000 in
set_option maxRecDepth 100000 in
theorem formObj (sl : Value) (f : ByteArray) (w : World) (h : Calls Tryz.prog 35 #[sl] w fun e w' => e = .returned (.string f) ∧ Below w.heap.size w w') : Calls Tryz.prog 22 #[.iface 55 sl] w fun e w' => e = .returned (.string f) ∧ Below w.heap.size w w' := by
  have a1 := as55_62
  have a2 := as55_64
  have a3 := as55_66
  have a4 := as55_69
  have a5 := as55_55
  have K := asd h
  clear h
  go_enter Tryz.func22, Tryz.ntmps22
  go_wp2_with (go_at_call 35; refine K.out.mono ?_; rintro e w2 ⟨rfl, b2⟩)
  go_ret
  exact ⟨rfl, b2⟩

theorem formSc {w : World} {v : Value} {x : Js.X} (h : ScV v x) (hV : Vars w) (hl : x.form.length ≤ 100000) : Calls Tryz.prog 22 #[v] w fun e w' => e = .returned (.string (bs x.form)) ∧ Below w.heap.size w w' := by
  rcases h with ⟨rfl, rfl⟩ | ⟨b, rfl, rfl⟩ | ⟨n, hn, rfl, rfl⟩ | ⟨t, ht, rfl, rfl⟩
  · exact formNull w
  · exact formTruth b w
  · exact formNum n hn w hV
  · refine formText t ht ?_ w hV
    have h1 := Js.q_len t
    have h2 : (Js.mkText t).form.length = (Js.q t).length + 2 := by simp [Js.mkText, Js.quote_q]
    omega

theorem form_any : ∀ n, FCt n
  | 0 => fun _ _ _ _ h _ hV hl => formSc h hV hl
  | n + 1 => fun F w v x h hF hV hl => by
    rcases h with h | ⟨l, vs, sl, rfl, rfl, ho, hlen, hg, hi⟩ | ⟨l, ms, sl, rfl, rfl, ho, hnm, hg, hvd, hi⟩
    · exact formSc h hV hl
    · exact formList sl _ w (listForm_any n (form_any n) _ w sl vs l ho hlen hi (fun k hk => hF k hk.1) hV hl)
    · exact formObj sl _ w (objForm_any n (form_any n) _ w sl ms l ho hnm hvd hi (fun k hk => hF k hk.1) hV hl)
end Go.Proofs.YtpeioecpilmpiaaGreatDoor
