/-
  Kind and Len.
-/
import Derived.Test.YtpeioecpilmpiaaGreatDoorJ21
import Derived.WalkKit
import Derived.WalkSpells
import Derived.WalkLawsBesides
import Derived.Deep.LoopGhost
import Derived.Laws.Externs
import Derived.Below
import Derived.BigQuiet
import Derived.Deep.RegionWith
import Derived.OwnWalk
import Derived.Maps.AppendAt
namespace Go.Proofs.YtpeioecpilmpiaaGreatDoor
open Go.RowKit

set_option maxHeartbeats 3200000 in
set_option maxRecDepth 100000 in
theorem Kind_any (s : ByteArray) (w : World) (hs : s.size ≤ 1000000) :
    Calls Tryz.prog 11 #[.string s] w fun e w' => e = .returned (.int .i64 (kindP s.data.toList : Nat)) ∧ Below w.heap.size w w' := by
  cases hof : Js.of s.data.toList with
  | error e =>
    have R := asd (read_err s w hs e hof)
    have EP : Aside (Js.of s.data.toList = .error e) := hof
    clear hof
    have n60 := asN_60
    have n62 := asN_62
    have n64 := asN_64
    have n66 := asN_66
    have n69 := asN_69
    have n55 := asN_55
    go_enter Tryz.func11, Tryz.ntmps11
    go_wp2_with (go_at_call 21; refine R.out.mono ?_; rintro en w2 ⟨rfl, hne, b2⟩)
    go_ret
    exact ⟨by unfold kindP; rw [EP.out]; rfl, b2.alloc b2.size _⟩
  | ok x =>
    have R := asd (read_six s w hs x hof)
    have EP : Aside (Js.of s.data.toList = .ok x) := hof
    clear hof
    have a6060 := as60_60
    have a6062 := as60_62
    have a6064 := as60_64
    have a6066 := as60_66
    have a6069 := as60_69
    have a6055 := as60_55
    have a6260 := as62_60
    have a6262 := as62_62
    have a6264 := as62_64
    have a6266 := as62_66
    have a6269 := as62_69
    have a6255 := as62_55
    have a6460 := as64_60
    have a6462 := as64_62
    have a6464 := as64_64
    have a6466 := as64_66
    have a6469 := as64_69
    have a6455 := as64_55
    have a6660 := as66_60
    have a6662 := as66_62
    have a6664 := as66_64
    have a6666 := as66_66
    have a6669 := as66_69
    have a6655 := as66_55
    have a6960 := as69_60
    have a6962 := as69_62
    have a6964 := as69_64
    have a6966 := as69_66
    have a6969 := as69_69
    have a6955 := as69_55
    have a5560 := as55_60
    have a5562 := as55_62
    have a5564 := as55_64
    have a5566 := as55_66
    have a5569 := as55_69
    have a5555 := as55_55
    go_enter Tryz.func11, Tryz.ntmps11
    go_wp2_with (go_at_call 21; refine R.out.mono ?_; rintro en w2 ⟨⟨v, rfl, S⟩, b2⟩; rcases S with ⟨rfl, rfl⟩ | ⟨b, rfl, rfl⟩ | ⟨n, rfl, rfl⟩ | ⟨t, rfl, rfl⟩ | ⟨l, vs, ao, cap, rfl, rfl, S⟩ | ⟨l, ms, ao, cap, rfl, rfl, S⟩)
    all_goals
      go_ret
      exact ⟨by unfold kindP; rw [EP.out]; first | rfl | simp [Js.mkList, Js.mkObj], b2.alloc b2.size _⟩

set_option maxHeartbeats 3200000 in
set_option maxRecDepth 100000 in
theorem Len_any (s : ByteArray) (w : World) (hs : s.size ≤ 1000000) :
    Calls Tryz.prog 12 #[.string s] w fun e w' => e = .returned (.int .i64 (lenP s.data.toList : Nat)) ∧ Below w.heap.size w w' := by
  cases hof : Js.of s.data.toList with
  | error e =>
    have R := asd (read_err s w hs e hof)
    have EP : Aside (Js.of s.data.toList = .error e) := hof
    clear hof
    have n69 := asN_69
    have n55 := asN_55
    go_enter Tryz.func12, Tryz.ntmps12
    go_wp2_with (go_at_call 21; refine R.out.mono ?_; rintro en w2 ⟨rfl, hne, b2⟩)
    go_ret
    exact ⟨by unfold lenP; rw [EP.out]; rfl, b2⟩
  | ok x =>
    have R := asd (read_six s w hs x hof)
    have EP : Aside (Js.of s.data.toList = .ok x) := hof
    clear hof
    have a6069 := as60_69
    have a6055 := as60_55
    have a6269 := as62_69
    have a6255 := as62_55
    have a6469 := as64_69
    have a6455 := as64_55
    have a6669 := as66_69
    have a6655 := as66_55
    have a6969 := as69_69
    have a6955 := as69_55
    have a5569 := as55_69
    have a5555 := as55_55
    go_enter Tryz.func12, Tryz.ntmps12
    go_wp2_with (go_at_call 21; refine R.out.mono ?_; rintro en w2 ⟨⟨v, rfl, S⟩, b2⟩; rcases S with ⟨rfl, rfl⟩ | ⟨b, rfl, rfl⟩ | ⟨n, rfl, rfl⟩ | ⟨t, rfl, rfl⟩ | ⟨l, vs, ao, cap, rfl, rfl, S⟩ | ⟨l, ms, ao, cap, rfl, rfl, S⟩)
    all_goals
      go_ret
      exact ⟨by unfold lenP; rw [EP.out]; first | rfl | simp [Js.mkList, Js.mkObj], b2⟩
end Go.Proofs.YtpeioecpilmpiaaGreatDoor
