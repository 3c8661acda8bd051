/-
  utf8.ValidRune, by the contract that lies ready, at this program's numbers.
-/
import Derived.Shelf.Small.Utf8
import Derived.Test.YtkijglkjpgjdaaaDoorRows
namespace Go.Proofs.YtkijglkjpgjdaaaDoor.Si
open Go.Shelf
def lays119_ren : Go.Shelf.Ren := ⟨fun | 119 => 91 | n => n, fun | 4 => 4 | 21 => 21 | n => n, fun | n => n⟩
theorem lays119 : Go.Proofs.Lays.n119 Tryd.prog lays119_ren := {
  mixed := by kernel_rfl
  f119 := Tryd.func91.trans (congrArg some (by kernel_rfl))
  t4 := Tryd.underlying4
  a4 := Tryd.isAgg4
  z4 := Tryd.sizeOf4
  v4 := Tryd.zeroValue4
  t21 := Tryd.underlying21
  a21 := Tryd.isAgg21
  z21 := Tryd.sizeOf21
  v21 := Tryd.zeroValue21 }

theorem validRune_call (r : Int) (w : World) :
    Calls Tryd.prog 91 #[.int .i32 r] w fun e w' => e = .returned (.bool (Lib.validRune r)) ∧ w' = w := Any.utf8_ValidRune lays119 r w
end Go.Proofs.YtkijglkjpgjdaaaDoor.Si
