/-
  The first few calls of each statement answer true.
-/
import Derived.Test.YtpeioecpilmpiaaGreatDoorJ25
import Derived.WalkKit
import Derived.WalkSpells
import Derived.WalkLawsBesides
import Derived.Deep.LoopGhost
import Derived.Laws.Externs
import Derived.Below
import Derived.BigQuiet
import Derived.Deep.RegionWith
import Derived.OwnWalk
import Derived.Maps.AppendAt
import Derived.WalkSmall
namespace Go.Proofs.YtpeioecpilmpiaaGreatDoor
open Go.RowKit
def aw1 : Js.B := [32, 123, 34, 98, 34, 58, 91, 49, 44, 45, 48, 93, 44, 32, 34, 97, 34, 58, 34, 92, 117, 48, 48, 101, 57, 92, 110, 34, 125]
def aw2 : Js.B := [123, 34, 97, 34, 58, 34, 195, 169, 92, 110, 34, 44, 34, 98, 34, 58, 91, 49, 44, 48, 93, 125]
theorem aw_form : formP aw1 = (aw2, 0) := by decide +kernel
theorem aw_text : textP [34, 97, 92, 47, 34] = ([97, 47], true) := by decide +kernel
theorem aw_kind : kindP [91, 93] = 5 := by decide +kernel

set_option maxHeartbeats 800000 in
theorem awake_any (w : World) (hV : Vars w) : Calls Tryz.prog 7 #[] w fun e w' => e = .returned (.bool true) ∧ Below w.heap.size w w' := by
  have k1 := Form_any (bs aw1) w (by decide) hV
  have k2 : ∀ u : World, _ := fun u : World => Text_any (bs [34, 97, 92, 47, 34]) u (by decide)
  have k3 : ∀ u : World, _ := fun u : World => Kind_any (bs [91, 93]) u (by decide)
  rw [bs_list, aw_form] at k1
  simp only [aw_text] at k2
  simp only [aw_kind] at k3
  have K1 := asd k1
  have K2 := asd k2
  have K3 := asd k3
  clear k1 k2 k3
  have e1 : bs aw1 = ⟨#[32, 123, 34, 98, 34, 58, 91, 49, 44, 45, 48, 93, 44, 32, 34, 97, 34, 58, 34, 92, 117, 48, 48, 101, 57, 92, 110, 34, 125]⟩ := rfl
  have e2 : bs aw2 = ⟨#[123, 34, 97, 34, 58, 34, 195, 169, 92, 110, 34, 44, 34, 98, 34, 58, 91, 49, 44, 48, 93, 125]⟩ := rfl
  have e3 : bs [97, 47] = ⟨#[97, 47]⟩ := rfl
  rw [e1] at K1
  simp only [e2] at K1
  simp only [e3] at K2
  go_enter Tryz.func7, Tryz.ntmps7
  go_wp2_with (first
    | (go_at_call 8; refine K1.out.mono ?_; rintro e w1 ⟨rfl, hb1⟩; clear K1)
    | (go_at_call 16; refine (K2.out _).mono ?_; rintro e w2 ⟨rfl, hb2⟩; clear K2)
    | (go_at_call 11; refine (K3.out _).mono ?_; rintro e w3 ⟨rfl, hb3⟩; clear K3))
  go_ret
  have b2 := hb1.trans (hb2.mono hb1.size)
  exact ⟨rfl, b2.trans (hb3.mono b2.size)⟩
end Go.Proofs.YtpeioecpilmpiaaGreatDoor
