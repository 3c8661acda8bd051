/-
  Rename.
-/
import Derived.Test.YtblhkhgcaheplaaGreatDoorDX11
namespace Go.Proofs.YtblhkhgcaheplaaGreatDoor.Dk
open Go.RowKit
set_option maxRecDepth 100000

def St.putAt (s : St) (i : Nat) (f : F) : St := { s with files := s.files.take i ++ f :: s.files.drop i }
/-- What is there is dropped. -/
def St.free1 (s : St) (n : ByteArray) : St := if has s.names n then s.drop (place s.names n) else s
def opRename (s : St) (n t : ByteArray) : Int × St :=
  if s.power then if mayBe t then match s.files[place s.names n]?, has s.names n with
    | some f, true => if f.sure < f.bytes.length then (8, s.spent) else if cmp n t = 0 then (0, s.spent) else
        (0, ((s.spent.drop (place s.names n)).free1 t).putAt (place (s.spent.drop (place s.names n)).names t) ⟨t, f.bytes, f.sure⟩)
    | _, _ => (6, s.spent)
  else (1, s.spent) else (12, s.spent)

theorem eq_bytes' {a b : ByteArray} (h : cmp a b ≠ 0) : (a.toList == b.toList) = false := by rw [eq_bytes]; simpa using h
theorem eq_bytes'' {a b : ByteArray} (h : cmp a b = 0) : (a.toList == b.toList) = true := by rw [eq_bytes]; simpa using h

end Go.Proofs.YtblhkhgcaheplaaGreatDoor.Dk
