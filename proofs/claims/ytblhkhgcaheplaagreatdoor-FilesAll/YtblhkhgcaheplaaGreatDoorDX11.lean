/-
  Crash, as plain data; Rot; Rename.
-/
import Derived.Test.YtblhkhgcaheplaaGreatDoorDX8
namespace Go.Proofs.YtblhkhgcaheplaaGreatDoor.Dk
open Go.RowKit
set_option maxRecDepth 100000

/-- So many bytes more of a file are sure. -/
def surer (l : List F) (n : ByteArray) (k : Nat) : List F := l.map fun f => if cmp f.name n = 0 then ⟨f.name, f.bytes, f.sure + k⟩ else f
/-- What lasts, piece by piece. -/
def lasts : List F → List Pc → Nat → List F
  | l, [], _ => l
  | l, p :: r, left => lasts (surer l p.name (min p.size left)) r (left - min p.size left)
def cutAll (l : List F) : List F := l.map fun f => ⟨f.name, f.bytes.take f.sure, f.sure⟩
def opCrash (s : St) (last : Int) : St := ⟨cutAll (lasts s.files s.pieces last.toNat), [], s.room, false, 0, false⟩

def opRot (s : St) (file at_ by_ : Int) : Bool × St :=
  if 0 ≤ file ∧ 0 ≤ at_ then match s.files[file.toNat]? with
    | some f => if at_ < f.sure then (true, { s with files := s.files.set file.toNat ⟨f.name, f.bytes.set at_.toNat (f.bytes[at_.toNat]! ^^^ UInt8.ofNat (by_ % 256).toNat), f.sure⟩ }) else (false, s)
    | none => (false, s)
  else (false, s)
end Go.Proofs.YtblhkhgcaheplaaGreatDoor.Dk
