/-
  The four bytes of a sum; a text with its sum behind it.
-/
import Derived.Test.YtknobijonpdbbaaK2
import Derived.Laws.BytesArg
namespace Go.Proofs.Ytknobijonpdbbaa
open Go.RowKit

/-- A number's four bytes, the highest first. -/
def sb (x : Nat) : ByteArray := ⟨#[UInt8.ofNat (x / 16777216), UInt8.ofNat (x / 65536), UInt8.ofNat (x / 256), UInt8.ofNat x]⟩

theorem sb_size (x : Nat) : (sb x).size = 4 := rfl

theorem byte_mod (x : Nat) : UInt8.ofNat (x % 256) = UInt8.ofNat x := by
  rw [← UInt8.toNat_inj]
  simp

theorem sb_nums (x : Nat) : strOfNums [(x : Int) / 16777216, (x : Int) / 65536 % 256, (x : Int) / 256 % 256, (x : Int) % 256] = sb x := by
  have e0 : ((x : Int) / 16777216).toNat = x / 16777216 := by omega
  have e1 : ((x : Int) / 65536 % 256).toNat = x / 65536 % 256 := by omega
  have e2 : ((x : Int) / 256 % 256).toNat = x / 256 % 256 := by omega
  have e3 : ((x : Int) % 256).toNat = x % 256 := by omega
  unfold strOfNums sb
  simp only [List.map_cons, List.map_nil, e0, e1, e2, e3, byte_mod]

theorem conv4 (w : World) (a b c d : Int) :
    (convert 35 9 (.slice (some ⟨w.heap.size, 0, none⟩) 4 4)).run Try.prog (w.alloc (.cells #[.int .u8 a, .int .u8 b, .int .u8 c, .int .u8 d] 5)) =
      .ok (.string (strOfNums [a, b, c, d])) (w.alloc (.cells #[.int .u8 a, .int .u8 b, .int .u8 c, .int .u8 d] 5)) := by
  refine run_convert_bytes_arg _ 35 5 Try.underlying35 Try.underlying5 w.heap.size 0 4 4 _ rfl (fun i hi => ?_) 9 Try.underlying9
  match i, hi with
  | 0, _ => simp
  | 1, _ => simp
  | 2, _ => simp
  | 3, _ => simp
  | n + 4, h => exact absurd h (by omega)

theorem sumBytes_any (x : Nat) (w : World) (hx : x < 4294967296) :
    Calls Try.prog 23 #[.int .u32 (x : Int)] w fun e w' => e = .returned (.string (sb x)) ∧ Below w.heap.size w w' := by
  have hc := conv4 w ((x : Int) / 16777216) ((x : Int) / 65536 % 256) ((x : Int) / 256 % 256) ((x : Int) % 256)
  rw [sb_nums] at hc
  go_enter Try.func23, Try.ntmps23
  go_wp2
  go_ret
  exact ⟨rfl, (Below.refl _ _).alloc (Nat.le_refl _) _⟩

/-- What is sealed. -/
def sealed (s : ByteArray) : ByteArray := s ++ sb (Cr.sum s.data.toList)

theorem seal_any (s : ByteArray) (w : World) (hs : s.size ≤ 1000000) :
    Calls Try.prog 19 #[.string s] w fun e w' => e = .returned (.string (sealed s)) ∧ Below w.heap.size w w' := by
  have h1 := of_any s w hs
  have h2 := sumBytes_any (Cr.sum s.data.toList) w (Cr.sum_lt _)
  have h3 := sb_size (Cr.sum s.data.toList)
  go_enter Try.func19, Try.ntmps19
  go_wp2_with (first
    | (go_at_call 24; refine h1.mono ?_; rintro e w1 ⟨rfl, rfl⟩)
    | (go_at_call 23; refine h2.mono ?_; rintro e w2 ⟨rfl, hb⟩))
  go_ret
  exact ⟨rfl, hb⟩
end Go.Proofs.Ytknobijonpdbbaa
