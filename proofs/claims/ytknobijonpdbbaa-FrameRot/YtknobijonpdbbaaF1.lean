/-
  Texts as lists; the head of a frame, and Make.
-/
import Derived.Test.YtknobijonpdbbaaK4
import Derived.Test.YtknobijonpdbbaaK5
namespace Go.Proofs.Ytknobijonpdbbaa
open Go.RowKit
def bs (l : List UInt8) : ByteArray := ⟨l.toArray⟩
theorem bs_list (l : List UInt8) : (bs l).data.toList = l := by simp [bs]
theorem bs_data (s : ByteArray) : bs s.data.toList = s := by
  apply ByteArray.ext
  simp [bs]
theorem bs_size (l : List UInt8) : (bs l).size = l.length := by
  show (bs l).data.size = _
  simp [bs]
theorem list_len (s : ByteArray) : s.data.toList.length = s.size := rfl
theorem bs_app (a b : List UInt8) : bs a ++ bs b = bs (a ++ b) := by
  apply ByteArray.ext
  rw [ByteArray.data_append]
  simp [bs]
theorem list_app (a b : ByteArray) : (a ++ b).data.toList = a.data.toList ++ b.data.toList := by
  rw [ByteArray.data_append, Array.toList_append]
theorem bs_inj {a b : List UInt8} (h : bs a = bs b) : a = b := by
  have := congrArg (fun s : ByteArray => s.data.toList) h
  simpa [bs_list] using this
theorem list_ext {a b : ByteArray} (h : a.data.toList = b.data.toList) : a = b := ByteArray.ext (Array.toList_inj.1 h)
theorem list_cut (s : ByteArray) (a b : Nat) : (s.extract a b).data.toList = (s.data.toList.take b).drop a := by
  rw [ByteArray.data_extract]
  simp [List.drop_take]
theorem sb_bs (x : Nat) : sb x = bs (Fr.sb4 x) := rfl
theorem sealed_list (s : ByteArray) : (sealed s).data.toList = Fr.sl s.data.toList := by
  unfold sealed
  rw [list_app]
  rfl
theorem sealed_bs (l : List UInt8) : sealed (bs l) = bs (Fr.sl l) := by
  apply list_ext
  rw [sealed_list, bs_list, bs_list]

theorem conv2 (w : World) (a b : Int) :
    (convert 35 9 (.slice (some ⟨w.heap.size, 0, none⟩) 2 2)).run Try.prog (w.alloc (.cells #[.int .u8 a, .int .u8 b] 5)) =
      .ok (.string (strOfNums [a, b])) (w.alloc (.cells #[.int .u8 a, .int .u8 b] 5)) := by
  refine run_convert_bytes_arg _ 35 5 Try.underlying35 Try.underlying5 w.heap.size 0 2 2 _ rfl (fun i hi => ?_) 9 Try.underlying9
  match i, hi with
  | 0, _ => simp
  | 1, _ => simp
  | n + 2, h => exact absurd h (by omega)
theorem two_nums (n : Nat) : strOfNums [(n : Int) / 256, (n : Int) % 256] = bs (Fr.two n) := by
  have e0 : ((n : Int) / 256).toNat = n / 256 := by omega
  have e1 : ((n : Int) % 256).toNat = n % 256 := by omega
  simp only [strOfNums, List.map_cons, List.map_nil, e0, e1, byte_mod]
  rfl

theorem head_any (n : Nat) (w : World) (hn : n < 65536) :
    Calls Try.prog 18 #[.int .i64 (n : Int)] w fun e w' => e = .returned (.string (bs (Fr.sl (Fr.two n)))) ∧ Below w.heap.size w w' := by
  have hc := conv2 w ((n : Int) / 256) ((n : Int) % 256)
  rw [two_nums] at hc
  have k : Aside (∀ u : World, Calls Try.prog 19 #[.string (bs (Fr.two n))] u fun e w' => e = .returned (.string (bs (Fr.sl (Fr.two n)))) ∧ Below u.heap.size u w') := fun u => by
    have := seal_any (bs (Fr.two n)) u (by rw [bs_size]; show 2 ≤ 1000000; decide)
    rw [sealed_bs] at this
    exact this
  go_enter Try.func18, Try.ntmps18
  go_wp2_with (go_at_call 19; refine (k.out _).mono ?_; rintro e w1 ⟨rfl, hb1⟩)
  go_ret
  have b1 := (Below.refl w.heap.size w).alloc (Nat.le_refl _) (.cells #[.int .u8 ((n : Int) / 256), .int .u8 ((n : Int) % 256)] 5)
  exact ⟨rfl, b1.trans (hb1.mono b1.size)⟩

theorem mk_parts (s : ByteArray) : bs (Fr.sl (Fr.two s.size)) ++ sealed s = bs (Fr.mk s.data.toList) := by
  apply list_ext
  rw [list_app, sealed_list, bs_list, bs_list]
  rfl

/-- What Make answers. -/
def mkS (s : ByteArray) : ByteArray := if 2000 < s.size then ⟨#[]⟩ else bs (Fr.mk s.data.toList)
def mkE (s : ByteArray) : Nat := if 2000 < s.size then 5 else 0

theorem make_any (s : ByteArray) (w : World) (hs : s.size ≤ 1000000) :
    Calls Try.prog 10 #[.string s] w fun e w' => e = .returned (.tuple #[.string (mkS s), .int .i64 (mkE s : Nat)]) ∧ Below w.heap.size w w' := by
  unfold mkS mkE
  by_cases h : 2000 < s.size
  · have d1 : decide (2000 < (s.size : Int)) = true := by simp; omega
    rw [if_pos h, if_pos h]
    go_enter Try.func10, Try.ntmps10
    go_wp2
    go_ret2
    exact ⟨rfl, Below.refl _ _⟩
  · have d1 : decide (2000 < (s.size : Int)) = false := by simp; omega
    rw [if_neg h, if_neg h, ← mk_parts]
    have k1 := head_any s.size w (by omega)
    have k2 : Aside (∀ u : World, _) := fun u : World => seal_any s u hs
    have z1 : (bs (Fr.sl (Fr.two s.size))).size = 6 := by rw [bs_size, Fr.sl_len]; rfl
    have z2 : (sealed s).size = s.size + 4 := by
      have := congrArg List.length (sealed_list s)
      rw [Fr.sl_len] at this
      exact this
    generalize bs (Fr.sl (Fr.two s.size)) = H at *
    generalize sealed s = S at *
    go_enter Try.func10, Try.ntmps10
    go_wp2_with (first
      | (go_at_call 18; refine k1.mono ?_; rintro e w1 ⟨rfl, hb1⟩)
      | (go_at_call 19; refine (k2.out _).mono ?_; rintro e w2 ⟨rfl, hb2⟩))
    go_ret2
    exact ⟨rfl, hb1.trans (hb2.mono hb1.size)⟩
end Go.Proofs.Ytknobijonpdbbaa
