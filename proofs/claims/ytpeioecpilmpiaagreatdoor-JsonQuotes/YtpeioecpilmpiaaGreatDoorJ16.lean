/-
  The program's quoted.
-/
import Derived.Test.YtpeioecpilmpiaaGreatDoorJ15
import Derived.Laws.RangeAny
import Derived.WalkSmall
import Derived.WalkKit
import Derived.WalkSpells
import Derived.WalkLawsBesides
import Derived.Deep.LoopGhost
import Derived.Laws.Externs
import Derived.Below
import Derived.BigQuiet
import Derived.Deep.RegionWith
import Derived.OwnWalk
import Derived.Maps.AppendAt
namespace Go.Proofs.YtpeioecpilmpiaaGreatDoor
open Go.RowKit
theorem scalar_of (l : Js.B) : Js.isScalar (Lib.decodeL l).1 := by
  unfold Js.isScalar
  rw [Lib.decodeL_N]
  have k0 := (l.getD 0 0).toNat_lt
  rcases Lib.decodeN_shape l.length (l.getD 0 0).toNat (l.getD 1 0).toNat (l.getD 2 0).toNat (l.getD 3 0).toNat with ⟨c, e⟩ | ⟨c1, c2, c3, cv, e⟩ | ⟨c1, c2, c3, c4, cv, cs, e⟩ | ⟨c1, c2, c3, c4, c5, cv, cw, e⟩ | e
  all_goals (rw [e]; dsimp only; omega)

set_option maxHeartbeats 4000000 in
set_option maxRecDepth 1000000 in
theorem quoted_any (s : ByteArray) (w : World) (hs : s.size ≤ 100000) (hV : Vars w) (hval : Lib.validD s.data.toList = true) :
    Calls Tryz.prog 29 #[.string s] w fun e w' => e = .returned (.string (bs (Js.quote s.data.toList))) ∧ Below w.heap.size w w' := by
  have HV := asd hV
  have HVAL := asd hval
  have hbig := hV.big
  clear hV hval
  have T1 : Aside True := trivial
  have hB0 : Bd w.heap.size w.heap.size [] (w.alloc (.cells #[.pointer none, .slice none 0 0] 94)) := Lib.IsBuilderF.of (Lib.fresh_isBuilder 94 5 w)
  have W1 := asd (writeByte_call w.heap.size w.heap.size [] 34 _ hB0 (by simp) (by simp))
  have BA := asd ((Below.refl w.heap.size w).alloc (Nat.le_refl _) (.cells #[.pointer none, .slice none 0 0] 94))
  clear hB0
  go_enter Tryz.func29, Tryz.ntmps29
  go_wp2_with (clear T1; go_at_call 47; refine W1.out.mono ?_; rintro e w1 ⟨rfl, h1, b1, _⟩; have A1 := asd (And.intro h1 (BA.out.trans b1)); clear h1 b1 W1)
  go_loopg [5] s.size (fun gh s5 wr => ∃ (p : Nat) (acc : List UInt8), s.size - p ≤ gh ∧ p ≤ s.size ∧ wr.heap[w1.heap.size]? = some (.stringIter s p) ∧ Aside (Bd w.heap.size w.heap.size acc wr ∧ Below w.heap.size w wr ∧ acc ++ Js.q (L s p) = 34 :: Js.q (L s 0) ∧ acc.length ≤ 6 * p + 1 ∧ Lib.validD (L s p) = true))
  case atStart =>
    refine ⟨0, [34], by omega, Nat.zero_le _, World.iter_heap w1 s 0, A1.out.1.alloc _, A1.out.2.alloc (by have := A1.out.2.size; omega) _, rfl, by simp, HVAL.out⟩
  case round =>
    obtain ⟨p, acc, hgh, hple, hit, I⟩ := hrel
    obtain ⟨hI, hbw, hacc, hal, hvl⟩ := I.out
    have hsz : w1.heap.size < wr.heap.size := (Array.getElem?_eq_some_iff.1 hit).1
    have hw1s : w.heap.size < w1.heap.size := A1.out.1.elim (fun x => x.lt) (fun x => x.lt)
    have hw1 : w.heap.size ≤ w1.heap.size := by omega
    by_cases hp : p < s.size
    · have hnx : ∀ ty, (Instr.next (.pointer (some ⟨w1.heap.size, 0, none⟩)) true ty).run Tryz.prog wr = _ := fun ty => Lib.run_next_any_at wr w1.heap.size s p ty hit hp
      have hd : Lib.decodeL (L s p) = Utf8.decode s p := Lib.decodeL_drop s p
      have hne : L s p ≠ [] := by rw [L_cons s p hp]; simp
      have hsc := scalar_of (L s p)
      rw [Lib.validD_step _ hne] at hvl
      split at hvl
      · cases hvl
      · rename_i hg
        have henc := Lib.encode_decode (L s p) hne hg
        have hwd := Lib.width_pos s p
        have hk := (Js.decode_same (L s p) (L s p) hne hg rfl).2.1
        rw [L_len] at hk
        rw [hd] at hsc hvl henc hk
        have hI2 := hI.iterAt hit (p + (Utf8.decode s p).2)
        have hit2 := Lib.iterAt_heap wr w1.heap.size s p (p + (Utf8.decode s p).2) hit
        have hbw2 := Lib.below_iterAt hbw (k := w1.heap.size) hw1 s (p + (Utf8.decode s p).2)
        have hsplit : Js.q (L s p) = Js.q (Lib.encodeRune (((Utf8.decode s p).1 : Nat) : Int)) ++ Js.q (L s (p + (Utf8.decode s p).2)) := by
          rw [henc, ← Js.q_app, ← L_drop, List.take_append_drop]
        have hql := Js.q_enc_len (Utf8.decode s p).1
        have NXT : Aside (acc ++ Js.q (Lib.encodeRune (((Utf8.decode s p).1 : Nat) : Int)) ++ Js.q (L s (p + (Utf8.decode s p).2)) = 34 :: Js.q (L s 0) ∧ (acc ++ Js.q (Lib.encodeRune (((Utf8.decode s p).1 : Nat) : Int))).length ≤ 6 * (p + (Utf8.decode s p).2) + 1 ∧ Lib.validD (L s (p + (Utf8.decode s p).2)) = true ∧ p + (Utf8.decode s p).2 ≤ s.size) := by
          refine ⟨by rw [List.append_assoc, ← hsplit]; exact hacc, by rw [List.length_append]; omega, ?_, by omega⟩
          rw [L_drop] at hvl
          exact hvl
        have WR := asd (fun w2 (hb : Below w.heap.size w w2) => written_any (Utf8.decode s p).1 hsc w2 (HV.out.below hb))
        have hW : Aside (Bd w.heap.size w.heap.size acc (wr.iterAt w1.heap.size s (p + (Utf8.decode s p).2)) ∧ Below w.heap.size w (wr.iterAt w1.heap.size s (p + (Utf8.decode s p).2)) ∧ (wr.iterAt w1.heap.size s (p + (Utf8.decode s p).2)).heap[w1.heap.size]? = some (.stringIter s (p + (Utf8.decode s p).2))) := ⟨hI2, hbw2, hit2⟩
        have hal2 : acc.length ≤ 1000000 := by omega
        have hqz : (bs (Js.q (Lib.encodeRune (((Utf8.decode s p).1 : Nat) : Int)))).size ≤ 1000000 := by show (Js.q _).length ≤ _; omega
        generalize Js.q (Lib.encodeRune (((Utf8.decode s p).1 : Nat) : Int)) = Q at *
        clear hI hbw hacc hal hvl hg henc hk hI2 hit2 hbw2 hsplit hql hsc hd hne I
        go_wp2_with (first
          | (go_at_call 49; refine (WR.out _ hW.out.2.1).mono ?_; rintro e w3 ⟨rfl, b3⟩
             have A3 : Aside (Bd w.heap.size w.heap.size acc w3 ∧ Below w.heap.size w w3 ∧ w3.heap[w1.heap.size]? = some (.stringIter s (p + (Utf8.decode s p).2))) := ⟨hW.out.1.kept (r := 0) (by omega) (gbelow b3), hW.out.2.1.trans (b3.mono (by have := hW.out.2.1.size; omega)), (b3.block _ (Array.getElem?_eq_some_iff.1 hW.out.2.2).1).trans hW.out.2.2⟩
             clear b3 WR)
          | (go_at_call 48; refine (writeString_call w.heap.size w.heap.size acc (bs Q) _ A3.out.1 hal2 hqz A3.out.2.1.size).mono ?_; rintro e w4 ⟨rfl, h4, b4, k4⟩
             have A4 := asd (And.intro h4 (And.intro (A3.out.2.1.trans b4) (k4.iter A3.out.2.2 (by omega))))
             clear h4 b4 k4))
        go_roundg (s.size - (p + (Utf8.decode s p).2))
        case measure => omega
        case rel =>
          refine ⟨p + (Utf8.decode s p).2, acc ++ Q, Nat.le_refl _, NXT.out.2.2.2, A4.out.2.2, ?_, A4.out.2.1, NXT.out.1, NXT.out.2.1, NXT.out.2.2.1⟩
          exact A4.out.1
    · obtain rfl : p = s.size := by omega
      have hnx : ∀ ty, (Instr.next (.pointer (some ⟨w1.heap.size, 0, none⟩)) true ty).run Tryz.prog wr = _ := fun ty => Lib.run_next_end_at wr w1.heap.size s s.size ty hit (by omega)
      rw [L_end s s.size (Nat.le_refl _)] at hacc
      have HA := asd (And.intro hacc (And.intro hI hbw))
      have hal2 : acc.length ≤ 1000000 := by omega
      clear hacc hI hbw hvl hal I
      go_wp2_with (first
        | (go_at_call 47; refine (writeByte_call w.heap.size w.heap.size acc 34 _ HA.out.2.1 hal2 HA.out.2.2.size).mono ?_; rintro e w4 ⟨rfl, h4, b4, _⟩
           have A4 := asd (And.intro h4 (HA.out.2.2.trans b4))
           clear h4 b4)
        | (go_at_call 50; refine (string_call w.heap.size w.heap.size (acc ++ [34]) _ A4.out.1 A4.out.2.size).mono ?_; rintro e w5 ⟨rfl, _, b5, _⟩
           have A5 := asd (A4.out.2.trans b5)
           clear b5))
      go_ret
      refine ⟨?_, A5.out⟩
      have : acc = 34 :: Js.q (L s 0) := by simpa [Js.q] using HA.out.1
      rw [this]
      rfl
end Go.Proofs.YtpeioecpilmpiaaGreatDoor
