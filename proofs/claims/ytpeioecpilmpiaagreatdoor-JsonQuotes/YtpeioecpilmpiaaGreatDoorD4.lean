/-
  The document's reader: word.
-/
import Derived.Test.YtpeioecpilmpiaaGreatDoorD3
import Derived.WalkKit
import Derived.WalkSpells
import Derived.WalkLawsBesides
import Derived.Deep.LoopGhost
import Derived.Laws.Externs
import Derived.Below
import Derived.BigQuiet
import Derived.Deep.RegionWith
import Derived.OwnWalk
import Derived.Maps.AppendAt
import Derived.WalkSmall
namespace Go.Proofs.YtpeioecpilmpiaaGreatDoor
open Go.RowKit
theorem ext_take (s : ByteArray) (p n : Nat) : (s.extract p (p + n)).data.toList = (L s p).take n := by
  unfold L
  simp
theorem pre_iff (s wd : ByteArray) (p : Nat) : wd.data.toList.isPrefixOf (L s p) = true ↔ s.extract p (p + wd.size) = wd := by
  rw [List.isPrefixOf_iff_prefix, List.prefix_iff_eq_take]
  constructor
  · intro h
    apply ByteArray.ext
    apply Array.toList_inj.1
    rw [ext_take]
    exact h.symm
  · intro h
    have := congrArg (fun x : ByteArray => x.data.toList) h
    simp only [ext_take] at this
    exact this.symm
theorem toList_ne' {a b : ByteArray} (h : a ≠ b) : ¬ a.toList = b.toList := fun e => h (by
  rw [ByteArray.toList_eq, ByteArray.toList_eq] at e
  exact ByteArray.ext (Array.toList_inj.mp e))

set_option maxHeartbeats 1000000 in
theorem dword_any (r : Nat) (s wd : ByteArray) (p d e : Nat) (w : World) (h' : Rq r s p d e w) (hp : p ≤ s.size) (hs : s.size ≤ 1000) (hw : wd.size ≤ 1000) :
    Calls Tryz.prog 40 #[.pointer (some ⟨r, 0, none⟩), .string wd] w fun en w' => en = .returned (.bool (wd.data.toList.isPrefixOf (L s p))) ∧ Rq r s (if wd.data.toList.isPrefixOf (L s p) then p + wd.size else p) d e w' ∧ w.grownBy w' (some r) := by
  have c0 := h'.c0
  have c1 := h'.c1
  have f1 := h'.fz 1
  have N0 : Aside (∀ n, Rq r s p d e (w.drewN n) ∧ w.grownBy (w.drewN n) (some r)) := fun n => ⟨h'.drewN n, grown_drewN (grefl _ _) n⟩
  have N1 : Aside (∀ n, Rq r s (p + wd.size) d e ((w.drewN n).setCell ⟨r, 1, none⟩ (.int .i64 ((p : Int) + (wd.size : Int)))) ∧ w.grownBy ((w.drewN n).setCell ⟨r, 1, none⟩ (.int .i64 ((p : Int) + (wd.size : Int)))) (some r)) := fun n => by
    have := (h'.drewN n).set1 (p + wd.size)
    rw [show ((p + wd.size : Nat) : Int) = (p : Int) + (wd.size : Int) by omega] at this
    exact ⟨this, gtrans (grown_drewN (grefl _ _) n) (grown_set _ _ _ _)⟩
  clear h'
  by_cases hz : s.size < p + wd.size
  · have hf : wd.data.toList.isPrefixOf (L s p) = false := by
      rw [Bool.eq_false_iff]
      intro hh
      have := (List.isPrefixOf_iff_prefix.1 hh).length_le
      rw [L_len] at this
      have : wd.data.toList.length = wd.size := rfl
      omega
    rw [hf]
    have d1 : decide ((s.size : Int) - (p : Int) < (wd.size : Int)) = true := by simp; omega
    have N0' := N0
    clear N0 N1 hf
    go_enter Tryz.func40, Tryz.ntmps40
    go_wp2
    go_quiet (fail)
    go_wp2
    go_ret
    exact ⟨rfl, (N0'.out _).1, (N0'.out _).2⟩
  · have d1 : decide ((s.size : Int) - (p : Int) < (wd.size : Int)) = false := by simp; omega
    have hle : p + wd.size ≤ s.size := by omega
    by_cases he : s.extract p (p + wd.size) = wd
    · rw [(pre_iff s wd p).2 he]
      have e0 : s.extract p (p + wd.size) = wd := he
      have e1 : (wd.toList != wd.toList) = false := bne_self_eq_false _
      have N1' := N1
      clear N0 N1
      go_enter Tryz.func40, Tryz.ntmps40
      go_wp2
      go_quiet (fail)
      go_wp2
      go_ret
      exact ⟨rfl, (N1'.out _).1, (N1'.out _).2⟩
    · have hf : wd.data.toList.isPrefixOf (L s p) = false := by
        rw [Bool.eq_false_iff]
        exact fun hh => he ((pre_iff s wd p).1 hh)
      rw [hf]
      have e1 := toList_ne' he
      have e2 : ((s.extract p (p + wd.size)).toList == wd.toList) = false := by rw [beq_eq_false_iff_ne]; exact e1
      have e3 : ((s.extract p (p + wd.size)).toList != wd.toList) = true := by rw [bne_iff_ne]; exact e1
      have N0' := N0
      clear N0 N1 hf he
      generalize hX : s.extract p (p + wd.size) = X at *
      go_enter Tryz.func40, Tryz.ntmps40
      go_wp2
      go_quiet (fail)
      go_wp2
      go_ret
      exact ⟨rfl, (N0'.out _).1, (N0'.out _).2⟩
end Go.Proofs.YtpeioecpilmpiaaGreatDoor
