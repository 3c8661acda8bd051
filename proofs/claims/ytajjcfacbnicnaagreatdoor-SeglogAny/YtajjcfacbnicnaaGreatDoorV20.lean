/-
  YtajjcfacbnicnaaGreatDoor: the texts DX19, one behind the other.
-/
import Derived.Test.YtajjcfacbnicnaaGreatDoorV6
import Derived.Laws.MakeOwn
import Derived.Lib.AppendZeros
/-
  Names.
-/
namespace Go.Proofs.YtajjcfacbnicnaaGreatDoor.Dk
open Go.RowKit
set_option maxRecDepth 100000

theorem info9 : (Tryz.prog.info? 9).map (fun i => (i.zero, i.size, i.bytes)) = some (some (.string ⟨#[]⟩), 1, 16) := by kernel_rfl
def scells (l : List ByteArray) : List Value := l.map Value.string

theorem scells_next (l : List Fv) (k : Nat) (h : k < l.length) : scells ((l.take (k + 1)).map Fv.name) = scells ((l.take k).map Fv.name) ++ [.string l[k]!.name] := by
  rw [take_next l k h]
  simp [scells]

set_option maxHeartbeats 2000000 in
theorem names_any {w : World} {B b : Nat} {d : Ds} (h : Rep w B b d) (ok : Ok d.pl) :
    Calls Tryz.prog 29 #[.pointer (some ⟨b, 0, none⟩)] w fun e w' => ∃ v, e = .returned v ∧ w'.ownsRow w.heap.size 9 1 v d.names.length (scells d.names) ∧ Below w.heap.size w w' := by
  obtain ⟨i0, hi0, hz0, hzs, hzb⟩ := info_parts info9
  have c0 := h.c0
  obtain ⟨a, cap, ev, hc'⟩ := h.row
  have hc : Aside (∀ t, t < d.files.length → ∃ g a' c', a = some ⟨g, 0, none⟩ ∧ w.cell? ⟨g, t * 3, none⟩ = some (.string d.files[t]!.name) ∧ w.cell? ⟨g, t * 3 + 1, none⟩ = some (.slice a' d.files[t]!.bytes.length c') ∧ w.cell? ⟨g, t * 3 + 2, none⟩ = some (.int .i64 (d.files[t]!.sure : Int))) := hc'
  rw [ev] at c0
  have hfew := ok.dfew
  obtain ⟨w1, hmk, hown, hgr⟩ := run_make_own (P := Tryz.prog) w w.heap.size 30 9 i0 (.string ⟨#[]⟩) 1 Tryz.underlying30 hi0 hz0 hzs .i64 .i64 d.files.length (by rw [hzb]; omega) (by unfold maxLen; omega) (Nat.le_refl _)
  have hb1 : Below w.heap.size w w1 := ⟨hgr.os, hgr.tape, hgr.output, hgr.size, fun k hk => hgr.block k hk (by simp)⟩
  have c01 := cell_below c0 hb1
  have OWN : Aside (w1.ownsRow w.heap.size 9 1 (.slice (some ⟨w.heap.size, 0, none⟩) 0 d.files.length) 0 []) := hown
  unfold Ds.names
  clear hc' h ok ev hgr hown
  generalize d.files = l at *
  go_enter Tryz.func29, Tryz.ntmps29
  go_wp2
  go_loopg [3, 5, 19] l.length (fun gh s3 _ s19 wr => ∃ k : Nat, l.length - k ≤ gh ∧ k ≤ l.length ∧ s19 = .int .i64 (k : Int) ∧ Below w.heap.size w wr ∧ Aside (wr.ownsRow w.heap.size 9 1 s3 k (scells ((l.take k).map Fv.name))))
  case atStart => exact ⟨0, by omega, by omega, rfl, hb1, OWN⟩
  case round =>
    obtain ⟨k, hgh, hk, rfl, hb, R⟩ := hrel
    have hsz := hb.size
    by_cases hlt : k < l.length
    · have d3 : decide (k < l.length) = true := by simpa using hlt
      obtain ⟨g, a', c', rfl, e0, e1, e2⟩ := hc.out k hlt
      replace e0 := cell_below e0 hb
      replace e1 := cell_below e1 hb
      replace e2 := cell_below e2 hb
      have hn : Aside _ := scells_next l k hlt
      generalize l[k]! = y at *
      obtain ⟨a3, c3, rfl⟩ := own_any R.out
      have hb2 : Below wr.heap.size wr ((wr.alloc (.cells #[.string y.name, .slice a' y.bytes.length c', .int .i64 (y.sure : Int)] 99)).alloc (.cells #[.string y.name] 9)) := (((Below.refl _ _).alloc (Nat.le_refl _) _)).alloc (by simp) _
      obtain ⟨v4, w4, hr4, ho4, hg4, _, _⟩ := run_append_own_at (P := Tryz.prog) ((wr.alloc (.cells #[.string y.name, .slice a' y.bytes.length c', .int .i64 (y.sure : Int)] 99)).alloc (.cells #[.string y.name] 9)) w.heap.size 30 30 9 i0 (.string ⟨#[]⟩) 1 16 Tryz.underlying30 hi0 hz0 hzs hzb rfl (by omega) _ k _ ((R.out.alloc _).alloc _) ⟨wr.heap.size + 1, 0, none⟩ 1 1 [.string y.name] rfl (fun j u hj => by
        match j, hj with
        | 0, hj =>
          simp at hj
          rw [← hj, Addr.add_lit]
          simp
        | j + 1, hj => simp at hj) (by simp [Value.oneCell']) (by unfold maxLen; omega) (by omega) (by simp; omega)
      have R4 : Aside (w4.ownsRow w.heap.size 9 1 v4 (k + 1) (scells ((l.take (k + 1)).map Fv.name)) ∧ Below w.heap.size w w4) := by
        refine ⟨by rw [hn.out]; exact ho4, ?_⟩
        have hbb := hb.trans (hb2.mono hsz)
        refine ⟨hg4.os.trans hbb.os, hg4.tape.trans hbb.tape, hg4.output.trans hbb.output, Nat.le_trans hbb.size hg4.size, fun j hj => (hg4.block j (by have := hbb.size; omega) (fun e => ?_)).trans (hbb.block j hj)⟩
        have := (R.out.lt j e.symm).1
        omega
      clear R ho4 hg4 hb2 hi0 hz0 hzs hzb OWN hmk c01
      go_wp2_with (at_builtin; refine Lib.wpList_append_run _ rfl _ _ _ _ rfl _ _ rfl rfl _ _ hr4 ?_)
      go_roundg (l.length - (k + 1))
      case measure => omega
      case rel => exact ⟨k + 1, Nat.le_refl _, by omega, by go_num, R4.out.2, R4.out.1⟩
    · obtain rfl : k = l.length := by omega
      have d3 : decide (l.length < l.length) = false := by simp
      rw [List.take_of_length_le (Nat.le_refl l.length)] at R
      go_wp2
      go_ret
      refine ⟨_, rfl, ?_, hb⟩
      rw [List.length_map]
      exact R.out
end Go.Proofs.YtajjcfacbnicnaaGreatDoor.Dk
