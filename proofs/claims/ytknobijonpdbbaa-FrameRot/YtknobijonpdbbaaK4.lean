/-
  What is opened.
-/
import Derived.Test.YtknobijonpdbbaaK3
import Derived.Test.YtknobijonpdbbaaQ
namespace Go.Proofs.Ytknobijonpdbbaa
open Go.RowKit

theorem open_short (s : ByteArray) (w : World) (hs : s.size < 4) :
    Calls Try.prog 21 #[.string s] w fun e w' => e = .returned (.tuple #[.string ⟨#[]⟩, .bool false]) ∧ w' = w := by
  go_enter Try.func21, Try.ntmps21
  go_wp2
  go_ret2
  exact ⟨rfl, rfl⟩

set_option maxHeartbeats 1600000 in
theorem open_yes (s b t : ByteArray) (w : World) (h4 : 4 ≤ s.size) (hs : s.size ≤ 1000000) (hb : s.extract 0 (s.size - 4) = b) (ht : s.extract (s.size - 4) s.size = t) (he : t = sb (Cr.sum b.data.toList)) :
    Calls Try.prog 21 #[.string s] w fun e w' => e = .returned (.tuple #[.string b, .bool true]) ∧ Below w.heap.size w w' := by
  have hbs : b.size ≤ 1000000 := by rw [← hb]; simp; omega
  have k1 : ∀ q : Later w, _ := fun q => of_any b q.u hbs
  have k2 : ∀ q : Later w, _ := fun q => sumBytes_any (Cr.sum b.data.toList) q.u (Cr.sum_lt _)
  have be : (t.toList == (sb (Cr.sum b.data.toList)).toList) = true := by rw [he]; exact beq_self_eq_true _
  clear he
  go_enter Try.func21, Try.ntmps21
  go_wp2_with fail
  have hne := later_some w
  refine wp_region_later (by kernel_rfl) (by kernel_rfl) ?_
  repeat (go_big_quiet_step ((first | (go_at_call 24; exact (k1 _).mono (fun _ w' h => ⟨h.1, _, h.2⟩)) | (go_at_call 23; exact calls_later (k2 _)))))
  refine wpQuiet_nil ?_
  rintro _ ⟨q, rfl⟩
  have hq := q.bel
  clear hne
  go_wp2
  go_ret2
  exact ⟨by rw [hb]; rfl, hq⟩

set_option maxHeartbeats 1600000 in
theorem open_no (s b t : ByteArray) (w : World) (h4 : 4 ≤ s.size) (hs : s.size ≤ 1000000) (hb : s.extract 0 (s.size - 4) = b) (ht : s.extract (s.size - 4) s.size = t) (he : t ≠ sb (Cr.sum b.data.toList)) :
    Calls Try.prog 21 #[.string s] w fun e w' => e = .returned (.tuple #[.string ⟨#[]⟩, .bool false]) ∧ Below w.heap.size w w' := by
  have hbs : b.size ≤ 1000000 := by rw [← hb]; simp; omega
  have k1 : ∀ q : Later w, _ := fun q => of_any b q.u hbs
  have k2 : ∀ q : Later w, _ := fun q => sumBytes_any (Cr.sum b.data.toList) q.u (Cr.sum_lt _)
  have be : (t.toList == (sb (Cr.sum b.data.toList)).toList) = false := by
    rw [beq_eq_false_iff_ne]
    intro h
    apply he
    rw [ByteArray.toList_eq, ByteArray.toList_eq] at h
    exact ByteArray.ext (Array.toList_inj.mp h)
  clear he
  go_enter Try.func21, Try.ntmps21
  go_wp2_with fail
  have hne := later_some w
  refine wp_region_later (by kernel_rfl) (by kernel_rfl) ?_
  repeat (go_big_quiet_step ((first | (go_at_call 24; exact (k1 _).mono (fun _ w' h => ⟨h.1, _, h.2⟩)) | (go_at_call 23; exact calls_later (k2 _)))))
  refine wpQuiet_nil ?_
  rintro _ ⟨q, rfl⟩
  have hq := q.bel
  clear hne
  go_wp2
  go_ret2
  exact ⟨rfl, hq⟩
end Go.Proofs.Ytknobijonpdbbaa
