/-
  Ytnmamaeoghgegaa: the texts DX2, one behind the other.
-/
import Derived.Test.YtnmamaeoghgegaaG7
/-
  Room, Fuse, New; nobody's disk.
-/
namespace Go.Proofs.Ytnmamaeoghgegaa.Dk
open Go.RowKit
set_option maxRecDepth 100000

def opRoom (s : St) (n : Int) : St := { s with room := (min (max n 0) 60000).toNat }
def opFuse (s : St) (n : Int) : St := if s.down then s else { s with fused := decide (0 ≤ n), fuse := n.toNat }

theorem Ok.opRoom {s : St} (h : Ok s) (n : Int) : Ok (opRoom s n) := ⟨h.rising, h.few, by show (min (max n 0) 60000).toNat ≤ 60000; omega, h.fuse, h.used, h.sizes, h.waits, h.named⟩
theorem Ok.opFuse {s : St} (h : Ok s) {n : Int} (hn : n ≤ 9223372036854775807) : Ok (opFuse s n) := by
  unfold Ytnmamaeoghgegaa.Dk.opFuse
  split
  · exact h
  · exact ⟨h.rising, h.few, h.room, by show n.toNat ≤ _; omega, h.used, h.sizes, h.waits, h.named⟩

theorem room_any {w : World} {B b : Nat} {d : Ds} (h : Rep w B b d) (n : Int) :
    Calls Try.prog 28 #[.pointer (some ⟨b, 0, none⟩), .int .i64 n] w fun e w' => e = .returned (.tuple #[]) ∧ ∃ d', Rep w' B b d' ∧ d'.pl = opRoom d.pl n ∧ Step (d.foot b) (d'.foot b) w w' := by
  have c2 := h.c2
  have f2 := h.fz 2
  have A : Aside (Rep w B b d) := h
  obtain ⟨m, hm⟩ : ∃ m : Nat, (m : Int) = min (max n 0) 60000 := ⟨(min (max n 0) 60000).toNat, by omega⟩
  have hm' : (min (max n 0) 60000).toNat = m := by omega
  unfold opRoom
  rw [hm']
  have HM : Aside ((m : Int) = min (max n 0) 60000) := hm
  clear h hm hm'
  go_enter Try.func28, Try.ntmps28
  go_wp2
  go_end0
  refine ⟨rfl, { d with room := m }, A.out.scal rfl rfl rfl rfl (set_same A.out.blk ?_) (fun k hk => Below.heap_setCell _ _ _ _ hk), rfl, Step.setb _ foot_b _ _⟩
  simp [Ds.cells, HM.out]

theorem fuse_any {w : World} {B b : Nat} {d : Ds} (h : Rep w B b d) (n : Int) :
    Calls Try.prog 56 #[.pointer (some ⟨b, 0, none⟩), .int .i64 n] w fun e w' => e = .returned (.tuple #[]) ∧ ∃ d', Rep w' B b d' ∧ d'.pl = opFuse d.pl n ∧ Step (d.foot b) (d'.foot b) w w' := by
  have c3 := h.c3
  have c4 := h.c4
  have c5 := h.c5
  have f3 := h.fz 3
  have f4 := h.fz 4
  have A : Aside (Rep w B b d) := h
  have e1 : (max n 0) = ((n.toNat : Nat) : Int) := by omega
  have E1 : Aside ((max n 0) = ((n.toNat : Nat) : Int)) := e1
  unfold opFuse
  show Calls Try.prog 56 _ w fun e w' => e = .returned (.tuple #[]) ∧ ∃ d', Rep w' B b d' ∧ d'.pl = (if d.down then d.pl else _) ∧ Step (d.foot b) (d'.foot b) w w'
  clear h e1
  cases hd : d.down with
  | true =>
    rw [hd] at c5
    go_enter Try.func56, Try.ntmps56
    go_wp2
    try simp only [Exit.inBlock, Exit.then]
    refine bodyPost_ret (results_none rfl _ _ _) rfl ?_
    exact ⟨rfl, d, A.out, by simp, Step.refl _ _⟩
  | false =>
    rw [hd] at c5
    go_enter Try.func56, Try.ntmps56
    go_wp2
    go_end0
    refine ⟨rfl, { d with fused := decide (0 ≤ n), fuse := n.toNat }, A.out.scal rfl rfl rfl rfl (set_same (set_same A.out.blk rfl) ?_) (fun k hk => (Below.heap_setCell _ _ _ _ hk).trans (Below.heap_setCell _ _ _ _ hk)), by simp [Ds.pl], (Step.setb _ foot_b _ _).trans (Step.setb _ foot_b _ _)⟩
    rw [E1.out]
    rfl

def emptySt : St := ⟨[], [], 0, false, 0, false⟩

theorem new_any (n : Int) (w : World) (B : Nat) (hB : B ≤ w.heap.size) :
    Calls Try.prog 8 #[.int .i64 n] w fun e w' => ∃ b d, e = .returned (.pointer (some ⟨b, 0, none⟩)) ∧ Rep w' B b d ∧ d.pl = opRoom emptySt n ∧ (∀ k ∈ d.foot b, w.heap.size ≤ k) ∧ Below w.heap.size w w' := by
  have kr : Aside (∀ u : World, Rep u B w.heap.size ⟨[], [], .slice none 0 0, .slice none 0 0, 0, false, 0, false⟩ → _) := fun (u : World) hu => room_any hu n
  have h0 : Aside (Rep (w.alloc (.cells #[.slice none 0 0, .slice none 0 0, .int .i64 0, .bool false, .int .i64 0, .bool false] 63)) B w.heap.size ⟨[], [], .slice none 0 0, .slice none 0 0, 0, false, 0, false⟩) :=
    ⟨hB, heap_alloc_new w _, World.ownsRow_nil _ _ _ _, World.ownsRow_nil _ _ _ _, fun f hf => by simp at hf, by simp [Ds.foot, ob, Value.ownBlock]⟩
  go_enter Try.func8, Try.ntmps8
  go_wp2_with (go_at_call 28; refine (kr.out _ h0.out).mono ?_; rintro e w1 ⟨rfl, d, hr, hp, hs⟩)
  go_ret
  refine ⟨w.heap.size, d, rfl, hr, hp, fun k hk => ?_, ?_⟩
  · rcases hs.sub k hk with h | h
    · simp [Ds.foot, ob, Value.ownBlock] at h
      omega
    · have : w.heap.size + 1 ≤ k := by simpa using h
      omega
  · exact ((Below.refl w.heap.size w).alloc (Nat.le_refl _) _).trans (hs.below (fun k hk => by simp [Ds.foot, ob, Value.ownBlock] at hk; omega) (by simp))
end Go.Proofs.Ytnmamaeoghgegaa.Dk
