/-
  PackBack: for every list of items the law answers true, and the argument reads as before. No condition.
-/
import Derived.Test.YtlajableceaoaaaB5
import Derived.ProofKit
import Derived.OpenShut
import Derived.ShutString
import Derived.ChangeOld
import Derived.Below
import Derived.Deep.Slices
import Derived.Deep.Strs
namespace Go.Proofs.Ytlajableceaoaaa
open Go.ChangeShapes Go.WideShapes Go.ChangeAt Go.RowKit Go.Deep

theorem ownB : ownKnob Try.prog.godebug = none := by kernel_rfl
theorem laidOut : laidOutB Try.prog = true := by kernel_rfl
theorem Try.cells27 : Try.prog.cellsOf 27 = 3 := by kernel_rfl
theorem Try.cells9 : Try.prog.cellsOf 9 = 1 := by kernel_rfl
theorem Try.cells5 : Try.prog.cellsOf 5 = 1 := by kernel_rfl
theorem Try.cells3 : Try.prog.cellsOf 3 = 1 := by kernel_rfl

/-- A list of items that came in: it is nil, or its items lie in memory. -/
theorem open_items {H : Type} {enc : TypeId × Value → H} {W : World} {sp : Nat → Bool} {fuel : Nat} {cs : List Value} {x : DataW H × List MemPlace} (h : DataW.trod enc Try.prog W 0 sp true fuel 22 cs = some x) :
    cs = [.slice none 0 0] ∨
    ∃ (a : Addr) (len cap : Nat) (kd : Nat → Nat) (nm : Nat → Int) (st : Nat → ByteArray), cs = [.slice (some a) len cap] ∧
      ∀ i, i < len → W.cell? (a.add (i * 3)) = some (.int .u8 (kd i : Int)) ∧ W.cell? (a.add (i * 3 + 1)) = some (.int .i64 (nm i)) ∧ W.cell? (a.add (i * 3 + 2)) = some (.string (st i)) ∧ kd i < 256 := by
  rcases open_slice Try.underlying22 h with h0 | ⟨a, len, cap, m, n, D, Pl, rfl, hb, hl, hm, hmm, rfl, hx⟩
  · exact Or.inl h0.1
  right
  have hlm : len ≤ m := by rw [hmm]; split <;> omega
  have each : ∀ i, i < len → ∃ q : Nat × Int × ByteArray, W.cell? (a.add (i * 3)) = some (.int .u8 (q.1 : Int)) ∧ W.cell? (a.add (i * 3 + 1)) = some (.int .i64 q.2.1) ∧ W.cell? (a.add (i * 3 + 2)) = some (.string q.2.2) ∧ q.1 < 256 := by
    intro i hi
    obtain ⟨cs', h1, h2⟩ := hx i (by omega)
    rw [Try.cells27] at h1
    obtain ⟨_, hlen, hcell⟩ := World.cells?_some h1
    obtain ⟨y0, y1, y2, k, hxy, _, u0, u1, u2⟩ := trod_struct3 Try.underlying27 h2
    match cs', hlen with
    | [v0, v1, v2], _ =>
      simp only [Try.cells9, Try.cells3, Try.cells5, List.drop, List.take] at u0 u1 u2
      obtain ⟨q, e0, d0, wq⟩ := DataW.trod_int Try.underlying5 u0
      obtain ⟨p, e1, d1, _⟩ := DataW.trod_int Try.underlying3 u1
      obtain ⟨s, e2, d2, _⟩ := DataW.trod_string Try.underlying9 u2
      simp only [List.cons.injEq, and_true] at e0 e1 e2
      subst e0; subst e1; subst e2
      have c0 := hcell 0 (by omega)
      have c1 := hcell 1 (by omega)
      have c2 := hcell 2 (by omega)
      rw [add_add] at c0 c1 c2
      have hq : 0 ≤ q ∧ q ≤ 255 := by simpa [Lit.wf, IntKind.min, IntKind.max, IntKind.signed, IntKind.bits] using wq
      obtain ⟨n, rfl⟩ := Int.eq_ofNat_of_zero_le hq.1
      exact ⟨(n, p, s), by simpa using c0, by simpa using c1, by simpa using c2, by show n < 256; omega⟩
  obtain ⟨kd, hk⟩ := choose_lt (α := Nat) (n := len) (p := fun i q => ∃ r : Int × ByteArray, W.cell? (a.add (i * 3)) = some (.int .u8 (q : Int)) ∧ W.cell? (a.add (i * 3 + 1)) = some (.int .i64 r.1) ∧ W.cell? (a.add (i * 3 + 2)) = some (.string r.2) ∧ q < 256) (fun i hi => by
    obtain ⟨q, hq⟩ := each i hi
    exact ⟨q.1, q.2, hq⟩)
  obtain ⟨nm, hn⟩ := choose_lt (α := Int) (n := len) (p := fun i r => ∃ s : ByteArray, W.cell? (a.add (i * 3)) = some (.int .u8 (kd i : Int)) ∧ W.cell? (a.add (i * 3 + 1)) = some (.int .i64 r) ∧ W.cell? (a.add (i * 3 + 2)) = some (.string s) ∧ kd i < 256) (fun i hi => by
    obtain ⟨r, hr⟩ := hk i hi
    exact ⟨r.1, r.2, hr⟩)
  obtain ⟨st, hs⟩ := choose_lt (α := ByteArray) (n := len) (p := fun i s => W.cell? (a.add (i * 3)) = some (.int .u8 (kd i : Int)) ∧ W.cell? (a.add (i * 3 + 1)) = some (.int .i64 (nm i)) ∧ W.cell? (a.add (i * 3 + 2)) = some (.string s) ∧ kd i < 256) hn
  exact ⟨a, len, cap, kd, nm, st, rfl, hs⟩
end Go.Proofs.Ytlajableceaoaaa
