/-
  Deeds that came in; few, of short texts.
-/
import Derived.Test.YtajjcfacbnicnaaGreatDoorU11
import Derived.Deep.Slices
import Derived.ProofKit
import Derived.OpenShut
import Derived.WalkKit
import Derived.WalkSpells
import Derived.WalkLawsBesides
import Derived.Deep.LoopGhost
import Derived.Laws.Externs
import Derived.Below
import Derived.BigQuiet
import Derived.Deep.RegionWith
import Derived.OwnWalk
import Derived.Maps.AppendAt
import Derived.WalkSmall
namespace Go.Proofs.YtajjcfacbnicnaaGreatDoor
open Go.RowKit
set_option maxRecDepth 100000
open Go.ChangeShapes Go.WideShapes Go.ChangeAt
/-- A deed. -/
structure Sd where
  kind : Int
  s : ByteArray
  n : Int
  m : Int
  by_ : Int
def Sd.cells (d : Sd) : Array Value := #[.int .u8 d.kind, .string d.s, .int .i64 d.n, .int .i64 d.m, .int .i64 d.by_]
instance : Inhabited Sd := ⟨⟨0, ⟨#[]⟩, 0, 0, 0⟩⟩
structure Sd.Fit (d : Sd) : Prop where
  k0 : 0 ≤ d.kind
  k1 : d.kind ≤ 255
  n : d.n ≤ 9223372036854775807
  m : d.m ≤ 9223372036854775807
  by_ : d.by_ ≤ 9223372036854775807
/-- A row of deeds in memory. -/
def Sds (w : World) (ad : Option Addr) (n : Nat) (X : Nat → Sd) : Prop := n = 0 ∨ ∃ g o, ad = some ⟨g, o, none⟩ ∧ ∀ i, i < n → (w.cell? ⟨g, o + i * 5, none⟩ = some (.int .u8 (X i).kind) ∧ w.cell? ⟨g, o + i * 5 + 1, none⟩ = some (.string (X i).s) ∧ w.cell? ⟨g, o + i * 5 + 2, none⟩ = some (.int .i64 (X i).n) ∧ w.cell? ⟨g, o + i * 5 + 3, none⟩ = some (.int .i64 (X i).m) ∧ w.cell? ⟨g, o + i * 5 + 4, none⟩ = some (.int .i64 (X i).by_)) ∧ (X i).Fit
theorem Sds.below {w w' : World} {ad : Option Addr} {n : Nat} {X : Nat → Sd} (h : Sds w ad n X) (hb : Below w.heap.size w w') : Sds w' ad n X := by
  rcases h with h | ⟨g, o, e, h⟩
  · exact .inl h
  · refine .inr ⟨g, o, e, fun i hi => ?_⟩
    obtain ⟨⟨a0, a1, a2, a3, a4⟩, r⟩ := h i hi
    exact ⟨⟨Dk.cell_below a0 hb, Dk.cell_below a1 hb, Dk.cell_below a2 hb, Dk.cell_below a3 hb, Dk.cell_below a4 hb⟩, r⟩
theorem c38of : Tryz.prog.cellsOf 38 = 5 := by kernel_rfl
theorem c3of' : Tryz.prog.cellsOf 3 = 1 := by kernel_rfl
theorem c5of' : Tryz.prog.cellsOf 5 = 1 := by kernel_rfl
theorem c9of' : Tryz.prog.cellsOf 9 = 1 := by kernel_rfl
theorem wf8 {z : Int} (h : (Lit.int .u8 z).wf = true) : 0 ≤ z ∧ z ≤ 255 := by
  have h' : (decide (IntKind.u8.min ≤ z) && decide (z ≤ IntKind.u8.max)) = true := h
  rw [Bool.and_eq_true, decide_eq_true_eq, decide_eq_true_eq] at h'
  exact h'
theorem wf64 {z : Int} (h : (Lit.int .i64 z).wf = true) : z ≤ 9223372036854775807 := by
  have h' : (decide (IntKind.i64.min ≤ z) && decide (z ≤ IntKind.i64.max)) = true := h
  rw [Bool.and_eq_true, decide_eq_true_eq, decide_eq_true_eq] at h'
  exact h'.2
theorem open_sd {H : Type} {enc : TypeId × Value → H} {W : World} {n : Nat} {cs : List Value} {x : DataW H × List MemPlace} (h : DataW.trod enc Tryz.prog W 0 (fun _ => true) true n 38 cs = some x) : ∃ d : Sd, cs = d.cells.toList ∧ d.Fit := by
  obtain ⟨xs, m, _, _, hl, hlen, hfs⟩ := DataW.trod_struct Tryz.underlying38 h
  rw [c38of] at hl
  have hlen : xs.length = 5 := hlen
  match xs, hlen, cs, hl with
  | [y0, y1, y2, y3, y4], _, [c0, c1, c2, c3, c4], _ =>
    have f0 : DataW.trod enc Tryz.prog W 0 (fun _ => true) true m 5 (([c0, c1, c2, c3, c4].drop 0).take (Tryz.prog.cellsOf 5)) = some y0 := hfs 0 _ rfl
    rw [c5of'] at f0
    have f1 : DataW.trod enc Tryz.prog W 0 (fun _ => true) true m 9 (([c0, c1, c2, c3, c4].drop 1).take (Tryz.prog.cellsOf 9)) = some y1 := hfs 1 _ rfl
    rw [c9of'] at f1
    have f2 : DataW.trod enc Tryz.prog W 0 (fun _ => true) true m 3 (([c0, c1, c2, c3, c4].drop 2).take (Tryz.prog.cellsOf 3)) = some y2 := hfs 2 _ rfl
    rw [c3of'] at f2
    have f3 : DataW.trod enc Tryz.prog W 0 (fun _ => true) true m 3 (([c0, c1, c2, c3, c4].drop 3).take (Tryz.prog.cellsOf 3)) = some y3 := hfs 3 _ rfl
    rw [c3of'] at f3
    have f4 : DataW.trod enc Tryz.prog W 0 (fun _ => true) true m 3 (([c0, c1, c2, c3, c4].drop 4).take (Tryz.prog.cellsOf 3)) = some y4 := hfs 4 _ rfl
    rw [c3of'] at f4
    obtain ⟨n0, e0, _, w0⟩ := DataW.trod_int Tryz.underlying5 f0
    obtain ⟨s1, e1, _, _⟩ := DataW.trod_string Tryz.underlying9 f1
    obtain ⟨n2, e2, _, w2⟩ := DataW.trod_int Tryz.underlying3 f2
    obtain ⟨n3, e3, _, w3⟩ := DataW.trod_int Tryz.underlying3 f3
    obtain ⟨n4, e4, _, w4⟩ := DataW.trod_int Tryz.underlying3 f4
    simp at e0 e1 e2 e3 e4
    subst e0 e1 e2 e3 e4
    exact ⟨⟨n0, s1, n2, n3, n4⟩, rfl, (wf8 w0).1, (wf8 w0).2, wf64 w2, wf64 w3, wf64 w4⟩
theorem open_sds {H : Type} {enc : TypeId × Value → H} {W : World} {ad : Option Addr} {n cap : Nat} {d : DataW H} {p : List MemPlace} (h : DataW.Trod enc Tryz.prog W 0 (fun _ => true) true 22 (.slice ad n cap) d p) : ∃ X, Sds W ad n X := by
  obtain ⟨fuel, hf⟩ := h
  rcases Deep.open_slice Tryz.underlying22 hf with ⟨hcs, _⟩ | ⟨a, len, cap', m, k, D, Pl, hcs, _, hl, _, hm, _, hx⟩
  · simp [Value.cells] at hcs
    obtain ⟨rfl, rfl, rfl⟩ := hcs
    exact ⟨fun _ => default, .inl rfl⟩
  · simp [Value.cells] at hcs
    obtain ⟨rfl, rfl, rfl⟩ := hcs
    have hm' : m = cap := by simpa using hm
    subst hm'
    rw [c38of] at hx
    rcases Nat.eq_zero_or_pos n with h0 | hp
    · exact ⟨fun _ => default, .inl h0⟩
    · have each : ∀ i, i < n → ∃ x : Sd, W.cells? 0 (a.add (i * 5)) 5 = some x.cells.toList ∧ x.Fit := fun i hi => by
        obtain ⟨cs', h1, h2⟩ := hx i (by omega)
        obtain ⟨x, e, r⟩ := open_sd h2
        exact ⟨x, by rw [h1, e], r⟩
      obtain ⟨X, hX⟩ := Deep.choose_lt each
      refine ⟨X, .inr ?_⟩
      obtain ⟨g, o, spot⟩ := a
      have hc : ∀ i, i < n → ∀ j, j < 5 → W.cell? ((⟨g, o, spot⟩ : Addr).add (i * 5 + j)) = (X i).cells.toList[j]? := fun i hi j hj => by
        obtain ⟨_, hlen, hcell⟩ := World.cells?_some (hX i hi).1
        have := hcell j hj
        rw [Deep.add_add] at this
        exact this
      have h00 := hc 0 hp 0 (by omega)
      have hspot : spot = none := by simpa [Addr.add] using World.cell?_spot (h00.trans rfl)
      subst hspot
      have hadd : ∀ k, (⟨g, o, none⟩ : Addr).add k = ⟨g, o + k, none⟩ := fun k => by
        unfold Addr.add
        split
        · rename_i e; rw [e]; rfl
        · rfl
      refine ⟨g, o, rfl, fun i hi => ⟨?_, (hX i hi).2⟩⟩
      have e0 := hc i hi 0 (by omega)
      have e1 := hc i hi 1 (by omega)
      have e2 := hc i hi 2 (by omega)
      have e3 := hc i hi 3 (by omega)
      have e4 := hc i hi 4 (by omega)
      rw [hadd] at e0 e1 e2 e3 e4
      exact ⟨e0, e1, e2, e3, e4⟩
def sdShort (x : Sd) : Bool := decide (x.s.size ≤ 300)
def smallOf (n : Nat) (X : Nat → Sd) : Bool := decide (n ≤ 60) && (List.range n).all fun i => sdShort (X i)
theorem small_iff {n : Nat} {X : Nat → Sd} : smallOf n X = true ↔ n ≤ 60 ∧ ∀ i, i < n → (X i).s.size ≤ 300 := by
  simp [smallOf, sdShort, List.all_eq_true]
set_option maxHeartbeats 1600000 in
theorem small_any (ad : Option Addr) (n cap : Nat) (X : Nat → Sd) (w : World) (h : Sds w ad n X) :
    Calls Tryz.prog 8 #[.slice ad n cap] w fun e w' => e = .returned (.bool (smallOf n X)) ∧ Below w.heap.size w w' := by
  by_cases h80 : 60 < n
  · have d1 : decide (60 < (n : Int)) = true := by simp; omega
    have e1 : smallOf n X = false := by unfold smallOf; rw [decide_eq_false (by omega)]; rfl
    rw [e1]
    go_enter Tryz.func8, Tryz.ntmps8
    go_wp2
    go_ret
    exact ⟨rfl, Below.refl _ _⟩
  · have d1 : decide (60 < (n : Int)) = false := by simp; omega
    have H := asd h
    have T1 : Aside ((∀ i, i < n → sdShort (X i) = true) → smallOf n X = true) := fun hh => by
      unfold smallOf
      rw [decide_eq_true (show n ≤ 60 by omega), Bool.true_and, List.all_eq_true]
      exact fun i hi => hh i (List.mem_range.1 hi)
    have T2 : Aside (∀ i, i < n → sdShort (X i) = false → smallOf n X = false) := fun i hi hs => by
      unfold smallOf
      have : (List.range n).all (fun i => sdShort (X i)) = false := by
        rw [List.all_eq_false]
        exact ⟨i, List.mem_range.2 hi, by rw [hs]; simp⟩
      rw [this, Bool.and_false]
    clear h
    go_enter Tryz.func8, Tryz.ntmps8
    go_wp2
    go_loopg [10, 4] n (fun gh s10 _ wr => ∃ k : Nat, n - k ≤ gh ∧ k ≤ n ∧ s10 = .int .i64 (k : Int) ∧ Below w.heap.size w wr ∧ Aside (∀ i, i < k → sdShort (X i) = true))
    case atStart => exact ⟨0, by omega, by omega, rfl, Below.refl _ _, (fun i hi => absurd hi (Nat.not_lt_zero _) : ∀ i, i < 0 → sdShort (X i) = true)⟩
    case round =>
      obtain ⟨k, hgh, hk, rfl, hb, I⟩ := hrel
      by_cases hlt : k < n
      · have q3 : decide (k < n) = true := by simpa using hlt
        rcases H.out with h0 | ⟨g, o, rfl, hc⟩
        · omega
        obtain ⟨⟨a0, a1, a2, a3, a4⟩, _⟩ := hc k hlt
        have b0 := Dk.cell_below a0 hb
        have b1 := Dk.cell_below a1 hb
        have b2 := Dk.cell_below a2 hb
        have b3 := Dk.cell_below a3 hb
        have b4 := Dk.cell_below a4 hb
        have hB := hb.alloc hb.size (.cells (X k).cells 38)
        unfold Sd.cells at hB
        clear a0 a1 a2 a3 a4 hc
        by_cases h1 : 300 < (X k).s.size
        · have q4 : decide (300 < ((X k).s.size : Int)) = true := by simp; omega
          have F : Aside (smallOf n X = false) := T2.out k hlt (by unfold sdShort; rw [decide_eq_false (by omega)])
          generalize X k = x at *
          go_wp2
          go_ret
          exact ⟨by rw [F.out]; rfl, hB⟩
        · have q4 : decide (300 < ((X k).s.size : Int)) = false := by simp; omega
          have I2 : Aside (∀ i, i < k + 1 → sdShort (X i) = true) := fun i hi => by
            by_cases e : i = k
            · subst e
              unfold sdShort
              rw [decide_eq_true (by omega)]
            · exact I.out i (by omega)
          clear I
          generalize X k = x at *
          go_wp2
          go_roundg (n - (k + 1))
          case measure => omega
          case rel => exact ⟨k + 1, Nat.le_refl _, by omega, by go_num, hB, I2⟩
      · obtain rfl : k = n := by omega
        have q3 : decide (k < k) = false := by simp
        have F : Aside (smallOf k X = true) := T1.out I.out
        clear I
        go_wp2
        go_ret
        exact ⟨by rw [F.out]; rfl, hb⟩
end Go.Proofs.YtajjcfacbnicnaaGreatDoor
