/-
  Ytcapgcdflahbkaa: the texts E6, E7, E8, E9, one behind the other.
-/
import Derived.Test.YtcapgcdflahbkaaG15
import Derived.Deep.Slices
import Derived.ProofKit
import Derived.OpenShut
import Derived.Maps.AppendAt
import Derived.OwnWalk
/-
  Deeds that came in; they are few, with short texts; both disks go through them.
-/
namespace Go.Proofs.Ytcapgcdflahbkaa
open Go.RowKit Go.ChangeShapes Go.WideShapes Go.ChangeAt

/-- A row of deeds in memory. -/
def Deeds (w : World) (ad : Option Addr) (n : Nat) (X : Nat → Dd) : Prop := n = 0 ∨ ∃ g o, ad = some ⟨g, o, none⟩ ∧ ∀ i, i < n → (w.cell? ⟨g, o + i * 6, none⟩ = some (.int .u8 (X i).kind) ∧ w.cell? ⟨g, o + i * 6 + 1, none⟩ = some (.string (X i).name) ∧ w.cell? ⟨g, o + i * 6 + 2, none⟩ = some (.string (X i).s) ∧ w.cell? ⟨g, o + i * 6 + 3, none⟩ = some (.int .i64 (X i).n) ∧ w.cell? ⟨g, o + i * 6 + 4, none⟩ = some (.int .i64 (X i).m) ∧ w.cell? ⟨g, o + i * 6 + 5, none⟩ = some (.int .i64 (X i).by_)) ∧ 0 ≤ (X i).kind ∧ (X i).kind ≤ 255 ∧ (X i).n ≤ 9223372036854775807

theorem Deeds.below {w w' : World} {ad : Option Addr} {n : Nat} {X : Nat → Dd} (h : Deeds w ad n X) (hb : Below w.heap.size w w') : Deeds w' ad n X := by
  rcases h with h | ⟨g, o, e, h⟩
  · exact .inl h
  · refine .inr ⟨g, o, e, fun i hi => ?_⟩
    obtain ⟨⟨a0, a1, a2, a3, a4, a5⟩, r⟩ := h i hi
    exact ⟨⟨cell_below a0 hb, cell_below a1 hb, cell_below a2 hb, cell_below a3 hb, cell_below a4 hb, cell_below a5 hb⟩, r⟩

theorem cells30 : Try.prog.cellsOf 30 = 6 := by kernel_rfl
theorem cells3' : Try.prog.cellsOf 3 = 1 := by kernel_rfl
theorem cells5' : Try.prog.cellsOf 5 = 1 := by kernel_rfl
theorem cells9' : Try.prog.cellsOf 9 = 1 := by kernel_rfl

theorem wf_u8 {z : Int} (h : (Lit.int .u8 z).wf = true) : 0 ≤ z ∧ z ≤ 255 := by
  have h' : (decide (IntKind.u8.min ≤ z) && decide (z ≤ IntKind.u8.max)) = true := h
  rw [Bool.and_eq_true, decide_eq_true_eq, decide_eq_true_eq] at h'
  exact h'
theorem wf_i64 {z : Int} (h : (Lit.int .i64 z).wf = true) : z ≤ 9223372036854775807 := by
  have h' : (decide (IntKind.i64.min ≤ z) && decide (z ≤ IntKind.i64.max)) = true := h
  rw [Bool.and_eq_true, decide_eq_true_eq, decide_eq_true_eq] at h'
  exact h'.2
instance : Inhabited Dd := ⟨⟨0, ⟨#[]⟩, ⟨#[]⟩, 0, 0, 0⟩⟩

set_option maxRecDepth 100000 in
theorem open_deed {H : Type} {enc : TypeId × Value → H} {W : World} {n : Nat} {cs : List Value} {x : DataW H × List MemPlace} (h : DataW.trod enc Try.prog W 0 (fun _ => true) true n 30 cs = some x) : ∃ d : Dd, cs = d.cells.toList ∧ 0 ≤ d.kind ∧ d.kind ≤ 255 ∧ d.n ≤ 9223372036854775807 := by
  obtain ⟨xs, m, _, _, hl, hlen, hfs⟩ := DataW.trod_struct Try.underlying30 h
  rw [cells30] at hl
  have hlen : xs.length = 6 := hlen
  match xs, hlen, cs, hl with
  | [y0, y1, y2, y3, y4, y5], _, [c0, c1, c2, c3, c4, c5], _ =>
    have f0 : DataW.trod enc Try.prog W 0 (fun _ => true) true m 5 (([c0, c1, c2, c3, c4, c5].drop 0).take (Try.prog.cellsOf 5)) = some y0 := hfs 0 _ rfl
    rw [cells5'] at f0
    have f1 : DataW.trod enc Try.prog W 0 (fun _ => true) true m 9 (([c0, c1, c2, c3, c4, c5].drop 1).take (Try.prog.cellsOf 9)) = some y1 := hfs 1 _ rfl
    rw [cells9'] at f1
    have f2 : DataW.trod enc Try.prog W 0 (fun _ => true) true m 9 (([c0, c1, c2, c3, c4, c5].drop 2).take (Try.prog.cellsOf 9)) = some y2 := hfs 2 _ rfl
    rw [cells9'] at f2
    have f3 : DataW.trod enc Try.prog W 0 (fun _ => true) true m 3 (([c0, c1, c2, c3, c4, c5].drop 3).take (Try.prog.cellsOf 3)) = some y3 := hfs 3 _ rfl
    rw [cells3'] at f3
    have f4 : DataW.trod enc Try.prog W 0 (fun _ => true) true m 3 (([c0, c1, c2, c3, c4, c5].drop 4).take (Try.prog.cellsOf 3)) = some y4 := hfs 4 _ rfl
    rw [cells3'] at f4
    have f5 : DataW.trod enc Try.prog W 0 (fun _ => true) true m 3 (([c0, c1, c2, c3, c4, c5].drop 5).take (Try.prog.cellsOf 3)) = some y5 := hfs 5 _ rfl
    rw [cells3'] at f5
    obtain ⟨n0, e0, _, w0⟩ := DataW.trod_int Try.underlying5 f0
    obtain ⟨s1, e1, _, _⟩ := DataW.trod_string Try.underlying9 f1
    obtain ⟨s2, e2, _, _⟩ := DataW.trod_string Try.underlying9 f2
    obtain ⟨n3, e3, _, w3⟩ := DataW.trod_int Try.underlying3 f3
    obtain ⟨n4, e4, _, _⟩ := DataW.trod_int Try.underlying3 f4
    obtain ⟨n5, e5, _, _⟩ := DataW.trod_int Try.underlying3 f5
    simp at e0 e1 e2 e3 e4 e5
    subst e0 e1 e2 e3 e4 e5
    exact ⟨⟨n0, s1, s2, n3, n4, n5⟩, rfl, (wf_u8 w0).1, (wf_u8 w0).2, wf_i64 w3⟩

theorem open_deeds {H : Type} {enc : TypeId × Value → H} {W : World} {ad : Option Addr} {n cap : Nat} {d : DataW H} {p : List MemPlace} (h : DataW.Trod enc Try.prog W 0 (fun _ => true) true 22 (.slice ad n cap) d p) : ∃ X, Deeds W ad n X := by
  obtain ⟨fuel, hf⟩ := h
  rcases Deep.open_slice Try.underlying22 hf with ⟨hcs, _⟩ | ⟨a, len, cap', m, k, D, Pl, hcs, _, hl, _, hm, _, hx⟩
  · simp [Value.cells] at hcs
    obtain ⟨rfl, rfl, rfl⟩ := hcs
    exact ⟨fun _ => default, .inl rfl⟩
  · simp [Value.cells] at hcs
    obtain ⟨rfl, rfl, rfl⟩ := hcs
    have hm' : m = cap := by simpa using hm
    subst hm'
    rw [cells30] at hx
    rcases Nat.eq_zero_or_pos n with h0 | hp
    · exact ⟨fun _ => default, .inl h0⟩
    · have each : ∀ i, i < n → ∃ x : Dd, W.cells? 0 (a.add (i * 6)) 6 = some x.cells.toList ∧ 0 ≤ x.kind ∧ x.kind ≤ 255 ∧ x.n ≤ 9223372036854775807 := fun i hi => by
        obtain ⟨cs', h1, h2⟩ := hx i (by omega)
        obtain ⟨x, e, r⟩ := open_deed h2
        exact ⟨x, by rw [h1, e], r⟩
      obtain ⟨X, hX⟩ := Deep.choose_lt each
      refine ⟨X, .inr ?_⟩
      obtain ⟨g, o, spot⟩ := a
      have hc : ∀ i, i < n → ∀ j, j < 6 → W.cell? ((⟨g, o, spot⟩ : Addr).add (i * 6 + j)) = (X i).cells.toList[j]? := fun i hi j hj => by
        obtain ⟨_, hlen, hcell⟩ := World.cells?_some (hX i hi).1
        have := hcell j hj
        rw [Deep.add_add] at this
        exact this
      have h00 := hc 0 hp 0 (by omega)
      have hspot : spot = none := by simpa [Addr.add] using World.cell?_spot (h00.trans rfl)
      subst hspot
      have hadd : ∀ k, (⟨g, o, none⟩ : Addr).add k = ⟨g, o + k, none⟩ := fun k => by
        unfold Addr.add
        split
        · rename_i e; rw [e]; rfl
        · rfl
      refine ⟨g, o, rfl, fun i hi => ⟨?_, (hX i hi).2⟩⟩
      have e0 := hc i hi 0 (by omega)
      have e1 := hc i hi 1 (by omega)
      have e2 := hc i hi 2 (by omega)
      have e3 := hc i hi 3 (by omega)
      have e4 := hc i hi 4 (by omega)
      have e5 := hc i hi 5 (by omega)
      rw [hadd] at e0 e1 e2 e3 e4 e5
      exact ⟨e0, e1, e2, e3, e4, e5⟩
end Go.Proofs.Ytcapgcdflahbkaa

/-
  Few deeds with short texts; both disks made; DiskRuns' own walk.
-/
namespace Go.Proofs.Ytcapgcdflahbkaa
open Go.RowKit

def short (x : Dd) : Bool := decide (x.s.size ≤ 60) && decide (x.name.size ≤ 60)
def smallOf (n : Nat) (X : Nat → Dd) : Bool := decide (n ≤ 80) && (List.range n).all fun i => short (X i)

theorem small_iff {n : Nat} {X : Nat → Dd} : smallOf n X = true ↔ n ≤ 80 ∧ ∀ i, i < n → (X i).s.size ≤ 60 ∧ (X i).name.size ≤ 60 := by
  simp [smallOf, short, List.all_eq_true]

set_option maxHeartbeats 1600000 in
theorem small_any (ad : Option Addr) (n cap : Nat) (X : Nat → Dd) (w : World) (h : Deeds w ad n X) :
    Calls Try.prog 7 #[.slice ad n cap] w fun e w' => e = .returned (.bool (smallOf n X)) ∧ Below w.heap.size w w' := by
  by_cases h80 : 80 < n
  · have d1 : decide (80 < (n : Int)) = true := by simp; omega
    have e1 : smallOf n X = false := by unfold smallOf; rw [decide_eq_false (by omega)]; rfl
    rw [e1]
    go_enter Try.func7, Try.ntmps7
    go_wp2
    go_ret
    exact ⟨rfl, Below.refl _ _⟩
  · have d1 : decide (80 < (n : Int)) = false := by simp; omega
    have H : Aside (Deeds w ad n X) := h
    have T1 : Aside ((∀ i, i < n → short (X i) = true) → smallOf n X = true) := fun hh => by
      unfold smallOf
      rw [decide_eq_true (show n ≤ 80 by omega), Bool.true_and, List.all_eq_true]
      exact fun i hi => hh i (List.mem_range.1 hi)
    have T2 : Aside (∀ i, i < n → short (X i) = false → smallOf n X = false) := fun i hi hs => by
      unfold smallOf
      have : (List.range n).all (fun i => short (X i)) = false := by
        rw [List.all_eq_false]
        exact ⟨i, List.mem_range.2 hi, by rw [hs]; simp⟩
      rw [this, Bool.and_false]
    clear h
    go_enter Try.func7, Try.ntmps7
    go_wp2
    go_loopg [10, 4] n (fun gh s10 _ wr => ∃ k : Nat, n - k ≤ gh ∧ k ≤ n ∧ s10 = .int .i64 (k : Int) ∧ Below w.heap.size w wr ∧ Aside (∀ i, i < k → short (X i) = true))
    case atStart => exact ⟨0, by omega, by omega, rfl, Below.refl _ _, (fun i hi => absurd hi (Nat.not_lt_zero _) : ∀ i, i < 0 → short (X i) = true)⟩
    case round =>
      obtain ⟨k, hgh, hk, rfl, hb, I⟩ := hrel
      by_cases hlt : k < n
      · have q3 : decide (k < n) = true := by simpa using hlt
        rcases H.out with h0 | ⟨g, o, rfl, hc⟩
        · omega
        obtain ⟨⟨a0, a1, a2, a3, a4, a5⟩, _, _, _⟩ := hc k hlt
        have b0 := cell_below a0 hb
        have b1 := cell_below a1 hb
        have b2 := cell_below a2 hb
        have b3 := cell_below a3 hb
        have b4 := cell_below a4 hb
        have b5 := cell_below a5 hb
        have hB := hb.alloc hb.size (.cells (X k).cells 30)
        unfold Dd.cells at hB
        clear a0 a1 a2 a3 a4 a5 hc
        by_cases h1 : 60 < (X k).s.size
        · have q4 : decide (60 < ((X k).s.size : Int)) = true := by simp; omega
          have F : Aside (smallOf n X = false) := T2.out k hlt (by unfold short; rw [decide_eq_false (by omega)]; rfl)
          generalize X k = x at *
          go_wp2
          go_ret
          exact ⟨by rw [F.out]; rfl, hB⟩
        · have q4 : decide (60 < ((X k).s.size : Int)) = false := by simp; omega
          by_cases h2 : 60 < (X k).name.size
          · have q5 : decide (60 < ((X k).name.size : Int)) = true := by simp; omega
            have F : Aside (smallOf n X = false) := T2.out k hlt (by unfold short; rw [decide_eq_false (show ¬ (X k).name.size ≤ 60 by omega), Bool.and_false])
            generalize X k = x at *
            go_wp2
            go_ret
            exact ⟨by rw [F.out]; rfl, hB⟩
          · have q5 : decide (60 < ((X k).name.size : Int)) = false := by simp; omega
            have I2 : Aside (∀ i, i < k + 1 → short (X i) = true) := fun i hi => by
              by_cases e : i = k
              · subst e
                unfold short
                rw [decide_eq_true (by omega), decide_eq_true (by omega)]
                rfl
              · exact I.out i (by omega)
            clear I
            generalize X k = x at *
            go_wp2
            go_roundg (n - (k + 1))
            case measure => omega
            case rel => exact ⟨k + 1, Nat.le_refl _, by omega, by go_num, hB, I2⟩
      · obtain rfl : k = n := by omega
        have q3 : decide (k < k) = false := by simp
        have F : Aside (smallOf k X = true) := T1.out I.out
        clear I
        go_wp2
        go_ret
        exact ⟨by rw [F.out]; rfl, hb⟩

/-- Both disks, made anew. -/
theorem both_new {w1 w2 : World} {B b c : Nat} {d : Ds} {r : Rs} {n : Int} (h1 : Rep w1 B b d) (e1 : d.pl = opRoom emptySt n) (h2 : RRep w2 B c r) (e2 : r.pl = rRoom rEmpty n) (f2 : ∀ k ∈ r.foot c, w1.heap.size ≤ k) (b2 : Below w1.heap.size w1 w2) : Both w2 B b c d r ∧ r.count = 0 := by
  refine ⟨⟨h1.below b2, h2, by rw [e1]; exact ok_empty.opRoom n, ⟨[], ?_⟩, fun k hk hm => ?_⟩, ?_⟩
  · rw [e1, e2]
    exact ⟨rfl, rfl, List.Pairwise.nil, fun x hx => (by cases hx), rfl, rfl, rfl, fun e => (by cases e)⟩
  · have := (h1.lt k hk).2
    have := f2 k hm
    omega
  · rw [← count_pl, e2]
    rfl

theorem Both.lo {w : World} {B b c : Nat} {d : Ds} {r : Rs} (h : Both w B b c d r) : ∀ k ∈ d.foot b ++ r.foot c, B ≤ k := fun k hk => by
  rcases List.mem_append.1 hk with hk | hk
  · exact (h.rep.lt k hk).1
  · exact (h.rrep.lt k hk).1

/-- Behind a deed all that lay below B is as it was. -/
theorem Done.below {w w' : World} {B b c : Nat} {d : Ds} {r : Rs} (hw : Both w B b c d r) (h : Done w B b c d r w') : ∃ d' r', Both w' B b c d' r' ∧ r'.count ≤ r.count + 60 ∧ Below B w w' := by
  obtain ⟨d', r', h1, h2, h3⟩ := h
  exact ⟨d', r', h1, h2, h3.below hw.lo (by have := hw.rep.lt b foot_b; omega)⟩

set_option maxHeartbeats 1600000 in
theorem runs_any (room : Int) (ad : Option Addr) (n cap : Nat) (X : Nat → Dd) (w : World) (h : Deeds w ad n X) :
    Calls Try.prog 3 #[.int .i64 room, .slice ad n cap] w fun e w' => e = .returned (.bool true) ∧ Below w.heap.size w w' := by
  have k0 := awake_any w
  have H : Aside (Deeds w ad n X) := h
  have K1 : Aside (∀ u, Below w.heap.size w u → Calls Try.prog 7 #[.slice ad n cap] u fun e w' => e = .returned (.bool (smallOf n X)) ∧ Below u.heap.size u w') := fun u hu => small_any ad n cap X u (H.out.below hu)
  clear h
  cases hsm : smallOf n X with
  | false =>
    rw [hsm] at K1
    go_enter Try.func3, Try.ntmps3
    go_wp2_with (first
      | (go_at_call 6; refine k0.mono ?_; rintro e w1 ⟨rfl, hb1⟩)
      | (go_at_call 7; refine (K1.out _ hb1).mono ?_; rintro e w2 ⟨rfl, hb2⟩))
    go_ret
    exact ⟨rfl, hb1.trans (hb2.mono hb1.size)⟩
  | true =>
    rw [hsm] at K1
    obtain ⟨hn, hsz⟩ := small_iff.1 hsm
    have SZ : Aside (∀ i, i < n → (X i).s.size ≤ 60 ∧ (X i).name.size ≤ 60) := hsz
    have K8 : Aside (∀ u : World, w.heap.size ≤ u.heap.size → _) := fun (u : World) (hu : w.heap.size ≤ u.heap.size) => new_any room u w.heap.size hu
    have K9 : Aside (∀ u : World, w.heap.size ≤ u.heap.size → _) := fun (u : World) (hu : w.heap.size ≤ u.heap.size) => rnew_any room u w.heap.size hu
    clear hsz hsm
    go_enter Try.func3, Try.ntmps3
    go_wp2_with (first
      | (go_at_call 6; refine k0.mono ?_; rintro e w1 ⟨rfl, hb1⟩)
      | (go_at_call 7; refine (K1.out _ hb1).mono ?_; rintro e w2 ⟨rfl, hb2⟩; replace hb2 := hb1.trans (hb2.mono hb1.size))
      | (go_at_call 8; refine (K8.out _ hb2.size).mono ?_; rintro e w3 ⟨b, d0, rfl, r3, p3, f3, hb3⟩; replace hb3 := hb2.trans (hb3.mono hb2.size))
      | (go_at_call 9; refine (K9.out _ hb3.size).mono ?_; rintro e w4 ⟨c, r0, rfl, r4, p4, f4, hb4⟩; obtain ⟨hB0, hc0⟩ := both_new r3 p3 r4 p4 f4 hb4; replace hb4 := hb3.trans (hb4.mono hb3.size)))
    have B0 : Aside _ := And.intro hB0 hc0
    clear hB0 hc0 r3 p3 f3 r4 p4 f4 K8 K9 K1 k0
    go_loopg [20, 8] n (fun gh s20 _ wr => ∃ (k : Nat) (d : Ds) (r : Rs), n - k ≤ gh ∧ k ≤ n ∧ s20 = .int .i64 (k : Int) ∧ Below w.heap.size w wr ∧ Both wr w.heap.size b c d r ∧ r.count ≤ 60 * k)
    case atStart => exact ⟨0, d0, r0, by omega, by omega, rfl, hb4, B0.out.1, by rw [B0.out.2]; omega⟩
    case round =>
      obtain ⟨k, d, r, hgh, hk, rfl, hb, hB, hct⟩ := hrel
      by_cases hlt : k < n
      · have q3 : decide (k < n) = true := by simpa using hlt
        rcases H.out with h0 | ⟨g, o, rfl, hc⟩
        · omega
        obtain ⟨⟨a0, a1, a2, a3, a4, a5⟩, r1, r2, r3⟩ := hc k hlt
        have c0 := cell_below a0 hb
        have c1 := cell_below a1 hb
        have c2 := cell_below a2 hb
        have c3 := cell_below a3 hb
        have c4 := cell_below a4 hb
        have c5 := cell_below a5 hb
        obtain ⟨s1, s2⟩ := SZ.out k hlt
        have hBa := hB.below ((Below.refl _ _).alloc (Nat.le_refl _) (.cells (X k).cells 30))
        have hba := hb.alloc hb.size (.cells (X k).cells 30)
        have K10 := do_any hBa (X k) r1 r2 (by omega) s2 s1 r3
        have K11 : Aside (∀ (u : World) (d' : Ds) (r' : Rs), Both u w.heap.size b c d' r' → r'.count ≤ r.count + 60 → Calls Try.prog 11 #[.pointer (some ⟨b, 0, none⟩), .pointer (some ⟨c, 0, none⟩)] u fun e w' => e = .returned (.bool true) ∧ Below u.heap.size u w') := fun u d' r' hu hcc => same_any hu (by omega)
        have PP : Aside _ := And.intro hBa hba
        clear a0 a1 a2 a3 a4 a5 hc hB hBa hba hb r1 r2 r3 s1 s2
        have K10' : Aside _ := K10
        clear K10
        unfold Dd.cells at K10' PP
        generalize X k = x at *
        go_wp2_with (first
          | (go_at_call 10; refine Calls.mono K10'.out ?_; rintro e w5 ⟨rfl, hD⟩; obtain ⟨d', r', hB5, hc5, hb5⟩ := hD.below PP.out.1; clear K10')
          | (go_at_call 11; refine (K11.out _ _ _ hB5 hc5).mono ?_; rintro e w6 ⟨rfl, hb6⟩))
        have hbw : Below w.heap.size w w5 := PP.out.2.trans hb5
        go_roundg (n - (k + 1))
        case measure => omega
        case rel => exact ⟨k + 1, d', r', Nat.le_refl _, by omega, by go_num, hbw.trans (hb6.mono hbw.size), hB5.below hb6, by omega⟩
      · obtain rfl : k = n := by omega
        have q3 : decide (k < k) = false := by simp
        go_wp2
        go_ret
        exact ⟨rfl, hb⟩
end Go.Proofs.Ytcapgcdflahbkaa

/-
  What a crash leaves, as plain data.
-/
namespace Go.Proofs.Ytcapgcdflahbkaa
open Go.RowKit

/-- How many bytes of a file last that weren't sure. -/
def cntOf (s : St) (last : Int) (n : ByteArray) : Nat := ((flat s.pieces).take last.toNat).countP fun x => decide (cmp x n = 0)

theorem crash_files (s : St) (last : Int) : (opCrash s last).files = s.files.map fun f => ⟨f.name, f.bytes.take (f.sure + cntOf s last f.name), f.sure + cntOf s last f.name⟩ := by
  show cutAll (lasts s.files s.pieces last.toNat) = _
  unfold cutAll
  rw [lasts_flat, List.map_map]
  rfl

theorem crash_le {s : St} (ok : Ok s) (last : Int) {f : F} (hf : f ∈ s.files) : f.sure + cntOf s last f.name ≤ f.bytes.length := by
  have h1 := ok.waits f hf
  have h2 : cntOf s last f.name ≤ wait f.name s.pieces := by
    rw [← flat_count]
    exact (List.take_sublist _ _).countP_le
  omega

theorem crash_twice (s : St) (last : Int) : opCrash (opCrash s last) last = opCrash s last := by
  have e : cutAll (cutAll (lasts s.files s.pieces last.toNat)) = cutAll (lasts s.files s.pieces last.toNat) := by
    unfold cutAll
    rw [List.map_map]
    apply List.map_congr_left
    intro f _
    simp [List.take_take]
  show (⟨cutAll (cutAll (lasts s.files s.pieces last.toNat)), [], s.room, false, 0, false⟩ : St) = ⟨cutAll (lasts s.files s.pieces last.toNat), [], s.room, false, 0, false⟩
  rw [e]

theorem sum_count (l : List ByteArray) (hn : l.Nodup) : ∀ xs : List ByteArray, (∀ x ∈ xs, x ∈ l) → (l.map fun n => xs.countP fun x => decide (cmp x n = 0)).sum = xs.length
  | [], _ => sum_zero l _ fun _ _ => rfl
  | x :: r, h => by
    have ih := sum_count l hn r fun y hy => h y (List.mem_cons_of_mem _ hy)
    have e : ∀ n, (x :: r).countP (fun y => decide (cmp y n = 0)) = (if cmp x n = 0 then 1 else 0) + r.countP fun y => decide (cmp y n = 0) := fun n => by
      rw [List.countP_cons]
      by_cases hx : cmp x n = 0 <;> simp [hx] <;> omega
    simp only [e, sum_add_map]
    rw [ih, sum_hit l hn x 1 (h x List.mem_cons_self), List.length_cons]
    omega

theorem flat_length : ∀ ps : List Pc, (flat ps).length = (ps.map Pc.size).sum
  | [] => rfl
  | p :: r => by
    have ih := flat_length r
    unfold flat at ih ⊢
    rw [List.flatMap_cons, List.length_append, List.length_replicate, ih, List.map_cons, List.sum_cons]

theorem crash_total {s : St} (ok : Ok s) (last : Int) : (opCrash s last).total = (s.files.map F.sure).sum + min last.toNat s.late := by
  unfold St.total
  rw [crash_files, List.map_map]
  have e1 : s.files.map ((fun f => f.bytes.length) ∘ fun f => (⟨f.name, f.bytes.take (f.sure + cntOf s last f.name), f.sure + cntOf s last f.name⟩ : F)) = s.files.map fun f => f.sure + cntOf s last f.name := by
    apply List.map_congr_left
    intro f hf
    show (f.bytes.take (f.sure + cntOf s last f.name)).length = _
    rw [List.length_take]
    have := crash_le ok last hf
    omega
  rw [e1, sum_add_map]
  congr 1
  have e2 : (s.files.map fun f => cntOf s last f.name) = s.names.map fun n => cntOf s last n := by
    unfold St.names
    rw [List.map_map]
    rfl
  rw [e2]
  have hmem : ∀ x ∈ (flat s.pieces).take last.toNat, x ∈ s.names := fun x hx => by
    obtain ⟨p, hp, hxp⟩ := List.mem_flatMap.1 (List.mem_of_mem_take hx)
    rw [List.eq_of_mem_replicate hxp]
    exact ok.named p hp
  have := sum_count s.names ok.rising.nodup _ hmem
  unfold cntOf
  rw [this, List.length_take, flat_length]
  rfl

theorem crash_names (s : St) (last : Int) : (opCrash s last).names = s.names := by
  unfold St.names
  rw [crash_files, List.map_map]
  rfl

/-- What is asked of one file. -/
theorem ask_at {s : St} (ok : Ok s) {i : Nat} {f : F} (hf : s.files[i]? = some f) : s.names[i]? = some f.name ∧ opRead s f.name = (⟨f.bytes.toArray⟩, 0) ∧ opSure s f.name = f.sure := by
  have hnt : s.names[i]? = some f.name := by
    show (s.files.map F.name)[i]? = _
    rw [List.getElem?_map, hf]
    rfl
  have hl2 : i < s.names.length := (List.getElem?_eq_some_iff.1 hnt).1
  have hnt' : s.names[i]! = f.name := by
    rw [getElem!_pos s.names i hl2]
    rw [List.getElem?_eq_getElem hl2] at hnt
    exact Option.some.inj hnt
  have hpl : place s.names f.name = i := by
    have := place_at ok.rising i hl2
    rwa [hnt'] at this
  have hh : has s.names f.name = true := has_iff.2 (List.mem_of_getElem? hnt)
  refine ⟨hnt, ?_, ?_⟩
  · unfold opRead St.bytesOf
    rw [hh, hpl, hf]
    rfl
  · unfold opSure St.sureOf
    rw [hh, hpl, hf]
    rfl

/-- The same, behind the crash. -/
theorem ask_crashed {s : St} (ok : Ok s) (last : Int) {i : Nat} {f : F} (hf : s.files[i]? = some f) : ∃ m, m ≤ f.bytes.length ∧ f.sure ≤ m ∧ opRead (opCrash s last) f.name = (⟨(f.bytes.take m).toArray⟩, 0) ∧ opSure (opCrash s last) f.name = m := by
  have h2 : (opCrash s last).files[i]? = some ⟨f.name, f.bytes.take (f.sure + cntOf s last f.name), f.sure + cntOf s last f.name⟩ := by
    rw [crash_files, List.getElem?_map, hf]
    rfl
  obtain ⟨_, a, b⟩ := ask_at (ok.opCrash last) h2
  exact ⟨f.sure + cntOf s last f.name, crash_le ok last (List.mem_of_getElem? hf), Nat.le_add_right _ _, a, b⟩
end Go.Proofs.Ytcapgcdflahbkaa

/-
  DiskCrashes' own walk.
-/
namespace Go.Proofs.Ytcapgcdflahbkaa
open Go.RowKit

theorem own_below' {w w' : World} {base : Nat} {e : TypeId} {size : Nat} {v : Value} {n : Nat} {xs : List Value} (h : w.ownsRow base e size v n xs) (hb : Below w.heap.size w w') : w'.ownsRow base e size v n xs := own_frame h fun k hk => hb.block k (h.lt k hk).2

def textsOf (s : St) : List ByteArray := s.files.map fun f => ⟨f.bytes.toArray⟩
def suresOf (s : St) : List Nat := s.files.map F.sure

/-- The lists that the law makes, of the first k files. -/
structure Lists (w5 : World) (v9 v10 : Value) (s : St) (k : Nat) (w : World) : Prop where
  o9 : w.ownsRow w5.heap.size 9 1 v9 k (scells ((textsOf s).take k))
  o10 : w.ownsRow w5.heap.size 3 1 v10 k (lcells ((suresOf s).take k))
  ne : ∀ j, v9.ownBlock = some j → v10.ownBlock ≠ some j
  bel : Below w5.heap.size w5 w

theorem kept_of' {v1 v2 : Value} (h : ∀ k, v1.ownBlock = some k → v2.ownBlock ≠ some k) : v2.ownBlock = none ∨ v2.ownBlock ≠ v1.ownBlock := by
  cases h1 : v2.ownBlock with
  | none => exact .inl rfl
  | some k =>
    refine .inr fun e => ?_
    exact h k e.symm h1

theorem texts_next {s : St} {k : Nat} {f : F} (hf : s.files[k]? = some f) : scells ((textsOf s).take (k + 1)) = scells ((textsOf s).take k) ++ [.string ⟨f.bytes.toArray⟩] := by
  unfold textsOf
  rw [List.take_add_one, List.getElem?_map, hf]
  simp [scells]
theorem sures_next {s : St} {k : Nat} {f : F} (hf : s.files[k]? = some f) : lcells ((suresOf s).take (k + 1)) = lcells ((suresOf s).take k) ++ [.int .i64 (f.sure : Int)] := by
  unfold suresOf
  rw [List.take_add_one, List.getElem?_map, hf]
  simp [lcells]
theorem sures_sum {s : St} {k : Nat} {f : F} (hf : s.files[k]? = some f) : ((suresOf s).take (k + 1)).sum = ((suresOf s).take k).sum + f.sure := by
  unfold suresOf
  rw [List.take_add_one, List.getElem?_map, hf]
  simp
theorem sures_le {s : St} (ok : Ok s) (k : Nat) : ((suresOf s).take k).sum ≤ 60000 := by
  have h1 : ((suresOf s).take k).sum ≤ (suresOf s).sum := sum_sub (List.take_sublist _ _)
  have h2 : (suresOf s).sum ≤ s.total := sum_le_map _ _ _ fun f hf => ok.sure hf
  have := ok.used
  omega

theorem row_step {w w' : World} {base : Nat} {e : TypeId} {size : Nat} {v : Value} {n : Nat} {xs : List Value} {fo fo' : List Nat} (h : w.ownsRow base e size v n xs) (hs : Step fo fo' w w') (hn : ∀ k, v.ownBlock = some k → k ∉ fo) : w'.ownsRow base e size v n xs ∧ ∀ k, v.ownBlock = some k → k ∉ fo' :=
  ⟨own_frame h fun k hk => hs.block k (h.lt k hk).2 (hn k hk), fun k hk hm => by
    rcases hs.sub k hm with e | e
    · exact hn k hk e
    · have := (h.lt k hk).2
      omega⟩

theorem get_file {d : Ds} {k : Nat} (h : k < d.names.length) : ∃ f, d.pl.files[k]? = some f := by
  have hl : k < d.pl.files.length := by simpa [Ds.pl, Ds.names] using h
  exact ⟨_, List.getElem?_eq_getElem hl⟩

theorem cut_text {l : List UInt8} {m : Nat} (h : m ≤ l.length) : (ByteArray.mk l.toArray).extract 0 m = ⟨(l.take m).toArray⟩ ∧ (ByteArray.mk l.toArray).size = l.length ∧ (ByteArray.mk (l.take m).toArray).size = m := by
  refine ⟨?_, by simp [ByteArray.size], by simp [ByteArray.size]; omega⟩
  rw [Lib.extract_eq]
  simp

set_option maxHeartbeats 4000000 in
set_option maxRecDepth 1000000 in
theorem crashes_big (ad : Option Addr) (n cap : Nat) (X : Nat → Dd) (last : Int) (w : World) (h : Deeds w ad n X) (hsm : smallOf n X = true) (hlast : last ≤ 9223372036854775807) :
    Calls Try.prog 4 #[.slice ad n cap, .int .i64 last] w fun e w' => e = .returned (.bool true) ∧ Below w.heap.size w w' := by
  have k0 := awake_any w
  have H : Aside (Deeds w ad n X) := h
  have K1 : Aside (∀ u, Below w.heap.size w u → Calls Try.prog 7 #[.slice ad n cap] u fun e w' => e = .returned (.bool true) ∧ Below u.heap.size u w') := fun u hu => by
    have := small_any ad n cap X u (H.out.below hu)
    rwa [hsm] at this
  clear h
  obtain ⟨hn, hsz⟩ := small_iff.1 hsm
  have SZ : Aside (∀ i, i < n → (X i).s.size ≤ 60 ∧ (X i).name.size ≤ 60) := hsz
  have K8 : Aside (∀ u : World, w.heap.size ≤ u.heap.size → _) := fun (u : World) (hu : w.heap.size ≤ u.heap.size) => new_any 5000 u w.heap.size hu
  have K9 : Aside (∀ u : World, w.heap.size ≤ u.heap.size → _) := fun (u : World) (hu : w.heap.size ≤ u.heap.size) => rnew_any 5000 u w.heap.size hu
  clear hsz hsm
  go_enter Try.func4, Try.ntmps4
  go_wp2_with (first
    | (go_at_call 6; refine k0.mono ?_; rintro e w1 ⟨rfl, hb1⟩)
    | (go_at_call 7; refine (K1.out _ hb1).mono ?_; rintro e w2 ⟨rfl, hb2⟩; replace hb2 := hb1.trans (hb2.mono hb1.size))
    | (go_at_call 8; refine (K8.out _ hb2.size).mono ?_; rintro e w3 ⟨b, d0, rfl, r3, p3, f3, hb3⟩; replace hb3 := hb2.trans (hb3.mono hb2.size))
    | (go_at_call 9; refine (K9.out _ hb3.size).mono ?_; rintro e w4 ⟨c, r0, rfl, r4, p4, f4, hb4⟩; obtain ⟨hB0, hc0⟩ := both_new r3 p3 r4 p4 f4 hb4; replace hb4 := hb3.trans (hb4.mono hb3.size)))
  have B0 : Aside _ := And.intro hB0 hc0
  clear hB0 hc0 r3 p3 f3 r4 p4 f4 K8 K9 K1 k0
  go_loopg [31, 8] n (fun gh s31 _ wr => ∃ (k : Nat) (d : Ds) (r : Rs), n - k ≤ gh ∧ k ≤ n ∧ s31 = .int .i64 (k : Int) ∧ Below w.heap.size w wr ∧ Both wr w.heap.size b c d r ∧ r.count ≤ 60 * k)
  case atStart => exact ⟨0, d0, r0, by omega, by omega, rfl, hb4, B0.out.1, by rw [B0.out.2]; omega⟩
  case round =>
    obtain ⟨k, d, r, hgh, hk, rfl, hb, hB, hct⟩ := hrel
    by_cases hlt : k < n
    · have q3 : decide (k < n) = true := by simpa using hlt
      rcases H.out with h0 | ⟨g, o, rfl, hc⟩
      · omega
      obtain ⟨⟨a0, a1, a2, a3, a4, a5⟩, r1, r2, r3⟩ := hc k hlt
      have c0 := cell_below a0 hb
      have c1 := cell_below a1 hb
      have c2 := cell_below a2 hb
      have c3 := cell_below a3 hb
      have c4 := cell_below a4 hb
      have c5 := cell_below a5 hb
      obtain ⟨s1, s2⟩ := SZ.out k hlt
      have hBa := hB.below ((Below.refl _ _).alloc (Nat.le_refl _) (.cells (X k).cells 30))
      have hba := hb.alloc hb.size (.cells (X k).cells 30)
      have K10 := do_any hBa (X k) r1 r2 (by omega) s2 s1 r3
      have PP : Aside _ := And.intro hBa hba
      clear a0 a1 a2 a3 a4 a5 hc hB hBa hba hb r1 r2 r3 s1 s2
      have K10' : Aside _ := K10
      clear K10
      unfold Dd.cells at K10' PP
      generalize X k = x at *
      go_wp2_with (go_at_call 10; refine Calls.mono K10'.out ?_; rintro e w5 ⟨rfl, hD⟩; obtain ⟨d', r', hB5, hc5, hb5⟩ := hD.below PP.out.1; clear K10')
      have hbw : Below w.heap.size w w5 := PP.out.2.trans hb5
      go_roundg (n - (k + 1))
      case measure => omega
      case rel => exact ⟨k + 1, d', r', Nat.le_refl _, by omega, by go_num, hbw, hB5, by omega⟩
    · obtain rfl : k = n := by omega
      have q3 : decide (k < k) = false := by simp
      have hR := hB.rep
      have hok := hB.ok
      clear hB hct SZ H B0
      have kn := names_any hR hok
      have K13 : Aside (∀ (u : World) (d' : Ds), Rep u w.heap.size b d' → Ok d'.pl → Calls Try.prog 13 #[.pointer (some ⟨b, 0, none⟩)] u fun e w' => e = .returned (.int .i64 (d'.pl.late : Nat)) ∧ Below u.heap.size u w') := fun u d' hu ho => waits_any hu ho
      have K14 : Aside (∀ (n : ByteArray) (u : World) (d' : Ds), Rep u w.heap.size b d' → Ok d'.pl → Calls Try.prog 14 #[.pointer (some ⟨b, 0, none⟩), .string n] u fun e w' => e = .returned (.tuple #[.string (opRead d'.pl n).1, .int .i64 (opRead d'.pl n).2]) ∧ Below u.heap.size u w') := fun n u d' hu ho => read_any hu ho n
      have K15 : Aside (∀ (n : ByteArray) (u : World) (d' : Ds), Rep u w.heap.size b d' → Ok d'.pl → Calls Try.prog 15 #[.pointer (some ⟨b, 0, none⟩), .string n] u fun e w' => e = .returned (.int .i64 (opSure d'.pl n : Nat)) ∧ Below u.heap.size u w') := fun n u d' hu ho => sure_any hu ho n
      have K16 : Aside (∀ (u : World) (d' : Ds), Rep u w.heap.size b d' → Ok d'.pl → Calls Try.prog 16 #[.pointer (some ⟨b, 0, none⟩), .int .i64 last] u fun e w' => e = .returned (.tuple #[]) ∧ ∃ d'', Rep w' w.heap.size b d'' ∧ d''.pl = opCrash d'.pl last ∧ Step (d'.foot b) (d''.foot b) u w') := fun u d' hu ho => crash_any hu ho last hlast
      have OK : Aside (Ok d.pl) := hok
      have hfew : d.names.length ≤ 16 := by
        have := hok.few
        simpa [Ds.pl, Ds.names] using this
      have hlate : d.pl.late ≤ 60000 := by
        have h1 := hok.sum
        have h2 := hok.used
        have e : d.pl.late = (d.pl.pieces.map Pc.size).sum := rfl
        omega
      go_wp2_with (first
        | (go_at_call 12; refine kn.mono ?_; rintro e w5 ⟨v, rfl, ho, hb5⟩; obtain ⟨av, cv, ev⟩ := own_any ho; subst ev; clear kn)
        | (go_at_call 13; refine (K13.out _ d (hR.below hb5) OK.out).mono ?_; rintro e w6 ⟨rfl, hb6⟩))
      have hW : Below wr.heap.size wr w6 := hb5.trans (hb6.mono hb5.size)
      have hR6 := hR.below hW
      have ho6 := own_below' ho hb6
      have hw6 : Below w.heap.size w w6 := hb.trans (hW.mono hb.size)
      have NF : Aside (∀ k, Value.ownBlock (.slice av d.names.length cv) = some k → k ∉ d.foot b) := fun k hk hm => by
        have h1 := (hR.lt k hm).2
        have h2 := (ho.lt k hk).1
        omega
      have R6 : Aside _ := And.intro hR6 (And.intro ho6 hw6)
      clear hR ho hb5 hb6 hb hW hR6 ho6 hw6 hok
      obtain ⟨i9, hi9, hz9, hs9, hy9⟩ := info_parts info9
      obtain ⟨i3, hi3, hz3, hs3, hy3⟩ := info_parts info3
      go_loopg [46, 9, 10, 12, 15, 16, 17] d.names.length (fun gh s46 v9 v10 s12 _ _ _ wq => ∃ j : Nat, d.names.length - j ≤ gh ∧ j ≤ d.names.length ∧ s46 = .int .i64 (j : Int) ∧ s12 = .int .i64 (((suresOf d.pl).take j).sum : Nat) ∧ Lists w6 v9 v10 d.pl j wq)
      case atStart => exact ⟨0, by omega, by omega, rfl, rfl, ⟨World.ownsRow_nil _ _ _ _, World.ownsRow_nil _ _ _ _, fun k h => (by cases h), Below.refl _ _⟩⟩
      case round =>
        obtain ⟨j, hgj, hj, rfl, rfl, ⟨o9, o10, hne, hbel⟩⟩ := hrel
        by_cases hjl : j < d.names.length
        · have q4 : decide (j < d.names.length) = true := by simpa using hjl
          obtain ⟨f, hf⟩ := get_file hjl
          obtain ⟨n1, n2, n3⟩ := ask_at OK.out hf
          rw [names_pl] at n1
          obtain ⟨ln, cvv, e1, _, _, hln⟩ := own_form R6.out.2.1 (by omega)
          injection e1 with e1 e2 e3
          subst e1 e3
          clear e2
          have hkl : (scells d.names)[j]? = some (.string f.name) := by unfold scells; rw [List.getElem?_map, n1]; rfl
          have zl := cell_below (own_cell R6.out.2.1 hln hkl) hbel
          have k14 : Aside (∀ u : World, Below w6.heap.size w6 u → _) := fun (u : World) hu => K14.out f.name u d (R6.out.1.below hu) OK.out
          have k15 : Aside (∀ u : World, Below w6.heap.size w6 u → _) := fun (u : World) hu => K15.out f.name u d (R6.out.1.below hu) OK.out
          rw [n2] at k14
          rw [n3] at k15
          have hsum := sures_sum hf
          have hsl := sures_le OK.out (j + 1)
          have t1 := texts_next hf
          have t2 := sures_next hf
          generalize ((suresOf d.pl).take j).sum = SM at *
          have HT : Aside _ := And.intro t1 (And.intro t2 hsum)
          have hsm2 : SM + f.sure ≤ 60000 := by omega
          clear t1 t2 hsum hsl hkl hln n1 n2 n3 hf
          generalize (ByteArray.mk f.bytes.toArray) = S at *
          generalize f.sure = SU at *
          generalize f.name = NM at *
          have hsz := hbel.size
          go_wp2_with (first
            | (go_at_call 14; refine (k14.out _ hbel).mono ?_; rintro e w7 ⟨rfl, hb7⟩; have p9 := own_below' o9 hb7; have p10 := own_below' o10 hb7; have bel7 := hbel.trans (hb7.mono hbel.size); have hsz7 := bel7.size)
            | (at_builtin; refine wpList_append_own_at _ rfl (.tmp 56) (.tmp 58) 34 rfl w6.heap.size 9 i9 (.string ⟨#[]⟩) 1 16 Try.underlying34 hi9 hz9 hs9 hy9 rfl (by decide) _ _ _ rfl (p9.alloc _) ⟨_, 0, none⟩ 1 1 [.string S] rfl rfl ?c1 ?c2 ?c3 ?c4 ?c5 ?_))
          case c1 => exact (cell_one_new _ _ _)
          case c2 => intro u hu; simp at hu; subst hu; rfl
          case c3 => unfold maxLen; omega
          case c4 => omega
          case c5 => simp; omega
          intro v9' w8 hown9 hgrow9 _ hloc9
          have q10 := (p10.alloc (.cells #[.string S] 9)).kept hgrow9 (kept_of' hne)
          have bel8 : Below w6.heap.size w6 w8 := (bel7.alloc bel7.size (.cells #[.string S] 9)).grown hgrow9 (by simp; omega) (fun k hk => (p9.lt k hk).1)
          have far : ∀ j, v9'.ownBlock = some j → u10.ownBlock ≠ some j := by
            intro j hj hj5
            have h5 := (p10.lt j hj5).2
            rcases hloc9 with h | h
            · exact hne j (h ▸ hj) hj5
            · rw [h] at hj
              have := Option.some.inj hj
              omega
          have FAR : Aside _ := far
          clear far hloc9 p9 p10 o9 o10 hne
          go_wp2_with (first
            | (go_at_call 15; refine (k15.out _ bel8).mono ?_; rintro e w9 ⟨rfl, hb9⟩; have p9 := own_below' hown9 hb9; have p10 := own_below' q10 hb9; have bel9 := bel8.trans (hb9.mono bel8.size); have hsz9 := bel9.size)
            | (at_builtin; refine wpList_append_own_at _ rfl (.tmp 60) (.tmp 64) 35 rfl w6.heap.size 3 i3 (.int .i64 0) 1 8 Try.underlying35 hi3 hz3 hs3 hy3 rfl (by decide) _ _ _ rfl (p10.alloc _) ⟨_, 0, none⟩ 1 1 [.int .i64 (SU : Int)] rfl rfl ?c1 ?c2 ?c3 ?c4 ?c5 ?_))
          case c1 => exact (cell_one_new _ _ _)
          case c2 => intro u hu; simp at hu; subst hu; rfl
          case c3 => unfold maxLen; omega
          case c4 => omega
          case c5 => simp; omega
          intro v10' wA hown10 hgrow10 _ hloc10
          have belA : Below w6.heap.size w6 wA := (bel9.alloc bel9.size (.cells #[.int .i64 (SU : Int)] 3)).grown hgrow10 (by simp; omega) (fun k hk => (p10.lt k hk).1)
          have r9 := (p9.alloc (.cells #[.int .i64 (SU : Int)] 3)).kept hgrow10 (kept_of' fun j h10 h9 => FAR.out j h9 h10)
          have NE : Aside (∀ j, v9'.ownBlock = some j → v10'.ownBlock ≠ some j) := fun j hj hj10 => by
            have h9 := (p9.lt j hj).2
            rcases hloc10 with h | h
            · exact FAR.out j hj (h ▸ hj10)
            · rw [h] at hj10
              have := Option.some.inj hj10
              omega
          clear FAR hloc10
          go_wp2_with (go_at_call 15; refine (k15.out _ belA).mono ?_; rintro e wB ⟨rfl, hbB⟩)
          have LL : Aside (Lists w6 v9' v10' d.pl (j + 1) wB) := by
            obtain ⟨t1, t2, _⟩ := HT.out
            refine ⟨?_, ?_, NE.out, belA.trans (hbB.mono belA.size)⟩
            · rw [t1]
              exact own_below' r9 hbB
            · rw [t2]
              exact own_below' hown10 hbB
          clear r9 hown10 belA
          go_roundg (d.names.length - (j + 1))
          case measure => omega
          case rel => exact ⟨j + 1, Nat.le_refl _, by omega, by go_num, by rw [HT.out.2.2]; go_num, LL.out⟩
        · obtain rfl : j = d.names.length := by omega
          have q4 : decide (d.names.length < d.names.length) = false := by simp
          have hnl : d.pl.files.length = d.names.length := by simp [Ds.pl, Ds.names]
          have tl1 : (textsOf d.pl).take d.names.length = textsOf d.pl := List.take_of_length_le (by simp [textsOf, hnl])
          have tl2 : (suresOf d.pl).take d.names.length = suresOf d.pl := List.take_of_length_le (by simp [suresOf, hnl])
          rw [tl1] at o9
          rw [tl2] at o10 ⊢
          have hsl : (suresOf d.pl).sum ≤ 60000 := by have := sures_le OK.out d.names.length; rwa [tl2] at this
          have hR7 := R6.out.1.below hbel
          have ho7 := own_below' R6.out.2.1 hbel
          have hw7 : Below w.heap.size w wr := R6.out.2.2.trans (hbel.mono R6.out.2.2.size)
          have N9 : ∀ k, u9.ownBlock = some k → k ∉ d.foot b := fun k hk hm => by
            have h1 := (R6.out.1.lt k hm).2
            have h2 := (o9.lt k hk).1
            omega
          have N10 : ∀ k, u10.ownBlock = some k → k ∉ d.foot b := fun k hk hm => by
            have h1 := (R6.out.1.lt k hm).2
            have h2 := (o10.lt k hk).1
            omega
          have hlo : w.heap.size ≤ wr.heap.size := hw7.size
          have RR : Aside _ := And.intro hR7 (And.intro ho7 (And.intro o9 (And.intro o10 (And.intro N9 (And.intro N10 hw7)))))
          clear tl1 tl2 R6 hbel hne ho7 o9 o10 N9 N10 hw7 hnl
          go_wp2_with (first
            | (go_at_call 16; refine (K16.out _ d hR7 OK.out).mono ?_; rintro e wC ⟨rfl, d2, hRC, pC, sC⟩; clear hR7; have okC : Ok d2.pl := by rw [pC]; exact OK.out.opCrash last)
            | (go_at_call 16; refine (K16.out _ d2 hRC okC).mono ?_; rintro e wD ⟨rfl, d3, hRD, pD, sD⟩; clear K16))
          have pE : d3.pl = opCrash d.pl last := by rw [pD, pC, crash_twice]
          have okD : Ok d3.pl := by rw [pE]; exact OK.out.opCrash last
          obtain ⟨hR7, ho7, o9, o10, N9, N10, hw7⟩ := RR.out
          obtain ⟨ho8, NF8⟩ := row_step ho7 sC NF.out
          obtain ⟨hoD, _⟩ := row_step ho8 sD NF8
          obtain ⟨a9, b9⟩ := row_step o9 sC N9
          obtain ⟨o9D, _⟩ := row_step a9 sD b9
          obtain ⟨a10, b10⟩ := row_step o10 sC N10
          obtain ⟨o10D, _⟩ := row_step a10 sD b10
          have hsC : Below w.heap.size wr wC := sC.below (fun k hk => (hR7.lt k hk).1) hlo
          have hsD : Below w.heap.size wC wD := sD.below (fun k hk => (hRC.lt k hk).1) (Nat.le_trans hlo sC.size)
          have hwD : Below w.heap.size w wD := (hw7.trans hsC).trans hsD
          have hnm : d3.names = d.names := by rw [← names_pl, pE, crash_names, names_pl]
          have kn := names_any hRD okD
          rw [hnm] at kn
          have K17 : Aside (∀ u : World, Below wD.heap.size wD u → Calls Try.prog 17 #[.pointer (some ⟨b, 0, none⟩)] u fun e w' => e = .returned (.int .i64 (d3.pl.total : Nat)) ∧ Below u.heap.size u w') := fun u hu => used_any (hRD.below hu) okD
          have K13' : Aside (∀ u : World, Below wD.heap.size wD u → Calls Try.prog 13 #[.pointer (some ⟨b, 0, none⟩)] u fun e w' => e = .returned (.int .i64 0) ∧ Below u.heap.size u w') := fun u hu => by
            have := waits_any (hRD.below hu) okD
            rwa [show d3.pl.late = 0 by rw [pE]; rfl] at this
          have K18 : Aside (∀ u : World, Below wD.heap.size wD u → Calls Try.prog 18 #[.pointer (some ⟨b, 0, none⟩)] u fun e w' => e = .returned (.bool false) ∧ Below u.heap.size u w') := fun u hu => by
            have := down_any (hRD.below hu)
            rw [show d3.pl.down = false by rw [pE]; rfl] at this
            exact this.mono fun e w' ⟨a, b⟩ => ⟨a, b ▸ Below.refl _ _⟩
          have K14' : Aside (∀ (n : ByteArray) (u : World), Below wD.heap.size wD u → Calls Try.prog 14 #[.pointer (some ⟨b, 0, none⟩), .string n] u fun e w' => e = .returned (.tuple #[.string (opRead (opCrash d.pl last) n).1, .int .i64 (opRead (opCrash d.pl last) n).2]) ∧ Below u.heap.size u w') := fun n u hu => by
            have := read_any (hRD.below hu) okD n
            rwa [pE] at this
          have K15' : Aside (∀ (n : ByteArray) (u : World), Below wD.heap.size wD u → Calls Try.prog 15 #[.pointer (some ⟨b, 0, none⟩), .string n] u fun e w' => e = .returned (.int .i64 (opSure (opCrash d.pl last) n : Nat)) ∧ Below u.heap.size u w') := fun n u hu => by
            have := sure_any (hRD.below hu) okD n
            rwa [pE] at this
          have hU : (d3.pl.total : Int) = ((suresOf d.pl).sum : Int) + min (max last 0) (d.pl.late : Int) := by
            have : d3.pl.total = (suresOf d.pl).sum + min last.toNat d.pl.late := by rw [pE, crash_total OK.out]; rfl
            omega
          have DD : Aside _ := And.intro hoD (And.intro o9D (And.intro o10D hwD))
          clear RR pC pD sC sD hRC okC hRD okD pE hR7 ho7 o9 o10 N9 N10 hw7 ho8 NF8 hoD a9 b9 o9D a10 b10 o10D hsC hsD hwD hnm NF K13 K14 K15
          generalize d3.pl.total = TT at *
          generalize (suresOf d.pl).sum = SM at *
          generalize d.pl.late = LT at *
          have qU : ((TT : Int) == (SM : Int) + min (max last 0) (LT : Int)) = true := by rw [hU]; exact beq_self_eq_true _
          have qN : ((d.names.length : Int) == (d.names.length : Int)) = true := beq_self_eq_true _
          have qN' : ((d.names.length : Int) != (d.names.length : Int)) = false := by unfold bne; rw [qN]; rfl
          have qN2 : (d.names.length == d.names.length) = true := beq_self_eq_true _
          go_wp2_with (first
            | (go_at_call 12; refine kn.mono ?_; rintro e wE ⟨v', rfl, hoE, hbE⟩; obtain ⟨avE, cvE, evE⟩ := own_any hoE; subst evE; clear kn)
            | (go_at_call 17; refine (K17.out _ hbE).mono ?_; rintro e wF ⟨rfl, hbF⟩; replace hbF := hbE.trans (hbF.mono hbE.size))
            | (go_at_call 13; refine (K13'.out _ hbF).mono ?_; rintro e wG ⟨rfl, hbG⟩; replace hbG := hbF.trans (hbG.mono hbF.size))
            | (go_at_call 18; refine (K18.out _ hbG).mono ?_; rintro e wH ⟨rfl, hbH⟩; replace hbH := hbG.trans (hbH.mono hbG.size)))
          clear hbE hbF hbG hoE K17 K13' K18 qU hU qN qN' qN2
          go_loopg [106, 18, 19, 20, 21] d.names.length (fun gh s106 _ _ _ _ wq => ∃ i : Nat, d.names.length - i ≤ gh ∧ i ≤ d.names.length ∧ s106 = .int .i64 (i : Int) ∧ Below wD.heap.size wD wq)
          case atStart => exact ⟨0, by omega, by omega, rfl, hbH⟩
          case round =>
            obtain ⟨i, hgi, hi, rfl, hbq⟩ := hrel
            by_cases hil : i < d.names.length
            · have q5 : decide (i < d.names.length) = true := by simpa using hil
              obtain ⟨f, hf⟩ := get_file hil
              obtain ⟨n1, _, _⟩ := ask_at OK.out hf
              rw [names_pl] at n1
              obtain ⟨m, hm1, hm2, hc1, hc2⟩ := ask_crashed OK.out last hf
              obtain ⟨ln, cvv, e1, _, _, hln⟩ := own_form DD.out.1 (by omega)
              obtain ⟨g9, c9, e9, _, _, hg9⟩ := own_form DD.out.2.1 (by omega)
              obtain ⟨g10, c10, e10, _, _, hg10⟩ := own_form DD.out.2.2.1 (by omega)
              have x1 : (scells d.names)[i]? = some (.string f.name) := by unfold scells; rw [List.getElem?_map, n1]; rfl
              have x2 : (scells (textsOf d.pl))[i]? = some (.string ⟨f.bytes.toArray⟩) := by unfold scells textsOf; rw [List.getElem?_map, List.getElem?_map, hf]; rfl
              have x3 : (lcells (suresOf d.pl))[i]? = some (.int .i64 (f.sure : Int)) := by unfold lcells suresOf; rw [List.getElem?_map, List.getElem?_map, hf]; rfl
              have z1 := cell_below (own_cell DD.out.1 hln x1) hbq
              have z2 := cell_below (own_cell DD.out.2.1 hg9 x2) hbq
              have z3 := cell_below (own_cell DD.out.2.2.1 hg10 x3) hbq
              have k14 := K14'.out f.name
              have k15 := K15'.out f.name
              rw [hc1] at k14
              rw [hc2] at k15
              have KK : Aside _ := And.intro k14 k15
              obtain ⟨t1, t2, t3⟩ := cut_text hm1
              injection e1 with e1 e2 e3
              subst e1 e3 e9 e10
              clear e2 hln hg9 hg10 x1 x2 x3 k14 k15 hc1 hc2 n1 hf
              generalize (ByteArray.mk (f.bytes.take m).toArray) = S2 at *
              generalize (ByteArray.mk f.bytes.toArray) = S1 at *
              have p1 : decide ((S2.size : Int) < (f.sure : Int)) = false := decide_eq_false (by omega)
              have p1' : decide ((m : Int) < (f.sure : Int)) = false := decide_eq_false (by omega)
              have p1'' : decide (m < f.sure) = false := decide_eq_false (by omega)
              have p2 : decide ((S1.size : Int) < (S2.size : Int)) = false := decide_eq_false (by omega)
              have p2' : decide ((f.bytes.length : Int) < (m : Int)) = false := decide_eq_false (by omega)
              have p2'' : decide (f.bytes.length < m) = false := decide_eq_false (by omega)
              have p3 : (S2.toList == S2.toList) = true := beq_self_eq_true _
              have p3' : (S2.toList != S2.toList) = false := by unfold bne; rw [p3]; rfl
              have p4 : ((m : Int) == (m : Int)) = true := beq_self_eq_true _
              have p4' : ((m : Int) != (m : Int)) = false := by unfold bne; rw [p4]; rfl
              have p5 : (m == m) = true := beq_self_eq_true _
              have p5' : (m != m) = false := by unfold bne; rw [p5]; rfl
              go_wp2_with (first
                | (go_at_call 14; refine Calls.mono (KK.out.1 _ hbq) ?_; rintro e wJ ⟨rfl, hbJ⟩; have z2J := cell_below z2 hbJ; have z3J := cell_below z3 hbJ; replace hbJ := hbq.trans (hbJ.mono hbq.size))
                | (go_at_call 15; refine Calls.mono (KK.out.2 _ hbJ) ?_; rintro e wL ⟨rfl, hbL⟩; replace hbL := hbJ.trans (hbL.mono hbJ.size)))
              go_roundg (d.names.length - (i + 1))
              case measure => omega
              case rel => exact ⟨i + 1, Nat.le_refl _, by omega, by go_num, hbL⟩
            · obtain rfl : i = d.names.length := by omega
              have q5 : decide (d.names.length < d.names.length) = false := by simp
              go_wp2
              go_ret
              have hwD := DD.out.2.2.2
              exact ⟨rfl, hwD.trans (hbq.mono hwD.size)⟩

theorem crashes_any (ad : Option Addr) (n cap : Nat) (X : Nat → Dd) (last : Int) (w : World) (h : Deeds w ad n X) (hlast : last ≤ 9223372036854775807) :
    Calls Try.prog 4 #[.slice ad n cap, .int .i64 last] w fun e w' => e = .returned (.bool true) ∧ Below w.heap.size w w' := by
  cases hsm : smallOf n X with
  | true => exact crashes_big ad n cap X last w h hsm hlast
  | false =>
    have k0 := awake_any w
    have K1 : Aside (∀ u, Below w.heap.size w u → Calls Try.prog 7 #[.slice ad n cap] u fun e w' => e = .returned (.bool false) ∧ Below u.heap.size u w') := fun u hu => by
      have := small_any ad n cap X u (h.below hu)
      rwa [hsm] at this
    clear h hsm
    go_enter Try.func4, Try.ntmps4
    go_wp2_with (first
      | (go_at_call 6; refine k0.mono ?_; rintro e w1 ⟨rfl, hb1⟩)
      | (go_at_call 7; refine (K1.out _ hb1).mono ?_; rintro e w2 ⟨rfl, hb2⟩))
    go_ret
    exact ⟨rfl, hb1.trans (hb2.mono hb1.size)⟩
end Go.Proofs.Ytcapgcdflahbkaa
