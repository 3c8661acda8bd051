/-
  Ytcapgcdflahbkaa: the texts E6, E7, one behind the other.
-/
import Derived.Test.YtcapgcdflahbkaaG15
import Derived.Deep.Slices
import Derived.ProofKit
import Derived.OpenShut
/-
  Deeds that came in; they are few, with short texts; both disks go through them.
-/
namespace Go.Proofs.Ytcapgcdflahbkaa
open Go.RowKit Go.ChangeShapes Go.WideShapes Go.ChangeAt

/-- A row of deeds in memory. -/
def Deeds (w : World) (ad : Option Addr) (n : Nat) (X : Nat → Dd) : Prop := n = 0 ∨ ∃ g o, ad = some ⟨g, o, none⟩ ∧ ∀ i, i < n → (w.cell? ⟨g, o + i * 6, none⟩ = some (.int .u8 (X i).kind) ∧ w.cell? ⟨g, o + i * 6 + 1, none⟩ = some (.string (X i).name) ∧ w.cell? ⟨g, o + i * 6 + 2, none⟩ = some (.string (X i).s) ∧ w.cell? ⟨g, o + i * 6 + 3, none⟩ = some (.int .i64 (X i).n) ∧ w.cell? ⟨g, o + i * 6 + 4, none⟩ = some (.int .i64 (X i).m) ∧ w.cell? ⟨g, o + i * 6 + 5, none⟩ = some (.int .i64 (X i).by_)) ∧ 0 ≤ (X i).kind ∧ (X i).kind ≤ 255 ∧ (X i).n ≤ 9223372036854775807

theorem Deeds.below {w w' : World} {ad : Option Addr} {n : Nat} {X : Nat → Dd} (h : Deeds w ad n X) (hb : Below w.heap.size w w') : Deeds w' ad n X := by
  rcases h with h | ⟨g, o, e, h⟩
  · exact .inl h
  · refine .inr ⟨g, o, e, fun i hi => ?_⟩
    obtain ⟨⟨a0, a1, a2, a3, a4, a5⟩, r⟩ := h i hi
    exact ⟨⟨cell_below a0 hb, cell_below a1 hb, cell_below a2 hb, cell_below a3 hb, cell_below a4 hb, cell_below a5 hb⟩, r⟩

theorem cells30 : Try.prog.cellsOf 30 = 6 := by kernel_rfl
theorem cells3' : Try.prog.cellsOf 3 = 1 := by kernel_rfl
theorem cells5' : Try.prog.cellsOf 5 = 1 := by kernel_rfl
theorem cells9' : Try.prog.cellsOf 9 = 1 := by kernel_rfl

theorem wf_u8 {z : Int} (h : (Lit.int .u8 z).wf = true) : 0 ≤ z ∧ z ≤ 255 := by
  have h' : (decide (IntKind.u8.min ≤ z) && decide (z ≤ IntKind.u8.max)) = true := h
  rw [Bool.and_eq_true, decide_eq_true_eq, decide_eq_true_eq] at h'
  exact h'
theorem wf_i64 {z : Int} (h : (Lit.int .i64 z).wf = true) : z ≤ 9223372036854775807 := by
  have h' : (decide (IntKind.i64.min ≤ z) && decide (z ≤ IntKind.i64.max)) = true := h
  rw [Bool.and_eq_true, decide_eq_true_eq, decide_eq_true_eq] at h'
  exact h'.2
instance : Inhabited Dd := ⟨⟨0, ⟨#[]⟩, ⟨#[]⟩, 0, 0, 0⟩⟩

set_option maxRecDepth 100000 in
theorem open_deed {H : Type} {enc : TypeId × Value → H} {W : World} {n : Nat} {cs : List Value} {x : DataW H × List MemPlace} (h : DataW.trod enc Try.prog W 0 (fun _ => true) true n 30 cs = some x) : ∃ d : Dd, cs = d.cells.toList ∧ 0 ≤ d.kind ∧ d.kind ≤ 255 ∧ d.n ≤ 9223372036854775807 := by
  obtain ⟨xs, m, _, _, hl, hlen, hfs⟩ := DataW.trod_struct Try.underlying30 h
  rw [cells30] at hl
  have hlen : xs.length = 6 := hlen
  match xs, hlen, cs, hl with
  | [y0, y1, y2, y3, y4, y5], _, [c0, c1, c2, c3, c4, c5], _ =>
    have f0 : DataW.trod enc Try.prog W 0 (fun _ => true) true m 5 (([c0, c1, c2, c3, c4, c5].drop 0).take (Try.prog.cellsOf 5)) = some y0 := hfs 0 _ rfl
    rw [cells5'] at f0
    have f1 : DataW.trod enc Try.prog W 0 (fun _ => true) true m 9 (([c0, c1, c2, c3, c4, c5].drop 1).take (Try.prog.cellsOf 9)) = some y1 := hfs 1 _ rfl
    rw [cells9'] at f1
    have f2 : DataW.trod enc Try.prog W 0 (fun _ => true) true m 9 (([c0, c1, c2, c3, c4, c5].drop 2).take (Try.prog.cellsOf 9)) = some y2 := hfs 2 _ rfl
    rw [cells9'] at f2
    have f3 : DataW.trod enc Try.prog W 0 (fun _ => true) true m 3 (([c0, c1, c2, c3, c4, c5].drop 3).take (Try.prog.cellsOf 3)) = some y3 := hfs 3 _ rfl
    rw [cells3'] at f3
    have f4 : DataW.trod enc Try.prog W 0 (fun _ => true) true m 3 (([c0, c1, c2, c3, c4, c5].drop 4).take (Try.prog.cellsOf 3)) = some y4 := hfs 4 _ rfl
    rw [cells3'] at f4
    have f5 : DataW.trod enc Try.prog W 0 (fun _ => true) true m 3 (([c0, c1, c2, c3, c4, c5].drop 5).take (Try.prog.cellsOf 3)) = some y5 := hfs 5 _ rfl
    rw [cells3'] at f5
    obtain ⟨n0, e0, _, w0⟩ := DataW.trod_int Try.underlying5 f0
    obtain ⟨s1, e1, _, _⟩ := DataW.trod_string Try.underlying9 f1
    obtain ⟨s2, e2, _, _⟩ := DataW.trod_string Try.underlying9 f2
    obtain ⟨n3, e3, _, w3⟩ := DataW.trod_int Try.underlying3 f3
    obtain ⟨n4, e4, _, _⟩ := DataW.trod_int Try.underlying3 f4
    obtain ⟨n5, e5, _, _⟩ := DataW.trod_int Try.underlying3 f5
    simp at e0 e1 e2 e3 e4 e5
    subst e0 e1 e2 e3 e4 e5
    exact ⟨⟨n0, s1, s2, n3, n4, n5⟩, rfl, (wf_u8 w0).1, (wf_u8 w0).2, wf_i64 w3⟩

theorem open_deeds {H : Type} {enc : TypeId × Value → H} {W : World} {ad : Option Addr} {n cap : Nat} {d : DataW H} {p : List MemPlace} (h : DataW.Trod enc Try.prog W 0 (fun _ => true) true 22 (.slice ad n cap) d p) : ∃ X, Deeds W ad n X := by
  obtain ⟨fuel, hf⟩ := h
  rcases Deep.open_slice Try.underlying22 hf with ⟨hcs, _⟩ | ⟨a, len, cap', m, k, D, Pl, hcs, _, hl, _, hm, _, hx⟩
  · simp [Value.cells] at hcs
    obtain ⟨rfl, rfl, rfl⟩ := hcs
    exact ⟨fun _ => default, .inl rfl⟩
  · simp [Value.cells] at hcs
    obtain ⟨rfl, rfl, rfl⟩ := hcs
    have hm' : m = cap := by simpa using hm
    subst hm'
    rw [cells30] at hx
    rcases Nat.eq_zero_or_pos n with h0 | hp
    · exact ⟨fun _ => default, .inl h0⟩
    · have each : ∀ i, i < n → ∃ x : Dd, W.cells? 0 (a.add (i * 6)) 6 = some x.cells.toList ∧ 0 ≤ x.kind ∧ x.kind ≤ 255 ∧ x.n ≤ 9223372036854775807 := fun i hi => by
        obtain ⟨cs', h1, h2⟩ := hx i (by omega)
        obtain ⟨x, e, r⟩ := open_deed h2
        exact ⟨x, by rw [h1, e], r⟩
      obtain ⟨X, hX⟩ := Deep.choose_lt each
      refine ⟨X, .inr ?_⟩
      obtain ⟨g, o, spot⟩ := a
      have hc : ∀ i, i < n → ∀ j, j < 6 → W.cell? ((⟨g, o, spot⟩ : Addr).add (i * 6 + j)) = (X i).cells.toList[j]? := fun i hi j hj => by
        obtain ⟨_, hlen, hcell⟩ := World.cells?_some (hX i hi).1
        have := hcell j hj
        rw [Deep.add_add] at this
        exact this
      have h00 := hc 0 hp 0 (by omega)
      have hspot : spot = none := by simpa [Addr.add] using World.cell?_spot (h00.trans rfl)
      subst hspot
      have hadd : ∀ k, (⟨g, o, none⟩ : Addr).add k = ⟨g, o + k, none⟩ := fun k => by
        unfold Addr.add
        split
        · rename_i e; rw [e]; rfl
        · rfl
      refine ⟨g, o, rfl, fun i hi => ⟨?_, (hX i hi).2⟩⟩
      have e0 := hc i hi 0 (by omega)
      have e1 := hc i hi 1 (by omega)
      have e2 := hc i hi 2 (by omega)
      have e3 := hc i hi 3 (by omega)
      have e4 := hc i hi 4 (by omega)
      have e5 := hc i hi 5 (by omega)
      rw [hadd] at e0 e1 e2 e3 e4 e5
      exact ⟨e0, e1, e2, e3, e4, e5⟩
end Go.Proofs.Ytcapgcdflahbkaa

/-
  Few deeds with short texts; both disks made; DiskRuns' own walk.
-/
namespace Go.Proofs.Ytcapgcdflahbkaa
open Go.RowKit

def short (x : Dd) : Bool := decide (x.s.size ≤ 60) && decide (x.name.size ≤ 60)
def smallOf (n : Nat) (X : Nat → Dd) : Bool := decide (n ≤ 80) && (List.range n).all fun i => short (X i)

theorem small_iff {n : Nat} {X : Nat → Dd} : smallOf n X = true ↔ n ≤ 80 ∧ ∀ i, i < n → (X i).s.size ≤ 60 ∧ (X i).name.size ≤ 60 := by
  simp [smallOf, short, List.all_eq_true]

set_option maxHeartbeats 1600000 in
theorem small_any (ad : Option Addr) (n cap : Nat) (X : Nat → Dd) (w : World) (h : Deeds w ad n X) :
    Calls Try.prog 7 #[.slice ad n cap] w fun e w' => e = .returned (.bool (smallOf n X)) ∧ Below w.heap.size w w' := by
  by_cases h80 : 80 < n
  · have d1 : decide (80 < (n : Int)) = true := by simp; omega
    have e1 : smallOf n X = false := by unfold smallOf; rw [decide_eq_false (by omega)]; rfl
    rw [e1]
    go_enter Try.func7, Try.ntmps7
    go_wp2
    go_ret
    exact ⟨rfl, Below.refl _ _⟩
  · have d1 : decide (80 < (n : Int)) = false := by simp; omega
    have H : Aside (Deeds w ad n X) := h
    have T1 : Aside ((∀ i, i < n → short (X i) = true) → smallOf n X = true) := fun hh => by
      unfold smallOf
      rw [decide_eq_true (show n ≤ 80 by omega), Bool.true_and, List.all_eq_true]
      exact fun i hi => hh i (List.mem_range.1 hi)
    have T2 : Aside (∀ i, i < n → short (X i) = false → smallOf n X = false) := fun i hi hs => by
      unfold smallOf
      have : (List.range n).all (fun i => short (X i)) = false := by
        rw [List.all_eq_false]
        exact ⟨i, List.mem_range.2 hi, by rw [hs]; simp⟩
      rw [this, Bool.and_false]
    clear h
    go_enter Try.func7, Try.ntmps7
    go_wp2
    go_loopg [10, 4] n (fun gh s10 _ wr => ∃ k : Nat, n - k ≤ gh ∧ k ≤ n ∧ s10 = .int .i64 (k : Int) ∧ Below w.heap.size w wr ∧ Aside (∀ i, i < k → short (X i) = true))
    case atStart => exact ⟨0, by omega, by omega, rfl, Below.refl _ _, (fun i hi => absurd hi (Nat.not_lt_zero _) : ∀ i, i < 0 → short (X i) = true)⟩
    case round =>
      obtain ⟨k, hgh, hk, rfl, hb, I⟩ := hrel
      by_cases hlt : k < n
      · have q3 : decide (k < n) = true := by simpa using hlt
        rcases H.out with h0 | ⟨g, o, rfl, hc⟩
        · omega
        obtain ⟨⟨a0, a1, a2, a3, a4, a5⟩, _, _, _⟩ := hc k hlt
        have b0 := cell_below a0 hb
        have b1 := cell_below a1 hb
        have b2 := cell_below a2 hb
        have b3 := cell_below a3 hb
        have b4 := cell_below a4 hb
        have b5 := cell_below a5 hb
        have hB := hb.alloc hb.size (.cells (X k).cells 30)
        unfold Dd.cells at hB
        clear a0 a1 a2 a3 a4 a5 hc
        by_cases h1 : 60 < (X k).s.size
        · have q4 : decide (60 < ((X k).s.size : Int)) = true := by simp; omega
          have F : Aside (smallOf n X = false) := T2.out k hlt (by unfold short; rw [decide_eq_false (by omega)]; rfl)
          generalize X k = x at *
          go_wp2
          go_ret
          exact ⟨by rw [F.out]; rfl, hB⟩
        · have q4 : decide (60 < ((X k).s.size : Int)) = false := by simp; omega
          by_cases h2 : 60 < (X k).name.size
          · have q5 : decide (60 < ((X k).name.size : Int)) = true := by simp; omega
            have F : Aside (smallOf n X = false) := T2.out k hlt (by unfold short; rw [decide_eq_false (show ¬ (X k).name.size ≤ 60 by omega), Bool.and_false])
            generalize X k = x at *
            go_wp2
            go_ret
            exact ⟨by rw [F.out]; rfl, hB⟩
          · have q5 : decide (60 < ((X k).name.size : Int)) = false := by simp; omega
            have I2 : Aside (∀ i, i < k + 1 → short (X i) = true) := fun i hi => by
              by_cases e : i = k
              · subst e
                unfold short
                rw [decide_eq_true (by omega), decide_eq_true (by omega)]
                rfl
              · exact I.out i (by omega)
            clear I
            generalize X k = x at *
            go_wp2
            go_roundg (n - (k + 1))
            case measure => omega
            case rel => exact ⟨k + 1, Nat.le_refl _, by omega, by go_num, hB, I2⟩
      · obtain rfl : k = n := by omega
        have q3 : decide (k < k) = false := by simp
        have F : Aside (smallOf k X = true) := T1.out I.out
        clear I
        go_wp2
        go_ret
        exact ⟨by rw [F.out]; rfl, hb⟩

/-- Both disks, made anew. -/
theorem both_new {w1 w2 : World} {B b c : Nat} {d : Ds} {r : Rs} {n : Int} (h1 : Rep w1 B b d) (e1 : d.pl = opRoom emptySt n) (h2 : RRep w2 B c r) (e2 : r.pl = rRoom rEmpty n) (f2 : ∀ k ∈ r.foot c, w1.heap.size ≤ k) (b2 : Below w1.heap.size w1 w2) : Both w2 B b c d r ∧ r.count = 0 := by
  refine ⟨⟨h1.below b2, h2, by rw [e1]; exact ok_empty.opRoom n, ⟨[], ?_⟩, fun k hk hm => ?_⟩, ?_⟩
  · rw [e1, e2]
    exact ⟨rfl, rfl, List.Pairwise.nil, fun x hx => (by cases hx), rfl, rfl, rfl, fun e => (by cases e)⟩
  · have := (h1.lt k hk).2
    have := f2 k hm
    omega
  · rw [← count_pl, e2]
    rfl

theorem Both.lo {w : World} {B b c : Nat} {d : Ds} {r : Rs} (h : Both w B b c d r) : ∀ k ∈ d.foot b ++ r.foot c, B ≤ k := fun k hk => by
  rcases List.mem_append.1 hk with hk | hk
  · exact (h.rep.lt k hk).1
  · exact (h.rrep.lt k hk).1

/-- Behind a deed all that lay below B is as it was. -/
theorem Done.below {w w' : World} {B b c : Nat} {d : Ds} {r : Rs} (hw : Both w B b c d r) (h : Done w B b c d r w') : ∃ d' r', Both w' B b c d' r' ∧ r'.count ≤ r.count + 60 ∧ Below B w w' := by
  obtain ⟨d', r', h1, h2, h3⟩ := h
  exact ⟨d', r', h1, h2, h3.below hw.lo (by have := hw.rep.lt b foot_b; omega)⟩

set_option maxHeartbeats 1600000 in
theorem runs_any (room : Int) (ad : Option Addr) (n cap : Nat) (X : Nat → Dd) (w : World) (h : Deeds w ad n X) :
    Calls Try.prog 3 #[.int .i64 room, .slice ad n cap] w fun e w' => e = .returned (.bool true) ∧ Below w.heap.size w w' := by
  have k0 := awake_any w
  have H : Aside (Deeds w ad n X) := h
  have K1 : Aside (∀ u, Below w.heap.size w u → Calls Try.prog 7 #[.slice ad n cap] u fun e w' => e = .returned (.bool (smallOf n X)) ∧ Below u.heap.size u w') := fun u hu => small_any ad n cap X u (H.out.below hu)
  clear h
  cases hsm : smallOf n X with
  | false =>
    rw [hsm] at K1
    go_enter Try.func3, Try.ntmps3
    go_wp2_with (first
      | (go_at_call 6; refine k0.mono ?_; rintro e w1 ⟨rfl, hb1⟩)
      | (go_at_call 7; refine (K1.out _ hb1).mono ?_; rintro e w2 ⟨rfl, hb2⟩))
    go_ret
    exact ⟨rfl, hb1.trans (hb2.mono hb1.size)⟩
  | true =>
    rw [hsm] at K1
    obtain ⟨hn, hsz⟩ := small_iff.1 hsm
    have SZ : Aside (∀ i, i < n → (X i).s.size ≤ 60 ∧ (X i).name.size ≤ 60) := hsz
    have K8 : Aside (∀ u : World, w.heap.size ≤ u.heap.size → _) := fun (u : World) (hu : w.heap.size ≤ u.heap.size) => new_any room u w.heap.size hu
    have K9 : Aside (∀ u : World, w.heap.size ≤ u.heap.size → _) := fun (u : World) (hu : w.heap.size ≤ u.heap.size) => rnew_any room u w.heap.size hu
    clear hsz hsm
    go_enter Try.func3, Try.ntmps3
    go_wp2_with (first
      | (go_at_call 6; refine k0.mono ?_; rintro e w1 ⟨rfl, hb1⟩)
      | (go_at_call 7; refine (K1.out _ hb1).mono ?_; rintro e w2 ⟨rfl, hb2⟩; replace hb2 := hb1.trans (hb2.mono hb1.size))
      | (go_at_call 8; refine (K8.out _ hb2.size).mono ?_; rintro e w3 ⟨b, d0, rfl, r3, p3, f3, hb3⟩; replace hb3 := hb2.trans (hb3.mono hb2.size))
      | (go_at_call 9; refine (K9.out _ hb3.size).mono ?_; rintro e w4 ⟨c, r0, rfl, r4, p4, f4, hb4⟩; obtain ⟨hB0, hc0⟩ := both_new r3 p3 r4 p4 f4 hb4; replace hb4 := hb3.trans (hb4.mono hb3.size)))
    have B0 : Aside _ := And.intro hB0 hc0
    clear hB0 hc0 r3 p3 f3 r4 p4 f4 K8 K9 K1 k0
    go_loopg [20, 8] n (fun gh s20 _ wr => ∃ (k : Nat) (d : Ds) (r : Rs), n - k ≤ gh ∧ k ≤ n ∧ s20 = .int .i64 (k : Int) ∧ Below w.heap.size w wr ∧ Both wr w.heap.size b c d r ∧ r.count ≤ 60 * k)
    case atStart => exact ⟨0, d0, r0, by omega, by omega, rfl, hb4, B0.out.1, by rw [B0.out.2]; omega⟩
    case round =>
      obtain ⟨k, d, r, hgh, hk, rfl, hb, hB, hct⟩ := hrel
      by_cases hlt : k < n
      · have q3 : decide (k < n) = true := by simpa using hlt
        rcases H.out with h0 | ⟨g, o, rfl, hc⟩
        · omega
        obtain ⟨⟨a0, a1, a2, a3, a4, a5⟩, r1, r2, r3⟩ := hc k hlt
        have c0 := cell_below a0 hb
        have c1 := cell_below a1 hb
        have c2 := cell_below a2 hb
        have c3 := cell_below a3 hb
        have c4 := cell_below a4 hb
        have c5 := cell_below a5 hb
        obtain ⟨s1, s2⟩ := SZ.out k hlt
        have hBa := hB.below ((Below.refl _ _).alloc (Nat.le_refl _) (.cells (X k).cells 30))
        have hba := hb.alloc hb.size (.cells (X k).cells 30)
        have K10 := do_any hBa (X k) r1 r2 (by omega) s2 s1 r3
        have K11 : Aside (∀ (u : World) (d' : Ds) (r' : Rs), Both u w.heap.size b c d' r' → r'.count ≤ r.count + 60 → Calls Try.prog 11 #[.pointer (some ⟨b, 0, none⟩), .pointer (some ⟨c, 0, none⟩)] u fun e w' => e = .returned (.bool true) ∧ Below u.heap.size u w') := fun u d' r' hu hcc => same_any hu (by omega)
        have PP : Aside _ := And.intro hBa hba
        clear a0 a1 a2 a3 a4 a5 hc hB hBa hba hb r1 r2 r3 s1 s2
        have K10' : Aside _ := K10
        clear K10
        unfold Dd.cells at K10' PP
        generalize X k = x at *
        go_wp2_with (first
          | (go_at_call 10; refine Calls.mono K10'.out ?_; rintro e w5 ⟨rfl, hD⟩; obtain ⟨d', r', hB5, hc5, hb5⟩ := hD.below PP.out.1; clear K10')
          | (go_at_call 11; refine (K11.out _ _ _ hB5 hc5).mono ?_; rintro e w6 ⟨rfl, hb6⟩))
        have hbw : Below w.heap.size w w5 := PP.out.2.trans hb5
        go_roundg (n - (k + 1))
        case measure => omega
        case rel => exact ⟨k + 1, d', r', Nat.le_refl _, by omega, by go_num, hbw.trans (hb6.mono hbw.size), hB5.below hb6, by omega⟩
      · obtain rfl : k = n := by omega
        have q3 : decide (k < k) = false := by simp
        go_wp2
        go_ret
        exact ⟨rfl, hb⟩
end Go.Proofs.Ytcapgcdflahbkaa
