/-
  Ytnmamaeoghgegaa: the texts DP2, DP3, DP4, one behind the other.
-/
import Derived.Test.YtnmamaeoghgegaaG14
/-
  The document's disk: a file is put in the order of names.
-/
namespace Go.Proofs.Ytnmamaeoghgegaa.Dk
open Go.RowKit
set_option maxRecDepth 100000

theorem below_drewN {B : Nat} {w u : World} (h : Below B w u) : ∀ n, Below B w (u.drewN n)
  | 0 => h
  | n + 1 => (below_drewN h n).drew

set_option maxHeartbeats 8000000 in
theorem rput_mid {w : World} {B b g cap : Nat} {d : Rs} {f : Gv} (h : RRep w B b d) (hll : d.files.length ≤ 400) (hr : Rising d.names) (hv : d.vf = .slice (some ⟨g, 0, none⟩) d.files.length cap) (hcap : d.files.length ≤ cap ∧ cap ≤ maxLen) (hlt : place d.names f.name < d.files.length)
    (hrb : w.ownsRow B 5 1 f.vb f.bytes.length (bcells f.bytes)) (hrl : w.ownsRow B 3 1 f.vl f.late.length (lcells f.late)) (hfr : ∀ j ∈ f.obs, j ∉ d.foot b) (hnd : f.obs.Nodup) :
    Calls Try.prog 88 #[.pointer (some ⟨b, 0, none⟩), .agg #[.string f.name, f.vb, f.vl]] w fun e w' => e = .returned (.tuple #[]) ∧ ∃ v', RRep w' B b { d with files := d.files.take (place d.names f.name) ++ f :: d.files.drop (place d.names f.name), vf := v' } ∧ Step (d.foot b ++ f.obs) (Rs.foot b { d with files := d.files.take (place d.names f.name) ++ f :: d.files.drop (place d.names f.name), vf := v' }) w w' := by
  have hpl : place d.names f.name ≤ d.files.length := by have := place_le d.names f.name; simpa [Rs.names] using this
  have hb0 : Below w.heap.size w (w.alloc (.cells #[.string f.name, f.vb, f.vl] 89)) := (Below.refl _ _).alloc (Nat.le_refl _) _
  have HW : Aside (∀ u : World, Below (w.alloc (.cells #[.string f.name, f.vb, f.vl] 89)).heap.size (w.alloc (.cells #[.string f.name, f.vb, f.vl] 89)) u → RRep u B b d ∧ Below w.heap.size w u ∧ u.cell? ⟨w.heap.size, 0, none⟩ = some (.string f.name) ∧ u.cell? ⟨w.heap.size, 1, none⟩ = some f.vb ∧ u.cell? ⟨w.heap.size, 2, none⟩ = some f.vl) := fun u hu => by
    have hbel : Below w.heap.size w u := hb0.trans (hu.mono (by simp))
    have hX : u.heap[w.heap.size]? = some (.cells #[.string f.name, f.vb, f.vl] 89 (0, 0)) := (hu.block _ (by simp)).trans (heap_alloc_new w _)
    exact ⟨h.below hbel, hbel, by rw [cell_of_row u _ 0 _ _ _ hX]; rfl, by rw [cell_of_row u _ 1 _ _ _ hX]; rfl, by rw [cell_of_row u _ 2 _ _ _ hX]; rfl⟩
  have PS : Aside (∀ u : World, Below w.heap.size w u → _) := fun u hu => put_steps (u := u) (k := place d.names f.name) (f := f) (rest := .slice (some ⟨g, place d.names f.name * 3, none⟩) (d.files.length - place d.names f.name) (cap - place d.names f.name)) (h.below hu) hpl hll (.inr ⟨_, _, rfl, fun _ => ⟨g, by rw [hv]; rfl, rfl⟩⟩) (own_frame hrb fun j hj => hu.block j (hrb.lt j hj).2) (own_frame hrl fun j hj => hu.block j (hrl.lt j hj).2) hfr hnd
  have hless : Aside (∀ t, t < d.files.length → (Op.bytesLess d.files[t]!.name.toList f.name.toList = decide (t < place d.names f.name))) := fun t ht => by
    rw [less_any]
    have hg := gnames_get d.files t ht
    have hnl : d.names.length = d.files.length := by simp [Rs.names]
    by_cases hlt : t < place d.names f.name
    · rw [decide_eq_true hlt]
      refine decide_eq_true (Int.not_le.1 fun hge => ?_)
      have : place d.names f.name ≤ t := by
        unfold place
        have := place_boundary (l := d.names) (n := f.name) (i := d.names.countP fun x => decide (cmp x f.name < 0)) List.countP_le_length
        exact Nat.le_of_not_lt fun hc => by
          have hall : ∀ j, t ≤ j → j < d.names.length → ¬ cmp d.names[j]! f.name < 0 := fun j h1 h2 hc2 => by
            have := hr.mono f.name t j h1 h2 hc2
            rw [show d.names[t]! = d.files[t]!.name from hg] at this
            omega
          have hcount : (d.names.countP fun x => decide (cmp x f.name < 0)) ≤ t := by
            have e := List.take_append_drop t d.names
            rw [← e, List.countP_append]
            have z : (d.names.drop t).countP (fun x => decide (cmp x f.name < 0)) = 0 := by
              rw [List.countP_eq_zero]
              intro x hx
              obtain ⟨j, hj, rfl⟩ := List.getElem_of_mem hx
              rw [List.getElem_drop]
              have := hall (t + j) (by omega) (by rw [List.length_drop] at hj; omega)
              rw [getElem!_pos d.names (t + j) (by rw [List.length_drop] at hj; omega)] at this
              simpa using this
            rw [z, Nat.add_zero]
            exact Nat.le_trans List.countP_le_length (by rw [List.length_take]; omega)
          omega
      omega
    · rw [decide_eq_false hlt]
      refine decide_eq_false fun hc => ?_
      have hall : ∀ j, j ≤ t → cmp d.names[j]! f.name < 0 := fun j hj => hr.mono f.name j t hj (by omega) (by rw [show d.names[t]! = d.files[t]!.name from hg]; exact hc)
      have : t + 1 ≤ place d.names f.name := by
        unfold place
        have e := List.take_append_drop (t + 1) d.names
        rw [← e, List.countP_append]
        have z : (d.names.take (t + 1)).countP (fun x => decide (cmp x f.name < 0)) = (d.names.take (t + 1)).length := by
          rw [List.countP_eq_length]
          intro x hx
          obtain ⟨j, hj, rfl⟩ := List.getElem_of_mem hx
          rw [List.getElem_take]
          have hj' : j < t + 1 := by rw [List.length_take] at hj; omega
          have := hall j (by omega)
          rw [getElem!_pos d.names j (by omega)] at this
          simpa using this
        rw [z, List.length_take]
        omega
      omega
  have ROWS : Aside (∀ u : World, RRep u B b d → ∀ t, t < d.files.length → ∃ g0, d.vf.ownBlock = some g0 ∧ u.cell? ⟨g0, t * 3, none⟩ = some (.string d.files[t]!.name)) := fun u hu t ht => by
    obtain ⟨g0, c0, e0, _, _, hg0⟩ := own_form hu.tab (by omega)
    exact ⟨g0, hg0, own_cell hu.tab hg0 (gflat_at (getbang d.files t ht)).1⟩
  obtain ⟨avb, cvb, eavb⟩ := own_any hrb
  obtain ⟨avl, cvl, eavl⟩ := own_any hrl
  generalize hP : place d.names f.name = P at *
  generalize hN : d.files.length = N at *
  have EVF : Aside (d.vf = .slice (some ⟨g, 0, none⟩) N cap) := hv
  have EVB : Aside (d.vf.ownBlock = some g) := by show _ = _; rw [hv]; rfl
  clear hv
  have EV : Aside (f.vb = .slice avb f.bytes.length cvb ∧ f.vl = .slice avl f.late.length cvl) := ⟨eavb, eavl⟩
  rw [eavb, eavl] at HW ⊢
  clear h hr hrb hrl hfr hnd hb0 eavb eavl hP hN
  go_enter Try.func88, Try.ntmps88
  go_wp2
  go_loopg [4] N (fun gh s4 wr => ∃ k : Nat, N - k ≤ gh ∧ k ≤ P ∧ s4 = .int .i64 (k : Int) ∧ Below (w.alloc (.cells #[.string f.name, .slice avb f.bytes.length cvb, .slice avl f.late.length cvl] 89)).heap.size (w.alloc (.cells #[.string f.name, .slice avb f.bytes.length cvb, .slice avl f.late.length cvl] 89)) wr)
  case atStart => exact ⟨0, by omega, by omega, rfl, Below.refl _ _⟩
  case round =>
    obtain ⟨k, hgh, hk, rfl, hbk⟩ := hrel
    obtain ⟨hR, hbw, x0, x1, x2⟩ := HW.out wr hbk
    have c0 := hR.c0
    rw [EVF.out] at c0
    by_cases hkP : k < P
    · have d3 : decide (k < N) = true := decide_eq_true (by omega)
      obtain ⟨g0, hg0, e0⟩ := ROWS.out wr hR k (by omega)
      have hle := hless.out k (by omega)
      rw [decide_eq_true hkP] at hle
      obtain rfl : g = g0 := Option.some.inj (EVB.out.symm.trans hg0)
      generalize d.files[k]! = y at *
      clear hR
      go_wp2
      go_quiet (fail)
      go_wp2
      go_roundg (N - (k + 1))
      case measure => omega
      case rel => exact ⟨k + 1, Nat.le_refl _, by omega, by go_num, below_drewN hbk _⟩
    · obtain rfl : k = P := by omega
      have d3 : decide (k < N) = true := decide_eq_true (by omega)
      obtain ⟨g0, hg0, e0⟩ := ROWS.out wr hR k (by omega)
      have hle := hless.out k (by omega)
      rw [decide_eq_false (Nat.lt_irrefl k)] at hle
      obtain rfl : g = g0 := Option.some.inj (EVB.out.symm.trans hg0)
      generalize d.files[k]! = y at *
      clear hR
      go_wp2
      go_quiet (fail)
      have hbu := below_drewN hbk nq
      generalize wr.drewN nq = u at *
      obtain ⟨hRu, hbw', z0, z1, z2⟩ := HW.out u hbu
      obtain ⟨r, c4, w4, hr4, hb4, v5, w5, hr5, ⟨p1, p2⟩, ⟨a5, c5, rfl⟩, v6, w6, hr6, ⟨a6, c6, rfl⟩, ⟨q1, q2⟩, hRR, hSS⟩ := PS.out u hbw'
      have FF : Aside _ := And.intro hRR ((Step.ofBelow (fo := d.foot b ++ f.obs) hbw').trans hSS)
      have hbl : b < u.heap.size := hRu.b_lt
      have hXl : w.heap.size < u.heap.size := World.block_lt_of_cell? u _ z0
      have hs4 := hb4.size
      have c0u := hRu.c0
      have c04 := (hRu.below hb4).c0
      have t0 := cell_below z0 hb4
      have t1 := cell_below z1 hb4
      have t2 := cell_below z2 hb4
      rw [EVF.out] at c0u c04 p1 q1 hr5
      rw [EV.out.1, EV.out.2] at hr5
      have ecut : cutV (.slice (some ⟨g, 0, none⟩) N cap) k = .slice (some ⟨g, 0, none⟩) k cap := rfl
      rw [ecut] at hr5
      have c0A : ∀ o : Obj, (u.alloc o).cell? ⟨b, 0, none⟩ = some (.slice (some ⟨g, 0, none⟩) N cap) := fun o => cell_below c0u ((Below.refl _ _).alloc (Nat.le_refl _) o)
      have c04A : ∀ o : Obj, (w4.alloc o).cell? ⟨b, 0, none⟩ = some (.slice (some ⟨g, 0, none⟩) N cap) := fun o => cell_below c04 ((Below.refl _ _).alloc (Nat.le_refl _) o)
      have m1 : ¬ b = u.heap.size := by omega
      have m2 : ¬ u.heap.size = b := by omega
      have m3 : ¬ b = w4.heap.size := by omega
      have m4 : ¬ w4.heap.size = b := by omega
      have m5 : ¬ w.heap.size = w4.heap.size := by omega
      have m6 : ¬ w4.heap.size = w.heap.size := by omega
      clear x0 x1 x2 c0 hbk HW PS hless ROWS hRu hRR hSS hb4 hbu hbw hbw' EVF EV ecut
      try clear e0 hle hg0
      have hkN : (k : Int) ≤ (N : Int) := by omega
      have hkc : k ≤ cap := by omega
      have hkc2 : ¬ cap = k := by omega
      have hc63 : cap ≤ 9223372036854775807 := by have := hcap.2; unfold maxLen at this; omega
      go_wp2_with (at_builtin; refine Lib.wpList_append_run _ rfl _ _ _ _ rfl _ _ rfl rfl _ _ hr4 ?_)
      go_region_law (first
        | (refine step_append_run rfl _ _ 80 80 rfl (.slice (some ⟨g, 0, none⟩) k cap) (.slice (some ⟨w4.heap.size, 0, none⟩) 1 1) (by simp [Act.eval, Act.put]) (by simp [Act.eval, Act.put]) hr5 ?_)
        | (refine step_append_run rfl _ _ 80 80 rfl (.slice a5 (k + 1) c5) (.slice (some ⟨r, 0, none⟩) (N - k) c4) (by simp [Act.eval]) (by simp [Act.eval]) hr6 ?_))
      all_goals
        go_wp2
        go_end0
        exact ⟨rfl, _, FF.out⟩

set_option maxHeartbeats 8000000 in
theorem rput_full {w : World} {B b g cap : Nat} {d : Rs} {f : Gv} (h : RRep w B b d) (hll : d.files.length ≤ 400) (hr : Rising d.names) (hv : d.vf = .slice (some ⟨g, 0, none⟩) d.files.length cap) (hcap : d.files.length = cap ∧ cap ≤ maxLen) (hpn : place d.names f.name = d.files.length)
    (hrb : w.ownsRow B 5 1 f.vb f.bytes.length (bcells f.bytes)) (hrl : w.ownsRow B 3 1 f.vl f.late.length (lcells f.late)) (hfr : ∀ j ∈ f.obs, j ∉ d.foot b) (hnd : f.obs.Nodup) :
    Calls Try.prog 88 #[.pointer (some ⟨b, 0, none⟩), .agg #[.string f.name, f.vb, f.vl]] w fun e w' => e = .returned (.tuple #[]) ∧ ∃ v', RRep w' B b { d with files := d.files.take (place d.names f.name) ++ f :: d.files.drop (place d.names f.name), vf := v' } ∧ Step (d.foot b ++ f.obs) (Rs.foot b { d with files := d.files.take (place d.names f.name) ++ f :: d.files.drop (place d.names f.name), vf := v' }) w w' := by
  have hpl : place d.names f.name ≤ d.files.length := by have := place_le d.names f.name; simpa [Rs.names] using this
  have hb0 : Below w.heap.size w (w.alloc (.cells #[.string f.name, f.vb, f.vl] 89)) := (Below.refl _ _).alloc (Nat.le_refl _) _
  have HW : Aside (∀ u : World, Below (w.alloc (.cells #[.string f.name, f.vb, f.vl] 89)).heap.size (w.alloc (.cells #[.string f.name, f.vb, f.vl] 89)) u → RRep u B b d ∧ Below w.heap.size w u ∧ u.cell? ⟨w.heap.size, 0, none⟩ = some (.string f.name) ∧ u.cell? ⟨w.heap.size, 1, none⟩ = some f.vb ∧ u.cell? ⟨w.heap.size, 2, none⟩ = some f.vl) := fun u hu => by
    have hbel : Below w.heap.size w u := hb0.trans (hu.mono (by simp))
    have hX : u.heap[w.heap.size]? = some (.cells #[.string f.name, f.vb, f.vl] 89 (0, 0)) := (hu.block _ (by simp)).trans (heap_alloc_new w _)
    exact ⟨h.below hbel, hbel, by rw [cell_of_row u _ 0 _ _ _ hX]; rfl, by rw [cell_of_row u _ 1 _ _ _ hX]; rfl, by rw [cell_of_row u _ 2 _ _ _ hX]; rfl⟩
  have PS : Aside (∀ u : World, Below w.heap.size w u → _) := fun u hu => put_steps (u := u) (k := place d.names f.name) (f := f) (rest := .slice (some ⟨g, 0, none⟩) (d.files.length - place d.names f.name) 0) (h.below hu) hpl hll (.inr ⟨_, _, rfl, fun e => absurd hpn.symm e⟩) (own_frame hrb fun j hj => hu.block j (hrb.lt j hj).2) (own_frame hrl fun j hj => hu.block j (hrl.lt j hj).2) hfr hnd
  have hless : Aside (∀ t, t < d.files.length → (Op.bytesLess d.files[t]!.name.toList f.name.toList = decide (t < place d.names f.name))) := fun t ht => by
    rw [less_any]
    have hg := gnames_get d.files t ht
    have hnl : d.names.length = d.files.length := by simp [Rs.names]
    by_cases hlt : t < place d.names f.name
    · rw [decide_eq_true hlt]
      refine decide_eq_true (Int.not_le.1 fun hge => ?_)
      have : place d.names f.name ≤ t := by
        unfold place
        have := place_boundary (l := d.names) (n := f.name) (i := d.names.countP fun x => decide (cmp x f.name < 0)) List.countP_le_length
        exact Nat.le_of_not_lt fun hc => by
          have hall : ∀ j, t ≤ j → j < d.names.length → ¬ cmp d.names[j]! f.name < 0 := fun j h1 h2 hc2 => by
            have := hr.mono f.name t j h1 h2 hc2
            rw [show d.names[t]! = d.files[t]!.name from hg] at this
            omega
          have hcount : (d.names.countP fun x => decide (cmp x f.name < 0)) ≤ t := by
            have e := List.take_append_drop t d.names
            rw [← e, List.countP_append]
            have z : (d.names.drop t).countP (fun x => decide (cmp x f.name < 0)) = 0 := by
              rw [List.countP_eq_zero]
              intro x hx
              obtain ⟨j, hj, rfl⟩ := List.getElem_of_mem hx
              rw [List.getElem_drop]
              have := hall (t + j) (by omega) (by rw [List.length_drop] at hj; omega)
              rw [getElem!_pos d.names (t + j) (by rw [List.length_drop] at hj; omega)] at this
              simpa using this
            rw [z, Nat.add_zero]
            exact Nat.le_trans List.countP_le_length (by rw [List.length_take]; omega)
          omega
      omega
    · rw [decide_eq_false hlt]
      refine decide_eq_false fun hc => ?_
      have hall : ∀ j, j ≤ t → cmp d.names[j]! f.name < 0 := fun j hj => hr.mono f.name j t hj (by omega) (by rw [show d.names[t]! = d.files[t]!.name from hg]; exact hc)
      have : t + 1 ≤ place d.names f.name := by
        unfold place
        have e := List.take_append_drop (t + 1) d.names
        rw [← e, List.countP_append]
        have z : (d.names.take (t + 1)).countP (fun x => decide (cmp x f.name < 0)) = (d.names.take (t + 1)).length := by
          rw [List.countP_eq_length]
          intro x hx
          obtain ⟨j, hj, rfl⟩ := List.getElem_of_mem hx
          rw [List.getElem_take]
          have hj' : j < t + 1 := by rw [List.length_take] at hj; omega
          have := hall j (by omega)
          rw [getElem!_pos d.names j (by omega)] at this
          simpa using this
        rw [z, List.length_take]
        omega
      omega
  have ROWS : Aside (∀ u : World, RRep u B b d → ∀ t, t < d.files.length → ∃ g0, d.vf.ownBlock = some g0 ∧ u.cell? ⟨g0, t * 3, none⟩ = some (.string d.files[t]!.name)) := fun u hu t ht => by
    obtain ⟨g0, c0, e0, _, _, hg0⟩ := own_form hu.tab (by omega)
    exact ⟨g0, hg0, own_cell hu.tab hg0 (gflat_at (getbang d.files t ht)).1⟩
  obtain ⟨avb, cvb, eavb⟩ := own_any hrb
  obtain ⟨avl, cvl, eavl⟩ := own_any hrl
  generalize hP : place d.names f.name = P at *
  generalize hN : d.files.length = N at *
  have EVF : Aside (d.vf = .slice (some ⟨g, 0, none⟩) N cap) := hv
  have EVB : Aside (d.vf.ownBlock = some g) := by show _ = _; rw [hv]; rfl
  clear hv
  obtain ⟨hcapN, hcm⟩ := hcap
  subst hcapN
  subst hpn
  have EV : Aside (f.vb = .slice avb f.bytes.length cvb ∧ f.vl = .slice avl f.late.length cvl) := ⟨eavb, eavl⟩
  rw [eavb, eavl] at HW ⊢
  clear h hr hrb hrl hfr hnd hb0 eavb eavl hP hN
  go_enter Try.func88, Try.ntmps88
  go_wp2
  go_loopg [4] P (fun gh s4 wr => ∃ k : Nat, P - k ≤ gh ∧ k ≤ P ∧ s4 = .int .i64 (k : Int) ∧ Below (w.alloc (.cells #[.string f.name, .slice avb f.bytes.length cvb, .slice avl f.late.length cvl] 89)).heap.size (w.alloc (.cells #[.string f.name, .slice avb f.bytes.length cvb, .slice avl f.late.length cvl] 89)) wr)
  case atStart => exact ⟨0, by omega, by omega, rfl, Below.refl _ _⟩
  case round =>
    obtain ⟨k, hgh, hk, rfl, hbk⟩ := hrel
    obtain ⟨hR, hbw, x0, x1, x2⟩ := HW.out wr hbk
    have c0 := hR.c0
    rw [EVF.out] at c0
    by_cases hkP : k < P
    · have d3 : decide (k < P) = true := decide_eq_true (by omega)
      obtain ⟨g0, hg0, e0⟩ := ROWS.out wr hR k (by omega)
      have hle := hless.out k (by omega)
      rw [decide_eq_true hkP] at hle
      obtain rfl : g = g0 := Option.some.inj (EVB.out.symm.trans hg0)
      generalize d.files[k]! = y at *
      clear hR
      go_wp2
      go_quiet (fail)
      go_wp2
      go_roundg (P - (k + 1))
      case measure => omega
      case rel => exact ⟨k + 1, Nat.le_refl _, by omega, by go_num, below_drewN hbk _⟩
    · obtain rfl : k = P := by omega
      have d3 : decide (k < k) = false := decide_eq_false (Nat.lt_irrefl k)
      clear hR
      go_wp2
      go_quiet (fail)
      have hbu := below_drewN hbk nq
      generalize wr.drewN nq = u at *
      obtain ⟨hRu, hbw', z0, z1, z2⟩ := HW.out u hbu
      obtain ⟨r, c4, w4, hr4, hb4, v5, w5, hr5, ⟨p1, p2⟩, ⟨a5, c5, rfl⟩, v6, w6, hr6, ⟨a6, c6, rfl⟩, ⟨q1, q2⟩, hRR, hSS⟩ := PS.out u hbw'
      have FF : Aside _ := And.intro hRR ((Step.ofBelow (fo := d.foot b ++ f.obs) hbw').trans hSS)
      have hbl : b < u.heap.size := hRu.b_lt
      have hXl : w.heap.size < u.heap.size := World.block_lt_of_cell? u _ z0
      have hs4 := hb4.size
      have c0u := hRu.c0
      have c04 := (hRu.below hb4).c0
      have t0 := cell_below z0 hb4
      have t1 := cell_below z1 hb4
      have t2 := cell_below z2 hb4
      rw [EVF.out] at c0u c04 p1 q1 hr5
      rw [EV.out.1, EV.out.2] at hr5
      have ecut : cutV (.slice (some ⟨g, 0, none⟩) k k) k = .slice (some ⟨g, 0, none⟩) k k := rfl
      rw [ecut] at hr5
      have c0A : ∀ o : Obj, (u.alloc o).cell? ⟨b, 0, none⟩ = some (.slice (some ⟨g, 0, none⟩) k k) := fun o => cell_below c0u ((Below.refl _ _).alloc (Nat.le_refl _) o)
      have c04A : ∀ o : Obj, (w4.alloc o).cell? ⟨b, 0, none⟩ = some (.slice (some ⟨g, 0, none⟩) k k) := fun o => cell_below c04 ((Below.refl _ _).alloc (Nat.le_refl _) o)
      have m1 : ¬ b = u.heap.size := by omega
      have m2 : ¬ u.heap.size = b := by omega
      have m3 : ¬ b = w4.heap.size := by omega
      have m4 : ¬ w4.heap.size = b := by omega
      have m5 : ¬ w.heap.size = w4.heap.size := by omega
      have m6 : ¬ w4.heap.size = w.heap.size := by omega
      clear x0 x1 x2 c0 hbk HW PS hless ROWS hRu hRR hSS hb4 hbu hbw hbw' EVF EV ecut
      try clear e0 hle hg0
      simp only [Nat.sub_self, Nat.add_zero] at hr4 hr6 FF
      have hc63 : k ≤ 9223372036854775807 := by unfold maxLen at hcm; omega
      go_wp2_with (at_builtin; refine Lib.wpList_append_run _ rfl _ _ _ _ rfl _ _ rfl rfl _ _ hr4 ?_)
      go_region_law (first
        | (refine step_append_run rfl _ _ 80 80 rfl (.slice (some ⟨g, 0, none⟩) k k) (.slice (some ⟨w4.heap.size, 0, none⟩) 1 1) (by simp [Act.eval, Act.put]) (by simp [Act.eval, Act.put]) hr5 ?_)
        | (refine step_append_run rfl _ _ 80 80 rfl (.slice a5 (k + 1) c5) (.slice (some ⟨r, 0, none⟩) 0 c4) (by simp [Act.eval]) (by simp [Act.eval]) hr6 ?_))
      all_goals
        go_wp2
        go_end0
        exact ⟨rfl, _, FF.out⟩

set_option maxHeartbeats 8000000 in
theorem rput_room {w : World} {B b g cap : Nat} {d : Rs} {f : Gv} (h : RRep w B b d) (hll : d.files.length ≤ 400) (hr : Rising d.names) (hv : d.vf = .slice (some ⟨g, 0, none⟩) d.files.length cap) (hcap : d.files.length < cap ∧ cap ≤ maxLen) (hpn : place d.names f.name = d.files.length)
    (hrb : w.ownsRow B 5 1 f.vb f.bytes.length (bcells f.bytes)) (hrl : w.ownsRow B 3 1 f.vl f.late.length (lcells f.late)) (hfr : ∀ j ∈ f.obs, j ∉ d.foot b) (hnd : f.obs.Nodup) :
    Calls Try.prog 88 #[.pointer (some ⟨b, 0, none⟩), .agg #[.string f.name, f.vb, f.vl]] w fun e w' => e = .returned (.tuple #[]) ∧ ∃ v', RRep w' B b { d with files := d.files.take (place d.names f.name) ++ f :: d.files.drop (place d.names f.name), vf := v' } ∧ Step (d.foot b ++ f.obs) (Rs.foot b { d with files := d.files.take (place d.names f.name) ++ f :: d.files.drop (place d.names f.name), vf := v' }) w w' := by
  have hpl : place d.names f.name ≤ d.files.length := by have := place_le d.names f.name; simpa [Rs.names] using this
  have hb0 : Below w.heap.size w (w.alloc (.cells #[.string f.name, f.vb, f.vl] 89)) := (Below.refl _ _).alloc (Nat.le_refl _) _
  have HW : Aside (∀ u : World, Below (w.alloc (.cells #[.string f.name, f.vb, f.vl] 89)).heap.size (w.alloc (.cells #[.string f.name, f.vb, f.vl] 89)) u → RRep u B b d ∧ Below w.heap.size w u ∧ u.cell? ⟨w.heap.size, 0, none⟩ = some (.string f.name) ∧ u.cell? ⟨w.heap.size, 1, none⟩ = some f.vb ∧ u.cell? ⟨w.heap.size, 2, none⟩ = some f.vl) := fun u hu => by
    have hbel : Below w.heap.size w u := hb0.trans (hu.mono (by simp))
    have hX : u.heap[w.heap.size]? = some (.cells #[.string f.name, f.vb, f.vl] 89 (0, 0)) := (hu.block _ (by simp)).trans (heap_alloc_new w _)
    exact ⟨h.below hbel, hbel, by rw [cell_of_row u _ 0 _ _ _ hX]; rfl, by rw [cell_of_row u _ 1 _ _ _ hX]; rfl, by rw [cell_of_row u _ 2 _ _ _ hX]; rfl⟩
  have PS : Aside (∀ u : World, Below w.heap.size w u → _) := fun u hu => put_steps (u := u) (k := place d.names f.name) (f := f) (rest := .slice (some ⟨g, d.files.length * 3, none⟩) (d.files.length - place d.names f.name) (cap - d.files.length)) (h.below hu) hpl hll (.inr ⟨_, _, rfl, fun e => absurd hpn.symm e⟩) (own_frame hrb fun j hj => hu.block j (hrb.lt j hj).2) (own_frame hrl fun j hj => hu.block j (hrl.lt j hj).2) hfr hnd
  have hless : Aside (∀ t, t < d.files.length → (Op.bytesLess d.files[t]!.name.toList f.name.toList = decide (t < place d.names f.name))) := fun t ht => by
    rw [less_any]
    have hg := gnames_get d.files t ht
    have hnl : d.names.length = d.files.length := by simp [Rs.names]
    by_cases hlt : t < place d.names f.name
    · rw [decide_eq_true hlt]
      refine decide_eq_true (Int.not_le.1 fun hge => ?_)
      have : place d.names f.name ≤ t := by
        unfold place
        have := place_boundary (l := d.names) (n := f.name) (i := d.names.countP fun x => decide (cmp x f.name < 0)) List.countP_le_length
        exact Nat.le_of_not_lt fun hc => by
          have hall : ∀ j, t ≤ j → j < d.names.length → ¬ cmp d.names[j]! f.name < 0 := fun j h1 h2 hc2 => by
            have := hr.mono f.name t j h1 h2 hc2
            rw [show d.names[t]! = d.files[t]!.name from hg] at this
            omega
          have hcount : (d.names.countP fun x => decide (cmp x f.name < 0)) ≤ t := by
            have e := List.take_append_drop t d.names
            rw [← e, List.countP_append]
            have z : (d.names.drop t).countP (fun x => decide (cmp x f.name < 0)) = 0 := by
              rw [List.countP_eq_zero]
              intro x hx
              obtain ⟨j, hj, rfl⟩ := List.getElem_of_mem hx
              rw [List.getElem_drop]
              have := hall (t + j) (by omega) (by rw [List.length_drop] at hj; omega)
              rw [getElem!_pos d.names (t + j) (by rw [List.length_drop] at hj; omega)] at this
              simpa using this
            rw [z, Nat.add_zero]
            exact Nat.le_trans List.countP_le_length (by rw [List.length_take]; omega)
          omega
      omega
    · rw [decide_eq_false hlt]
      refine decide_eq_false fun hc => ?_
      have hall : ∀ j, j ≤ t → cmp d.names[j]! f.name < 0 := fun j hj => hr.mono f.name j t hj (by omega) (by rw [show d.names[t]! = d.files[t]!.name from hg]; exact hc)
      have : t + 1 ≤ place d.names f.name := by
        unfold place
        have e := List.take_append_drop (t + 1) d.names
        rw [← e, List.countP_append]
        have z : (d.names.take (t + 1)).countP (fun x => decide (cmp x f.name < 0)) = (d.names.take (t + 1)).length := by
          rw [List.countP_eq_length]
          intro x hx
          obtain ⟨j, hj, rfl⟩ := List.getElem_of_mem hx
          rw [List.getElem_take]
          have hj' : j < t + 1 := by rw [List.length_take] at hj; omega
          have := hall j (by omega)
          rw [getElem!_pos d.names j (by omega)] at this
          simpa using this
        rw [z, List.length_take]
        omega
      omega
  have ROWS : Aside (∀ u : World, RRep u B b d → ∀ t, t < d.files.length → ∃ g0, d.vf.ownBlock = some g0 ∧ u.cell? ⟨g0, t * 3, none⟩ = some (.string d.files[t]!.name)) := fun u hu t ht => by
    obtain ⟨g0, c0, e0, _, _, hg0⟩ := own_form hu.tab (by omega)
    exact ⟨g0, hg0, own_cell hu.tab hg0 (gflat_at (getbang d.files t ht)).1⟩
  obtain ⟨avb, cvb, eavb⟩ := own_any hrb
  obtain ⟨avl, cvl, eavl⟩ := own_any hrl
  generalize hP : place d.names f.name = P at *
  generalize hN : d.files.length = N at *
  have EVF : Aside (d.vf = .slice (some ⟨g, 0, none⟩) N cap) := hv
  have EVB : Aside (d.vf.ownBlock = some g) := by show _ = _; rw [hv]; rfl
  clear hv
  obtain ⟨hcapN, hcm⟩ := hcap
  subst hpn
  have EV : Aside (f.vb = .slice avb f.bytes.length cvb ∧ f.vl = .slice avl f.late.length cvl) := ⟨eavb, eavl⟩
  rw [eavb, eavl] at HW ⊢
  clear h hr hrb hrl hfr hnd hb0 eavb eavl hP hN
  go_enter Try.func88, Try.ntmps88
  go_wp2
  go_loopg [4] P (fun gh s4 wr => ∃ k : Nat, P - k ≤ gh ∧ k ≤ P ∧ s4 = .int .i64 (k : Int) ∧ Below (w.alloc (.cells #[.string f.name, .slice avb f.bytes.length cvb, .slice avl f.late.length cvl] 89)).heap.size (w.alloc (.cells #[.string f.name, .slice avb f.bytes.length cvb, .slice avl f.late.length cvl] 89)) wr)
  case atStart => exact ⟨0, by omega, by omega, rfl, Below.refl _ _⟩
  case round =>
    obtain ⟨k, hgh, hk, rfl, hbk⟩ := hrel
    obtain ⟨hR, hbw, x0, x1, x2⟩ := HW.out wr hbk
    have c0 := hR.c0
    rw [EVF.out] at c0
    by_cases hkP : k < P
    · have d3 : decide (k < P) = true := decide_eq_true (by omega)
      obtain ⟨g0, hg0, e0⟩ := ROWS.out wr hR k (by omega)
      have hle := hless.out k (by omega)
      rw [decide_eq_true hkP] at hle
      obtain rfl : g = g0 := Option.some.inj (EVB.out.symm.trans hg0)
      generalize d.files[k]! = y at *
      clear hR
      go_wp2
      go_quiet (fail)
      go_wp2
      go_roundg (P - (k + 1))
      case measure => omega
      case rel => exact ⟨k + 1, Nat.le_refl _, by omega, by go_num, below_drewN hbk _⟩
    · obtain rfl : k = P := by omega
      have d3 : decide (k < k) = false := decide_eq_false (Nat.lt_irrefl k)
      clear hR
      go_wp2
      go_quiet (fail)
      have hbu := below_drewN hbk nq
      generalize wr.drewN nq = u at *
      obtain ⟨hRu, hbw', z0, z1, z2⟩ := HW.out u hbu
      obtain ⟨r, c4, w4, hr4, hb4, v5, w5, hr5, ⟨p1, p2⟩, ⟨a5, c5, rfl⟩, v6, w6, hr6, ⟨a6, c6, rfl⟩, ⟨q1, q2⟩, hRR, hSS⟩ := PS.out u hbw'
      have FF : Aside _ := And.intro hRR ((Step.ofBelow (fo := d.foot b ++ f.obs) hbw').trans hSS)
      have hbl : b < u.heap.size := hRu.b_lt
      have hXl : w.heap.size < u.heap.size := World.block_lt_of_cell? u _ z0
      have hs4 := hb4.size
      have c0u := hRu.c0
      have c04 := (hRu.below hb4).c0
      have t0 := cell_below z0 hb4
      have t1 := cell_below z1 hb4
      have t2 := cell_below z2 hb4
      rw [EVF.out] at c0u c04 p1 q1 hr5
      rw [EV.out.1, EV.out.2] at hr5
      have ecut : cutV (.slice (some ⟨g, 0, none⟩) k cap) k = .slice (some ⟨g, 0, none⟩) k cap := rfl
      rw [ecut] at hr5
      have c0A : ∀ o : Obj, (u.alloc o).cell? ⟨b, 0, none⟩ = some (.slice (some ⟨g, 0, none⟩) k cap) := fun o => cell_below c0u ((Below.refl _ _).alloc (Nat.le_refl _) o)
      have c04A : ∀ o : Obj, (w4.alloc o).cell? ⟨b, 0, none⟩ = some (.slice (some ⟨g, 0, none⟩) k cap) := fun o => cell_below c04 ((Below.refl _ _).alloc (Nat.le_refl _) o)
      have m1 : ¬ b = u.heap.size := by omega
      have m2 : ¬ u.heap.size = b := by omega
      have m3 : ¬ b = w4.heap.size := by omega
      have m4 : ¬ w4.heap.size = b := by omega
      have m5 : ¬ w.heap.size = w4.heap.size := by omega
      have m6 : ¬ w4.heap.size = w.heap.size := by omega
      clear x0 x1 x2 c0 hbk HW PS hless ROWS hRu hRR hSS hb4 hbu hbw hbw' EVF EV ecut
      try clear e0 hle hg0
      simp only [Nat.sub_self, Nat.add_zero] at hr4 hr6 FF
      have hkc : k ≤ cap := by omega
      have hkc2 : ¬ cap = k := by omega
      have hc63 : cap ≤ 9223372036854775807 := by unfold maxLen at hcm; omega
      go_wp2_with (at_builtin; refine Lib.wpList_append_run _ rfl _ _ _ _ rfl _ _ rfl rfl _ _ hr4 ?_)
      go_region_law (first
        | (refine step_append_run rfl _ _ 80 80 rfl (.slice (some ⟨g, 0, none⟩) k cap) (.slice (some ⟨w4.heap.size, 0, none⟩) 1 1) (by simp [Act.eval, Act.put]) (by simp [Act.eval, Act.put]) hr5 ?_)
        | (refine step_append_run rfl _ _ 80 80 rfl (.slice a5 (k + 1) c5) (.slice (some ⟨r, 0, none⟩) 0 c4) (by simp [Act.eval]) (by simp [Act.eval]) hr6 ?_))
      all_goals
        go_wp2
        go_end0
        exact ⟨rfl, _, FF.out⟩

set_option maxHeartbeats 8000000 in
theorem rput_nil {w : World} {B b g cap : Nat} {d : Rs} {f : Gv} (h : RRep w B b d) (hll : d.files.length ≤ 400) (hr : Rising d.names) (hv : d.vf = .slice none 0 0) (hn0 : d.files.length = 0) (hpn : place d.names f.name = 0) (_ : g = cap)
    (hrb : w.ownsRow B 5 1 f.vb f.bytes.length (bcells f.bytes)) (hrl : w.ownsRow B 3 1 f.vl f.late.length (lcells f.late)) (hfr : ∀ j ∈ f.obs, j ∉ d.foot b) (hnd : f.obs.Nodup) :
    Calls Try.prog 88 #[.pointer (some ⟨b, 0, none⟩), .agg #[.string f.name, f.vb, f.vl]] w fun e w' => e = .returned (.tuple #[]) ∧ ∃ v', RRep w' B b { d with files := d.files.take (place d.names f.name) ++ f :: d.files.drop (place d.names f.name), vf := v' } ∧ Step (d.foot b ++ f.obs) (Rs.foot b { d with files := d.files.take (place d.names f.name) ++ f :: d.files.drop (place d.names f.name), vf := v' }) w w' := by
  have hpl : place d.names f.name ≤ d.files.length := by have := place_le d.names f.name; simpa [Rs.names] using this
  have hb0 : Below w.heap.size w (w.alloc (.cells #[.string f.name, f.vb, f.vl] 89)) := (Below.refl _ _).alloc (Nat.le_refl _) _
  have HW : Aside (∀ u : World, Below (w.alloc (.cells #[.string f.name, f.vb, f.vl] 89)).heap.size (w.alloc (.cells #[.string f.name, f.vb, f.vl] 89)) u → RRep u B b d ∧ Below w.heap.size w u ∧ u.cell? ⟨w.heap.size, 0, none⟩ = some (.string f.name) ∧ u.cell? ⟨w.heap.size, 1, none⟩ = some f.vb ∧ u.cell? ⟨w.heap.size, 2, none⟩ = some f.vl) := fun u hu => by
    have hbel : Below w.heap.size w u := hb0.trans (hu.mono (by simp))
    have hX : u.heap[w.heap.size]? = some (.cells #[.string f.name, f.vb, f.vl] 89 (0, 0)) := (hu.block _ (by simp)).trans (heap_alloc_new w _)
    exact ⟨h.below hbel, hbel, by rw [cell_of_row u _ 0 _ _ _ hX]; rfl, by rw [cell_of_row u _ 1 _ _ _ hX]; rfl, by rw [cell_of_row u _ 2 _ _ _ hX]; rfl⟩
  have PS : Aside (∀ u : World, Below w.heap.size w u → _) := fun u hu => put_steps (u := u) (k := place d.names f.name) (f := f) (rest := .slice none 0 0) (h.below hu) hpl hll (.inl ⟨rfl, by omega⟩) (own_frame hrb fun j hj => hu.block j (hrb.lt j hj).2) (own_frame hrl fun j hj => hu.block j (hrl.lt j hj).2) hfr hnd
  have hless : Aside (∀ t, t < d.files.length → (Op.bytesLess d.files[t]!.name.toList f.name.toList = decide (t < place d.names f.name))) := fun t ht => by
    rw [less_any]
    have hg := gnames_get d.files t ht
    have hnl : d.names.length = d.files.length := by simp [Rs.names]
    by_cases hlt : t < place d.names f.name
    · rw [decide_eq_true hlt]
      refine decide_eq_true (Int.not_le.1 fun hge => ?_)
      have : place d.names f.name ≤ t := by
        unfold place
        have := place_boundary (l := d.names) (n := f.name) (i := d.names.countP fun x => decide (cmp x f.name < 0)) List.countP_le_length
        exact Nat.le_of_not_lt fun hc => by
          have hall : ∀ j, t ≤ j → j < d.names.length → ¬ cmp d.names[j]! f.name < 0 := fun j h1 h2 hc2 => by
            have := hr.mono f.name t j h1 h2 hc2
            rw [show d.names[t]! = d.files[t]!.name from hg] at this
            omega
          have hcount : (d.names.countP fun x => decide (cmp x f.name < 0)) ≤ t := by
            have e := List.take_append_drop t d.names
            rw [← e, List.countP_append]
            have z : (d.names.drop t).countP (fun x => decide (cmp x f.name < 0)) = 0 := by
              rw [List.countP_eq_zero]
              intro x hx
              obtain ⟨j, hj, rfl⟩ := List.getElem_of_mem hx
              rw [List.getElem_drop]
              have := hall (t + j) (by omega) (by rw [List.length_drop] at hj; omega)
              rw [getElem!_pos d.names (t + j) (by rw [List.length_drop] at hj; omega)] at this
              simpa using this
            rw [z, Nat.add_zero]
            exact Nat.le_trans List.countP_le_length (by rw [List.length_take]; omega)
          omega
      omega
    · rw [decide_eq_false hlt]
      refine decide_eq_false fun hc => ?_
      have hall : ∀ j, j ≤ t → cmp d.names[j]! f.name < 0 := fun j hj => hr.mono f.name j t hj (by omega) (by rw [show d.names[t]! = d.files[t]!.name from hg]; exact hc)
      have : t + 1 ≤ place d.names f.name := by
        unfold place
        have e := List.take_append_drop (t + 1) d.names
        rw [← e, List.countP_append]
        have z : (d.names.take (t + 1)).countP (fun x => decide (cmp x f.name < 0)) = (d.names.take (t + 1)).length := by
          rw [List.countP_eq_length]
          intro x hx
          obtain ⟨j, hj, rfl⟩ := List.getElem_of_mem hx
          rw [List.getElem_take]
          have hj' : j < t + 1 := by rw [List.length_take] at hj; omega
          have := hall j (by omega)
          rw [getElem!_pos d.names j (by omega)] at this
          simpa using this
        rw [z, List.length_take]
        omega
      omega
  have ROWS : Aside (∀ u : World, RRep u B b d → ∀ t, t < d.files.length → ∃ g0, d.vf.ownBlock = some g0 ∧ u.cell? ⟨g0, t * 3, none⟩ = some (.string d.files[t]!.name)) := fun u hu t ht => by
    obtain ⟨g0, c0, e0, _, _, hg0⟩ := own_form hu.tab (by omega)
    exact ⟨g0, hg0, own_cell hu.tab hg0 (gflat_at (getbang d.files t ht)).1⟩
  obtain ⟨avb, cvb, eavb⟩ := own_any hrb
  obtain ⟨avl, cvl, eavl⟩ := own_any hrl
  generalize hP : place d.names f.name = P at *
  generalize hN : d.files.length = N at *
  have EVF : Aside (d.vf = .slice none 0 0) := hv
  clear hv
  subst hpn
  subst hn0
  have EV : Aside (f.vb = .slice avb f.bytes.length cvb ∧ f.vl = .slice avl f.late.length cvl) := ⟨eavb, eavl⟩
  rw [eavb, eavl] at HW ⊢
  clear h hr hrb hrl hfr hnd hb0 eavb eavl hP hN
  go_enter Try.func88, Try.ntmps88
  go_wp2
  go_loopg [4] 1 (fun gh s4 wr => ∃ k : Nat, 0 - k ≤ gh ∧ k ≤ 0 ∧ s4 = .int .i64 (k : Int) ∧ Below (w.alloc (.cells #[.string f.name, .slice avb f.bytes.length cvb, .slice avl f.late.length cvl] 89)).heap.size (w.alloc (.cells #[.string f.name, .slice avb f.bytes.length cvb, .slice avl f.late.length cvl] 89)) wr)
  case atStart => exact ⟨0, by omega, by omega, rfl, Below.refl _ _⟩
  case round =>
    obtain ⟨k, hgh, hk, rfl, hbk⟩ := hrel
    obtain ⟨hR, hbw, x0, x1, x2⟩ := HW.out wr hbk
    have c0 := hR.c0
    rw [EVF.out] at c0
    by_cases hkP : k < 0
    · exfalso; omega
    · obtain rfl : k = 0 := by omega
      have d3 : decide (0 < 0) = false := decide_eq_false (Nat.lt_irrefl 0)
      clear hR
      go_wp2
      go_quiet (fail)
      have hbu := below_drewN hbk nq
      generalize wr.drewN nq = u at *
      obtain ⟨hRu, hbw', z0, z1, z2⟩ := HW.out u hbu
      obtain ⟨r, c4, w4, hr4, hb4, v5, w5, hr5, ⟨p1, p2⟩, ⟨a5, c5, rfl⟩, v6, w6, hr6, ⟨a6, c6, rfl⟩, ⟨q1, q2⟩, hRR, hSS⟩ := PS.out u hbw'
      have FF : Aside _ := And.intro hRR ((Step.ofBelow (fo := d.foot b ++ f.obs) hbw').trans hSS)
      have hbl : b < u.heap.size := hRu.b_lt
      have hXl : w.heap.size < u.heap.size := World.block_lt_of_cell? u _ z0
      have hs4 := hb4.size
      have c0u := hRu.c0
      have c04 := (hRu.below hb4).c0
      have t0 := cell_below z0 hb4
      have t1 := cell_below z1 hb4
      have t2 := cell_below z2 hb4
      rw [EVF.out] at c0u c04 p1 q1 hr5
      rw [EV.out.1, EV.out.2] at hr5
      have ecut : cutV (.slice none 0 0) 0 = .slice none 0 0 := rfl
      rw [ecut] at hr5
      have c0A : ∀ o : Obj, (u.alloc o).cell? ⟨b, 0, none⟩ = some (.slice none 0 0) := fun o => cell_below c0u ((Below.refl _ _).alloc (Nat.le_refl _) o)
      have c04A : ∀ o : Obj, (w4.alloc o).cell? ⟨b, 0, none⟩ = some (.slice none 0 0) := fun o => cell_below c04 ((Below.refl _ _).alloc (Nat.le_refl _) o)
      have m1 : ¬ b = u.heap.size := by omega
      have m2 : ¬ u.heap.size = b := by omega
      have m3 : ¬ b = w4.heap.size := by omega
      have m4 : ¬ w4.heap.size = b := by omega
      have m5 : ¬ w.heap.size = w4.heap.size := by omega
      have m6 : ¬ w4.heap.size = w.heap.size := by omega
      clear x0 x1 x2 c0 hbk HW PS hless ROWS hRu hRR hSS hb4 hbu hbw hbw' EVF EV ecut
      try clear e0 hle hg0
      simp only [Nat.sub_self, Nat.add_zero] at hr4 hr6 FF
      go_wp2_with (at_builtin; refine Lib.wpList_append_run _ rfl _ _ _ _ rfl _ _ rfl rfl _ _ hr4 ?_)
      go_region_law (first
        | (refine step_append_run rfl _ _ 80 80 rfl (.slice none 0 0) (.slice (some ⟨w4.heap.size, 0, none⟩) 1 1) (by simp [Act.eval, Act.put]) (by simp [Act.eval, Act.put]) hr5 ?_)
        | (refine step_append_run rfl _ _ 80 80 rfl (.slice a5 (0 + 1) c5) (.slice (some ⟨r, 0, none⟩) 0 c4) (by simp [Act.eval]) (by simp [Act.eval]) hr6 ?_))
      all_goals
        go_wp2
        go_end0
        exact ⟨rfl, _, FF.out⟩
end Go.Proofs.Ytnmamaeoghgegaa.Dk

/-
  The document's disk: put, whatever comes; a file has one byte more.
-/
namespace Go.Proofs.Ytnmamaeoghgegaa.Dk
open Go.RowKit
set_option maxRecDepth 100000

theorem rput_any {w : World} {B b : Nat} {d : Rs} {f : Gv} (h : RRep w B b d) (hll : d.files.length ≤ 400) (hr : Rising d.names)
    (hrb : w.ownsRow B 5 1 f.vb f.bytes.length (bcells f.bytes)) (hrl : w.ownsRow B 3 1 f.vl f.late.length (lcells f.late)) (hfr : ∀ j ∈ f.obs, j ∉ d.foot b) (hnd : f.obs.Nodup) :
    Calls Try.prog 88 #[.pointer (some ⟨b, 0, none⟩), .agg #[.string f.name, f.vb, f.vl]] w fun e w' => e = .returned (.tuple #[]) ∧ ∃ v', RRep w' B b { d with files := d.files.take (place d.names f.name) ++ f :: d.files.drop (place d.names f.name), vf := v' } ∧ Step (d.foot b ++ f.obs) (Rs.foot b { d with files := d.files.take (place d.names f.name) ++ f :: d.files.drop (place d.names f.name), vf := v' }) w w' := by
  have hpl : place d.names f.name ≤ d.files.length := by have := place_le d.names f.name; simpa [Rs.names] using this
  by_cases hlt : place d.names f.name < d.files.length
  · obtain ⟨g, cap, ev, h1, h2, _⟩ := own_form h.tab (by omega)
    exact rput_mid h hll hr ev ⟨h1, h2⟩ hlt hrb hrl hfr hnd
  · have hpn : place d.names f.name = d.files.length := by omega
    rcases h.tab.2 with ⟨ev, hn⟩ | ⟨g, cap, cur, ev, _, _, h1, h2, _⟩
    · exact rput_nil (g := 0) (cap := 0) h hll hr ev hn (by omega) rfl hrb hrl hfr hnd
    · by_cases hc : d.files.length = cap
      · exact rput_full h hll hr ev ⟨hc, h2⟩ hpn hrb hrl hfr hnd
      · exact rput_room h hll hr ev ⟨by omega, h2⟩ hpn hrb hrl hfr hnd

theorem append_byte {w : World} {B : Nat} {v : Value} {l : List UInt8} (h : w.ownsRow B 5 1 v l.length (bcells l)) (hB : B ≤ w.heap.size) (hl : l.length ≤ 1000000) (x : UInt8) (r : Nat) (c : Nat) (hx : w.cell? ⟨r, 0, none⟩ = some (.int .u8 (x.toNat : Int))) :
    ∃ v' w', (Builtin.append_ #[49, 49] 49 #[v, .slice (some ⟨r, 0, none⟩) 1 c]).run Try.prog w = .ok v' w' ∧ w'.ownsRow B 5 1 v' (l ++ [x]).length (bcells (l ++ [x])) ∧ w.grownBy w' v.ownBlock ∧ At w v v' := by
  obtain ⟨i0, hi0, hz0, hzs, hzb⟩ := info_parts info5
  obtain ⟨v', w', hr, h2, h3, _, h5⟩ := run_append_own_at (P := Try.prog) w B 49 49 5 i0 (.int .u8 0) 1 1 Try.underlying49 hi0 hz0 hzs hzb rfl (by omega) v l.length (bcells l) h ⟨r, 0, none⟩ 1 c [.int .u8 (x.toNat : Int)] rfl (fun j u hj => by
    match j, hj with
    | 0, hj =>
      simp at hj
      rw [← hj, Addr.add_lit]
      exact hx
    | j + 1, hj => simp at hj) (by simp [Value.oneCell']) (by unfold maxLen; omega) (by omega) hB
  refine ⟨v', w', hr, by rw [List.length_append, bcells_app]; exact h2, h3, ?_⟩
  rcases h5 with e | e
  · exact .inl e
  · exact .inr ⟨_, e, Nat.le_refl _⟩

theorem append_int {w : World} {B : Nat} {v : Value} {l : List Nat} (h : w.ownsRow B 3 1 v l.length (lcells l)) (hB : B ≤ w.heap.size) (hl : l.length ≤ 1000000) (x : Nat) (r : Nat) (c : Nat) (hx : w.cell? ⟨r, 0, none⟩ = some (.int .i64 (x : Int))) :
    ∃ v' w', (Builtin.append_ #[87, 87] 87 #[v, .slice (some ⟨r, 0, none⟩) 1 c]).run Try.prog w = .ok v' w' ∧ w'.ownsRow B 3 1 v' (l ++ [x]).length (lcells (l ++ [x])) ∧ w.grownBy w' v.ownBlock ∧ At w v v' := by
  obtain ⟨i0, hi0, hz0, hzs, hzb⟩ := info_parts info3
  obtain ⟨v', w', hr, h2, h3, _, h5⟩ := run_append_own_at (P := Try.prog) w B 87 87 3 i0 (.int .i64 0) 1 8 Try.underlying87 hi0 hz0 hzs hzb rfl (by omega) v l.length (lcells l) h ⟨r, 0, none⟩ 1 c [.int .i64 (x : Int)] rfl (fun j u hj => by
    match j, hj with
    | 0, hj =>
      simp at hj
      rw [← hj, Addr.add_lit]
      exact hx
    | j + 1, hj => simp at hj) (by simp [Value.oneCell']) (by unfold maxLen; omega) (by omega) hB
  refine ⟨v', w', hr, by rw [List.length_append, show lcells (l ++ [x]) = lcells l ++ [.int .i64 (x : Int)] by simp [lcells]]; exact h2, h3, ?_⟩
  rcases h5 with e | e
  · exact .inl e
  · exact .inr ⟨_, e, Nat.le_refl _⟩

/-- A file's bytes are others, in the same block or in a new one. -/
theorem RRep.growB {w w1 : World} {B b g i : Nat} {d : Rs} {f : Gv} {v' : Value} {bs : List UInt8} (h : RRep w B b d) (hf : d.files[i]? = some f) (hg : d.vf.ownBlock = some g)
    (ho : w1.ownsRow B 5 1 v' bs.length (bcells bs)) (hat : At w f.vb v') (hgr : w.grownBy w1 f.vb.ownBlock) :
    RRep (w1.setCell ⟨g, i * 3 + 1, none⟩ v') B b { d with files := d.files.set i ⟨f.name, bs, f.late, v', f.vl⟩ } ∧ Step (d.foot b) (Rs.foot b { d with files := d.files.set i ⟨f.name, bs, f.late, v', f.vl⟩ }) w (w1.setCell ⟨g, i * 3 + 1, none⟩ v') := by
  have hi : i < d.files.length := (List.getElem?_eq_some_iff.1 hf).1
  have hm : f ∈ d.files := List.mem_of_getElem? hf
  have hnd := h.nodup_f hm
  have hgl := (h.tab.lt g hg).2
  have hgf : f.vb.ownBlock ≠ some g := fun e => h.vf_f hm hg (obs_b e)
  have hgl2 : f.vl.ownBlock ≠ some g := fun e => h.vf_f hm hg (obs_l e)
  have keep : ∀ k, k < w.heap.size → k ≠ g → f.vb.ownBlock ≠ some k → (w1.setCell ⟨g, i * 3 + 1, none⟩ v').heap[k]? = w.heap[k]? := fun k hk hn hp =>
    (Below.heap_setCell w1 ⟨g, i * 3 + 1, none⟩ v' k hn).trans (hgr.block k hk (fun e => hp e.symm))
  have htab : w1.ownsRow B 89 3 d.vf d.files.length (d.files.flatMap Gv.cells) := own_frame h.tab fun k hk => hgr.block k (h.tab.lt k hk).2 (fun e => by rw [hg] at hk; injection hk with hk; subst hk; exact hgf e.symm)
  refine h.reset hf hg ?_ ?_ ?_ (fun k hk hn hf => keep k hk hn (fun e => hf (obs_b e))) ?_ ?_ hgr.os hgr.tape hgr.output (by simpa using hgr.size)
  · rw [gflat_setb d.files i f ⟨f.name, bs, f.late, v', f.vl⟩ hf rfl rfl]
    exact own_set htab hg (i * 3 + 1) (by omega) v'
  · exact own_frame ho fun k hk => Below.heap_setCell w1 ⟨g, i * 3 + 1, none⟩ v' k (fun e => hat.ne hgl hgf (by rw [← show k = g from e]; exact hk))
  · exact own_frame (h.rl f hm) fun k hk => keep k ((h.rl f hm).lt k hk).2 (fun e => hgl2 (e ▸ hk)) (fun e => app_ne hnd (mem_ob.2 e) (mem_ob.2 hk))
  · intro k hk
    rcases List.mem_append.1 hk with hk | hk
    · rcases hat.sub (mem_ob.1 hk) with e | e
      · exact .inl (obs_b e)
      · exact .inr e
    · exact .inl (List.mem_append_right _ hk)
  · refine List.nodup_append.2 ⟨by unfold ob; cases v'.ownBlock <;> simp, (List.nodup_append.1 hnd).2.1, fun x hx y hy e => ?_⟩
    subst e
    have hxl := ((h.rl f hm).lt x (mem_ob.1 hy)).2
    exact hat.ne hxl (fun e => app_ne hnd (mem_ob.2 e) hy) (mem_ob.1 hx)

/-- A file's places are others, in the same block or in a new one. -/
theorem RRep.growL {w w1 : World} {B b g i : Nat} {d : Rs} {f : Gv} {v' : Value} {ls : List Nat} (h : RRep w B b d) (hf : d.files[i]? = some f) (hg : d.vf.ownBlock = some g)
    (ho : w1.ownsRow B 3 1 v' ls.length (lcells ls)) (hat : At w f.vl v') (hgr : w.grownBy w1 f.vl.ownBlock) :
    RRep (w1.setCell ⟨g, i * 3 + 2, none⟩ v') B b { d with files := d.files.set i ⟨f.name, f.bytes, ls, f.vb, v'⟩ } ∧ Step (d.foot b) (Rs.foot b { d with files := d.files.set i ⟨f.name, f.bytes, ls, f.vb, v'⟩ }) w (w1.setCell ⟨g, i * 3 + 2, none⟩ v') := by
  have hi : i < d.files.length := (List.getElem?_eq_some_iff.1 hf).1
  have hm : f ∈ d.files := List.mem_of_getElem? hf
  have hnd := h.nodup_f hm
  have hgl := (h.tab.lt g hg).2
  have hgf : f.vl.ownBlock ≠ some g := fun e => h.vf_f hm hg (obs_l e)
  have hgb2 : f.vb.ownBlock ≠ some g := fun e => h.vf_f hm hg (obs_b e)
  have keep : ∀ k, k < w.heap.size → k ≠ g → f.vl.ownBlock ≠ some k → (w1.setCell ⟨g, i * 3 + 2, none⟩ v').heap[k]? = w.heap[k]? := fun k hk hn hp =>
    (Below.heap_setCell w1 ⟨g, i * 3 + 2, none⟩ v' k hn).trans (hgr.block k hk (fun e => hp e.symm))
  have htab : w1.ownsRow B 89 3 d.vf d.files.length (d.files.flatMap Gv.cells) := own_frame h.tab fun k hk => hgr.block k (h.tab.lt k hk).2 (fun e => by rw [hg] at hk; injection hk with hk; subst hk; exact hgf e.symm)
  refine h.reset hf hg ?_ ?_ ?_ (fun k hk hn hf => keep k hk hn (fun e => hf (obs_l e))) ?_ ?_ hgr.os hgr.tape hgr.output (by simpa using hgr.size)
  · rw [gflat_setl d.files i f ⟨f.name, f.bytes, ls, f.vb, v'⟩ hf rfl rfl]
    exact own_set htab hg (i * 3 + 2) (by omega) v'
  · exact own_frame (h.rb f hm) fun k hk => keep k ((h.rb f hm).lt k hk).2 (fun e => hgb2 (e ▸ hk)) (fun e => app_ne hnd (mem_ob.2 hk) (mem_ob.2 e))
  · exact own_frame ho fun k hk => Below.heap_setCell w1 ⟨g, i * 3 + 2, none⟩ v' k (fun e => hat.ne hgl hgf (by rw [← show k = g from e]; exact hk))
  · intro k hk
    rcases List.mem_append.1 hk with hk | hk
    · exact .inl (List.mem_append_left _ hk)
    · rcases hat.sub (mem_ob.1 hk) with e | e
      · exact .inl (obs_l e)
      · exact .inr e
  · refine List.nodup_append.2 ⟨(List.nodup_append.1 hnd).1, by unfold ob; cases v'.ownBlock <;> simp, fun x hx y hy e => ?_⟩
    subst e
    have hxl := ((h.rb f hm).lt x (mem_ob.1 hx)).2
    exact hat.ne hxl (fun e => app_ne hnd hx (mem_ob.2 e)) (mem_ob.1 hy)

/-- One byte more, at a world in which it was laid into a block of its own. -/
theorem RRep.byteStep {u : World} {B b g i : Nat} {d : Rs} {f : Gv} (h : RRep u B b d) (hf : d.files[i]? = some f) (hg : d.vf.ownBlock = some g) (hl : f.bytes.length ≤ 1000000) (x : UInt8) :
    ∃ a c w', (Builtin.append_ #[49, 49] 49 #[f.vb, .slice (some ⟨u.heap.size, 0, none⟩) 1 1]).run Try.prog (u.alloc (.cells #[.int .u8 (x.toNat : Int)] 5)).drew = .ok (.slice a (f.bytes.length + 1) c) w' ∧ w'.cell? ⟨b, 0, none⟩ = some d.vf ∧ w'.cell? ⟨g, i * 3 + 1, none⟩ = some f.vb ∧ w'.frozen? ⟨g, i * 3 + 1, none⟩ = false ∧
      RRep (w'.setCell ⟨g, i * 3 + 1, none⟩ (.slice a (f.bytes.length + 1) c)) B b { d with files := d.files.set i ⟨f.name, f.bytes ++ [x], f.late, .slice a (f.bytes.length + 1) c, f.vl⟩ } ∧ Step (d.foot b) (Rs.foot b { d with files := d.files.set i ⟨f.name, f.bytes ++ [x], f.late, .slice a (f.bytes.length + 1) c, f.vl⟩ }) u (w'.setCell ⟨g, i * 3 + 1, none⟩ (.slice a (f.bytes.length + 1) c)) := by
  have hm : f ∈ d.files := List.mem_of_getElem? hf
  have hb0 : Below u.heap.size u (u.alloc (.cells #[.int .u8 (x.toNat : Int)] 5)).drew := ((Below.refl _ _).alloc (Nat.le_refl _) _).drew
  have h1 := h.below hb0
  have hB : B ≤ u.heap.size := by have := h.lt b rfoot_b; omega
  obtain ⟨v', w', hr, ho, hgr, hat⟩ := append_byte (h1.rb f hm) (by have := hb0.size; omega) hl x u.heap.size 1 (by
    show (u.alloc (.cells #[.int .u8 (x.toNat : Int)] 5)).cell? _ = _
    rw [cell_of_row _ u.heap.size 0 _ _ _ (heap_alloc_new u _)]
    rfl)
  have hlen : (f.bytes ++ [x]).length = f.bytes.length + 1 := by simp
  obtain ⟨a, c, rfl⟩ := own_any ho
  rw [hlen] at hr ho hat
  rw [← hlen] at ho
  rw [← hlen] at hr hat ⊢
  have := h1.growB hf hg ho hat hgr
  refine ⟨a, c, w', hr, ?_, ?_, ?_, this.1, (Step.ofBelow hb0).trans this.2⟩
  · exact hgr.cell h1.c0 (fun e => h1.b_f hm (obs_b e.symm) rfl)
  · exact hgr.cell (h1.fcells hf hg).2.1 (fun e => h1.vf_f hm hg (obs_b e.symm))
  · have htab : w'.ownsRow B 89 3 d.vf d.files.length (d.files.flatMap Gv.cells) := own_frame h1.tab fun k hk => hgr.block k (h1.tab.lt k hk).2 (fun e => by rw [hg] at hk; injection hk with hk; subst hk; exact h1.vf_f hm hg (obs_b e.symm))
    exact own_frozen htab hg _

/-- One place more. -/
theorem RRep.lateStep {u : World} {B b g i : Nat} {d : Rs} {f : Gv} (h : RRep u B b d) (hf : d.files[i]? = some f) (hg : d.vf.ownBlock = some g) (hl : f.late.length ≤ 1000000) (x : Nat) :
    ∃ a c w', (Builtin.append_ #[87, 87] 87 #[f.vl, .slice (some ⟨u.heap.size, 0, none⟩) 1 1]).run Try.prog (u.alloc (.cells #[.int .i64 (x : Int)] 3)).drew = .ok (.slice a (f.late.length + 1) c) w' ∧ w'.cell? ⟨b, 0, none⟩ = some d.vf ∧ w'.cell? ⟨g, i * 3 + 2, none⟩ = some f.vl ∧ w'.frozen? ⟨g, i * 3 + 2, none⟩ = false ∧ w'.cell? ⟨b, 1, none⟩ = some (.int .i64 (d.count : Int)) ∧
      RRep (w'.setCell ⟨g, i * 3 + 2, none⟩ (.slice a (f.late.length + 1) c)) B b { d with files := d.files.set i ⟨f.name, f.bytes, f.late ++ [x], f.vb, .slice a (f.late.length + 1) c⟩ } ∧ Step (d.foot b) (Rs.foot b { d with files := d.files.set i ⟨f.name, f.bytes, f.late ++ [x], f.vb, .slice a (f.late.length + 1) c⟩ }) u (w'.setCell ⟨g, i * 3 + 2, none⟩ (.slice a (f.late.length + 1) c)) := by
  have hm : f ∈ d.files := List.mem_of_getElem? hf
  have hb0 : Below u.heap.size u (u.alloc (.cells #[.int .i64 (x : Int)] 3)).drew := ((Below.refl _ _).alloc (Nat.le_refl _) _).drew
  have h1 := h.below hb0
  have hB : B ≤ u.heap.size := by have := h.lt b rfoot_b; omega
  obtain ⟨v', w', hr, ho, hgr, hat⟩ := append_int (h1.rl f hm) (by have := hb0.size; omega) hl x u.heap.size 1 (by
    show (u.alloc (.cells #[.int .i64 (x : Int)] 3)).cell? _ = _
    rw [cell_of_row _ u.heap.size 0 _ _ _ (heap_alloc_new u _)]
    rfl)
  have hlen : (f.late ++ [x]).length = f.late.length + 1 := by simp
  obtain ⟨a, c, rfl⟩ := own_any ho
  rw [hlen] at hr ho hat
  rw [← hlen] at ho
  rw [← hlen] at hr hat ⊢
  have := h1.growL hf hg ho hat hgr
  refine ⟨a, c, w', hr, ?_, ?_, ?_, ?_, this.1, (Step.ofBelow hb0).trans this.2⟩
  · exact hgr.cell h1.c0 (fun e => h1.b_f hm (obs_l e.symm) rfl)
  · exact hgr.cell (h1.fcells hf hg).2.2 (fun e => h1.vf_f hm hg (obs_l e.symm))
  · have htab : w'.ownsRow B 89 3 d.vf d.files.length (d.files.flatMap Gv.cells) := own_frame h1.tab fun k hk => hgr.block k (h1.tab.lt k hk).2 (fun e => by rw [hg] at hk; injection hk with hk; subst hk; exact h1.vf_f hm hg (obs_l e.symm))
    exact own_frozen htab hg _
  · exact hgr.cell h1.c1 (fun e => h1.b_f hm (obs_l e.symm) rfl)
end Go.Proofs.Ytnmamaeoghgegaa.Dk

/-
  The document's disk: bytes are put behind a file, one by one.
-/
namespace Go.Proofs.Ytnmamaeoghgegaa.Dk
open Go.RowKit
set_option maxRecDepth 100000

def RS.rmake (s : RS) (n : ByteArray) : RS := if has s.names n then s else { s with files := s.files.take (place s.names n) ++ ⟨n, [], []⟩ :: s.files.drop (place s.names n) }
def RS.more (s : RS) (i : Nat) (x : List UInt8) : RS := match s.files[i]? with
  | some f => { s with count := s.count + x.length, files := s.files.set i ⟨f.name, f.bytes ++ x, f.late ++ List.range' (s.count + 1) x.length⟩ }
  | none => s
def RS.full (s : RS) (n x : ByteArray) : Bool := (!has s.names n && decide (16 ≤ s.files.length)) || decide (s.most < s.used + x.size)
def rAppend (s : RS) (n x : ByteArray) : Int × RS :=
  if s.power then if mayBe n then if s.full n x then (2, s.spent) else (0, (s.spent.rmake n).more (place s.names n) x.data.toList) else (1, s.spent) else (12, s.spent)

theorem more_nil {s : RS} {i : Nat} {f : G} (hf : s.files[i]? = some f) : s.more i [] = s := by
  unfold RS.more
  rw [hf]
  have e : s.files.set i f = s.files := by
    obtain ⟨A, C, e1, e2, _⟩ := split_at hf f
    rw [e2, ← e1]
  simp [e]

/-- In the midst of it. -/
structure Put (w0 w : World) (B b i N : Nat) (fo : List Nat) (s : RS) (x : List UInt8) (k : Nat) (d : Rs) (f : Gv) : Prop where
  rep : RRep w B b d
  get : d.files[i]? = some f
  pl : d.pl = s.more i (x.take k)
  nb : f.bytes.length ≤ 60000 + k
  nl : f.late.length ≤ 60000 + k
  nc : d.count ≤ 900000 + k
  len : d.files.length = N
  step : Step fo (d.foot b) w0 w

theorem Put.next {w0 w w' : World} {B b i N k : Nat} {fo : List Nat} {s : RS} {x : List UInt8} {d d' : Rs} {f f' : Gv} {g0 : G} (h : Put w0 w B b i N fo s x k d f) (hk : k < x.length) (hs : s.files[i]? = some g0)
    (hr : RRep w' B b d') (hd : d'.files = d.files.set i f') (hcn : d'.count = d.count + 1) (hmo : d'.most = d.most) (hle : d'.left = d.left) (hdo : d'.down = d.down)
    (hn : f'.name = f.name) (hb : f'.bytes = f.bytes ++ [x[k]!]) (hl : f'.late = f.late ++ [d.count + 1]) (hst : Step (d.foot b) (d'.foot b) w w') : Put w0 w' B b i N fo s x (k + 1) d' f' := by
  have hi : i < d.files.length := (List.getElem?_eq_some_iff.1 h.get).1
  refine ⟨hr, by rw [hd, List.getElem?_set]; simp [hi], ?_, by rw [hb, List.length_append]; have := h.nb; simp; omega, by rw [hl, List.length_append]; have := h.nl; simp; omega, by have := h.nc; omega, by rw [hd, List.length_set]; exact h.len, h.step.trans hst⟩
  have hp := h.pl
  have hg := rpl_get h.get
  rw [hp] at hg
  unfold RS.more at hp hg ⊢
  rw [hs] at hp hg ⊢
  simp only at hp hg ⊢
  have hi2 : i < s.files.length := (List.getElem?_eq_some_iff.1 hs).1
  rw [List.getElem?_set] at hg
  simp [hi2] at hg
  have e1 : d.count = s.count + (x.take k).length := congrArg RS.count hp
  have hf' : f'.pl = ⟨g0.name, g0.bytes ++ x.take (k + 1), g0.late ++ List.range' (s.count + 1) (x.take (k + 1)).length⟩ := by
    have q1 : f.name = g0.name := (congrArg G.name hg).symm
    have q2 : f.bytes = g0.bytes ++ x.take k := (congrArg G.bytes hg).symm
    have q3 : f.late = g0.late ++ List.range' (s.count + 1) (min k x.length) := (congrArg G.late hg).symm
    have hmin : min k x.length = k := by omega
    rw [hmin] at q3
    unfold Gv.pl
    have l2 : (x.take (k + 1)).length = k + 1 := by rw [List.length_take]; omega
    have l1 : (x.take k).length = k := by rw [List.length_take]; omega
    rw [hn, q1, hb, q2, hl, q3, l2, take_next x k hk, e1, l1, List.append_assoc, List.append_assoc, List.range'_concat]
    simp
    omega
  have hfm : d.files.map Gv.pl = s.files.set i ⟨g0.name, g0.bytes ++ x.take k, g0.late ++ List.range' (s.count + 1) (x.take k).length⟩ := congrArg RS.files hp
  have e2 : d.most = s.most := congrArg RS.most hp
  have e3 : d.left = s.left := congrArg RS.left hp
  have e4 : d.down = s.down := congrArg RS.down hp
  unfold Rs.pl
  rw [hd, List.map_set, hfm, List.set_set, hf', hcn, hmo, hle, hdo, e1, e2, e3, e4]
  have l2 : (x.take (k + 1)).length = k + 1 := by rw [List.length_take]; omega
  have l1 : (x.take k).length = k := by rw [List.length_take]; omega
  rw [l1, l2, Nat.add_assoc]
end Go.Proofs.Ytnmamaeoghgegaa.Dk
