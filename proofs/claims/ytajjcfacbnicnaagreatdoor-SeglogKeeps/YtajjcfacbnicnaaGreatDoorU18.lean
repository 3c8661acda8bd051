/-
  YtajjcfacbnicnaaGreatDoor: the texts DP2, one behind the other.
-/
import Derived.Test.YtajjcfacbnicnaaGreatDoorU17
/-
  The document's disk: a file is put in the order of names.
-/
namespace Go.Proofs.YtajjcfacbnicnaaGreatDoor.Dk
open Go.RowKit
set_option maxRecDepth 100000

theorem below_drewN {B : Nat} {w u : World} (h : Below B w u) : ∀ n, Below B w (u.drewN n)
  | 0 => h
  | n + 1 => (below_drewN h n).drew

set_option maxHeartbeats 8000000 in
theorem rput_mid {w : World} {B b g cap : Nat} {d : Rs} {f : Gv} (h : RRep w B b d) (hll : d.files.length ≤ 400) (hr : Rising d.names) (hv : d.vf = .slice (some ⟨g, 0, none⟩) d.files.length cap) (hcap : d.files.length ≤ cap ∧ cap ≤ maxLen) (hlt : place d.names f.name < d.files.length)
    (hrb : w.ownsRow B 5 1 f.vb f.bytes.length (bcells f.bytes)) (hrl : w.ownsRow B 3 1 f.vl f.late.length (lcells f.late)) (hfr : ∀ j ∈ f.obs, j ∉ d.foot b) (hnd : f.obs.Nodup) :
    Calls Tryz.prog 79 #[.pointer (some ⟨b, 0, none⟩), .agg #[.string f.name, f.vb, f.vl]] w fun e w' => e = .returned (.tuple #[]) ∧ ∃ v', RRep w' B b { d with files := d.files.take (place d.names f.name) ++ f :: d.files.drop (place d.names f.name), vf := v' } ∧ Step (d.foot b ++ f.obs) (Rs.foot b { d with files := d.files.take (place d.names f.name) ++ f :: d.files.drop (place d.names f.name), vf := v' }) w w' := by
  have hpl : place d.names f.name ≤ d.files.length := by have := place_le d.names f.name; simpa [Rs.names] using this
  have hb0 : Below w.heap.size w (w.alloc (.cells #[.string f.name, f.vb, f.vl] 101)) := (Below.refl _ _).alloc (Nat.le_refl _) _
  have HW : Aside (∀ u : World, Below (w.alloc (.cells #[.string f.name, f.vb, f.vl] 101)).heap.size (w.alloc (.cells #[.string f.name, f.vb, f.vl] 101)) u → RRep u B b d ∧ Below w.heap.size w u ∧ u.cell? ⟨w.heap.size, 0, none⟩ = some (.string f.name) ∧ u.cell? ⟨w.heap.size, 1, none⟩ = some f.vb ∧ u.cell? ⟨w.heap.size, 2, none⟩ = some f.vl) := fun u hu => by
    have hbel : Below w.heap.size w u := hb0.trans (hu.mono (by simp))
    have hX : u.heap[w.heap.size]? = some (.cells #[.string f.name, f.vb, f.vl] 101 (0, 0)) := (hu.block _ (by simp)).trans (heap_alloc_new w _)
    exact ⟨h.below hbel, hbel, by rw [cell_of_row u _ 0 _ _ _ hX]; rfl, by rw [cell_of_row u _ 1 _ _ _ hX]; rfl, by rw [cell_of_row u _ 2 _ _ _ hX]; rfl⟩
  have PS : Aside (∀ u : World, Below w.heap.size w u → _) := fun u hu => put_steps (u := u) (k := place d.names f.name) (f := f) (rest := .slice (some ⟨g, place d.names f.name * 3, none⟩) (d.files.length - place d.names f.name) (cap - place d.names f.name)) (h.below hu) hpl hll (.inr ⟨_, _, rfl, fun _ => ⟨g, by rw [hv]; rfl, rfl⟩⟩) (own_frame hrb fun j hj => hu.block j (hrb.lt j hj).2) (own_frame hrl fun j hj => hu.block j (hrl.lt j hj).2) hfr hnd
  have hless : Aside (∀ t, t < d.files.length → (Op.bytesLess d.files[t]!.name.toList f.name.toList = decide (t < place d.names f.name))) := fun t ht => by
    rw [less_any]
    have hg := gnames_get d.files t ht
    have hnl : d.names.length = d.files.length := by simp [Rs.names]
    by_cases hlt : t < place d.names f.name
    · rw [decide_eq_true hlt]
      refine decide_eq_true (Int.not_le.1 fun hge => ?_)
      have : place d.names f.name ≤ t := by
        unfold place
        have := place_boundary (l := d.names) (n := f.name) (i := d.names.countP fun x => decide (cmp x f.name < 0)) List.countP_le_length
        exact Nat.le_of_not_lt fun hc => by
          have hall : ∀ j, t ≤ j → j < d.names.length → ¬ cmp d.names[j]! f.name < 0 := fun j h1 h2 hc2 => by
            have := hr.mono f.name t j h1 h2 hc2
            rw [show d.names[t]! = d.files[t]!.name from hg] at this
            omega
          have hcount : (d.names.countP fun x => decide (cmp x f.name < 0)) ≤ t := by
            have e := List.take_append_drop t d.names
            rw [← e, List.countP_append]
            have z : (d.names.drop t).countP (fun x => decide (cmp x f.name < 0)) = 0 := by
              rw [List.countP_eq_zero]
              intro x hx
              obtain ⟨j, hj, rfl⟩ := List.getElem_of_mem hx
              rw [List.getElem_drop]
              have := hall (t + j) (by omega) (by rw [List.length_drop] at hj; omega)
              rw [getElem!_pos d.names (t + j) (by rw [List.length_drop] at hj; omega)] at this
              simpa using this
            rw [z, Nat.add_zero]
            exact Nat.le_trans List.countP_le_length (by rw [List.length_take]; omega)
          omega
      omega
    · rw [decide_eq_false hlt]
      refine decide_eq_false fun hc => ?_
      have hall : ∀ j, j ≤ t → cmp d.names[j]! f.name < 0 := fun j hj => hr.mono f.name j t hj (by omega) (by rw [show d.names[t]! = d.files[t]!.name from hg]; exact hc)
      have : t + 1 ≤ place d.names f.name := by
        unfold place
        have e := List.take_append_drop (t + 1) d.names
        rw [← e, List.countP_append]
        have z : (d.names.take (t + 1)).countP (fun x => decide (cmp x f.name < 0)) = (d.names.take (t + 1)).length := by
          rw [List.countP_eq_length]
          intro x hx
          obtain ⟨j, hj, rfl⟩ := List.getElem_of_mem hx
          rw [List.getElem_take]
          have hj' : j < t + 1 := by rw [List.length_take] at hj; omega
          have := hall j (by omega)
          rw [getElem!_pos d.names j (by omega)] at this
          simpa using this
        rw [z, List.length_take]
        omega
      omega
  have ROWS : Aside (∀ u : World, RRep u B b d → ∀ t, t < d.files.length → ∃ g0, d.vf.ownBlock = some g0 ∧ u.cell? ⟨g0, t * 3, none⟩ = some (.string d.files[t]!.name)) := fun u hu t ht => by
    obtain ⟨g0, c0, e0, _, _, hg0⟩ := own_form hu.tab (by omega)
    exact ⟨g0, hg0, own_cell hu.tab hg0 (gflat_at (getbang d.files t ht)).1⟩
  obtain ⟨avb, cvb, eavb⟩ := own_any hrb
  obtain ⟨avl, cvl, eavl⟩ := own_any hrl
  generalize hP : place d.names f.name = P at *
  generalize hN : d.files.length = N at *
  have EVF : Aside (d.vf = .slice (some ⟨g, 0, none⟩) N cap) := hv
  have EVB : Aside (d.vf.ownBlock = some g) := by show _ = _; rw [hv]; rfl
  clear hv
  have EV : Aside (f.vb = .slice avb f.bytes.length cvb ∧ f.vl = .slice avl f.late.length cvl) := ⟨eavb, eavl⟩
  rw [eavb, eavl] at HW ⊢
  clear h hr hrb hrl hfr hnd hb0 eavb eavl hP hN
  go_enter Tryz.func79, Tryz.ntmps79
  go_wp2
  go_loopg [4] N (fun gh s4 wr => ∃ k : Nat, N - k ≤ gh ∧ k ≤ P ∧ s4 = .int .i64 (k : Int) ∧ Below (w.alloc (.cells #[.string f.name, .slice avb f.bytes.length cvb, .slice avl f.late.length cvl] 101)).heap.size (w.alloc (.cells #[.string f.name, .slice avb f.bytes.length cvb, .slice avl f.late.length cvl] 101)) wr)
  case atStart => exact ⟨0, by omega, by omega, rfl, Below.refl _ _⟩
  case round =>
    obtain ⟨k, hgh, hk, rfl, hbk⟩ := hrel
    obtain ⟨hR, hbw, x0, x1, x2⟩ := HW.out wr hbk
    have c0 := hR.c0
    rw [EVF.out] at c0
    by_cases hkP : k < P
    · have d3 : decide (k < N) = true := decide_eq_true (by omega)
      obtain ⟨g0, hg0, e0⟩ := ROWS.out wr hR k (by omega)
      have hle := hless.out k (by omega)
      rw [decide_eq_true hkP] at hle
      obtain rfl : g = g0 := Option.some.inj (EVB.out.symm.trans hg0)
      generalize d.files[k]! = y at *
      clear hR
      go_wp2
      go_quiet (fail)
      go_wp2
      go_roundg (N - (k + 1))
      case measure => omega
      case rel => exact ⟨k + 1, Nat.le_refl _, by omega, by go_num, below_drewN hbk _⟩
    · obtain rfl : k = P := by omega
      have d3 : decide (k < N) = true := decide_eq_true (by omega)
      obtain ⟨g0, hg0, e0⟩ := ROWS.out wr hR k (by omega)
      have hle := hless.out k (by omega)
      rw [decide_eq_false (Nat.lt_irrefl k)] at hle
      obtain rfl : g = g0 := Option.some.inj (EVB.out.symm.trans hg0)
      generalize d.files[k]! = y at *
      clear hR
      go_wp2
      go_quiet (fail)
      have hbu := below_drewN hbk nq
      generalize wr.drewN nq = u at *
      obtain ⟨hRu, hbw', z0, z1, z2⟩ := HW.out u hbu
      obtain ⟨r, c4, w4, hr4, hb4, v5, w5, hr5, ⟨p1, p2⟩, ⟨a5, c5, rfl⟩, v6, w6, hr6, ⟨a6, c6, rfl⟩, ⟨q1, q2⟩, hRR, hSS⟩ := PS.out u hbw'
      have FF : Aside _ := And.intro hRR ((Step.ofBelow (fo := d.foot b ++ f.obs) hbw').trans hSS)
      have hbl : b < u.heap.size := hRu.b_lt
      have hXl : w.heap.size < u.heap.size := World.block_lt_of_cell? u _ z0
      have hs4 := hb4.size
      have c0u := hRu.c0
      have c04 := (hRu.below hb4).c0
      have t0 := cell_below z0 hb4
      have t1 := cell_below z1 hb4
      have t2 := cell_below z2 hb4
      rw [EVF.out] at c0u c04 p1 q1 hr5
      rw [EV.out.1, EV.out.2] at hr5
      have ecut : cutV (.slice (some ⟨g, 0, none⟩) N cap) k = .slice (some ⟨g, 0, none⟩) k cap := rfl
      rw [ecut] at hr5
      have c0A : ∀ o : Obj, (u.alloc o).cell? ⟨b, 0, none⟩ = some (.slice (some ⟨g, 0, none⟩) N cap) := fun o => cell_below c0u ((Below.refl _ _).alloc (Nat.le_refl _) o)
      have c04A : ∀ o : Obj, (w4.alloc o).cell? ⟨b, 0, none⟩ = some (.slice (some ⟨g, 0, none⟩) N cap) := fun o => cell_below c04 ((Below.refl _ _).alloc (Nat.le_refl _) o)
      have m1 : ¬ b = u.heap.size := by omega
      have m2 : ¬ u.heap.size = b := by omega
      have m3 : ¬ b = w4.heap.size := by omega
      have m4 : ¬ w4.heap.size = b := by omega
      have m5 : ¬ w.heap.size = w4.heap.size := by omega
      have m6 : ¬ w4.heap.size = w.heap.size := by omega
      clear x0 x1 x2 c0 hbk HW PS hless ROWS hRu hRR hSS hb4 hbu hbw hbw' EVF EV ecut
      try clear e0 hle hg0
      have hkN : (k : Int) ≤ (N : Int) := by omega
      have hkc : k ≤ cap := by omega
      have hkc2 : ¬ cap = k := by omega
      have hc63 : cap ≤ 9223372036854775807 := by have := hcap.2; unfold maxLen at this; omega
      go_wp2_with (at_builtin; refine Lib.wpList_append_run _ rfl _ _ _ _ rfl _ _ rfl rfl _ _ hr4 ?_)
      go_region_law (first
        | (refine step_append_run rfl _ _ 69 69 rfl (.slice (some ⟨g, 0, none⟩) k cap) (.slice (some ⟨w4.heap.size, 0, none⟩) 1 1) (by simp [Act.eval, Act.put]) (by simp [Act.eval, Act.put]) hr5 ?_)
        | (refine step_append_run rfl _ _ 69 69 rfl (.slice a5 (k + 1) c5) (.slice (some ⟨r, 0, none⟩) (N - k) c4) (by simp [Act.eval]) (by simp [Act.eval]) hr6 ?_))
      all_goals
        go_wp2
        go_end0
        exact ⟨rfl, _, FF.out⟩

set_option maxHeartbeats 8000000 in
theorem rput_full {w : World} {B b g cap : Nat} {d : Rs} {f : Gv} (h : RRep w B b d) (hll : d.files.length ≤ 400) (hr : Rising d.names) (hv : d.vf = .slice (some ⟨g, 0, none⟩) d.files.length cap) (hcap : d.files.length = cap ∧ cap ≤ maxLen) (hpn : place d.names f.name = d.files.length)
    (hrb : w.ownsRow B 5 1 f.vb f.bytes.length (bcells f.bytes)) (hrl : w.ownsRow B 3 1 f.vl f.late.length (lcells f.late)) (hfr : ∀ j ∈ f.obs, j ∉ d.foot b) (hnd : f.obs.Nodup) :
    Calls Tryz.prog 79 #[.pointer (some ⟨b, 0, none⟩), .agg #[.string f.name, f.vb, f.vl]] w fun e w' => e = .returned (.tuple #[]) ∧ ∃ v', RRep w' B b { d with files := d.files.take (place d.names f.name) ++ f :: d.files.drop (place d.names f.name), vf := v' } ∧ Step (d.foot b ++ f.obs) (Rs.foot b { d with files := d.files.take (place d.names f.name) ++ f :: d.files.drop (place d.names f.name), vf := v' }) w w' := by
  have hpl : place d.names f.name ≤ d.files.length := by have := place_le d.names f.name; simpa [Rs.names] using this
  have hb0 : Below w.heap.size w (w.alloc (.cells #[.string f.name, f.vb, f.vl] 101)) := (Below.refl _ _).alloc (Nat.le_refl _) _
  have HW : Aside (∀ u : World, Below (w.alloc (.cells #[.string f.name, f.vb, f.vl] 101)).heap.size (w.alloc (.cells #[.string f.name, f.vb, f.vl] 101)) u → RRep u B b d ∧ Below w.heap.size w u ∧ u.cell? ⟨w.heap.size, 0, none⟩ = some (.string f.name) ∧ u.cell? ⟨w.heap.size, 1, none⟩ = some f.vb ∧ u.cell? ⟨w.heap.size, 2, none⟩ = some f.vl) := fun u hu => by
    have hbel : Below w.heap.size w u := hb0.trans (hu.mono (by simp))
    have hX : u.heap[w.heap.size]? = some (.cells #[.string f.name, f.vb, f.vl] 101 (0, 0)) := (hu.block _ (by simp)).trans (heap_alloc_new w _)
    exact ⟨h.below hbel, hbel, by rw [cell_of_row u _ 0 _ _ _ hX]; rfl, by rw [cell_of_row u _ 1 _ _ _ hX]; rfl, by rw [cell_of_row u _ 2 _ _ _ hX]; rfl⟩
  have PS : Aside (∀ u : World, Below w.heap.size w u → _) := fun u hu => put_steps (u := u) (k := place d.names f.name) (f := f) (rest := .slice (some ⟨g, 0, none⟩) (d.files.length - place d.names f.name) 0) (h.below hu) hpl hll (.inr ⟨_, _, rfl, fun e => absurd hpn.symm e⟩) (own_frame hrb fun j hj => hu.block j (hrb.lt j hj).2) (own_frame hrl fun j hj => hu.block j (hrl.lt j hj).2) hfr hnd
  have hless : Aside (∀ t, t < d.files.length → (Op.bytesLess d.files[t]!.name.toList f.name.toList = decide (t < place d.names f.name))) := fun t ht => by
    rw [less_any]
    have hg := gnames_get d.files t ht
    have hnl : d.names.length = d.files.length := by simp [Rs.names]
    by_cases hlt : t < place d.names f.name
    · rw [decide_eq_true hlt]
      refine decide_eq_true (Int.not_le.1 fun hge => ?_)
      have : place d.names f.name ≤ t := by
        unfold place
        have := place_boundary (l := d.names) (n := f.name) (i := d.names.countP fun x => decide (cmp x f.name < 0)) List.countP_le_length
        exact Nat.le_of_not_lt fun hc => by
          have hall : ∀ j, t ≤ j → j < d.names.length → ¬ cmp d.names[j]! f.name < 0 := fun j h1 h2 hc2 => by
            have := hr.mono f.name t j h1 h2 hc2
            rw [show d.names[t]! = d.files[t]!.name from hg] at this
            omega
          have hcount : (d.names.countP fun x => decide (cmp x f.name < 0)) ≤ t := by
            have e := List.take_append_drop t d.names
            rw [← e, List.countP_append]
            have z : (d.names.drop t).countP (fun x => decide (cmp x f.name < 0)) = 0 := by
              rw [List.countP_eq_zero]
              intro x hx
              obtain ⟨j, hj, rfl⟩ := List.getElem_of_mem hx
              rw [List.getElem_drop]
              have := hall (t + j) (by omega) (by rw [List.length_drop] at hj; omega)
              rw [getElem!_pos d.names (t + j) (by rw [List.length_drop] at hj; omega)] at this
              simpa using this
            rw [z, Nat.add_zero]
            exact Nat.le_trans List.countP_le_length (by rw [List.length_take]; omega)
          omega
      omega
    · rw [decide_eq_false hlt]
      refine decide_eq_false fun hc => ?_
      have hall : ∀ j, j ≤ t → cmp d.names[j]! f.name < 0 := fun j hj => hr.mono f.name j t hj (by omega) (by rw [show d.names[t]! = d.files[t]!.name from hg]; exact hc)
      have : t + 1 ≤ place d.names f.name := by
        unfold place
        have e := List.take_append_drop (t + 1) d.names
        rw [← e, List.countP_append]
        have z : (d.names.take (t + 1)).countP (fun x => decide (cmp x f.name < 0)) = (d.names.take (t + 1)).length := by
          rw [List.countP_eq_length]
          intro x hx
          obtain ⟨j, hj, rfl⟩ := List.getElem_of_mem hx
          rw [List.getElem_take]
          have hj' : j < t + 1 := by rw [List.length_take] at hj; omega
          have := hall j (by omega)
          rw [getElem!_pos d.names j (by omega)] at this
          simpa using this
        rw [z, List.length_take]
        omega
      omega
  have ROWS : Aside (∀ u : World, RRep u B b d → ∀ t, t < d.files.length → ∃ g0, d.vf.ownBlock = some g0 ∧ u.cell? ⟨g0, t * 3, none⟩ = some (.string d.files[t]!.name)) := fun u hu t ht => by
    obtain ⟨g0, c0, e0, _, _, hg0⟩ := own_form hu.tab (by omega)
    exact ⟨g0, hg0, own_cell hu.tab hg0 (gflat_at (getbang d.files t ht)).1⟩
  obtain ⟨avb, cvb, eavb⟩ := own_any hrb
  obtain ⟨avl, cvl, eavl⟩ := own_any hrl
  generalize hP : place d.names f.name = P at *
  generalize hN : d.files.length = N at *
  have EVF : Aside (d.vf = .slice (some ⟨g, 0, none⟩) N cap) := hv
  have EVB : Aside (d.vf.ownBlock = some g) := by show _ = _; rw [hv]; rfl
  clear hv
  obtain ⟨hcapN, hcm⟩ := hcap
  subst hcapN
  subst hpn
  have EV : Aside (f.vb = .slice avb f.bytes.length cvb ∧ f.vl = .slice avl f.late.length cvl) := ⟨eavb, eavl⟩
  rw [eavb, eavl] at HW ⊢
  clear h hr hrb hrl hfr hnd hb0 eavb eavl hP hN
  go_enter Tryz.func79, Tryz.ntmps79
  go_wp2
  go_loopg [4] P (fun gh s4 wr => ∃ k : Nat, P - k ≤ gh ∧ k ≤ P ∧ s4 = .int .i64 (k : Int) ∧ Below (w.alloc (.cells #[.string f.name, .slice avb f.bytes.length cvb, .slice avl f.late.length cvl] 101)).heap.size (w.alloc (.cells #[.string f.name, .slice avb f.bytes.length cvb, .slice avl f.late.length cvl] 101)) wr)
  case atStart => exact ⟨0, by omega, by omega, rfl, Below.refl _ _⟩
  case round =>
    obtain ⟨k, hgh, hk, rfl, hbk⟩ := hrel
    obtain ⟨hR, hbw, x0, x1, x2⟩ := HW.out wr hbk
    have c0 := hR.c0
    rw [EVF.out] at c0
    by_cases hkP : k < P
    · have d3 : decide (k < P) = true := decide_eq_true (by omega)
      obtain ⟨g0, hg0, e0⟩ := ROWS.out wr hR k (by omega)
      have hle := hless.out k (by omega)
      rw [decide_eq_true hkP] at hle
      obtain rfl : g = g0 := Option.some.inj (EVB.out.symm.trans hg0)
      generalize d.files[k]! = y at *
      clear hR
      go_wp2
      go_quiet (fail)
      go_wp2
      go_roundg (P - (k + 1))
      case measure => omega
      case rel => exact ⟨k + 1, Nat.le_refl _, by omega, by go_num, below_drewN hbk _⟩
    · obtain rfl : k = P := by omega
      have d3 : decide (k < k) = false := decide_eq_false (Nat.lt_irrefl k)
      clear hR
      go_wp2
      go_quiet (fail)
      have hbu := below_drewN hbk nq
      generalize wr.drewN nq = u at *
      obtain ⟨hRu, hbw', z0, z1, z2⟩ := HW.out u hbu
      obtain ⟨r, c4, w4, hr4, hb4, v5, w5, hr5, ⟨p1, p2⟩, ⟨a5, c5, rfl⟩, v6, w6, hr6, ⟨a6, c6, rfl⟩, ⟨q1, q2⟩, hRR, hSS⟩ := PS.out u hbw'
      have FF : Aside _ := And.intro hRR ((Step.ofBelow (fo := d.foot b ++ f.obs) hbw').trans hSS)
      have hbl : b < u.heap.size := hRu.b_lt
      have hXl : w.heap.size < u.heap.size := World.block_lt_of_cell? u _ z0
      have hs4 := hb4.size
      have c0u := hRu.c0
      have c04 := (hRu.below hb4).c0
      have t0 := cell_below z0 hb4
      have t1 := cell_below z1 hb4
      have t2 := cell_below z2 hb4
      rw [EVF.out] at c0u c04 p1 q1 hr5
      rw [EV.out.1, EV.out.2] at hr5
      have ecut : cutV (.slice (some ⟨g, 0, none⟩) k k) k = .slice (some ⟨g, 0, none⟩) k k := rfl
      rw [ecut] at hr5
      have c0A : ∀ o : Obj, (u.alloc o).cell? ⟨b, 0, none⟩ = some (.slice (some ⟨g, 0, none⟩) k k) := fun o => cell_below c0u ((Below.refl _ _).alloc (Nat.le_refl _) o)
      have c04A : ∀ o : Obj, (w4.alloc o).cell? ⟨b, 0, none⟩ = some (.slice (some ⟨g, 0, none⟩) k k) := fun o => cell_below c04 ((Below.refl _ _).alloc (Nat.le_refl _) o)
      have m1 : ¬ b = u.heap.size := by omega
      have m2 : ¬ u.heap.size = b := by omega
      have m3 : ¬ b = w4.heap.size := by omega
      have m4 : ¬ w4.heap.size = b := by omega
      have m5 : ¬ w.heap.size = w4.heap.size := by omega
      have m6 : ¬ w4.heap.size = w.heap.size := by omega
      clear x0 x1 x2 c0 hbk HW PS hless ROWS hRu hRR hSS hb4 hbu hbw hbw' EVF EV ecut
      try clear e0 hle hg0
      simp only [Nat.sub_self, Nat.add_zero] at hr4 hr6 FF
      have hc63 : k ≤ 9223372036854775807 := by unfold maxLen at hcm; omega
      go_wp2_with (at_builtin; refine Lib.wpList_append_run _ rfl _ _ _ _ rfl _ _ rfl rfl _ _ hr4 ?_)
      go_region_law (first
        | (refine step_append_run rfl _ _ 69 69 rfl (.slice (some ⟨g, 0, none⟩) k k) (.slice (some ⟨w4.heap.size, 0, none⟩) 1 1) (by simp [Act.eval, Act.put]) (by simp [Act.eval, Act.put]) hr5 ?_)
        | (refine step_append_run rfl _ _ 69 69 rfl (.slice a5 (k + 1) c5) (.slice (some ⟨r, 0, none⟩) 0 c4) (by simp [Act.eval]) (by simp [Act.eval]) hr6 ?_))
      all_goals
        go_wp2
        go_end0
        exact ⟨rfl, _, FF.out⟩

set_option maxHeartbeats 8000000 in
theorem rput_room {w : World} {B b g cap : Nat} {d : Rs} {f : Gv} (h : RRep w B b d) (hll : d.files.length ≤ 400) (hr : Rising d.names) (hv : d.vf = .slice (some ⟨g, 0, none⟩) d.files.length cap) (hcap : d.files.length < cap ∧ cap ≤ maxLen) (hpn : place d.names f.name = d.files.length)
    (hrb : w.ownsRow B 5 1 f.vb f.bytes.length (bcells f.bytes)) (hrl : w.ownsRow B 3 1 f.vl f.late.length (lcells f.late)) (hfr : ∀ j ∈ f.obs, j ∉ d.foot b) (hnd : f.obs.Nodup) :
    Calls Tryz.prog 79 #[.pointer (some ⟨b, 0, none⟩), .agg #[.string f.name, f.vb, f.vl]] w fun e w' => e = .returned (.tuple #[]) ∧ ∃ v', RRep w' B b { d with files := d.files.take (place d.names f.name) ++ f :: d.files.drop (place d.names f.name), vf := v' } ∧ Step (d.foot b ++ f.obs) (Rs.foot b { d with files := d.files.take (place d.names f.name) ++ f :: d.files.drop (place d.names f.name), vf := v' }) w w' := by
  have hpl : place d.names f.name ≤ d.files.length := by have := place_le d.names f.name; simpa [Rs.names] using this
  have hb0 : Below w.heap.size w (w.alloc (.cells #[.string f.name, f.vb, f.vl] 101)) := (Below.refl _ _).alloc (Nat.le_refl _) _
  have HW : Aside (∀ u : World, Below (w.alloc (.cells #[.string f.name, f.vb, f.vl] 101)).heap.size (w.alloc (.cells #[.string f.name, f.vb, f.vl] 101)) u → RRep u B b d ∧ Below w.heap.size w u ∧ u.cell? ⟨w.heap.size, 0, none⟩ = some (.string f.name) ∧ u.cell? ⟨w.heap.size, 1, none⟩ = some f.vb ∧ u.cell? ⟨w.heap.size, 2, none⟩ = some f.vl) := fun u hu => by
    have hbel : Below w.heap.size w u := hb0.trans (hu.mono (by simp))
    have hX : u.heap[w.heap.size]? = some (.cells #[.string f.name, f.vb, f.vl] 101 (0, 0)) := (hu.block _ (by simp)).trans (heap_alloc_new w _)
    exact ⟨h.below hbel, hbel, by rw [cell_of_row u _ 0 _ _ _ hX]; rfl, by rw [cell_of_row u _ 1 _ _ _ hX]; rfl, by rw [cell_of_row u _ 2 _ _ _ hX]; rfl⟩
  have PS : Aside (∀ u : World, Below w.heap.size w u → _) := fun u hu => put_steps (u := u) (k := place d.names f.name) (f := f) (rest := .slice (some ⟨g, d.files.length * 3, none⟩) (d.files.length - place d.names f.name) (cap - d.files.length)) (h.below hu) hpl hll (.inr ⟨_, _, rfl, fun e => absurd hpn.symm e⟩) (own_frame hrb fun j hj => hu.block j (hrb.lt j hj).2) (own_frame hrl fun j hj => hu.block j (hrl.lt j hj).2) hfr hnd
  have hless : Aside (∀ t, t < d.files.length → (Op.bytesLess d.files[t]!.name.toList f.name.toList = decide (t < place d.names f.name))) := fun t ht => by
    rw [less_any]
    have hg := gnames_get d.files t ht
    have hnl : d.names.length = d.files.length := by simp [Rs.names]
    by_cases hlt : t < place d.names f.name
    · rw [decide_eq_true hlt]
      refine decide_eq_true (Int.not_le.1 fun hge => ?_)
      have : place d.names f.name ≤ t := by
        unfold place
        have := place_boundary (l := d.names) (n := f.name) (i := d.names.countP fun x => decide (cmp x f.name < 0)) List.countP_le_length
        exact Nat.le_of_not_lt fun hc => by
          have hall : ∀ j, t ≤ j → j < d.names.length → ¬ cmp d.names[j]! f.name < 0 := fun j h1 h2 hc2 => by
            have := hr.mono f.name t j h1 h2 hc2
            rw [show d.names[t]! = d.files[t]!.name from hg] at this
            omega
          have hcount : (d.names.countP fun x => decide (cmp x f.name < 0)) ≤ t := by
            have e := List.take_append_drop t d.names
            rw [← e, List.countP_append]
            have z : (d.names.drop t).countP (fun x => decide (cmp x f.name < 0)) = 0 := by
              rw [List.countP_eq_zero]
              intro x hx
              obtain ⟨j, hj, rfl⟩ := List.getElem_of_mem hx
              rw [List.getElem_drop]
              have := hall (t + j) (by omega) (by rw [List.length_drop] at hj; omega)
              rw [getElem!_pos d.names (t + j) (by rw [List.length_drop] at hj; omega)] at this
              simpa using this
            rw [z, Nat.add_zero]
            exact Nat.le_trans List.countP_le_length (by rw [List.length_take]; omega)
          omega
      omega
    · rw [decide_eq_false hlt]
      refine decide_eq_false fun hc => ?_
      have hall : ∀ j, j ≤ t → cmp d.names[j]! f.name < 0 := fun j hj => hr.mono f.name j t hj (by omega) (by rw [show d.names[t]! = d.files[t]!.name from hg]; exact hc)
      have : t + 1 ≤ place d.names f.name := by
        unfold place
        have e := List.take_append_drop (t + 1) d.names
        rw [← e, List.countP_append]
        have z : (d.names.take (t + 1)).countP (fun x => decide (cmp x f.name < 0)) = (d.names.take (t + 1)).length := by
          rw [List.countP_eq_length]
          intro x hx
          obtain ⟨j, hj, rfl⟩ := List.getElem_of_mem hx
          rw [List.getElem_take]
          have hj' : j < t + 1 := by rw [List.length_take] at hj; omega
          have := hall j (by omega)
          rw [getElem!_pos d.names j (by omega)] at this
          simpa using this
        rw [z, List.length_take]
        omega
      omega
  have ROWS : Aside (∀ u : World, RRep u B b d → ∀ t, t < d.files.length → ∃ g0, d.vf.ownBlock = some g0 ∧ u.cell? ⟨g0, t * 3, none⟩ = some (.string d.files[t]!.name)) := fun u hu t ht => by
    obtain ⟨g0, c0, e0, _, _, hg0⟩ := own_form hu.tab (by omega)
    exact ⟨g0, hg0, own_cell hu.tab hg0 (gflat_at (getbang d.files t ht)).1⟩
  obtain ⟨avb, cvb, eavb⟩ := own_any hrb
  obtain ⟨avl, cvl, eavl⟩ := own_any hrl
  generalize hP : place d.names f.name = P at *
  generalize hN : d.files.length = N at *
  have EVF : Aside (d.vf = .slice (some ⟨g, 0, none⟩) N cap) := hv
  have EVB : Aside (d.vf.ownBlock = some g) := by show _ = _; rw [hv]; rfl
  clear hv
  obtain ⟨hcapN, hcm⟩ := hcap
  subst hpn
  have EV : Aside (f.vb = .slice avb f.bytes.length cvb ∧ f.vl = .slice avl f.late.length cvl) := ⟨eavb, eavl⟩
  rw [eavb, eavl] at HW ⊢
  clear h hr hrb hrl hfr hnd hb0 eavb eavl hP hN
  go_enter Tryz.func79, Tryz.ntmps79
  go_wp2
  go_loopg [4] P (fun gh s4 wr => ∃ k : Nat, P - k ≤ gh ∧ k ≤ P ∧ s4 = .int .i64 (k : Int) ∧ Below (w.alloc (.cells #[.string f.name, .slice avb f.bytes.length cvb, .slice avl f.late.length cvl] 101)).heap.size (w.alloc (.cells #[.string f.name, .slice avb f.bytes.length cvb, .slice avl f.late.length cvl] 101)) wr)
  case atStart => exact ⟨0, by omega, by omega, rfl, Below.refl _ _⟩
  case round =>
    obtain ⟨k, hgh, hk, rfl, hbk⟩ := hrel
    obtain ⟨hR, hbw, x0, x1, x2⟩ := HW.out wr hbk
    have c0 := hR.c0
    rw [EVF.out] at c0
    by_cases hkP : k < P
    · have d3 : decide (k < P) = true := decide_eq_true (by omega)
      obtain ⟨g0, hg0, e0⟩ := ROWS.out wr hR k (by omega)
      have hle := hless.out k (by omega)
      rw [decide_eq_true hkP] at hle
      obtain rfl : g = g0 := Option.some.inj (EVB.out.symm.trans hg0)
      generalize d.files[k]! = y at *
      clear hR
      go_wp2
      go_quiet (fail)
      go_wp2
      go_roundg (P - (k + 1))
      case measure => omega
      case rel => exact ⟨k + 1, Nat.le_refl _, by omega, by go_num, below_drewN hbk _⟩
    · obtain rfl : k = P := by omega
      have d3 : decide (k < k) = false := decide_eq_false (Nat.lt_irrefl k)
      clear hR
      go_wp2
      go_quiet (fail)
      have hbu := below_drewN hbk nq
      generalize wr.drewN nq = u at *
      obtain ⟨hRu, hbw', z0, z1, z2⟩ := HW.out u hbu
      obtain ⟨r, c4, w4, hr4, hb4, v5, w5, hr5, ⟨p1, p2⟩, ⟨a5, c5, rfl⟩, v6, w6, hr6, ⟨a6, c6, rfl⟩, ⟨q1, q2⟩, hRR, hSS⟩ := PS.out u hbw'
      have FF : Aside _ := And.intro hRR ((Step.ofBelow (fo := d.foot b ++ f.obs) hbw').trans hSS)
      have hbl : b < u.heap.size := hRu.b_lt
      have hXl : w.heap.size < u.heap.size := World.block_lt_of_cell? u _ z0
      have hs4 := hb4.size
      have c0u := hRu.c0
      have c04 := (hRu.below hb4).c0
      have t0 := cell_below z0 hb4
      have t1 := cell_below z1 hb4
      have t2 := cell_below z2 hb4
      rw [EVF.out] at c0u c04 p1 q1 hr5
      rw [EV.out.1, EV.out.2] at hr5
      have ecut : cutV (.slice (some ⟨g, 0, none⟩) k cap) k = .slice (some ⟨g, 0, none⟩) k cap := rfl
      rw [ecut] at hr5
      have c0A : ∀ o : Obj, (u.alloc o).cell? ⟨b, 0, none⟩ = some (.slice (some ⟨g, 0, none⟩) k cap) := fun o => cell_below c0u ((Below.refl _ _).alloc (Nat.le_refl _) o)
      have c04A : ∀ o : Obj, (w4.alloc o).cell? ⟨b, 0, none⟩ = some (.slice (some ⟨g, 0, none⟩) k cap) := fun o => cell_below c04 ((Below.refl _ _).alloc (Nat.le_refl _) o)
      have m1 : ¬ b = u.heap.size := by omega
      have m2 : ¬ u.heap.size = b := by omega
      have m3 : ¬ b = w4.heap.size := by omega
      have m4 : ¬ w4.heap.size = b := by omega
      have m5 : ¬ w.heap.size = w4.heap.size := by omega
      have m6 : ¬ w4.heap.size = w.heap.size := by omega
      clear x0 x1 x2 c0 hbk HW PS hless ROWS hRu hRR hSS hb4 hbu hbw hbw' EVF EV ecut
      try clear e0 hle hg0
      simp only [Nat.sub_self, Nat.add_zero] at hr4 hr6 FF
      have hkc : k ≤ cap := by omega
      have hkc2 : ¬ cap = k := by omega
      have hc63 : cap ≤ 9223372036854775807 := by unfold maxLen at hcm; omega
      go_wp2_with (at_builtin; refine Lib.wpList_append_run _ rfl _ _ _ _ rfl _ _ rfl rfl _ _ hr4 ?_)
      go_region_law (first
        | (refine step_append_run rfl _ _ 69 69 rfl (.slice (some ⟨g, 0, none⟩) k cap) (.slice (some ⟨w4.heap.size, 0, none⟩) 1 1) (by simp [Act.eval, Act.put]) (by simp [Act.eval, Act.put]) hr5 ?_)
        | (refine step_append_run rfl _ _ 69 69 rfl (.slice a5 (k + 1) c5) (.slice (some ⟨r, 0, none⟩) 0 c4) (by simp [Act.eval]) (by simp [Act.eval]) hr6 ?_))
      all_goals
        go_wp2
        go_end0
        exact ⟨rfl, _, FF.out⟩

set_option maxHeartbeats 8000000 in
theorem rput_nil {w : World} {B b g cap : Nat} {d : Rs} {f : Gv} (h : RRep w B b d) (hll : d.files.length ≤ 400) (hr : Rising d.names) (hv : d.vf = .slice none 0 0) (hn0 : d.files.length = 0) (hpn : place d.names f.name = 0) (_ : g = cap)
    (hrb : w.ownsRow B 5 1 f.vb f.bytes.length (bcells f.bytes)) (hrl : w.ownsRow B 3 1 f.vl f.late.length (lcells f.late)) (hfr : ∀ j ∈ f.obs, j ∉ d.foot b) (hnd : f.obs.Nodup) :
    Calls Tryz.prog 79 #[.pointer (some ⟨b, 0, none⟩), .agg #[.string f.name, f.vb, f.vl]] w fun e w' => e = .returned (.tuple #[]) ∧ ∃ v', RRep w' B b { d with files := d.files.take (place d.names f.name) ++ f :: d.files.drop (place d.names f.name), vf := v' } ∧ Step (d.foot b ++ f.obs) (Rs.foot b { d with files := d.files.take (place d.names f.name) ++ f :: d.files.drop (place d.names f.name), vf := v' }) w w' := by
  have hpl : place d.names f.name ≤ d.files.length := by have := place_le d.names f.name; simpa [Rs.names] using this
  have hb0 : Below w.heap.size w (w.alloc (.cells #[.string f.name, f.vb, f.vl] 101)) := (Below.refl _ _).alloc (Nat.le_refl _) _
  have HW : Aside (∀ u : World, Below (w.alloc (.cells #[.string f.name, f.vb, f.vl] 101)).heap.size (w.alloc (.cells #[.string f.name, f.vb, f.vl] 101)) u → RRep u B b d ∧ Below w.heap.size w u ∧ u.cell? ⟨w.heap.size, 0, none⟩ = some (.string f.name) ∧ u.cell? ⟨w.heap.size, 1, none⟩ = some f.vb ∧ u.cell? ⟨w.heap.size, 2, none⟩ = some f.vl) := fun u hu => by
    have hbel : Below w.heap.size w u := hb0.trans (hu.mono (by simp))
    have hX : u.heap[w.heap.size]? = some (.cells #[.string f.name, f.vb, f.vl] 101 (0, 0)) := (hu.block _ (by simp)).trans (heap_alloc_new w _)
    exact ⟨h.below hbel, hbel, by rw [cell_of_row u _ 0 _ _ _ hX]; rfl, by rw [cell_of_row u _ 1 _ _ _ hX]; rfl, by rw [cell_of_row u _ 2 _ _ _ hX]; rfl⟩
  have PS : Aside (∀ u : World, Below w.heap.size w u → _) := fun u hu => put_steps (u := u) (k := place d.names f.name) (f := f) (rest := .slice none 0 0) (h.below hu) hpl hll (.inl ⟨rfl, by omega⟩) (own_frame hrb fun j hj => hu.block j (hrb.lt j hj).2) (own_frame hrl fun j hj => hu.block j (hrl.lt j hj).2) hfr hnd
  have hless : Aside (∀ t, t < d.files.length → (Op.bytesLess d.files[t]!.name.toList f.name.toList = decide (t < place d.names f.name))) := fun t ht => by
    rw [less_any]
    have hg := gnames_get d.files t ht
    have hnl : d.names.length = d.files.length := by simp [Rs.names]
    by_cases hlt : t < place d.names f.name
    · rw [decide_eq_true hlt]
      refine decide_eq_true (Int.not_le.1 fun hge => ?_)
      have : place d.names f.name ≤ t := by
        unfold place
        have := place_boundary (l := d.names) (n := f.name) (i := d.names.countP fun x => decide (cmp x f.name < 0)) List.countP_le_length
        exact Nat.le_of_not_lt fun hc => by
          have hall : ∀ j, t ≤ j → j < d.names.length → ¬ cmp d.names[j]! f.name < 0 := fun j h1 h2 hc2 => by
            have := hr.mono f.name t j h1 h2 hc2
            rw [show d.names[t]! = d.files[t]!.name from hg] at this
            omega
          have hcount : (d.names.countP fun x => decide (cmp x f.name < 0)) ≤ t := by
            have e := List.take_append_drop t d.names
            rw [← e, List.countP_append]
            have z : (d.names.drop t).countP (fun x => decide (cmp x f.name < 0)) = 0 := by
              rw [List.countP_eq_zero]
              intro x hx
              obtain ⟨j, hj, rfl⟩ := List.getElem_of_mem hx
              rw [List.getElem_drop]
              have := hall (t + j) (by omega) (by rw [List.length_drop] at hj; omega)
              rw [getElem!_pos d.names (t + j) (by rw [List.length_drop] at hj; omega)] at this
              simpa using this
            rw [z, Nat.add_zero]
            exact Nat.le_trans List.countP_le_length (by rw [List.length_take]; omega)
          omega
      omega
    · rw [decide_eq_false hlt]
      refine decide_eq_false fun hc => ?_
      have hall : ∀ j, j ≤ t → cmp d.names[j]! f.name < 0 := fun j hj => hr.mono f.name j t hj (by omega) (by rw [show d.names[t]! = d.files[t]!.name from hg]; exact hc)
      have : t + 1 ≤ place d.names f.name := by
        unfold place
        have e := List.take_append_drop (t + 1) d.names
        rw [← e, List.countP_append]
        have z : (d.names.take (t + 1)).countP (fun x => decide (cmp x f.name < 0)) = (d.names.take (t + 1)).length := by
          rw [List.countP_eq_length]
          intro x hx
          obtain ⟨j, hj, rfl⟩ := List.getElem_of_mem hx
          rw [List.getElem_take]
          have hj' : j < t + 1 := by rw [List.length_take] at hj; omega
          have := hall j (by omega)
          rw [getElem!_pos d.names j (by omega)] at this
          simpa using this
        rw [z, List.length_take]
        omega
      omega
  have ROWS : Aside (∀ u : World, RRep u B b d → ∀ t, t < d.files.length → ∃ g0, d.vf.ownBlock = some g0 ∧ u.cell? ⟨g0, t * 3, none⟩ = some (.string d.files[t]!.name)) := fun u hu t ht => by
    obtain ⟨g0, c0, e0, _, _, hg0⟩ := own_form hu.tab (by omega)
    exact ⟨g0, hg0, own_cell hu.tab hg0 (gflat_at (getbang d.files t ht)).1⟩
  obtain ⟨avb, cvb, eavb⟩ := own_any hrb
  obtain ⟨avl, cvl, eavl⟩ := own_any hrl
  generalize hP : place d.names f.name = P at *
  generalize hN : d.files.length = N at *
  have EVF : Aside (d.vf = .slice none 0 0) := hv
  clear hv
  subst hpn
  subst hn0
  have EV : Aside (f.vb = .slice avb f.bytes.length cvb ∧ f.vl = .slice avl f.late.length cvl) := ⟨eavb, eavl⟩
  rw [eavb, eavl] at HW ⊢
  clear h hr hrb hrl hfr hnd hb0 eavb eavl hP hN
  go_enter Tryz.func79, Tryz.ntmps79
  go_wp2
  go_loopg [4] 1 (fun gh s4 wr => ∃ k : Nat, 0 - k ≤ gh ∧ k ≤ 0 ∧ s4 = .int .i64 (k : Int) ∧ Below (w.alloc (.cells #[.string f.name, .slice avb f.bytes.length cvb, .slice avl f.late.length cvl] 101)).heap.size (w.alloc (.cells #[.string f.name, .slice avb f.bytes.length cvb, .slice avl f.late.length cvl] 101)) wr)
  case atStart => exact ⟨0, by omega, by omega, rfl, Below.refl _ _⟩
  case round =>
    obtain ⟨k, hgh, hk, rfl, hbk⟩ := hrel
    obtain ⟨hR, hbw, x0, x1, x2⟩ := HW.out wr hbk
    have c0 := hR.c0
    rw [EVF.out] at c0
    by_cases hkP : k < 0
    · exfalso; omega
    · obtain rfl : k = 0 := by omega
      have d3 : decide (0 < 0) = false := decide_eq_false (Nat.lt_irrefl 0)
      clear hR
      go_wp2
      go_quiet (fail)
      have hbu := below_drewN hbk nq
      generalize wr.drewN nq = u at *
      obtain ⟨hRu, hbw', z0, z1, z2⟩ := HW.out u hbu
      obtain ⟨r, c4, w4, hr4, hb4, v5, w5, hr5, ⟨p1, p2⟩, ⟨a5, c5, rfl⟩, v6, w6, hr6, ⟨a6, c6, rfl⟩, ⟨q1, q2⟩, hRR, hSS⟩ := PS.out u hbw'
      have FF : Aside _ := And.intro hRR ((Step.ofBelow (fo := d.foot b ++ f.obs) hbw').trans hSS)
      have hbl : b < u.heap.size := hRu.b_lt
      have hXl : w.heap.size < u.heap.size := World.block_lt_of_cell? u _ z0
      have hs4 := hb4.size
      have c0u := hRu.c0
      have c04 := (hRu.below hb4).c0
      have t0 := cell_below z0 hb4
      have t1 := cell_below z1 hb4
      have t2 := cell_below z2 hb4
      rw [EVF.out] at c0u c04 p1 q1 hr5
      rw [EV.out.1, EV.out.2] at hr5
      have ecut : cutV (.slice none 0 0) 0 = .slice none 0 0 := rfl
      rw [ecut] at hr5
      have c0A : ∀ o : Obj, (u.alloc o).cell? ⟨b, 0, none⟩ = some (.slice none 0 0) := fun o => cell_below c0u ((Below.refl _ _).alloc (Nat.le_refl _) o)
      have c04A : ∀ o : Obj, (w4.alloc o).cell? ⟨b, 0, none⟩ = some (.slice none 0 0) := fun o => cell_below c04 ((Below.refl _ _).alloc (Nat.le_refl _) o)
      have m1 : ¬ b = u.heap.size := by omega
      have m2 : ¬ u.heap.size = b := by omega
      have m3 : ¬ b = w4.heap.size := by omega
      have m4 : ¬ w4.heap.size = b := by omega
      have m5 : ¬ w.heap.size = w4.heap.size := by omega
      have m6 : ¬ w4.heap.size = w.heap.size := by omega
      clear x0 x1 x2 c0 hbk HW PS hless ROWS hRu hRR hSS hb4 hbu hbw hbw' EVF EV ecut
      try clear e0 hle hg0
      simp only [Nat.sub_self, Nat.add_zero] at hr4 hr6 FF
      go_wp2_with (at_builtin; refine Lib.wpList_append_run _ rfl _ _ _ _ rfl _ _ rfl rfl _ _ hr4 ?_)
      go_region_law (first
        | (refine step_append_run rfl _ _ 69 69 rfl (.slice none 0 0) (.slice (some ⟨w4.heap.size, 0, none⟩) 1 1) (by simp [Act.eval, Act.put]) (by simp [Act.eval, Act.put]) hr5 ?_)
        | (refine step_append_run rfl _ _ 69 69 rfl (.slice a5 (0 + 1) c5) (.slice (some ⟨r, 0, none⟩) 0 c4) (by simp [Act.eval]) (by simp [Act.eval]) hr6 ?_))
      all_goals
        go_wp2
        go_end0
        exact ⟨rfl, _, FF.out⟩
end Go.Proofs.YtajjcfacbnicnaaGreatDoor.Dk
