/-
  Ytnmamaeoghgegaa: the texts DP11, DP12, DX16, DX17, one behind the other.
-/
import Derived.Test.YtnmamaeoghgegaaG18
import Derived.Test.YtnmamaeoghgegaaG13
import Derived.Test.YtnmamaeoghgegaaG12
/-
  The document's disk: Rename, where the file goes to another name.
-/
namespace Go.Proofs.Ytnmamaeoghgegaa.Dk
open Go.RowKit
set_option maxRecDepth 100000

/-- The file goes to another name, in place of what had it. -/
def RS.free1 (s : RS) (t : ByteArray) : RS := if has s.names t then s.dropAt (atOf s.names t).toNat else s
def RS.putF (s : RS) (g : G) : RS := { s with files := s.files.take (place s.names g.name) ++ g :: s.files.drop (place s.names g.name) }
def RS.moved (s : RS) (i : Nat) (t : ByteArray) (g : G) : RS := ((s.dropAt i).free1 t).putF ⟨t, g.bytes, g.late⟩

theorem hand_made {w : World} {B b : Nat} {d : Rs} (h : RRep w B b d) (t : ByteArray) (v1 v2 : Value) :
    RRep (w.alloc (.cells #[.string t, v1, v2] 89)) B b d ∧ (w.alloc (.cells #[.string t, v1, v2] 89)).heap[w.heap.size]? = some (.cells #[.string t, v1, v2] 89 (0, 0)) ∧ Step (d.foot b) (d.foot b) w (w.alloc (.cells #[.string t, v1, v2] 89)) := by
  have hb := (Below.refl w.heap.size w).alloc (Nat.le_refl _) (.cells #[.string t, v1, v2] 89)
  exact ⟨h.below hb, heap_alloc_new w _, Step.ofBelow hb⟩

theorem pl_dropAt {d1 : Rs} {i : Nat} {v' : Value} : Rs.pl { d1 with files := d1.files.eraseIdx i, vf := v' } = d1.pl.dropAt i := by
  unfold RS.dropAt
  simp only [Rs.pl, List.eraseIdx_eq_take_drop_succ, List.map_append, List.map_take, List.map_drop]

theorem pl_putF {d1 : Rs} {f : Gv} {v' : Value} : Rs.pl { d1 with files := d1.files.take (place d1.names f.name) ++ f :: d1.files.drop (place d1.names f.name), vf := v' } = d1.pl.putF f.pl := by
  unfold RS.putF
  rw [rnames_pl]
  simp only [Rs.pl, List.map_append, List.map_cons, List.map_take, List.map_drop]
  rfl

set_option maxHeartbeats 4000000 in
theorem rrename_free {w : World} {B b i : Nat} {d : Rs} {f : Gv} (h : RRep w B b d) (ok : ROk d.pl) (hri : Rising d.names) (n t : ByteArray) (hts : t.size ≤ 1000) (hp : d.pl.power = true) (hm : mayBe t = true) (hat : atOf d.names n = (i : Int)) (hf : d.files[i]? = some f) (hlt : ¬ rSure d.pl n < f.bytes.length) (hc : cmp n t ≠ 0)
    (ht : atOf ((d.files.eraseIdx i).map Gv.name) t = -1) (hth : has ((d.files.eraseIdx i).map Gv.name) t = false) :
    Calls Try.prog 46 #[.pointer (some ⟨b, 0, none⟩), .string n, .string t] w fun e w' => e = .returned (.int .i64 0) ∧ ∃ d', RRep w' B b d' ∧ d'.pl = d.pl.spent.moved i t f.pl ∧ Step (d.foot b) (d'.foot b) w w' := by
  have kp := rpower_any h ok.left
  have km := right_any t (by omega)
  have hfew := ok.dfew
  rw [hp] at kp
  rw [hm] at km
  have hi : i < d.files.length := (List.getElem?_eq_some_iff.1 hf).1
  have KA : Aside (∀ (d1 : Rs) (u : World), RRep u B b d1 → d1.files = d.files → Calls Try.prog 48 #[.pointer (some ⟨b, 0, none⟩), .string n] u fun e w' => e = .returned (.int .i64 (i : Int)) ∧ w' = u) := fun d1 u hu hf => by
    have := at_any hu (by rw [hf]; omega) n
    rwa [show d1.names = d.names by unfold Rs.names; rw [hf], hat] at this
  have KS : Aside (∀ (d1 : Rs) (u : World), RRep u B b d1 → d1.pl = d.pl.spent → Calls Try.prog 59 #[.pointer (some ⟨b, 0, none⟩), .string n] u fun e w' => e = .returned (.int .i64 (rSure d.pl n : Nat)) ∧ w' = u) := fun d1 u hu e => by
    have := rsure_any hu (by rw [e]; exact ok.spent) n
    rw [e] at this
    exact this
  have HF : Aside (∀ (d1 : Rs) (u : World), RRep u B b d1 → d1.files = d.files → ∃ g cap av cv al cl, u.cell? ⟨b, 0, none⟩ = some (.slice (some ⟨g, 0, none⟩) d.files.length cap) ∧ u.cell? ⟨g, i * 3, none⟩ = some (.string f.name) ∧ u.cell? ⟨g, i * 3 + 1, none⟩ = some (.slice av f.bytes.length cv) ∧ u.cell? ⟨g, i * 3 + 2, none⟩ = some (.slice al f.late.length cl) ∧ f.vb = .slice av f.bytes.length cv ∧ f.vl = .slice al f.late.length cl) := fun d1 u hu hd => by
    have hf1 : d1.files[i]? = some f := by rw [hd]; exact hf
    obtain ⟨g, cap, ev, _, _, hg⟩ := hu.vf_form hf1
    obtain ⟨av, cv, eav⟩ := own_any (hu.rb f (List.mem_of_getElem? hf1))
    obtain ⟨al, cl, eal⟩ := own_any (hu.rl f (List.mem_of_getElem? hf1))
    refine ⟨g, cap, av, cv, al, cl, ?_, (hu.fcells hf1 hg).1, ?_, ?_, eav, eal⟩
    · rw [hu.c0, ev, hd]
    · rw [(hu.fcells hf1 hg).2.1, eav]
    · rw [(hu.fcells hf1 hg).2.2, eal]
  have KD : Aside (∀ (d1 : Rs) (u : World), RRep u B b d1 → d1.files = d.files → _) := fun (d1 : Rs) (u : World) hu hf1 => rdrop_any (d := d1) (i := i) (f := f) hu (by rw [hf1]; omega) (by rw [hf1]; exact hf)
  have hle : (d.files.eraseIdx i).length = d.files.length - 1 := List.length_eraseIdx_of_lt hi
  have KF : Aside (∀ (d2 : Rs) (u : World), RRep u B b d2 → d2.files = d.files.eraseIdx i → Calls Try.prog 48 #[.pointer (some ⟨b, 0, none⟩), .string t] u fun e w' => e = .returned (.int .i64 (-1)) ∧ w' = u) := fun d2 u hu hf2 => by
    have := at_any hu (by rw [hf2]; omega) t
    rwa [show d2.names = (d.files.eraseIdx i).map Gv.name by unfold Rs.names; rw [hf2], ht] at this
  have d1' : decide ((rSure d.pl n : Int) < (f.bytes.length : Int)) = false := decide_eq_false (by omega)
  have d1'' : decide (rSure d.pl n < f.bytes.length) = false := decide_eq_false hlt
  have hc' := eq_bytes' hc
  have MF : Aside (d.files[i]? = some f) := hf
  have RI : Aside (Rising d.names) := hri
  generalize rSure d.pl n = SU at *
  have hth' : Aside (has ((d.files.eraseIdx i).map Gv.name) t = false) := hth
  clear h ok hp hm hat hf hc ht hth hlt hri
  go_enter Try.func46, Try.ntmps46
  go_wp2_with (first
    | (go_at_call 86; refine kp.mono ?_; rintro e w1 ⟨rfl, d1, h1, p1, f1, g1, s1⟩)
    | (go_at_call 87; refine (km _).mono ?_; rintro e w1' ⟨rfl, rfl⟩)
    | (go_at_call 48; refine (KA.out _ _ h1 f1).mono ?_; rintro e w2 ⟨rfl, rfl⟩; obtain ⟨g, cap, av, cv, al, cl, x0, x1, x2, x3, eb, el⟩ := HF.out _ _ h1 f1))
  have K38 : Aside (∀ q : Later w2, Calls Try.prog 59 #[.pointer (some ⟨b, 0, none⟩), .string n] q.u fun e w' => e = .returned (.int .i64 (SU : Nat)) ∧ Below q.u.heap.size q.u w') := fun q => (KS.out d1 _ (h1.below q.bel) p1).mono fun _ _ ⟨a, b⟩ => ⟨a, b ▸ below_refl _⟩
  have x0q : ∀ q : Later w2, q.u.cell? ⟨b, 0, none⟩ = some (.slice (some ⟨g, 0, none⟩) d.files.length cap) := fun q => cell_below x0 q.bel
  have x1q : ∀ q : Later w2, q.u.cell? ⟨g, i * 3, none⟩ = some (.string f.name) := fun q => cell_below x1 q.bel
  have x2q : ∀ q : Later w2, q.u.cell? ⟨g, i * 3 + 1, none⟩ = some (.slice av f.bytes.length cv) := fun q => cell_below x2 q.bel
  have x3q : ∀ q : Later w2, q.u.cell? ⟨g, i * 3 + 2, none⟩ = some (.slice al f.late.length cl) := fun q => cell_below x3 q.bel
  have H2 : Aside _ := And.intro h1 (And.intro p1 (And.intro g1 (And.intro s1 (And.intro eb el))))
  clear KA KS HF kp km h1 p1 g1 s1 x0 x1 x2 x3 eb el
  have hne := later_some w2
  refine wp_region_later (by kernel_rfl) (by kernel_rfl) ?_
  repeat (go_big_quiet_step ((go_at_call 59; exact calls_later (K38.out _))))
  refine wpQuiet_nil ?_
  rintro _ ⟨q, rfl⟩
  have hqb := q.bel
  have y0 := x0q q
  have y1 := x1q q
  have y2 := x2q q
  have y3 := x3q q
  clear hne x0q x1q x2q x3q K38
  obtain ⟨h1, p1, g1, s1, eb, el⟩ := H2.out
  have h3 := h1.below hqb
  have s3 : Step (d.foot b) (d1.foot b) w q.u := (g1 ▸ s1 : Step (d.foot b) (d1.foot b) w _).trans (Step.ofBelow hqb)
  generalize q.u = w3 at *
  have hM : Aside (∀ u4 : World, u4 = w3.alloc (.cells #[.string t, .slice av f.bytes.length cv, .slice al f.late.length cl] 89) → RRep u4 B b d1 ∧ u4.heap[w3.heap.size]? = some (.cells #[.string t, f.vb, f.vl] 89 (0, 0)) ∧ Step (d.foot b) (d1.foot b) w u4 ∧ w3.heap.size ≠ b) := fun u4 e4 => by
    subst e4
    obtain ⟨a1, a2, a3⟩ := hand_made h3 t (.slice av f.bytes.length cv) (.slice al f.late.length cl)
    exact ⟨a1, by rw [eb, el]; exact a2, s3.trans a3, fun e => by have := h3.b_lt; omega⟩
  have H1 : Aside _ := And.intro p1 (And.intro g1 (And.intro eb el))
  clear h1 p1 g1 s1 eb el s3 hqb H2
  go_wp2_with (first
    | (go_at_call 89; obtain ⟨h4, hX, s4, hxb⟩ := hM.out _ rfl; refine (KD.out _ _ h4 f1).mono ?_; rintro e w5 ⟨rfl, v', h5, s5, k5, n5⟩; have R5 := RHand.taken (f := f) h4 hX hxb (by rw [f1]; exact MF.out) h5 n5 k5; clear KD hM)
    | (go_at_call 48; refine (KF.out _ _ h5 (by show d1.files.eraseIdx i = _; rw [f1])).mono ?_; rintro e w6 ⟨rfl, rfl⟩; obtain ⟨z0, z1, z2⟩ := R5.cells)
    | (go_at_call 88; refine (rput_any (f := { f with name := t }) h5 (by show (d1.files.eraseIdx i).length ≤ 400; rw [f1]; omega) (by show Rising ((d1.files.eraseIdx i).map Gv.name); rw [f1]; exact Rising.sub ((List.eraseIdx_sublist _ _).map _) RI.out) R5.rb R5.rl R5.fresh R5.nd).mono ?_; rintro e w7 ⟨rfl, v7, h7, s7⟩))
  go_ret
  obtain ⟨p1, g1, eb, el⟩ := H1.out
  refine ⟨rfl, _, h7, ?_, ?_⟩
  · refine (pl_putF (d1 := { d1 with files := d1.files.eraseIdx i, vf := v' }) (f := { f with name := t })).trans ?_
    rw [pl_dropAt, p1]
    unfold RS.moved RS.free1
    have e : (d.pl.spent.dropAt i).names = (d.files.eraseIdx i).map Gv.name := by
      rw [← p1, ← pl_dropAt (v' := v'), rnames_pl]
      show (d1.files.eraseIdx i).map Gv.name = _
      rw [f1]
    rw [e, hth'.out]
    rfl
  · have hob : ∀ k ∈ f.obs, k ∈ d.foot b := fun k hk => rfoot_f (List.mem_of_getElem? MF.out) hk
    have S4 : Step (d.foot b) (d1.foot b ++ f.obs) w _ := s4.weaken (fun k hk => by
      rcases List.mem_append.1 hk with hk | hk
      · exact .inl (by rw [← g1]; exact hk)
      · exact .inl (hob k hk))
    exact (S4.trans (s5.frame f.obs)).trans s7

set_option maxHeartbeats 4000000 in
theorem rrename_over {w : World} {B b i j : Nat} {d : Rs} {f f2 : Gv} (h : RRep w B b d) (ok : ROk d.pl) (hri : Rising d.names) (n t : ByteArray) (hts : t.size ≤ 1000) (hp : d.pl.power = true) (hm : mayBe t = true) (hat : atOf d.names n = (i : Int)) (hf : d.files[i]? = some f) (hlt : ¬ rSure d.pl n < f.bytes.length) (hc : cmp n t ≠ 0)
    (ht : atOf ((d.files.eraseIdx i).map Gv.name) t = (j : Int)) (hth : has ((d.files.eraseIdx i).map Gv.name) t = true) (hf2 : (d.files.eraseIdx i)[j]? = some f2) :
    Calls Try.prog 46 #[.pointer (some ⟨b, 0, none⟩), .string n, .string t] w fun e w' => e = .returned (.int .i64 0) ∧ ∃ d', RRep w' B b d' ∧ d'.pl = d.pl.spent.moved i t f.pl ∧ Step (d.foot b) (d'.foot b) w w' := by
  have kp := rpower_any h ok.left
  have km := right_any t (by omega)
  have hfew := ok.dfew
  rw [hp] at kp
  rw [hm] at km
  have hi : i < d.files.length := (List.getElem?_eq_some_iff.1 hf).1
  have KA : Aside (∀ (d1 : Rs) (u : World), RRep u B b d1 → d1.files = d.files → Calls Try.prog 48 #[.pointer (some ⟨b, 0, none⟩), .string n] u fun e w' => e = .returned (.int .i64 (i : Int)) ∧ w' = u) := fun d1 u hu hf => by
    have := at_any hu (by rw [hf]; omega) n
    rwa [show d1.names = d.names by unfold Rs.names; rw [hf], hat] at this
  have KS : Aside (∀ (d1 : Rs) (u : World), RRep u B b d1 → d1.pl = d.pl.spent → Calls Try.prog 59 #[.pointer (some ⟨b, 0, none⟩), .string n] u fun e w' => e = .returned (.int .i64 (rSure d.pl n : Nat)) ∧ w' = u) := fun d1 u hu e => by
    have := rsure_any hu (by rw [e]; exact ok.spent) n
    rw [e] at this
    exact this
  have HF : Aside (∀ (d1 : Rs) (u : World), RRep u B b d1 → d1.files = d.files → ∃ g cap av cv al cl, u.cell? ⟨b, 0, none⟩ = some (.slice (some ⟨g, 0, none⟩) d.files.length cap) ∧ u.cell? ⟨g, i * 3, none⟩ = some (.string f.name) ∧ u.cell? ⟨g, i * 3 + 1, none⟩ = some (.slice av f.bytes.length cv) ∧ u.cell? ⟨g, i * 3 + 2, none⟩ = some (.slice al f.late.length cl) ∧ f.vb = .slice av f.bytes.length cv ∧ f.vl = .slice al f.late.length cl) := fun d1 u hu hd => by
    have hf1 : d1.files[i]? = some f := by rw [hd]; exact hf
    obtain ⟨g, cap, ev, _, _, hg⟩ := hu.vf_form hf1
    obtain ⟨av, cv, eav⟩ := own_any (hu.rb f (List.mem_of_getElem? hf1))
    obtain ⟨al, cl, eal⟩ := own_any (hu.rl f (List.mem_of_getElem? hf1))
    refine ⟨g, cap, av, cv, al, cl, ?_, (hu.fcells hf1 hg).1, ?_, ?_, eav, eal⟩
    · rw [hu.c0, ev, hd]
    · rw [(hu.fcells hf1 hg).2.1, eav]
    · rw [(hu.fcells hf1 hg).2.2, eal]
  have KD : Aside (∀ (d1 : Rs) (u : World), RRep u B b d1 → d1.files = d.files → _) := fun (d1 : Rs) (u : World) hu hf1 => rdrop_any (d := d1) (i := i) (f := f) hu (by rw [hf1]; omega) (by rw [hf1]; exact hf)
  have hle : (d.files.eraseIdx i).length = d.files.length - 1 := List.length_eraseIdx_of_lt hi
  have KF : Aside (∀ (d2 : Rs) (u : World), RRep u B b d2 → d2.files = d.files.eraseIdx i → Calls Try.prog 48 #[.pointer (some ⟨b, 0, none⟩), .string t] u fun e w' => e = .returned (.int .i64 (j : Int)) ∧ w' = u) := fun d2 u hu hf2 => by
    have := at_any hu (by rw [hf2]; omega) t
    rwa [show d2.names = (d.files.eraseIdx i).map Gv.name by unfold Rs.names; rw [hf2], ht] at this
  have d1' : decide ((rSure d.pl n : Int) < (f.bytes.length : Int)) = false := decide_eq_false (by omega)
  have d1'' : decide (rSure d.pl n < f.bytes.length) = false := decide_eq_false hlt
  have hc' := eq_bytes' hc
  have MF : Aside (d.files[i]? = some f) := hf
  have RI : Aside (Rising d.names) := hri
  generalize rSure d.pl n = SU at *
  have KD2 : Aside (∀ (d2 : Rs) (u : World), RRep u B b d2 → d2.files = d.files.eraseIdx i → _) := fun (d2 : Rs) (u : World) hu hf1 => rdrop_any (d := d2) (i := j) (f := f2) hu (by rw [hf1]; omega) (by rw [hf1]; exact hf2)
  have hth' : Aside (has ((d.files.eraseIdx i).map Gv.name) t = true) := hth
  have ht' : Aside (atOf ((d.files.eraseIdx i).map Gv.name) t = (j : Int)) := ht
  have hj : j < (d.files.eraseIdx i).length := (List.getElem?_eq_some_iff.1 hf2).1
  have hle2 : ((d.files.eraseIdx i).eraseIdx j).length = (d.files.eraseIdx i).length - 1 := List.length_eraseIdx_of_lt hj
  clear h ok hp hm hat hf hc ht hth hlt hri hf2
  go_enter Try.func46, Try.ntmps46
  go_wp2_with (first
    | (go_at_call 86; refine kp.mono ?_; rintro e w1 ⟨rfl, d1, h1, p1, f1, g1, s1⟩)
    | (go_at_call 87; refine (km _).mono ?_; rintro e w1' ⟨rfl, rfl⟩)
    | (go_at_call 48; refine (KA.out _ _ h1 f1).mono ?_; rintro e w2 ⟨rfl, rfl⟩; obtain ⟨g, cap, av, cv, al, cl, x0, x1, x2, x3, eb, el⟩ := HF.out _ _ h1 f1))
  have K38 : Aside (∀ q : Later w2, Calls Try.prog 59 #[.pointer (some ⟨b, 0, none⟩), .string n] q.u fun e w' => e = .returned (.int .i64 (SU : Nat)) ∧ Below q.u.heap.size q.u w') := fun q => (KS.out d1 _ (h1.below q.bel) p1).mono fun _ _ ⟨a, b⟩ => ⟨a, b ▸ below_refl _⟩
  have x0q : ∀ q : Later w2, q.u.cell? ⟨b, 0, none⟩ = some (.slice (some ⟨g, 0, none⟩) d.files.length cap) := fun q => cell_below x0 q.bel
  have x1q : ∀ q : Later w2, q.u.cell? ⟨g, i * 3, none⟩ = some (.string f.name) := fun q => cell_below x1 q.bel
  have x2q : ∀ q : Later w2, q.u.cell? ⟨g, i * 3 + 1, none⟩ = some (.slice av f.bytes.length cv) := fun q => cell_below x2 q.bel
  have x3q : ∀ q : Later w2, q.u.cell? ⟨g, i * 3 + 2, none⟩ = some (.slice al f.late.length cl) := fun q => cell_below x3 q.bel
  have H2 : Aside _ := And.intro h1 (And.intro p1 (And.intro g1 (And.intro s1 (And.intro eb el))))
  clear KA KS HF kp km h1 p1 g1 s1 x0 x1 x2 x3 eb el
  have hne := later_some w2
  refine wp_region_later (by kernel_rfl) (by kernel_rfl) ?_
  repeat (go_big_quiet_step ((go_at_call 59; exact calls_later (K38.out _))))
  refine wpQuiet_nil ?_
  rintro _ ⟨q, rfl⟩
  have hqb := q.bel
  have y0 := x0q q
  have y1 := x1q q
  have y2 := x2q q
  have y3 := x3q q
  clear hne x0q x1q x2q x3q K38
  obtain ⟨h1, p1, g1, s1, eb, el⟩ := H2.out
  have h3 := h1.below hqb
  have s3 : Step (d.foot b) (d1.foot b) w q.u := (g1 ▸ s1 : Step (d.foot b) (d1.foot b) w _).trans (Step.ofBelow hqb)
  generalize q.u = w3 at *
  have hM : Aside (∀ u4 : World, u4 = w3.alloc (.cells #[.string t, .slice av f.bytes.length cv, .slice al f.late.length cl] 89) → RRep u4 B b d1 ∧ u4.heap[w3.heap.size]? = some (.cells #[.string t, f.vb, f.vl] 89 (0, 0)) ∧ Step (d.foot b) (d1.foot b) w u4 ∧ w3.heap.size ≠ b) := fun u4 e4 => by
    subst e4
    obtain ⟨a1, a2, a3⟩ := hand_made h3 t (.slice av f.bytes.length cv) (.slice al f.late.length cl)
    exact ⟨a1, by rw [eb, el]; exact a2, s3.trans a3, fun e => by have := h3.b_lt; omega⟩
  have H1 : Aside _ := And.intro p1 (And.intro g1 (And.intro eb el))
  clear h1 p1 g1 s1 eb el s3 hqb H2
  go_wp2_with (first
    | (go_at_call 89; obtain ⟨h4, hX, s4, hxb⟩ := hM.out _ rfl; refine (KD.out _ _ h4 f1).mono ?_; rintro e w5 ⟨rfl, v', h5, s5, k5, n5⟩; have R5 := RHand.taken (f := f) h4 hX hxb (by rw [f1]; exact MF.out) h5 n5 k5; clear KD hM; have f5 : d1.files.eraseIdx i = d.files.eraseIdx i := by rw [f1])
    | (go_at_call 48; refine (KF.out _ _ h5 f5).mono ?_; rintro e w6 ⟨rfl, rfl⟩)
    | (go_at_call 89; refine (KD2.out _ _ h5 f5).mono ?_; rintro e w8 ⟨rfl, v8, h8, s8, k8, n8⟩; have R8 := R5.step h8 s8 k8; obtain ⟨z0, z1, z2⟩ := R8.cells)
    | (go_at_call 88; refine (rput_any (f := { f with name := t }) h8 (by show ((d1.files.eraseIdx i).eraseIdx j).length ≤ 400; rw [f1]; omega) (by show Rising (((d1.files.eraseIdx i).eraseIdx j).map Gv.name); rw [f1]; exact Rising.sub (((List.eraseIdx_sublist _ _).trans (List.eraseIdx_sublist _ _)).map _) RI.out) R8.rb R8.rl R8.fresh R8.nd).mono ?_; rintro e w7 ⟨rfl, v7, h7, s7⟩))
  go_ret
  obtain ⟨p1, g1, eb, el⟩ := H1.out
  refine ⟨rfl, _, h7, ?_, ?_⟩
  · refine (pl_putF (d1 := { d1 with files := (d1.files.eraseIdx i).eraseIdx j, vf := v8 }) (f := { f with name := t })).trans ?_
    have e8 : Rs.pl { d1 with files := (d1.files.eraseIdx i).eraseIdx j, vf := v8 } = (d1.pl.dropAt i).dropAt j :=
      (pl_dropAt (d1 := { d1 with files := d1.files.eraseIdx i, vf := v' })).trans (by rw [pl_dropAt])
    rw [e8, p1]
    unfold RS.moved RS.free1
    have e : (d.pl.spent.dropAt i).names = (d.files.eraseIdx i).map Gv.name := by
      rw [← p1, ← pl_dropAt (v' := v'), rnames_pl]
      show (d1.files.eraseIdx i).map Gv.name = _
      rw [f1]
    rw [e, hth'.out, ht'.out]
    rfl
  · have hob : ∀ k ∈ f.obs, k ∈ d.foot b := fun k hk => rfoot_f (List.mem_of_getElem? MF.out) hk
    have S4 : Step (d.foot b) (d1.foot b ++ f.obs) w _ := s4.weaken (fun k hk => by
      rcases List.mem_append.1 hk with hk | hk
      · exact .inl (by rw [← g1]; exact hk)
      · exact .inl (hob k hk))
    exact ((S4.trans (s5.frame f.obs)).trans (s8.frame f.obs)).trans s7

def rRename (s : RS) (n t : ByteArray) : Int × RS :=
  if s.power then if mayBe t then if has s.names n then match s.files[(atOf s.names n).toNat]? with
    | some f => if rSure s n < f.bytes.length then (8, s.spent) else if cmp n t = 0 then (0, s.spent) else (0, s.spent.moved (atOf s.names n).toNat t f)
    | none => (6, s.spent)
  else (6, s.spent) else (1, s.spent) else (12, s.spent)

theorem rrename_any {w : World} {B b : Nat} {d : Rs} (h : RRep w B b d) (ok : ROk d.pl) (hri : Rising d.names) (n t : ByteArray) (hts : t.size ≤ 1000) :
    Calls Try.prog 46 #[.pointer (some ⟨b, 0, none⟩), .string n, .string t] w fun e w' => e = .returned (.int .i64 (rRename d.pl n t).1) ∧ ∃ d', RRep w' B b d' ∧ d'.pl = (rRename d.pl n t).2 ∧ Step (d.foot b) (d'.foot b) w w' := by
  unfold rRename
  rw [rnames_pl]
  cases hp : d.pl.power with
  | false =>
    have := rrename_early h ok n t hts (.inl hp)
    rw [hp] at this
    exact this
  | true =>
    cases hm : mayBe t with
    | false =>
      have := rrename_early h ok n t hts (.inr hm)
      rw [hp] at this
      exact this
    | true =>
      cases hh : has d.names n with
      | false => exact rrename_none h ok n t hts hp hm hh
      | true =>
        obtain ⟨i, f, hat, hf, hfn, hfm⟩ := atOf_get hh
        rw [hat]
        simp only [if_true, Int.toNat_natCast]
        rw [rpl_get hf]
        simp only
        by_cases hlt : rSure d.pl n < f.bytes.length
        · have := rrename_stay h ok n t hts hp hm hat hf (.inl hlt)
          rw [if_pos hlt] at this
          rw [if_pos (show rSure d.pl n < f.pl.bytes.length from hlt)]
          exact this
        · rw [if_neg (show ¬ rSure d.pl n < f.pl.bytes.length from hlt)]
          by_cases hc : cmp n t = 0
          · have := rrename_stay h ok n t hts hp hm hat hf (.inr hc)
            rw [if_neg hlt] at this
            rw [if_pos hc]
            exact this
          · rw [if_neg hc]
            cases hth : has ((d.files.eraseIdx i).map Gv.name) t with
            | false => exact rrename_free h ok hri n t hts hp hm hat hf hlt hc (at_none hth) hth
            | true =>
              obtain ⟨j, f2, ha2, hf2, _, _⟩ := atOf_get (d := { d with files := d.files.eraseIdx i }) hth
              exact rrename_over h ok hri n t hts hp hm hat hf hlt hc ha2 hth hf2
end Go.Proofs.Ytnmamaeoghgegaa.Dk

/-
  The document's disk: of each place among all that were appended, how many late bytes came ahead of it.
-/
namespace Go.Proofs.Ytnmamaeoghgegaa.Dk
open Go.RowKit
set_option maxRecDepth 100000

def mk1 (l : List Nat) (k : Nat) : Nat := if 2 ≤ k ∧ (k - 1) ∈ l then 1 else 0
def rk (l : List Nat) : Nat → Nat
  | 0 => mk1 l 0
  | k + 1 => rk l k + mk1 l (k + 1)
theorem mk1_le (l : List Nat) (k : Nat) : mk1 l k ≤ 1 := by unfold mk1; split <;> omega
theorem rk_le (l : List Nat) : ∀ k, rk l k ≤ k + 1
  | 0 => mk1_le l 0
  | k + 1 => by have := rk_le l k; have := mk1_le l (k + 1); show rk l k + _ ≤ _; omega

def Marks (L : List Nat) (N : Nat) (l : List Nat) : Prop := L.length = N ∧ ∀ k, k < N → L[k]? = some (mk1 l k)
theorem Marks.start (N : Nat) : Marks (List.replicate N 0) N [] := ⟨by simp, fun k hk => by simp [hk, mk1]⟩
theorem Marks.zero {L : List Nat} {N : Nat} {l : List Nat} (h : Marks L N l) : Marks L N (l ++ [0]) := ⟨h.1, fun k hk => by
  rw [h.2 k hk]
  congr 1
  unfold mk1
  have : (2 ≤ k ∧ k - 1 ∈ l ++ [0]) ↔ (2 ≤ k ∧ k - 1 ∈ l) := by
    constructor
    · rintro ⟨a, b⟩
      refine ⟨a, ?_⟩
      rcases List.mem_append.1 b with b | b
      · exact b
      · have := List.mem_singleton.1 b
        omega
    · rintro ⟨a, b⟩
      exact ⟨a, List.mem_append_left _ b⟩
  simp only [this]⟩
theorem Marks.one {L : List Nat} {N v : Nat} {l : List Nat} (h : Marks L N l) (hv : 0 < v) (hN : v + 1 < N) : Marks (L.set (v + 1) 1) N (l ++ [v]) := ⟨by rw [List.length_set]; exact h.1, fun k hk => by
  rw [List.getElem?_set]
  by_cases e : v + 1 = k
  · rw [if_pos e, if_pos (by rw [h.1]; omega)]
    congr 1
    unfold mk1
    rw [if_pos ⟨by omega, by rw [← e]; simp⟩]
  · rw [if_neg e, h.2 k hk]
    congr 1
    unfold mk1
    have : (2 ≤ k ∧ k - 1 ∈ l ++ [v]) ↔ (2 ≤ k ∧ k - 1 ∈ l) := by
      constructor
      · rintro ⟨a, b⟩
        refine ⟨a, ?_⟩
        rcases List.mem_append.1 b with b | b
        · exact b
        · have := List.mem_singleton.1 b
          omega
      · rintro ⟨a, b⟩
        exact ⟨a, List.mem_append_left _ b⟩
    simp only [this]⟩

def Sums (L : List Nat) (N : Nat) (l : List Nat) (k : Nat) : Prop := L.length = N ∧ ∀ j, j < N → L[j]? = some (if j < k then rk l j else mk1 l j)
theorem Marks.sums {L : List Nat} {N : Nat} {l : List Nat} (h : Marks L N l) : Sums L N l 1 := ⟨h.1, fun j hj => by
  rw [h.2 j hj]
  split
  · obtain rfl : j = 0 := by omega
    rfl
  · rfl⟩
theorem Sums.next {L : List Nat} {N k : Nat} {l : List Nat} (h : Sums L N l k) (h1 : 1 ≤ k) (hk : k < N) : Sums (L.set k (mk1 l k + rk l (k - 1))) N l (k + 1) := ⟨by rw [List.length_set]; exact h.1, fun j hj => by
  rw [List.getElem?_set]
  by_cases e : k = j
  · rw [if_pos e, if_pos (by rw [h.1]; omega), if_pos (by omega), ← e]
    congr 1
    obtain ⟨m, rfl⟩ : ∃ m, k = m + 1 := ⟨k - 1, by omega⟩
    show _ = rk l m + mk1 l (m + 1)
    rw [Nat.add_comm]
    rfl
  · rw [if_neg e, h.2 j hj]
    congr 1
    by_cases h2 : j < k
    · rw [if_pos h2, if_pos (by omega)]
    · rw [if_neg h2, if_neg (by omega)]⟩

/-- A table of numbers in a block. -/
def Tbl (w : World) (X : Nat) (L : List Nat) : Prop := w.heap[X]? = some (.cells (lcells L).toArray 3 (0, 0))
theorem Tbl.cell {w : World} {X k v : Nat} {L : List Nat} (h : Tbl w X L) (hk : L[k]? = some v) : w.cell? ⟨X, k, none⟩ = some (.int .i64 (v : Int)) := by
  rw [cell_of_row w X k _ _ _ h]
  simp [lcells, hk]
theorem Tbl.fz {w : World} {X : Nat} {L : List Nat} (h : Tbl w X L) (k : Nat) : w.frozen? ⟨X, k, none⟩ = false := frozen_of_row w X k _ _ h
theorem Tbl.set {w : World} {X : Nat} {L : List Nat} (h : Tbl w X L) (k v : Nat) : Tbl (w.setCell ⟨X, k, none⟩ (.int .i64 (v : Int))) X (L.set k v) := by
  refine set_same h ?_
  apply Array.ext'
  simp [lcells, List.map_set]
theorem Tbl.lt {w : World} {X : Nat} {L : List Nat} (h : Tbl w X L) : X < w.heap.size := (Array.getElem?_eq_some_iff.1 h).1
theorem Tbl.frame {w w' : World} {X : Nat} {L : List Nat} (h : Tbl w X L) (e : w'.heap[X]? = w.heap[X]?) : Tbl w' X L := e.trans h

theorem below_set {w u : World} {X : Nat} (h : Below w.heap.size w u) (hX : w.heap.size ≤ X) (k : Nat) (v : Value) : Below w.heap.size w (u.setCell ⟨X, k, none⟩ v) :=
  ⟨h.os, h.tape, h.output, by have := h.size; simpa using this, fun j hj => (Below.heap_setCell u ⟨X, k, none⟩ v j (fun e => by have : j = X := e; omega)).trans (h.block j hj)⟩

/-- All late places, file by file. -/
def allG (l : List Gv) : List Nat := l.flatMap Gv.late
theorem allG_next (l : List Gv) (k : Nat) (h : k < l.length) : allG (l.take (k + 1)) = allG (l.take k) ++ l[k]!.late := by
  unfold allG
  rw [List.take_add_one, getbang l k h]
  simp
theorem lates_next (l : List Nat) (j : Nat) (h : j < l.length) : l.take (j + 1) = l.take j ++ [l[j]!] := by
  rw [List.take_add_one, getbang l j h]
  rfl

set_option maxHeartbeats 1600000 in
theorem ranks_any {w : World} {B b : Nat} {d : Rs} (h : RRep w B b d) (ok : ROk d.pl) :
    Calls Try.prog 90 #[.pointer (some ⟨b, 0, none⟩)] w fun e w' => e = .returned (.slice (some ⟨w.heap.size, 0, none⟩) (d.count + 2) (d.count + 2)) ∧ Below w.heap.size w w' ∧ ∃ L, Tbl w' w.heap.size L ∧ L.length = d.count + 2 ∧ ∀ j, j < d.count + 2 → L[j]? = some (rk (allG d.files) j) := by
  have c0 := h.c0
  have c1 := h.c1
  obtain ⟨a, cap, ev, hc'⟩ := h.row
  have hc : Aside (∀ t, t < d.files.length → ∃ g a' c' a'' c'', a = some ⟨g, 0, none⟩ ∧ w.cell? ⟨g, t * 3, none⟩ = some (.string d.files[t]!.name) ∧ w.cell? ⟨g, t * 3 + 1, none⟩ = some (.slice a' d.files[t]!.bytes.length c') ∧ w.cell? ⟨g, t * 3 + 2, none⟩ = some (.slice a'' d.files[t]!.late.length c'') ∧ ∀ k, k < d.files[t]!.late.length → ∃ gl, a'' = some ⟨gl, 0, none⟩ ∧ w.cell? ⟨gl, k, none⟩ = some (.int .i64 (d.files[t]!.late[k]! : Int))) := hc'
  rw [ev] at c0
  have hcnt : d.count ≤ 1000000 := ok.count
  have hfew : d.files.length ≤ 16 := by simpa [Rs.pl] using ok.few
  have hlen : Aside (∀ t, t < d.files.length → d.files[t]!.late.length ≤ 60000) := fun t ht => by
    have hm := List.mem_of_getElem? (getbang d.files t ht)
    have h1 := ok.lates (d.files[t]!).pl (List.mem_map.2 ⟨_, hm, rfl⟩)
    have h2 := mem_le_sum d.pl.files (fun f => f.bytes.length) (x := (d.files[t]!).pl) (List.mem_map.2 ⟨_, hm, rfl⟩)
    have h3 := ok.used
    simp only [Gv.pl] at h1 h2
    omega
  have hsm : Aside (∀ t, t < d.files.length → ∀ j, j < d.files[t]!.late.length → d.files[t]!.late[j]! ≤ d.count) := fun t ht j hj => by
    have hm := List.mem_of_getElem? (getbang d.files t ht)
    exact ok.small (d.files[t]!).pl (List.mem_map.2 ⟨_, hm, rfl⟩) _ (List.mem_of_getElem? (getbang _ j hj))
  have hmk := mk_ints (d.count + 2) (by omega)
  rw [show ((d.count + 2 : Nat) : Int) = (d.count : Int) + 2 by omega] at hmk
  clear hc' h ok ev
  generalize d.files = l at *
  generalize hC : d.count = C at *
  obtain ⟨N, hNC⟩ : ∃ N, N = C + 2 := ⟨_, rfl⟩
  rw [← hNC] at hmk ⊢
  have hN1 : N ≤ C + 2 := by omega
  have hN2 : C + 2 ≤ N := by omega
  clear hNC
  have T0 : Aside (Tbl (w.alloc (.cells (lcells (List.replicate N 0)).toArray 3)) w.heap.size (List.replicate N 0)) := heap_alloc_new w _
  go_enter Try.func90, Try.ntmps90
  go_wp2
  go_loopg [4, 5] l.length (fun gh s4 _ wr => ∃ (k : Nat) (L : List Nat), l.length - k ≤ gh ∧ k ≤ l.length ∧ s4 = .int .i64 (k : Int) ∧ Below w.heap.size w wr ∧ Tbl wr w.heap.size L ∧ Aside (Marks L N (allG (l.take k))))
  case atStart => exact ⟨0, List.replicate N 0, by omega, by omega, rfl, (Below.refl _ _).alloc (Nat.le_refl _) _, T0.out, Marks.start N⟩
  case round =>
    obtain ⟨k, L, hgh, hk, rfl, hb, hT, hM⟩ := hrel
    by_cases hlt : k < l.length
    · have d3 : decide (k < l.length) = true := by simpa using hlt
      obtain ⟨g, a', c', a'', c'', rfl, e0, e1, e2, e3⟩ := hc.out k hlt
      have E3 : Aside _ := e3
      have SM : Aside _ := hsm.out k hlt
      have hle := hlen.out k hlt
      have hn := allG_next l k hlt
      have b0 := cell_below c0 hb
      have b2 := cell_below e2 hb
      generalize hy : l[k]! = y at *
      clear hy e3 e0 e1
      have HN : Aside (allG (l.take (k + 1)) = allG (l.take k) ++ y.late) := hn
      clear hn
      go_wp2
      go_loopg [5] y.late.length (fun gj s5 wq => ∃ (j : Nat) (L : List Nat), y.late.length - j ≤ gj ∧ j ≤ y.late.length ∧ s5 = .int .i64 (j : Int) ∧ Below w.heap.size w wq ∧ Tbl wq w.heap.size L ∧ Aside (Marks L N (allG (l.take k) ++ y.late.take j)))
      case atStart => exact ⟨0, L, by omega, by omega, rfl, hb, hT, by rw [List.take_zero, List.append_nil]; exact hM⟩
      case round =>
        clear hb hT hM b0 b2 L
        obtain ⟨j, L, hgj, hj, rfl, hb, hT, hM⟩ := hrel
        have b0 := cell_below c0 hb
        have b2 := cell_below e2 hb
        by_cases hjl : j < y.late.length
        · have d4 : decide (j < y.late.length) = true := by simpa using hjl
          obtain ⟨gl, rfl, e4⟩ := E3.out j hjl
          have b4 := cell_below e4 hb
          have hv1 := SM.out j hjl
          have hnx := lates_next y.late j hjl
          generalize y.late[j]! = v at *
          have HNX : Aside (y.late.take (j + 1) = y.late.take j ++ [v]) := hnx
          clear hnx e4
          by_cases hv : 0 < v
          · have d5 : decide ((0 : Int) < (v : Int)) = true := by simp; omega
            have d5' : decide (0 < v) = true := by simpa using hv
            have hvN : v + 1 < N := by omega
            obtain ⟨x, hx⟩ : ∃ x, L[v + 1]? = some x := ⟨_, hM.out.2 _ hvN⟩
            have t1 := hT.cell hx
            have t2 := hT.fz (v + 1)
            have TS : Aside _ := hT.set (v + 1) 1
            have BS : Aside _ := below_set hb (Nat.le_refl _) (v + 1) (.int .i64 1)
            have MS : Aside _ := hM.out.one hv hvN
            clear hM hx hT hb
            go_wp2
            go_roundg (y.late.length - (j + 1))
            case measure => omega
            case rel => exact ⟨j + 1, _, Nat.le_refl _, by omega, by go_num, BS.out, TS.out, by rw [HNX.out, ← List.append_assoc]; exact MS⟩
          · obtain rfl : v = 0 := by omega
            have MS : Aside _ := hM.out.zero
            clear hM
            go_wp2
            go_roundg (y.late.length - (j + 1))
            case measure => omega
            case rel => exact ⟨j + 1, L, Nat.le_refl _, by omega, by go_num, hb, hT, by rw [HNX.out, ← List.append_assoc]; exact MS⟩
        · obtain rfl : j = y.late.length := by omega
          have d4 : decide (y.late.length < y.late.length) = false := by simp
          go_wp2
          go_roundg (l.length - (k + 1))
          case measure => omega
          case rel => exact ⟨k + 1, L, Nat.le_refl _, by omega, by go_num, hb, hT, by rw [HN.out]; rw [List.take_of_length_le (Nat.le_refl y.late.length)] at hM; exact hM⟩
    · obtain rfl : k = l.length := by omega
      have d3 : decide (l.length < l.length) = false := by simp
      rw [List.take_of_length_le (Nat.le_refl _)] at hM
      have b0 := cell_below c0 hb
      go_wp2
      go_loopg [6] N (fun gj s6 wq => ∃ (j : Nat) (L : List Nat), N - j ≤ gj ∧ j ≤ N ∧ 1 ≤ j ∧ s6 = .int .i64 (j : Int) ∧ Below w.heap.size w wq ∧ Tbl wq w.heap.size L ∧ Aside (Sums L N (allG l) j))
      case atStart => exact ⟨1, L, by omega, by omega, by omega, rfl, hb, hT, hM.out.sums⟩
      case round =>
        clear hb hT hM L
        obtain ⟨j, L, hgj, hj, hj1, rfl, hb, hT, hM⟩ := hrel
        by_cases hjl : j < N
        · have d4 : decide (j < N) = true := by simpa using hjl
          have x1 := hM.out.2 j hjl
          have x2 := hM.out.2 (j - 1) (by omega)
          rw [if_neg (by omega)] at x1
          rw [if_pos (by omega)] at x2
          have t1 := hT.cell x1
          have t2 := hT.cell x2
          have t3 := hT.fz j
          have q1 := mk1_le (allG l) j
          have q2 := rk_le (allG l) (j - 1)
          have hj' : ((j - 1 : Nat) : Int) = (j : Int) - 1 := by omega
          have MS : Aside _ := hM.out.next hj1 hjl
          generalize mk1 (allG l) j = p at *
          generalize rk (allG l) (j - 1) = r at *
          have TS : Aside (∀ u : World, u.heap = wr.heap → Tbl (u.setCell ⟨w.heap.size, j, none⟩ (.int .i64 ((p : Int) + (r : Int)))) w.heap.size (L.set j (p + r))) := fun u hu => by
            have := (hT.frame (w' := u) (by rw [hu])).set j (p + r)
            rwa [Int.natCast_add] at this
          have BS : Aside _ := below_set hb (Nat.le_refl _) j (.int .i64 ((p : Int) + (r : Int)))
          clear hM x1 x2
          go_wp2
          go_region
          go_wp2
          go_roundg (N - (j + 1))
          case measure => omega
          case rel => exact ⟨j + 1, _, Nat.le_refl _, by omega, by omega, by go_num, BS.out.drew, TS.out wr rfl, MS⟩
        · obtain rfl : j = N := by omega
          have d4 : decide (j < j) = false := by simp
          go_wp2
          go_ret
          refine ⟨rfl, hb, L, hT, hM.out.1, fun i hi => ?_⟩
          rw [hM.out.2 i hi, if_pos hi]
end Go.Proofs.Ytnmamaeoghgegaa.Dk

/-
  Crash: what lasts, and what is cut.
-/
namespace Go.Proofs.Ytnmamaeoghgegaa.Dk
open Go.RowKit
set_option maxRecDepth 100000

def surerV (l : List Fv) (n : ByteArray) (k : Nat) : List Fv := l.map fun f => if cmp f.name n = 0 then ⟨f.name, f.bytes, f.sure + k, f.v⟩ else f
def cutF (f : Fv) : Fv := f.settled f.sure

theorem surerV_pl (l : List Fv) (n : ByteArray) (k : Nat) : (surerV l n k).map Fv.pl = surer (l.map Fv.pl) n k := by
  unfold surerV surer
  rw [List.map_map, List.map_map]
  refine List.map_congr_left fun f _ => ?_
  show Fv.pl (if _ then _ else _) = (if cmp f.name n = 0 then _ else _)
  split <;> rfl
theorem cutF_pl (l : List Fv) : (l.map cutF).map Fv.pl = cutAll (l.map Fv.pl) := by
  unfold cutAll
  rw [List.map_map, List.map_map]
  rfl
theorem surerV_names (l : List Fv) (n : ByteArray) (k : Nat) : (surerV l n k).map Fv.name = l.map Fv.name := by
  unfold surerV
  rw [List.map_map]
  refine List.map_congr_left fun f _ => ?_
  show Fv.name (if _ then _ else _) = _
  split <;> rfl
theorem surerV_v (l : List Fv) (n : ByteArray) (k : Nat) : (surerV l n k).map Fv.v = l.map Fv.v := by
  unfold surerV
  rw [List.map_map]
  refine List.map_congr_left fun f _ => ?_
  show Fv.v (if _ then _ else _) = _
  split <;> rfl

theorem surerV_set {l : List Fv} {n : ByteArray} {k i : Nat} {f : Fv} (hn : (l.map Fv.name).Nodup) (hf : l[i]? = some f) (he : f.name = n) : surerV l n k = l.set i ⟨f.name, f.bytes, f.sure + k, f.v⟩ := by
  obtain ⟨A, C, e1, e2, _⟩ := split_at hf (⟨f.name, f.bytes, f.sure + k, f.v⟩ : Fv)
  rw [e2]
  unfold surerV
  rw [e1] at hn ⊢
  rw [List.map_append, List.map_cons] at hn ⊢
  obtain ⟨_, h2, h3⟩ := List.nodup_append.1 hn
  have h4 := (List.nodup_cons.1 h2).1
  congr 1
  · conv => rhs; rw [← List.map_id A]
    refine List.map_congr_left fun x hx => if_neg fun hc => ?_
    exact h3 x.name (List.mem_map.2 ⟨x, hx, rfl⟩) f.name List.mem_cons_self ((cmp_zero.1 hc).trans he.symm)
  · congr 1
    · exact if_pos (by rw [he]; exact cmp_self n)
    · conv => rhs; rw [← List.map_id C]
      refine List.map_congr_left fun x hx => if_neg fun hc => ?_
      exact h4 (List.mem_map.2 ⟨x, hx, (cmp_zero.1 hc).trans he.symm⟩)

theorem foot_same {b : Nat} {d : Ds} {L : List Fv} (h : L.map Fv.v = d.files.map Fv.v) : Ds.foot b { d with files := L } = d.foot b := by
  unfold Ds.foot
  simp only
  have e : ∀ l : List Fv, (l.flatMap fun f => ob f.v) = (l.map Fv.v).flatMap ob := fun l => by rw [List.flatMap_map]
  rw [e, e, h]

theorem Rep.setSure {w : World} {B b g i : Nat} {d : Ds} {f : Fv} (h : Rep w B b d) (hf : d.files[i]? = some f) (hg : d.vf.ownBlock = some g) (m : Nat) :
    Rep (w.setCell ⟨g, i * 3 + 2, none⟩ (.int .i64 (m : Int))) B b { d with files := d.files.set i ⟨f.name, f.bytes, m, f.v⟩ } ∧ Step (d.foot b) (d.foot b) w (w.setCell ⟨g, i * 3 + 2, none⟩ (.int .i64 (m : Int))) := by
  have hi : i < d.files.length := (List.getElem?_eq_some_iff.1 hf).1
  refine h.setFile hf hg ?_ (grown_set (grown_refl w _) _ _) rfl (h.rows f (List.mem_of_getElem? hf))
  rw [flat_sets d.files i f ⟨f.name, f.bytes, m, f.v⟩ hf rfl rfl]
  exact own_set h.tab hg (i * 3 + 2) (by omega) _

theorem Rep.setCut {w : World} {B b g i : Nat} {d : Ds} {f : Fv} (h : Rep w B b d) (hf : d.files[i]? = some f) (hg : d.vf.ownBlock = some g) (hs : f.sure ≤ f.bytes.length) :
    Rep (w.setCell ⟨g, i * 3 + 1, none⟩ (cutV f.v f.sure)) B b { d with files := d.files.set i (cutF f) } ∧ Step (d.foot b) (d.foot b) w (w.setCell ⟨g, i * 3 + 1, none⟩ (cutV f.v f.sure)) := by
  have hi : i < d.files.length := (List.getElem?_eq_some_iff.1 hf).1
  obtain ⟨h1, h2⟩ := own_cutV (h.rows f (List.mem_of_getElem? hf)) f.sure hs
  refine h.setFile hf hg ?_ (grown_set (grown_refl w _) _ _) h2 ?_
  · rw [flat_setv d.files i f (cutF f) hf rfl rfl]
    exact own_set h.tab hg (i * 3 + 1) (by omega) _
  · have e : (cutF f).bytes.length = f.sure := by show (f.bytes.take f.sure).length = _; rw [List.length_take]; omega
    rw [e]
    show w.ownsRow B 5 1 (cutV f.v f.sure) f.sure (bcells (f.bytes.take f.sure))
    rw [← bcells_take]
    exact h1

theorem Rep.noPieces {w : World} {B b : Nat} {d : Ds} (h : Rep w B b d) :
    Rep (w.setCell ⟨b, 1, none⟩ (.slice none 0 0)) B b { d with pieces := [], vp := .slice none 0 0 } ∧ Step (d.foot b) (Ds.foot b { d with pieces := [], vp := .slice none 0 0 }) w (w.setCell ⟨b, 1, none⟩ (.slice none 0 0)) := by
  have hsub : (Ds.foot b { d with pieces := [], vp := .slice none 0 0 }).Sublist (d.foot b) := by
    unfold Ds.foot
    exact (((List.sublist_append_right _ _)).append_left _).cons_cons _
  have keep : ∀ k, k ≠ b → (w.setCell ⟨b, 1, none⟩ (.slice none 0 0)).heap[k]? = w.heap[k]? := fun k hk => Below.heap_setCell w ⟨b, 1, none⟩ _ k hk
  exact ⟨⟨h.ge, set_same h.blk rfl, own_frame h.tab fun k hk => keep k (h.b_vf hk), World.ownsRow_nil _ _ _ _, fun f hf => own_frame (h.rows f hf) fun k hk => keep k (h.b_f hf hk), h.nodup.sublist hsub⟩, (Step.setb w foot_b 1 _).trans ⟨rfl, rfl, rfl, Nat.le_refl _, fun _ _ _ => rfl, fun k hk => .inl (hsub.subset hk)⟩⟩

theorem wait_pos {n : ByteArray} {p : Pc} {l : List Pc} (h : p.name = n) : wait n (p :: l) = p.size + wait n l := by rw [wait_cons, if_pos (by rw [h]; exact cmp_self n)]
theorem wait_neg {n : ByteArray} {p : Pc} {l : List Pc} (h : ¬ p.name = n) : wait n (p :: l) = wait n l := by rw [wait_cons, if_neg (fun e => h (cmp_zero.1 e)), Nat.zero_add]

/-- The files, so many of which are cut. -/
def cutUpto (l : List Fv) (k : Nat) : List Fv := (l.take k).map cutF ++ l.drop k
theorem cutUpto_next {l : List Fv} {k : Nat} {f : Fv} (hf : l[k]? = some f) : (cutUpto l k)[k]? = some f ∧ cutUpto l (k + 1) = (cutUpto l k).set k (cutF f) := by
  have hk : k < l.length := (List.getElem?_eq_some_iff.1 hf).1
  have hl : ((l.take k).map cutF).length = k := by rw [List.length_map, List.length_take]; omega
  unfold cutUpto
  have hd : l.drop k = f :: l.drop (k + 1) := by rw [List.drop_eq_getElem_cons hk, (List.getElem?_eq_some_iff.1 hf).2]
  refine ⟨?_, ?_⟩
  · rw [List.getElem?_append_right (by omega), hl, Nat.sub_self, hd]
    rfl
  · rw [List.set_append_right _ _ (by omega), hl, Nat.sub_self, hd, List.take_add_one, hf]
    simp
theorem cutUpto_len (l : List Fv) (k : Nat) : (cutUpto l k).length = l.length := by
  unfold cutUpto
  rw [List.length_append, List.length_map, List.length_take, List.length_drop]
  omega
theorem cutUpto_all (l : List Fv) : cutUpto l l.length = l.map cutF := by simp [cutUpto]
end Go.Proofs.Ytnmamaeoghgegaa.Dk

/-
  Crash.
-/
namespace Go.Proofs.Ytnmamaeoghgegaa.Dk
open Go.RowKit
set_option maxRecDepth 100000

theorem lasts_cons (l : List F) (p : Pc) (r : List Pc) (left : Nat) : lasts l (p :: r) left = lasts (surer l p.name (min p.size left)) r (left - min p.size left) := rfl

theorem surerV_b (l : List Fv) (n : ByteArray) (k : Nat) : (surerV l n k).map Fv.bytes = l.map Fv.bytes := by
  unfold surerV
  rw [List.map_map]
  refine List.map_congr_left fun f _ => ?_
  show Fv.bytes (if _ then _ else _) = _
  split <;> rfl

theorem Step.drew {a c : List Nat} {u w : World} (h : Step a c u w) : Step a c u w.drew := ⟨h.os, h.tape, h.output, h.size, h.block, h.sub⟩

/-- Behind so many pieces. -/
structure Mid (w0 w : World) (B b : Nat) (d : Ds) (L : List Fv) (k : Nat) (goal : List F) (left : Nat) : Prop where
  rep : Rep w B b { d with files := L }
  step : Step (d.foot b) (d.foot b) w0 w
  names : L.map Fv.name = d.files.map Fv.name
  vs : L.map Fv.v = d.files.map Fv.v
  bts : L.map Fv.bytes = d.files.map Fv.bytes
  goal : lasts (L.map Fv.pl) (d.pieces.drop k) left = goal
  bound : ∀ f ∈ L, f.sure + wait f.name (d.pieces.drop k) ≤ f.bytes.length

theorem mem_surerV {l : List Fv} {n : ByteArray} {m : Nat} {x : Fv} (h : x ∈ surerV l n m) : ∃ f ∈ l, x = if cmp f.name n = 0 then ⟨f.name, f.bytes, f.sure + m, f.v⟩ else f := by
  obtain ⟨f, hf, e⟩ := List.mem_map.1 h
  exact ⟨f, hf, e.symm⟩

theorem Mid.next {w0 w w' : World} {B b g i k left : Nat} {d : Ds} {L : List Fv} {goal : List F} {f : Fv} {p : Pc} (h : Mid w0 w B b d L k goal left) (hb : Below w.heap.size w w') (hr : (d.files.map Fv.name).Nodup) (hp : d.pieces[k]? = some p) (hf : L[i]? = some f) (hn : f.name = p.name) (hg : d.vf.ownBlock = some g) :
    Mid w0 (w'.setCell ⟨g, i * 3 + 2, none⟩ (.int .i64 ((f.sure + min p.size left : Nat) : Int))) B b d (surerV L p.name (min p.size left)) (k + 1) goal (left - min p.size left) := by
  have hk : k < d.pieces.length := (List.getElem?_eq_some_iff.1 hp).1
  have hd : d.pieces.drop k = p :: d.pieces.drop (k + 1) := by rw [List.drop_eq_getElem_cons hk, (List.getElem?_eq_some_iff.1 hp).2]
  have hs := surerV_set (k := min p.size left) (by rw [h.names]; exact hr) hf hn
  have hR := (h.rep.below hb).setSure hf hg (f.sure + min p.size left)
  rw [foot_same h.vs] at hR
  refine ⟨by rw [hs]; exact hR.1, (h.step.trans (Step.ofBelow hb)).trans hR.2, (surerV_names _ _ _).trans h.names, (surerV_v _ _ _).trans h.vs, (surerV_b _ _ _).trans h.bts, ?_, ?_⟩
  · rw [← h.goal, hd, lasts_cons, surerV_pl]
  · intro x hx
    obtain ⟨y, hy, e⟩ := mem_surerV hx
    have := h.bound y hy
    rw [hd] at this
    by_cases hc : cmp y.name p.name = 0
    · rw [if_pos hc] at e
      rw [wait_pos (cmp_zero.1 hc).symm] at this
      rw [e]
      show y.sure + min p.size left + wait y.name _ ≤ y.bytes.length
      omega
    · rw [if_neg hc] at e
      rw [wait_neg (fun e => hc (by rw [e]; exact cmp_self _))] at this
      rw [e]
      exact this

set_option maxHeartbeats 4000000 in
theorem crash_any {w : World} {B b : Nat} {d : Ds} (h : Rep w B b d) (ok : Ok d.pl) (last : Int) (hlast : last ≤ 9223372036854775807) :
    Calls Try.prog 52 #[.pointer (some ⟨b, 0, none⟩), .int .i64 last] w fun e w' => e = .returned (.tuple #[]) ∧ ∃ d', Rep w' B b d' ∧ d'.pl = opCrash d.pl last ∧ Step (d.foot b) (d'.foot b) w w' := by
  have c1 := h.c1
  have hfew := ok.dfew
  have hpc := ok.dpieces
  have hrise := ok.rise
  have hbytes : Aside (∀ f ∈ d.files, f.bytes.length ≤ 60000) := fun f hf => ok.dbytes hf
  obtain ⟨ap, cp, eap⟩ := own_any h.pcs
  have hst : Aside (Mid w w B b d d.files 0 (lasts d.pl.files d.pl.pieces last.toNat) last.toNat) := ⟨h, Step.refl _ _, rfl, rfl, rfl, rfl, fun f hf => Nat.le_of_eq (ok.waits f.pl (List.mem_map.2 ⟨f, hf, rfl⟩))⟩
  have hnm : Aside (∀ t, t < d.pieces.length → d.pieces[t]!.name ∈ d.names) := fun t ht => by
    have := ok.named _ (List.mem_of_getElem? (getbang d.pieces t ht))
    rwa [names_pl] at this
  have HB : Aside (∀ L : List Fv, L.map Fv.name = d.files.map Fv.name → L.map Fv.v = d.files.map Fv.v → L.length = d.files.length) := fun L h1 _ => by have := congrArg List.length h1; simpa using this
  rw [eap] at c1
  have emax : max last 0 = ((last.toNat : Nat) : Int) := by omega
  have hln : last.toNat ≤ 9223372036854775807 := by omega
  unfold opCrash
  generalize hG : lasts d.pl.files d.pl.pieces last.toNat = GOAL at *
  generalize hLN : last.toNat = LN at *
  clear h hG hLN hlast
  generalize hPN : d.pieces.length = PN at *
  go_enter Try.func52, Try.ntmps52
  go_wp2
  go_loopg [4, 6, 7, 8, 9, 21] PN (fun gh s4 _ _ _ _ s21 wr => ∃ (k left : Nat) (L : List Fv), PN - k ≤ gh ∧ k ≤ PN ∧ s4 = .int .i64 (left : Int) ∧ left ≤ 9223372036854775807 ∧ s21 = .int .i64 (k : Int) ∧ Aside (Mid w wr B b d L k GOAL left))
  case atStart => exact ⟨0, LN, d.files, by omega, by omega, rfl, hln, rfl, hst⟩
  case round =>
    obtain ⟨k, left, L, hgh, hk, rfl, hleft, rfl, M⟩ := hrel
    by_cases hlt : k < PN
    · have d3 : decide (k < PN) = true := by simpa using hlt
      have hkp : k < d.pieces.length := by omega
      have hpk := getbang d.pieces k hkp
      have hmem := hnm.out k (by omega)
      obtain ⟨a1, c1', ev1, hrow⟩ := M.out.rep.prow
      obtain ⟨gp, ea1, e0, e1⟩ := hrow k hkp
      dsimp only at ev1 e0 e1
      rw [eap] at ev1
      injection ev1 with ev1 ev2 ev3
      subst ev1 ev3
      clear ev2
      subst ea1
      generalize hp : d.pieces[k]! = p at *
      have hL := HB.out L M.out.names M.out.vs
      have hRL : Rising (Ds.names { d with files := L }) := by show Rising (L.map Fv.name); rw [M.out.names]; exact hrise
      have hhas : has (Ds.names { d with files := L }) p.name = true := by rw [has_iff]; show p.name ∈ L.map Fv.name; rw [M.out.names]; exact hmem
      obtain ⟨f, hf, hfn, hfm⟩ := dhas_get (d := { d with files := L }) hRL hhas
      have kf : Aside (∀ u : World, Rep u B b { d with files := L } → _) := fun u hu => find_any hu hRL (show L.length ≤ 1000 by omega) p.name
      rw [hhas] at kf
      generalize hi : place (Ds.names { d with files := L }) p.name = i at *
      replace hf : L[i]? = some f := hf
      have hil : i < L.length := (List.getElem?_eq_some_iff.1 hf).1
      obtain ⟨g, cap, ev, hcap, hcm, hg⟩ := M.out.rep.vf_form hf
      have hbd := M.out.bound f hfm
      have hwp : wait f.name (d.pieces.drop k) = p.size + wait f.name (d.pieces.drop (k + 1)) := by
        rw [List.drop_eq_getElem_cons hkp, (List.getElem?_eq_some_iff.1 hpk).2]
        exact wait_pos hfn.symm
      have hfb : f.bytes.length ≤ 60000 := by
        have : f.bytes ∈ d.files.map Fv.bytes := by rw [← M.out.bts]; exact List.mem_map.2 ⟨f, hfm, rfl⟩
        obtain ⟨y, hy, e⟩ := List.mem_map.1 this
        rw [← e]
        exact hbytes.out y hy
      rw [hwp] at hbd
      obtain ⟨m, hm⟩ : ∃ m : Nat, m = min p.size left := ⟨_, rfl⟩
      have hml : m ≤ left ∧ m ≤ p.size := by omega
      have EM : Aside ((m : Int) = min (p.size : Int) (left : Int)) := (by omega : (m : Int) = min (p.size : Int) (left : Int))
      have HX : Aside (∀ u : World, Below wr.heap.size wr u → u.cell? ⟨b, 0, none⟩ = some (.slice (some ⟨g, 0, none⟩) L.length cap) ∧ u.cell? ⟨g, i * 3 + 2, none⟩ = some (.int .i64 (f.sure : Int)) ∧ u.frozen? ⟨g, i * 3 + 2, none⟩ = false) := fun u hu => by
        have hr := M.out.rep.below hu
        exact ⟨by rw [hr.c0]; exact congrArg some ev, (hr.fcells hf hg).2.2, own_frozen hr.tab hg _⟩
      have MN : Aside (∀ u : World, Below wr.heap.size wr u → Mid w (u.setCell ⟨g, i * 3 + 2, none⟩ (.int .i64 ((f.sure + m : Nat) : Int))) B b d (surerV L p.name m) (k + 1) GOAL (left - m)) := fun u hu => by
        rw [hm]
        exact M.out.next hu hrise.nodup hpk hf hfn hg
      have hbA : ∀ o : Obj, Below wr.heap.size wr (wr.alloc o) := fun o => (Below.refl _ _).alloc (Nat.le_refl _) o
      have MR : Aside (∀ o : Obj, Rep (wr.alloc o) B b { d with files := L }) := fun o => M.out.rep.below (hbA o)
      have hw1 : IntKind.i64.wrap ((left : Int) - (m : Int)) = (left : Int) - (m : Int) := by rw [IntKind.wrap_i64]; omega
      have hw2 : IntKind.i64.wrap ((f.sure : Int) + (m : Int)) = (f.sure : Int) + (m : Int) := by rw [IntKind.wrap_i64]; omega
      have hLn : L.length ≤ 16 := by omega
      rw [EM.out] at hw1 hw2
      have hml1 := hml.1
      clear hml
      clear hm hst hwp hhas hRL hmem hpk hf hfn hfm M hp hi ev hg hbd hrow
      go_wp2_with (go_at_call 33; refine (kf.out _ (MR.out _)).mono ?_; rintro e w2 ⟨rfl, hb2⟩; have hb3 := (hbA _).trans (hb2.mono (hbA _).size); obtain ⟨x0, x1, x2⟩ := HX.out _ hb3)
      go_roundg (PN - (k + 1))
      case measure => omega
      case rel => exact ⟨k + 1, left - m, surerV L p.name m, Nat.le_refl _, by omega, by rw [show ((left - m : Nat) : Int) = (left : Int) - (m : Int) by omega, EM.out], by omega, by go_num, by have := MN.out _ hb3; rwa [show ((f.sure + m : Nat) : Int) = (f.sure : Int) + (m : Int) by omega, EM.out] at this⟩
    · obtain rfl : k = PN := by omega
      have d3 : decide (k < k) = false := by simp
      have hgoal : Aside (L.map Fv.pl = GOAL) := by
        have := M.out.goal
        rw [List.drop_of_length_le (by omega)] at this
        exact this
      have hsure : Aside (∀ f ∈ L, f.sure ≤ f.bytes.length ∧ f.bytes.length ≤ 60000) := fun f hf => by
        refine ⟨by have := M.out.bound f hf; omega, ?_⟩
        have : f.bytes ∈ d.files.map Fv.bytes := by rw [← M.out.bts]; exact List.mem_map.2 ⟨f, hf, rfl⟩
        obtain ⟨y, hy, e⟩ := List.mem_map.1 this
        rw [← e]
        exact hbytes.out y hy
      have hL := HB.out L M.out.names M.out.vs
      have xc1 := M.out.rep.c1
      have xf1 := M.out.rep.fz 1
      have hN := M.out.rep.noPieces
      dsimp only at hN xc1
      obtain ⟨af, cf, eaf⟩ := own_any hN.1.tab
      have xc0 := hN.1.c0
      dsimp only at eaf xc0
      rw [eaf] at xc0
      rw [eap] at xc1
      have N0 : Aside (Rep (wr.setCell ⟨b, 1, none⟩ (.slice none 0 0)) B b ⟨L, [], d.vf, .slice none 0 0, d.room, d.fused, d.fuse, d.down⟩ ∧ Step (d.foot b) (Ds.foot b ⟨L, [], d.vf, .slice none 0 0, d.room, d.fused, d.fuse, d.down⟩) w (wr.setCell ⟨b, 1, none⟩ (.slice none 0 0))) := ⟨hN.1, by
        have := hN.2
        rw [show Ds.foot b ⟨L, d.pieces, d.vf, d.vp, d.room, d.fused, d.fuse, d.down⟩ = d.foot b from foot_same M.out.vs] at this
        exact M.out.step.trans this⟩
      clear hN M hst hbytes HB hnm hgh hleft hk hlt
      have hLn : L.length ≤ 16 := by omega
      generalize hLL : L.length = LL at *
      clear eap ok emax hln hrise hpc hPN
      go_wp2
      clear xc1 xf1
      generalize wr.setCell ⟨b, 1, none⟩ (.slice none 0 0) = w3 at *
      go_loopg [10, 11, 60] LL (fun gh _ _ s60 wq => ∃ k : Nat, LL - k ≤ gh ∧ k ≤ LL ∧ s60 = .int .i64 (k : Int) ∧ Aside (Rep wq B b ⟨cutUpto L k, [], d.vf, .slice none 0 0, d.room, d.fused, d.fuse, d.down⟩ ∧ Step (d.foot b) (Ds.foot b ⟨cutUpto L k, [], d.vf, .slice none 0 0, d.room, d.fused, d.fuse, d.down⟩) w wq))
      case atStart => exact ⟨0, by omega, by omega, rfl, (by simpa [cutUpto] using N0.out : Rep w3 B b ⟨cutUpto L 0, [], d.vf, .slice none 0 0, d.room, d.fused, d.fuse, d.down⟩ ∧ Step (d.foot b) (Ds.foot b ⟨cutUpto L 0, [], d.vf, .slice none 0 0, d.room, d.fused, d.fuse, d.down⟩) w w3)⟩
      case round =>
        obtain ⟨k2, hgh, hk2, rfl, R⟩ := hrel
        by_cases hlt : k2 < LL
        · have d4 : decide (k2 < LL) = true := by simpa using hlt
          have hfk := getbang L k2 (by omega)
          obtain ⟨hs1, hs2⟩ := hsure.out _ (List.mem_of_getElem? hfk)
          obtain ⟨hcu, hcn⟩ := cutUpto_next hfk
          have hdl := cutUpto_len L k2
          generalize L[k2]! = f at *
          obtain ⟨g, cap, ev, hcap, hcm, hg⟩ := R.out.1.vf_form hcu
          dsimp only at ev hg hcap
          rw [hdl, hLL] at ev hcap
          rw [eaf] at ev
          injection ev with ev1 ev2 ev3
          subst ev1 ev3
          clear ev2
          obtain ⟨y0, y1, y2⟩ := R.out.1.fcells hcu hg
          obtain ⟨av, cv, eav⟩ := own_any (R.out.1.rows _ (List.mem_of_getElem? hcu))
          have hav : f.bytes.length ≤ cv ∧ cv ≤ 9223372036854775807 ∧ (av = none → cv = 0) := by
            rcases (R.out.1.rows _ (List.mem_of_getElem? hcu)).2 with ⟨e, e'⟩ | ⟨g', cap', cur, e, _, _, h3, h4, _⟩
            · rw [eav] at e
              injection e with e1 e2 e3
              omega
            · rw [eav] at e
              injection e with e1 e2 e3
              subst e3
              refine ⟨h3, by unfold maxLen at h4; omega, fun e => ?_⟩
              rw [e] at e1
              cases e1
          obtain ⟨hv1, hv2, hv3⟩ := hav
          have hsc : f.sure ≤ cv := by omega
          have x0 := R.out.1.c0
          dsimp only at x0
          rw [eaf] at x0
          have hbA : ∀ o : Obj, Below wr.heap.size wr (wr.alloc o) := fun o => (Below.refl _ _).alloc (Nat.le_refl _) o
          have x0A : ∀ o : Obj, (wr.alloc o).cell? ⟨b, 0, none⟩ = some (.slice (some ⟨g, 0, none⟩) LL cf) := fun o => cell_below x0 (hbA o)
          have y1A : ∀ o : Obj, (wr.alloc o).cell? ⟨g, k2 * 3 + 1, none⟩ = some (.slice av f.bytes.length cv) := fun o => by rw [← eav]; exact cell_below y1 (hbA o)
          have yf : ∀ o : Obj, (wr.alloc o).frozen? ⟨g, k2 * 3 + 1, none⟩ = false := fun o => own_frozen (R.out.1.below (hbA o)).tab hg _
          have n1 : ¬ b = wr.heap.size := by have := R.out.1.b_lt; omega
          have n2 : ¬ g = wr.heap.size := by have := (R.out.1.tab.lt g hg).2; omega
          have n1' : ¬ wr.heap.size = b := fun e => n1 e.symm
          have n2' : ¬ wr.heap.size = g := fun e => n2 e.symm
          have RN : Aside (∀ o : Obj, Rep ((wr.alloc o).setCell ⟨g, k2 * 3 + 1, none⟩ (.slice av f.sure cv)) B b ⟨cutUpto L (k2 + 1), [], d.vf, .slice none 0 0, d.room, d.fused, d.fuse, d.down⟩ ∧ Step (d.foot b) (Ds.foot b ⟨cutUpto L (k2 + 1), [], d.vf, .slice none 0 0, d.room, d.fused, d.fuse, d.down⟩) w ((wr.alloc o).setCell ⟨g, k2 * 3 + 1, none⟩ (.slice av f.sure cv))) := fun o => by
            have hh := (R.out.1.below (hbA o)).setCut hcu hg hs1
            rw [eav] at hh
            rw [hcn]
            refine ⟨hh.1, (R.out.2.trans (Step.ofBelow (hbA o))).trans ?_⟩
            have e : Ds.foot b ⟨(cutUpto L k2).set k2 (cutF f), [], d.vf, .slice none 0 0, d.room, d.fused, d.fuse, d.down⟩ = Ds.foot b ⟨cutUpto L k2, [], d.vf, .slice none 0 0, d.room, d.fused, d.fuse, d.down⟩ := by
              unfold Ds.foot
              simp only
              rw [flatMap_set_same (fun f => ob f.v) (cutUpto L k2) k2 f (cutF f) hcu (ob_eq (own_cutV (R.out.1.rows _ (List.mem_of_getElem? hcu)) f.sure hs1).2)]
            rw [e]
            exact hh.2
          rw [eav] at y1
          clear R hsure hgoal N0 hcu hcn hfk eaf eav hg
          cases av with
          | none =>
            obtain rfl := hv3 rfl
            have z0 : f.sure = 0 := by omega
            have z1 : f.bytes.length = 0 := by omega
            generalize f.sure = fs at *
            generalize f.bytes.length = fl at *
            subst z0 z1
            go_wp2
            go_region
            all_goals
              go_wp2
              go_roundg (LL - (k2 + 1))
              case measure => omega
              case rel => exact ⟨k2 + 1, Nat.le_refl _, by omega, by go_num, ⟨(RN.out _).1.drew, (RN.out _).2.drew⟩⟩
          | some ad =>
            go_wp2
            go_region
            all_goals
              go_wp2
              go_roundg (LL - (k2 + 1))
              case measure => omega
              case rel => exact ⟨k2 + 1, Nat.le_refl _, by omega, by go_num, ⟨(RN.out _).1.drew, (RN.out _).2.drew⟩⟩
        · obtain rfl : k2 = LL := by omega
          have d4 : decide (k2 < k2) = false := by simp
          have x3 := R.out.1.c3
          have x4 := R.out.1.c4
          have x5 := R.out.1.c5
          have f3 := R.out.1.fz 3
          have f4 := R.out.1.fz 4
          have f5 := R.out.1.fz 5
          have hall : Aside (cutUpto L k2 = L.map cutF) := by
            show _ = _
            rw [← hLL]
            exact cutUpto_all L
          clear hsure N0 hLL
          go_wp2
          go_end0
          refine ⟨rfl, ⟨cutUpto L k2, [], d.vf, .slice none 0 0, d.room, false, 0, false⟩, R.out.1.scal rfl rfl rfl rfl (set_same (set_same (set_same R.out.1.blk rfl) rfl) rfl) (fun k hk => (Below.heap_setCell _ _ _ _ hk).trans ((Below.heap_setCell _ _ _ _ hk).trans (Below.heap_setCell _ _ _ _ hk))), ?_, R.out.2.trans (((Step.setb _ foot_b _ _).trans (Step.setb _ foot_b _ _)).trans (Step.setb _ foot_b _ _))⟩
          rw [hall.out]
          unfold Ds.pl
          simp only
          rw [cutF_pl, hgoal.out]
end Go.Proofs.Ytnmamaeoghgegaa.Dk
