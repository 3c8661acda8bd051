/-
  Ytnmamaeoghgegaa: the texts DR8, DR9, DP1, one behind the other.
-/
import Derived.Test.YtnmamaeoghgegaaG13
/-
  The document's disk: Cut.
-/
namespace Go.Proofs.Ytnmamaeoghgegaa.Dk
open Go.RowKit
set_option maxRecDepth 100000

theorem rcut_early {w : World} {B b : Nat} {d : Rs} (h : RRep w B b d) (ok : ROk d.pl) (n : ByteArray) (k : Int) (hq : d.pl.power = false ∨ has d.names n = false) :
    Calls Try.prog 51 #[.pointer (some ⟨b, 0, none⟩), .string n, .int .i64 k] w fun e w' => e = .returned (.int .i64 (if d.pl.power then 6 else 12)) ∧ ∃ d', RRep w' B b d' ∧ d'.pl = d.pl.spent ∧ Step (d.foot b) (d'.foot b) w w' := by
  have kp := rpower_any h ok.left
  have hfew := ok.dfew
  cases hp : d.pl.power with
  | false =>
    rw [hp] at kp
    clear h
    go_enter Try.func51, Try.ntmps51
    go_wp2_with (go_at_call 86; refine kp.mono ?_; rintro e w1 ⟨rfl, d1, h1, p1, f1, g1, s1⟩)
    go_ret
    exact ⟨rfl, d1, h1, p1, g1 ▸ s1⟩
  | true =>
    rw [hp] at kp hq
    have hh : has d.names n = false := by
      rcases hq with e | e
      · cases e
      · exact e
    have KA : Aside (∀ (d1 : Rs) (u : World), RRep u B b d1 → d1.files = d.files → Calls Try.prog 48 #[.pointer (some ⟨b, 0, none⟩), .string n] u fun e w' => e = .returned (.int .i64 (atOf d.names n)) ∧ w' = u) := fun d1 u hu hf => by
      have := at_any hu (by rw [hf]; omega) n
      rwa [show d1.names = d.names by unfold Rs.names; rw [hf]] at this
    rw [at_none hh] at KA
    clear h hq
    go_enter Try.func51, Try.ntmps51
    go_wp2_with (first
      | (go_at_call 86; refine kp.mono ?_; rintro e w1 ⟨rfl, d1, h1, p1, f1, g1, s1⟩)
      | (go_at_call 48; refine (KA.out _ _ h1 f1).mono ?_; rintro e w2 ⟨rfl, rfl⟩))
    go_ret
    exact ⟨rfl, d1, h1, p1, g1 ▸ s1⟩

set_option maxHeartbeats 4000000 in
theorem rcut_neg0 {w : World} {B b i : Nat} {d : Rs} {f : Gv} (h : RRep w B b d) (ok : ROk d.pl) (n : ByteArray) (k : Int) (hp : d.pl.power = true) (hat : atOf d.names n = (i : Int)) (hf : d.files[i]? = some f) (m : Nat) (hk : k < 0) (hm : f.bytes.length = m) (hm0 : m = 0) :
    Calls Try.prog 51 #[.pointer (some ⟨b, 0, none⟩), .string n, .int .i64 k] w fun e w' => e = .returned (.int .i64 0) ∧ ∃ d', RRep w' B b d' ∧ d'.pl = (d.pl.spent.setAt i fun f => ⟨f.name, f.bytes.take m, List.replicate m 0⟩) ∧ Step (d.foot b) (d'.foot b) w w' := by
  have kp := rpower_any h ok.left
  have hfew := ok.dfew
  rw [hp] at kp
  have KA : Aside (∀ (d1 : Rs) (u : World), RRep u B b d1 → d1.files = d.files → Calls Try.prog 48 #[.pointer (some ⟨b, 0, none⟩), .string n] u fun e w' => e = .returned (.int .i64 (i : Int)) ∧ w' = u) := fun d1 u hu hf => by
    have := at_any hu (by rw [hf]; omega) n
    rwa [show d1.names = d.names by unfold Rs.names; rw [hf], hat] at this
  have hi : i < d.files.length := (List.getElem?_eq_some_iff.1 hf).1
  obtain ⟨hl1, hl2⟩ := ok.dlate (List.mem_of_getElem? hf)
  have HF : Aside (∀ d1 : Rs, d1.files = d.files → d1.files[i]? = some f) := fun d1 hd => by rw [hd]; exact hf
  have d2 : decide (k < 0) = true := by simp; omega
  have d3 : decide ((0 : Int) < (f.bytes.length : Int)) = false := decide_eq_false (by omega)
  have d3' : decide (0 < f.bytes.length) = false := decide_eq_false (by omega)
  have d3'' : decide (0 < m) = false := decide_eq_false (by omega)
  have d4 : decide ((0 : Int) < (m : Int)) = false := decide_eq_false (by omega)
  clear hm0 hk
  have hmk := mk_ints m (by omega)
  clear h hat hf ok hp
  go_enter Try.func51, Try.ntmps51
  go_wp2_with (first
    | (go_at_call 86; refine kp.mono ?_; rintro e w1 ⟨rfl, d1, h1, p1, f1, g1, s1⟩)
    | (go_at_call 48; refine (KA.out _ _ h1 f1).mono ?_; rintro e w2 ⟨rfl, rfl⟩; have hf1 := HF.out d1 f1
       obtain ⟨g, cap, ev, hcap, hcm, hg⟩ := h1.vf_form hf1
       have x0 := h1.c0
       obtain ⟨y0, y1, y2⟩ := h1.fcells hf1 hg
       have yf := own_frozen h1.tab hg (i * 3 + 2)
       have yfb := own_frozen h1.tab hg (i * 3 + 1)
       obtain ⟨av, cv, eav⟩ := own_any (h1.rb f (List.mem_of_getElem? hf1))
       obtain ⟨al, cl, eal⟩ := own_any (h1.rl f (List.mem_of_getElem? hf1))
       have hgl := (h1.tab.lt g hg).2
       have hbl := h1.b_lt
       have ex0 : w2.cell? ⟨b, 0, none⟩ = some (.slice (some ⟨g, 0, none⟩) d1.files.length cap) := by rw [x0, ev]
       have ey1 : w2.cell? ⟨g, i * 3 + 1, none⟩ = some (.slice av f.bytes.length cv) := by rw [y1, eav]
       have ey2 : w2.cell? ⟨g, i * 3 + 2, none⟩ = some (.slice al f.late.length cl) := by rw [y2, eal]
       have hN1 : i < d1.files.length := (List.getElem?_eq_some_iff.1 hf1).1
       have hN2 : d1.files.length ≤ 16 := by rw [f1]; exact hfew
       have hgb : g ≠ b := h1.b_vf hg
))
  have NL : Aside (∀ W : World, _ → W.os = w2.os → W.tape = w2.tape → W.output = w2.output → _) := fun W hW e1 e2 e3 => h1.newLate (W := W) hf1 hg (List.replicate m 0) (by rw [List.length_replicate]; omega) hW e1 e2 e3
  rw [List.length_replicate] at NL
  have PL : Aside _ := And.intro p1 (And.intro hf1 (And.intro g1 s1))
  have hmm : Aside (f.bytes.length = m) := hm
  rw [hm] at ey1
  generalize hNN : d1.files.length = NN at *
  have n1 : ¬ b = w2.heap.size := by omega
  have n2 : ¬ g = w2.heap.size := by omega
  have n1' : ¬ w2.heap.size = b := fun e => n1 e.symm
  have n2' : ¬ w2.heap.size = g := fun e => n2 e.symm
  have x0A : ∀ o : Obj, (w2.alloc o).cell? ⟨b, 0, none⟩ = some (.slice (some ⟨g, 0, none⟩) NN cap) := fun o => cell_below ex0 ((Below.refl _ _).alloc (Nat.le_refl _) o)
  have y2A : ∀ o : Obj, (w2.alloc o).cell? ⟨g, i * 3 + 2, none⟩ = some (.slice al f.late.length cl) := fun o => cell_below ey2 ((Below.refl _ _).alloc (Nat.le_refl _) o)
  have yfA : ∀ o : Obj, (w2.alloc o).frozen? ⟨g, i * 3 + 2, none⟩ = false := fun o => (World.frozen?_of_block (a := ⟨g, i * 3 + 2, none⟩) (alloc_old w2 o g hgl)).trans yf
  clear x0 y0 y1 y2 ev eav eal HF KA kp h1 p1 s1 hf1 f1 g1 hg hcm hl1 hl2 hm
  go_wp2
  go_region
  all_goals
    go_wp2
    go_ret
    obtain ⟨p1, hf1, g1, s1⟩ := PL.out
    have hh := NL.out (((w2.setCell ⟨g, i * 3 + 2, none⟩ (.slice (some ⟨w2.heap.size, 0, none⟩) m m)).alloc (.cells (lcells (List.replicate m 0)).toArray 3)).drew) (by rw [World.setCell_alloc_past (hn := hgl)]; rfl) rfl rfl rfl
    have s2 : Step (d.foot b) (d1.foot b) w w2 := by rw [g1]; exact s1
    exact ⟨rfl, _, hh.1, rpl_setAt p1 hf1 (by rw [← hmm.out]; simp [Gv.pl]), s2.trans hh.2⟩


set_option maxHeartbeats 4000000 in
theorem rcut_pos0 {w : World} {B b i : Nat} {d : Rs} {f : Gv} (h : RRep w B b d) (ok : ROk d.pl) (n : ByteArray) (k : Int) (hp : d.pl.power = true) (hat : atOf d.names n = (i : Int)) (hf : d.files[i]? = some f) (m : Nat) (hk : ¬ k < 0) (hm : f.bytes.length = m) (hm0 : (m : Int) ≤ k) :
    Calls Try.prog 51 #[.pointer (some ⟨b, 0, none⟩), .string n, .int .i64 k] w fun e w' => e = .returned (.int .i64 0) ∧ ∃ d', RRep w' B b d' ∧ d'.pl = (d.pl.spent.setAt i fun f => ⟨f.name, f.bytes.take m, List.replicate m 0⟩) ∧ Step (d.foot b) (d'.foot b) w w' := by
  have kp := rpower_any h ok.left
  have hfew := ok.dfew
  rw [hp] at kp
  have KA : Aside (∀ (d1 : Rs) (u : World), RRep u B b d1 → d1.files = d.files → Calls Try.prog 48 #[.pointer (some ⟨b, 0, none⟩), .string n] u fun e w' => e = .returned (.int .i64 (i : Int)) ∧ w' = u) := fun d1 u hu hf => by
    have := at_any hu (by rw [hf]; omega) n
    rwa [show d1.names = d.names by unfold Rs.names; rw [hf], hat] at this
  have hi : i < d.files.length := (List.getElem?_eq_some_iff.1 hf).1
  obtain ⟨hl1, hl2⟩ := ok.dlate (List.mem_of_getElem? hf)
  have HF : Aside (∀ d1 : Rs, d1.files = d.files → d1.files[i]? = some f) := fun d1 hd => by rw [hd]; exact hf
  have d2 : decide (k < 0) = false := by simp; omega
  have d3 : decide (k < (f.bytes.length : Int)) = false := by simp; omega
  have d4 : decide (k < (m : Int)) = false := by simp; omega
  clear hm0 hk
  have hmk := mk_ints m (by omega)
  clear h hat hf ok hp
  go_enter Try.func51, Try.ntmps51
  go_wp2_with (first
    | (go_at_call 86; refine kp.mono ?_; rintro e w1 ⟨rfl, d1, h1, p1, f1, g1, s1⟩)
    | (go_at_call 48; refine (KA.out _ _ h1 f1).mono ?_; rintro e w2 ⟨rfl, rfl⟩; have hf1 := HF.out d1 f1
       obtain ⟨g, cap, ev, hcap, hcm, hg⟩ := h1.vf_form hf1
       have x0 := h1.c0
       obtain ⟨y0, y1, y2⟩ := h1.fcells hf1 hg
       have yf := own_frozen h1.tab hg (i * 3 + 2)
       have yfb := own_frozen h1.tab hg (i * 3 + 1)
       obtain ⟨av, cv, eav⟩ := own_any (h1.rb f (List.mem_of_getElem? hf1))
       obtain ⟨al, cl, eal⟩ := own_any (h1.rl f (List.mem_of_getElem? hf1))
       have hgl := (h1.tab.lt g hg).2
       have hbl := h1.b_lt
       have ex0 : w2.cell? ⟨b, 0, none⟩ = some (.slice (some ⟨g, 0, none⟩) d1.files.length cap) := by rw [x0, ev]
       have ey1 : w2.cell? ⟨g, i * 3 + 1, none⟩ = some (.slice av f.bytes.length cv) := by rw [y1, eav]
       have ey2 : w2.cell? ⟨g, i * 3 + 2, none⟩ = some (.slice al f.late.length cl) := by rw [y2, eal]
       have hN1 : i < d1.files.length := (List.getElem?_eq_some_iff.1 hf1).1
       have hN2 : d1.files.length ≤ 16 := by rw [f1]; exact hfew
       have hgb : g ≠ b := h1.b_vf hg
))
  have NL : Aside (∀ W : World, _ → W.os = w2.os → W.tape = w2.tape → W.output = w2.output → _) := fun W hW e1 e2 e3 => h1.newLate (W := W) hf1 hg (List.replicate m 0) (by rw [List.length_replicate]; omega) hW e1 e2 e3
  rw [List.length_replicate] at NL
  have PL : Aside _ := And.intro p1 (And.intro hf1 (And.intro g1 s1))
  have hmm : Aside (f.bytes.length = m) := hm
  rw [hm] at ey1
  generalize hNN : d1.files.length = NN at *
  have n1 : ¬ b = w2.heap.size := by omega
  have n2 : ¬ g = w2.heap.size := by omega
  have n1' : ¬ w2.heap.size = b := fun e => n1 e.symm
  have n2' : ¬ w2.heap.size = g := fun e => n2 e.symm
  have x0A : ∀ o : Obj, (w2.alloc o).cell? ⟨b, 0, none⟩ = some (.slice (some ⟨g, 0, none⟩) NN cap) := fun o => cell_below ex0 ((Below.refl _ _).alloc (Nat.le_refl _) o)
  have y2A : ∀ o : Obj, (w2.alloc o).cell? ⟨g, i * 3 + 2, none⟩ = some (.slice al f.late.length cl) := fun o => cell_below ey2 ((Below.refl _ _).alloc (Nat.le_refl _) o)
  have yfA : ∀ o : Obj, (w2.alloc o).frozen? ⟨g, i * 3 + 2, none⟩ = false := fun o => (World.frozen?_of_block (a := ⟨g, i * 3 + 2, none⟩) (alloc_old w2 o g hgl)).trans yf
  clear x0 y0 y1 y2 ev eav eal HF KA kp h1 p1 s1 hf1 f1 g1 hg hcm hl1 hl2 hm
  go_wp2
  go_region
  all_goals
    go_wp2
    go_ret
    obtain ⟨p1, hf1, g1, s1⟩ := PL.out
    have hh := NL.out (((w2.setCell ⟨g, i * 3 + 2, none⟩ (.slice (some ⟨w2.heap.size, 0, none⟩) m m)).alloc (.cells (lcells (List.replicate m 0)).toArray 3)).drew) (by rw [World.setCell_alloc_past (hn := hgl)]; rfl) rfl rfl rfl
    have s2 : Step (d.foot b) (d1.foot b) w w2 := by rw [g1]; exact s1
    exact ⟨rfl, _, hh.1, rpl_setAt p1 hf1 (by rw [← hmm.out]; simp [Gv.pl]), s2.trans hh.2⟩


set_option maxHeartbeats 4000000 in
theorem rcut_neg1 {w : World} {B b i : Nat} {d : Rs} {f : Gv} (h : RRep w B b d) (ok : ROk d.pl) (n : ByteArray) (k : Int) (hp : d.pl.power = true) (hat : atOf d.names n = (i : Int)) (hf : d.files[i]? = some f) (m : Nat) (hk : k < 0) (hm : m < f.bytes.length) (hm0 : m = 0) :
    Calls Try.prog 51 #[.pointer (some ⟨b, 0, none⟩), .string n, .int .i64 k] w fun e w' => e = .returned (.int .i64 0) ∧ ∃ d', RRep w' B b d' ∧ d'.pl = (d.pl.spent.setAt i fun f => ⟨f.name, f.bytes.take m, List.replicate m 0⟩) ∧ Step (d.foot b) (d'.foot b) w w' := by
  have kp := rpower_any h ok.left
  have hfew := ok.dfew
  rw [hp] at kp
  have KA : Aside (∀ (d1 : Rs) (u : World), RRep u B b d1 → d1.files = d.files → Calls Try.prog 48 #[.pointer (some ⟨b, 0, none⟩), .string n] u fun e w' => e = .returned (.int .i64 (i : Int)) ∧ w' = u) := fun d1 u hu hf => by
    have := at_any hu (by rw [hf]; omega) n
    rwa [show d1.names = d.names by unfold Rs.names; rw [hf], hat] at this
  have hi : i < d.files.length := (List.getElem?_eq_some_iff.1 hf).1
  obtain ⟨hl1, hl2⟩ := ok.dlate (List.mem_of_getElem? hf)
  have HF : Aside (∀ d1 : Rs, d1.files = d.files → d1.files[i]? = some f) := fun d1 hd => by rw [hd]; exact hf
  have d2 : decide (k < 0) = true := by simp; omega
  have d3 : decide ((0 : Int) < (f.bytes.length : Int)) = true := decide_eq_true (by omega)
  have d3' : decide (0 < f.bytes.length) = true := decide_eq_true (by omega)
  have hbb : 0 < f.bytes.length := by omega
  have hmk := mk_ints m (by omega)
  clear h hat hf ok hp
  go_enter Try.func51, Try.ntmps51
  go_wp2_with (first
    | (go_at_call 86; refine kp.mono ?_; rintro e w1 ⟨rfl, d1, h1, p1, f1, g1, s1⟩)
    | (go_at_call 48; refine (KA.out _ _ h1 f1).mono ?_; rintro e w2 ⟨rfl, rfl⟩; have hf1 := HF.out d1 f1
       obtain ⟨g, cap, ev, hcap, hcm, hg⟩ := h1.vf_form hf1
       have x0 := h1.c0
       obtain ⟨y0, y1, y2⟩ := h1.fcells hf1 hg
       have yf := own_frozen h1.tab hg (i * 3 + 2)
       have yfb := own_frozen h1.tab hg (i * 3 + 1)
       obtain ⟨av, cv, eav⟩ := own_any (h1.rb f (List.mem_of_getElem? hf1))
       obtain ⟨al, cl, eal⟩ := own_any (h1.rl f (List.mem_of_getElem? hf1))
       have hgl := (h1.tab.lt g hg).2
       have hbl := h1.b_lt
       have ex0 : w2.cell? ⟨b, 0, none⟩ = some (.slice (some ⟨g, 0, none⟩) d1.files.length cap) := by rw [x0, ev]
       have ey1 : w2.cell? ⟨g, i * 3 + 1, none⟩ = some (.slice av f.bytes.length cv) := by rw [y1, eav]
       have ey2 : w2.cell? ⟨g, i * 3 + 2, none⟩ = some (.slice al f.late.length cl) := by rw [y2, eal]
       have hN1 : i < d1.files.length := (List.getElem?_eq_some_iff.1 hf1).1
       have hN2 : d1.files.length ≤ 16 := by rw [f1]; exact hfew
       have hgb : g ≠ b := h1.b_vf hg
))
  subst hm0
  rw [show ((0 : Nat) : Int) = 0 from rfl] at hmk
  have hcut := h1.cutBytes hf1 hg (n := 0) (by omega)
  have hav : ∃ gb, av = some ⟨gb, 0, none⟩ := by
    obtain ⟨gb, c', e, _⟩ := own_form (h1.rb f (List.mem_of_getElem? hf1)) (by omega)
    rw [eav] at e
    injection e with e1 e2 e3
    exact ⟨gb, e1⟩
  obtain ⟨gb, rfl⟩ := hav
  have hcv : f.bytes.length ≤ cv ∧ cv ≤ 9223372036854775807 := by
    obtain ⟨gb', c', e, e1, e2, _⟩ := own_form (h1.rb f (List.mem_of_getElem? hf1)) (by omega)
    rw [eav] at e
    injection e with e3 e4 e5
    unfold maxLen at e2
    omega
  obtain ⟨hcv1, hcv2⟩ := hcv
  have hmc : 0 ≤ cv := by omega
  have hm6 : 0 ≤ 60000 := by omega
  have ecv : cutV f.vb 0 = .slice (some ⟨gb, 0, none⟩) 0 cv := by rw [eav]; rfl
  rw [ecv] at hcut
  have hcf : ({ d1 with files := d1.files.set i ⟨f.name, f.bytes.take 0, f.late, .slice (some ⟨gb, 0, none⟩) 0 cv, f.vl⟩ } : Rs).files[i]? = some ⟨f.name, f.bytes.take 0, f.late, .slice (some ⟨gb, 0, none⟩) 0 cv, f.vl⟩ := by
    show (d1.files.set i _)[i]? = _
    rw [List.getElem?_set]
    simp [hN1]
  have z0 := hcut.1.c0
  obtain ⟨_, z1, z2⟩ := hcut.1.fcells hcf hg
  have zf := own_frozen hcut.1.tab hg (i * 3 + 2)
  dsimp only at z0 z1 z2
  rw [ev] at z0
  rw [eal] at z2
  have PL : Aside _ := And.intro p1 (And.intro hf1 (And.intro g1 (And.intro s1 (And.intro hcut hcf))))
  have HG : Aside (d1.vf.ownBlock = some g) := hg
  have hsz : (w2.setCell ⟨g, i * 3 + 1, none⟩ (.slice (some ⟨gb, 0, none⟩) 0 cv)).heap.size = w2.heap.size := by simp
  have hlm : Aside ((f.bytes.take 0).length = 0) := by show _ = _; rw [List.length_take]; omega
  generalize hNN : d1.files.length = NN at *
  clear x0 y0 y1 y2 ev eal HF KA kp h1 p1 s1 hf1 f1 g1 hg hcm hl1 hl2 hcut ecv eav hcf hm
  go_wp2
  go_region
  all_goals
    generalize hW3 : w2.setCell ⟨g, i * 3 + 1, none⟩ (.slice (some ⟨gb, 0, none⟩) 0 cv) = w3 at *
    clear ey1 ey2 ex0 yf yfb
    have ex0 := z0
    have ey2 := z2
    have yf := zf
    rw [← hsz] at hgl hbl
    clear hsz hW3
    have n1 : ¬ b = w3.heap.size := by omega
    have n2 : ¬ g = w3.heap.size := by omega
    have n1' : ¬ w3.heap.size = b := fun e => n1 e.symm
    have n2' : ¬ w3.heap.size = g := fun e => n2 e.symm
    have x0A : ∀ o : Obj, (w3.alloc o).cell? ⟨b, 0, none⟩ = some (.slice (some ⟨g, 0, none⟩) NN cap) := fun o => cell_below ex0 ((Below.refl _ _).alloc (Nat.le_refl _) o)
    have y2A : ∀ o : Obj, (w3.alloc o).cell? ⟨g, i * 3 + 2, none⟩ = some (.slice al f.late.length cl) := fun o => cell_below ey2 ((Below.refl _ _).alloc (Nat.le_refl _) o)
    have yfA : ∀ o : Obj, (w3.alloc o).frozen? ⟨g, i * 3 + 2, none⟩ = false := fun o => (World.frozen?_of_block (a := ⟨g, i * 3 + 2, none⟩) (alloc_old w3 o g hgl)).trans yf
    go_wp2
    go_region
    all_goals
      go_wp2
      go_ret
      obtain ⟨p1, hf1, g1, s1, hcut, hcf⟩ := PL.out
      have hh := hcut.1.newLate (W := (((w3.setCell ⟨g, i * 3 + 2, none⟩ (.slice (some ⟨w3.heap.size, 0, none⟩) 0 0)).alloc (.cells (lcells (List.replicate 0 0)).toArray 3)).drew.drew)) hcf HG.out (List.replicate 0 0) (by rw [List.length_replicate]; omega) (by rw [List.length_replicate, World.setCell_alloc_past (hn := hgl)]; rfl) rfl rfl rfl
      have s2 : Step (d.foot b) (d1.foot b) w w2 := by rw [g1]; exact s1
      refine ⟨rfl, _, hh.1, ?_, s2.trans (hcut.2.trans hh.2)⟩
      simp only [List.set_set]
      exact rpl_setAt p1 hf1 rfl


set_option maxHeartbeats 4000000 in
theorem rcut_pos1 {w : World} {B b i : Nat} {d : Rs} {f : Gv} (h : RRep w B b d) (ok : ROk d.pl) (n : ByteArray) (k : Int) (hp : d.pl.power = true) (hat : atOf d.names n = (i : Int)) (hf : d.files[i]? = some f) (m : Nat) (hm : m < f.bytes.length) (hm0 : (m : Int) = k) :
    Calls Try.prog 51 #[.pointer (some ⟨b, 0, none⟩), .string n, .int .i64 k] w fun e w' => e = .returned (.int .i64 0) ∧ ∃ d', RRep w' B b d' ∧ d'.pl = (d.pl.spent.setAt i fun f => ⟨f.name, f.bytes.take m, List.replicate m 0⟩) ∧ Step (d.foot b) (d'.foot b) w w' := by
  have kp := rpower_any h ok.left
  have hfew := ok.dfew
  rw [hp] at kp
  have KA : Aside (∀ (d1 : Rs) (u : World), RRep u B b d1 → d1.files = d.files → Calls Try.prog 48 #[.pointer (some ⟨b, 0, none⟩), .string n] u fun e w' => e = .returned (.int .i64 (i : Int)) ∧ w' = u) := fun d1 u hu hf => by
    have := at_any hu (by rw [hf]; omega) n
    rwa [show d1.names = d.names by unfold Rs.names; rw [hf], hat] at this
  have hi : i < d.files.length := (List.getElem?_eq_some_iff.1 hf).1
  obtain ⟨hl1, hl2⟩ := ok.dlate (List.mem_of_getElem? hf)
  have HF : Aside (∀ d1 : Rs, d1.files = d.files → d1.files[i]? = some f) := fun d1 hd => by rw [hd]; exact hf
  subst hm0
  have d3 : decide ((m : Int) < (f.bytes.length : Int)) = true := decide_eq_true (by omega)
  have d3' : decide (m < f.bytes.length) = true := decide_eq_true (by omega)
  have hmk := mk_ints m (by omega)
  clear h hat hf ok hp
  go_enter Try.func51, Try.ntmps51
  go_wp2_with (first
    | (go_at_call 86; refine kp.mono ?_; rintro e w1 ⟨rfl, d1, h1, p1, f1, g1, s1⟩)
    | (go_at_call 48; refine (KA.out _ _ h1 f1).mono ?_; rintro e w2 ⟨rfl, rfl⟩; have hf1 := HF.out d1 f1
       obtain ⟨g, cap, ev, hcap, hcm, hg⟩ := h1.vf_form hf1
       have x0 := h1.c0
       obtain ⟨y0, y1, y2⟩ := h1.fcells hf1 hg
       have yf := own_frozen h1.tab hg (i * 3 + 2)
       have yfb := own_frozen h1.tab hg (i * 3 + 1)
       obtain ⟨av, cv, eav⟩ := own_any (h1.rb f (List.mem_of_getElem? hf1))
       obtain ⟨al, cl, eal⟩ := own_any (h1.rl f (List.mem_of_getElem? hf1))
       have hgl := (h1.tab.lt g hg).2
       have hbl := h1.b_lt
       have ex0 : w2.cell? ⟨b, 0, none⟩ = some (.slice (some ⟨g, 0, none⟩) d1.files.length cap) := by rw [x0, ev]
       have ey1 : w2.cell? ⟨g, i * 3 + 1, none⟩ = some (.slice av f.bytes.length cv) := by rw [y1, eav]
       have ey2 : w2.cell? ⟨g, i * 3 + 2, none⟩ = some (.slice al f.late.length cl) := by rw [y2, eal]
       have hN1 : i < d1.files.length := (List.getElem?_eq_some_iff.1 hf1).1
       have hN2 : d1.files.length ≤ 16 := by rw [f1]; exact hfew
       have hgb : g ≠ b := h1.b_vf hg
))
  have hcut := h1.cutBytes hf1 hg (n := m) (by omega)
  have hav : ∃ gb, av = some ⟨gb, 0, none⟩ := by
    obtain ⟨gb, c', e, _⟩ := own_form (h1.rb f (List.mem_of_getElem? hf1)) (by omega)
    rw [eav] at e
    injection e with e1 e2 e3
    exact ⟨gb, e1⟩
  obtain ⟨gb, rfl⟩ := hav
  have hcv : f.bytes.length ≤ cv ∧ cv ≤ 9223372036854775807 := by
    obtain ⟨gb', c', e, e1, e2, _⟩ := own_form (h1.rb f (List.mem_of_getElem? hf1)) (by omega)
    rw [eav] at e
    injection e with e3 e4 e5
    unfold maxLen at e2
    omega
  obtain ⟨hcv1, hcv2⟩ := hcv
  have hmc : m ≤ cv := by omega
  have hm6 : m ≤ 60000 := by omega
  have ecv : cutV f.vb m = .slice (some ⟨gb, 0, none⟩) m cv := by rw [eav]; rfl
  rw [ecv] at hcut
  have hcf : ({ d1 with files := d1.files.set i ⟨f.name, f.bytes.take m, f.late, .slice (some ⟨gb, 0, none⟩) m cv, f.vl⟩ } : Rs).files[i]? = some ⟨f.name, f.bytes.take m, f.late, .slice (some ⟨gb, 0, none⟩) m cv, f.vl⟩ := by
    show (d1.files.set i _)[i]? = _
    rw [List.getElem?_set]
    simp [hN1]
  have z0 := hcut.1.c0
  obtain ⟨_, z1, z2⟩ := hcut.1.fcells hcf hg
  have zf := own_frozen hcut.1.tab hg (i * 3 + 2)
  dsimp only at z0 z1 z2
  rw [ev] at z0
  rw [eal] at z2
  have PL : Aside _ := And.intro p1 (And.intro hf1 (And.intro g1 (And.intro s1 (And.intro hcut hcf))))
  have HG : Aside (d1.vf.ownBlock = some g) := hg
  have hsz : (w2.setCell ⟨g, i * 3 + 1, none⟩ (.slice (some ⟨gb, 0, none⟩) m cv)).heap.size = w2.heap.size := by simp
  have hlm : Aside ((f.bytes.take m).length = m) := by show _ = _; rw [List.length_take]; omega
  generalize hNN : d1.files.length = NN at *
  clear x0 y0 y1 y2 ev eal HF KA kp h1 p1 s1 hf1 f1 g1 hg hcm hl1 hl2 hcut ecv eav hcf hm
  go_wp2
  go_region
  all_goals
    generalize hW3 : w2.setCell ⟨g, i * 3 + 1, none⟩ (.slice (some ⟨gb, 0, none⟩) m cv) = w3 at *
    clear ey1 ey2 ex0 yf yfb
    have ex0 := z0
    have ey2 := z2
    have yf := zf
    rw [← hsz] at hgl hbl
    clear hsz hW3
    have n1 : ¬ b = w3.heap.size := by omega
    have n2 : ¬ g = w3.heap.size := by omega
    have n1' : ¬ w3.heap.size = b := fun e => n1 e.symm
    have n2' : ¬ w3.heap.size = g := fun e => n2 e.symm
    have x0A : ∀ o : Obj, (w3.alloc o).cell? ⟨b, 0, none⟩ = some (.slice (some ⟨g, 0, none⟩) NN cap) := fun o => cell_below ex0 ((Below.refl _ _).alloc (Nat.le_refl _) o)
    have y2A : ∀ o : Obj, (w3.alloc o).cell? ⟨g, i * 3 + 2, none⟩ = some (.slice al f.late.length cl) := fun o => cell_below ey2 ((Below.refl _ _).alloc (Nat.le_refl _) o)
    have yfA : ∀ o : Obj, (w3.alloc o).frozen? ⟨g, i * 3 + 2, none⟩ = false := fun o => (World.frozen?_of_block (a := ⟨g, i * 3 + 2, none⟩) (alloc_old w3 o g hgl)).trans yf
    go_wp2
    go_region
    all_goals
      go_wp2
      go_ret
      obtain ⟨p1, hf1, g1, s1, hcut, hcf⟩ := PL.out
      have hh := hcut.1.newLate (W := (((w3.setCell ⟨g, i * 3 + 2, none⟩ (.slice (some ⟨w3.heap.size, 0, none⟩) m m)).alloc (.cells (lcells (List.replicate m 0)).toArray 3)).drew.drew)) hcf HG.out (List.replicate m 0) (by rw [List.length_replicate]; omega) (by rw [List.length_replicate, World.setCell_alloc_past (hn := hgl)]; rfl) rfl rfl rfl
      have s2 : Step (d.foot b) (d1.foot b) w w2 := by rw [g1]; exact s1
      refine ⟨rfl, _, hh.1, ?_, s2.trans (hcut.2.trans hh.2)⟩
      simp only [List.set_set]
      exact rpl_setAt p1 hf1 rfl

end Go.Proofs.Ytnmamaeoghgegaa.Dk

/-
  The document's disk: Cut, whatever comes.
-/
namespace Go.Proofs.Ytnmamaeoghgegaa.Dk
open Go.RowKit
set_option maxRecDepth 100000

theorem setAt_congr {s : RS} {i : Nat} {f : G} {φ ψ : G → G} (hf : s.files[i]? = some f) (h : φ f = ψ f) : s.setAt i φ = s.setAt i ψ := by
  unfold RS.setAt
  rw [hf]
  simp only [h]

theorem rcut_any {w : World} {B b : Nat} {d : Rs} (h : RRep w B b d) (ok : ROk d.pl) (n : ByteArray) (k : Int) :
    Calls Try.prog 51 #[.pointer (some ⟨b, 0, none⟩), .string n, .int .i64 k] w fun e w' => e = .returned (.int .i64 (rCut d.pl n k).1) ∧ ∃ d', RRep w' B b d' ∧ d'.pl = (rCut d.pl n k).2 ∧ Step (d.foot b) (d'.foot b) w w' := by
  unfold rCut
  rw [rnames_pl]
  cases hp : d.pl.power with
  | false =>
    refine (rcut_early h ok n k (.inl hp)).mono ?_
    rintro e w' ⟨rfl, h1⟩
    rw [hp]
    exact ⟨rfl, h1⟩
  | true =>
    cases hh : has d.names n with
    | false =>
      refine (rcut_early h ok n k (.inr hh)).mono ?_
      rintro e w' ⟨rfl, h1⟩
      rw [hp]
      exact ⟨rfl, h1⟩
    | true =>
      obtain ⟨i, f, hat, hf, hfn, hfm⟩ := atOf_get hh
      rw [hat]
      simp only [if_true, Int.toNat_natCast]
      have hfs : d.pl.spent.files[i]? = some f.pl := rpl_get hf
      rw [setAt_congr (ψ := fun g => ⟨g.name, g.bytes.take (min (max k 0) (f.bytes.length : Int)).toNat, List.replicate (min (max k 0) (f.bytes.length : Int)).toNat 0⟩) hfs rfl]
      obtain ⟨m, em⟩ : ∃ m, (min (max k 0) (f.bytes.length : Int)).toNat = m := ⟨_, rfl⟩
      rw [em]
      by_cases hk : k < 0
      · by_cases hl : f.bytes.length = 0
        · exact rcut_neg0 h ok n k hp hat hf m hk (by omega) (by omega)
        · exact rcut_neg1 h ok n k hp hat hf m hk (by omega) (by omega)
      · by_cases hl : k < f.bytes.length
        · exact rcut_pos1 h ok n k hp hat hf m (by omega) (by omega)
        · exact rcut_pos0 h ok n k hp hat hf m hk (by omega) (by omega)
end Go.Proofs.Ytnmamaeoghgegaa.Dk

/-
  The document's disk: a file is put in the order of names: what each step leaves.
-/
namespace Go.Proofs.Ytnmamaeoghgegaa.Dk
open Go.RowKit
set_option maxRecDepth 100000

theorem gflat_ins (l : List Gv) (i : Nat) (f : Gv) : (l.flatMap Gv.cells).take (i * 3) ++ f.cells ++ (l.flatMap Gv.cells).drop (i * 3) = (l.take i ++ f :: l.drop i).flatMap Gv.cells := by
  rw [gflat_take, gflat_drop, List.flatMap_append, List.flatMap_cons, List.append_assoc]

/-- All that putting needs of memory: u is the world ahead of it, rest the slice of what stands behind the place. -/
theorem put_steps {u : World} {B b k : Nat} {d : Rs} {f : Gv} {rest : Value} (h : RRep u B b d) (hk : k ≤ d.files.length) (hll : d.files.length ≤ 400)
    (hrest : rest = .slice none 0 0 ∧ d.files.length = k ∨ ∃ A c, rest = .slice (some A) (d.files.length - k) c ∧ (d.files.length ≠ k → ∃ g, d.vf.ownBlock = some g ∧ A = ⟨g, k * 3, none⟩))
    (hrb : u.ownsRow B 5 1 f.vb f.bytes.length (bcells f.bytes)) (hrl : u.ownsRow B 3 1 f.vl f.late.length (lcells f.late)) (hfr : ∀ j ∈ f.obs, j ∉ d.foot b) (hnd : f.obs.Nodup) :
    ∃ r c4 w4, (Builtin.append_ #[80, 80] 80 #[.slice (some ⟨u.heap.size, 0, none⟩) 0 0, rest]).run Try.prog (u.alloc (.cells #[] 89)) = .ok (.slice (some ⟨r, 0, none⟩) (d.files.length - k) c4) w4 ∧ Below u.heap.size u w4 ∧
      ∃ v5 w5, (Builtin.append_ #[80, 80] 80 #[cutV d.vf k, .slice (some ⟨w4.heap.size, 0, none⟩) 1 1]).run Try.prog (w4.alloc (.cells #[.string f.name, f.vb, f.vl] 89)).drew = .ok v5 w5 ∧
      (w5.cell? ⟨b, 0, none⟩ = some d.vf ∧ w5.frozen? ⟨b, 0, none⟩ = false) ∧ (∃ a5 c5, v5 = .slice a5 (k + 1) c5) ∧
      ∃ v6 w6, (Builtin.append_ #[80, 80] 80 #[v5, .slice (some ⟨r, 0, none⟩) (d.files.length - k) c4]).run Try.prog w5 = .ok v6 w6 ∧ (∃ a6 c6, v6 = .slice a6 (k + 1 + (d.files.length - k)) c6) ∧ (w6.cell? ⟨b, 0, none⟩ = some d.vf ∧ w6.frozen? ⟨b, 0, none⟩ = false) ∧
      RRep (w6.setCell ⟨b, 0, none⟩ v6) B b { d with files := d.files.take k ++ f :: d.files.drop k, vf := v6 } ∧ Step (d.foot b ++ f.obs) (Rs.foot b { d with files := d.files.take k ++ f :: d.files.drop k, vf := v6 }) u (w6.setCell ⟨b, 0, none⟩ v6) := by
  have hB : B ≤ u.heap.size := by have := h.lt b rfoot_b; omega
  have hone := gcells_one h
  have hlen := gflat_len d.files
  have hE : (u.alloc (.cells #[] 89)).ownsRow B 89 3 (.slice (some ⟨u.heap.size, 0, none⟩) 0 0) 0 [] := World.ownsRow_made u #[] 0 hB (by unfold maxLen; omega) rfl
  have hb1 : Below u.heap.size u (u.alloc (.cells #[] 89)) := (Below.refl _ _).alloc (Nat.le_refl _) _
  -- the rest
  have R : ∃ v4 w4, (Builtin.append_ #[80, 80] 80 #[.slice (some ⟨u.heap.size, 0, none⟩) 0 0, rest]).run Try.prog (u.alloc (.cells #[] 89)) = .ok v4 w4 ∧ w4.ownsRow B 89 3 v4 (d.files.length - k) ((d.files.flatMap Gv.cells).drop (k * 3)) ∧ Below u.heap.size u w4 ∧ ∃ r, v4.ownBlock = some r ∧ u.heap.size ≤ r := by
    rcases hrest with ⟨rfl, hkn⟩ | ⟨A, c, rfl, hA⟩
    · refine ⟨_, _, append_nofiles hE 80, ?_, hb1, u.heap.size, rfl, Nat.le_refl _⟩
      rw [hkn, Nat.sub_self, List.drop_of_length_le (by rw [hlen]; omega)]
      exact hE
    · obtain ⟨v4, w4, hr, ho, hg, hat⟩ := append_files hE (by simp; omega) A (d.files.length - k) c ((d.files.flatMap Gv.cells).drop (k * 3)) (by rw [List.length_drop, hlen]; omega) (fun j x hj => by
        have hjl := (List.getElem?_eq_some_iff.1 hj).1
        rw [List.length_drop, hlen] at hjl
        obtain ⟨g, hg, rfl⟩ := hA (by omega)
        rw [Addr.add_lit]
        exact cell_below (own_cell h.tab hg (by rwa [List.getElem?_drop] at hj)) hb1) (fun x hx => hone x (List.mem_of_mem_drop hx)) (by omega) 80
      refine ⟨v4, w4, hr, by simpa using ho, ?_, ?_⟩
      · refine ⟨hg.os.trans hb1.os, hg.tape.trans hb1.tape, hg.output.trans hb1.output, Nat.le_trans hb1.size hg.size, fun j hj => (hg.block j (by simp; omega) (fun e => ?_)).trans (hb1.block j hj)⟩
        injection e with e
        have e' : j = u.heap.size := e
        omega
      · rcases hat with e | ⟨j, e, hj⟩
        · exact ⟨u.heap.size, e, Nat.le_refl _⟩
        · exact ⟨j, e, by simp at hj; omega⟩
  obtain ⟨v4, w4, hr4, ho4, hb4, r, hrb4, hrge⟩ := R
  obtain ⟨c4, ev4⟩ : ∃ c4, v4 = .slice (some ⟨r, 0, none⟩) (d.files.length - k) c4 := by
    rcases ho4.2 with ⟨rfl, _⟩ | ⟨g4, c4, cur, rfl, _⟩
    · cases hrb4
    · injection hrb4 with e
      have e' : g4 = r := e
      exact ⟨c4, by rw [e']⟩
  have hrl4 : r < w4.heap.size := (ho4.lt r hrb4).2
  have h4 := h.below hb4
  -- the file behind the first ones
  obtain ⟨f1, f2⟩ := own_front h4.tab k hk
  have hsz5 : (w4.alloc (.cells #[.string f.name, f.vb, f.vl] 89)).drew.heap.size = w4.heap.size + 1 := by simp
  have f1' : (w4.alloc (.cells #[.string f.name, f.vb, f.vl] 89)).drew.ownsRow B 89 3 (cutV d.vf k) k ((d.files.flatMap Gv.cells).take (k * 3)) := own_frame f1 fun j hj => alloc_old w4 _ j (f1.lt j hj).2
  obtain ⟨v5, w5, hr5, ho5, hg5, hat5⟩ := append_files f1' (by rw [hsz5]; have := hb4.size; omega) ⟨w4.heap.size, 0, none⟩ 1 1 f.cells rfl (fun j x hj => by
    rw [Addr.add_lit, Nat.zero_add]
    show (w4.alloc (.cells #[.string f.name, f.vb, f.vl] 89)).cell? _ = _
    rw [cell_of_row _ w4.heap.size j _ _ _ (heap_alloc_new w4 _), ← hj, ← Array.getElem?_toList]
    rfl) (by
      intro x hx
      simp only [Gv.cells, List.mem_cons, List.not_mem_nil, or_false] at hx
      rcases hx with rfl | rfl | rfl
      · rfl
      · exact own_one hrb
      · exact own_one hrl) (by omega) 80
  rw [f2] at hg5
  have hvf : ∀ j, d.vf.ownBlock = some j → j < u.heap.size := fun j hj => (h.tab.lt j hj).2
  have hs5 : w4.heap.size + 1 ≤ w5.heap.size := by have := hg5.size; rw [hsz5] at this; exact this
  have k5 : ∀ j, j < w4.heap.size → d.vf.ownBlock ≠ some j → w5.heap[j]? = w4.heap[j]? := fun j hj hn => (hg5.block j (by rw [hsz5]; omega) (fun e => hn e.symm)).trans (alloc_old w4 _ j hj)
  have at5 : At w4 d.vf v5 := by
    rcases hat5 with e | ⟨j, e, hj⟩
    · exact .inl (e.trans f2)
    · exact .inr ⟨j, e, by rw [hsz5] at hj; omega⟩
  have ho4' : w5.ownsRow B 89 3 v4 (d.files.length - k) ((d.files.flatMap Gv.cells).drop (k * 3)) := own_frame ho4 fun j hj => k5 j (ho4.lt j hj).2 (fun e => by have := hvf j e; rw [hrb4] at hj; injection hj with hj; omega)
  -- the rest behind it
  obtain ⟨v6, w6, hr6, ho6, hg6, hat6⟩ := append_files ho5 (by have := hb4.size; omega) ⟨r, 0, none⟩ (d.files.length - k) c4 ((d.files.flatMap Gv.cells).drop (k * 3)) (by rw [List.length_drop, hlen]; omega) (fun j x hj => by
    rw [Addr.add_lit, Nat.zero_add]
    exact own_cell ho4' hrb4 hj) (fun x hx => hone x (List.mem_of_mem_drop hx)) (by omega) 80
  have k6 : ∀ j, j < u.heap.size → d.vf.ownBlock ≠ some j → w6.heap[j]? = u.heap[j]? := fun j hj hn => by
    have hj4 : j < w4.heap.size := by have := hb4.size; omega
    refine (hg6.block j (by omega) (fun e => at5.ne hj4 hn e.symm)).trans ((k5 j hj4 hn).trans (hb4.block j hj))
  have at6 : At u d.vf v6 := by
    rcases hat6 with e | ⟨j, e, hj⟩
    · rcases at5 with e5 | ⟨j5, e5, hj5⟩
      · exact .inl (e.trans e5)
      · exact .inr ⟨j5, e.trans e5, by have := hb4.size; omega⟩
    · exact .inr ⟨j, e, by have := hb4.size; omega⟩
  have hgr : u.grownBy w6 d.vf.ownBlock := ⟨hg6.os.trans (hg5.os.trans hb4.os), hg6.tape.trans (hg5.tape.trans hb4.tape), hg6.output.trans (hg5.output.trans hb4.output), by have := hb4.size; have := hg6.size; omega, fun j hj hn => k6 j hj (fun e => hn e.symm)⟩
  have hown : w6.ownsRow B 89 3 v6 (d.files.take k ++ f :: d.files.drop k).length ((d.files.take k ++ f :: d.files.drop k).flatMap Gv.cells) := by
    rw [← gflat_ins, show (d.files.take k ++ f :: d.files.drop k).length = k + 1 + (d.files.length - k) by rw [List.length_append, List.length_cons, List.length_take, List.length_drop]; omega]
    exact ho6
  have hmem : ∀ x, x ∈ d.files.take k ++ f :: d.files.drop k → x = f ∨ x ∈ d.files := fun x hx => by
    rcases List.mem_append.1 hx with hx | hx
    · exact .inr (List.mem_of_mem_take hx)
    · rcases List.mem_cons.1 hx with hx | hx
      · exact .inl hx
      · exact .inr (List.mem_of_mem_drop hx)
  have hflt : ∀ j ∈ f.obs, j < u.heap.size := fun j hj => by
    rcases List.mem_append.1 hj with hj | hj
    · exact (hrb.lt j (mem_ob.1 hj)).2
    · exact (hrl.lt j (mem_ob.1 hj)).2
  have hT := h.table hown at6 hgr (fun x hx => by
      rcases hmem x hx with rfl | hx
      · exact hrb
      · exact h.rb x hx) (fun x hx => by
      rcases hmem x hx with rfl | hx
      · exact hrl
      · exact h.rl x hx) (by
      have hp := flatMap_middle Gv.obs (d.files.take k) (d.files.drop k) f
      rw [List.take_append_drop] at hp
      rw [hp.nodup_iff]
      refine List.nodup_append.2 ⟨hnd, (List.nodup_append.1 (List.nodup_cons.1 h.nodup).2).2.1, fun x hx y hy e => ?_⟩
      subst e
      obtain ⟨g, hg, hxg⟩ := List.mem_flatMap.1 hy
      exact hfr x hx (rfoot_f hg hxg)) (fun x hx j hj => by
      rcases hmem x hx with rfl | hx
      · exact ⟨fun e => hfr j hj (e ▸ rfoot_b), fun e => hfr j hj (rfoot_vf e), hflt j hj⟩
      · exact h.outs (L := d.files) (fun _ h => h) x hx j hj)
  have c5 : w5.heap[b]? = u.heap[b]? := (k5 b (by have := h.b_lt; have := hb4.size; omega) (fun e => h.b_vf e rfl)).trans (hb4.block b h.b_lt)
  have c6 : w6.heap[b]? = u.heap[b]? := k6 b h.b_lt (fun e => h.b_vf e rfl)
  refine ⟨r, c4, w4, by rw [← ev4]; exact hr4, hb4, v5, w5, hr5, ⟨(World.cell?_of_block c5).trans h.c0, by rw [World.frozen?_of_block (a := ⟨b, 0, none⟩) c5]; exact h.fz 0⟩, own_any ho5, v6, w6, hr6, own_any ho6, ⟨(World.cell?_of_block c6).trans h.c0, by rw [World.frozen?_of_block (a := ⟨b, 0, none⟩) c6]; exact h.fz 0⟩, hT.1, hT.2.weak fun j hj => ?_⟩
  rcases List.mem_append.1 hj with hj | hj
  · exact .inl (List.mem_append_left _ hj)
  · obtain ⟨x, hx, hjx⟩ := List.mem_flatMap.1 hj
    rcases hmem x hx with e | hx
    · exact .inl (List.mem_append_right _ (e ▸ hjx))
    · exact .inl (List.mem_append_left _ (rfoot_f hx hjx))
end Go.Proofs.Ytnmamaeoghgegaa.Dk
