/-
  YtajjcfacbnicnaaGreatDoor: the texts DR9, DP1, DP2, one behind the other.
-/
import Derived.Test.YtajjcfacbnicnaaGreatDoorV7
/-
  The document's disk: Cut, whatever comes.
-/
namespace Go.Proofs.YtajjcfacbnicnaaGreatDoor.Dk
open Go.RowKit
set_option maxRecDepth 100000

theorem setAt_congr {s : RS} {i : Nat} {f : G} {φ ψ : G → G} (hf : s.files[i]? = some f) (h : φ f = ψ f) : s.setAt i φ = s.setAt i ψ := by
  unfold RS.setAt
  rw [hf]
  simp only [h]

theorem rcut_any {w : World} {B b : Nat} {d : Rs} (h : RRep w B b d) (ok : ROk d.pl) (n : ByteArray) (k : Int) :
    Calls Tryz.prog 44 #[.pointer (some ⟨b, 0, none⟩), .string n, .int .i64 k] w fun e w' => e = .returned (.int .i64 (rCut d.pl n k).1) ∧ ∃ d', RRep w' B b d' ∧ d'.pl = (rCut d.pl n k).2 ∧ Step (d.foot b) (d'.foot b) w w' := by
  unfold rCut
  rw [rnames_pl]
  cases hp : d.pl.power with
  | false =>
    refine (rcut_early h ok n k (.inl hp)).mono ?_
    rintro e w' ⟨rfl, h1⟩
    rw [hp]
    exact ⟨rfl, h1⟩
  | true =>
    cases hh : has d.names n with
    | false =>
      refine (rcut_early h ok n k (.inr hh)).mono ?_
      rintro e w' ⟨rfl, h1⟩
      rw [hp]
      exact ⟨rfl, h1⟩
    | true =>
      obtain ⟨i, f, hat, hf, hfn, hfm⟩ := atOf_get hh
      rw [hat]
      simp only [if_true, Int.toNat_natCast]
      have hfs : d.pl.spent.files[i]? = some f.pl := rpl_get hf
      rw [setAt_congr (ψ := fun g => ⟨g.name, g.bytes.take (min (max k 0) (f.bytes.length : Int)).toNat, List.replicate (min (max k 0) (f.bytes.length : Int)).toNat 0⟩) hfs rfl]
      obtain ⟨m, em⟩ : ∃ m, (min (max k 0) (f.bytes.length : Int)).toNat = m := ⟨_, rfl⟩
      rw [em]
      by_cases hk : k < 0
      · by_cases hl : f.bytes.length = 0
        · exact rcut_neg0 h ok n k hp hat hf m hk (by omega) (by omega)
        · exact rcut_neg1 h ok n k hp hat hf m hk (by omega) (by omega)
      · by_cases hl : k < f.bytes.length
        · exact rcut_pos1 h ok n k hp hat hf m (by omega) (by omega)
        · exact rcut_pos0 h ok n k hp hat hf m hk (by omega) (by omega)
end Go.Proofs.YtajjcfacbnicnaaGreatDoor.Dk

/-
  The document's disk: a file is put in the order of names: what each step leaves.
-/
namespace Go.Proofs.YtajjcfacbnicnaaGreatDoor.Dk
open Go.RowKit
set_option maxRecDepth 100000

theorem gflat_ins (l : List Gv) (i : Nat) (f : Gv) : (l.flatMap Gv.cells).take (i * 3) ++ f.cells ++ (l.flatMap Gv.cells).drop (i * 3) = (l.take i ++ f :: l.drop i).flatMap Gv.cells := by
  rw [gflat_take, gflat_drop, List.flatMap_append, List.flatMap_cons, List.append_assoc]

/-- All that putting needs of memory: u is the world ahead of it, rest the slice of what stands behind the place. -/
theorem put_steps {u : World} {B b k : Nat} {d : Rs} {f : Gv} {rest : Value} (h : RRep u B b d) (hk : k ≤ d.files.length) (hll : d.files.length ≤ 400)
    (hrest : rest = .slice none 0 0 ∧ d.files.length = k ∨ ∃ A c, rest = .slice (some A) (d.files.length - k) c ∧ (d.files.length ≠ k → ∃ g, d.vf.ownBlock = some g ∧ A = ⟨g, k * 3, none⟩))
    (hrb : u.ownsRow B 5 1 f.vb f.bytes.length (bcells f.bytes)) (hrl : u.ownsRow B 3 1 f.vl f.late.length (lcells f.late)) (hfr : ∀ j ∈ f.obs, j ∉ d.foot b) (hnd : f.obs.Nodup) :
    ∃ r c4 w4, (Builtin.append_ #[69, 69] 69 #[.slice (some ⟨u.heap.size, 0, none⟩) 0 0, rest]).run Tryz.prog (u.alloc (.cells #[] 101)) = .ok (.slice (some ⟨r, 0, none⟩) (d.files.length - k) c4) w4 ∧ Below u.heap.size u w4 ∧
      ∃ v5 w5, (Builtin.append_ #[69, 69] 69 #[cutV d.vf k, .slice (some ⟨w4.heap.size, 0, none⟩) 1 1]).run Tryz.prog (w4.alloc (.cells #[.string f.name, f.vb, f.vl] 101)).drew = .ok v5 w5 ∧
      (w5.cell? ⟨b, 0, none⟩ = some d.vf ∧ w5.frozen? ⟨b, 0, none⟩ = false) ∧ (∃ a5 c5, v5 = .slice a5 (k + 1) c5) ∧
      ∃ v6 w6, (Builtin.append_ #[69, 69] 69 #[v5, .slice (some ⟨r, 0, none⟩) (d.files.length - k) c4]).run Tryz.prog w5 = .ok v6 w6 ∧ (∃ a6 c6, v6 = .slice a6 (k + 1 + (d.files.length - k)) c6) ∧ (w6.cell? ⟨b, 0, none⟩ = some d.vf ∧ w6.frozen? ⟨b, 0, none⟩ = false) ∧
      RRep (w6.setCell ⟨b, 0, none⟩ v6) B b { d with files := d.files.take k ++ f :: d.files.drop k, vf := v6 } ∧ Step (d.foot b ++ f.obs) (Rs.foot b { d with files := d.files.take k ++ f :: d.files.drop k, vf := v6 }) u (w6.setCell ⟨b, 0, none⟩ v6) := by
  have hB : B ≤ u.heap.size := by have := h.lt b rfoot_b; omega
  have hone := gcells_one h
  have hlen := gflat_len d.files
  have hE : (u.alloc (.cells #[] 101)).ownsRow B 101 3 (.slice (some ⟨u.heap.size, 0, none⟩) 0 0) 0 [] := World.ownsRow_made u #[] 0 hB (by unfold maxLen; omega) rfl
  have hb1 : Below u.heap.size u (u.alloc (.cells #[] 101)) := (Below.refl _ _).alloc (Nat.le_refl _) _
  -- the rest
  have R : ∃ v4 w4, (Builtin.append_ #[69, 69] 69 #[.slice (some ⟨u.heap.size, 0, none⟩) 0 0, rest]).run Tryz.prog (u.alloc (.cells #[] 101)) = .ok v4 w4 ∧ w4.ownsRow B 101 3 v4 (d.files.length - k) ((d.files.flatMap Gv.cells).drop (k * 3)) ∧ Below u.heap.size u w4 ∧ ∃ r, v4.ownBlock = some r ∧ u.heap.size ≤ r := by
    rcases hrest with ⟨rfl, hkn⟩ | ⟨A, c, rfl, hA⟩
    · refine ⟨_, _, append_nofiles hE 69, ?_, hb1, u.heap.size, rfl, Nat.le_refl _⟩
      rw [hkn, Nat.sub_self, List.drop_of_length_le (by rw [hlen]; omega)]
      exact hE
    · obtain ⟨v4, w4, hr, ho, hg, hat⟩ := append_files hE (by simp; omega) A (d.files.length - k) c ((d.files.flatMap Gv.cells).drop (k * 3)) (by rw [List.length_drop, hlen]; omega) (fun j x hj => by
        have hjl := (List.getElem?_eq_some_iff.1 hj).1
        rw [List.length_drop, hlen] at hjl
        obtain ⟨g, hg, rfl⟩ := hA (by omega)
        rw [Addr.add_lit]
        exact cell_below (own_cell h.tab hg (by rwa [List.getElem?_drop] at hj)) hb1) (fun x hx => hone x (List.mem_of_mem_drop hx)) (by omega) 69
      refine ⟨v4, w4, hr, by simpa using ho, ?_, ?_⟩
      · refine ⟨hg.os.trans hb1.os, hg.tape.trans hb1.tape, hg.output.trans hb1.output, Nat.le_trans hb1.size hg.size, fun j hj => (hg.block j (by simp; omega) (fun e => ?_)).trans (hb1.block j hj)⟩
        injection e with e
        have e' : j = u.heap.size := e
        omega
      · rcases hat with e | ⟨j, e, hj⟩
        · exact ⟨u.heap.size, e, Nat.le_refl _⟩
        · exact ⟨j, e, by simp at hj; omega⟩
  obtain ⟨v4, w4, hr4, ho4, hb4, r, hrb4, hrge⟩ := R
  obtain ⟨c4, ev4⟩ : ∃ c4, v4 = .slice (some ⟨r, 0, none⟩) (d.files.length - k) c4 := by
    rcases ho4.2 with ⟨rfl, _⟩ | ⟨g4, c4, cur, rfl, _⟩
    · cases hrb4
    · injection hrb4 with e
      have e' : g4 = r := e
      exact ⟨c4, by rw [e']⟩
  have hrl4 : r < w4.heap.size := (ho4.lt r hrb4).2
  have h4 := h.below hb4
  -- the file behind the first ones
  obtain ⟨f1, f2⟩ := own_front h4.tab k hk
  have hsz5 : (w4.alloc (.cells #[.string f.name, f.vb, f.vl] 101)).drew.heap.size = w4.heap.size + 1 := by simp
  have f1' : (w4.alloc (.cells #[.string f.name, f.vb, f.vl] 101)).drew.ownsRow B 101 3 (cutV d.vf k) k ((d.files.flatMap Gv.cells).take (k * 3)) := own_frame f1 fun j hj => alloc_old w4 _ j (f1.lt j hj).2
  obtain ⟨v5, w5, hr5, ho5, hg5, hat5⟩ := append_files f1' (by rw [hsz5]; have := hb4.size; omega) ⟨w4.heap.size, 0, none⟩ 1 1 f.cells rfl (fun j x hj => by
    rw [Addr.add_lit, Nat.zero_add]
    show (w4.alloc (.cells #[.string f.name, f.vb, f.vl] 101)).cell? _ = _
    rw [cell_of_row _ w4.heap.size j _ _ _ (heap_alloc_new w4 _), ← hj, ← Array.getElem?_toList]
    rfl) (by
      intro x hx
      simp only [Gv.cells, List.mem_cons, List.not_mem_nil, or_false] at hx
      rcases hx with rfl | rfl | rfl
      · rfl
      · exact own_one hrb
      · exact own_one hrl) (by omega) 69
  rw [f2] at hg5
  have hvf : ∀ j, d.vf.ownBlock = some j → j < u.heap.size := fun j hj => (h.tab.lt j hj).2
  have hs5 : w4.heap.size + 1 ≤ w5.heap.size := by have := hg5.size; rw [hsz5] at this; exact this
  have k5 : ∀ j, j < w4.heap.size → d.vf.ownBlock ≠ some j → w5.heap[j]? = w4.heap[j]? := fun j hj hn => (hg5.block j (by rw [hsz5]; omega) (fun e => hn e.symm)).trans (alloc_old w4 _ j hj)
  have at5 : At w4 d.vf v5 := by
    rcases hat5 with e | ⟨j, e, hj⟩
    · exact .inl (e.trans f2)
    · exact .inr ⟨j, e, by rw [hsz5] at hj; omega⟩
  have ho4' : w5.ownsRow B 101 3 v4 (d.files.length - k) ((d.files.flatMap Gv.cells).drop (k * 3)) := own_frame ho4 fun j hj => k5 j (ho4.lt j hj).2 (fun e => by have := hvf j e; rw [hrb4] at hj; injection hj with hj; omega)
  -- the rest behind it
  obtain ⟨v6, w6, hr6, ho6, hg6, hat6⟩ := append_files ho5 (by have := hb4.size; omega) ⟨r, 0, none⟩ (d.files.length - k) c4 ((d.files.flatMap Gv.cells).drop (k * 3)) (by rw [List.length_drop, hlen]; omega) (fun j x hj => by
    rw [Addr.add_lit, Nat.zero_add]
    exact own_cell ho4' hrb4 hj) (fun x hx => hone x (List.mem_of_mem_drop hx)) (by omega) 69
  have k6 : ∀ j, j < u.heap.size → d.vf.ownBlock ≠ some j → w6.heap[j]? = u.heap[j]? := fun j hj hn => by
    have hj4 : j < w4.heap.size := by have := hb4.size; omega
    refine (hg6.block j (by omega) (fun e => at5.ne hj4 hn e.symm)).trans ((k5 j hj4 hn).trans (hb4.block j hj))
  have at6 : At u d.vf v6 := by
    rcases hat6 with e | ⟨j, e, hj⟩
    · rcases at5 with e5 | ⟨j5, e5, hj5⟩
      · exact .inl (e.trans e5)
      · exact .inr ⟨j5, e.trans e5, by have := hb4.size; omega⟩
    · exact .inr ⟨j, e, by have := hb4.size; omega⟩
  have hgr : u.grownBy w6 d.vf.ownBlock := ⟨hg6.os.trans (hg5.os.trans hb4.os), hg6.tape.trans (hg5.tape.trans hb4.tape), hg6.output.trans (hg5.output.trans hb4.output), by have := hb4.size; have := hg6.size; omega, fun j hj hn => k6 j hj (fun e => hn e.symm)⟩
  have hown : w6.ownsRow B 101 3 v6 (d.files.take k ++ f :: d.files.drop k).length ((d.files.take k ++ f :: d.files.drop k).flatMap Gv.cells) := by
    rw [← gflat_ins, show (d.files.take k ++ f :: d.files.drop k).length = k + 1 + (d.files.length - k) by rw [List.length_append, List.length_cons, List.length_take, List.length_drop]; omega]
    exact ho6
  have hmem : ∀ x, x ∈ d.files.take k ++ f :: d.files.drop k → x = f ∨ x ∈ d.files := fun x hx => by
    rcases List.mem_append.1 hx with hx | hx
    · exact .inr (List.mem_of_mem_take hx)
    · rcases List.mem_cons.1 hx with hx | hx
      · exact .inl hx
      · exact .inr (List.mem_of_mem_drop hx)
  have hflt : ∀ j ∈ f.obs, j < u.heap.size := fun j hj => by
    rcases List.mem_append.1 hj with hj | hj
    · exact (hrb.lt j (mem_ob.1 hj)).2
    · exact (hrl.lt j (mem_ob.1 hj)).2
  have hT := h.table hown at6 hgr (fun x hx => by
      rcases hmem x hx with rfl | hx
      · exact hrb
      · exact h.rb x hx) (fun x hx => by
      rcases hmem x hx with rfl | hx
      · exact hrl
      · exact h.rl x hx) (by
      have hp := flatMap_middle Gv.obs (d.files.take k) (d.files.drop k) f
      rw [List.take_append_drop] at hp
      rw [hp.nodup_iff]
      refine List.nodup_append.2 ⟨hnd, (List.nodup_append.1 (List.nodup_cons.1 h.nodup).2).2.1, fun x hx y hy e => ?_⟩
      subst e
      obtain ⟨g, hg, hxg⟩ := List.mem_flatMap.1 hy
      exact hfr x hx (rfoot_f hg hxg)) (fun x hx j hj => by
      rcases hmem x hx with rfl | hx
      · exact ⟨fun e => hfr j hj (e ▸ rfoot_b), fun e => hfr j hj (rfoot_vf e), hflt j hj⟩
      · exact h.outs (L := d.files) (fun _ h => h) x hx j hj)
  have c5 : w5.heap[b]? = u.heap[b]? := (k5 b (by have := h.b_lt; have := hb4.size; omega) (fun e => h.b_vf e rfl)).trans (hb4.block b h.b_lt)
  have c6 : w6.heap[b]? = u.heap[b]? := k6 b h.b_lt (fun e => h.b_vf e rfl)
  refine ⟨r, c4, w4, by rw [← ev4]; exact hr4, hb4, v5, w5, hr5, ⟨(World.cell?_of_block c5).trans h.c0, by rw [World.frozen?_of_block (a := ⟨b, 0, none⟩) c5]; exact h.fz 0⟩, own_any ho5, v6, w6, hr6, own_any ho6, ⟨(World.cell?_of_block c6).trans h.c0, by rw [World.frozen?_of_block (a := ⟨b, 0, none⟩) c6]; exact h.fz 0⟩, hT.1, hT.2.weak fun j hj => ?_⟩
  rcases List.mem_append.1 hj with hj | hj
  · exact .inl (List.mem_append_left _ hj)
  · obtain ⟨x, hx, hjx⟩ := List.mem_flatMap.1 hj
    rcases hmem x hx with e | hx
    · exact .inl (List.mem_append_right _ (e ▸ hjx))
    · exact .inl (List.mem_append_left _ (rfoot_f hx hjx))
end Go.Proofs.YtajjcfacbnicnaaGreatDoor.Dk

/-
  The document's disk: a file is put in the order of names.
-/
namespace Go.Proofs.YtajjcfacbnicnaaGreatDoor.Dk
open Go.RowKit
set_option maxRecDepth 100000

theorem below_drewN {B : Nat} {w u : World} (h : Below B w u) : ∀ n, Below B w (u.drewN n)
  | 0 => h
  | n + 1 => (below_drewN h n).drew

set_option maxHeartbeats 8000000 in
theorem rput_mid {w : World} {B b g cap : Nat} {d : Rs} {f : Gv} (h : RRep w B b d) (hll : d.files.length ≤ 400) (hr : Rising d.names) (hv : d.vf = .slice (some ⟨g, 0, none⟩) d.files.length cap) (hcap : d.files.length ≤ cap ∧ cap ≤ maxLen) (hlt : place d.names f.name < d.files.length)
    (hrb : w.ownsRow B 5 1 f.vb f.bytes.length (bcells f.bytes)) (hrl : w.ownsRow B 3 1 f.vl f.late.length (lcells f.late)) (hfr : ∀ j ∈ f.obs, j ∉ d.foot b) (hnd : f.obs.Nodup) :
    Calls Tryz.prog 79 #[.pointer (some ⟨b, 0, none⟩), .agg #[.string f.name, f.vb, f.vl]] w fun e w' => e = .returned (.tuple #[]) ∧ ∃ v', RRep w' B b { d with files := d.files.take (place d.names f.name) ++ f :: d.files.drop (place d.names f.name), vf := v' } ∧ Step (d.foot b ++ f.obs) (Rs.foot b { d with files := d.files.take (place d.names f.name) ++ f :: d.files.drop (place d.names f.name), vf := v' }) w w' := by
  have hpl : place d.names f.name ≤ d.files.length := by have := place_le d.names f.name; simpa [Rs.names] using this
  have hb0 : Below w.heap.size w (w.alloc (.cells #[.string f.name, f.vb, f.vl] 101)) := (Below.refl _ _).alloc (Nat.le_refl _) _
  have HW : Aside (∀ u : World, Below (w.alloc (.cells #[.string f.name, f.vb, f.vl] 101)).heap.size (w.alloc (.cells #[.string f.name, f.vb, f.vl] 101)) u → RRep u B b d ∧ Below w.heap.size w u ∧ u.cell? ⟨w.heap.size, 0, none⟩ = some (.string f.name) ∧ u.cell? ⟨w.heap.size, 1, none⟩ = some f.vb ∧ u.cell? ⟨w.heap.size, 2, none⟩ = some f.vl) := fun u hu => by
    have hbel : Below w.heap.size w u := hb0.trans (hu.mono (by simp))
    have hX : u.heap[w.heap.size]? = some (.cells #[.string f.name, f.vb, f.vl] 101 (0, 0)) := (hu.block _ (by simp)).trans (heap_alloc_new w _)
    exact ⟨h.below hbel, hbel, by rw [cell_of_row u _ 0 _ _ _ hX]; rfl, by rw [cell_of_row u _ 1 _ _ _ hX]; rfl, by rw [cell_of_row u _ 2 _ _ _ hX]; rfl⟩
  have PS : Aside (∀ u : World, Below w.heap.size w u → _) := fun u hu => put_steps (u := u) (k := place d.names f.name) (f := f) (rest := .slice (some ⟨g, place d.names f.name * 3, none⟩) (d.files.length - place d.names f.name) (cap - place d.names f.name)) (h.below hu) hpl hll (.inr ⟨_, _, rfl, fun _ => ⟨g, by rw [hv]; rfl, rfl⟩⟩) (own_frame hrb fun j hj => hu.block j (hrb.lt j hj).2) (own_frame hrl fun j hj => hu.block j (hrl.lt j hj).2) hfr hnd
  have hless : Aside (∀ t, t < d.files.length → (Op.bytesLess d.files[t]!.name.toList f.name.toList = decide (t < place d.names f.name))) := fun t ht => by
    rw [less_any]
    have hg := gnames_get d.files t ht
    have hnl : d.names.length = d.files.length := by simp [Rs.names]
    by_cases hlt : t < place d.names f.name
    · rw [decide_eq_true hlt]
      refine decide_eq_true (Int.not_le.1 fun hge => ?_)
      have : place d.names f.name ≤ t := by
        unfold place
        have := place_boundary (l := d.names) (n := f.name) (i := d.names.countP fun x => decide (cmp x f.name < 0)) List.countP_le_length
        exact Nat.le_of_not_lt fun hc => by
          have hall : ∀ j, t ≤ j → j < d.names.length → ¬ cmp d.names[j]! f.name < 0 := fun j h1 h2 hc2 => by
            have := hr.mono f.name t j h1 h2 hc2
            rw [show d.names[t]! = d.files[t]!.name from hg] at this
            omega
          have hcount : (d.names.countP fun x => decide (cmp x f.name < 0)) ≤ t := by
            have e := List.take_append_drop t d.names
            rw [← e, List.countP_append]
            have z : (d.names.drop t).countP (fun x => decide (cmp x f.name < 0)) = 0 := by
              rw [List.countP_eq_zero]
              intro x hx
              obtain ⟨j, hj, rfl⟩ := List.getElem_of_mem hx
              rw [List.getElem_drop]
              have := hall (t + j) (by omega) (by rw [List.length_drop] at hj; omega)
              rw [getElem!_pos d.names (t + j) (by rw [List.length_drop] at hj; omega)] at this
              simpa using this
            rw [z, Nat.add_zero]
            exact Nat.le_trans List.countP_le_length (by rw [List.length_take]; omega)
          omega
      omega
    · rw [decide_eq_false hlt]
      refine decide_eq_false fun hc => ?_
      have hall : ∀ j, j ≤ t → cmp d.names[j]! f.name < 0 := fun j hj => hr.mono f.name j t hj (by omega) (by rw [show d.names[t]! = d.files[t]!.name from hg]; exact hc)
      have : t + 1 ≤ place d.names f.name := by
        unfold place
        have e := List.take_append_drop (t + 1) d.names
        rw [← e, List.countP_append]
        have z : (d.names.take (t + 1)).countP (fun x => decide (cmp x f.name < 0)) = (d.names.take (t + 1)).length := by
          rw [List.countP_eq_length]
          intro x hx
          obtain ⟨j, hj, rfl⟩ := List.getElem_of_mem hx
          rw [List.getElem_take]
          have hj' : j < t + 1 := by rw [List.length_take] at hj; omega
          have := hall j (by omega)
          rw [getElem!_pos d.names j (by omega)] at this
          simpa using this
        rw [z, List.length_take]
        omega
      omega
  have ROWS : Aside (∀ u : World, RRep u B b d → ∀ t, t < d.files.length → ∃ g0, d.vf.ownBlock = some g0 ∧ u.cell? ⟨g0, t * 3, none⟩ = some (.string d.files[t]!.name)) := fun u hu t ht => by
    obtain ⟨g0, c0, e0, _, _, hg0⟩ := own_form hu.tab (by omega)
    exact ⟨g0, hg0, own_cell hu.tab hg0 (gflat_at (getbang d.files t ht)).1⟩
  obtain ⟨avb, cvb, eavb⟩ := own_any hrb
  obtain ⟨avl, cvl, eavl⟩ := own_any hrl
  generalize hP : place d.names f.name = P at *
  generalize hN : d.files.length = N at *
  have EVF : Aside (d.vf = .slice (some ⟨g, 0, none⟩) N cap) := hv
  have EVB : Aside (d.vf.ownBlock = some g) := by show _ = _; rw [hv]; rfl
  clear hv
  have EV : Aside (f.vb = .slice avb f.bytes.length cvb ∧ f.vl = .slice avl f.late.length cvl) := ⟨eavb, eavl⟩
  rw [eavb, eavl] at HW ⊢
  clear h hr hrb hrl hfr hnd hb0 eavb eavl hP hN
  go_enter Tryz.func79, Tryz.ntmps79
  go_wp2
  go_loopg [4] N (fun gh s4 wr => ∃ k : Nat, N - k ≤ gh ∧ k ≤ P ∧ s4 = .int .i64 (k : Int) ∧ Below (w.alloc (.cells #[.string f.name, .slice avb f.bytes.length cvb, .slice avl f.late.length cvl] 101)).heap.size (w.alloc (.cells #[.string f.name, .slice avb f.bytes.length cvb, .slice avl f.late.length cvl] 101)) wr)
  case atStart => exact ⟨0, by omega, by omega, rfl, Below.refl _ _⟩
  case round =>
    obtain ⟨k, hgh, hk, rfl, hbk⟩ := hrel
    obtain ⟨hR, hbw, x0, x1, x2⟩ := HW.out wr hbk
    have c0 := hR.c0
    rw [EVF.out] at c0
    by_cases hkP : k < P
    · have d3 : decide (k < N) = true := decide_eq_true (by omega)
      obtain ⟨g0, hg0, e0⟩ := ROWS.out wr hR k (by omega)
      have hle := hless.out k (by omega)
      rw [decide_eq_true hkP] at hle
      obtain rfl : g = g0 := Option.some.inj (EVB.out.symm.trans hg0)
      generalize d.files[k]! = y at *
      clear hR
      go_wp2
      go_quiet (fail)
      go_wp2
      go_roundg (N - (k + 1))
      case measure => omega
      case rel => exact ⟨k + 1, Nat.le_refl _, by omega, by go_num, below_drewN hbk _⟩
    · obtain rfl : k = P := by omega
      have d3 : decide (k < N) = true := decide_eq_true (by omega)
      obtain ⟨g0, hg0, e0⟩ := ROWS.out wr hR k (by omega)
      have hle := hless.out k (by omega)
      rw [decide_eq_false (Nat.lt_irrefl k)] at hle
      obtain rfl : g = g0 := Option.some.inj (EVB.out.symm.trans hg0)
      generalize d.files[k]! = y at *
      clear hR
      go_wp2
      go_quiet (fail)
      have hbu := below_drewN hbk nq
      generalize wr.drewN nq = u at *
      obtain ⟨hRu, hbw', z0, z1, z2⟩ := HW.out u hbu
      obtain ⟨r, c4, w4, hr4, hb4, v5, w5, hr5, ⟨p1, p2⟩, ⟨a5, c5, rfl⟩, v6, w6, hr6, ⟨a6, c6, rfl⟩, ⟨q1, q2⟩, hRR, hSS⟩ := PS.out u hbw'
      have FF : Aside _ := And.intro hRR ((Step.ofBelow (fo := d.foot b ++ f.obs) hbw').trans hSS)
      have hbl : b < u.heap.size := hRu.b_lt
      have hXl : w.heap.size < u.heap.size := World.block_lt_of_cell? u _ z0
      have hs4 := hb4.size
      have c0u := hRu.c0
      have c04 := (hRu.below hb4).c0
      have t0 := cell_below z0 hb4
      have t1 := cell_below z1 hb4
      have t2 := cell_below z2 hb4
      rw [EVF.out] at c0u c04 p1 q1 hr5
      rw [EV.out.1, EV.out.2] at hr5
      have ecut : cutV (.slice (some ⟨g, 0, none⟩) N cap) k = .slice (some ⟨g, 0, none⟩) k cap := rfl
      rw [ecut] at hr5
      have c0A : ∀ o : Obj, (u.alloc o).cell? ⟨b, 0, none⟩ = some (.slice (some ⟨g, 0, none⟩) N cap) := fun o => cell_below c0u ((Below.refl _ _).alloc (Nat.le_refl _) o)
      have c04A : ∀ o : Obj, (w4.alloc o).cell? ⟨b, 0, none⟩ = some (.slice (some ⟨g, 0, none⟩) N cap) := fun o => cell_below c04 ((Below.refl _ _).alloc (Nat.le_refl _) o)
      have m1 : ¬ b = u.heap.size := by omega
      have m2 : ¬ u.heap.size = b := by omega
      have m3 : ¬ b = w4.heap.size := by omega
      have m4 : ¬ w4.heap.size = b := by omega
      have m5 : ¬ w.heap.size = w4.heap.size := by omega
      have m6 : ¬ w4.heap.size = w.heap.size := by omega
      clear x0 x1 x2 c0 hbk HW PS hless ROWS hRu hRR hSS hb4 hbu hbw hbw' EVF EV ecut
      try clear e0 hle hg0
      have hkN : (k : Int) ≤ (N : Int) := by omega
      have hkc : k ≤ cap := by omega
      have hkc2 : ¬ cap = k := by omega
      have hc63 : cap ≤ 9223372036854775807 := by have := hcap.2; unfold maxLen at this; omega
      go_wp2_with (at_builtin; refine Lib.wpList_append_run _ rfl _ _ _ _ rfl _ _ rfl rfl _ _ hr4 ?_)
      go_region_law (first
        | (refine step_append_run rfl _ _ 69 69 rfl (.slice (some ⟨g, 0, none⟩) k cap) (.slice (some ⟨w4.heap.size, 0, none⟩) 1 1) (by simp [Act.eval, Act.put]) (by simp [Act.eval, Act.put]) hr5 ?_)
        | (refine step_append_run rfl _ _ 69 69 rfl (.slice a5 (k + 1) c5) (.slice (some ⟨r, 0, none⟩) (N - k) c4) (by simp [Act.eval]) (by simp [Act.eval]) hr6 ?_))
      all_goals
        go_wp2
        go_end0
        exact ⟨rfl, _, FF.out⟩

set_option maxHeartbeats 8000000 in
theorem rput_full {w : World} {B b g cap : Nat} {d : Rs} {f : Gv} (h : RRep w B b d) (hll : d.files.length ≤ 400) (hr : Rising d.names) (hv : d.vf = .slice (some ⟨g, 0, none⟩) d.files.length cap) (hcap : d.files.length = cap ∧ cap ≤ maxLen) (hpn : place d.names f.name = d.files.length)
    (hrb : w.ownsRow B 5 1 f.vb f.bytes.length (bcells f.bytes)) (hrl : w.ownsRow B 3 1 f.vl f.late.length (lcells f.late)) (hfr : ∀ j ∈ f.obs, j ∉ d.foot b) (hnd : f.obs.Nodup) :
    Calls Tryz.prog 79 #[.pointer (some ⟨b, 0, none⟩), .agg #[.string f.name, f.vb, f.vl]] w fun e w' => e = .returned (.tuple #[]) ∧ ∃ v', RRep w' B b { d with files := d.files.take (place d.names f.name) ++ f :: d.files.drop (place d.names f.name), vf := v' } ∧ Step (d.foot b ++ f.obs) (Rs.foot b { d with files := d.files.take (place d.names f.name) ++ f :: d.files.drop (place d.names f.name), vf := v' }) w w' := by
  have hpl : place d.names f.name ≤ d.files.length := by have := place_le d.names f.name; simpa [Rs.names] using this
  have hb0 : Below w.heap.size w (w.alloc (.cells #[.string f.name, f.vb, f.vl] 101)) := (Below.refl _ _).alloc (Nat.le_refl _) _
  have HW : Aside (∀ u : World, Below (w.alloc (.cells #[.string f.name, f.vb, f.vl] 101)).heap.size (w.alloc (.cells #[.string f.name, f.vb, f.vl] 101)) u → RRep u B b d ∧ Below w.heap.size w u ∧ u.cell? ⟨w.heap.size, 0, none⟩ = some (.string f.name) ∧ u.cell? ⟨w.heap.size, 1, none⟩ = some f.vb ∧ u.cell? ⟨w.heap.size, 2, none⟩ = some f.vl) := fun u hu => by
    have hbel : Below w.heap.size w u := hb0.trans (hu.mono (by simp))
    have hX : u.heap[w.heap.size]? = some (.cells #[.string f.name, f.vb, f.vl] 101 (0, 0)) := (hu.block _ (by simp)).trans (heap_alloc_new w _)
    exact ⟨h.below hbel, hbel, by rw [cell_of_row u _ 0 _ _ _ hX]; rfl, by rw [cell_of_row u _ 1 _ _ _ hX]; rfl, by rw [cell_of_row u _ 2 _ _ _ hX]; rfl⟩
  have PS : Aside (∀ u : World, Below w.heap.size w u → _) := fun u hu => put_steps (u := u) (k := place d.names f.name) (f := f) (rest := .slice (some ⟨g, 0, none⟩) (d.files.length - place d.names f.name) 0) (h.below hu) hpl hll (.inr ⟨_, _, rfl, fun e => absurd hpn.symm e⟩) (own_frame hrb fun j hj => hu.block j (hrb.lt j hj).2) (own_frame hrl fun j hj => hu.block j (hrl.lt j hj).2) hfr hnd
  have hless : Aside (∀ t, t < d.files.length → (Op.bytesLess d.files[t]!.name.toList f.name.toList = decide (t < place d.names f.name))) := fun t ht => by
    rw [less_any]
    have hg := gnames_get d.files t ht
    have hnl : d.names.length = d.files.length := by simp [Rs.names]
    by_cases hlt : t < place d.names f.name
    · rw [decide_eq_true hlt]
      refine decide_eq_true (Int.not_le.1 fun hge => ?_)
      have : place d.names f.name ≤ t := by
        unfold place
        have := place_boundary (l := d.names) (n := f.name) (i := d.names.countP fun x => decide (cmp x f.name < 0)) List.countP_le_length
        exact Nat.le_of_not_lt fun hc => by
          have hall : ∀ j, t ≤ j → j < d.names.length → ¬ cmp d.names[j]! f.name < 0 := fun j h1 h2 hc2 => by
            have := hr.mono f.name t j h1 h2 hc2
            rw [show d.names[t]! = d.files[t]!.name from hg] at this
            omega
          have hcount : (d.names.countP fun x => decide (cmp x f.name < 0)) ≤ t := by
            have e := List.take_append_drop t d.names
            rw [← e, List.countP_append]
            have z : (d.names.drop t).countP (fun x => decide (cmp x f.name < 0)) = 0 := by
              rw [List.countP_eq_zero]
              intro x hx
              obtain ⟨j, hj, rfl⟩ := List.getElem_of_mem hx
              rw [List.getElem_drop]
              have := hall (t + j) (by omega) (by rw [List.length_drop] at hj; omega)
              rw [getElem!_pos d.names (t + j) (by rw [List.length_drop] at hj; omega)] at this
              simpa using this
            rw [z, Nat.add_zero]
            exact Nat.le_trans List.countP_le_length (by rw [List.length_take]; omega)
          omega
      omega
    · rw [decide_eq_false hlt]
      refine decide_eq_false fun hc => ?_
      have hall : ∀ j, j ≤ t → cmp d.names[j]! f.name < 0 := fun j hj => hr.mono f.name j t hj (by omega) (by rw [show d.names[t]! = d.files[t]!.name from hg]; exact hc)
      have : t + 1 ≤ place d.names f.name := by
        unfold place
        have e := List.take_append_drop (t + 1) d.names
        rw [← e, List.countP_append]
        have z : (d.names.take (t + 1)).countP (fun x => decide (cmp x f.name < 0)) = (d.names.take (t + 1)).length := by
          rw [List.countP_eq_length]
          intro x hx
          obtain ⟨j, hj, rfl⟩ := List.getElem_of_mem hx
          rw [List.getElem_take]
          have hj' : j < t + 1 := by rw [List.length_take] at hj; omega
          have := hall j (by omega)
          rw [getElem!_pos d.names j (by omega)] at this
          simpa using this
        rw [z, List.length_take]
        omega
      omega
  have ROWS : Aside (∀ u : World, RRep u B b d → ∀ t, t < d.files.length → ∃ g0, d.vf.ownBlock = some g0 ∧ u.cell? ⟨g0, t * 3, none⟩ = some (.string d.files[t]!.name)) := fun u hu t ht => by
    obtain ⟨g0, c0, e0, _, _, hg0⟩ := own_form hu.tab (by omega)
    exact ⟨g0, hg0, own_cell hu.tab hg0 (gflat_at (getbang d.files t ht)).1⟩
  obtain ⟨avb, cvb, eavb⟩ := own_any hrb
  obtain ⟨avl, cvl, eavl⟩ := own_any hrl
  generalize hP : place d.names f.name = P at *
  generalize hN : d.files.length = N at *
  have EVF : Aside (d.vf = .slice (some ⟨g, 0, none⟩) N cap) := hv
  have EVB : Aside (d.vf.ownBlock = some g) := by show _ = _; rw [hv]; rfl
  clear hv
  obtain ⟨hcapN, hcm⟩ := hcap
  subst hcapN
  subst hpn
  have EV : Aside (f.vb = .slice avb f.bytes.length cvb ∧ f.vl = .slice avl f.late.length cvl) := ⟨eavb, eavl⟩
  rw [eavb, eavl] at HW ⊢
  clear h hr hrb hrl hfr hnd hb0 eavb eavl hP hN
  go_enter Tryz.func79, Tryz.ntmps79
  go_wp2
  go_loopg [4] P (fun gh s4 wr => ∃ k : Nat, P - k ≤ gh ∧ k ≤ P ∧ s4 = .int .i64 (k : Int) ∧ Below (w.alloc (.cells #[.string f.name, .slice avb f.bytes.length cvb, .slice avl f.late.length cvl] 101)).heap.size (w.alloc (.cells #[.string f.name, .slice avb f.bytes.length cvb, .slice avl f.late.length cvl] 101)) wr)
  case atStart => exact ⟨0, by omega, by omega, rfl, Below.refl _ _⟩
  case round =>
    obtain ⟨k, hgh, hk, rfl, hbk⟩ := hrel
    obtain ⟨hR, hbw, x0, x1, x2⟩ := HW.out wr hbk
    have c0 := hR.c0
    rw [EVF.out] at c0
    by_cases hkP : k < P
    · have d3 : decide (k < P) = true := decide_eq_true (by omega)
      obtain ⟨g0, hg0, e0⟩ := ROWS.out wr hR k (by omega)
      have hle := hless.out k (by omega)
      rw [decide_eq_true hkP] at hle
      obtain rfl : g = g0 := Option.some.inj (EVB.out.symm.trans hg0)
      generalize d.files[k]! = y at *
      clear hR
      go_wp2
      go_quiet (fail)
      go_wp2
      go_roundg (P - (k + 1))
      case measure => omega
      case rel => exact ⟨k + 1, Nat.le_refl _, by omega, by go_num, below_drewN hbk _⟩
    · obtain rfl : k = P := by omega
      have d3 : decide (k < k) = false := decide_eq_false (Nat.lt_irrefl k)
      clear hR
      go_wp2
      go_quiet (fail)
      have hbu := below_drewN hbk nq
      generalize wr.drewN nq = u at *
      obtain ⟨hRu, hbw', z0, z1, z2⟩ := HW.out u hbu
      obtain ⟨r, c4, w4, hr4, hb4, v5, w5, hr5, ⟨p1, p2⟩, ⟨a5, c5, rfl⟩, v6, w6, hr6, ⟨a6, c6, rfl⟩, ⟨q1, q2⟩, hRR, hSS⟩ := PS.out u hbw'
      have FF : Aside _ := And.intro hRR ((Step.ofBelow (fo := d.foot b ++ f.obs) hbw').trans hSS)
      have hbl : b < u.heap.size := hRu.b_lt
      have hXl : w.heap.size < u.heap.size := World.block_lt_of_cell? u _ z0
      have hs4 := hb4.size
      have c0u := hRu.c0
      have c04 := (hRu.below hb4).c0
      have t0 := cell_below z0 hb4
      have t1 := cell_below z1 hb4
      have t2 := cell_below z2 hb4
      rw [EVF.out] at c0u c04 p1 q1 hr5
      rw [EV.out.1, EV.out.2] at hr5
      have ecut : cutV (.slice (some ⟨g, 0, none⟩) k k) k = .slice (some ⟨g, 0, none⟩) k k := rfl
      rw [ecut] at hr5
      have c0A : ∀ o : Obj, (u.alloc o).cell? ⟨b, 0, none⟩ = some (.slice (some ⟨g, 0, none⟩) k k) := fun o => cell_below c0u ((Below.refl _ _).alloc (Nat.le_refl _) o)
      have c04A : ∀ o : Obj, (w4.alloc o).cell? ⟨b, 0, none⟩ = some (.slice (some ⟨g, 0, none⟩) k k) := fun o => cell_below c04 ((Below.refl _ _).alloc (Nat.le_refl _) o)
      have m1 : ¬ b = u.heap.size := by omega
      have m2 : ¬ u.heap.size = b := by omega
      have m3 : ¬ b = w4.heap.size := by omega
      have m4 : ¬ w4.heap.size = b := by omega
      have m5 : ¬ w.heap.size = w4.heap.size := by omega
      have m6 : ¬ w4.heap.size = w.heap.size := by omega
      clear x0 x1 x2 c0 hbk HW PS hless ROWS hRu hRR hSS hb4 hbu hbw hbw' EVF EV ecut
      try clear e0 hle hg0
      simp only [Nat.sub_self, Nat.add_zero] at hr4 hr6 FF
      have hc63 : k ≤ 9223372036854775807 := by unfold maxLen at hcm; omega
      go_wp2_with (at_builtin; refine Lib.wpList_append_run _ rfl _ _ _ _ rfl _ _ rfl rfl _ _ hr4 ?_)
      go_region_law (first
        | (refine step_append_run rfl _ _ 69 69 rfl (.slice (some ⟨g, 0, none⟩) k k) (.slice (some ⟨w4.heap.size, 0, none⟩) 1 1) (by simp [Act.eval, Act.put]) (by simp [Act.eval, Act.put]) hr5 ?_)
        | (refine step_append_run rfl _ _ 69 69 rfl (.slice a5 (k + 1) c5) (.slice (some ⟨r, 0, none⟩) 0 c4) (by simp [Act.eval]) (by simp [Act.eval]) hr6 ?_))
      all_goals
        go_wp2
        go_end0
        exact ⟨rfl, _, FF.out⟩

set_option maxHeartbeats 8000000 in
theorem rput_room {w : World} {B b g cap : Nat} {d : Rs} {f : Gv} (h : RRep w B b d) (hll : d.files.length ≤ 400) (hr : Rising d.names) (hv : d.vf = .slice (some ⟨g, 0, none⟩) d.files.length cap) (hcap : d.files.length < cap ∧ cap ≤ maxLen) (hpn : place d.names f.name = d.files.length)
    (hrb : w.ownsRow B 5 1 f.vb f.bytes.length (bcells f.bytes)) (hrl : w.ownsRow B 3 1 f.vl f.late.length (lcells f.late)) (hfr : ∀ j ∈ f.obs, j ∉ d.foot b) (hnd : f.obs.Nodup) :
    Calls Tryz.prog 79 #[.pointer (some ⟨b, 0, none⟩), .agg #[.string f.name, f.vb, f.vl]] w fun e w' => e = .returned (.tuple #[]) ∧ ∃ v', RRep w' B b { d with files := d.files.take (place d.names f.name) ++ f :: d.files.drop (place d.names f.name), vf := v' } ∧ Step (d.foot b ++ f.obs) (Rs.foot b { d with files := d.files.take (place d.names f.name) ++ f :: d.files.drop (place d.names f.name), vf := v' }) w w' := by
  have hpl : place d.names f.name ≤ d.files.length := by have := place_le d.names f.name; simpa [Rs.names] using this
  have hb0 : Below w.heap.size w (w.alloc (.cells #[.string f.name, f.vb, f.vl] 101)) := (Below.refl _ _).alloc (Nat.le_refl _) _
  have HW : Aside (∀ u : World, Below (w.alloc (.cells #[.string f.name, f.vb, f.vl] 101)).heap.size (w.alloc (.cells #[.string f.name, f.vb, f.vl] 101)) u → RRep u B b d ∧ Below w.heap.size w u ∧ u.cell? ⟨w.heap.size, 0, none⟩ = some (.string f.name) ∧ u.cell? ⟨w.heap.size, 1, none⟩ = some f.vb ∧ u.cell? ⟨w.heap.size, 2, none⟩ = some f.vl) := fun u hu => by
    have hbel : Below w.heap.size w u := hb0.trans (hu.mono (by simp))
    have hX : u.heap[w.heap.size]? = some (.cells #[.string f.name, f.vb, f.vl] 101 (0, 0)) := (hu.block _ (by simp)).trans (heap_alloc_new w _)
    exact ⟨h.below hbel, hbel, by rw [cell_of_row u _ 0 _ _ _ hX]; rfl, by rw [cell_of_row u _ 1 _ _ _ hX]; rfl, by rw [cell_of_row u _ 2 _ _ _ hX]; rfl⟩
  have PS : Aside (∀ u : World, Below w.heap.size w u → _) := fun u hu => put_steps (u := u) (k := place d.names f.name) (f := f) (rest := .slice (some ⟨g, d.files.length * 3, none⟩) (d.files.length - place d.names f.name) (cap - d.files.length)) (h.below hu) hpl hll (.inr ⟨_, _, rfl, fun e => absurd hpn.symm e⟩) (own_frame hrb fun j hj => hu.block j (hrb.lt j hj).2) (own_frame hrl fun j hj => hu.block j (hrl.lt j hj).2) hfr hnd
  have hless : Aside (∀ t, t < d.files.length → (Op.bytesLess d.files[t]!.name.toList f.name.toList = decide (t < place d.names f.name))) := fun t ht => by
    rw [less_any]
    have hg := gnames_get d.files t ht
    have hnl : d.names.length = d.files.length := by simp [Rs.names]
    by_cases hlt : t < place d.names f.name
    · rw [decide_eq_true hlt]
      refine decide_eq_true (Int.not_le.1 fun hge => ?_)
      have : place d.names f.name ≤ t := by
        unfold place
        have := place_boundary (l := d.names) (n := f.name) (i := d.names.countP fun x => decide (cmp x f.name < 0)) List.countP_le_length
        exact Nat.le_of_not_lt fun hc => by
          have hall : ∀ j, t ≤ j → j < d.names.length → ¬ cmp d.names[j]! f.name < 0 := fun j h1 h2 hc2 => by
            have := hr.mono f.name t j h1 h2 hc2
            rw [show d.names[t]! = d.files[t]!.name from hg] at this
            omega
          have hcount : (d.names.countP fun x => decide (cmp x f.name < 0)) ≤ t := by
            have e := List.take_append_drop t d.names
            rw [← e, List.countP_append]
            have z : (d.names.drop t).countP (fun x => decide (cmp x f.name < 0)) = 0 := by
              rw [List.countP_eq_zero]
              intro x hx
              obtain ⟨j, hj, rfl⟩ := List.getElem_of_mem hx
              rw [List.getElem_drop]
              have := hall (t + j) (by omega) (by rw [List.length_drop] at hj; omega)
              rw [getElem!_pos d.names (t + j) (by rw [List.length_drop] at hj; omega)] at this
              simpa using this
            rw [z, Nat.add_zero]
            exact Nat.le_trans List.countP_le_length (by rw [List.length_take]; omega)
          omega
      omega
    · rw [decide_eq_false hlt]
      refine decide_eq_false fun hc => ?_
      have hall : ∀ j, j ≤ t → cmp d.names[j]! f.name < 0 := fun j hj => hr.mono f.name j t hj (by omega) (by rw [show d.names[t]! = d.files[t]!.name from hg]; exact hc)
      have : t + 1 ≤ place d.names f.name := by
        unfold place
        have e := List.take_append_drop (t + 1) d.names
        rw [← e, List.countP_append]
        have z : (d.names.take (t + 1)).countP (fun x => decide (cmp x f.name < 0)) = (d.names.take (t + 1)).length := by
          rw [List.countP_eq_length]
          intro x hx
          obtain ⟨j, hj, rfl⟩ := List.getElem_of_mem hx
          rw [List.getElem_take]
          have hj' : j < t + 1 := by rw [List.length_take] at hj; omega
          have := hall j (by omega)
          rw [getElem!_pos d.names j (by omega)] at this
          simpa using this
        rw [z, List.length_take]
        omega
      omega
  have ROWS : Aside (∀ u : World, RRep u B b d → ∀ t, t < d.files.length → ∃ g0, d.vf.ownBlock = some g0 ∧ u.cell? ⟨g0, t * 3, none⟩ = some (.string d.files[t]!.name)) := fun u hu t ht => by
    obtain ⟨g0, c0, e0, _, _, hg0⟩ := own_form hu.tab (by omega)
    exact ⟨g0, hg0, own_cell hu.tab hg0 (gflat_at (getbang d.files t ht)).1⟩
  obtain ⟨avb, cvb, eavb⟩ := own_any hrb
  obtain ⟨avl, cvl, eavl⟩ := own_any hrl
  generalize hP : place d.names f.name = P at *
  generalize hN : d.files.length = N at *
  have EVF : Aside (d.vf = .slice (some ⟨g, 0, none⟩) N cap) := hv
  have EVB : Aside (d.vf.ownBlock = some g) := by show _ = _; rw [hv]; rfl
  clear hv
  obtain ⟨hcapN, hcm⟩ := hcap
  subst hpn
  have EV : Aside (f.vb = .slice avb f.bytes.length cvb ∧ f.vl = .slice avl f.late.length cvl) := ⟨eavb, eavl⟩
  rw [eavb, eavl] at HW ⊢
  clear h hr hrb hrl hfr hnd hb0 eavb eavl hP hN
  go_enter Tryz.func79, Tryz.ntmps79
  go_wp2
  go_loopg [4] P (fun gh s4 wr => ∃ k : Nat, P - k ≤ gh ∧ k ≤ P ∧ s4 = .int .i64 (k : Int) ∧ Below (w.alloc (.cells #[.string f.name, .slice avb f.bytes.length cvb, .slice avl f.late.length cvl] 101)).heap.size (w.alloc (.cells #[.string f.name, .slice avb f.bytes.length cvb, .slice avl f.late.length cvl] 101)) wr)
  case atStart => exact ⟨0, by omega, by omega, rfl, Below.refl _ _⟩
  case round =>
    obtain ⟨k, hgh, hk, rfl, hbk⟩ := hrel
    obtain ⟨hR, hbw, x0, x1, x2⟩ := HW.out wr hbk
    have c0 := hR.c0
    rw [EVF.out] at c0
    by_cases hkP : k < P
    · have d3 : decide (k < P) = true := decide_eq_true (by omega)
      obtain ⟨g0, hg0, e0⟩ := ROWS.out wr hR k (by omega)
      have hle := hless.out k (by omega)
      rw [decide_eq_true hkP] at hle
      obtain rfl : g = g0 := Option.some.inj (EVB.out.symm.trans hg0)
      generalize d.files[k]! = y at *
      clear hR
      go_wp2
      go_quiet (fail)
      go_wp2
      go_roundg (P - (k + 1))
      case measure => omega
      case rel => exact ⟨k + 1, Nat.le_refl _, by omega, by go_num, below_drewN hbk _⟩
    · obtain rfl : k = P := by omega
      have d3 : decide (k < k) = false := decide_eq_false (Nat.lt_irrefl k)
      clear hR
      go_wp2
      go_quiet (fail)
      have hbu := below_drewN hbk nq
      generalize wr.drewN nq = u at *
      obtain ⟨hRu, hbw', z0, z1, z2⟩ := HW.out u hbu
      obtain ⟨r, c4, w4, hr4, hb4, v5, w5, hr5, ⟨p1, p2⟩, ⟨a5, c5, rfl⟩, v6, w6, hr6, ⟨a6, c6, rfl⟩, ⟨q1, q2⟩, hRR, hSS⟩ := PS.out u hbw'
      have FF : Aside _ := And.intro hRR ((Step.ofBelow (fo := d.foot b ++ f.obs) hbw').trans hSS)
      have hbl : b < u.heap.size := hRu.b_lt
      have hXl : w.heap.size < u.heap.size := World.block_lt_of_cell? u _ z0
      have hs4 := hb4.size
      have c0u := hRu.c0
      have c04 := (hRu.below hb4).c0
      have t0 := cell_below z0 hb4
      have t1 := cell_below z1 hb4
      have t2 := cell_below z2 hb4
      rw [EVF.out] at c0u c04 p1 q1 hr5
      rw [EV.out.1, EV.out.2] at hr5
      have ecut : cutV (.slice (some ⟨g, 0, none⟩) k cap) k = .slice (some ⟨g, 0, none⟩) k cap := rfl
      rw [ecut] at hr5
      have c0A : ∀ o : Obj, (u.alloc o).cell? ⟨b, 0, none⟩ = some (.slice (some ⟨g, 0, none⟩) k cap) := fun o => cell_below c0u ((Below.refl _ _).alloc (Nat.le_refl _) o)
      have c04A : ∀ o : Obj, (w4.alloc o).cell? ⟨b, 0, none⟩ = some (.slice (some ⟨g, 0, none⟩) k cap) := fun o => cell_below c04 ((Below.refl _ _).alloc (Nat.le_refl _) o)
      have m1 : ¬ b = u.heap.size := by omega
      have m2 : ¬ u.heap.size = b := by omega
      have m3 : ¬ b = w4.heap.size := by omega
      have m4 : ¬ w4.heap.size = b := by omega
      have m5 : ¬ w.heap.size = w4.heap.size := by omega
      have m6 : ¬ w4.heap.size = w.heap.size := by omega
      clear x0 x1 x2 c0 hbk HW PS hless ROWS hRu hRR hSS hb4 hbu hbw hbw' EVF EV ecut
      try clear e0 hle hg0
      simp only [Nat.sub_self, Nat.add_zero] at hr4 hr6 FF
      have hkc : k ≤ cap := by omega
      have hkc2 : ¬ cap = k := by omega
      have hc63 : cap ≤ 9223372036854775807 := by unfold maxLen at hcm; omega
      go_wp2_with (at_builtin; refine Lib.wpList_append_run _ rfl _ _ _ _ rfl _ _ rfl rfl _ _ hr4 ?_)
      go_region_law (first
        | (refine step_append_run rfl _ _ 69 69 rfl (.slice (some ⟨g, 0, none⟩) k cap) (.slice (some ⟨w4.heap.size, 0, none⟩) 1 1) (by simp [Act.eval, Act.put]) (by simp [Act.eval, Act.put]) hr5 ?_)
        | (refine step_append_run rfl _ _ 69 69 rfl (.slice a5 (k + 1) c5) (.slice (some ⟨r, 0, none⟩) 0 c4) (by simp [Act.eval]) (by simp [Act.eval]) hr6 ?_))
      all_goals
        go_wp2
        go_end0
        exact ⟨rfl, _, FF.out⟩

set_option maxHeartbeats 8000000 in
theorem rput_nil {w : World} {B b g cap : Nat} {d : Rs} {f : Gv} (h : RRep w B b d) (hll : d.files.length ≤ 400) (hr : Rising d.names) (hv : d.vf = .slice none 0 0) (hn0 : d.files.length = 0) (hpn : place d.names f.name = 0) (_ : g = cap)
    (hrb : w.ownsRow B 5 1 f.vb f.bytes.length (bcells f.bytes)) (hrl : w.ownsRow B 3 1 f.vl f.late.length (lcells f.late)) (hfr : ∀ j ∈ f.obs, j ∉ d.foot b) (hnd : f.obs.Nodup) :
    Calls Tryz.prog 79 #[.pointer (some ⟨b, 0, none⟩), .agg #[.string f.name, f.vb, f.vl]] w fun e w' => e = .returned (.tuple #[]) ∧ ∃ v', RRep w' B b { d with files := d.files.take (place d.names f.name) ++ f :: d.files.drop (place d.names f.name), vf := v' } ∧ Step (d.foot b ++ f.obs) (Rs.foot b { d with files := d.files.take (place d.names f.name) ++ f :: d.files.drop (place d.names f.name), vf := v' }) w w' := by
  have hpl : place d.names f.name ≤ d.files.length := by have := place_le d.names f.name; simpa [Rs.names] using this
  have hb0 : Below w.heap.size w (w.alloc (.cells #[.string f.name, f.vb, f.vl] 101)) := (Below.refl _ _).alloc (Nat.le_refl _) _
  have HW : Aside (∀ u : World, Below (w.alloc (.cells #[.string f.name, f.vb, f.vl] 101)).heap.size (w.alloc (.cells #[.string f.name, f.vb, f.vl] 101)) u → RRep u B b d ∧ Below w.heap.size w u ∧ u.cell? ⟨w.heap.size, 0, none⟩ = some (.string f.name) ∧ u.cell? ⟨w.heap.size, 1, none⟩ = some f.vb ∧ u.cell? ⟨w.heap.size, 2, none⟩ = some f.vl) := fun u hu => by
    have hbel : Below w.heap.size w u := hb0.trans (hu.mono (by simp))
    have hX : u.heap[w.heap.size]? = some (.cells #[.string f.name, f.vb, f.vl] 101 (0, 0)) := (hu.block _ (by simp)).trans (heap_alloc_new w _)
    exact ⟨h.below hbel, hbel, by rw [cell_of_row u _ 0 _ _ _ hX]; rfl, by rw [cell_of_row u _ 1 _ _ _ hX]; rfl, by rw [cell_of_row u _ 2 _ _ _ hX]; rfl⟩
  have PS : Aside (∀ u : World, Below w.heap.size w u → _) := fun u hu => put_steps (u := u) (k := place d.names f.name) (f := f) (rest := .slice none 0 0) (h.below hu) hpl hll (.inl ⟨rfl, by omega⟩) (own_frame hrb fun j hj => hu.block j (hrb.lt j hj).2) (own_frame hrl fun j hj => hu.block j (hrl.lt j hj).2) hfr hnd
  have hless : Aside (∀ t, t < d.files.length → (Op.bytesLess d.files[t]!.name.toList f.name.toList = decide (t < place d.names f.name))) := fun t ht => by
    rw [less_any]
    have hg := gnames_get d.files t ht
    have hnl : d.names.length = d.files.length := by simp [Rs.names]
    by_cases hlt : t < place d.names f.name
    · rw [decide_eq_true hlt]
      refine decide_eq_true (Int.not_le.1 fun hge => ?_)
      have : place d.names f.name ≤ t := by
        unfold place
        have := place_boundary (l := d.names) (n := f.name) (i := d.names.countP fun x => decide (cmp x f.name < 0)) List.countP_le_length
        exact Nat.le_of_not_lt fun hc => by
          have hall : ∀ j, t ≤ j → j < d.names.length → ¬ cmp d.names[j]! f.name < 0 := fun j h1 h2 hc2 => by
            have := hr.mono f.name t j h1 h2 hc2
            rw [show d.names[t]! = d.files[t]!.name from hg] at this
            omega
          have hcount : (d.names.countP fun x => decide (cmp x f.name < 0)) ≤ t := by
            have e := List.take_append_drop t d.names
            rw [← e, List.countP_append]
            have z : (d.names.drop t).countP (fun x => decide (cmp x f.name < 0)) = 0 := by
              rw [List.countP_eq_zero]
              intro x hx
              obtain ⟨j, hj, rfl⟩ := List.getElem_of_mem hx
              rw [List.getElem_drop]
              have := hall (t + j) (by omega) (by rw [List.length_drop] at hj; omega)
              rw [getElem!_pos d.names (t + j) (by rw [List.length_drop] at hj; omega)] at this
              simpa using this
            rw [z, Nat.add_zero]
            exact Nat.le_trans List.countP_le_length (by rw [List.length_take]; omega)
          omega
      omega
    · rw [decide_eq_false hlt]
      refine decide_eq_false fun hc => ?_
      have hall : ∀ j, j ≤ t → cmp d.names[j]! f.name < 0 := fun j hj => hr.mono f.name j t hj (by omega) (by rw [show d.names[t]! = d.files[t]!.name from hg]; exact hc)
      have : t + 1 ≤ place d.names f.name := by
        unfold place
        have e := List.take_append_drop (t + 1) d.names
        rw [← e, List.countP_append]
        have z : (d.names.take (t + 1)).countP (fun x => decide (cmp x f.name < 0)) = (d.names.take (t + 1)).length := by
          rw [List.countP_eq_length]
          intro x hx
          obtain ⟨j, hj, rfl⟩ := List.getElem_of_mem hx
          rw [List.getElem_take]
          have hj' : j < t + 1 := by rw [List.length_take] at hj; omega
          have := hall j (by omega)
          rw [getElem!_pos d.names j (by omega)] at this
          simpa using this
        rw [z, List.length_take]
        omega
      omega
  have ROWS : Aside (∀ u : World, RRep u B b d → ∀ t, t < d.files.length → ∃ g0, d.vf.ownBlock = some g0 ∧ u.cell? ⟨g0, t * 3, none⟩ = some (.string d.files[t]!.name)) := fun u hu t ht => by
    obtain ⟨g0, c0, e0, _, _, hg0⟩ := own_form hu.tab (by omega)
    exact ⟨g0, hg0, own_cell hu.tab hg0 (gflat_at (getbang d.files t ht)).1⟩
  obtain ⟨avb, cvb, eavb⟩ := own_any hrb
  obtain ⟨avl, cvl, eavl⟩ := own_any hrl
  generalize hP : place d.names f.name = P at *
  generalize hN : d.files.length = N at *
  have EVF : Aside (d.vf = .slice none 0 0) := hv
  clear hv
  subst hpn
  subst hn0
  have EV : Aside (f.vb = .slice avb f.bytes.length cvb ∧ f.vl = .slice avl f.late.length cvl) := ⟨eavb, eavl⟩
  rw [eavb, eavl] at HW ⊢
  clear h hr hrb hrl hfr hnd hb0 eavb eavl hP hN
  go_enter Tryz.func79, Tryz.ntmps79
  go_wp2
  go_loopg [4] 1 (fun gh s4 wr => ∃ k : Nat, 0 - k ≤ gh ∧ k ≤ 0 ∧ s4 = .int .i64 (k : Int) ∧ Below (w.alloc (.cells #[.string f.name, .slice avb f.bytes.length cvb, .slice avl f.late.length cvl] 101)).heap.size (w.alloc (.cells #[.string f.name, .slice avb f.bytes.length cvb, .slice avl f.late.length cvl] 101)) wr)
  case atStart => exact ⟨0, by omega, by omega, rfl, Below.refl _ _⟩
  case round =>
    obtain ⟨k, hgh, hk, rfl, hbk⟩ := hrel
    obtain ⟨hR, hbw, x0, x1, x2⟩ := HW.out wr hbk
    have c0 := hR.c0
    rw [EVF.out] at c0
    by_cases hkP : k < 0
    · exfalso; omega
    · obtain rfl : k = 0 := by omega
      have d3 : decide (0 < 0) = false := decide_eq_false (Nat.lt_irrefl 0)
      clear hR
      go_wp2
      go_quiet (fail)
      have hbu := below_drewN hbk nq
      generalize wr.drewN nq = u at *
      obtain ⟨hRu, hbw', z0, z1, z2⟩ := HW.out u hbu
      obtain ⟨r, c4, w4, hr4, hb4, v5, w5, hr5, ⟨p1, p2⟩, ⟨a5, c5, rfl⟩, v6, w6, hr6, ⟨a6, c6, rfl⟩, ⟨q1, q2⟩, hRR, hSS⟩ := PS.out u hbw'
      have FF : Aside _ := And.intro hRR ((Step.ofBelow (fo := d.foot b ++ f.obs) hbw').trans hSS)
      have hbl : b < u.heap.size := hRu.b_lt
      have hXl : w.heap.size < u.heap.size := World.block_lt_of_cell? u _ z0
      have hs4 := hb4.size
      have c0u := hRu.c0
      have c04 := (hRu.below hb4).c0
      have t0 := cell_below z0 hb4
      have t1 := cell_below z1 hb4
      have t2 := cell_below z2 hb4
      rw [EVF.out] at c0u c04 p1 q1 hr5
      rw [EV.out.1, EV.out.2] at hr5
      have ecut : cutV (.slice none 0 0) 0 = .slice none 0 0 := rfl
      rw [ecut] at hr5
      have c0A : ∀ o : Obj, (u.alloc o).cell? ⟨b, 0, none⟩ = some (.slice none 0 0) := fun o => cell_below c0u ((Below.refl _ _).alloc (Nat.le_refl _) o)
      have c04A : ∀ o : Obj, (w4.alloc o).cell? ⟨b, 0, none⟩ = some (.slice none 0 0) := fun o => cell_below c04 ((Below.refl _ _).alloc (Nat.le_refl _) o)
      have m1 : ¬ b = u.heap.size := by omega
      have m2 : ¬ u.heap.size = b := by omega
      have m3 : ¬ b = w4.heap.size := by omega
      have m4 : ¬ w4.heap.size = b := by omega
      have m5 : ¬ w.heap.size = w4.heap.size := by omega
      have m6 : ¬ w4.heap.size = w.heap.size := by omega
      clear x0 x1 x2 c0 hbk HW PS hless ROWS hRu hRR hSS hb4 hbu hbw hbw' EVF EV ecut
      try clear e0 hle hg0
      simp only [Nat.sub_self, Nat.add_zero] at hr4 hr6 FF
      go_wp2_with (at_builtin; refine Lib.wpList_append_run _ rfl _ _ _ _ rfl _ _ rfl rfl _ _ hr4 ?_)
      go_region_law (first
        | (refine step_append_run rfl _ _ 69 69 rfl (.slice none 0 0) (.slice (some ⟨w4.heap.size, 0, none⟩) 1 1) (by simp [Act.eval, Act.put]) (by simp [Act.eval, Act.put]) hr5 ?_)
        | (refine step_append_run rfl _ _ 69 69 rfl (.slice a5 (0 + 1) c5) (.slice (some ⟨r, 0, none⟩) 0 c4) (by simp [Act.eval]) (by simp [Act.eval]) hr6 ?_))
      all_goals
        go_wp2
        go_end0
        exact ⟨rfl, _, FF.out⟩
end Go.Proofs.YtajjcfacbnicnaaGreatDoor.Dk
