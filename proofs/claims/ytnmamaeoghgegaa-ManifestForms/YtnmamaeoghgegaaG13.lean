/-
  Ytnmamaeoghgegaa: the texts DX14, DR5, DR6, DR7, one behind the other.
-/
import Derived.Test.YtnmamaeoghgegaaG12
import Derived.Deep.RegionWith
import Derived.Deep.RegionHeld3
/-
  Rename: a file goes to another place.
-/
namespace Go.Proofs.Ytnmamaeoghgegaa.Dk
open Go.RowKit
set_option maxRecDepth 100000

theorem Step.frame {a c : List Nat} {u w : World} (h : Step a c u w) (e : List Nat) : Step (a ++ e) (c ++ e) u w where
  os := h.os
  tape := h.tape
  output := h.output
  size := h.size
  block := fun k hk hn => h.block k hk (fun hm => hn (List.mem_append_left _ hm))
  sub := fun k hk => by
    rcases List.mem_append.1 hk with hk | hk
    · rcases h.sub k hk with e | e
      · exact .inl (List.mem_append_left _ e)
      · exact .inr e
    · exact .inl (List.mem_append_right _ hk)
theorem Step.weaken {a c c' : List Nat} {u w : World} (h : Step a c u w) (hs : ∀ k ∈ c', k ∈ a ∨ u.heap.size ≤ k) : Step a c' u w := ⟨h.os, h.tape, h.output, h.size, h.block, hs⟩
theorem Step.less {a c c' : List Nat} {u w : World} (h : Step a c u w) (hs : ∀ k ∈ c', k ∈ c) : Step a c' u w :=
  ⟨h.os, h.tape, h.output, h.size, h.block, fun k hk => h.sub k (hs k hk)⟩
theorem Step.undrew {a c : List Nat} {u w : World} (h : Step a c u.drew w) : Step a c u w := ⟨h.os, h.tape, h.output, h.size, h.block, h.sub⟩

theorem erase_fresh {w : World} {B b i : Nat} {d : Ds} {f : Fv} {v' v'' : Value} {P : List Pc} (h : Rep w B b d) (hf : d.files[i]? = some f) (hv : v'.ownBlock = d.vf.ownBlock) (hp : v''.ownBlock = d.vp.ownBlock) {k : Nat} (hk : f.v.ownBlock = some k) : k ∉ Ds.foot b { d with files := d.files.eraseIdx i, pieces := P, vf := v', vp := v'' } := by
  have hm : f ∈ d.files := List.mem_of_getElem? hf
  intro hmem
  rcases foot_cases hmem with e | e | e | ⟨x, hx, e⟩
  · exact h.b_f hm hk e
  · exact h.vf_f hm (hv ▸ e) hk
  · exact h.vp_f hm (hp ▸ e) hk
  · obtain ⟨A, C, e1, _, hA⟩ := split_at hf f
    have e2 : d.files.eraseIdx i = A ++ C := by
      rw [e1, List.eraseIdx_append_of_length_le (by omega), hA, Nat.sub_self]
      rfl
    simp only at hx
    rw [e2] at hx
    have hn0 := h.nodup
    rw [show d.foot b = ([b] ++ ob d.vf ++ ob d.vp ++ A.flatMap (fun f => ob f.v)) ++ (ob f.v ++ C.flatMap fun f => ob f.v) by unfold Ds.foot; rw [e1]; simp] at hn0
    rcases List.mem_append.1 hx with hx | hx
    · exact (List.nodup_append.1 hn0).2.2 k (List.mem_append_right _ (List.mem_flatMap.2 ⟨x, hx, mem_ob.2 e⟩)) k (List.mem_append_left _ (mem_ob.2 hk)) rfl
    · exact app_ne (List.nodup_append.1 hn0).2.1 (mem_ob.2 hk) (List.mem_flatMap.2 ⟨x, hx, mem_ob.2 e⟩)

theorem pl_putAt {d : Ds} {i : Nat} {f : Fv} {v : Value} : Ds.pl { d with files := d.files.take i ++ f :: d.files.drop i, vf := v } = d.pl.putAt i f.pl := by
  simp [Ds.pl, St.putAt]

/-- Where a file in hand lies, and what belongs to it. -/
structure Hand (w : World) (B b X : Nat) (d : Ds) (f : Fv) (n : ByteArray) : Prop where
  rep : Rep w B b d
  row : w.ownsRow B 5 1 f.v f.bytes.length (bcells f.bytes)
  blk : w.heap[X]? = some (.cells #[.string n, f.v, .int .i64 (f.sure : Int)] 70 (0, 0))
  out : X ∉ d.foot b
  fresh : ∀ k, f.v.ownBlock = some k → k ∉ d.foot b
  apart : f.v.ownBlock ≠ some X

theorem Hand.below {w w' : World} {B b X : Nat} {d : Ds} {f : Fv} {n : ByteArray} (h : Hand w B b X d f n) (hb : Below w.heap.size w w') : Hand w' B b X d f n :=
  ⟨h.rep.below hb, own_frame h.row fun k hk => hb.block k (h.row.lt k hk).2, (hb.block X (Array.getElem?_eq_some_iff.1 h.blk).1).trans h.blk, h.out, h.fresh, h.apart⟩
theorem Hand.cells {w : World} {B b X : Nat} {d : Ds} {f : Fv} {n : ByteArray} (h : Hand w B b X d f n) : w.cell? ⟨X, 0, none⟩ = some (.string n) ∧ w.cell? ⟨X, 1, none⟩ = some f.v ∧ w.cell? ⟨X, 2, none⟩ = some (.int .i64 (f.sure : Int)) ∧ w.frozen? ⟨X, 0, none⟩ = false :=
  ⟨by rw [cell_of_row w X 0 _ _ _ h.blk]; rfl, by rw [cell_of_row w X 1 _ _ _ h.blk]; rfl, by rw [cell_of_row w X 2 _ _ _ h.blk]; rfl, frozen_of_row w X 0 _ _ h.blk⟩
theorem Hand.named {w : World} {B b X : Nat} {d : Ds} {f : Fv} {n : ByteArray} (h : Hand w B b X d f n) (t : ByteArray) : Hand (w.setCell ⟨X, 0, none⟩ (.string t)) B b X d f t :=
  ⟨h.rep.frame fun k hk => Below.heap_setCell w ⟨X, 0, none⟩ _ k (fun e => h.out (by rw [← show k = X from e]; exact hk)), own_frame h.row fun k hk => Below.heap_setCell w ⟨X, 0, none⟩ _ k (fun e => h.apart (by rw [← show k = X from e]; exact hk)), set_same h.blk rfl, h.out, h.fresh, h.apart⟩
theorem Hand.drew {w : World} {B b X : Nat} {d : Ds} {f : Fv} {n : ByteArray} (h : Hand w B b X d f n) : Hand w.drew B b X d f n := h.below ((Below.refl _ _).drew)

/-- Over a step that changes the disk alone. -/
theorem Hand.step {w w' : World} {B b X : Nat} {d d' : Ds} {f : Fv} {n : ByteArray} (h : Hand w B b X d f n) (hr : Rep w' B b d') (hs : Step (d.foot b) (d'.foot b) w w') : Hand w' B b X d' f n := by
  have hX := (Array.getElem?_eq_some_iff.1 h.blk).1
  refine ⟨hr, own_frame h.row fun k hk => hs.block k (h.row.lt k hk).2 (h.fresh k hk), (hs.block X hX h.out).trans h.blk, fun hm => ?_, fun k hk hm => ?_, h.apart⟩
  · rcases hs.sub X hm with e | e
    · exact h.out e
    · omega
  · rcases hs.sub k hm with e | e
    · exact h.fresh k hk e
    · have := (h.row.lt k hk).2
      omega

/-- The file is dropped, and stays in hand. -/
theorem Hand.taken {w w' : World} {B b i : Nat} {d : Ds} {f : Fv} {v' v'' : Value} {P : List Pc} (h : Rep w B b d) (hf : d.files[i]? = some f) (hv : v'.ownBlock = d.vf.ownBlock) (hp : v''.ownBlock = d.vp.ownBlock)
    (hr : Rep w' B b { d with files := d.files.eraseIdx i, pieces := P, vf := v', vp := v'' }) (hs : Step (d.foot b) (Ds.foot b { d with files := d.files.eraseIdx i, pieces := P, vf := v', vp := v'' }) (w.alloc (.cells #[.string f.name, f.v, .int .i64 (f.sure : Int)] 70)) w')
    (hk : ∀ k, k < (w.alloc (.cells #[.string f.name, f.v, .int .i64 (f.sure : Int)] 70)).heap.size → k ≠ b → d.vf.ownBlock ≠ some k → d.vp.ownBlock ≠ some k → w'.heap[k]? = (w.alloc (.cells #[.string f.name, f.v, .int .i64 (f.sure : Int)] 70)).heap[k]?) :
    Hand w' B b w.heap.size { d with files := d.files.eraseIdx i, pieces := P, vf := v', vp := v'' } f f.name := by
  have hm : f ∈ d.files := List.mem_of_getElem? hf
  have hrow := h.rows f hm
  have hnl : w.heap.size ∉ d.foot b := fun hm => by have := (h.lt _ hm).2; omega
  have hsz : w.heap.size < (w.alloc (.cells #[.string f.name, f.v, .int .i64 (f.sure : Int)] 70)).heap.size := by simp
  refine ⟨hr, own_frame hrow fun k hkk => ?_, ?_, fun hmem => ?_, fun k hkk => erase_fresh h hf hv hp hkk, fun e => by have := (hrow.lt _ e).2; omega⟩
  · have hl := (hrow.lt k hkk).2
    exact (hk k (by simp; omega) (h.b_f hm hkk) (fun e => h.vf_f hm e hkk) (fun e => h.vp_f hm e hkk)).trans (alloc_old w _ k hl)
  · exact (hk _ hsz (fun e => hnl (e ▸ foot_b)) (fun e => hnl (foot_vf e)) (fun e => hnl (foot_vp e))).trans (heap_alloc_new w _)
  · rcases hs.sub _ hmem with e | e
    · exact hnl e
    · omega

theorem rise_erase {d : Ds} {i : Nat} (h : Rising d.names) : Rising ((d.files.eraseIdx i).map Fv.name) := Rising.sub ((List.eraseIdx_sublist _ _).map _) h
theorem len_erase {l : List Fv} {i : Nat} (h : i < l.length) : (l.eraseIdx i).length = l.length - 1 := List.length_eraseIdx_of_lt h

set_option maxHeartbeats 4000000 in
theorem rename_free {w : World} {B b : Nat} {d : Ds} {f : Fv} (h : Rep w B b d) (ok : Ok d.pl) (n t : ByteArray) (hp : d.power = true) (hm : mayBe t = true) (hh : has d.names n = true) (hf : d.files[place d.names n]? = some f) (hlt : ¬ f.sure < f.bytes.length) (hc : cmp n t ≠ 0)
    (ht : has ((d.files.eraseIdx (place d.names n)).map Fv.name) t = false) :
    Calls Try.prog 30 #[.pointer (some ⟨b, 0, none⟩), .string n, .string t] w fun e w' => e = .returned (.int .i64 0) ∧ ∃ d', Rep w' B b d' ∧ d'.pl = ((d.pl.spent.drop (place d.names n)).free1 t).putAt (place ((d.files.eraseIdx (place d.names n)).map Fv.name) t) ⟨t, f.bytes, f.sure⟩ ∧ Step (d.foot b) (d'.foot b) w w' := by
  have kb := begin_any h ok.fuse
  have km := mayBe_any t
  have kf : Aside (∀ u : World, Rep u B b d.spent → _) := fun (u : World) (hu : Rep u B b d.spent) => find_any hu (show Rising d.spent.names from ok.rise) (by have := ok.dfew; show d.files.length ≤ 1000; omega) n
  have en : d.spent.names = d.names := rfl
  rw [hp] at kb
  rw [hm] at km
  rw [en, hh] at kf
  have hfew := ok.dfew
  have hpc := ok.dpieces
  have hrise := ok.rise
  have hi : place d.names n < d.files.length := (List.getElem?_eq_some_iff.1 hf).1
  obtain ⟨g, cap, ev, hcap, hcm, hg⟩ := h.vf_form hf
  obtain ⟨a, c, ea⟩ := own_any (h.rows f (List.mem_of_getElem? hf))
  have hfc : Aside (∀ u : World, Rep u B b d.spent → u.cell? ⟨b, 0, none⟩ = some (.slice (some ⟨g, 0, none⟩) d.files.length cap) ∧ u.cell? ⟨g, place d.names n * 3, none⟩ = some (.string f.name) ∧ u.cell? ⟨g, place d.names n * 3 + 1, none⟩ = some (.slice a f.bytes.length c) ∧ u.cell? ⟨g, place d.names n * 3 + 2, none⟩ = some (.int .i64 (f.sure : Int))) := fun (u : World) hu => by
    have := hu.fcells (d := d.spent) hf hg
    rw [ea] at this
    exact ⟨by rw [← ev]; exact hu.c0, this⟩
  have KD : Aside (∀ u : World, Rep u B b d.spent → _) := fun (u : World) (hu : Rep u B b d.spent) => drop_any (d := d.spent) hu hpc (show d.files.length ≤ 1000 by omega) hf
  have KF : Aside (∀ (v' v'' : Value) (u : World), Rep u B b { d.spent with files := d.spent.files.eraseIdx (place d.names n), pieces := keepOf f.name d.spent.pieces, vf := v', vp := v'' } → Calls Try.prog 33 #[.pointer (some ⟨b, 0, none⟩), .string t] u fun e w' => e = .returned (.tuple #[.int .i64 (place ((d.files.eraseIdx (place d.names n)).map Fv.name) t : Nat), .bool false]) ∧ Below u.heap.size u w') := fun v' v'' u hu => by
    have := find_any hu (show Rising ((d.files.eraseIdx (place d.names n)).map Fv.name) from rise_erase hrise) (show (d.files.eraseIdx (place d.names n)).length ≤ 1000 by rw [len_erase hi]; omega) t
    rw [show Ds.names { d.spent with files := d.spent.files.eraseIdx (place d.names n), pieces := keepOf f.name d.spent.pieces, vf := v', vp := v'' } = (d.files.eraseIdx (place d.names n)).map Fv.name from rfl, ht] at this
    exact this
  have HF : Aside (d.spent.files[place d.names n]? = some f) := hf
  have PD : Aside (∀ v' v'' : Value, Ds.pl { d.spent with files := d.spent.files.eraseIdx (place d.names n), pieces := keepOf f.name d.spent.pieces, vf := v', vp := v'' } = d.pl.spent.drop (place d.names n)) := fun v' v'' => pl_drop (d := d.spent) hf
  have hJ := place_le ((d.files.eraseIdx (place d.names n)).map Fv.name) t
  rw [List.length_map, len_erase hi] at hJ
  have HFR : Aside ((d.pl.spent.drop (place d.names n)).free1 t = d.pl.spent.drop (place d.names n)) := by
    show _ = _
    unfold St.free1
    have e : (d.pl.spent.drop (place d.names n)).names = (d.files.eraseIdx (place d.names n)).map Fv.name := by
      show (d.spent.pl.drop (place d.names n)).names = _
      rw [← pl_drop (d := d.spent) (v' := .slice none 0 0) (v'' := .slice none 0 0) hf, names_pl]
      rfl
    rw [e, ht]
    rfl

  have d1 : decide ((f.sure : Int) < (f.bytes.length : Int)) = false := by simp; omega
  have d1' : decide (f.sure < f.bytes.length) = false := by simpa using hlt
  have hc' := eq_bytes' hc
  have EA : Aside (f.v = .slice a f.bytes.length c) := ea
  clear h ok hp hm hh en hf ev hc ea hrise ht
  generalize hI : place d.names n = I at *
  generalize hJJ : place ((d.files.eraseIdx I).map Fv.name) t = J at *
  go_enter Try.func30, Try.ntmps30
  go_wp2_with (first
    | (go_at_call 36; refine kb.mono ?_; rintro e w1 ⟨rfl, h1, s1⟩)
    | (go_at_call 37; refine (km _).mono ?_; rintro e w1' ⟨rfl, rfl⟩)
    | (go_at_call 33; refine (kf.out _ h1).mono ?_; rintro e w2 ⟨rfl, hb2⟩; have h2 := h1.below hb2; obtain ⟨x0, x1, x2, x3⟩ := hfc.out _ h2; clear kf)
    | (go_at_call 71; refine (KD.out _ (h2.below ((Below.refl _ _).alloc (Nat.le_refl _) _))).mono ?_; rintro e w4 ⟨rfl, v', v'', hv, hv2, h4, s4, k4⟩; have H4 : Aside _ := Hand.taken h2 HF.out hv hv2 h4 (by rw [EA.out]; exact s4) (by rw [EA.out]; exact k4); clear KD k4)
    | (go_at_call 33; refine (KF.out _ _ _ h4).mono ?_; rintro e w5 ⟨rfl, hb5⟩; have H5 : Aside _ := H4.out.below hb5; clear KF; obtain ⟨y0, y1, y2, y3⟩ := H5.out.cells))

  have hX : w.heap.size ≤ w2.heap.size := (s1.trans (Step.ofBelow hb2)).size
  have S3 : Step (d.foot b) (d.foot b ++ (ob f.v ++ [w2.heap.size])) w (w2.alloc (.cells #[.string f.name, .slice a f.bytes.length c, .int .i64 (f.sure : Int)] 70)) :=
    ((s1.trans (Step.ofBelow hb2)).trans (Step.ofBelow ((Below.refl _ _).alloc (Nat.le_refl _) _))).weaken (fun k hk => by
      rcases List.mem_append.1 hk with hk | hk
      · exact .inl hk
      · rcases List.mem_append.1 hk with hk | hk
        · exact .inl (foot_f (d := d) (List.mem_of_getElem? HF.out) (mem_ob.1 hk))
        · rw [List.mem_singleton.1 hk]; exact .inr hX)
  have S7 : Aside (Step (d.foot b) (Ds.foot b { d.spent with files := d.spent.files.eraseIdx I, pieces := keepOf f.name d.spent.pieces, vf := v', vp := v'' } ++ (ob f.v ++ [w2.heap.size])) w (w5.setCell ⟨w2.heap.size, 0, none⟩ (.string t))) :=
    ((S3.trans (s4.frame _)).trans (Step.ofBelow hb5)).trans (Step.setb _ (List.mem_append_right _ (List.mem_append_right _ (List.mem_singleton.2 rfl))) _ _)
  have H7 : Aside (Hand (w5.setCell ⟨w2.heap.size, 0, none⟩ (.string t)) B b w2.heap.size { d.spent with files := d.spent.files.eraseIdx I, pieces := keepOf f.name d.spent.pieces, vf := v', vp := v'' } f t) := H5.out.named t
  have hll : List.length ({ d.spent with files := d.spent.files.eraseIdx I, pieces := keepOf f.name d.spent.pieces, vf := v', vp := v'' } : Ds).files ≤ 1000 := by show (d.files.eraseIdx I).length ≤ 1000; rw [len_erase hi]; omega
  have hJl : J ≤ List.length ({ d.spent with files := d.spent.files.eraseIdx I, pieces := keepOf f.name d.spent.pieces, vf := v', vp := v'' } : Ds).files := by show J ≤ (d.files.eraseIdx I).length; rw [len_erase hi]; omega
  have PDD : Aside (Ds.pl { d.spent with files := d.spent.files.eraseIdx I, pieces := keepOf f.name d.spent.pieces, vf := v', vp := v'' } = (d.pl.spent.drop I).free1 t) := (PD.out v' v'').trans (HFR.out.symm)
  obtain ⟨z0, z1, z2, z3⟩ := H7.out.cells
  clear H5 H4 s4 h4 hb5 hb2 S3 s1 h1 h2 x0 x1 x2 x3 y0 y1 y2 y3 PD HFR hfc
  generalize w5.setCell ⟨w2.heap.size, 0, none⟩ (.string t) = w7 at *
  generalize w2.heap.size = X at *
  obtain ⟨dd, hdd⟩ : ∃ dd : Ds, ({ d.spent with files := d.spent.files.eraseIdx I, pieces := keepOf f.name d.spent.pieces, vf := v', vp := v'' } : Ds) = dd := ⟨_, rfl⟩
  rw [hdd] at S7 H7 hll hJl PDD
  clear hdd

  rw [EA.out] at z1
  obtain ⟨af, cf, eaf⟩ := own_any H7.out.rep.tab
  have xc := H7.out.rep.c0
  have ki := insert_rep (f := ⟨t, f.bytes, f.sure, f.v⟩) H7.out.drew.rep hll hJl H7.out.drew.row H7.out.fresh
  try dsimp only at ki
  rw [eaf] at xc ki
  rw [EA.out] at ki
  have hb7 : b < w7.heap.size := H7.out.rep.b_lt
  have hX7 : X < w7.heap.size := (Array.getElem?_eq_some_iff.1 H7.out.blk).1
  have n1 : ¬ b = w7.heap.size := by omega
  have n2 : ¬ w7.heap.size = b := by omega
  have n3 : ¬ X = w7.heap.size := by omega
  have n4 : ¬ w7.heap.size = X := by omega
  have xcA : ∀ o : Obj, (w7.alloc o).cell? ⟨b, 0, none⟩ = some (.slice af (List.length dd.files) cf) := fun o => cell_below xc ((Below.refl _ _).alloc (Nat.le_refl _) o)
  go_wp2
  go_region_with (go_at_call 40; refine ki.mono ?_; rintro e w8 ⟨a8, c8, rfl, p1, p2, h8, s8⟩)
  all_goals
    go_wp2
    go_ret
    refine ⟨rfl, _, h8, ?_, ?_⟩
    · have e1 : dd.pl.putAt J ⟨t, f.bytes, f.sure⟩ = _ := congrArg (fun s => St.putAt s J ⟨t, f.bytes, f.sure⟩) PDD.out
      rw [← e1]
      exact pl_putAt (d := dd) (f := ⟨t, f.bytes, f.sure, _⟩)
    · refine S7.out.trans (Step.undrew (s8.weak ?_))
      intro k hk
      refine .inl ?_
      rcases List.mem_append.1 hk with hk | hk
      · exact List.mem_append_left _ hk
      · exact List.mem_append_right _ (List.mem_append_left _ (by rw [EA.out]; exact hk))

set_option maxHeartbeats 4000000 in
theorem rename_over {w : World} {B b : Nat} {d : Ds} {f : Fv} (h : Rep w B b d) (ok : Ok d.pl) (n t : ByteArray) (hp : d.power = true) (hm : mayBe t = true) (hh : has d.names n = true) (hf : d.files[place d.names n]? = some f) (hlt : ¬ f.sure < f.bytes.length) (hc : cmp n t ≠ 0)
    (ht : has ((d.files.eraseIdx (place d.names n)).map Fv.name) t = true) :
    Calls Try.prog 30 #[.pointer (some ⟨b, 0, none⟩), .string n, .string t] w fun e w' => e = .returned (.int .i64 0) ∧ ∃ d', Rep w' B b d' ∧ d'.pl = ((d.pl.spent.drop (place d.names n)).free1 t).putAt (place ((d.files.eraseIdx (place d.names n)).map Fv.name) t) ⟨t, f.bytes, f.sure⟩ ∧ Step (d.foot b) (d'.foot b) w w' := by
  have kb := begin_any h ok.fuse
  have km := mayBe_any t
  have kf : Aside (∀ u : World, Rep u B b d.spent → _) := fun (u : World) (hu : Rep u B b d.spent) => find_any hu (show Rising d.spent.names from ok.rise) (by have := ok.dfew; show d.files.length ≤ 1000; omega) n
  have en : d.spent.names = d.names := rfl
  rw [hp] at kb
  rw [hm] at km
  rw [en, hh] at kf
  have hfew := ok.dfew
  have hpc := ok.dpieces
  have hrise := ok.rise
  have hi : place d.names n < d.files.length := (List.getElem?_eq_some_iff.1 hf).1
  obtain ⟨g, cap, ev, hcap, hcm, hg⟩ := h.vf_form hf
  obtain ⟨a, c, ea⟩ := own_any (h.rows f (List.mem_of_getElem? hf))
  have hfc : Aside (∀ u : World, Rep u B b d.spent → u.cell? ⟨b, 0, none⟩ = some (.slice (some ⟨g, 0, none⟩) d.files.length cap) ∧ u.cell? ⟨g, place d.names n * 3, none⟩ = some (.string f.name) ∧ u.cell? ⟨g, place d.names n * 3 + 1, none⟩ = some (.slice a f.bytes.length c) ∧ u.cell? ⟨g, place d.names n * 3 + 2, none⟩ = some (.int .i64 (f.sure : Int))) := fun (u : World) hu => by
    have := hu.fcells (d := d.spent) hf hg
    rw [ea] at this
    exact ⟨by rw [← ev]; exact hu.c0, this⟩
  have KD : Aside (∀ u : World, Rep u B b d.spent → _) := fun (u : World) (hu : Rep u B b d.spent) => drop_any (d := d.spent) hu hpc (show d.files.length ≤ 1000 by omega) hf
  have KF : Aside (∀ (v' v'' : Value) (u : World), Rep u B b { d.spent with files := d.spent.files.eraseIdx (place d.names n), pieces := keepOf f.name d.spent.pieces, vf := v', vp := v'' } → Calls Try.prog 33 #[.pointer (some ⟨b, 0, none⟩), .string t] u fun e w' => e = .returned (.tuple #[.int .i64 (place ((d.files.eraseIdx (place d.names n)).map Fv.name) t : Nat), .bool true]) ∧ Below u.heap.size u w') := fun v' v'' u hu => by
    have := find_any hu (show Rising ((d.files.eraseIdx (place d.names n)).map Fv.name) from rise_erase hrise) (show (d.files.eraseIdx (place d.names n)).length ≤ 1000 by rw [len_erase hi]; omega) t
    rw [show Ds.names { d.spent with files := d.spent.files.eraseIdx (place d.names n), pieces := keepOf f.name d.spent.pieces, vf := v', vp := v'' } = (d.files.eraseIdx (place d.names n)).map Fv.name from rfl, ht] at this
    exact this
  have HF : Aside (d.spent.files[place d.names n]? = some f) := hf
  have PD : Aside (∀ v' v'' : Value, Ds.pl { d.spent with files := d.spent.files.eraseIdx (place d.names n), pieces := keepOf f.name d.spent.pieces, vf := v', vp := v'' } = d.pl.spent.drop (place d.names n)) := fun v' v'' => pl_drop (d := d.spent) hf
  have hJ := place_le ((d.files.eraseIdx (place d.names n)).map Fv.name) t
  rw [List.length_map, len_erase hi] at hJ
  have hmem := (place_mem (rise_erase (i := place d.names n) ok.rise) t).1 (has_iff.1 ht)
  have hJ2 : place ((d.files.eraseIdx (place d.names n)).map Fv.name) t < (d.files.eraseIdx (place d.names n)).length := by have := hmem.1; rwa [List.length_map] at this
  obtain ⟨f2, hf2⟩ : ∃ f2, (d.files.eraseIdx (place d.names n))[place ((d.files.eraseIdx (place d.names n)).map Fv.name) t]? = some f2 := ⟨_, List.getElem?_eq_getElem hJ2⟩
  have HF2 : Aside ((d.files.eraseIdx (place d.names n))[place ((d.files.eraseIdx (place d.names n)).map Fv.name) t]? = some f2) := hf2
  have KD2 : Aside (∀ (v' v'' : Value) (u : World), Rep u B b ({ d.spent with files := d.spent.files.eraseIdx (place d.names n), pieces := keepOf f.name d.spent.pieces, vf := v', vp := v'' } : Ds) → _) := fun (v' v'' : Value) (u : World) hu => drop_any (d := ({ d.spent with files := d.spent.files.eraseIdx (place d.names n), pieces := keepOf f.name d.spent.pieces, vf := v', vp := v'' } : Ds)) hu (Nat.le_trans (List.length_filter_le _ _) hpc) (show (d.files.eraseIdx (place d.names n)).length ≤ 1000 by rw [len_erase hi]; omega) hf2
  have HFR : Aside (∀ v' v'' : Value, (d.pl.spent.drop (place d.names n)).free1 t = (Ds.pl ({ d.spent with files := d.spent.files.eraseIdx (place d.names n), pieces := keepOf f.name d.spent.pieces, vf := v', vp := v'' } : Ds)).drop (place ((d.files.eraseIdx (place d.names n)).map Fv.name) t)) := fun v' v'' => by
    unfold St.free1
    have e : (d.pl.spent.drop (place d.names n)).names = (d.files.eraseIdx (place d.names n)).map Fv.name := by
      show (d.spent.pl.drop (place d.names n)).names = _
      rw [← pl_drop (d := d.spent) (v' := .slice none 0 0) (v'' := .slice none 0 0) hf, names_pl]
      rfl
    rw [e, ht, pl_drop (d := d.spent) hf]
    rfl
  clear hmem hf2

  have d1 : decide ((f.sure : Int) < (f.bytes.length : Int)) = false := by simp; omega
  have d1' : decide (f.sure < f.bytes.length) = false := by simpa using hlt
  have hc' := eq_bytes' hc
  have EA : Aside (f.v = .slice a f.bytes.length c) := ea
  clear h ok hp hm hh en hf ev hc ea hrise ht
  generalize hI : place d.names n = I at *
  generalize hJJ : place ((d.files.eraseIdx I).map Fv.name) t = J at *
  go_enter Try.func30, Try.ntmps30
  go_wp2_with (first
    | (go_at_call 36; refine kb.mono ?_; rintro e w1 ⟨rfl, h1, s1⟩)
    | (go_at_call 37; refine (km _).mono ?_; rintro e w1' ⟨rfl, rfl⟩)
    | (go_at_call 33; refine (kf.out _ h1).mono ?_; rintro e w2 ⟨rfl, hb2⟩; have h2 := h1.below hb2; obtain ⟨x0, x1, x2, x3⟩ := hfc.out _ h2; clear kf)
    | (go_at_call 71; refine (KD.out _ (h2.below ((Below.refl _ _).alloc (Nat.le_refl _) _))).mono ?_; rintro e w4 ⟨rfl, v', v'', hv, hv2, h4, s4, k4⟩; have H4 : Aside _ := Hand.taken h2 HF.out hv hv2 h4 (by rw [EA.out]; exact s4) (by rw [EA.out]; exact k4); clear KD k4)
    | (go_at_call 33; refine (KF.out _ _ _ h4).mono ?_; rintro e w5 ⟨rfl, hb5⟩; have H5 : Aside _ := H4.out.below hb5; clear KF; obtain ⟨y0, y1, y2, y3⟩ := H5.out.cells)
    | (go_at_call 71; refine (KD2.out _ _ _ H5.out.rep).mono ?_; rintro e w6 ⟨rfl, u', u'', hu, hu2, h6, s6, _⟩; have H6 : Aside _ := H5.out.step h6 s6; clear KD2 y0 y1 y2 y3; obtain ⟨y0, y1, y2, y3⟩ := H6.out.cells))

  have hX : w.heap.size ≤ w2.heap.size := (s1.trans (Step.ofBelow hb2)).size
  have S3 : Step (d.foot b) (d.foot b ++ (ob f.v ++ [w2.heap.size])) w (w2.alloc (.cells #[.string f.name, .slice a f.bytes.length c, .int .i64 (f.sure : Int)] 70)) :=
    ((s1.trans (Step.ofBelow hb2)).trans (Step.ofBelow ((Below.refl _ _).alloc (Nat.le_refl _) _))).weaken (fun k hk => by
      rcases List.mem_append.1 hk with hk | hk
      · exact .inl hk
      · rcases List.mem_append.1 hk with hk | hk
        · exact .inl (foot_f (d := d) (List.mem_of_getElem? HF.out) (mem_ob.1 hk))
        · rw [List.mem_singleton.1 hk]; exact .inr hX)
  have S7 : Aside (Step (d.foot b) (Ds.foot b ({ d.spent with files := (d.spent.files.eraseIdx I).eraseIdx J, pieces := keepOf f2.name (keepOf f.name d.spent.pieces), vf := u', vp := u'' } : Ds) ++ (ob f.v ++ [w2.heap.size])) w (w6.setCell ⟨w2.heap.size, 0, none⟩ (.string t))) :=
    (((S3.trans (s4.frame _)).trans (Step.ofBelow hb5)).trans (s6.frame _)).trans (Step.setb _ (List.mem_append_right _ (List.mem_append_right _ (List.mem_singleton.2 rfl))) _ _)
  have H7 : Aside (Hand (w6.setCell ⟨w2.heap.size, 0, none⟩ (.string t)) B b w2.heap.size ({ d.spent with files := (d.spent.files.eraseIdx I).eraseIdx J, pieces := keepOf f2.name (keepOf f.name d.spent.pieces), vf := u', vp := u'' } : Ds) f t) := H6.out.named t
  have hJ3 : ((d.files.eraseIdx I).eraseIdx J).length = d.files.length - 1 - 1 := by rw [len_erase (by rw [len_erase hi]; rw [len_erase hi] at hJ2; omega), len_erase hi]
  have hll : List.length ({ d.spent with files := (d.spent.files.eraseIdx I).eraseIdx J, pieces := keepOf f2.name (keepOf f.name d.spent.pieces), vf := u', vp := u'' } : Ds).files ≤ 1000 := by show ((d.files.eraseIdx I).eraseIdx J).length ≤ 1000; omega
  have hJl : J ≤ List.length ({ d.spent with files := (d.spent.files.eraseIdx I).eraseIdx J, pieces := keepOf f2.name (keepOf f.name d.spent.pieces), vf := u', vp := u'' } : Ds).files := by show J ≤ ((d.files.eraseIdx I).eraseIdx J).length; rw [len_erase hi] at hJ2; omega
  have PDD : Aside (Ds.pl ({ d.spent with files := (d.spent.files.eraseIdx I).eraseIdx J, pieces := keepOf f2.name (keepOf f.name d.spent.pieces), vf := u', vp := u'' } : Ds) = (d.pl.spent.drop I).free1 t) := (pl_drop (d := ({ d.spent with files := d.spent.files.eraseIdx I, pieces := keepOf f.name d.spent.pieces, vf := v', vp := v'' } : Ds)) HF2.out).trans (HFR.out v' v'').symm
  obtain ⟨z0, z1, z2, z3⟩ := H7.out.cells
  clear H6 H5 H4 s4 s6 h4 h6 hb5 hb2 S3 s1 h1 h2 x0 x1 x2 x3 y0 y1 y2 y3 PD HFR hfc HF2
  generalize w6.setCell ⟨w2.heap.size, 0, none⟩ (.string t) = w7 at *
  generalize w2.heap.size = X at *
  obtain ⟨dd, hdd⟩ : ∃ dd : Ds, ({ d.spent with files := (d.spent.files.eraseIdx I).eraseIdx J, pieces := keepOf f2.name (keepOf f.name d.spent.pieces), vf := u', vp := u'' } : Ds) = dd := ⟨_, rfl⟩
  rw [hdd] at S7 H7 hll hJl PDD
  clear hdd

  rw [EA.out] at z1
  obtain ⟨af, cf, eaf⟩ := own_any H7.out.rep.tab
  have xc := H7.out.rep.c0
  have ki := insert_rep (f := ⟨t, f.bytes, f.sure, f.v⟩) H7.out.drew.rep hll hJl H7.out.drew.row H7.out.fresh
  try dsimp only at ki
  rw [eaf] at xc ki
  rw [EA.out] at ki
  have hb7 : b < w7.heap.size := H7.out.rep.b_lt
  have hX7 : X < w7.heap.size := (Array.getElem?_eq_some_iff.1 H7.out.blk).1
  have n1 : ¬ b = w7.heap.size := by omega
  have n2 : ¬ w7.heap.size = b := by omega
  have n3 : ¬ X = w7.heap.size := by omega
  have n4 : ¬ w7.heap.size = X := by omega
  have xcA : ∀ o : Obj, (w7.alloc o).cell? ⟨b, 0, none⟩ = some (.slice af (List.length dd.files) cf) := fun o => cell_below xc ((Below.refl _ _).alloc (Nat.le_refl _) o)
  go_wp2
  go_region_with (go_at_call 40; refine ki.mono ?_; rintro e w8 ⟨a8, c8, rfl, p1, p2, h8, s8⟩)
  all_goals
    go_wp2
    go_ret
    refine ⟨rfl, _, h8, ?_, ?_⟩
    · have e1 : dd.pl.putAt J ⟨t, f.bytes, f.sure⟩ = _ := congrArg (fun s => St.putAt s J ⟨t, f.bytes, f.sure⟩) PDD.out
      rw [← e1]
      exact pl_putAt (d := dd) (f := ⟨t, f.bytes, f.sure, _⟩)
    · refine S7.out.trans (Step.undrew (s8.weak ?_))
      intro k hk
      refine .inl ?_
      rcases List.mem_append.1 hk with hk | hk
      · exact List.mem_append_left _ hk
      · exact List.mem_append_right _ (List.mem_append_left _ (by rw [EA.out]; exact hk))
end Go.Proofs.Ytnmamaeoghgegaa.Dk

/-
  The document's disk: a file is dropped; Remove.
-/
namespace Go.Proofs.Ytnmamaeoghgegaa.Dk
open Go.RowKit
set_option maxRecDepth 100000

theorem gerase (l : List Gv) (i : Nat) : (l.flatMap Gv.cells).take (i * 3) ++ (l.flatMap Gv.cells).drop ((i + 1) * 3) = (l.eraseIdx i).flatMap Gv.cells := by
  rw [gflat_take, gflat_drop, List.eraseIdx_eq_take_drop_succ, List.flatMap_append]

theorem RRep.outs {w : World} {B b : Nat} {d : Rs} (h : RRep w B b d) {L : List Gv} (hL : ∀ f ∈ L, f ∈ d.files) : ∀ f ∈ L, ∀ k ∈ f.obs, k ≠ b ∧ d.vf.ownBlock ≠ some k ∧ k < w.heap.size := fun f hf k hk =>
  ⟨h.b_f (hL f hf) hk, fun e => h.vf_f (hL f hf) e hk, (h.lt k (rfoot_f (hL f hf) hk)).2⟩

set_option maxHeartbeats 4000000 in
theorem rdrop_any {w : World} {B b i : Nat} {d : Rs} {f : Gv} (h : RRep w B b d) (hll : d.files.length ≤ 500) (hf : d.files[i]? = some f) :
    Calls Try.prog 89 #[.pointer (some ⟨b, 0, none⟩), .int .i64 (i : Int)] w fun e w' => e = .returned (.tuple #[]) ∧ ∃ v', RRep w' B b { d with files := d.files.eraseIdx i, vf := v' } ∧ Step (d.foot b) (Rs.foot b { d with files := d.files.eraseIdx i, vf := v' }) w w' ∧ (∀ k, k < w.heap.size → k ≠ b → w'.heap[k]? = w.heap[k]?)  ∧ (∀ k, v'.ownBlock = some k → w.heap.size ≤ k) := by
  have hi : i < d.files.length := (List.getElem?_eq_some_iff.1 hf).1
  obtain ⟨g, cap, ev, hcap, hcm, hg⟩ := h.vf_form hf
  have hB : B ≤ w.heap.size := by have := h.lt b rfoot_b; omega
  have hgl : g < w.heap.size := (h.tab.lt g hg).2
  have hone := gcells_one h
  have hlen := gflat_len d.files
  have hC : ∀ j u, (d.files.flatMap Gv.cells)[j]? = some u → w.cell? ⟨g, j, none⟩ = some u := fun j u hj => own_cell h.tab hg hj
  have hE : (w.drew.alloc (.cells #[] 89)).ownsRow B 89 3 (.slice (some ⟨w.heap.size, 0, none⟩) 0 0) 0 [] := World.ownsRow_made w.drew #[] 0 hB (by unfold maxLen; omega) rfl
  have hb1 : Below w.heap.size w (w.drew.alloc (.cells #[] 89)) := ((Below.refl _ _).drew).alloc (Nat.le_refl _) _
  obtain ⟨v2, w2, hr1, ho2, hg2, hat2⟩ := append_files hE (by simp; omega) ⟨g, 0, none⟩ i cap ((d.files.flatMap Gv.cells).take (i * 3)) (by rw [List.length_take, hlen]; omega) (fun j u hj => by
    rw [Addr.add_lit, Nat.zero_add]
    rw [List.getElem?_take] at hj
    split at hj
    · exact cell_below (hC j u hj) hb1
    · cases hj) (fun u hu => hone u (List.mem_of_mem_take hu)) (by omega) 80
  have hv2 : ∃ k2, v2.ownBlock = some k2 ∧ w.heap.size ≤ k2 := by
    rcases hat2 with e | ⟨k, e, hk⟩
    · exact ⟨w.heap.size, e, Nat.le_refl _⟩
    · exact ⟨k, e, by simp at hk; omega⟩
  obtain ⟨k2, hk2, hk2'⟩ := hv2
  have hkeep2 : ∀ k, k < w.heap.size → w2.heap[k]? = w.heap[k]? := fun k hk => (hg2.block k (by simp; omega) (fun e => by injection e with e; have e' : k = w.heap.size := e; omega)).trans (hb1.block k hk)
  have hs2 : w.heap.size ≤ w2.heap.size := Nat.le_trans hb1.size hg2.size
  have hcell2 : ∀ j u, (d.files.flatMap Gv.cells)[j]? = some u → w2.cell? ⟨g, j, none⟩ = some u := fun j u hj => (World.cell?_of_block (hkeep2 g hgl)).trans (hC j u hj)
  have AP : Aside (∀ A : Addr, (cap ≠ i + 1 → A = ⟨g, (i + 1) * 3, none⟩) → ∃ v3 w3, (Builtin.append_ #[80, 80] 80 #[v2, .slice (some A) (d.files.length - (i + 1)) (cap - (i + 1))]).run Try.prog w2 = .ok v3 w3 ∧ w3.ownsRow B 89 3 v3 (0 + i + (d.files.length - (i + 1))) ([] ++ (d.files.flatMap Gv.cells).take (i * 3) ++ (d.files.flatMap Gv.cells).drop ((i + 1) * 3)) ∧ w2.grownBy w3 v2.ownBlock ∧ At w2 v2 v3) := fun A hA =>
    append_files ho2 (by omega) A (d.files.length - (i + 1)) (cap - (i + 1)) ((d.files.flatMap Gv.cells).drop ((i + 1) * 3)) (by rw [List.length_drop, hlen]; omega) (fun j u hj => by
      by_cases he : cap = i + 1
      · have := (List.getElem?_eq_some_iff.1 hj).1
        rw [List.length_drop, hlen] at this
        omega
      · rw [hA he, Addr.add_lit]
        exact hcell2 ((i + 1) * 3 + j) u (by rwa [List.getElem?_drop] at hj)) (fun u hu => hone u (List.mem_of_mem_drop hu)) (by omega) 80
  have FIN : Aside (∀ v3 w3, w3.ownsRow B 89 3 v3 (0 + i + (d.files.length - (i + 1))) ([] ++ (d.files.flatMap Gv.cells).take (i * 3) ++ (d.files.flatMap Gv.cells).drop ((i + 1) * 3)) → w2.grownBy w3 v2.ownBlock → At w2 v2 v3 →
      RRep (w3.setCell ⟨b, 0, none⟩ v3) B b { d with files := d.files.eraseIdx i, vf := v3 } ∧ Step (d.foot b) (Rs.foot b { d with files := d.files.eraseIdx i, vf := v3 }) w (w3.setCell ⟨b, 0, none⟩ v3) ∧ (∀ k, k < w.heap.size → k ≠ b → (w3.setCell ⟨b, 0, none⟩ v3).heap[k]? = w.heap[k]?) ∧ (∀ k, v3.ownBlock = some k → w.heap.size ≤ k)) := fun v3 w3 ho3 hg3 hat3 => by
    have hkeep3 : ∀ k, k < w.heap.size → w3.heap[k]? = w.heap[k]? := fun k hk => (hg3.block k (by omega) (fun e => by rw [hk2] at e; injection e with e; omega)).trans (hkeep2 k hk)
    have hat : At w d.vf v3 := by
      rcases hat3 with e | ⟨k, e, hk⟩
      · exact .inr ⟨k2, e.trans hk2, hk2'⟩
      · exact .inr ⟨k, e, by omega⟩
    have hgr : w.grownBy w3 d.vf.ownBlock := ⟨hg3.os.trans (hg2.os.trans hb1.os), hg3.tape.trans (hg2.tape.trans hb1.tape), hg3.output.trans (hg2.output.trans hb1.output), Nat.le_trans hs2 hg3.size, fun k hk _ => hkeep3 k hk⟩
    have hsub : (d.files.eraseIdx i).Sublist d.files := List.eraseIdx_sublist _ _
    have hown : w3.ownsRow B 89 3 v3 (d.files.eraseIdx i).length ((d.files.eraseIdx i).flatMap Gv.cells) := by
      rw [← gerase, List.length_eraseIdx_of_lt hi, show d.files.length - 1 = 0 + i + (d.files.length - (i + 1)) by omega]
      exact ho3
    have hT := h.table hown hat hgr (fun x hx => h.rb x (hsub.subset hx)) (fun x hx => h.rl x (hsub.subset hx)) (by
      have := (List.nodup_append.1 (List.nodup_cons.1 h.nodup).2).2.1
      exact this.sublist (sub_flatMap _ hsub)) (h.outs fun x hx => hsub.subset hx)
    refine ⟨hT.1, hT.2.weak fun k hk => ?_, fun k hk hkb => (Below.heap_setCell w3 ⟨b, 0, none⟩ v3 k hkb).trans (hkeep3 k hk), fun k ek => by
      rcases hat3 with e | ⟨k', e, hk'⟩
      · rw [e, hk2] at ek
        injection ek with ek
        omega
      · rw [e] at ek
        injection ek with ek
        omega⟩
    rcases List.mem_append.1 hk with hk | hk
    · exact .inl hk
    · obtain ⟨x, hx, hk⟩ := List.mem_flatMap.1 hk
      exact .inl (rfoot_f (hsub.subset hx) hk)
  have c0 := h.c0
  have hc0A : ∀ o : Obj, (w.alloc o).cell? ⟨b, 0, none⟩ = some d.vf := fun o => cell_below c0 ((Below.refl _ _).alloc (Nat.le_refl _) o)
  have hc02 : w2.cell? ⟨b, 0, none⟩ = some d.vf := (World.cell?_of_block (hkeep2 b h.b_lt)).trans c0
  have HC3 : Aside (∀ w3 : World, w2.grownBy w3 v2.ownBlock → w3.cell? ⟨b, 0, none⟩ = some d.vf ∧ w3.frozen? ⟨b, 0, none⟩ = false) := fun w3 hg3 => by
    have e : w3.heap[b]? = w.heap[b]? := (hg3.block b (by have := h.b_lt; omega) (fun e => by rw [hk2] at e; injection e with e; have := h.b_lt; omega)).trans (hkeep2 b h.b_lt)
    exact ⟨(World.cell?_of_block e).trans c0, by rw [World.frozen?_of_block (a := ⟨b, 0, none⟩) e]; exact h.fz 0⟩
  have n1 : ¬ b = w.heap.size := by have := h.b_lt; omega
  have n2 : ¬ w.heap.size = b := fun e => n1 e.symm
  rw [ev] at c0 hc0A hc02 HC3
  obtain ⟨a2, c2, ea2⟩ := own_any ho2
  rw [ea2] at hr1 AP FIN HC3
  clear h hE hb1 hC hone hcell2 hkeep2 hs2 ho2 hg2 hat2 ev hg hlen hf
  generalize d.files.length = N at *
  have hw1 : IntKind.i64.wrap ((i : Int) + 1) = (i : Int) + 1 := by rw [IntKind.wrap_i64]; omega
  have hic : i ≤ cap := by omega
  have hc63 : cap ≤ 9223372036854775807 := by unfold maxLen at hcm; omega
  have htn : ((i : Int) + 1).toNat = i + 1 := by omega
  have hb1 : (0 : Int) ≤ (i : Int) + 1 := by omega
  have hb2 : (i : Int) + 1 ≤ (N : Int) := by omega
  have hin : (i : Int) ≤ (N : Int) := by omega
  have hicc : (i : Int) ≤ (cap : Int) := by omega
  have hic1 : (i : Int) ≤ (i : Int) + 1 := by omega
  by_cases hce : cap = i + 1
  · obtain ⟨v3, w3, hr3, ho3, hg3, hat3⟩ := AP.out ⟨g, 0, none⟩ (fun e => absurd hce e)
    obtain ⟨x1, x2⟩ := HC3.out w3 hg3
    obtain ⟨a3, c3, ea3⟩ := own_any ho3
    have FF : Aside _ := FIN.out v3 w3 ho3 hg3 hat3
    rw [ea3] at hr3 FF
    clear AP FIN HC3 ho3 hg3 hat3 ea3 ea2 hcm
    obtain rfl : N = i + 1 := by omega
    subst hce
    simp only [Nat.sub_self, Nat.zero_add, Nat.add_zero] at hr3 FF hr1
    go_enter Try.func89, Try.ntmps89
    go_wp2
    go_region_law (first
      | (refine step_append_run rfl _ _ 80 80 rfl (.slice (some ⟨w.heap.size, 0, none⟩) 0 0) (.slice (some ⟨g, 0, none⟩) i (i + 1)) (by simp [Act.eval, Act.put]) (by simp [Act.eval, Act.put]) hr1 ?_)
      | (refine step_append_run rfl _ _ 80 80 rfl (.slice a2 i c2) (.slice (some ⟨g, 0, none⟩) 0 0) (by simp [Act.eval, Act.put]) (by simp [Act.eval, Act.put]) hr3 ?_))
    all_goals
      go_wp2
      go_end0
      exact ⟨rfl, _, FF.out⟩
  · obtain ⟨v3, w3, hr3, ho3, hg3, hat3⟩ := AP.out ⟨g, (i + 1) * 3, none⟩ (fun _ => rfl)
    obtain ⟨x1, x2⟩ := HC3.out w3 hg3
    obtain ⟨a3, c3, ea3⟩ := own_any ho3
    have FF : Aside _ := FIN.out v3 w3 ho3 hg3 hat3
    rw [ea3] at hr3 FF
    clear AP FIN HC3 ho3 hg3 hat3 ea3 ea2 hcm
    simp only [Nat.zero_add] at hr3 FF hr1
    go_enter Try.func89, Try.ntmps89
    go_wp2
    go_region_law (first
      | (refine step_append_run rfl _ _ 80 80 rfl (.slice (some ⟨w.heap.size, 0, none⟩) 0 0) (.slice (some ⟨g, 0, none⟩) i cap) (by simp [Act.eval, Act.put]) (by simp [Act.eval, Act.put]) hr1 ?_)
      | (refine step_append_run rfl _ _ 80 80 rfl (.slice a2 i c2) (.slice (some ⟨g, (i + 1) * 3, none⟩) (N - (i + 1)) (cap - (i + 1))) (by simp [Act.eval, Act.put]) (by simp [Act.eval, Act.put]) hr3 ?_))
    all_goals
      go_wp2
      go_end0
      exact ⟨rfl, _, FF.out⟩
end Go.Proofs.Ytnmamaeoghgegaa.Dk

/-
  The document's disk: Remove, Sync, Cut.
-/
namespace Go.Proofs.Ytnmamaeoghgegaa.Dk
open Go.RowKit
set_option maxRecDepth 100000

theorem info3 : (Try.prog.info? 3).map (fun i => (i.zero, i.size, i.bytes)) = some (some (.int .i64 0), 1, 8) := by kernel_rfl

theorem mk_ints (n : Nat) (hn : n ≤ 10000000) (u : World) : (Instr.makeSlice 87 (.int .i64 (n : Int)) (.int .i64 (n : Int))).run Try.prog u = .ok (.slice (some ⟨u.heap.size, 0, none⟩) n n) (u.alloc (.cells (lcells (List.replicate n 0)).toArray 3)) := by
  obtain ⟨i0, hi0, hz0, hzs, hzb⟩ := info_parts info3
  have := run_make (P := Try.prog) u 87 3 i0 (.int .i64 0) Try.underlying87 hi0 hz0 .i64 .i64 n n (by omega) (Int.le_refl _) (by rw [hzb]; omega) (by omega)
  rw [this]
  simp only [Int.toNat_natCast, hzs, Nat.mul_one]
  have e : madeCells (Value.int IntKind.i64 0).cells n = (lcells (List.replicate n 0)).toArray := by
    apply Array.ext'
    apply List.ext_getElem?
    intro j
    have hz1 : (Value.int IntKind.i64 0).cells = #[Value.int IntKind.i64 0] := rfl
    by_cases hj : j < n
    · simp [madeCells, lcells, hz1, hj, Nat.mod_one]
    · simp [madeCells, lcells, hz1, hj]
  rw [e]

theorem RRep.heap {w w' : World} {B b : Nat} {d : Rs} (h : RRep w B b d) (hh : w'.heap = w.heap) : RRep w' B b d := h.frame fun k _ => by rw [hh]

theorem ints_row (u : World) (L : List Nat) (B : Nat) (hB : B ≤ u.heap.size) (hL : L.length ≤ 10000000) : (u.alloc (.cells (lcells L).toArray 3)).ownsRow B 3 1 (.slice (some ⟨u.heap.size, 0, none⟩) L.length L.length) L.length (lcells L) :=
  ⟨by simp [lcells], .inr ⟨u.heap.size, L.length, (lcells L).toArray, rfl, hB, heap_alloc_new u _, Nat.le_refl _, by unfold maxLen; omega, by simp [lcells], by simp only [Nat.mul_one]; exact List.take_of_length_le (by simp [lcells])⟩⟩

theorem RRep.nodup_f {w : World} {B b : Nat} {d : Rs} (h : RRep w B b d) {f : Gv} (hf : f ∈ d.files) : f.obs.Nodup := by
  have := (List.nodup_append.1 (List.nodup_cons.1 h.nodup).2).2.1
  obtain ⟨i, hi, rfl⟩ := List.getElem_of_mem hf
  obtain ⟨A, C, ea, _, _⟩ := split_at (List.getElem?_eq_getElem hi) (d.files[i])
  rw [ea] at this
  simp only [List.flatMap_append, List.flatMap_cons] at this
  exact (List.nodup_append.1 (List.nodup_append.1 this).2.1).1

/-- A file's places are new ones. -/
theorem RRep.newLate {u W : World} {B b g i : Nat} {d : Rs} {f : Gv} (h : RRep u B b d) (hf : d.files[i]? = some f) (hg : d.vf.ownBlock = some g) (L : List Nat) (hL : L.length ≤ 10000000)
    (hW : W.heap = ((u.alloc (.cells (lcells L).toArray 3)).setCell ⟨g, i * 3 + 2, none⟩ (.slice (some ⟨u.heap.size, 0, none⟩) L.length L.length)).heap) (e1 : W.os = u.os) (e2 : W.tape = u.tape) (e3 : W.output = u.output) :
    RRep W B b { d with files := d.files.set i ⟨f.name, f.bytes, L, f.vb, .slice (some ⟨u.heap.size, 0, none⟩) L.length L.length⟩ } ∧ Step (d.foot b) (Rs.foot b { d with files := d.files.set i ⟨f.name, f.bytes, L, f.vb, .slice (some ⟨u.heap.size, 0, none⟩) L.length L.length⟩ }) u W := by
  have hi : i < d.files.length := (List.getElem?_eq_some_iff.1 hf).1
  have hm : f ∈ d.files := List.mem_of_getElem? hf
  have hB : B ≤ u.heap.size := by have := h.lt b rfoot_b; omega
  have hgl : g < u.heap.size := (h.tab.lt g hg).2
  have hother : ∀ k, k ≠ g → W.heap[k]? = (u.alloc (.cells (lcells L).toArray 3)).heap[k]? := fun k hk => by rw [hW]; exact Below.heap_setCell _ ⟨g, i * 3 + 2, none⟩ _ k hk
  have hkeep : ∀ k, k < u.heap.size → k ≠ g → W.heap[k]? = u.heap[k]? := fun k hk hn => (hother k hn).trans (alloc_old u _ k hk)
  refine h.reset hf hg ?_ ?_ ?_ (fun k hk hn _ => hkeep k hk hn) ?_ ?_ e1 e2 e3 (by rw [hW]; simp)
  · rw [gflat_setl d.files i f ⟨f.name, f.bytes, L, f.vb, .slice (some ⟨u.heap.size, 0, none⟩) L.length L.length⟩ hf rfl rfl]
    refine own_heap (own_set (own_frame h.tab fun k hk => alloc_old u _ k (h.tab.lt k hk).2) hg (i * 3 + 2) (by omega) _) hW
  · exact own_frame (h.rb f hm) fun k hk => hkeep k ((h.rb f hm).lt k hk).2 (fun e => h.vf_f hm hg (e ▸ obs_b hk))
  · exact own_frame (ints_row u L B hB hL) fun k hk => hother k (fun e => by injection hk with hk; have e' : u.heap.size = k := hk; omega)
  · intro k hk
    rcases List.mem_append.1 hk with hk | hk
    · exact .inl (List.mem_append_left _ hk)
    · have := mem_ob.1 hk
      injection this with this
      have e' : u.heap.size = k := this
      exact .inr (by omega)
  · have hnd := h.nodup_f hm
    refine List.nodup_append.2 ⟨(List.nodup_append.1 hnd).1, by simp [ob, Value.ownBlock], fun x hx y hy e => ?_⟩
    subst e
    have h1 := ((h.rb f hm).lt x (mem_ob.1 hx)).2
    have h2 := mem_ob.1 hy
    injection h2 with h2
    have e' : u.heap.size = x := h2
    omega

/-- A file's bytes are cut. -/
theorem RRep.cutBytes {u : World} {B b g i n : Nat} {d : Rs} {f : Gv} (h : RRep u B b d) (hf : d.files[i]? = some f) (hg : d.vf.ownBlock = some g) (hn : n ≤ f.bytes.length) :
    RRep (u.setCell ⟨g, i * 3 + 1, none⟩ (cutV f.vb n)) B b { d with files := d.files.set i ⟨f.name, f.bytes.take n, f.late, cutV f.vb n, f.vl⟩ } ∧ Step (d.foot b) (Rs.foot b { d with files := d.files.set i ⟨f.name, f.bytes.take n, f.late, cutV f.vb n, f.vl⟩ }) u (u.setCell ⟨g, i * 3 + 1, none⟩ (cutV f.vb n)) := by
  have hi : i < d.files.length := (List.getElem?_eq_some_iff.1 hf).1
  have hm : f ∈ d.files := List.mem_of_getElem? hf
  have hkeep : ∀ k, k ≠ g → (u.setCell ⟨g, i * 3 + 1, none⟩ (cutV f.vb n)).heap[k]? = u.heap[k]? := fun k hk => Below.heap_setCell u ⟨g, i * 3 + 1, none⟩ _ k hk
  obtain ⟨h1, h2⟩ := own_cutV (h.rb f hm) n hn
  have hob : Gv.obs ⟨f.name, f.bytes.take n, f.late, cutV f.vb n, f.vl⟩ = f.obs := by unfold Gv.obs; simp only; rw [ob_eq h2]
  refine h.reset hf hg ?_ ?_ ?_ (fun k _ hn _ => hkeep k hn) (fun k hk => .inl (hob ▸ hk)) (by rw [hob]; exact h.nodup_f hm) rfl rfl rfl (by simp)
  · rw [gflat_setb d.files i f ⟨f.name, f.bytes.take n, f.late, cutV f.vb n, f.vl⟩ hf rfl rfl]
    exact own_set h.tab hg (i * 3 + 1) (by omega) _
  · have e : (f.bytes.take n).length = n := by rw [List.length_take]; omega
    show (u.setCell ⟨g, i * 3 + 1, none⟩ (cutV f.vb n)).ownsRow B 5 1 (cutV f.vb n) (f.bytes.take n).length (bcells (f.bytes.take n))
    rw [e, ← bcells_take]
    exact own_frame h1 fun k hk => hkeep k (fun e => h.vf_f hm hg (e ▸ obs_b (h2 ▸ hk)))
  · exact own_frame (h.rl f hm) fun k hk => hkeep k (fun e => h.vf_f hm hg (e ▸ obs_l hk))

def RS.dropAt (s : RS) (i : Nat) : RS := { s with files := s.files.eraseIdx i }
def RS.setAt (s : RS) (i : Nat) (φ : G → G) : RS := match s.files[i]? with
  | some f => { s with files := s.files.set i (φ f) }
  | none => s
def rRemove (s : RS) (n : ByteArray) : Int × RS :=
  if s.power then if has s.names n then (0, s.spent.dropAt (atOf s.names n).toNat) else (6, s.spent) else (12, s.spent)
def rSync (s : RS) (n : ByteArray) : Int × RS :=
  if s.power then if has s.names n then (0, s.spent.setAt (atOf s.names n).toNat fun f => ⟨f.name, f.bytes, List.replicate f.bytes.length 0⟩) else (6, s.spent) else (12, s.spent)
def rCut (s : RS) (n : ByteArray) (k : Int) : Int × RS :=
  if s.power then if has s.names n then (0, s.spent.setAt (atOf s.names n).toNat fun f => ⟨f.name, f.bytes.take (min (max k 0) (f.bytes.length : Int)).toNat, List.replicate (min (max k 0) (f.bytes.length : Int)).toNat 0⟩) else (6, s.spent) else (12, s.spent)

theorem rpower_pl (d : Rs) : d.pl.power = !(d.down || decide (d.left = 0)) := rfl

theorem at_none {l : List ByteArray} {n : ByteArray} (h : has l n = false) : atOf l n = -1 := by rw [atOf, if_neg (by rw [h]; simp)]

set_option maxHeartbeats 800000 in
theorem rremove_any {w : World} {B b : Nat} {d : Rs} (h : RRep w B b d) (ok : ROk d.pl) (n : ByteArray) :
    Calls Try.prog 49 #[.pointer (some ⟨b, 0, none⟩), .string n] w fun e w' => e = .returned (.int .i64 (rRemove d.pl n).1) ∧ ∃ d', RRep w' B b d' ∧ d'.pl = (rRemove d.pl n).2 ∧ Step (d.foot b) (d'.foot b) w w' := by
  have kp := rpower_any h ok.left
  have hfew := ok.dfew
  unfold rRemove
  rw [rnames_pl]
  cases hp : d.pl.power with
  | false =>
    rw [hp] at kp
    simp only [Bool.false_eq_true, if_false]
    clear h
    go_enter Try.func49, Try.ntmps49
    go_wp2_with (go_at_call 86; refine kp.mono ?_; rintro e w1 ⟨rfl, d1, h1, p1, f1, g1, s1⟩)
    go_ret
    exact ⟨rfl, d1, h1, p1, g1 ▸ s1⟩
  | true =>
    rw [hp] at kp
    have KA : Aside (∀ (d1 : Rs) (u : World), RRep u B b d1 → d1.files = d.files → Calls Try.prog 48 #[.pointer (some ⟨b, 0, none⟩), .string n] u fun e w' => e = .returned (.int .i64 (atOf d.names n)) ∧ w' = u) := fun d1 u hu hf => by
      have := at_any hu (by rw [hf]; omega) n
      rwa [show d1.names = d.names by unfold Rs.names; rw [hf]] at this
    cases hh : has d.names n with
    | false =>
      rw [at_none hh] at KA
      simp only [Bool.false_eq_true, if_false, if_true]
      clear h
      go_enter Try.func49, Try.ntmps49
      go_wp2_with (first
        | (go_at_call 86; refine kp.mono ?_; rintro e w1 ⟨rfl, d1, h1, p1, f1, g1, s1⟩)
        | (go_at_call 48; refine (KA.out _ _ h1 f1).mono ?_; rintro e w2 ⟨rfl, rfl⟩))
      go_ret
      exact ⟨rfl, d1, h1, p1, g1 ▸ s1⟩
    | true =>
      obtain ⟨i, f, hat, hf, hfn, hfm⟩ := atOf_get hh
      rw [hat] at KA ⊢
      simp only [if_true, Int.toNat_natCast]
      have KD : Aside (∀ (d1 : Rs) (u : World), RRep u B b d1 → d1.files = d.files → _) := fun (d1 : Rs) (u : World) hu hf1 => rdrop_any (d := d1) (i := i) (f := f) hu (by rw [hf1]; omega) (by rw [hf1]; exact hf)
      have PL : Aside (∀ (d1 : Rs) (v' : Value), d1.pl = d.pl.spent → d1.files = d.files → Rs.pl { d1 with files := d1.files.eraseIdx i, vf := v' } = d.pl.spent.dropAt i) := fun d1 v' hp1 hf1 => by
        unfold RS.dropAt
        rw [← hp1]
        simp only [Rs.pl, List.eraseIdx_eq_take_drop_succ, List.map_append, List.map_take, List.map_drop]
      clear h hat hf hfn hfm hh
      go_enter Try.func49, Try.ntmps49
      go_wp2_with (first
        | (go_at_call 86; refine kp.mono ?_; rintro e w1 ⟨rfl, d1, h1, p1, f1, g1, s1⟩)
        | (go_at_call 48; refine (KA.out _ _ h1 f1).mono ?_; rintro e w2 ⟨rfl, rfl⟩)
        | (go_at_call 89; refine (KD.out _ _ h1 f1).mono ?_; rintro e w3 ⟨rfl, v', h3, s3, _⟩))
      go_ret
      exact ⟨rfl, _, h3, PL.out d1 v' p1 f1, (g1 ▸ s1 : Step (d.foot b) (d1.foot b) w _).trans s3⟩
end Go.Proofs.Ytnmamaeoghgegaa.Dk

/-
  The document's disk: Sync and Cut.
-/
namespace Go.Proofs.Ytnmamaeoghgegaa.Dk
open Go.RowKit
set_option maxRecDepth 100000

theorem rpl_setAt {d d1 : Rs} {i : Nat} {f f' : Gv} {φ : G → G} (hp : d1.pl = d.pl.spent) (hf : d1.files[i]? = some f) (he : φ f.pl = f'.pl) : Rs.pl { d1 with files := d1.files.set i f' } = d.pl.spent.setAt i φ := by
  unfold RS.setAt
  rw [← hp, rpl_get hf]
  simp only [he, Rs.pl, List.map_set]

set_option maxHeartbeats 2000000 in
theorem rsync_any {w : World} {B b : Nat} {d : Rs} (h : RRep w B b d) (ok : ROk d.pl) (n : ByteArray) :
    Calls Try.prog 45 #[.pointer (some ⟨b, 0, none⟩), .string n] w fun e w' => e = .returned (.int .i64 (rSync d.pl n).1) ∧ ∃ d', RRep w' B b d' ∧ d'.pl = (rSync d.pl n).2 ∧ Step (d.foot b) (d'.foot b) w w' := by
  have kp := rpower_any h ok.left
  have hfew := ok.dfew
  unfold rSync
  rw [rnames_pl]
  cases hp : d.pl.power with
  | false =>
    rw [hp] at kp
    simp only [Bool.false_eq_true, if_false]
    clear h
    go_enter Try.func45, Try.ntmps45
    go_wp2_with (go_at_call 86; refine kp.mono ?_; rintro e w1 ⟨rfl, d1, h1, p1, f1, g1, s1⟩)
    go_ret
    exact ⟨rfl, d1, h1, p1, g1 ▸ s1⟩
  | true =>
    rw [hp] at kp
    have KA : Aside (∀ (d1 : Rs) (u : World), RRep u B b d1 → d1.files = d.files → Calls Try.prog 48 #[.pointer (some ⟨b, 0, none⟩), .string n] u fun e w' => e = .returned (.int .i64 (atOf d.names n)) ∧ w' = u) := fun d1 u hu hf => by
      have := at_any hu (by rw [hf]; omega) n
      rwa [show d1.names = d.names by unfold Rs.names; rw [hf]] at this
    cases hh : has d.names n with
    | false =>
      rw [at_none hh] at KA
      simp only [Bool.false_eq_true, if_false, if_true]
      clear h
      go_enter Try.func45, Try.ntmps45
      go_wp2_with (first
        | (go_at_call 86; refine kp.mono ?_; rintro e w1 ⟨rfl, d1, h1, p1, f1, g1, s1⟩)
        | (go_at_call 48; refine (KA.out _ _ h1 f1).mono ?_; rintro e w2 ⟨rfl, rfl⟩))
      go_ret
      exact ⟨rfl, d1, h1, p1, g1 ▸ s1⟩
    | true =>
      obtain ⟨i, f, hat, hf, hfn, hfm⟩ := atOf_get hh
      rw [hat] at KA ⊢
      simp only [if_true, Int.toNat_natCast]
      have hi : i < d.files.length := (List.getElem?_eq_some_iff.1 hf).1
      obtain ⟨hl1, hl2⟩ := ok.dlate hfm
      have hmk := mk_ints f.bytes.length (by omega)
      have HF : Aside (∀ d1 : Rs, d1.files = d.files → d1.files[i]? = some f) := fun d1 hd => by rw [hd]; exact hf
      clear h hat hf hfn hfm hh ok
      go_enter Try.func45, Try.ntmps45
      go_wp2_with (first
        | (go_at_call 86; refine kp.mono ?_; rintro e w1 ⟨rfl, d1, h1, p1, f1, g1, s1⟩)
        | (go_at_call 48; refine (KA.out _ _ h1 f1).mono ?_; rintro e w2 ⟨rfl, rfl⟩))
      have hf1 := HF.out d1 f1
      obtain ⟨g, cap, ev, hcap, hcm, hg⟩ := h1.vf_form hf1
      have x0 := h1.c0
      obtain ⟨y0, y1, y2⟩ := h1.fcells hf1 hg
      have yf := own_frozen h1.tab hg (i * 3 + 2)
      obtain ⟨av, cv, eav⟩ := own_any (h1.rb f (List.mem_of_getElem? hf1))
      obtain ⟨al, cl, eal⟩ := own_any (h1.rl f (List.mem_of_getElem? hf1))
      have hgl := (h1.tab.lt g hg).2
      have hbl := h1.b_lt
      have NL : Aside (∀ W : World, _ → W.os = w2.os → W.tape = w2.tape → W.output = w2.output → _) := fun W hW e1 e2 e3 => h1.newLate (W := W) hf1 hg (List.replicate f.bytes.length 0) (by rw [List.length_replicate]; omega) hW e1 e2 e3
      have hlr : (List.replicate f.bytes.length 0).length = f.bytes.length := List.length_replicate
      rw [hlr] at NL
      have PL : Aside _ := And.intro p1 (And.intro hf1 (And.intro g1 s1))
      have ex0 : w2.cell? ⟨b, 0, none⟩ = some (.slice (some ⟨g, 0, none⟩) d1.files.length cap) := by rw [x0, ev]
      have ey1 : w2.cell? ⟨g, i * 3 + 1, none⟩ = some (.slice av f.bytes.length cv) := by rw [y1, eav]
      have ey2 : w2.cell? ⟨g, i * 3 + 2, none⟩ = some (.slice al f.late.length cl) := by rw [y2, eal]
      have hN1 : i < d1.files.length := (List.getElem?_eq_some_iff.1 hf1).1
      have hN2 : d1.files.length ≤ 16 := by rw [f1]; exact hfew
      generalize hNN : d1.files.length = NN at *
      have n1 : ¬ b = w2.heap.size := by omega
      have n2 : ¬ g = w2.heap.size := by omega
      have n1' : ¬ w2.heap.size = b := fun e => n1 e.symm
      have n2' : ¬ w2.heap.size = g := fun e => n2 e.symm
      have x0A : ∀ o : Obj, (w2.alloc o).cell? ⟨b, 0, none⟩ = some (.slice (some ⟨g, 0, none⟩) NN cap) := fun o => cell_below ex0 ((Below.refl _ _).alloc (Nat.le_refl _) o)
      have y2A : ∀ o : Obj, (w2.alloc o).cell? ⟨g, i * 3 + 2, none⟩ = some (.slice al f.late.length cl) := fun o => cell_below ey2 ((Below.refl _ _).alloc (Nat.le_refl _) o)
      have yfA : ∀ o : Obj, (w2.alloc o).frozen? ⟨g, i * 3 + 2, none⟩ = false := fun o => (World.frozen?_of_block (a := ⟨g, i * 3 + 2, none⟩) (alloc_old w2 o g hgl)).trans yf
      clear x0 y0 y1 y2 ev eav eal HF KA kp h1 p1 s1 hf1 f1 hlr g1 hg hcm
      go_region
      all_goals
        go_wp2
        go_ret
        obtain ⟨p1, hf1, g1, s1⟩ := PL.out
        have hh := NL.out (((w2.setCell ⟨g, i * 3 + 2, none⟩ (.slice (some ⟨w2.heap.size, 0, none⟩) f.bytes.length f.bytes.length)).alloc (.cells (lcells (List.replicate f.bytes.length 0)).toArray 3)).drew) (by rw [World.setCell_alloc_past (hn := hgl)]; rfl) rfl rfl rfl
        have s2 : Step (d.foot b) (d1.foot b) w w2 := by rw [g1]; exact s1
        exact ⟨rfl, _, hh.1, rpl_setAt p1 hf1 rfl, s2.trans hh.2⟩
end Go.Proofs.Ytnmamaeoghgegaa.Dk
