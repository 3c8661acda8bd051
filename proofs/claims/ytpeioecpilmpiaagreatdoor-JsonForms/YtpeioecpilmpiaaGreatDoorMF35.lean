/-
  YtpeioecpilmpiaaGreatDoor: the texts Y2, Z1, Z2, one behind the other.
-/
import Derived.Test.YtpeioecpilmpiaaGreatDoorMF34
import Derived.Deep.RegionHeld3
import Derived.WalkKit
import Derived.WalkSpells
import Derived.WalkLawsBesides
import Derived.Deep.LoopGhost
import Derived.Laws.Externs
import Derived.Below
import Derived.BigQuiet
import Derived.Deep.RegionWith
import Derived.OwnWalk
import Derived.Maps.AppendAt
import Derived.WalkSmall
import Derived.Test.YtpeioecpilmpiaaGreatDoorMF24
import Derived.Test.YtpeioecpilmpiaaGreatDoorMF20
/-
  The document's Of: any text.
-/
namespace Go.Proofs.YtpeioecpilmpiaaGreatDoor
open Go.RowKit
set_option maxHeartbeats 4000000 in
set_option maxRecDepth 100000 in
theorem Of_long (s : ByteArray) (w : World) (hs : 400 < s.size) (_hs2 : s.size ≤ 1000000) :
    Calls Tryz.prog 9 #[.string s] w fun en w' => OfO s w en w' := by
  have hof : Js.of s.data.toList = .error 5 := by
    unfold Js.of
    rw [if_pos (show 400 < s.data.toList.length from hs)]
  have eo : ofP s.data.toList = (Js.nil, 5) := by unfold ofP; rw [hof]
  have d1 : decide ((400 : Int) < s.size) = true := by simp; omega
  have B0 := asd (Bk.new w z6)
  have W0 := asd (gal w (.cells z6 28) none)
  clear hof
  go_enter Tryz.func9, Tryz.ntmps9
  go_wp2_with (refine wpList_store_row rfl 28 _ _ rfl _ (vc6 0 [] [] 0 noS noS) rfl rfl 28 _ B0.out (sz28 _ _ _ _ _ _) rfl (vc6_one _ _ _ _ _ _ rfl rfl) ?_)
  refine bodyPost_ret (results_mix Tryz.results9 _ _ ⟨w.heap.size, 0, none⟩ _ _ rfl rfl (run_loadVar_row _ _ 28 28 _ (0, 0) _ (setRow_heap _ _ _ _ _ _ B0.out) Tryz.underlying28 rfl (sz28 0 [] [] 0 noS noS))) rfl ?_
  refine ⟨_, by rw [eo]; rfl, by rw [eo]; exact XV.nil _ _, ?_⟩
  have b1 : Below w.heap.size w (w.alloc (.cells z6 28)) := (Below.refl _ _).alloc (Nat.le_refl _) _
  exact ⟨b1.os, b1.tape, b1.output, by rw [size_setRow]; exact b1.size, fun b hb => (setRow_other _ w.heap.size b _ (by omega)).trans (b1.block b hb)⟩

set_option maxHeartbeats 8000000 in
set_option maxRecDepth 100000 in
theorem Of_short (s : ByteArray) (w : World) (hs : s.size ≤ 400) :
    Calls Tryz.prog 9 #[.string s] w fun en w' => OfO s w en w' := by
  have d1 : decide ((400 : Int) < s.size) = false := by simp; omega
  have O0 := asd (OW.start s w)
  have VV := asd (fun u h => dvalue_all 8 (w.heap.size + 1) s 0 0 u h (by omega) (Nat.zero_le _) (by omega))
  have EN := asd (fun q e d k m f t ns is hq H => of_end (s := s) (q := q) (e := e) (d := d) (k := k) (m := m) (f := f) (t := t) (ns := ns) (is := is) hs hq H)
  have T1 := asd trivial
  go_enter Tryz.func9, Tryz.ntmps9
  go_wp2_with (first
    | (clear T1; go_at_call 23; refine (VV.out _ O0.out.rq).mono ?_; rintro en w1 ⟨q, e, d, k, f, t, m, nv, iv, ns, is, rfl, h1, g1, hq, hd, _, sn, si, _, H1⟩; have z0 : w.heap.size + 1 < ((w.alloc (.cells z6 28)).alloc (.cells #[.string s, .int .i64 0, .int .i64 0, .int .i64 0] 51)).heap.size := O0.out.rq.lt; have O1 := asd (O0.out.next g1 h1); have SN := asd (sn.base (B' := w.heap.size + 2) (by omega)); have SI := asd (si.base (B' := w.heap.size + 2) (by omega)); have ox1 := sn.one; have ox2 := si.one; have BN := asd (Bk.new w1 z6); have EE := asd (EN.out q e d k m f t ns is hq H1); have z1 : w.heap.size + 1 < w1.heap.size := O1.out.rq.lt; clear h1 g1 sn si H1 O0 VV EN z0)
    | (refine wpList_store_row rfl 28 _ _ rfl _ (vc6 k f t m nv iv) rfl rfl 28 _ BN.out (sz28 _ _ _ _ _ _) rfl (vc6_one _ _ _ _ _ _ ox1 ox2) ?_; generalize hwA : World.setRow _ w1.heap.size _ = wA; have OA : Aside (OW s w q d e wA) := (by rw [← hwA]; exact asd (O1.out.below (below_lay w1 z6 _))); have BX : Aside (Bk wA w1.heap.size (vc6 k f t m nv iv)) := (by rw [← hwA]; exact asd (setRow_heap _ _ _ _ _ _ BN.out)); have SNA : Aside (Sl (w.heap.size + 2) wA nv ns) := (by rw [← hwA]; exact asd (SN.out.below (below_lay w1 z6 _))); have SIA : Aside (Sl (w.heap.size + 2) wA iv is) := (by rw [← hwA]; exact asd (SI.out.below (below_lay w1 z6 _))); clear hwA O1 BN SN SI))
  have KB := asd (dblanks_sk (w.heap.size + 1) s q d e wA OA.out.rq hq (by omega))
  rcases EE.out with ⟨hk, rfl, x, hof, rfl, rfl, rfl, rfl, rfl, rfl⟩ | ⟨fa, hof, hfa, ⟨hlt, hfl⟩ | ⟨hk, rfl⟩⟩
  · have eo : ofP s.data.toList = (x, 0) := by unfold ofP; rw [hof]
    have EO := asd eo
    have HK := asd hk
    have d2 : decide ((s.size : Int) < (s.size : Int)) = false := by simp
    clear EE hof eo hk
    go_wp2_with (first
      | (go_at_call 24; refine KB.out.mono ?_; rintro en w2 ⟨rfl, h2, g2⟩; have O2 := asd (OA.out.next g2 h2); have BX2 := asd (BX.out.grown g2 (by omega)); have SN2 := asd (SNA.out.grown g2 (by omega)); have SI2 := asd (SIA.out.grown g2 (by omega)); have c1 : w2.cell? ⟨w.heap.size + 1, 1, none⟩ = some (.int .i64 (s.size : Int)) := (by rw [O2.out.rq.c1, HK.out]); have c3 : w2.cell? ⟨w.heap.size + 1, 3, none⟩ = some (.int .i64 0) := O2.out.rq.c3; clear h2 g2 OA KB)
      | (refine wpList_load_row rfl 28 _ rfl _ rfl 28 _ (0, 0) _ BX2.out Tryz.underlying28 rfl (sz28 _ _ _ _ _ _) ?_)
      | (refine wpList_store_row rfl 28 _ _ rfl _ (vc6 (x.kind : Int) x.form x.text x.num nv iv) rfl rfl 28 _ O2.out.bz (sz28 _ _ _ _ _ _) rfl (vc6_one _ _ _ _ _ _ ox1 ox2) ?_))
    refine bodyPost_ret (results_mix Tryz.results9 _ _ ⟨w.heap.size, 0, none⟩ _ _ rfl rfl (run_loadVar_row _ _ 28 28 _ (0, 0) _ (setRow_heap _ _ _ _ _ _ O2.out.bz) Tryz.underlying28 rfl (sz28 _ _ _ _ _ _))) rfl ?_
    refine ⟨_, by rw [EO.out]; rfl, ?_, O2.out.row _⟩
    rw [EO.out]
    exact ⟨nv, iv, rfl, (SN2.out.rowset w.heap.size _ (by omega)).base (by omega), (SI2.out.rowset w.heap.size _ (by omega)).base (by omega)⟩
  · have eo : ofP s.data.toList = (Js.nil, fa) := by unfold ofP; rw [hof]
    have EO := asd eo
    have t1 : ((fa : Int) != 0) = true := by rw [bne_iff_ne]; omega
    have t1' : ¬ ((fa : Int) = 0) := by omega
    have t1'' : ((fa : Int) == 0) = false := by rw [beq_eq_false_iff_ne]; omega
    have d2 : decide (((sk s q : Nat) : Int) < (s.size : Int)) = true := by simp; omega
    have d2' : decide (sk s q < s.size) = true := by simp; omega
    have HF := asd hfl
    clear EE hof eo hfl
    go_wp2_with (first
      | (go_at_call 24; refine KB.out.mono ?_; rintro en w2 ⟨rfl, h2, g2⟩; have O2 := asd (OA.out.next g2 h2); have c1 : w2.cell? ⟨w.heap.size + 1, 1, none⟩ = some (.int .i64 ((sk s q : Nat) : Int)) := O2.out.rq.c1; have c3 : w2.cell? ⟨w.heap.size + 1, 3, none⟩ = some (.int .i64 (e : Int)) := O2.out.rq.c3; clear h2 g2 OA KB)
      | (go_at_call 25; refine (bad_any (w.heap.size + 1) s (sk s q) d e 3 w2 O2.out.rq).mono ?_; rw [HF.out]; rintro en w3 ⟨rfl, h3, g3⟩; have O3 := asd (O2.out.next g3 h3); have c3' : w3.cell? ⟨w.heap.size + 1, 3, none⟩ = some (.int .i64 (fa : Int)) := O3.out.rq.c3; clear h3 g3 O2 c1 c3))
    have OD := asd (O3.out.below (show Below w3.heap.size w3 w3.drew from ⟨rfl, rfl, rfl, Nat.le_refl _, fun _ _ => rfl⟩))
    have cd : w3.drew.cell? ⟨w.heap.size + 1, 3, none⟩ = some (.int .i64 (fa : Int)) := OD.out.rq.c3
    refine wp_region_held_drew (S := (fun u => u.cell? ⟨w.heap.size + 1, 3, none⟩ = some (.int .i64 (fa : Int)))) (by kernel_rfl) cd (fun hHeld => ?_)
    change wpAnyH _ _ _ _ _ _ _ _ (World.drew _)
    refine takeH_to (i := 0) (v := .agg z6) (some 31) rfl rfl (by kernel_rfl) (by kernel_rfl) (by kernel_rfl) (fun _ _ _ h => h) (Or.inl ⟨by rfl, fun u hu => by (try dsimp only at hu); go_simp <;> (first | rfl | omega)⟩) (by assumption) ?_
    try simp only [Act.put, List.setIfInBounds_toArray, List.set_cons_zero, List.set_cons_succ]
    refine takeH_to (i := 1) (v := .pointer (some ⟨w.heap.size + 1, 0, none⟩)) (some 32) rfl rfl (by kernel_rfl) (by kernel_rfl) (by kernel_rfl) (fun _ _ _ h => h) (Or.inl ⟨by rfl, fun u hu => by (try dsimp only at hu); go_simp <;> (first | rfl | omega)⟩) (by assumption) ?_
    try simp only [Act.put, List.setIfInBounds_toArray, List.set_cons_zero, List.set_cons_succ]
    refine takeH_to (i := 2) (v := .pointer (some ⟨w.heap.size + 1, 0, none⟩)) (some 33) rfl rfl (by kernel_rfl) (by kernel_rfl) (by kernel_rfl) (fun _ _ _ h => h) (Or.inl ⟨by rfl, fun u hu => by (try dsimp only at hu); go_simp <;> (first | rfl | omega)⟩) (by assumption) ?_
    try simp only [Act.put, List.setIfInBounds_toArray, List.set_cons_zero, List.set_cons_succ]
    refine takeH_to (i := 3) (v := .pointer (some ⟨w.heap.size + 1, 3, none⟩)) (some 34) rfl rfl (by kernel_rfl) (by kernel_rfl) (by kernel_rfl) (fun _ _ _ h => h) (Or.inl ⟨by rfl, fun u hu => by (try dsimp only at hu); go_simp <;> (first | rfl | omega)⟩) (by assumption) ?_
    try simp only [Act.put, List.setIfInBounds_toArray, List.set_cons_zero, List.set_cons_succ]
    refine takeH_to (i := 4) (v := .int .i64 (fa : Int)) (some 35) rfl rfl (by kernel_rfl) (by kernel_rfl) (by kernel_rfl) (fun _ _ _ h => h) (Or.inl ⟨by rfl, fun u hu => by (try dsimp only at hu); go_simp <;> (first | rfl | omega)⟩) (by assumption) ?_
    try simp only [Act.put, List.setIfInBounds_toArray, List.set_cons_zero, List.set_cons_succ]
    refine wpAnyH_ready (rs := [5]) (by kernel_rfl) (by simp) ?_
    refine AllReadyH.cons rfl (fun K hK => ?_) AllReadyH.nil
    rw [if_pos (by rfl)]
    refine wp_store_row 28 _ _ rfl w.heap.size z6 rfl rfl 28 _ OD.out.bz (sz28 0 [] [] 0 noS noS) rfl (vc6_one _ _ _ _ _ _ rfl rfl) ?_
    have OR := asd (OD.out.row z6)
    have BR := asd (setRow_heap _ w.heap.size _ z6 _ _ OD.out.bz)
    have cr : (World.setRow w3.drew w.heap.size z6).cell? ⟨w.heap.size + 1, 3, none⟩ = some (.int .i64 (fa : Int)) := (OD.out.rq.keep (setRow_other _ _ _ _ (by omega))).c3
    refine hK.out _ _ cr (fun hHeld => ?_)
    clear hK K
    try simp only [Act.put, List.setIfInBounds_toArray]
    refine takeH_to (i := 6) (v := .int .i64 (fa : Int)) (some 3) rfl rfl (by kernel_rfl) (by kernel_rfl) (by kernel_rfl) (fun _ _ _ h => h) (Or.inl ⟨by rfl, fun u hu => by (try dsimp only at hu); go_simp <;> (first | rfl | omega)⟩) (by assumption) ?_
    try simp only [Act.put]
    refine wpAnyH_done (by kernel_rfl) ?_ _
    go_wp2_with fail
    refine bodyPost_ret (results_mix Tryz.results9 _ _ ⟨w.heap.size, 0, none⟩ _ _ rfl rfl (run_loadVar_row _ _ 28 28 _ (0, 0) _ BR.out Tryz.underlying28 rfl (sz28 0 [] [] 0 noS noS))) rfl ?_
    refine ⟨_, by rw [EO.out]; rfl, ?_, OR.out⟩
    rw [EO.out]
    exact XV.nil _ _
  · have eo : ofP s.data.toList = (Js.nil, e) := by unfold ofP; rw [hof]
    have EO := asd eo
    have t1 : ((e : Int) != 0) = true := by rw [bne_iff_ne]; omega
    have t1' : ¬ ((e : Int) = 0) := by omega
    have t1'' : ((e : Int) == 0) = false := by rw [beq_eq_false_iff_ne]; omega
    have d2 : decide ((s.size : Int) < (s.size : Int)) = false := by simp
    have HK := asd hk
    clear EE hof eo hk
    go_wp2_with (first
      | (go_at_call 24; refine KB.out.mono ?_; rintro en w2 ⟨rfl, h2, g2⟩; have O2 := asd (OA.out.next g2 h2); have c1 : w2.cell? ⟨w.heap.size + 1, 1, none⟩ = some (.int .i64 (s.size : Int)) := (by rw [O2.out.rq.c1, HK.out]); have c3 : w2.cell? ⟨w.heap.size + 1, 3, none⟩ = some (.int .i64 (e : Int)) := O2.out.rq.c3; clear h2 g2 OA KB))
    have OD := asd (O2.out.below (show Below w2.heap.size w2 w2.drew from ⟨rfl, rfl, rfl, Nat.le_refl _, fun _ _ => rfl⟩))
    have cd : w2.drew.cell? ⟨w.heap.size + 1, 3, none⟩ = some (.int .i64 (e : Int)) := OD.out.rq.c3
    refine wp_region_held_drew (S := (fun u => u.cell? ⟨w.heap.size + 1, 3, none⟩ = some (.int .i64 (e : Int)))) (by kernel_rfl) cd (fun hHeld => ?_)
    change wpAnyH _ _ _ _ _ _ _ _ (World.drew _)
    refine takeH_to (i := 0) (v := .agg z6) (some 31) rfl rfl (by kernel_rfl) (by kernel_rfl) (by kernel_rfl) (fun _ _ _ h => h) (Or.inl ⟨by rfl, fun u hu => by (try dsimp only at hu); go_simp <;> (first | rfl | omega)⟩) (by assumption) ?_
    try simp only [Act.put, List.setIfInBounds_toArray, List.set_cons_zero, List.set_cons_succ]
    refine takeH_to (i := 1) (v := .pointer (some ⟨w.heap.size + 1, 0, none⟩)) (some 32) rfl rfl (by kernel_rfl) (by kernel_rfl) (by kernel_rfl) (fun _ _ _ h => h) (Or.inl ⟨by rfl, fun u hu => by (try dsimp only at hu); go_simp <;> (first | rfl | omega)⟩) (by assumption) ?_
    try simp only [Act.put, List.setIfInBounds_toArray, List.set_cons_zero, List.set_cons_succ]
    refine takeH_to (i := 2) (v := .pointer (some ⟨w.heap.size + 1, 0, none⟩)) (some 33) rfl rfl (by kernel_rfl) (by kernel_rfl) (by kernel_rfl) (fun _ _ _ h => h) (Or.inl ⟨by rfl, fun u hu => by (try dsimp only at hu); go_simp <;> (first | rfl | omega)⟩) (by assumption) ?_
    try simp only [Act.put, List.setIfInBounds_toArray, List.set_cons_zero, List.set_cons_succ]
    refine takeH_to (i := 3) (v := .pointer (some ⟨w.heap.size + 1, 3, none⟩)) (some 34) rfl rfl (by kernel_rfl) (by kernel_rfl) (by kernel_rfl) (fun _ _ _ h => h) (Or.inl ⟨by rfl, fun u hu => by (try dsimp only at hu); go_simp <;> (first | rfl | omega)⟩) (by assumption) ?_
    try simp only [Act.put, List.setIfInBounds_toArray, List.set_cons_zero, List.set_cons_succ]
    refine takeH_to (i := 4) (v := .int .i64 (e : Int)) (some 35) rfl rfl (by kernel_rfl) (by kernel_rfl) (by kernel_rfl) (fun _ _ _ h => h) (Or.inl ⟨by rfl, fun u hu => by (try dsimp only at hu); go_simp <;> (first | rfl | omega)⟩) (by assumption) ?_
    try simp only [Act.put, List.setIfInBounds_toArray, List.set_cons_zero, List.set_cons_succ]
    refine wpAnyH_ready (rs := [5]) (by kernel_rfl) (by simp) ?_
    refine AllReadyH.cons rfl (fun K hK => ?_) AllReadyH.nil
    rw [if_pos (by rfl)]
    refine wp_store_row 28 _ _ rfl w.heap.size z6 rfl rfl 28 _ OD.out.bz (sz28 0 [] [] 0 noS noS) rfl (vc6_one _ _ _ _ _ _ rfl rfl) ?_
    have OR := asd (OD.out.row z6)
    have BR := asd (setRow_heap _ w.heap.size _ z6 _ _ OD.out.bz)
    have cr : (World.setRow w2.drew w.heap.size z6).cell? ⟨w.heap.size + 1, 3, none⟩ = some (.int .i64 (e : Int)) := (OD.out.rq.keep (setRow_other _ _ _ _ (by omega))).c3
    refine hK.out _ _ cr (fun hHeld => ?_)
    clear hK K
    try simp only [Act.put, List.setIfInBounds_toArray]
    refine takeH_to (i := 6) (v := .int .i64 (e : Int)) (some 3) rfl rfl (by kernel_rfl) (by kernel_rfl) (by kernel_rfl) (fun _ _ _ h => h) (Or.inl ⟨by rfl, fun u hu => by (try dsimp only at hu); go_simp <;> (first | rfl | omega)⟩) (by assumption) ?_
    try simp only [Act.put]
    refine wpAnyH_done (by kernel_rfl) ?_ _
    go_wp2_with fail
    refine bodyPost_ret (results_mix Tryz.results9 _ _ ⟨w.heap.size, 0, none⟩ _ _ rfl rfl (run_loadVar_row _ _ 28 28 _ (0, 0) _ BR.out Tryz.underlying28 rfl (sz28 0 [] [] 0 noS noS))) rfl ?_
    refine ⟨_, by rw [EO.out]; rfl, ?_, OR.out⟩
    rw [EO.out]
    exact XV.nil _ _
end Go.Proofs.YtpeioecpilmpiaaGreatDoor

/-
  What Of and Fault answer.
-/
namespace Go.Proofs.YtpeioecpilmpiaaGreatDoor
open Go.RowKit
theorem Of_any (s : ByteArray) (w : World) (hs : s.size ≤ 1000000) : Calls Tryz.prog 9 #[.string s] w fun en w' => OfO s w en w' := by
  by_cases h : 400 < s.size
  · exact Of_long s w h hs
  · exact Of_short s w (by omega)
theorem Of_is (s : ByteArray) (X : Js.X) (E : Nat) (h : ofP s.data.toList = (X, E)) (w : World) (hs : s.size ≤ 1000000) :
    Calls Tryz.prog 9 #[.string s] w fun en w' => ∃ nv iv, en = .returned (.tuple #[.agg (vc6 (X.kind : Int) X.form X.text X.num nv iv), .int .i64 (E : Int)]) ∧ Sl w.heap.size w' nv X.names ∧ Sl w.heap.size w' iv X.items ∧ Below w.heap.size w w' := by
  refine (Of_any s w hs).mono ?_
  rintro en w' ⟨v, rfl, ⟨nv, iv, rfl, sn, si⟩, b⟩
  rw [h] at *
  exact ⟨nv, iv, rfl, sn, si, b⟩
set_option maxHeartbeats 1000000 in
theorem Fault_is (s : ByteArray) (X : Js.X) (E : Nat) (h : ofP s.data.toList = (X, E)) (w : World) (hs : s.size ≤ 1000000) :
    Calls Tryz.prog 20 #[.string s] w fun en w' => en = .returned (.int .i64 (E : Int)) ∧ Below w.heap.size w w' := by
  have kO := asd (Of_is s X E h w hs)
  clear h
  go_enter Tryz.func20, Tryz.ntmps20
  go_wp2_with (first
    | (go_at_call 9; refine kO.out.mono ?_; rintro en w1 ⟨nv, iv, rfl, sn, si, b1⟩; have ox1 := sn.one; have ox2 := si.one; have BN := asd (Bk.new w1 z6); have B1 := asd b1; clear b1 sn si kO)
    | (refine wpList_store_row rfl 28 _ _ rfl _ (vc6 (X.kind : Int) X.form X.text X.num nv iv) rfl rfl 28 _ BN.out (sz28 _ _ _ _ _ _) rfl (vc6_one _ _ _ _ _ _ ox1 ox2) ?_; generalize hwA : World.setRow _ w1.heap.size _ = wA; have BA : Aside (Below w.heap.size w wA) := (by rw [← hwA]; exact asd (B1.out.trans ((below_lay w1 z6 _).mono B1.out.size))); clear hwA BN B1))
  go_ret
  exact ⟨rfl, BA.out⟩
end Go.Proofs.YtpeioecpilmpiaaGreatDoor

/-
  JsonForms' walk.
-/
namespace Go.Proofs.YtpeioecpilmpiaaGreatDoor
open Go.RowKit
theorem formP_of (b : Js.B) : formP b = ((ofP b).1.form, (ofP b).2) := by
  unfold formP ofP
  cases Js.of b <;> rfl
theorem forms_long (s : ByteArray) (w : World) (hs : 500 < s.size) (hV : Vars w) :
    Calls Tryz.prog 3 #[.string s] w fun e w' => e = .returned (.bool true) ∧ Below w.heap.size w w' := by
  have k0 := awake_any w hV
  have d1 : decide (500 < (s.size : Int)) = true := by simp; omega
  clear hV
  go_enter Tryz.func3, Tryz.ntmps3
  go_wp2_with (go_at_call 7; refine k0.mono ?_; rintro e w1 ⟨rfl, hb1⟩; clear k0)
  go_ret
  exact ⟨rfl, hb1⟩
set_option maxHeartbeats 2000000 in
set_option maxRecDepth 100000 in
theorem forms_short (s : ByteArray) (w : World) (hs : s.size ≤ 500) (hV : Vars w) :
    Calls Tryz.prog 3 #[.string s] w fun e w' => e = .returned (.bool true) ∧ Below w.heap.size w w' := by
  have k0 := awake_any w hV
  have HV := asd hV
  have d1 : decide (500 < (s.size : Int)) = false := by simp; omega
  have VV := asd (fun (u : World) (hb : Below w.heap.size w u) => HV.out.below hb)
  obtain ⟨X, E, ho⟩ : ∃ X E, ofP s.data.toList = (X, E) := ⟨_, _, rfl⟩
  have HO := asd ho
  have T8 := asd trivial
  have n1 : ((E : Int) != (E : Int)) = false := bne_self_eq_false _
  have n2 : ((E : Int) == (E : Int)) = true := beq_self_eq_true _
  have n3 : ((bs X.form).toList != (bs X.form).toList) = false := bne_self_eq_false _
  have n4 : ((bs X.form).toList == (bs X.form).toList) = true := beq_self_eq_true _
  clear hV
  by_cases he : E = 0
  · obtain rfl := he
    have kF : Aside (∀ u : World, Vars u → Calls Tryz.prog 8 #[.string s] u fun e w' => e = .returned (.tuple #[.string (bs X.form), .int .i64 0]) ∧ Below u.heap.size u w') := fun u hu => by
      have h := Form_any s u (by omega) hu
      rw [formP_of, ho] at h
      exact h
    have kO : Aside (∀ u : World, Calls Tryz.prog 9 #[.string s] u fun en w' => ∃ nv iv, en = .returned (.tuple #[.agg (vc6 (X.kind : Int) X.form X.text X.num nv iv), .int .i64 0]) ∧ Sl u.heap.size w' nv X.names ∧ Sl u.heap.size w' iv X.items ∧ Below u.heap.size u w') := fun u => Of_is s X 0 ho u (by omega)
    clear ho n1 n2
    have hx : Js.of s.data.toList = .ok X := by
      have h := HO.out
      unfold ofP at h
      cases hof : Js.of s.data.toList with
      | error e =>
        rw [hof] at h
        simp only [Prod.mk.injEq] at h
        exact absurd h.2 (Js.of_ne hof)
      | ok x =>
        rw [hof] at h
        simp only [Prod.mk.injEq] at h
        rw [h.1]
    obtain ⟨h1, h2, h3⟩ := Js.of_bd _ _ hx
    have h1' : s.size ≤ 400 := h1
    have h2' : X.form.length ≤ s.size := h2
    have eG : formP (bs X.form).data.toList = (X.form, 0) := by
      rw [bs_list]
      unfold formP
      rw [Js.of_again _ _ hx]
    have kG : Aside (∀ u : World, Vars u → Calls Tryz.prog 8 #[.string (bs X.form)] u fun e w' => e = .returned (.tuple #[.string (bs X.form), .int .i64 0]) ∧ Below u.heap.size u w') := fun u hu => by
      have h := Form_any (bs X.form) u (by rw [bs_size]; omega) hu
      rw [eG] at h
      exact h
    have d2 : decide (((bs X.form).size : Int) ≤ (s.size : Int)) = true := by rw [bs_size]; simp; omega
    have d2' : decide ((bs X.form).size ≤ s.size) = true := by rw [bs_size]; simp; omega
    clear h1 h2 h3 hx h1' h2' eG HO
    generalize hQ : bs X.form = Q at *
    go_enter Tryz.func3, Tryz.ntmps3
    go_wp2_with (first
      | (go_at_call 7; refine k0.mono ?_; rintro e w1 ⟨rfl, hb1⟩; clear k0)
      | (clear T8; go_at_call 8; refine (kF.out _ (VV.out _ hb1)).mono ?_; rintro e w2 ⟨rfl, hb2⟩; have B2 := asd (hb1.trans (hb2.mono hb1.size)); clear kF hb1 hb2)
      | (go_at_call 9; refine (kO.out _).mono ?_; rintro e w3 ⟨nv, iv, rfl, sn, si, hb3⟩; have B3 := asd (B2.out.trans (hb3.mono B2.out.size)); have ox1 := sn.one; have ox2 := si.one; have BN := asd (Bk.new w3 z6); clear B2 hb3 sn si kO)
      | (refine wpList_store_row rfl 28 _ _ rfl _ (vc6 (X.kind : Int) X.form X.text X.num nv iv) rfl rfl 28 _ BN.out (sz28 _ _ _ _ _ _) rfl (vc6_one _ _ _ _ _ _ ox1 ox2) ?_; generalize hwA : World.setRow _ w3.heap.size _ = wA; have BA : Aside (Below w.heap.size w wA) := (by rw [← hwA]; exact asd (B3.out.trans ((below_lay w3 z6 _).mono B3.out.size))); have cA : wA.cell? ⟨w3.heap.size, 1, none⟩ = some (.string Q) := (by rw [← hwA, ← hQ]; exact (show Bk _ w3.heap.size (vc6 (X.kind : Int) X.form X.text X.num nv iv) from setRow_heap _ _ _ _ _ _ BN.out).cell 1); clear hwA BN B3)
      | (go_at_call 8; refine (kG.out _ (VV.out _ BA.out)).mono ?_; rintro e w4 ⟨rfl, hb4⟩; have B4 := asd (BA.out.trans (hb4.mono BA.out.size)); clear hb4 kG))
    go_ret
    exact ⟨rfl, B4.out⟩
  · have kF : Aside (∀ u : World, Vars u → Calls Tryz.prog 8 #[.string s] u fun e w' => e = .returned (.tuple #[.string (bs X.form), .int .i64 (E : Int)]) ∧ Below u.heap.size u w') := fun u hu => by
      have h := Form_any s u (by omega) hu
      rw [formP_of, ho] at h
      exact h
    have kO := asd (fun u => Of_is s X E ho u (by omega))
    clear ho HO
    have t0 : ((E : Int) != 0) = true := by rw [bne_iff_ne]; omega
    have t0' : ((E : Int) == 0) = false := by rw [beq_eq_false_iff_ne]; omega
    have t0'' : ¬ ((E : Int) = 0) := by omega
    generalize hQ : bs X.form = Q at *
    go_enter Tryz.func3, Tryz.ntmps3
    go_wp2_with (first
      | (go_at_call 7; refine k0.mono ?_; rintro e w1 ⟨rfl, hb1⟩; clear k0)
      | (clear T8; go_at_call 8; refine (kF.out _ (VV.out _ hb1)).mono ?_; rintro e w2 ⟨rfl, hb2⟩; have B2 := asd (hb1.trans (hb2.mono hb1.size)); clear kF hb1 hb2)
      | (go_at_call 9; refine (kO.out _).mono ?_; rintro e w3 ⟨nv, iv, rfl, sn, si, hb3⟩; have B3 := asd (B2.out.trans (hb3.mono B2.out.size)); have ox1 := sn.one; have ox2 := si.one; have BN := asd (Bk.new w3 z6); clear B2 hb3 sn si kO)
      | (refine wpList_store_row rfl 28 _ _ rfl _ (vc6 (X.kind : Int) X.form X.text X.num nv iv) rfl rfl 28 _ BN.out (sz28 _ _ _ _ _ _) rfl (vc6_one _ _ _ _ _ _ ox1 ox2) ?_; generalize hwA : World.setRow _ w3.heap.size _ = wA; have BA : Aside (Below w.heap.size w wA) := (by rw [← hwA]; exact asd (B3.out.trans ((below_lay w3 z6 _).mono B3.out.size))); have cA : wA.cell? ⟨w3.heap.size, 1, none⟩ = some (.string Q) := (by rw [← hwA, ← hQ]; exact (show Bk _ w3.heap.size (vc6 (X.kind : Int) X.form X.text X.num nv iv) from setRow_heap _ _ _ _ _ _ BN.out).cell 1); clear hwA BN B3))
    go_ret
    exact ⟨rfl, BA.out⟩
theorem forms_any (s : ByteArray) (w : World) (hV : Vars w) :
    Calls Tryz.prog 3 #[.string s] w fun e w' => e = .returned (.bool true) ∧ Below w.heap.size w w' := by
  by_cases h : 500 < s.size
  · exact forms_long s w h hV
  · exact forms_short s w (by omega) hV
end Go.Proofs.YtpeioecpilmpiaaGreatDoor
