/-
  Crash.
-/
import Derived.Test.YtcapgcdflahbkaaX16
namespace Go.Proofs.Ytcapgcdflahbkaa
open Go.RowKit

theorem lasts_cons (l : List F) (p : Pc) (r : List Pc) (left : Nat) : lasts l (p :: r) left = lasts (surer l p.name (min p.size left)) r (left - min p.size left) := rfl

theorem surerV_b (l : List Fv) (n : ByteArray) (k : Nat) : (surerV l n k).map Fv.bytes = l.map Fv.bytes := by
  unfold surerV
  rw [List.map_map]
  refine List.map_congr_left fun f _ => ?_
  show Fv.bytes (if _ then _ else _) = _
  split <;> rfl

theorem Step.drew {a c : List Nat} {u w : World} (h : Step a c u w) : Step a c u w.drew := ⟨h.os, h.tape, h.output, h.size, h.block, h.sub⟩

/-- Behind so many pieces. -/
structure Mid (w0 w : World) (B b : Nat) (d : Ds) (L : List Fv) (k : Nat) (goal : List F) (left : Nat) : Prop where
  rep : Rep w B b { d with files := L }
  step : Step (d.foot b) (d.foot b) w0 w
  names : L.map Fv.name = d.files.map Fv.name
  vs : L.map Fv.v = d.files.map Fv.v
  bts : L.map Fv.bytes = d.files.map Fv.bytes
  goal : lasts (L.map Fv.pl) (d.pieces.drop k) left = goal
  bound : ∀ f ∈ L, f.sure + wait f.name (d.pieces.drop k) ≤ f.bytes.length

theorem mem_surerV {l : List Fv} {n : ByteArray} {m : Nat} {x : Fv} (h : x ∈ surerV l n m) : ∃ f ∈ l, x = if cmp f.name n = 0 then ⟨f.name, f.bytes, f.sure + m, f.v⟩ else f := by
  obtain ⟨f, hf, e⟩ := List.mem_map.1 h
  exact ⟨f, hf, e.symm⟩

theorem Mid.next {w0 w w' : World} {B b g i k left : Nat} {d : Ds} {L : List Fv} {goal : List F} {f : Fv} {p : Pc} (h : Mid w0 w B b d L k goal left) (hb : Below w.heap.size w w') (hr : (d.files.map Fv.name).Nodup) (hp : d.pieces[k]? = some p) (hf : L[i]? = some f) (hn : f.name = p.name) (hg : d.vf.ownBlock = some g) :
    Mid w0 (w'.setCell ⟨g, i * 3 + 2, none⟩ (.int .i64 ((f.sure + min p.size left : Nat) : Int))) B b d (surerV L p.name (min p.size left)) (k + 1) goal (left - min p.size left) := by
  have hk : k < d.pieces.length := (List.getElem?_eq_some_iff.1 hp).1
  have hd : d.pieces.drop k = p :: d.pieces.drop (k + 1) := by rw [List.drop_eq_getElem_cons hk, (List.getElem?_eq_some_iff.1 hp).2]
  have hs := surerV_set (k := min p.size left) (by rw [h.names]; exact hr) hf hn
  have hR := (h.rep.below hb).setSure hf hg (f.sure + min p.size left)
  rw [foot_same h.vs] at hR
  refine ⟨by rw [hs]; exact hR.1, (h.step.trans (Step.ofBelow hb)).trans hR.2, (surerV_names _ _ _).trans h.names, (surerV_v _ _ _).trans h.vs, (surerV_b _ _ _).trans h.bts, ?_, ?_⟩
  · rw [← h.goal, hd, lasts_cons, surerV_pl]
  · intro x hx
    obtain ⟨y, hy, e⟩ := mem_surerV hx
    have := h.bound y hy
    rw [hd] at this
    by_cases hc : cmp y.name p.name = 0
    · rw [if_pos hc] at e
      rw [wait_pos (cmp_zero.1 hc).symm] at this
      rw [e]
      show y.sure + min p.size left + wait y.name _ ≤ y.bytes.length
      omega
    · rw [if_neg hc] at e
      rw [wait_neg (fun e => hc (by rw [e]; exact cmp_self _))] at this
      rw [e]
      exact this

set_option maxHeartbeats 4000000 in
theorem crash_any {w : World} {B b : Nat} {d : Ds} (h : Rep w B b d) (ok : Ok d.pl) (last : Int) (hlast : last ≤ 9223372036854775807) :
    Calls Try.prog 16 #[.pointer (some ⟨b, 0, none⟩), .int .i64 last] w fun e w' => e = .returned (.tuple #[]) ∧ ∃ d', Rep w' B b d' ∧ d'.pl = opCrash d.pl last ∧ Step (d.foot b) (d'.foot b) w w' := by
  have c1 := h.c1
  have hfew := ok.dfew
  have hpc := ok.dpieces
  have hrise := ok.rise
  have hbytes : Aside (∀ f ∈ d.files, f.bytes.length ≤ 60000) := fun f hf => ok.dbytes hf
  obtain ⟨ap, cp, eap⟩ := own_any h.pcs
  have hst : Aside (Mid w w B b d d.files 0 (lasts d.pl.files d.pl.pieces last.toNat) last.toNat) := ⟨h, Step.refl _ _, rfl, rfl, rfl, rfl, fun f hf => Nat.le_of_eq (ok.waits f.pl (List.mem_map.2 ⟨f, hf, rfl⟩))⟩
  have hnm : Aside (∀ t, t < d.pieces.length → d.pieces[t]!.name ∈ d.names) := fun t ht => by
    have := ok.named _ (List.mem_of_getElem? (getbang d.pieces t ht))
    rwa [names_pl] at this
  have HB : Aside (∀ L : List Fv, L.map Fv.name = d.files.map Fv.name → L.map Fv.v = d.files.map Fv.v → L.length = d.files.length) := fun L h1 _ => by have := congrArg List.length h1; simpa using this
  rw [eap] at c1
  have emax : max last 0 = ((last.toNat : Nat) : Int) := by omega
  have hln : last.toNat ≤ 9223372036854775807 := by omega
  unfold opCrash
  generalize hG : lasts d.pl.files d.pl.pieces last.toNat = GOAL at *
  generalize hLN : last.toNat = LN at *
  clear h hG hLN hlast
  generalize hPN : d.pieces.length = PN at *
  go_enter Try.func16, Try.ntmps16
  go_wp2
  go_loopg [4, 6, 7, 8, 9, 21] PN (fun gh s4 _ _ _ _ s21 wr => ∃ (k left : Nat) (L : List Fv), PN - k ≤ gh ∧ k ≤ PN ∧ s4 = .int .i64 (left : Int) ∧ left ≤ 9223372036854775807 ∧ s21 = .int .i64 (k : Int) ∧ Aside (Mid w wr B b d L k GOAL left))
  case atStart => exact ⟨0, LN, d.files, by omega, by omega, rfl, hln, rfl, hst⟩
  case round =>
    obtain ⟨k, left, L, hgh, hk, rfl, hleft, rfl, M⟩ := hrel
    by_cases hlt : k < PN
    · have d3 : decide (k < PN) = true := by simpa using hlt
      have hkp : k < d.pieces.length := by omega
      have hpk := getbang d.pieces k hkp
      have hmem := hnm.out k (by omega)
      obtain ⟨a1, c1', ev1, hrow⟩ := M.out.rep.prow
      obtain ⟨gp, ea1, e0, e1⟩ := hrow k hkp
      dsimp only at ev1 e0 e1
      rw [eap] at ev1
      injection ev1 with ev1 ev2 ev3
      subst ev1 ev3
      clear ev2
      subst ea1
      generalize hp : d.pieces[k]! = p at *
      have hL := HB.out L M.out.names M.out.vs
      have hRL : Rising (Ds.names { d with files := L }) := by show Rising (L.map Fv.name); rw [M.out.names]; exact hrise
      have hhas : has (Ds.names { d with files := L }) p.name = true := by rw [has_iff]; show p.name ∈ L.map Fv.name; rw [M.out.names]; exact hmem
      obtain ⟨f, hf, hfn, hfm⟩ := dhas_get (d := { d with files := L }) hRL hhas
      have kf : Aside (∀ u : World, Rep u B b { d with files := L } → _) := fun u hu => find_any hu hRL (show L.length ≤ 1000 by omega) p.name
      rw [hhas] at kf
      generalize hi : place (Ds.names { d with files := L }) p.name = i at *
      replace hf : L[i]? = some f := hf
      have hil : i < L.length := (List.getElem?_eq_some_iff.1 hf).1
      obtain ⟨g, cap, ev, hcap, hcm, hg⟩ := M.out.rep.vf_form hf
      have hbd := M.out.bound f hfm
      have hwp : wait f.name (d.pieces.drop k) = p.size + wait f.name (d.pieces.drop (k + 1)) := by
        rw [List.drop_eq_getElem_cons hkp, (List.getElem?_eq_some_iff.1 hpk).2]
        exact wait_pos hfn.symm
      have hfb : f.bytes.length ≤ 60000 := by
        have : f.bytes ∈ d.files.map Fv.bytes := by rw [← M.out.bts]; exact List.mem_map.2 ⟨f, hfm, rfl⟩
        obtain ⟨y, hy, e⟩ := List.mem_map.1 this
        rw [← e]
        exact hbytes.out y hy
      rw [hwp] at hbd
      obtain ⟨m, hm⟩ : ∃ m : Nat, m = min p.size left := ⟨_, rfl⟩
      have hml : m ≤ left ∧ m ≤ p.size := by omega
      have EM : Aside ((m : Int) = min (p.size : Int) (left : Int)) := (by omega : (m : Int) = min (p.size : Int) (left : Int))
      have HX : Aside (∀ u : World, Below wr.heap.size wr u → u.cell? ⟨b, 0, none⟩ = some (.slice (some ⟨g, 0, none⟩) L.length cap) ∧ u.cell? ⟨g, i * 3 + 2, none⟩ = some (.int .i64 (f.sure : Int)) ∧ u.frozen? ⟨g, i * 3 + 2, none⟩ = false) := fun u hu => by
        have hr := M.out.rep.below hu
        exact ⟨by rw [hr.c0]; exact congrArg some ev, (hr.fcells hf hg).2.2, own_frozen hr.tab hg _⟩
      have MN : Aside (∀ u : World, Below wr.heap.size wr u → Mid w (u.setCell ⟨g, i * 3 + 2, none⟩ (.int .i64 ((f.sure + m : Nat) : Int))) B b d (surerV L p.name m) (k + 1) GOAL (left - m)) := fun u hu => by
        rw [hm]
        exact M.out.next hu hrise.nodup hpk hf hfn hg
      have hbA : ∀ o : Obj, Below wr.heap.size wr (wr.alloc o) := fun o => (Below.refl _ _).alloc (Nat.le_refl _) o
      have MR : Aside (∀ o : Obj, Rep (wr.alloc o) B b { d with files := L }) := fun o => M.out.rep.below (hbA o)
      have hw1 : IntKind.i64.wrap ((left : Int) - (m : Int)) = (left : Int) - (m : Int) := by rw [IntKind.wrap_i64]; omega
      have hw2 : IntKind.i64.wrap ((f.sure : Int) + (m : Int)) = (f.sure : Int) + (m : Int) := by rw [IntKind.wrap_i64]; omega
      have hLn : L.length ≤ 16 := by omega
      rw [EM.out] at hw1 hw2
      have hml1 := hml.1
      clear hml
      clear hm hst hwp hhas hRL hmem hpk hf hfn hfm M hp hi ev hg hbd hrow
      go_wp2_with (go_at_call 41; refine (kf.out _ (MR.out _)).mono ?_; rintro e w2 ⟨rfl, hb2⟩; have hb3 := (hbA _).trans (hb2.mono (hbA _).size); obtain ⟨x0, x1, x2⟩ := HX.out _ hb3)
      go_roundg (PN - (k + 1))
      case measure => omega
      case rel => exact ⟨k + 1, left - m, surerV L p.name m, Nat.le_refl _, by omega, by rw [show ((left - m : Nat) : Int) = (left : Int) - (m : Int) by omega, EM.out], by omega, by go_num, by have := MN.out _ hb3; rwa [show ((f.sure + m : Nat) : Int) = (f.sure : Int) + (m : Int) by omega, EM.out] at this⟩
    · obtain rfl : k = PN := by omega
      have d3 : decide (k < k) = false := by simp
      have hgoal : Aside (L.map Fv.pl = GOAL) := by
        have := M.out.goal
        rw [List.drop_of_length_le (by omega)] at this
        exact this
      have hsure : Aside (∀ f ∈ L, f.sure ≤ f.bytes.length ∧ f.bytes.length ≤ 60000) := fun f hf => by
        refine ⟨by have := M.out.bound f hf; omega, ?_⟩
        have : f.bytes ∈ d.files.map Fv.bytes := by rw [← M.out.bts]; exact List.mem_map.2 ⟨f, hf, rfl⟩
        obtain ⟨y, hy, e⟩ := List.mem_map.1 this
        rw [← e]
        exact hbytes.out y hy
      have hL := HB.out L M.out.names M.out.vs
      have xc1 := M.out.rep.c1
      have xf1 := M.out.rep.fz 1
      have hN := M.out.rep.noPieces
      dsimp only at hN xc1
      obtain ⟨af, cf, eaf⟩ := own_any hN.1.tab
      have xc0 := hN.1.c0
      dsimp only at eaf xc0
      rw [eaf] at xc0
      rw [eap] at xc1
      have N0 : Aside (Rep (wr.setCell ⟨b, 1, none⟩ (.slice none 0 0)) B b ⟨L, [], d.vf, .slice none 0 0, d.room, d.fused, d.fuse, d.down⟩ ∧ Step (d.foot b) (Ds.foot b ⟨L, [], d.vf, .slice none 0 0, d.room, d.fused, d.fuse, d.down⟩) w (wr.setCell ⟨b, 1, none⟩ (.slice none 0 0))) := ⟨hN.1, by
        have := hN.2
        rw [show Ds.foot b ⟨L, d.pieces, d.vf, d.vp, d.room, d.fused, d.fuse, d.down⟩ = d.foot b from foot_same M.out.vs] at this
        exact M.out.step.trans this⟩
      clear hN M hst hbytes HB hnm hgh hleft hk hlt
      have hLn : L.length ≤ 16 := by omega
      generalize hLL : L.length = LL at *
      clear eap ok emax hln hrise hpc hPN
      go_wp2
      clear xc1 xf1
      generalize wr.setCell ⟨b, 1, none⟩ (.slice none 0 0) = w3 at *
      go_loopg [10, 11, 60] LL (fun gh _ _ s60 wq => ∃ k : Nat, LL - k ≤ gh ∧ k ≤ LL ∧ s60 = .int .i64 (k : Int) ∧ Aside (Rep wq B b ⟨cutUpto L k, [], d.vf, .slice none 0 0, d.room, d.fused, d.fuse, d.down⟩ ∧ Step (d.foot b) (Ds.foot b ⟨cutUpto L k, [], d.vf, .slice none 0 0, d.room, d.fused, d.fuse, d.down⟩) w wq))
      case atStart => exact ⟨0, by omega, by omega, rfl, (by simpa [cutUpto] using N0.out : Rep w3 B b ⟨cutUpto L 0, [], d.vf, .slice none 0 0, d.room, d.fused, d.fuse, d.down⟩ ∧ Step (d.foot b) (Ds.foot b ⟨cutUpto L 0, [], d.vf, .slice none 0 0, d.room, d.fused, d.fuse, d.down⟩) w w3)⟩
      case round =>
        obtain ⟨k2, hgh, hk2, rfl, R⟩ := hrel
        by_cases hlt : k2 < LL
        · have d4 : decide (k2 < LL) = true := by simpa using hlt
          have hfk := getbang L k2 (by omega)
          obtain ⟨hs1, hs2⟩ := hsure.out _ (List.mem_of_getElem? hfk)
          obtain ⟨hcu, hcn⟩ := cutUpto_next hfk
          have hdl := cutUpto_len L k2
          generalize L[k2]! = f at *
          obtain ⟨g, cap, ev, hcap, hcm, hg⟩ := R.out.1.vf_form hcu
          dsimp only at ev hg hcap
          rw [hdl, hLL] at ev hcap
          rw [eaf] at ev
          injection ev with ev1 ev2 ev3
          subst ev1 ev3
          clear ev2
          obtain ⟨y0, y1, y2⟩ := R.out.1.fcells hcu hg
          obtain ⟨av, cv, eav⟩ := own_any (R.out.1.rows _ (List.mem_of_getElem? hcu))
          have hav : f.bytes.length ≤ cv ∧ cv ≤ 9223372036854775807 ∧ (av = none → cv = 0) := by
            rcases (R.out.1.rows _ (List.mem_of_getElem? hcu)).2 with ⟨e, e'⟩ | ⟨g', cap', cur, e, _, _, h3, h4, _⟩
            · rw [eav] at e
              injection e with e1 e2 e3
              omega
            · rw [eav] at e
              injection e with e1 e2 e3
              subst e3
              refine ⟨h3, by unfold maxLen at h4; omega, fun e => ?_⟩
              rw [e] at e1
              cases e1
          obtain ⟨hv1, hv2, hv3⟩ := hav
          have hsc : f.sure ≤ cv := by omega
          have x0 := R.out.1.c0
          dsimp only at x0
          rw [eaf] at x0
          have hbA : ∀ o : Obj, Below wr.heap.size wr (wr.alloc o) := fun o => (Below.refl _ _).alloc (Nat.le_refl _) o
          have x0A : ∀ o : Obj, (wr.alloc o).cell? ⟨b, 0, none⟩ = some (.slice (some ⟨g, 0, none⟩) LL cf) := fun o => cell_below x0 (hbA o)
          have y1A : ∀ o : Obj, (wr.alloc o).cell? ⟨g, k2 * 3 + 1, none⟩ = some (.slice av f.bytes.length cv) := fun o => by rw [← eav]; exact cell_below y1 (hbA o)
          have yf : ∀ o : Obj, (wr.alloc o).frozen? ⟨g, k2 * 3 + 1, none⟩ = false := fun o => own_frozen (R.out.1.below (hbA o)).tab hg _
          have n1 : ¬ b = wr.heap.size := by have := R.out.1.b_lt; omega
          have n2 : ¬ g = wr.heap.size := by have := (R.out.1.tab.lt g hg).2; omega
          have n1' : ¬ wr.heap.size = b := fun e => n1 e.symm
          have n2' : ¬ wr.heap.size = g := fun e => n2 e.symm
          have RN : Aside (∀ o : Obj, Rep ((wr.alloc o).setCell ⟨g, k2 * 3 + 1, none⟩ (.slice av f.sure cv)) B b ⟨cutUpto L (k2 + 1), [], d.vf, .slice none 0 0, d.room, d.fused, d.fuse, d.down⟩ ∧ Step (d.foot b) (Ds.foot b ⟨cutUpto L (k2 + 1), [], d.vf, .slice none 0 0, d.room, d.fused, d.fuse, d.down⟩) w ((wr.alloc o).setCell ⟨g, k2 * 3 + 1, none⟩ (.slice av f.sure cv))) := fun o => by
            have hh := (R.out.1.below (hbA o)).setCut hcu hg hs1
            rw [eav] at hh
            rw [hcn]
            refine ⟨hh.1, (R.out.2.trans (Step.ofBelow (hbA o))).trans ?_⟩
            have e : Ds.foot b ⟨(cutUpto L k2).set k2 (cutF f), [], d.vf, .slice none 0 0, d.room, d.fused, d.fuse, d.down⟩ = Ds.foot b ⟨cutUpto L k2, [], d.vf, .slice none 0 0, d.room, d.fused, d.fuse, d.down⟩ := by
              unfold Ds.foot
              simp only
              rw [flatMap_set_same (fun f => ob f.v) (cutUpto L k2) k2 f (cutF f) hcu (ob_eq (own_cutV (R.out.1.rows _ (List.mem_of_getElem? hcu)) f.sure hs1).2)]
            rw [e]
            exact hh.2
          rw [eav] at y1
          clear R hsure hgoal N0 hcu hcn hfk eaf eav hg
          cases av with
          | none =>
            obtain rfl := hv3 rfl
            have z0 : f.sure = 0 := by omega
            have z1 : f.bytes.length = 0 := by omega
            generalize f.sure = fs at *
            generalize f.bytes.length = fl at *
            subst z0 z1
            go_wp2
            go_region
            all_goals
              go_wp2
              go_roundg (LL - (k2 + 1))
              case measure => omega
              case rel => exact ⟨k2 + 1, Nat.le_refl _, by omega, by go_num, ⟨(RN.out _).1.drew, (RN.out _).2.drew⟩⟩
          | some ad =>
            go_wp2
            go_region
            all_goals
              go_wp2
              go_roundg (LL - (k2 + 1))
              case measure => omega
              case rel => exact ⟨k2 + 1, Nat.le_refl _, by omega, by go_num, ⟨(RN.out _).1.drew, (RN.out _).2.drew⟩⟩
        · obtain rfl : k2 = LL := by omega
          have d4 : decide (k2 < k2) = false := by simp
          have x3 := R.out.1.c3
          have x4 := R.out.1.c4
          have x5 := R.out.1.c5
          have f3 := R.out.1.fz 3
          have f4 := R.out.1.fz 4
          have f5 := R.out.1.fz 5
          have hall : Aside (cutUpto L k2 = L.map cutF) := by
            show _ = _
            rw [← hLL]
            exact cutUpto_all L
          clear hsure N0 hLL
          go_wp2
          go_end0
          refine ⟨rfl, ⟨cutUpto L k2, [], d.vf, .slice none 0 0, d.room, false, 0, false⟩, R.out.1.scal rfl rfl rfl rfl (set_same (set_same (set_same R.out.1.blk rfl) rfl) rfl) (fun k hk => (Below.heap_setCell _ _ _ _ hk).trans ((Below.heap_setCell _ _ _ _ hk).trans (Below.heap_setCell _ _ _ _ hk))), ?_, R.out.2.trans (((Step.setb _ foot_b _ _).trans (Step.setb _ foot_b _ _)).trans (Step.setb _ foot_b _ _))⟩
          rw [hall.out]
          unfold Ds.pl
          simp only
          rw [cutF_pl, hgoal.out]
end Go.Proofs.Ytcapgcdflahbkaa
