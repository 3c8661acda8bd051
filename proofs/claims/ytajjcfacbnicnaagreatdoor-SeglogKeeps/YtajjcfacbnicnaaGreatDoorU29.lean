/-
  YtajjcfacbnicnaaGreatDoor: the texts DX17, DP7, DX18, one behind the other.
-/
import Derived.Test.YtajjcfacbnicnaaGreatDoorU12
import Derived.Test.YtajjcfacbnicnaaGreatDoorU21
import Derived.Test.YtajjcfacbnicnaaGreatDoorU8
/-
  Crash.
-/
namespace Go.Proofs.YtajjcfacbnicnaaGreatDoor.Dk
open Go.RowKit
set_option maxRecDepth 100000

theorem lasts_cons (l : List F) (p : Pc) (r : List Pc) (left : Nat) : lasts l (p :: r) left = lasts (surer l p.name (min p.size left)) r (left - min p.size left) := rfl

theorem surerV_b (l : List Fv) (n : ByteArray) (k : Nat) : (surerV l n k).map Fv.bytes = l.map Fv.bytes := by
  unfold surerV
  rw [List.map_map]
  refine List.map_congr_left fun f _ => ?_
  show Fv.bytes (if _ then _ else _) = _
  split <;> rfl

theorem Step.drew {a c : List Nat} {u w : World} (h : Step a c u w) : Step a c u w.drew := ⟨h.os, h.tape, h.output, h.size, h.block, h.sub⟩

/-- Behind so many pieces. -/
structure Mid (w0 w : World) (B b : Nat) (d : Ds) (L : List Fv) (k : Nat) (goal : List F) (left : Nat) : Prop where
  rep : Rep w B b { d with files := L }
  step : Step (d.foot b) (d.foot b) w0 w
  names : L.map Fv.name = d.files.map Fv.name
  vs : L.map Fv.v = d.files.map Fv.v
  bts : L.map Fv.bytes = d.files.map Fv.bytes
  goal : lasts (L.map Fv.pl) (d.pieces.drop k) left = goal
  bound : ∀ f ∈ L, f.sure + wait f.name (d.pieces.drop k) ≤ f.bytes.length

theorem mem_surerV {l : List Fv} {n : ByteArray} {m : Nat} {x : Fv} (h : x ∈ surerV l n m) : ∃ f ∈ l, x = if cmp f.name n = 0 then ⟨f.name, f.bytes, f.sure + m, f.v⟩ else f := by
  obtain ⟨f, hf, e⟩ := List.mem_map.1 h
  exact ⟨f, hf, e.symm⟩

theorem Mid.next {w0 w w' : World} {B b g i k left : Nat} {d : Ds} {L : List Fv} {goal : List F} {f : Fv} {p : Pc} (h : Mid w0 w B b d L k goal left) (hb : Below w.heap.size w w') (hr : (d.files.map Fv.name).Nodup) (hp : d.pieces[k]? = some p) (hf : L[i]? = some f) (hn : f.name = p.name) (hg : d.vf.ownBlock = some g) :
    Mid w0 (w'.setCell ⟨g, i * 3 + 2, none⟩ (.int .i64 ((f.sure + min p.size left : Nat) : Int))) B b d (surerV L p.name (min p.size left)) (k + 1) goal (left - min p.size left) := by
  have hk : k < d.pieces.length := (List.getElem?_eq_some_iff.1 hp).1
  have hd : d.pieces.drop k = p :: d.pieces.drop (k + 1) := by rw [List.drop_eq_getElem_cons hk, (List.getElem?_eq_some_iff.1 hp).2]
  have hs := surerV_set (k := min p.size left) (by rw [h.names]; exact hr) hf hn
  have hR := (h.rep.below hb).setSure hf hg (f.sure + min p.size left)
  rw [foot_same h.vs] at hR
  refine ⟨by rw [hs]; exact hR.1, (h.step.trans (Step.ofBelow hb)).trans hR.2, (surerV_names _ _ _).trans h.names, (surerV_v _ _ _).trans h.vs, (surerV_b _ _ _).trans h.bts, ?_, ?_⟩
  · rw [← h.goal, hd, lasts_cons, surerV_pl]
  · intro x hx
    obtain ⟨y, hy, e⟩ := mem_surerV hx
    have := h.bound y hy
    rw [hd] at this
    by_cases hc : cmp y.name p.name = 0
    · rw [if_pos hc] at e
      rw [wait_pos (cmp_zero.1 hc).symm] at this
      rw [e]
      show y.sure + min p.size left + wait y.name _ ≤ y.bytes.length
      omega
    · rw [if_neg hc] at e
      rw [wait_neg (fun e => hc (by rw [e]; exact cmp_self _))] at this
      rw [e]
      exact this

set_option maxHeartbeats 4000000 in
theorem crash_any {w : World} {B b : Nat} {d : Ds} (h : Rep w B b d) (ok : Ok d.pl) (last : Int) (hlast : last ≤ 9223372036854775807) :
    Calls Tryz.prog 17 #[.pointer (some ⟨b, 0, none⟩), .int .i64 last] w fun e w' => e = .returned (.tuple #[]) ∧ ∃ d', Rep w' B b d' ∧ d'.pl = opCrash d.pl last ∧ Step (d.foot b) (d'.foot b) w w' := by
  have c1 := h.c1
  have hfew := ok.dfew
  have hpc := ok.dpieces
  have hrise := ok.rise
  have hbytes : Aside (∀ f ∈ d.files, f.bytes.length ≤ 60000) := fun f hf => ok.dbytes hf
  obtain ⟨ap, cp, eap⟩ := own_any h.pcs
  have hst : Aside (Mid w w B b d d.files 0 (lasts d.pl.files d.pl.pieces last.toNat) last.toNat) := ⟨h, Step.refl _ _, rfl, rfl, rfl, rfl, fun f hf => Nat.le_of_eq (ok.waits f.pl (List.mem_map.2 ⟨f, hf, rfl⟩))⟩
  have hnm : Aside (∀ t, t < d.pieces.length → d.pieces[t]!.name ∈ d.names) := fun t ht => by
    have := ok.named _ (List.mem_of_getElem? (getbang d.pieces t ht))
    rwa [names_pl] at this
  have HB : Aside (∀ L : List Fv, L.map Fv.name = d.files.map Fv.name → L.map Fv.v = d.files.map Fv.v → L.length = d.files.length) := fun L h1 _ => by have := congrArg List.length h1; simpa using this
  rw [eap] at c1
  have emax : max last 0 = ((last.toNat : Nat) : Int) := by omega
  have hln : last.toNat ≤ 9223372036854775807 := by omega
  unfold opCrash
  generalize hG : lasts d.pl.files d.pl.pieces last.toNat = GOAL at *
  generalize hLN : last.toNat = LN at *
  clear h hG hLN hlast
  generalize hPN : d.pieces.length = PN at *
  go_enter Tryz.func17, Tryz.ntmps17
  go_wp2
  go_loopg [4, 6, 7, 8, 9, 21] PN (fun gh s4 _ _ _ _ s21 wr => ∃ (k left : Nat) (L : List Fv), PN - k ≤ gh ∧ k ≤ PN ∧ s4 = .int .i64 (left : Int) ∧ left ≤ 9223372036854775807 ∧ s21 = .int .i64 (k : Int) ∧ Aside (Mid w wr B b d L k GOAL left))
  case atStart => exact ⟨0, LN, d.files, by omega, by omega, rfl, hln, rfl, hst⟩
  case round =>
    obtain ⟨k, left, L, hgh, hk, rfl, hleft, rfl, M⟩ := hrel
    by_cases hlt : k < PN
    · have d3 : decide (k < PN) = true := by simpa using hlt
      have hkp : k < d.pieces.length := by omega
      have hpk := getbang d.pieces k hkp
      have hmem := hnm.out k (by omega)
      obtain ⟨a1, c1', ev1, hrow⟩ := M.out.rep.prow
      obtain ⟨gp, ea1, e0, e1⟩ := hrow k hkp
      dsimp only at ev1 e0 e1
      rw [eap] at ev1
      injection ev1 with ev1 ev2 ev3
      subst ev1 ev3
      clear ev2
      subst ea1
      generalize hp : d.pieces[k]! = p at *
      have hL := HB.out L M.out.names M.out.vs
      have hRL : Rising (Ds.names { d with files := L }) := by show Rising (L.map Fv.name); rw [M.out.names]; exact hrise
      have hhas : has (Ds.names { d with files := L }) p.name = true := by rw [has_iff]; show p.name ∈ L.map Fv.name; rw [M.out.names]; exact hmem
      obtain ⟨f, hf, hfn, hfm⟩ := dhas_get (d := { d with files := L }) hRL hhas
      have kf : Aside (∀ u : World, Rep u B b { d with files := L } → _) := fun u hu => find_any hu hRL (show L.length ≤ 1000 by omega) p.name
      rw [hhas] at kf
      generalize hi : place (Ds.names { d with files := L }) p.name = i at *
      replace hf : L[i]? = some f := hf
      have hil : i < L.length := (List.getElem?_eq_some_iff.1 hf).1
      obtain ⟨g, cap, ev, hcap, hcm, hg⟩ := M.out.rep.vf_form hf
      have hbd := M.out.bound f hfm
      have hwp : wait f.name (d.pieces.drop k) = p.size + wait f.name (d.pieces.drop (k + 1)) := by
        rw [List.drop_eq_getElem_cons hkp, (List.getElem?_eq_some_iff.1 hpk).2]
        exact wait_pos hfn.symm
      have hfb : f.bytes.length ≤ 60000 := by
        have : f.bytes ∈ d.files.map Fv.bytes := by rw [← M.out.bts]; exact List.mem_map.2 ⟨f, hfm, rfl⟩
        obtain ⟨y, hy, e⟩ := List.mem_map.1 this
        rw [← e]
        exact hbytes.out y hy
      rw [hwp] at hbd
      obtain ⟨m, hm⟩ : ∃ m : Nat, m = min p.size left := ⟨_, rfl⟩
      have hml : m ≤ left ∧ m ≤ p.size := by omega
      have EM : Aside ((m : Int) = min (p.size : Int) (left : Int)) := (by omega : (m : Int) = min (p.size : Int) (left : Int))
      have HX : Aside (∀ u : World, Below wr.heap.size wr u → u.cell? ⟨b, 0, none⟩ = some (.slice (some ⟨g, 0, none⟩) L.length cap) ∧ u.cell? ⟨g, i * 3 + 2, none⟩ = some (.int .i64 (f.sure : Int)) ∧ u.frozen? ⟨g, i * 3 + 2, none⟩ = false) := fun u hu => by
        have hr := M.out.rep.below hu
        exact ⟨by rw [hr.c0]; exact congrArg some ev, (hr.fcells hf hg).2.2, own_frozen hr.tab hg _⟩
      have MN : Aside (∀ u : World, Below wr.heap.size wr u → Mid w (u.setCell ⟨g, i * 3 + 2, none⟩ (.int .i64 ((f.sure + m : Nat) : Int))) B b d (surerV L p.name m) (k + 1) GOAL (left - m)) := fun u hu => by
        rw [hm]
        exact M.out.next hu hrise.nodup hpk hf hfn hg
      have hbA : ∀ o : Obj, Below wr.heap.size wr (wr.alloc o) := fun o => (Below.refl _ _).alloc (Nat.le_refl _) o
      have MR : Aside (∀ o : Obj, Rep (wr.alloc o) B b { d with files := L }) := fun o => M.out.rep.below (hbA o)
      have hw1 : IntKind.i64.wrap ((left : Int) - (m : Int)) = (left : Int) - (m : Int) := by rw [IntKind.wrap_i64]; omega
      have hw2 : IntKind.i64.wrap ((f.sure : Int) + (m : Int)) = (f.sure : Int) + (m : Int) := by rw [IntKind.wrap_i64]; omega
      have hLn : L.length ≤ 16 := by omega
      rw [EM.out] at hw1 hw2
      have hml1 := hml.1
      clear hml
      clear hm hst hwp hhas hRL hmem hpk hf hfn hfm M hp hi ev hg hbd hrow
      go_wp2_with (go_at_call 54; refine (kf.out _ (MR.out _)).mono ?_; rintro e w2 ⟨rfl, hb2⟩; have hb3 := (hbA _).trans (hb2.mono (hbA _).size); obtain ⟨x0, x1, x2⟩ := HX.out _ hb3)
      go_roundg (PN - (k + 1))
      case measure => omega
      case rel => exact ⟨k + 1, left - m, surerV L p.name m, Nat.le_refl _, by omega, by rw [show ((left - m : Nat) : Int) = (left : Int) - (m : Int) by omega, EM.out], by omega, by go_num, by have := MN.out _ hb3; rwa [show ((f.sure + m : Nat) : Int) = (f.sure : Int) + (m : Int) by omega, EM.out] at this⟩
    · obtain rfl : k = PN := by omega
      have d3 : decide (k < k) = false := by simp
      have hgoal : Aside (L.map Fv.pl = GOAL) := by
        have := M.out.goal
        rw [List.drop_of_length_le (by omega)] at this
        exact this
      have hsure : Aside (∀ f ∈ L, f.sure ≤ f.bytes.length ∧ f.bytes.length ≤ 60000) := fun f hf => by
        refine ⟨by have := M.out.bound f hf; omega, ?_⟩
        have : f.bytes ∈ d.files.map Fv.bytes := by rw [← M.out.bts]; exact List.mem_map.2 ⟨f, hf, rfl⟩
        obtain ⟨y, hy, e⟩ := List.mem_map.1 this
        rw [← e]
        exact hbytes.out y hy
      have hL := HB.out L M.out.names M.out.vs
      have xc1 := M.out.rep.c1
      have xf1 := M.out.rep.fz 1
      have hN := M.out.rep.noPieces
      dsimp only at hN xc1
      obtain ⟨af, cf, eaf⟩ := own_any hN.1.tab
      have xc0 := hN.1.c0
      dsimp only at eaf xc0
      rw [eaf] at xc0
      rw [eap] at xc1
      have N0 : Aside (Rep (wr.setCell ⟨b, 1, none⟩ (.slice none 0 0)) B b ⟨L, [], d.vf, .slice none 0 0, d.room, d.fused, d.fuse, d.down⟩ ∧ Step (d.foot b) (Ds.foot b ⟨L, [], d.vf, .slice none 0 0, d.room, d.fused, d.fuse, d.down⟩) w (wr.setCell ⟨b, 1, none⟩ (.slice none 0 0))) := ⟨hN.1, by
        have := hN.2
        rw [show Ds.foot b ⟨L, d.pieces, d.vf, d.vp, d.room, d.fused, d.fuse, d.down⟩ = d.foot b from foot_same M.out.vs] at this
        exact M.out.step.trans this⟩
      clear hN M hst hbytes HB hnm hgh hleft hk hlt
      have hLn : L.length ≤ 16 := by omega
      generalize hLL : L.length = LL at *
      clear eap ok emax hln hrise hpc hPN
      go_wp2
      clear xc1 xf1
      generalize wr.setCell ⟨b, 1, none⟩ (.slice none 0 0) = w3 at *
      go_loopg [10, 11, 60] LL (fun gh _ _ s60 wq => ∃ k : Nat, LL - k ≤ gh ∧ k ≤ LL ∧ s60 = .int .i64 (k : Int) ∧ Aside (Rep wq B b ⟨cutUpto L k, [], d.vf, .slice none 0 0, d.room, d.fused, d.fuse, d.down⟩ ∧ Step (d.foot b) (Ds.foot b ⟨cutUpto L k, [], d.vf, .slice none 0 0, d.room, d.fused, d.fuse, d.down⟩) w wq))
      case atStart => exact ⟨0, by omega, by omega, rfl, (by simpa [cutUpto] using N0.out : Rep w3 B b ⟨cutUpto L 0, [], d.vf, .slice none 0 0, d.room, d.fused, d.fuse, d.down⟩ ∧ Step (d.foot b) (Ds.foot b ⟨cutUpto L 0, [], d.vf, .slice none 0 0, d.room, d.fused, d.fuse, d.down⟩) w w3)⟩
      case round =>
        obtain ⟨k2, hgh, hk2, rfl, R⟩ := hrel
        by_cases hlt : k2 < LL
        · have d4 : decide (k2 < LL) = true := by simpa using hlt
          have hfk := getbang L k2 (by omega)
          obtain ⟨hs1, hs2⟩ := hsure.out _ (List.mem_of_getElem? hfk)
          obtain ⟨hcu, hcn⟩ := cutUpto_next hfk
          have hdl := cutUpto_len L k2
          generalize L[k2]! = f at *
          obtain ⟨g, cap, ev, hcap, hcm, hg⟩ := R.out.1.vf_form hcu
          dsimp only at ev hg hcap
          rw [hdl, hLL] at ev hcap
          rw [eaf] at ev
          injection ev with ev1 ev2 ev3
          subst ev1 ev3
          clear ev2
          obtain ⟨y0, y1, y2⟩ := R.out.1.fcells hcu hg
          obtain ⟨av, cv, eav⟩ := own_any (R.out.1.rows _ (List.mem_of_getElem? hcu))
          have hav : f.bytes.length ≤ cv ∧ cv ≤ 9223372036854775807 ∧ (av = none → cv = 0) := by
            rcases (R.out.1.rows _ (List.mem_of_getElem? hcu)).2 with ⟨e, e'⟩ | ⟨g', cap', cur, e, _, _, h3, h4, _⟩
            · rw [eav] at e
              injection e with e1 e2 e3
              omega
            · rw [eav] at e
              injection e with e1 e2 e3
              subst e3
              refine ⟨h3, by unfold maxLen at h4; omega, fun e => ?_⟩
              rw [e] at e1
              cases e1
          obtain ⟨hv1, hv2, hv3⟩ := hav
          have hsc : f.sure ≤ cv := by omega
          have x0 := R.out.1.c0
          dsimp only at x0
          rw [eaf] at x0
          have hbA : ∀ o : Obj, Below wr.heap.size wr (wr.alloc o) := fun o => (Below.refl _ _).alloc (Nat.le_refl _) o
          have x0A : ∀ o : Obj, (wr.alloc o).cell? ⟨b, 0, none⟩ = some (.slice (some ⟨g, 0, none⟩) LL cf) := fun o => cell_below x0 (hbA o)
          have y1A : ∀ o : Obj, (wr.alloc o).cell? ⟨g, k2 * 3 + 1, none⟩ = some (.slice av f.bytes.length cv) := fun o => by rw [← eav]; exact cell_below y1 (hbA o)
          have yf : ∀ o : Obj, (wr.alloc o).frozen? ⟨g, k2 * 3 + 1, none⟩ = false := fun o => own_frozen (R.out.1.below (hbA o)).tab hg _
          have n1 : ¬ b = wr.heap.size := by have := R.out.1.b_lt; omega
          have n2 : ¬ g = wr.heap.size := by have := (R.out.1.tab.lt g hg).2; omega
          have n1' : ¬ wr.heap.size = b := fun e => n1 e.symm
          have n2' : ¬ wr.heap.size = g := fun e => n2 e.symm
          have RN : Aside (∀ o : Obj, Rep ((wr.alloc o).setCell ⟨g, k2 * 3 + 1, none⟩ (.slice av f.sure cv)) B b ⟨cutUpto L (k2 + 1), [], d.vf, .slice none 0 0, d.room, d.fused, d.fuse, d.down⟩ ∧ Step (d.foot b) (Ds.foot b ⟨cutUpto L (k2 + 1), [], d.vf, .slice none 0 0, d.room, d.fused, d.fuse, d.down⟩) w ((wr.alloc o).setCell ⟨g, k2 * 3 + 1, none⟩ (.slice av f.sure cv))) := fun o => by
            have hh := (R.out.1.below (hbA o)).setCut hcu hg hs1
            rw [eav] at hh
            rw [hcn]
            refine ⟨hh.1, (R.out.2.trans (Step.ofBelow (hbA o))).trans ?_⟩
            have e : Ds.foot b ⟨(cutUpto L k2).set k2 (cutF f), [], d.vf, .slice none 0 0, d.room, d.fused, d.fuse, d.down⟩ = Ds.foot b ⟨cutUpto L k2, [], d.vf, .slice none 0 0, d.room, d.fused, d.fuse, d.down⟩ := by
              unfold Ds.foot
              simp only
              rw [flatMap_set_same (fun f => ob f.v) (cutUpto L k2) k2 f (cutF f) hcu (ob_eq (own_cutV (R.out.1.rows _ (List.mem_of_getElem? hcu)) f.sure hs1).2)]
            rw [e]
            exact hh.2
          rw [eav] at y1
          clear R hsure hgoal N0 hcu hcn hfk eaf eav hg
          cases av with
          | none =>
            obtain rfl := hv3 rfl
            have z0 : f.sure = 0 := by omega
            have z1 : f.bytes.length = 0 := by omega
            generalize f.sure = fs at *
            generalize f.bytes.length = fl at *
            subst z0 z1
            go_wp2
            go_region
            all_goals
              go_wp2
              go_roundg (LL - (k2 + 1))
              case measure => omega
              case rel => exact ⟨k2 + 1, Nat.le_refl _, by omega, by go_num, ⟨(RN.out _).1.drew, (RN.out _).2.drew⟩⟩
          | some ad =>
            go_wp2
            go_region
            all_goals
              go_wp2
              go_roundg (LL - (k2 + 1))
              case measure => omega
              case rel => exact ⟨k2 + 1, Nat.le_refl _, by omega, by go_num, ⟨(RN.out _).1.drew, (RN.out _).2.drew⟩⟩
        · obtain rfl : k2 = LL := by omega
          have d4 : decide (k2 < k2) = false := by simp
          have x3 := R.out.1.c3
          have x4 := R.out.1.c4
          have x5 := R.out.1.c5
          have f3 := R.out.1.fz 3
          have f4 := R.out.1.fz 4
          have f5 := R.out.1.fz 5
          have hall : Aside (cutUpto L k2 = L.map cutF) := by
            show _ = _
            rw [← hLL]
            exact cutUpto_all L
          clear hsure N0 hLL
          go_wp2
          go_end0
          refine ⟨rfl, ⟨cutUpto L k2, [], d.vf, .slice none 0 0, d.room, false, 0, false⟩, R.out.1.scal rfl rfl rfl rfl (set_same (set_same (set_same R.out.1.blk rfl) rfl) rfl) (fun k hk => (Below.heap_setCell _ _ _ _ hk).trans ((Below.heap_setCell _ _ _ _ hk).trans (Below.heap_setCell _ _ _ _ hk))), ?_, R.out.2.trans (((Step.setb _ foot_b _ _).trans (Step.setb _ foot_b _ _)).trans (Step.setb _ foot_b _ _))⟩
          rw [hall.out]
          unfold Ds.pl
          simp only
          rw [cutF_pl, hgoal.out]
end Go.Proofs.YtajjcfacbnicnaaGreatDoor.Dk

/-
  The document's disk: Append, whatever comes.
-/
namespace Go.Proofs.YtajjcfacbnicnaaGreatDoor.Dk
open Go.RowKit
set_option maxRecDepth 100000

theorem rappend_early {w : World} {B b : Nat} {d : Rs} (h : RRep w B b d) (ok : ROk d.pl) (n x : ByteArray) (hns : n.size ≤ 1000) (hq : d.pl.power = false ∨ mayBe n = false) :
    Calls Tryz.prog 34 #[.pointer (some ⟨b, 0, none⟩), .string n, .string x] w fun e w' => e = .returned (.int .i64 (if d.pl.power then 1 else 12)) ∧ ∃ d', RRep w' B b d' ∧ d'.pl = d.pl.spent ∧ Step (d.foot b) (d'.foot b) w w' := by
  have kp := rpower_any h ok.left
  have km := right_any n (by omega)
  clear h ok
  cases hp : d.pl.power with
  | false =>
    rw [hp] at kp
    go_enter Tryz.func34, Tryz.ntmps34
    go_wp2_with (go_at_call 76; refine kp.mono ?_; rintro e w1 ⟨rfl, d1, h1, p1, f1, g1, s1⟩)
    go_ret
    exact ⟨rfl, d1, h1, p1, g1 ▸ s1⟩
  | true =>
    rw [hp] at kp hq
    rcases hq with hq | hq
    · cases hq
    · rw [hq] at km
      go_enter Tryz.func34, Tryz.ntmps34
      go_wp2_with (first
        | (go_at_call 76; refine kp.mono ?_; rintro e w1 ⟨rfl, d1, h1, p1, f1, g1, s1⟩)
        | (go_at_call 77; refine (km _).mono ?_; rintro e w1' ⟨rfl, rfl⟩))
      go_ret
      exact ⟨rfl, d1, h1, p1, g1 ▸ s1⟩

theorem rappend_any {w : World} {B b : Nat} {d : Rs} (h : RRep w B b d) (ok : ROk d.pl) (hr : Rising d.names) (n x : ByteArray) (hns : n.size ≤ 1000) (hxs : x.size ≤ 1000) (hcnt : d.count ≤ 900000) :
    Calls Tryz.prog 34 #[.pointer (some ⟨b, 0, none⟩), .string n, .string x] w fun e w' => e = .returned (.int .i64 (rAppend d.pl n x).1) ∧ ∃ d', RRep w' B b d' ∧ d'.pl = (rAppend d.pl n x).2 ∧ Step (d.foot b) (d'.foot b) w w' := by
  have hl : d.pl.files.length = d.files.length := by simp [Rs.pl]
  have hm0 : d.pl.most = d.most := rfl
  unfold rAppend RS.full
  rw [rnames_pl, hl, hm0]
  cases hp : d.pl.power with
  | false =>
    refine (rappend_early h ok n x hns (.inl hp)).mono ?_
    rintro e w' ⟨rfl, h1⟩
    rw [hp]
    exact ⟨rfl, h1⟩
  | true =>
    cases hm : mayBe n with
    | false =>
      refine (rappend_early h ok n x hns (.inr hm)).mono ?_
      rintro e w' ⟨rfl, h1⟩
      rw [hp]
      exact ⟨rfl, h1⟩
    | true =>
      simp only [if_true]
      by_cases hf : d.most < d.pl.used + x.size
      · have hc : ((!has d.names n && decide (16 ≤ d.files.length)) || decide (d.most < d.pl.used + x.size)) = true := by simp [hf]
        rw [hc]
        simp only [if_true]
        cases hh : has d.names n with
        | true => exact rappend_fullB h ok hr n x hns hxs hcnt hp hm hh hf
        | false =>
          by_cases hN : 16 ≤ d.files.length
          · exact rappend_fullC h ok hr n x hns hxs hcnt hp hm hh hN
          · exact rappend_fullE h ok hr n x hns hxs hcnt hp hm hh hN hf
      · cases hh : has d.names n with
        | true =>
          have hc : ((!true && decide (16 ≤ d.files.length)) || decide (d.most < d.pl.used + x.size)) = false := by simp [hf]
          rw [hc]
          simp only [Bool.false_eq_true, if_false]
          exact rappend_there h ok hr n x hns hxs hcnt hp hm hh hf
        | false =>
          by_cases hN : 16 ≤ d.files.length
          · have hc : ((!false && decide (16 ≤ d.files.length)) || decide (d.most < d.pl.used + x.size)) = true := by simp [hN]
            rw [hc]
            simp only [if_true]
            exact rappend_fullC h ok hr n x hns hxs hcnt hp hm hh hN
          · have hc : ((!false && decide (16 ≤ d.files.length)) || decide (d.most < d.pl.used + x.size)) = false := by simp [hf, hN]
            rw [hc]
            simp only [Bool.false_eq_true, if_false]
            exact rappend_new h ok hr n x hns hxs hcnt hp hm hh hN hf
end Go.Proofs.YtajjcfacbnicnaaGreatDoor.Dk

/-
  Rot: bits of a sure byte are turned.
-/
namespace Go.Proofs.YtajjcfacbnicnaaGreatDoor.Dk
open Go.RowKit
set_option maxRecDepth 100000

theorem rot_false {w : World} {B b : Nat} {d : Ds} (h : Rep w B b d) (ok : Ok d.pl) (file at_ by_ : Int) (hq : (opRot d.pl file at_ by_).1 = false) :
    Calls Tryz.prog 28 #[.pointer (some ⟨b, 0, none⟩), .int .i64 file, .int .i64 at_, .int .i64 by_] w fun e w' => e = .returned (.bool false) ∧ w' = w := by
  have c0 := h.c0
  obtain ⟨av, cv, ev⟩ := own_any h.tab
  rw [ev] at c0
  have hfew := ok.dfew
  by_cases h1 : file < 0
  · have d1 : decide (file < 0) = true := decide_eq_true h1
    go_enter Tryz.func28, Tryz.ntmps28
    go_wp2
    go_ret
    exact ⟨rfl, rfl⟩
  · have d1 : decide (file < 0) = false := decide_eq_false h1
    obtain ⟨i, rfl⟩ : ∃ i : Nat, file = i := ⟨file.toNat, by omega⟩
    by_cases h2 : d.files.length ≤ i
    · have d2 : decide ((d.files.length : Int) ≤ (i : Int)) = true := decide_eq_true (by omega)
      clear h ev hq
      generalize d.files.length = N at *
      go_enter Tryz.func28, Tryz.ntmps28
      go_wp2
      go_ret
      exact ⟨rfl, rfl⟩
    · have d2 : decide ((d.files.length : Int) ≤ (i : Int)) = false := decide_eq_false (by omega)
      by_cases h3 : at_ < 0
      · have d3 : decide (at_ < 0) = true := decide_eq_true h3
        clear h ev hq
        generalize d.files.length = N at *
        go_enter Tryz.func28, Tryz.ntmps28
        go_wp2
        go_ret
        exact ⟨rfl, rfl⟩
      · have d3 : decide (at_ < 0) = false := decide_eq_false h3
        have hf := getbang d.files i (by omega)
        obtain ⟨g, cap, ev2, _, _, hg⟩ := h.vf_form hf
        obtain ⟨_, _, e2⟩ := h.fcells hf hg
        have hsure : ¬ at_ < (d.files[i]!.sure : Int) := fun hlt => by
          unfold opRot at hq
          rw [if_pos ⟨by omega, by omega⟩, Int.toNat_natCast, pl_get hf] at hq
          simp only at hq
          rw [if_pos (show at_ < ((d.files[i]!).pl.sure : Int) from hlt)] at hq
          cases hq
        have d4 : decide (((d.files[i]!).sure : Int) ≤ at_) = true := decide_eq_true (by omega)
        rw [ev] at ev2
        injection ev2 with x1 x2 x3
        subst x1
        generalize d.files[i]! = f at *
        clear h ev hq hf hg x2 x3 hsure ok
        generalize d.files.length = N at *
        go_enter Tryz.func28, Tryz.ntmps28
        go_wp2
        go_ret
        exact ⟨rfl, rfl⟩

theorem xor_u8 (a b : Nat) (ha : a < 256) (hb : b < 256) : bits BinOp.xor IntKind.u8 (a : Int) (b : Int) = ((a ^^^ b : Nat) : Int) := by
  have hx : a ^^^ b < 2 ^ 8 := Nat.xor_lt_two_pow (by omega) (by omega)
  have h1 : (BitVec.ofInt 8 (a : Int)).toNat = a := by
    rw [BitVec.ofInt_natCast, BitVec.toNat_ofNat]; exact Nat.mod_eq_of_lt (by omega)
  have h2 : (BitVec.ofInt 8 (b : Int)).toNat = b := by
    rw [BitVec.ofInt_natCast, BitVec.toNat_ofNat]; exact Nat.mod_eq_of_lt (by omega)
  show IntKind.u8.wrap ((BitVec.ofInt 8 (a : Int) ^^^ BitVec.ofInt 8 (b : Int)).toNat : Int) = _
  rw [BitVec.toNat_xor, h1, h2, IntKind.wrap_u8]
  omega

/-- A byte is turned by a number. -/
theorem xor_by (x : UInt8) (n : Int) : bits BinOp.xor IntKind.u8 (x.toNat : Int) (n % 256) = ((x ^^^ UInt8.ofNat (n % 256).toNat).toNat : Int) := by
  have h0 : 0 ≤ n % 256 ∧ n % 256 < 256 := by omega
  have e : n % 256 = (((n % 256).toNat : Nat) : Int) := by omega
  have hx := x.toNat_lt
  rw [e, xor_u8 _ _ (by omega) (by omega)]
  congr 1
  rw [UInt8.toNat_xor]
  congr 1
  simp
  omega

theorem Rep.setByte {w : World} {B b gb i j : Nat} {d : Ds} {f : Fv} (h : Rep w B b d) (hf : d.files[i]? = some f) (hgb : f.v.ownBlock = some gb) (hj : j < f.bytes.length) (x : UInt8) :
    Rep (w.setCell ⟨gb, j, none⟩ (.int .u8 (x.toNat : Int))) B b { d with files := d.files.set i ⟨f.name, f.bytes.set j x, f.sure, f.v⟩ } ∧ Step (d.foot b) (Ds.foot b { d with files := d.files.set i ⟨f.name, f.bytes.set j x, f.sure, f.v⟩ }) w (w.setCell ⟨gb, j, none⟩ (.int .u8 (x.toNat : Int))) := by
  have hm : f ∈ d.files := List.mem_of_getElem? hf
  have keep : ∀ k, k ≠ gb → (w.setCell ⟨gb, j, none⟩ (.int .u8 (x.toNat : Int))).heap[k]? = w.heap[k]? := fun k hk => Below.heap_setCell w ⟨gb, j, none⟩ _ k hk
  have hfo : Ds.foot b { d with files := d.files.set i ⟨f.name, f.bytes.set j x, f.sure, f.v⟩ } = d.foot b := by
    unfold Ds.foot
    simp only
    rw [flatMap_set_same (fun f => ob f.v) d.files i f ⟨f.name, f.bytes.set j x, f.sure, f.v⟩ hf rfl]
  obtain ⟨A, C, e1, e2, _⟩ := split_at hf (⟨f.name, f.bytes.set j x, f.sure, f.v⟩ : Fv)
  have hn0 := h.nodup
  rw [show d.foot b = ([b] ++ ob d.vf ++ ob d.vp ++ A.flatMap (fun f => ob f.v)) ++ (ob f.v ++ C.flatMap fun f => ob f.v) by unfold Ds.foot; rw [e1]; simp] at hn0
  have hAC : ∀ y, y ∈ A ∨ y ∈ C → y.v.ownBlock ≠ some gb := by
    intro y hy hk
    rcases hy with hy | hy
    · exact (List.nodup_append.1 hn0).2.2 gb (List.mem_append_right _ (List.mem_flatMap.2 ⟨y, hy, mem_ob.2 hk⟩)) gb (List.mem_append_left _ (mem_ob.2 hgb)) rfl
    · exact app_ne (List.nodup_append.1 hn0).2.1 (mem_ob.2 hgb) (List.mem_flatMap.2 ⟨y, hy, mem_ob.2 hk⟩)
  have hin : ∀ y, y ∈ A ∨ y ∈ C → y ∈ d.files := fun y hy => by
    rw [e1]
    rcases hy with hy | hy
    · exact List.mem_append_left _ hy
    · exact List.mem_append_right _ (List.mem_cons_of_mem _ hy)
  refine ⟨⟨h.ge, (keep b (fun e => h.b_f hm hgb e.symm)).trans h.blk, ?_, own_frame h.pcs fun k hk => keep k (fun e => h.vp_f hm (e ▸ hk) hgb), ?_, by rw [hfo]; exact h.nodup⟩, ?_⟩
  · simp only [List.length_set]
    rw [flatMap_set_same Fv.cells d.files i f ⟨f.name, f.bytes.set j x, f.sure, f.v⟩ hf rfl]
    exact own_frame h.tab fun k hk => keep k (fun e => h.vf_f hm (e ▸ hk) hgb)
  · intro y hy
    simp only at hy
    rw [e2] at hy
    have : y = ⟨f.name, f.bytes.set j x, f.sure, f.v⟩ ∨ (y ∈ A ∨ y ∈ C) := by
      rcases List.mem_append.1 hy with hy | hy
      · exact .inr (.inl hy)
      · rcases List.mem_cons.1 hy with hy | hy
        · exact .inl hy
        · exact .inr (.inr hy)
    rcases this with rfl | hy
    · have := own_set (h.rows f hm) hgb j (by omega) (.int .u8 (x.toNat : Int))
      simp only [List.length_set]
      rw [show bcells (f.bytes.set j x) = (bcells f.bytes).set j (.int .u8 (x.toNat : Int)) by simp [bcells, List.map_set]]
      exact this
    · exact own_frame (h.rows y (hin y hy)) fun k hk => keep k (fun e => hAC y hy (e ▸ hk))
  · rw [hfo]
    exact Step.setb w (foot_f hm hgb) j _

theorem rot_any {w : World} {B b : Nat} {d : Ds} (h : Rep w B b d) (ok : Ok d.pl) (file at_ by_ : Int) :
    Calls Tryz.prog 28 #[.pointer (some ⟨b, 0, none⟩), .int .i64 file, .int .i64 at_, .int .i64 by_] w fun e w' => e = .returned (.bool (opRot d.pl file at_ by_).1) ∧ ∃ d', Rep w' B b d' ∧ d'.pl = (opRot d.pl file at_ by_).2 ∧ Step (d.foot b) (d'.foot b) w w' := by
  by_cases hq : (opRot d.pl file at_ by_).1 = false
  · have h2 : (opRot d.pl file at_ by_).2 = d.pl := by
      unfold opRot at hq ⊢
      split at hq
      · split at hq
        · split at hq
          · cases hq
          · rename_i h1 _ _ h3 h4
            rw [if_pos h1]
            rw [if_neg h4]
        · rename_i h1 _ h3
          rw [if_pos h1]
      · rename_i h1
        rw [if_neg h1]
    refine (rot_false h ok file at_ by_ hq).mono ?_
    rintro e w' ⟨rfl, rfl⟩
    exact ⟨by rw [hq], d, h, h2.symm, Step.refl _ _⟩
  · have hq' : (opRot d.pl file at_ by_).1 = true := by simpa using hq
    unfold opRot at hq' ⊢
    by_cases h1 : 0 ≤ file ∧ 0 ≤ at_
    · rw [if_pos h1] at hq' ⊢
      obtain ⟨i, rfl⟩ : ∃ i : Nat, file = i := ⟨file.toNat, by omega⟩
      obtain ⟨j, rfl⟩ : ∃ j : Nat, at_ = j := ⟨at_.toNat, by omega⟩
      rw [Int.toNat_natCast, Int.toNat_natCast] at hq' ⊢
      by_cases hi : i < d.files.length
      · have hf := getbang d.files i hi
        rw [pl_get hf] at hq' ⊢
        simp only at hq' ⊢
        by_cases hs : (j : Int) < ((d.files[i]!).pl.sure : Int)
        · rw [if_pos hs] at hq' ⊢
          have hs' : j < (d.files[i]!).sure := by have : ((d.files[i]!).pl.sure) = (d.files[i]!).sure := rfl; omega
          have hfm := List.mem_of_getElem? hf
          have hsl : (d.files[i]!).sure ≤ (d.files[i]!).bytes.length := ok.sure (f := (d.files[i]!).pl) (List.mem_map.2 ⟨_, hfm, rfl⟩)
          obtain ⟨g, cap, ev, hcap, _, hg⟩ := h.vf_form hf
          obtain ⟨_, y1, y2⟩ := h.fcells hf hg
          obtain ⟨gb, cb, eb, hcb, _, hgb⟩ := own_form (h.rows _ hfm) (by omega)
          have c0 := h.c0
          rw [ev] at c0
          rw [eb] at y1
          have hjl : j < (d.files[i]!).bytes.length := by omega
          have yb : w.cell? ⟨gb, j, none⟩ = some (.int .u8 (((d.files[i]!).bytes[j]!).toNat : Int)) := own_cell (h.rows _ hfm) hgb (by
            unfold bcells
            rw [List.getElem?_map, getbang _ j hjl]
            rfl)
          have yf := own_frozen (h.rows _ hfm) hgb j
          have SB : Aside _ := h.setByte hf hgb hjl (((d.files[i]!).bytes[j]!) ^^^ UInt8.ofNat (by_ % 256).toNat)
          have PL : Aside (∀ x : UInt8, Ds.pl { d with files := d.files.set i ⟨(d.files[i]!).name, (d.files[i]!).bytes.set j x, (d.files[i]!).sure, (d.files[i]!).v⟩ } = { d.pl with files := d.pl.files.set i ⟨(d.files[i]!).pl.name, (d.files[i]!).pl.bytes.set j x, (d.files[i]!).pl.sure⟩ }) := fun x => by
            simp only [Ds.pl, List.map_set]
            rfl
          have hx := xor_by ((d.files[i]!).bytes[j]!) by_
          have hfew := ok.dfew
          rw [← hx] at SB
          have d1 : decide (((i : Nat) : Int) < 0) = false := decide_eq_false (by omega)
          have d2 : decide ((d.files.length : Int) ≤ (i : Int)) = false := decide_eq_false (by omega)
          have d3 : decide (((j : Nat) : Int) < 0) = false := decide_eq_false (by omega)
          have d4 : decide (((d.files[i]!).sure : Int) ≤ (j : Int)) = false := decide_eq_false (by omega)
          have d2' : decide (d.files.length ≤ i) = false := decide_eq_false (by omega)
          have d4' : decide ((d.files[i]!).sure ≤ j) = false := decide_eq_false (by omega)
          have hpl : Ds.pl ({ d with files := d.files.set i ⟨(d.files[i]!).name, (d.files[i]!).bytes.set j ((d.files[i]!).bytes[j]! ^^^ UInt8.ofNat (by_ % 256).toNat), (d.files[i]!).sure, (d.files[i]!).v⟩ } : Ds) = { d.pl with files := d.pl.files.set i ⟨(d.files[i]!).pl.name, (d.files[i]!).pl.bytes.set j ((d.files[i]!).pl.bytes[j]! ^^^ UInt8.ofNat (by_ % 256).toNat), (d.files[i]!).pl.sure⟩ } := PL.out _
          rw [← hpl]
          obtain ⟨DD, hDD⟩ : ∃ DD : Ds, ({ d with files := d.files.set i ⟨(d.files[i]!).name, (d.files[i]!).bytes.set j ((d.files[i]!).bytes[j]! ^^^ UInt8.ofNat (by_ % 256).toNat), (d.files[i]!).sure, (d.files[i]!).v⟩ } : Ds) = DD := ⟨_, rfl⟩
          rw [hDD] at SB ⊢
          clear hq hq' h ev eb hgb hg hf hfm ok hsl hx hs h1 PL hpl hDD
          generalize d.files[i]! = f at *
          generalize f.bytes[j]! = y at *
          generalize hN : d.files.length = N at *
          go_enter Tryz.func28, Tryz.ntmps28
          go_wp2
          go_ret
          exact ⟨rfl, DD, SB.out.1, rfl, SB.out.2⟩
        · rw [if_neg hs] at hq'
          cases hq'
      · rw [List.getElem?_eq_none (by simp [Ds.pl]; omega)] at hq'
        cases hq'
    · rw [if_neg h1] at hq'
      cases hq'
end Go.Proofs.YtajjcfacbnicnaaGreatDoor.Dk
