/-
  YtajjcfacbnicnaaGreatDoor: the texts DX17, DP13, one behind the other.
-/
import Derived.Test.YtajjcfacbnicnaaGreatDoorV13
/-
  Crash.
-/
namespace Go.Proofs.YtajjcfacbnicnaaGreatDoor.Dk
open Go.RowKit
set_option maxRecDepth 100000

theorem lasts_cons (l : List F) (p : Pc) (r : List Pc) (left : Nat) : lasts l (p :: r) left = lasts (surer l p.name (min p.size left)) r (left - min p.size left) := rfl

theorem surerV_b (l : List Fv) (n : ByteArray) (k : Nat) : (surerV l n k).map Fv.bytes = l.map Fv.bytes := by
  unfold surerV
  rw [List.map_map]
  refine List.map_congr_left fun f _ => ?_
  show Fv.bytes (if _ then _ else _) = _
  split <;> rfl

theorem Step.drew {a c : List Nat} {u w : World} (h : Step a c u w) : Step a c u w.drew := ⟨h.os, h.tape, h.output, h.size, h.block, h.sub⟩

/-- Behind so many pieces. -/
structure Mid (w0 w : World) (B b : Nat) (d : Ds) (L : List Fv) (k : Nat) (goal : List F) (left : Nat) : Prop where
  rep : Rep w B b { d with files := L }
  step : Step (d.foot b) (d.foot b) w0 w
  names : L.map Fv.name = d.files.map Fv.name
  vs : L.map Fv.v = d.files.map Fv.v
  bts : L.map Fv.bytes = d.files.map Fv.bytes
  goal : lasts (L.map Fv.pl) (d.pieces.drop k) left = goal
  bound : ∀ f ∈ L, f.sure + wait f.name (d.pieces.drop k) ≤ f.bytes.length

theorem mem_surerV {l : List Fv} {n : ByteArray} {m : Nat} {x : Fv} (h : x ∈ surerV l n m) : ∃ f ∈ l, x = if cmp f.name n = 0 then ⟨f.name, f.bytes, f.sure + m, f.v⟩ else f := by
  obtain ⟨f, hf, e⟩ := List.mem_map.1 h
  exact ⟨f, hf, e.symm⟩

theorem Mid.next {w0 w w' : World} {B b g i k left : Nat} {d : Ds} {L : List Fv} {goal : List F} {f : Fv} {p : Pc} (h : Mid w0 w B b d L k goal left) (hb : Below w.heap.size w w') (hr : (d.files.map Fv.name).Nodup) (hp : d.pieces[k]? = some p) (hf : L[i]? = some f) (hn : f.name = p.name) (hg : d.vf.ownBlock = some g) :
    Mid w0 (w'.setCell ⟨g, i * 3 + 2, none⟩ (.int .i64 ((f.sure + min p.size left : Nat) : Int))) B b d (surerV L p.name (min p.size left)) (k + 1) goal (left - min p.size left) := by
  have hk : k < d.pieces.length := (List.getElem?_eq_some_iff.1 hp).1
  have hd : d.pieces.drop k = p :: d.pieces.drop (k + 1) := by rw [List.drop_eq_getElem_cons hk, (List.getElem?_eq_some_iff.1 hp).2]
  have hs := surerV_set (k := min p.size left) (by rw [h.names]; exact hr) hf hn
  have hR := (h.rep.below hb).setSure hf hg (f.sure + min p.size left)
  rw [foot_same h.vs] at hR
  refine ⟨by rw [hs]; exact hR.1, (h.step.trans (Step.ofBelow hb)).trans hR.2, (surerV_names _ _ _).trans h.names, (surerV_v _ _ _).trans h.vs, (surerV_b _ _ _).trans h.bts, ?_, ?_⟩
  · rw [← h.goal, hd, lasts_cons, surerV_pl]
  · intro x hx
    obtain ⟨y, hy, e⟩ := mem_surerV hx
    have := h.bound y hy
    rw [hd] at this
    by_cases hc : cmp y.name p.name = 0
    · rw [if_pos hc] at e
      rw [wait_pos (cmp_zero.1 hc).symm] at this
      rw [e]
      show y.sure + min p.size left + wait y.name _ ≤ y.bytes.length
      omega
    · rw [if_neg hc] at e
      rw [wait_neg (fun e => hc (by rw [e]; exact cmp_self _))] at this
      rw [e]
      exact this

set_option maxHeartbeats 4000000 in
theorem crash_any {w : World} {B b : Nat} {d : Ds} (h : Rep w B b d) (ok : Ok d.pl) (last : Int) (hlast : last ≤ 9223372036854775807) :
    Calls Tryz.prog 17 #[.pointer (some ⟨b, 0, none⟩), .int .i64 last] w fun e w' => e = .returned (.tuple #[]) ∧ ∃ d', Rep w' B b d' ∧ d'.pl = opCrash d.pl last ∧ Step (d.foot b) (d'.foot b) w w' := by
  have c1 := h.c1
  have hfew := ok.dfew
  have hpc := ok.dpieces
  have hrise := ok.rise
  have hbytes : Aside (∀ f ∈ d.files, f.bytes.length ≤ 60000) := fun f hf => ok.dbytes hf
  obtain ⟨ap, cp, eap⟩ := own_any h.pcs
  have hst : Aside (Mid w w B b d d.files 0 (lasts d.pl.files d.pl.pieces last.toNat) last.toNat) := ⟨h, Step.refl _ _, rfl, rfl, rfl, rfl, fun f hf => Nat.le_of_eq (ok.waits f.pl (List.mem_map.2 ⟨f, hf, rfl⟩))⟩
  have hnm : Aside (∀ t, t < d.pieces.length → d.pieces[t]!.name ∈ d.names) := fun t ht => by
    have := ok.named _ (List.mem_of_getElem? (getbang d.pieces t ht))
    rwa [names_pl] at this
  have HB : Aside (∀ L : List Fv, L.map Fv.name = d.files.map Fv.name → L.map Fv.v = d.files.map Fv.v → L.length = d.files.length) := fun L h1 _ => by have := congrArg List.length h1; simpa using this
  rw [eap] at c1
  have emax : max last 0 = ((last.toNat : Nat) : Int) := by omega
  have hln : last.toNat ≤ 9223372036854775807 := by omega
  unfold opCrash
  generalize hG : lasts d.pl.files d.pl.pieces last.toNat = GOAL at *
  generalize hLN : last.toNat = LN at *
  clear h hG hLN hlast
  generalize hPN : d.pieces.length = PN at *
  go_enter Tryz.func17, Tryz.ntmps17
  go_wp2
  go_loopg [4, 6, 7, 8, 9, 21] PN (fun gh s4 _ _ _ _ s21 wr => ∃ (k left : Nat) (L : List Fv), PN - k ≤ gh ∧ k ≤ PN ∧ s4 = .int .i64 (left : Int) ∧ left ≤ 9223372036854775807 ∧ s21 = .int .i64 (k : Int) ∧ Aside (Mid w wr B b d L k GOAL left))
  case atStart => exact ⟨0, LN, d.files, by omega, by omega, rfl, hln, rfl, hst⟩
  case round =>
    obtain ⟨k, left, L, hgh, hk, rfl, hleft, rfl, M⟩ := hrel
    by_cases hlt : k < PN
    · have d3 : decide (k < PN) = true := by simpa using hlt
      have hkp : k < d.pieces.length := by omega
      have hpk := getbang d.pieces k hkp
      have hmem := hnm.out k (by omega)
      obtain ⟨a1, c1', ev1, hrow⟩ := M.out.rep.prow
      obtain ⟨gp, ea1, e0, e1⟩ := hrow k hkp
      dsimp only at ev1 e0 e1
      rw [eap] at ev1
      injection ev1 with ev1 ev2 ev3
      subst ev1 ev3
      clear ev2
      subst ea1
      generalize hp : d.pieces[k]! = p at *
      have hL := HB.out L M.out.names M.out.vs
      have hRL : Rising (Ds.names { d with files := L }) := by show Rising (L.map Fv.name); rw [M.out.names]; exact hrise
      have hhas : has (Ds.names { d with files := L }) p.name = true := by rw [has_iff]; show p.name ∈ L.map Fv.name; rw [M.out.names]; exact hmem
      obtain ⟨f, hf, hfn, hfm⟩ := dhas_get (d := { d with files := L }) hRL hhas
      have kf : Aside (∀ u : World, Rep u B b { d with files := L } → _) := fun u hu => find_any hu hRL (show L.length ≤ 1000 by omega) p.name
      rw [hhas] at kf
      generalize hi : place (Ds.names { d with files := L }) p.name = i at *
      replace hf : L[i]? = some f := hf
      have hil : i < L.length := (List.getElem?_eq_some_iff.1 hf).1
      obtain ⟨g, cap, ev, hcap, hcm, hg⟩ := M.out.rep.vf_form hf
      have hbd := M.out.bound f hfm
      have hwp : wait f.name (d.pieces.drop k) = p.size + wait f.name (d.pieces.drop (k + 1)) := by
        rw [List.drop_eq_getElem_cons hkp, (List.getElem?_eq_some_iff.1 hpk).2]
        exact wait_pos hfn.symm
      have hfb : f.bytes.length ≤ 60000 := by
        have : f.bytes ∈ d.files.map Fv.bytes := by rw [← M.out.bts]; exact List.mem_map.2 ⟨f, hfm, rfl⟩
        obtain ⟨y, hy, e⟩ := List.mem_map.1 this
        rw [← e]
        exact hbytes.out y hy
      rw [hwp] at hbd
      obtain ⟨m, hm⟩ : ∃ m : Nat, m = min p.size left := ⟨_, rfl⟩
      have hml : m ≤ left ∧ m ≤ p.size := by omega
      have EM : Aside ((m : Int) = min (p.size : Int) (left : Int)) := (by omega : (m : Int) = min (p.size : Int) (left : Int))
      have HX : Aside (∀ u : World, Below wr.heap.size wr u → u.cell? ⟨b, 0, none⟩ = some (.slice (some ⟨g, 0, none⟩) L.length cap) ∧ u.cell? ⟨g, i * 3 + 2, none⟩ = some (.int .i64 (f.sure : Int)) ∧ u.frozen? ⟨g, i * 3 + 2, none⟩ = false) := fun u hu => by
        have hr := M.out.rep.below hu
        exact ⟨by rw [hr.c0]; exact congrArg some ev, (hr.fcells hf hg).2.2, own_frozen hr.tab hg _⟩
      have MN : Aside (∀ u : World, Below wr.heap.size wr u → Mid w (u.setCell ⟨g, i * 3 + 2, none⟩ (.int .i64 ((f.sure + m : Nat) : Int))) B b d (surerV L p.name m) (k + 1) GOAL (left - m)) := fun u hu => by
        rw [hm]
        exact M.out.next hu hrise.nodup hpk hf hfn hg
      have hbA : ∀ o : Obj, Below wr.heap.size wr (wr.alloc o) := fun o => (Below.refl _ _).alloc (Nat.le_refl _) o
      have MR : Aside (∀ o : Obj, Rep (wr.alloc o) B b { d with files := L }) := fun o => M.out.rep.below (hbA o)
      have hw1 : IntKind.i64.wrap ((left : Int) - (m : Int)) = (left : Int) - (m : Int) := by rw [IntKind.wrap_i64]; omega
      have hw2 : IntKind.i64.wrap ((f.sure : Int) + (m : Int)) = (f.sure : Int) + (m : Int) := by rw [IntKind.wrap_i64]; omega
      have hLn : L.length ≤ 16 := by omega
      rw [EM.out] at hw1 hw2
      have hml1 := hml.1
      clear hml
      clear hm hst hwp hhas hRL hmem hpk hf hfn hfm M hp hi ev hg hbd hrow
      go_wp2_with (go_at_call 54; refine (kf.out _ (MR.out _)).mono ?_; rintro e w2 ⟨rfl, hb2⟩; have hb3 := (hbA _).trans (hb2.mono (hbA _).size); obtain ⟨x0, x1, x2⟩ := HX.out _ hb3)
      go_roundg (PN - (k + 1))
      case measure => omega
      case rel => exact ⟨k + 1, left - m, surerV L p.name m, Nat.le_refl _, by omega, by rw [show ((left - m : Nat) : Int) = (left : Int) - (m : Int) by omega, EM.out], by omega, by go_num, by have := MN.out _ hb3; rwa [show ((f.sure + m : Nat) : Int) = (f.sure : Int) + (m : Int) by omega, EM.out] at this⟩
    · obtain rfl : k = PN := by omega
      have d3 : decide (k < k) = false := by simp
      have hgoal : Aside (L.map Fv.pl = GOAL) := by
        have := M.out.goal
        rw [List.drop_of_length_le (by omega)] at this
        exact this
      have hsure : Aside (∀ f ∈ L, f.sure ≤ f.bytes.length ∧ f.bytes.length ≤ 60000) := fun f hf => by
        refine ⟨by have := M.out.bound f hf; omega, ?_⟩
        have : f.bytes ∈ d.files.map Fv.bytes := by rw [← M.out.bts]; exact List.mem_map.2 ⟨f, hf, rfl⟩
        obtain ⟨y, hy, e⟩ := List.mem_map.1 this
        rw [← e]
        exact hbytes.out y hy
      have hL := HB.out L M.out.names M.out.vs
      have xc1 := M.out.rep.c1
      have xf1 := M.out.rep.fz 1
      have hN := M.out.rep.noPieces
      dsimp only at hN xc1
      obtain ⟨af, cf, eaf⟩ := own_any hN.1.tab
      have xc0 := hN.1.c0
      dsimp only at eaf xc0
      rw [eaf] at xc0
      rw [eap] at xc1
      have N0 : Aside (Rep (wr.setCell ⟨b, 1, none⟩ (.slice none 0 0)) B b ⟨L, [], d.vf, .slice none 0 0, d.room, d.fused, d.fuse, d.down⟩ ∧ Step (d.foot b) (Ds.foot b ⟨L, [], d.vf, .slice none 0 0, d.room, d.fused, d.fuse, d.down⟩) w (wr.setCell ⟨b, 1, none⟩ (.slice none 0 0))) := ⟨hN.1, by
        have := hN.2
        rw [show Ds.foot b ⟨L, d.pieces, d.vf, d.vp, d.room, d.fused, d.fuse, d.down⟩ = d.foot b from foot_same M.out.vs] at this
        exact M.out.step.trans this⟩
      clear hN M hst hbytes HB hnm hgh hleft hk hlt
      have hLn : L.length ≤ 16 := by omega
      generalize hLL : L.length = LL at *
      clear eap ok emax hln hrise hpc hPN
      go_wp2
      clear xc1 xf1
      generalize wr.setCell ⟨b, 1, none⟩ (.slice none 0 0) = w3 at *
      go_loopg [10, 11, 60] LL (fun gh _ _ s60 wq => ∃ k : Nat, LL - k ≤ gh ∧ k ≤ LL ∧ s60 = .int .i64 (k : Int) ∧ Aside (Rep wq B b ⟨cutUpto L k, [], d.vf, .slice none 0 0, d.room, d.fused, d.fuse, d.down⟩ ∧ Step (d.foot b) (Ds.foot b ⟨cutUpto L k, [], d.vf, .slice none 0 0, d.room, d.fused, d.fuse, d.down⟩) w wq))
      case atStart => exact ⟨0, by omega, by omega, rfl, (by simpa [cutUpto] using N0.out : Rep w3 B b ⟨cutUpto L 0, [], d.vf, .slice none 0 0, d.room, d.fused, d.fuse, d.down⟩ ∧ Step (d.foot b) (Ds.foot b ⟨cutUpto L 0, [], d.vf, .slice none 0 0, d.room, d.fused, d.fuse, d.down⟩) w w3)⟩
      case round =>
        obtain ⟨k2, hgh, hk2, rfl, R⟩ := hrel
        by_cases hlt : k2 < LL
        · have d4 : decide (k2 < LL) = true := by simpa using hlt
          have hfk := getbang L k2 (by omega)
          obtain ⟨hs1, hs2⟩ := hsure.out _ (List.mem_of_getElem? hfk)
          obtain ⟨hcu, hcn⟩ := cutUpto_next hfk
          have hdl := cutUpto_len L k2
          generalize L[k2]! = f at *
          obtain ⟨g, cap, ev, hcap, hcm, hg⟩ := R.out.1.vf_form hcu
          dsimp only at ev hg hcap
          rw [hdl, hLL] at ev hcap
          rw [eaf] at ev
          injection ev with ev1 ev2 ev3
          subst ev1 ev3
          clear ev2
          obtain ⟨y0, y1, y2⟩ := R.out.1.fcells hcu hg
          obtain ⟨av, cv, eav⟩ := own_any (R.out.1.rows _ (List.mem_of_getElem? hcu))
          have hav : f.bytes.length ≤ cv ∧ cv ≤ 9223372036854775807 ∧ (av = none → cv = 0) := by
            rcases (R.out.1.rows _ (List.mem_of_getElem? hcu)).2 with ⟨e, e'⟩ | ⟨g', cap', cur, e, _, _, h3, h4, _⟩
            · rw [eav] at e
              injection e with e1 e2 e3
              omega
            · rw [eav] at e
              injection e with e1 e2 e3
              subst e3
              refine ⟨h3, by unfold maxLen at h4; omega, fun e => ?_⟩
              rw [e] at e1
              cases e1
          obtain ⟨hv1, hv2, hv3⟩ := hav
          have hsc : f.sure ≤ cv := by omega
          have x0 := R.out.1.c0
          dsimp only at x0
          rw [eaf] at x0
          have hbA : ∀ o : Obj, Below wr.heap.size wr (wr.alloc o) := fun o => (Below.refl _ _).alloc (Nat.le_refl _) o
          have x0A : ∀ o : Obj, (wr.alloc o).cell? ⟨b, 0, none⟩ = some (.slice (some ⟨g, 0, none⟩) LL cf) := fun o => cell_below x0 (hbA o)
          have y1A : ∀ o : Obj, (wr.alloc o).cell? ⟨g, k2 * 3 + 1, none⟩ = some (.slice av f.bytes.length cv) := fun o => by rw [← eav]; exact cell_below y1 (hbA o)
          have yf : ∀ o : Obj, (wr.alloc o).frozen? ⟨g, k2 * 3 + 1, none⟩ = false := fun o => own_frozen (R.out.1.below (hbA o)).tab hg _
          have n1 : ¬ b = wr.heap.size := by have := R.out.1.b_lt; omega
          have n2 : ¬ g = wr.heap.size := by have := (R.out.1.tab.lt g hg).2; omega
          have n1' : ¬ wr.heap.size = b := fun e => n1 e.symm
          have n2' : ¬ wr.heap.size = g := fun e => n2 e.symm
          have RN : Aside (∀ o : Obj, Rep ((wr.alloc o).setCell ⟨g, k2 * 3 + 1, none⟩ (.slice av f.sure cv)) B b ⟨cutUpto L (k2 + 1), [], d.vf, .slice none 0 0, d.room, d.fused, d.fuse, d.down⟩ ∧ Step (d.foot b) (Ds.foot b ⟨cutUpto L (k2 + 1), [], d.vf, .slice none 0 0, d.room, d.fused, d.fuse, d.down⟩) w ((wr.alloc o).setCell ⟨g, k2 * 3 + 1, none⟩ (.slice av f.sure cv))) := fun o => by
            have hh := (R.out.1.below (hbA o)).setCut hcu hg hs1
            rw [eav] at hh
            rw [hcn]
            refine ⟨hh.1, (R.out.2.trans (Step.ofBelow (hbA o))).trans ?_⟩
            have e : Ds.foot b ⟨(cutUpto L k2).set k2 (cutF f), [], d.vf, .slice none 0 0, d.room, d.fused, d.fuse, d.down⟩ = Ds.foot b ⟨cutUpto L k2, [], d.vf, .slice none 0 0, d.room, d.fused, d.fuse, d.down⟩ := by
              unfold Ds.foot
              simp only
              rw [flatMap_set_same (fun f => ob f.v) (cutUpto L k2) k2 f (cutF f) hcu (ob_eq (own_cutV (R.out.1.rows _ (List.mem_of_getElem? hcu)) f.sure hs1).2)]
            rw [e]
            exact hh.2
          rw [eav] at y1
          clear R hsure hgoal N0 hcu hcn hfk eaf eav hg
          cases av with
          | none =>
            obtain rfl := hv3 rfl
            have z0 : f.sure = 0 := by omega
            have z1 : f.bytes.length = 0 := by omega
            generalize f.sure = fs at *
            generalize f.bytes.length = fl at *
            subst z0 z1
            go_wp2
            go_region
            all_goals
              go_wp2
              go_roundg (LL - (k2 + 1))
              case measure => omega
              case rel => exact ⟨k2 + 1, Nat.le_refl _, by omega, by go_num, ⟨(RN.out _).1.drew, (RN.out _).2.drew⟩⟩
          | some ad =>
            go_wp2
            go_region
            all_goals
              go_wp2
              go_roundg (LL - (k2 + 1))
              case measure => omega
              case rel => exact ⟨k2 + 1, Nat.le_refl _, by omega, by go_num, ⟨(RN.out _).1.drew, (RN.out _).2.drew⟩⟩
        · obtain rfl : k2 = LL := by omega
          have d4 : decide (k2 < k2) = false := by simp
          have x3 := R.out.1.c3
          have x4 := R.out.1.c4
          have x5 := R.out.1.c5
          have f3 := R.out.1.fz 3
          have f4 := R.out.1.fz 4
          have f5 := R.out.1.fz 5
          have hall : Aside (cutUpto L k2 = L.map cutF) := by
            show _ = _
            rw [← hLL]
            exact cutUpto_all L
          clear hsure N0 hLL
          go_wp2
          go_end0
          refine ⟨rfl, ⟨cutUpto L k2, [], d.vf, .slice none 0 0, d.room, false, 0, false⟩, R.out.1.scal rfl rfl rfl rfl (set_same (set_same (set_same R.out.1.blk rfl) rfl) rfl) (fun k hk => (Below.heap_setCell _ _ _ _ hk).trans ((Below.heap_setCell _ _ _ _ hk).trans (Below.heap_setCell _ _ _ _ hk))), ?_, R.out.2.trans (((Step.setb _ foot_b _ _).trans (Step.setb _ foot_b _ _)).trans (Step.setb _ foot_b _ _))⟩
          rw [hall.out]
          unfold Ds.pl
          simp only
          rw [cutF_pl, hgoal.out]
end Go.Proofs.YtajjcfacbnicnaaGreatDoor.Dk

/-
  The document's disk: Crash.
-/
namespace Go.Proofs.YtajjcfacbnicnaaGreatDoor.Dk
open Go.RowKit
set_option maxRecDepth 100000

/-- How many of a file's bytes last: up to the last one of which c holds. -/
def keepN (c : Nat → Bool) : List Nat → Nat → Nat → Nat
  | [], _, a => a
  | n :: r, p, a => keepN c r (p + 1) (if c n then p + 1 else a)
theorem keepN_snoc (c : Nat → Bool) : ∀ (l : List Nat) (n p a : Nat), keepN c (l ++ [n]) p a = if c n then p + l.length + 1 else keepN c l p a
  | [], n, p, a => by simp [keepN]
  | x :: r, n, p, a => by
    show keepN c (r ++ [n]) (p + 1) _ = _
    rw [keepN_snoc c r n (p + 1) _]
    split
    · simp; omega
    · rfl
theorem keepN_le (c : Nat → Bool) : ∀ (l : List Nat) (p a : Nat), a ≤ p → keepN c l p a ≤ p + l.length
  | [], p, a, h => by simpa [keepN] using h
  | x :: r, p, a, h => by
    show keepN c r (p + 1) _ ≤ _
    have := keepN_le c r (p + 1) (if c x then p + 1 else a) (by split <;> omega)
    simp; omega
def lastsC (l : List Nat) (last : Int) (n : Nat) : Bool := decide (n = 0) || decide ((rk l n : Int) < last)
def RS.all (s : RS) : List Nat := s.files.flatMap G.late
def G.crash (c : Nat → Bool) (f : G) : G := ⟨f.name, f.bytes.take (keepN c f.late 0 0), List.replicate (keepN c f.late 0 0) 0⟩
def rCrash (s : RS) (last : Int) : RS := { s with left := -1, down := false, files := s.files.map (G.crash (lastsC s.all last)) }

theorem all_pl (d : Rs) : d.pl.all = allG d.files := by
  unfold RS.all allG Rs.pl
  simp only [List.flatMap_map]
  rfl

theorem RRep.reborn {w : World} {B b : Nat} {d : Rs} (h : RRep w B b d) : RRep ((w.setCell ⟨b, 3, none⟩ (.int .i64 (-1))).setCell ⟨b, 4, none⟩ (.bool false)) B b { d with left := -1, down := false } ∧ Step (d.foot b) (d.foot b) w ((w.setCell ⟨b, 3, none⟩ (.int .i64 (-1))).setCell ⟨b, 4, none⟩ (.bool false)) := by
  refine ⟨h.scal rfl rfl ?_ ?_, (Step.setb w rfoot_b 3 _).trans (Step.setb _ rfoot_b 4 _)⟩
  · exact set_same (set_same h.blk rfl) rfl
  · intro k hk
    exact (Below.heap_setCell _ ⟨b, 4, none⟩ _ k hk).trans (Below.heap_setCell w ⟨b, 3, none⟩ _ k hk)

/-- The table of what lasts, of the files ahead of i; v: of file i. -/
def KeptIn (c : Nat → Bool) (l : List Gv) (K : List Nat) (i v : Nat) : Prop := K.length = l.length ∧ ∀ t, t < l.length → K[t]? = some (if t < i then keepN c l[t]!.late 0 0 else if t = i then v else 0)
theorem KeptIn.start (c : Nat → Bool) (l : List Gv) : KeptIn c l (List.replicate l.length 0) 0 0 := ⟨by simp, fun t ht => by
  rw [List.getElem?_replicate, if_pos ht]
  congr 1
  split
  · omega
  · split <;> rfl⟩
theorem KeptIn.set {c : Nat → Bool} {l : List Gv} {K : List Nat} {i v : Nat} (h : KeptIn c l K i v) (hi : i < l.length) (v' : Nat) : KeptIn c l (K.set i v') i v' := ⟨by rw [List.length_set]; exact h.1, fun t ht => by
  rw [List.getElem?_set]
  by_cases e : i = t
  · rw [if_pos e, if_pos (by rw [h.1]; omega), if_neg (by omega), if_pos e.symm]
  · rw [if_neg e, h.2 t ht]
    congr 1
    by_cases h2 : t < i
    · rw [if_pos h2, if_pos h2]
    · rw [if_neg h2, if_neg h2, if_neg (fun e' => e e'.symm), if_neg (fun e' => e e'.symm)]⟩
theorem KeptIn.next {c : Nat → Bool} {l : List Gv} {K : List Nat} {i : Nat} (h : KeptIn c l K i (keepN c l[i]!.late 0 0)) : KeptIn c l K (i + 1) 0 := ⟨h.1, fun t ht => by
  rw [h.2 t ht]
  congr 1
  by_cases h2 : t < i
  · rw [if_pos h2, if_pos (by omega)]
  · rw [if_neg h2]
    by_cases e : t = i
    · subst e
      rw [if_pos rfl, if_pos (by omega)]
    · rw [if_neg e, if_neg (by omega)]
      split <;> rfl⟩

theorem Tbl.other {w : World} {X Y : Nat} {L : List Nat} (h : Tbl w X L) (hne : X ≠ Y) (k : Nat) (v : Value) : Tbl (w.setCell ⟨Y, k, none⟩ v) X L := h.frame (Below.heap_setCell w ⟨Y, k, none⟩ v X hne)

/-- In the midst of it: the files ahead of i are cut. -/
structure CrM (w wr : World) (B b X : Nat) (d d1 : Rs) (c : Nat → Bool) (K : List Nat) (i : Nat) (dr : Rs) : Prop where
  rep : RRep wr B b dr
  tab : Tbl wr X K
  out : X ∉ dr.foot b
  step : Step (d.foot b) (dr.foot b) w wr
  len : dr.files.length = d.files.length
  rest : ∀ t, i ≤ t → dr.files[t]? = d.files[t]?
  pl : dr.pl = { d1.pl with files := (d.pl.files.take i).map (G.crash c) ++ d.pl.files.drop i }

theorem set_mid {α : Type} {A C : List α} {x y : α} {i : Nat} (h : A.length = i) : (A ++ x :: C).set i y = A ++ y :: C := by
  subst h
  simp

theorem CrM.next {w wr w' : World} {B b X i : Nat} {d d1 dr d2 : Rs} {c : Nat → Bool} {K : List Nat} {f f' : Gv} (h : CrM w wr B b X d d1 c K i dr) (hf : d.files[i]? = some f) (hr : RRep w' B b d2) (hd : d2 = { dr with files := dr.files.set i f' }) (he : f'.pl = G.crash c f.pl) (hs : Step (dr.foot b) (d2.foot b) wr w') : CrM w w' B b X d d1 c K (i + 1) d2 := by
  have hi : i < d.files.length := (List.getElem?_eq_some_iff.1 hf).1
  refine ⟨hr, h.tab.frame (hs.block X h.tab.lt h.out), fun hm => ?_, h.step.trans hs, by rw [hd]; show (dr.files.set i f').length = _; rw [List.length_set]; exact h.len, fun t ht => ?_, ?_⟩
  · rcases hs.sub X hm with e | e
    · exact h.out e
    · have := h.tab.lt
      omega
  · rw [hd]
    show (dr.files.set i f')[t]? = _
    rw [List.getElem?_set, if_neg (by omega)]
    exact h.rest t (by omega)
  · have hp := h.pl
    have hdrop : d.pl.files.drop i = f.pl :: d.pl.files.drop (i + 1) := by
      have hl : i < d.pl.files.length := by simpa [Rs.pl] using hi
      rw [List.drop_eq_getElem_cons hl]
      have := rpl_get hf
      rw [List.getElem?_eq_getElem hl] at this
      rw [Option.some.inj this]
    rw [hd]
    show (⟨(dr.files.set i f').map Gv.pl, dr.count, dr.most, dr.left, dr.down⟩ : RS) = _
    rw [List.map_set]
    have e1 : dr.files.map Gv.pl = (d.pl.files.take i).map (G.crash c) ++ d.pl.files.drop i := congrArg RS.files hp
    have hla : ((d.pl.files.take i).map (G.crash c)).length = i := by
      simp [Rs.pl]; omega
    rw [e1, hdrop, set_mid hla, he]
    have e2 : d.pl.files.take (i + 1) = d.pl.files.take i ++ [f.pl] := by
      rw [List.take_add_one, rpl_get hf]
      rfl
    rw [e2, List.map_append, List.append_assoc]
    have e3 : dr.count = d1.pl.count := congrArg RS.count hp
    have e4 : dr.most = d1.pl.most := congrArg RS.most hp
    have e5 : dr.left = d1.pl.left := congrArg RS.left hp
    have e6 : dr.down = d1.pl.down := congrArg RS.down hp
    rw [e3, e4, e5, e6]
    rfl

set_option maxHeartbeats 4000000 in
theorem rcrash_any {w : World} {B b : Nat} {d : Rs} (h : RRep w B b d) (ok : ROk d.pl) (last : Int) :
    Calls Tryz.prog 18 #[.pointer (some ⟨b, 0, none⟩), .int .i64 last] w fun e w' => e = .returned (.tuple #[]) ∧ ∃ d', RRep w' B b d' ∧ d'.pl = rCrash d.pl last ∧ Step (d.foot b) (d'.foot b) w w' := by
  obtain ⟨r1, s1⟩ := h.reborn
  have ok1 : ROk (Rs.pl { d with left := -1, down := false }) := ⟨ok.few, ok.most, by show (-1 : Int) ≤ _; omega, ok.used, ok.lates, ok.count, ok.small⟩
  have hfew : d.files.length ≤ 16 := by simpa [Rs.pl] using ok.few
  have hcnt : d.count ≤ 1000000 := ok.count
  have c3 := h.c3
  have c4 := h.c4
  have f3 := h.fz 3
  have f4 := h.fz 4
  have g4 : (w.setCell ⟨b, 3, none⟩ (.int .i64 (-1))).cell? ⟨b, 4, none⟩ = some (.bool d.down) := by rw [cell_of_row _ b 4 _ _ _ (set_same h.blk rfl)]; rfl
  have g4f : (w.setCell ⟨b, 3, none⟩ (.int .i64 (-1))).frozen? ⟨b, 4, none⟩ = false := frozen_of_row _ b 4 _ _ (set_same h.blk rfl)
  obtain ⟨a, cap, ev, hc'⟩ := r1.row
  have c0 := r1.c0
  rw [ev] at c0
  have hmk := mk_ints d.files.length (by omega)
  have hlen : Aside (∀ t, t < d.files.length → d.files[t]!.late.length ≤ 60000 ∧ d.files[t]!.late.length = d.files[t]!.bytes.length) := fun t ht => by
    have hm := List.mem_of_getElem? (getbang d.files t ht)
    have h1 := ok.lates (d.files[t]!).pl (List.mem_map.2 ⟨_, hm, rfl⟩)
    have h2 := mem_le_sum d.pl.files (fun f => f.bytes.length) (x := (d.files[t]!).pl) (List.mem_map.2 ⟨_, hm, rfl⟩)
    have h3 := ok.used
    simp only [Gv.pl] at h1 h2
    omega
  have hsm : Aside (∀ t, t < d.files.length → ∀ j, j < d.files[t]!.late.length → d.files[t]!.late[j]! ≤ d.count) := fun t ht j hj => by
    have hm := List.mem_of_getElem? (getbang d.files t ht)
    exact ok.small (d.files[t]!).pl (List.mem_map.2 ⟨_, hm, rfl⟩) _ (List.mem_of_getElem? (getbang _ j hj))
  have PLD : Aside (rCrash d.pl last = { (Rs.pl { d with left := -1, down := false }) with files := d.pl.files.map (G.crash (lastsC (allG d.files) last)) }) := by
    show _ = _
    unfold rCrash
    rw [all_pl]
    rfl
  obtain ⟨d1, hd1⟩ : ∃ d1 : Rs, d1 = { d with left := -1, down := false } := ⟨_, rfl⟩
  rw [← hd1] at r1 ok1 PLD
  have e1 : d1.files = d.files := by rw [hd1]
  have e2 : d1.count = d.count := by rw [hd1]
  have e3 : d1.foot b = d.foot b := by rw [hd1]; rfl
  have e4 : d1.vf = d.vf := by rw [hd1]
  simp only [] at hc' ev
  have hc : Aside (∀ t, t < d.files.length → ∃ g a' c' a'' c'', a = some ⟨g, 0, none⟩ ∧ ((w.setCell ⟨b, 3, none⟩ (.int .i64 (-1))).setCell ⟨b, 4, none⟩ (.bool false)).cell? ⟨g, t * 3, none⟩ = some (.string d.files[t]!.name) ∧ ((w.setCell ⟨b, 3, none⟩ (.int .i64 (-1))).setCell ⟨b, 4, none⟩ (.bool false)).cell? ⟨g, t * 3 + 1, none⟩ = some (.slice a' d.files[t]!.bytes.length c') ∧ ((w.setCell ⟨b, 3, none⟩ (.int .i64 (-1))).setCell ⟨b, 4, none⟩ (.bool false)).cell? ⟨g, t * 3 + 2, none⟩ = some (.slice a'' d.files[t]!.late.length c'') ∧ ∀ k, k < d.files[t]!.late.length → ∃ gl, a'' = some ⟨gl, 0, none⟩ ∧ ((w.setCell ⟨b, 3, none⟩ (.int .i64 (-1))).setCell ⟨b, 4, none⟩ (.bool false)).cell? ⟨gl, k, none⟩ = some (.int .i64 (d.files[t]!.late[k]! : Int))) := hc'
  have R1 : Aside _ := r1
  have S1 : Aside _ := s1
  have K53 : Aside (∀ o : Obj, _) := fun o : Obj => ranks_any (r1.below ((Below.refl _ _).alloc (Nat.le_refl _) o)) ok1
  rw [e1, e2] at K53
  clear h ok ok1 r1 s1 hc' hd1 ev
  have HB : Aside (b < w.heap.size) := by have := R1.out.b_lt; show _ < _; simpa using this
  go_enter Tryz.func18, Tryz.ntmps18
  go_wp2_with (go_at_call 55; refine (K53.out _).mono ?_; rintro e w3 ⟨rfl, hb3, LA, hTA, hLA, hLr⟩)
  have hsz : ((w.setCell ⟨b, 3, none⟩ (.int .i64 (-1))).setCell ⟨b, 4, none⟩ (.bool false)).heap.size = w.heap.size := by simp
  generalize (w.setCell ⟨b, 3, none⟩ (.int .i64 (-1))).setCell ⟨b, 4, none⟩ (.bool false) = w1 at *
  have hsz2 : (w1.alloc (.cells (lcells (List.replicate d.files.length 0)).toArray 3)).heap.size = w.heap.size + 1 := by simp [hsz]
  rw [hsz2] at hTA
  have hTK : Tbl w3 w.heap.size (List.replicate d.files.length 0) := by
    refine Tbl.frame (w := w1.alloc (.cells (lcells (List.replicate d.files.length 0)).toArray 3)) ?_ (hb3.block _ (by rw [hsz2]; omega))
    rw [← hsz]
    exact heap_alloc_new w1 _
  have hb : Below w1.heap.size w1 w3 := ((Below.refl _ _).alloc (Nat.le_refl _) _).trans (hb3.mono (by rw [hsz2, hsz]; omega))
  obtain ⟨c, hcd⟩ : ∃ c, c = lastsC (allG d.files) last := ⟨_, rfl⟩
  rw [← hcd] at PLD
  have hc0 : Aside (c 0 = true) := by show _ = _; rw [hcd]; rfl
  have hc1 : Aside (∀ n, 0 < n → c n = decide ((rk (allG d.files) n : Int) < last)) := fun n hn => by
    rw [hcd]
    unfold lastsC
    rw [decide_eq_false (by omega), Bool.false_or]
  have LR : Aside (∀ j, j < d.count + 2 → LA[j]? = some (rk (allG d.files) j)) := hLr
  have HX : w.heap.size = w1.heap.size := hsz.symm
  clear hcd hb3 hLr hLA hsz2 hsz K53 c3 c4 f3 f4 g4 g4f hmk
  generalize hX1 : w.heap.size = X at *
  have hXa : X ≤ w1.heap.size := by omega
  have hXb : w1.heap.size ≤ X := by omega
  have HX1 : Aside (w.heap.size = X) := hX1
  clear hX1 HX
  go_loopg [6, 7, 8] d.files.length (fun gh s6 _ _ wr => ∃ (i : Nat) (K : List Nat), d.files.length - i ≤ gh ∧ i ≤ d.files.length ∧ s6 = .int .i64 (i : Int) ∧ Below w1.heap.size w1 wr ∧ Tbl wr X K ∧ Tbl wr (X + 1) LA ∧ Aside (KeptIn c d.files K i 0))
  case atStart => exact ⟨0, _, by omega, by omega, rfl, hb, hTK, hTA, KeptIn.start c d.files⟩
  case round =>
    clear hb hTK hTA
    obtain ⟨i, K, hgh, hi, rfl, hb, hTK, hTA, hK⟩ := hrel
    have b0 := cell_below c0 hb
    by_cases hlt : i < d.files.length
    · have q3 : decide (i < d.files.length) = true := by simpa using hlt
      obtain ⟨g, a', c', a'', c'', rfl, y0, y1, y2, y3⟩ := hc.out i hlt
      have E3 : Aside _ := y3
      have SM : Aside _ := hsm.out i hlt
      have hle := (hlen.out i hlt).1
      have b2 := cell_below y2 hb
      have KN : Aside (∀ K, KeptIn c d.files K i (keepN c d.files[i]!.late 0 0) → KeptIn c d.files K (i + 1) 0) := fun K h => h.next
      generalize hy : d.files[i]! = y at *
      clear hy y3 y0 y1
      go_wp2
      go_loopg [7, 8] y.late.length (fun gj s7 _ wq => ∃ (j : Nat) (K : List Nat), y.late.length - j ≤ gj ∧ j ≤ y.late.length ∧ s7 = .int .i64 (j : Int) ∧ Below w1.heap.size w1 wq ∧ Tbl wq X K ∧ Tbl wq (X + 1) LA ∧ Aside (KeptIn c d.files K i (keepN c (y.late.take j) 0 0)))
      case atStart => exact ⟨0, K, by omega, by omega, rfl, hb, hTK, hTA, hK⟩
      case round =>
        clear hb hTK hTA hK b0 b2 K
        obtain ⟨j, K, hgj, hj, rfl, hb, hTK, hTA, hK⟩ := hrel
        have b0 := cell_below c0 hb
        have b2 := cell_below y2 hb
        by_cases hjl : j < y.late.length
        · have q4 : decide (j < y.late.length) = true := by simpa using hjl
          obtain ⟨gl, rfl, e4⟩ := E3.out j hjl
          have b4 := cell_below e4 hb
          have hv1 := SM.out j hjl
          have hnx := lates_next y.late j hjl
          generalize y.late[j]! = v at *
          have hks : keepN c (y.late.take (j + 1)) 0 0 = if c v then j + 1 else keepN c (y.late.take j) 0 0 := by
            rw [hnx, keepN_snoc, List.length_take, Nat.min_eq_left (by omega)]
            simp
          clear hnx e4
          have hkx := hK.out.2 i hlt
          rw [if_neg (by omega), if_pos rfl] at hkx
          have tk := hTK.cell hkx
          have tf := hTK.fz i
          have hcv : c v = true ∨ c v = false := by cases c v <;> simp
          by_cases hv : v = 0
          · subst hv
            rw [hc0.out, if_pos rfl] at hks
            have HKS : Aside (KeptIn c d.files (K.set i (j + 1)) i (keepN c (y.late.take (j + 1)) 0 0)) := by rw [hks]; exact hK.out.set hlt _
            have TS : Aside (Tbl (wr.setCell ⟨X, i, none⟩ (.int .i64 ((j : Int) + 1))) X (K.set i (j + 1))) := hTK.set i (j + 1)
            have TS2 : Aside _ := hTA.other (Y := X) (by omega) i (.int .i64 ((j : Int) + 1))
            have BS : Aside _ := below_set hb (X := X) (by omega) i (.int .i64 ((j : Int) + 1))
            clear hks hK hkx
            go_wp2
            go_roundg (y.late.length - (j + 1))
            case measure => omega
            case rel => exact ⟨j + 1, _, Nat.le_refl _, by omega, by go_num, BS.out, TS.out, TS2.out, HKS⟩
          · have hv0 : 0 < v := by omega
            have tA := hTA.cell (LR.out v (by omega))
            have hcc := hc1.out v hv0
            have qv : ((v : Int) == 0) = false := by rw [beq_eq_false_iff_ne]; omega
            have qv' : (v == 0) = false := by rw [beq_eq_false_iff_ne]; omega
            generalize rk (allG d.files) v = R at *
            by_cases hR : (R : Int) < last
            · have qR : decide ((R : Int) < last) = true := decide_eq_true hR
              rw [qR] at hcc
              rw [hcc, if_pos rfl] at hks
              have HKS : Aside (KeptIn c d.files (K.set i (j + 1)) i (keepN c (y.late.take (j + 1)) 0 0)) := by rw [hks]; exact hK.out.set hlt _
              have TS : Aside (Tbl (wr.setCell ⟨X, i, none⟩ (.int .i64 ((j : Int) + 1))) X (K.set i (j + 1))) := hTK.set i (j + 1)
              have TS2 : Aside _ := hTA.other (Y := X) (by omega) i (.int .i64 ((j : Int) + 1))
              have BS : Aside _ := below_set hb (X := X) (by omega) i (.int .i64 ((j : Int) + 1))
              clear hks hK hkx hcc
              go_wp2
              go_roundg (y.late.length - (j + 1))
              case measure => omega
              case rel => exact ⟨j + 1, _, Nat.le_refl _, by omega, by go_num, BS.out, TS.out, TS2.out, HKS⟩
            · have qR : decide ((R : Int) < last) = false := decide_eq_false hR
              rw [qR] at hcc
              rw [hcc, if_neg (by simp)] at hks
              have HKS : Aside (KeptIn c d.files K i (keepN c (y.late.take (j + 1)) 0 0)) := by rw [hks]; exact hK
              clear hks hK hkx hcc
              go_wp2
              go_roundg (y.late.length - (j + 1))
              case measure => omega
              case rel => exact ⟨j + 1, _, Nat.le_refl _, by omega, by go_num, hb, hTK, hTA, HKS⟩
        · obtain rfl : j = y.late.length := by omega
          have q4 : decide (y.late.length < y.late.length) = false := by simp
          rw [List.take_of_length_le (Nat.le_refl y.late.length)] at hK
          go_wp2
          go_roundg (d.files.length - (i + 1))
          case measure => omega
          case rel => exact ⟨i + 1, K, Nat.le_refl _, by omega, by go_num, hb, hTK, hTA, KN.out K hK.out⟩
    · obtain rfl : i = d.files.length := by omega
      have q3 : decide (d.files.length < d.files.length) = false := by simp
      have KF : Aside (∀ t, t < d.files.length → K[t]? = some (keepN c d.files[t]!.late 0 0)) := fun t ht => by
        have := hK.out.2 t ht
        rwa [if_pos ht] at this
      have M0 : CrM w wr B b X d d1 c K 0 d1 := by
        refine ⟨R1.out.below hb, hTK, fun hm => ?_, ?_, by rw [e1], fun t _ => by rw [e1], ?_⟩
        · have := (R1.out.lt X hm).2
          omega
        · rw [e3]
          exact S1.out.trans (Step.ofBelow hb)
        · show d1.pl = (⟨_, _, _, _, _⟩ : RS)
          have : d1.pl.files = d.pl.files := by show d1.files.map Gv.pl = _; rw [e1]; rfl
          simp only [List.take_zero, List.map_nil, List.nil_append, List.drop_zero, ← this]
      clear hK hb hTK hTA c0 hc hsm LR hc0 hc1 R1 S1
      go_wp2
      go_loopg [9] d.files.length (fun gh s9 wq => ∃ (i : Nat) (dr : Rs), d.files.length - i ≤ gh ∧ i ≤ d.files.length ∧ s9 = .int .i64 (i : Int) ∧ CrM w wq B b X d d1 c K i dr)
      case atStart => exact ⟨0, d1, by omega, by omega, rfl, M0⟩
      case round =>
        clear M0 b0
        obtain ⟨i, dr, hgi, hi, rfl, M⟩ := hrel
        have x0 := M.rep.c0
        obtain ⟨av0, cv0, ev0⟩ := own_any M.rep.tab
        by_cases hlt : i < d.files.length
        · have q5 : decide (i < d.files.length) = true := by simpa using hlt
          have hfd := getbang d.files i hlt
          have hf := (M.rest i (Nat.le_refl _)).trans hfd
          obtain ⟨hl1, hl2⟩ := hlen.out i hlt
          have hKi := KF.out i hlt
          have hkk := M.tab.cell hKi
          have hk1 := keepN_le c d.files[i]!.late 0 0 (Nat.le_refl _)
          have HN : Aside (∀ (w' : World) (d2 : Rs) (f' : Gv), RRep w' B b d2 → d2 = { dr with files := dr.files.set i f' } → f'.pl = G.crash c (d.files[i]!).pl → Step (dr.foot b) (d2.foot b) wr w' → CrM w w' B b X d d1 c K (i + 1) d2) := fun w' d2 f' a1 a2 a3 a4 => M.next hfd a1 a2 a3 a4
          have GC : Aside (G.crash c (d.files[i]!).pl = ⟨d.files[i]!.name, d.files[i]!.bytes.take (keepN c d.files[i]!.late 0 0), List.replicate (keepN c d.files[i]!.late 0 0) 0⟩) := rfl
          rw [Nat.zero_add] at hk1
          generalize keepN c d.files[i]!.late 0 0 = m at *
          generalize hy : d.files[i]! = f at *
          clear hy
          have h1 := M.rep
          obtain ⟨g, cap', ev, hcap, hcm, hg⟩ := h1.vf_form hf
          obtain ⟨y0, y1, y2⟩ := h1.fcells hf hg
          have yf := own_frozen h1.tab hg (i * 3 + 2)
          have yfb := own_frozen h1.tab hg (i * 3 + 1)
          obtain ⟨al, cl, eal⟩ := own_any (h1.rl f (List.mem_of_getElem? hf))
          have hgl := (h1.tab.lt g hg).2
          have hbl := h1.b_lt
          have hXl := M.tab.lt
          have hXb' : X ≠ b := fun e => M.out (e ▸ rfoot_b)
          have hXg : X ≠ g := fun e => M.out (e ▸ rfoot_vf hg)
          have hgb : g ≠ b := h1.b_vf hg
          have hcut := h1.cutBytes hf hg (n := m) (by omega)
          obtain ⟨av, cv, eav, hcv1, hcv2, hav⟩ : ∃ av cv, f.vb = .slice av f.bytes.length cv ∧ f.bytes.length ≤ cv ∧ cv ≤ 9223372036854775807 ∧ (av = none ∧ f.bytes.length = 0 ∧ cv = 0 ∨ ∃ gb, av = some ⟨gb, 0, none⟩) := by
            rcases (h1.rb f (List.mem_of_getElem? hf)).2 with ⟨e1, e2⟩ | ⟨gb, cap2, cur, e1, _, _, e5, e6, _, _⟩
            · exact ⟨none, 0, by rw [e1, e2], by omega, by omega, .inl ⟨rfl, e2, rfl⟩⟩
            · exact ⟨_, cap2, e1, e5, by unfold maxLen at e6; omega, .inr ⟨gb, rfl⟩⟩
          have ex0 : wr.cell? ⟨b, 0, none⟩ = some (.slice (some ⟨g, 0, none⟩) d.files.length cap') := by rw [x0, ev, M.len]
          have ey1 : wr.cell? ⟨g, i * 3 + 1, none⟩ = some (.slice av f.bytes.length cv) := by rw [y1, eav]
          have ey2 : wr.cell? ⟨g, i * 3 + 2, none⟩ = some (.slice al f.late.length cl) := by rw [y2, eal]
          have ecv : cutV f.vb m = .slice av m cv := by rw [eav]; rfl
          rw [ecv] at hcut
          have hN1 : i < dr.files.length := (List.getElem?_eq_some_iff.1 hf).1
          have hcf : ({ dr with files := dr.files.set i ⟨f.name, f.bytes.take m, f.late, .slice av m cv, f.vl⟩ } : Rs).files[i]? = some ⟨f.name, f.bytes.take m, f.late, .slice av m cv, f.vl⟩ := by
            show (dr.files.set i _)[i]? = _
            rw [List.getElem?_set]
            simp [hN1]
          have z0 := hcut.1.c0
          obtain ⟨_, z1, z2⟩ := hcut.1.fcells hcf hg
          have zf := own_frozen hcut.1.tab hg (i * 3 + 2)
          dsimp only at z0 z1 z2
          rw [ev, M.len] at z0
          rw [eal] at z2
          have tk2 := (M.tab.other hXg (i * 3 + 1) (.slice av m cv)).cell hKi
          have PL : Aside _ := And.intro hcut hcf
          have HG : Aside (dr.vf.ownBlock = some g) := hg
          have hsz : (wr.setCell ⟨g, i * 3 + 1, none⟩ (.slice av m cv)).heap.size = wr.heap.size := by simp
          have hmk := mk_ints m (by omega)
          have hmc : m ≤ cv := by omega
          have hm6 : m ≤ 60000 := by omega
          clear x0 ev0 y0 y1 y2 ev eal h1 hf hfd hg hcm hcut ecv eav hcf KF M hN1 hKi
          rcases hav with ⟨rfl, hz, rfl⟩ | ⟨gb, rfl⟩
          · obtain rfl : m = 0 := by omega
            rw [hz] at ey1
            have hmk0 : ∀ u : World, (Instr.makeSlice 60 (.int .i64 0) (.int .i64 0)).run Tryz.prog u = .ok (.slice (some ⟨u.heap.size, 0, none⟩) 0 0) (u.alloc (.cells (lcells (List.replicate 0 0)).toArray 3)) := hmk
            clear hmk
            go_wp2
            go_region
            all_goals
              generalize hW3 : wr.setCell ⟨g, i * 3 + 1, none⟩ (.slice none 0 0) = w3 at *
              clear ey1 ey2 ex0 yf yfb hkk
              rw [← hsz] at hgl hbl hXl
              clear hsz hW3
              have n1 : ¬ b = w3.heap.size := by omega
              have n2 : ¬ g = w3.heap.size := by omega
              have n3 : ¬ X = w3.heap.size := by omega
              have n1' : ¬ w3.heap.size = b := fun e => n1 e.symm
              have n2' : ¬ w3.heap.size = g := fun e => n2 e.symm
              have n3' : ¬ w3.heap.size = X := fun e => n3 e.symm
              have x0A : ∀ o : Obj, (w3.alloc o).cell? ⟨b, 0, none⟩ = some (.slice (some ⟨g, 0, none⟩) d.files.length cap') := fun o => cell_below z0 ((Below.refl _ _).alloc (Nat.le_refl _) o)
              have y2A : ∀ o : Obj, (w3.alloc o).cell? ⟨g, i * 3 + 2, none⟩ = some (.slice al f.late.length cl) := fun o => cell_below z2 ((Below.refl _ _).alloc (Nat.le_refl _) o)
              have yfA : ∀ o : Obj, (w3.alloc o).frozen? ⟨g, i * 3 + 2, none⟩ = false := fun o => (World.frozen?_of_block (a := ⟨g, i * 3 + 2, none⟩) (alloc_old w3 o g hgl)).trans zf
              go_wp2
              go_region
              go_wp2
              go_roundg (d.files.length - (i + 1))
              case measure => omega
              case rel =>
                obtain ⟨hcut, hcf⟩ := PL.out
                have hh := hcut.1.newLate (W := (((w3.setCell ⟨g, i * 3 + 2, none⟩ (.slice (some ⟨w3.heap.size, 0, none⟩) 0 0)).alloc (.cells (lcells []).toArray 3)).drew.drew)) hcf HG.out (List.replicate 0 0) (by rw [List.length_replicate]; omega) (by rw [List.length_replicate, World.setCell_alloc_past (hn := hgl)]; rfl) rfl rfl rfl
                exact ⟨i + 1, _, Nat.le_refl _, by omega, by go_num, HN.out _ _ ⟨f.name, f.bytes.take 0, List.replicate 0 0, .slice none 0 0, .slice (some ⟨w3.heap.size, 0, none⟩) (List.replicate 0 0).length (List.replicate 0 0).length⟩ hh.1 (by simp only [List.set_set]) GC.out.symm (hcut.2.trans hh.2)⟩
          · go_wp2
            go_region
            all_goals
              generalize hW3 : wr.setCell ⟨g, i * 3 + 1, none⟩ (.slice (some ⟨gb, 0, none⟩) m cv) = w3 at *
              clear ey1 ey2 ex0 yf yfb hkk
              rw [← hsz] at hgl hbl hXl
              clear hsz hW3
              have n1 : ¬ b = w3.heap.size := by omega
              have n2 : ¬ g = w3.heap.size := by omega
              have n3 : ¬ X = w3.heap.size := by omega
              have n1' : ¬ w3.heap.size = b := fun e => n1 e.symm
              have n2' : ¬ w3.heap.size = g := fun e => n2 e.symm
              have n3' : ¬ w3.heap.size = X := fun e => n3 e.symm
              have x0A : ∀ o : Obj, (w3.alloc o).cell? ⟨b, 0, none⟩ = some (.slice (some ⟨g, 0, none⟩) d.files.length cap') := fun o => cell_below z0 ((Below.refl _ _).alloc (Nat.le_refl _) o)
              have y2A : ∀ o : Obj, (w3.alloc o).cell? ⟨g, i * 3 + 2, none⟩ = some (.slice al f.late.length cl) := fun o => cell_below z2 ((Below.refl _ _).alloc (Nat.le_refl _) o)
              have yfA : ∀ o : Obj, (w3.alloc o).frozen? ⟨g, i * 3 + 2, none⟩ = false := fun o => (World.frozen?_of_block (a := ⟨g, i * 3 + 2, none⟩) (alloc_old w3 o g hgl)).trans zf
              go_wp2
              go_region
              go_wp2
              go_roundg (d.files.length - (i + 1))
              case measure => omega
              case rel =>
                obtain ⟨hcut, hcf⟩ := PL.out
                have hh := hcut.1.newLate (W := (((w3.setCell ⟨g, i * 3 + 2, none⟩ (.slice (some ⟨w3.heap.size, 0, none⟩) m m)).alloc (.cells (lcells (List.replicate m 0)).toArray 3)).drew.drew)) hcf HG.out (List.replicate m 0) (by rw [List.length_replicate]; omega) (by rw [List.length_replicate, World.setCell_alloc_past (hn := hgl)]; rfl) rfl rfl rfl
                exact ⟨i + 1, _, Nat.le_refl _, by omega, by go_num, HN.out _ _ ⟨f.name, f.bytes.take m, List.replicate m 0, .slice (some ⟨gb, 0, none⟩) m cv, .slice (some ⟨w3.heap.size, 0, none⟩) (List.replicate m 0).length (List.replicate m 0).length⟩ hh.1 (by simp only [List.set_set]) GC.out.symm (hcut.2.trans hh.2)⟩
        · obtain rfl : i = d.files.length := by omega
          have q5 : decide (d.files.length < d.files.length) = false := by simp
          rw [ev0, M.len] at x0
          go_wp2
          go_end0
          refine ⟨rfl, dr, M.rep, ?_, M.step⟩
          rw [M.pl, PLD.out]
          have hl : d.pl.files.length = d.files.length := by simp [Rs.pl]
          rw [List.take_of_length_le (by omega), List.drop_eq_nil_of_le (by omega), List.append_nil]
end Go.Proofs.YtajjcfacbnicnaaGreatDoor.Dk
