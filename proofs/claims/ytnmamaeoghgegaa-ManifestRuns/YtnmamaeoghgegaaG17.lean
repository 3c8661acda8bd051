/-
  Ytnmamaeoghgegaa: the texts DP6, one behind the other.
-/
import Derived.Test.YtnmamaeoghgegaaG16
import Derived.Deep.RegionHeld
/-
  The document's disk: Append, where there is room.
-/
namespace Go.Proofs.Ytnmamaeoghgegaa.Dk
open Go.RowKit
set_option maxRecDepth 100000

/-- One end alone. -/
def Only (A : Act) (W : World) : Exit → Act → World → Prop
  | .normal, a, w => a = A ∧ w = W
  | _, _, _ => False
theorem only_cont {A : Act} {W : World} {Q : Exit → Act → World → Prop} (h : Q .normal A W) : ∀ e a w, Only A W e a w → Q e a w := by
  intro e a w hq
  cases e with
  | normal =>
    obtain ⟨rfl, rfl⟩ := (hq : a = A ∧ w = W)
    exact h
  | _ => exact (hq : False).elim

theorem bang_any (x : ByteArray) (k : Nat) (hk : k < x.size) : x.data.toList[k]! = x[k] := by
  have hkl : k < x.data.toList.length := by rw [Array.length_toList]; exact hk
  rw [getElem!_pos x.data.toList k hkl]
  rfl
theorem wp_only {P : Program} {c : Code} {Q' : Exit → Act → World → Prop} {a A : Act} {w W : World} (hc : Q' .normal A W) (hr : c.wp P (Only A W) a w) : c.wp P Q' a w := Code.wp_mono (only_cont hc) hr
theorem takeH_to {P : Program} {md : Region.Mode} {ops : Array Oper} {Q : Exit → Act → World → Prop} {S : World → Prop} {i : Nat} {oi : Oper} {v : Value} {fuel : Nat} {listed : Array Bool} {a : Act} {w : World} (d : Option Tmp) (hi : ops[i]? = some oi) (hd : oi.dst = d)
    (hs : Region.noSelect ops = true) (hf : Region.free md ops listed i = true) (hr : (Region.ready md ops listed).contains i = true)
    (hQ : ∀ c a w, Q (.panic c) (a.put oi.dst v) w → Q (.panic c) a w) (hy : YieldsIf P ops S oi v a) (hS : S w)
    (h : wpAnyH P md ops Q S fuel (listed.setIfInBounds i true) (a.put d v) w) : wpAnyH P md ops Q S (fuel + 1) listed a w := by
  subst hd
  exact wpAnyH_take hi hs hf hr hQ hy hS h

theorem idx_any (x : ByteArray) (k : Nat) (hk : k < x.size) (u : World) : (Instr.index 9 (.string x) (.int .i64 (k : Int))).run Try.prog u = .ok (.int .u8 (x.data.toList[k]!.toNat : Int)) u := by
  have h0 : (0 : Int) ≤ (k : Int) := by omega
  have hkl : k < x.data.toList.length := by rw [Array.length_toList]; exact hk
  have h1 : x[k]? = some x.data.toList[k]! := by
    rw [getElem!_pos x.data.toList k hkl]
    show (if h : k < x.size then some x[k] else none) = _
    rw [dif_pos hk]
    rfl
  simp only [Instr.index, asIntOf, Sem.run_bind, Sem.run_pure, Result.andThen_ok, run_underlying Try.underlying9, h0, if_true, Int.toNat_natCast, h1]

set_option maxHeartbeats 8000000 in
theorem rappend_there {w : World} {B b : Nat} {d : Rs} (h : RRep w B b d) (ok : ROk d.pl) (hr : Rising d.names) (n x : ByteArray) (hns : n.size ≤ 1000) (hxs : x.size ≤ 1000) (hcnt : d.count ≤ 900000) (hp : d.pl.power = true) (hm : mayBe n = true) (hh : has d.names n = true) (hf : ¬ d.most < d.pl.used + x.size) :
    Calls Try.prog 44 #[.pointer (some ⟨b, 0, none⟩), .string n, .string x] w fun e w' => e = .returned (.int .i64 0) ∧ ∃ d', RRep w' B b d' ∧ d'.pl = (d.pl.spent.rmake n).more (place d.names n) x.data.toList ∧ Step (d.foot b) (d'.foot b) w w' := by
  have kp := rpower_any h ok.left
  have km := right_any n (by omega)
  have hfew := ok.dfew
  have okS : ∀ d1 : Rs, d1.pl = d.pl.spent → ROk d1.pl := fun d1 e => by rw [e]; exact ⟨ok.few, ok.most, by show (if 0 < d.left then d.left - 1 else d.left) ≤ _; have : d.left ≤ _ := ok.left; split <;> omega, ok.used, ok.lates, ok.count, ok.small⟩
  rw [hp] at kp
  rw [hm] at km
  have KU : Aside (∀ (d1 : Rs) (u : World), RRep u B b d1 → d1.pl = d.pl.spent → Calls Try.prog 60 #[.pointer (some ⟨b, 0, none⟩)] u fun e w' => e = .returned (.tuple #[.int .i64 (d.pl.used : Nat), .int .i64 (d.pl.lates : Nat)]) ∧ w' = u) := fun d1 u hu e => by
    have := rused_any hu (okS d1 e)
    rw [e] at this
    exact this
  have KA : Aside (∀ (d1 : Rs) (u : World), RRep u B b d1 → d1.files = d.files → Calls Try.prog 48 #[.pointer (some ⟨b, 0, none⟩), .string n] u fun e w' => e = .returned (.int .i64 (place d.names n : Int)) ∧ w' = u) := fun d1 u hu hf => by
    have := at_any hu (by rw [hf]; omega) n
    rw [show d1.names = d.names by unfold Rs.names; rw [hf]] at this
    rw [at_place hr, hh] at this
    exact this
  have hmost : d.most ≤ 60000 := ok.most
  have hused : d.pl.used ≤ 60000 := ok.used
  have HM : Aside (∀ d1 : Rs, d1.pl = d.pl.spent → d1.most = d.most ∧ d1.count = d.count) := fun d1 e => ⟨congrArg RS.most e, congrArg RS.count e⟩
  obtain ⟨i0, f, hat0, hf0, hfn, hfm⟩ := atOf_get hh
  have hi0 : i0 = place d.names n := by rw [at_place hr, hh] at hat0; simp at hat0; omega
  subst hi0
  obtain ⟨hl1, hl2⟩ := ok.dlate hfm
  have HS : Aside (d.pl.spent.rmake n = d.pl.spent ∧ d.pl.spent.files[place d.names n]? = some f.pl) := ⟨by unfold RS.rmake; rw [show d.pl.spent.names = d.names from rnames_pl d, hh]; rfl, rpl_get hf0⟩
  have P0' : Aside (∀ (d1 : Rs) (u : World), RRep u B b d1 → d1.pl = d.pl.spent → d1.files = d.files → d1.foot b = d.foot b → Step (d.foot b) (d.foot b) w u → Put w u B b (place d.names n) d.files.length (d.foot b) (d.pl.spent.rmake n) x.data.toList 0 d1 f) := fun d1 u h1 p1 f1 g1 s1 => by
    refine ⟨h1, by rw [f1]; exact hf0, ?_, by omega, by omega, ?_, by rw [f1], by rw [g1]; exact s1⟩
    · rw [HS.out.1, List.take_zero, more_nil HS.out.2]
      exact p1
    · have : d1.count = d.count := congrArg RS.count p1
      omega
  have hi : place d.names n < d.files.length := (List.getElem?_eq_some_iff.1 hf0).1
  clear h ok hp hm okS
  generalize hU : d.pl.used = U at *
  generalize hLT : d.pl.lates = LT at *
  have d1' : decide ((d.most : Int) < (U : Int) + (x.size : Int)) = false := decide_eq_false (by omega)
  have hw : IntKind.i64.wrap ((U : Int) + (x.size : Int)) = (U : Int) + (x.size : Int) := by rw [IntKind.wrap_i64]; omega
  have hpos : decide ((place d.names n : Int) < 0) = false := decide_eq_false (by omega)
  clear hat0 hf0 hfn hfm hl1 hl2 hh hr
  generalize hI : place d.names n = I at *
  generalize hNN : d.files.length = NN at *
  go_enter Try.func44, Try.ntmps44
  go_wp2_with (first
    | (go_at_call 86; refine kp.mono ?_; rintro e w1 ⟨rfl, d1, h1, p1, f1, g1, s1⟩; have c2 := h1.c2; have c0 := h1.c0; rw [(HM.out d1 p1).1] at c2; obtain ⟨a0, cap0, ev0⟩ := own_any h1.tab; rw [ev0, f1] at c0)
    | (go_at_call 87; refine (km _).mono ?_; rintro e w1' ⟨rfl, rfl⟩)
    | (go_at_call 60; refine (KU.out _ _ h1 p1).mono ?_; rintro e w2 ⟨rfl, rfl⟩)
    | (go_at_call 48; refine (KA.out _ _ h1 f1).mono ?_; rintro e w2 ⟨rfl, rfl⟩; have P0 : Aside _ := P0'.out d1 _ h1 p1 f1 g1 s1))
  have HS1 : Aside ((d.pl.spent.rmake n).files[I]? = some f.pl) := by show _ = _; rw [HS.out.1]; exact HS.out.2
  clear KA KU kp km HM P0' HS h1 p1 s1 c0 c2
  have hxl : x.data.toList.length = x.size := by rw [Array.length_toList]; rfl
  go_loopg [10] x.size (fun gh s10 wr => ∃ (k : Nat) (dd : Rs) (ff : Gv), x.size - k ≤ gh ∧ k ≤ x.size ∧ s10 = .int .i64 (k : Int) ∧ Aside (Put w wr B b I NN (d.foot b) (d.pl.spent.rmake n) x.data.toList k dd ff))
  case atStart => exact ⟨0, _, _, by omega, by omega, rfl, P0⟩
  case round =>
    obtain ⟨k, dd, ff, hgh, hk, rfl, PP⟩ := hrel
    by_cases hlt : k < x.size
    · have d3 : decide (k < x.size) = true := by simpa using hlt
      have hnb := PP.out.nb
      have hnl := PP.out.nl
      have hnc := PP.out.nc
      have hlen := PP.out.len
      obtain ⟨g, cap, ev, hcap, hcm, hg⟩ := PP.out.rep.vf_form PP.out.get
      rw [hlen] at ev hcap
      have hiN : I < NN := by rw [← hlen]; exact (List.getElem?_eq_some_iff.1 PP.out.get).1
      have y1 := PP.out.rep.c1
      have yf1 := PP.out.rep.fz 1
      have H1 := set_cell1 PP.out.rep (dd.count + 1)
      rw [show ((dd.count + 1 : Nat) : Int) = (dd.count : Int) + 1 by omega] at H1
      have hw1 : IntKind.i64.wrap ((dd.count : Int) + 1) = (dd.count : Int) + 1 := by rw [IntKind.wrap_i64]; omega
      have H1A : Aside _ := H1
      have hgA : Aside (dd.vf.ownBlock = some g) := hg
      clear H1
      go_wp2
      generalize hW1 : wr.setCell ⟨b, 1, none⟩ (.int .i64 ((dd.count : Int) + 1)) = u1 at *
      clear hW1 y1 yf1 hw1
      -- the byte
      obtain ⟨a5, c5, w3, hr3, q0, q1, q2, R2, S2⟩ := H1A.out.1.byteStep (i := I) PP.out.get hgA.out (by omega) x[k]
      have R2A : Aside _ := And.intro R2 S2
      obtain ⟨avb, cvb, eavb⟩ := own_any (PP.out.rep.rb ff (List.mem_of_getElem? PP.out.get))
      have x0 := H1A.out.1.c0
      have x1 := (H1A.out.1.fcells (i := I) PP.out.get hgA.out).2.1
      have hbl := H1A.out.1.b_lt
      have hgl : g < u1.heap.size := (H1A.out.1.tab.lt g hgA.out).2
      dsimp only at x0 q0
      rw [ev] at x0 q0
      rw [eavb] at x1 q1 hr3
      have x0A : ∀ o : Obj, (u1.alloc o).cell? ⟨b, 0, none⟩ = some (.slice (some ⟨g, 0, none⟩) NN cap) := fun o => cell_below x0 ((Below.refl _ _).alloc (Nat.le_refl _) o)
      have x1A : ∀ o : Obj, (u1.alloc o).cell? ⟨g, I * 3 + 1, none⟩ = some (.slice avb ff.bytes.length cvb) := fun o => cell_below x1 ((Below.refl _ _).alloc (Nat.le_refl _) o)
      have n1 : ¬ b = u1.heap.size := by omega
      have n2 : ¬ u1.heap.size = b := by omega
      have n3 : ¬ g = u1.heap.size := by omega
      have n4 : ¬ u1.heap.size = g := by omega
      have hbg : g ≠ b := PP.out.rep.b_vf hgA.out
      clear R2 S2 hg
      have xS : (w3.setCell ⟨g, I * 3 + 1, none⟩ (.slice a5 (ff.bytes.length + 1) c5)).cell? ⟨b, 0, none⟩ = some (.slice (some ⟨g, 0, none⟩) NN cap) := by
        have := R2A.out.1.c0
        dsimp only at this
        rw [ev] at this
        exact this
      apply wp_only
      case hr =>
        refine wp_region_held_drew (S := fun u => u.cell? ⟨b, 0, none⟩ = some (.slice (some ⟨g, 0, none⟩) NN cap)) (by kernel_rfl) x0 (fun hHeld => ?_)
        change wpAnyH _ _ _ _ _ _ _ _ (World.drew _)
        refine takeH_to (i := 0) (v := .pointer (some ⟨b, 0, none⟩)) (some 68) rfl rfl (by kernel_rfl) (by kernel_rfl) (by kernel_rfl) (fun _ _ _ h => h) (Or.inl ⟨by rfl, fun u hu => by (try dsimp only at hu); (try obtain ⟨hu1, hu2⟩ := hu); go_simp⟩) (by assumption) ?_
        try simp only [Act.put, List.setIfInBounds_toArray, List.set_cons_zero, List.set_cons_succ]
        refine takeH_to (i := 1) (v := .pointer (some ⟨b, 0, none⟩)) (some 69) rfl rfl (by kernel_rfl) (by kernel_rfl) (by kernel_rfl) (fun _ _ _ h => h) (Or.inl ⟨by rfl, fun u hu => by (try dsimp only at hu); (try obtain ⟨hu1, hu2⟩ := hu); go_simp⟩) (by assumption) ?_
        try simp only [Act.put, List.setIfInBounds_toArray, List.set_cons_zero, List.set_cons_succ]
        refine takeH_to (i := 2) (v := .pointer (some ⟨b, 0, none⟩)) (some 70) rfl rfl (by kernel_rfl) (by kernel_rfl) (by kernel_rfl) (fun _ _ _ h => h) (Or.inl ⟨by rfl, fun u hu => by (try dsimp only at hu); (try obtain ⟨hu1, hu2⟩ := hu); go_simp⟩) (by assumption) ?_
        try simp only [Act.put, List.setIfInBounds_toArray, List.set_cons_zero, List.set_cons_succ]
        refine takeH_to (i := 3) (v := .slice (some ⟨g, 0, none⟩) NN cap) (some 71) rfl rfl (by kernel_rfl) (by kernel_rfl) (by kernel_rfl) (fun _ _ _ h => h) (Or.inl ⟨by rfl, fun u hu => by (try dsimp only at hu); (try obtain ⟨hu1, hu2⟩ := hu); go_simp⟩) (by assumption) ?_
        try simp only [Act.put, List.setIfInBounds_toArray, List.set_cons_zero, List.set_cons_succ]
        refine takeH_to (i := 4) (v := .int .i64 (I : Int)) (some 72) rfl rfl (by kernel_rfl) (by kernel_rfl) (by kernel_rfl) (fun _ _ _ h => h) (Or.inl ⟨by rfl, fun u hu => by (try dsimp only at hu); (try obtain ⟨hu1, hu2⟩ := hu); go_simp⟩) (by assumption) ?_
        try simp only [Act.put, List.setIfInBounds_toArray, List.set_cons_zero, List.set_cons_succ]
        refine takeH_to (i := 5) (v := .pointer (some ⟨b, 0, none⟩)) (some 73) rfl rfl (by kernel_rfl) (by kernel_rfl) (by kernel_rfl) (fun _ _ _ h => h) (Or.inl ⟨by rfl, fun u hu => by (try dsimp only at hu); (try obtain ⟨hu1, hu2⟩ := hu); go_simp⟩) (by assumption) ?_
        try simp only [Act.put, List.setIfInBounds_toArray, List.set_cons_zero, List.set_cons_succ]
        refine takeH_to (i := 6) (v := .pointer (some ⟨b, 0, none⟩)) (some 74) rfl rfl (by kernel_rfl) (by kernel_rfl) (by kernel_rfl) (fun _ _ _ h => h) (Or.inl ⟨by rfl, fun u hu => by (try dsimp only at hu); (try obtain ⟨hu1, hu2⟩ := hu); go_simp⟩) (by assumption) ?_
        try simp only [Act.put, List.setIfInBounds_toArray, List.set_cons_zero, List.set_cons_succ]
        refine takeH_to (i := 7) (v := .pointer (some ⟨b, 0, none⟩)) (some 75) rfl rfl (by kernel_rfl) (by kernel_rfl) (by kernel_rfl) (fun _ _ _ h => h) (Or.inl ⟨by rfl, fun u hu => by (try dsimp only at hu); (try obtain ⟨hu1, hu2⟩ := hu); go_simp⟩) (by assumption) ?_
        try simp only [Act.put, List.setIfInBounds_toArray, List.set_cons_zero, List.set_cons_succ]
        refine takeH_to (i := 8) (v := .slice (some ⟨g, 0, none⟩) NN cap) (some 76) rfl rfl (by kernel_rfl) (by kernel_rfl) (by kernel_rfl) (fun _ _ _ h => h) (Or.inl ⟨by rfl, fun u hu => by (try dsimp only at hu); (try obtain ⟨hu1, hu2⟩ := hu); go_simp⟩) (by assumption) ?_
        try simp only [Act.put, List.setIfInBounds_toArray, List.set_cons_zero, List.set_cons_succ]
        refine takeH_to (i := 9) (v := .int .i64 (I : Int)) (some 77) rfl rfl (by kernel_rfl) (by kernel_rfl) (by kernel_rfl) (fun _ _ _ h => h) (Or.inl ⟨by rfl, fun u hu => by (try dsimp only at hu); (try obtain ⟨hu1, hu2⟩ := hu); go_simp⟩) (by assumption) ?_
        try simp only [Act.put, List.setIfInBounds_toArray, List.set_cons_zero, List.set_cons_succ]
        refine takeH_to (i := 10) (v := .pointer (some ⟨g, I * 3, none⟩)) (some 78) rfl rfl (by kernel_rfl) (by kernel_rfl) (by kernel_rfl) (fun _ _ _ h => h) (Or.inl ⟨by rfl, fun u hu => by (try dsimp only at hu); (try obtain ⟨hu1, hu2⟩ := hu); go_simp⟩) (by assumption) ?_
        try simp only [Act.put, List.setIfInBounds_toArray, List.set_cons_zero, List.set_cons_succ]
        refine takeH_to (i := 11) (v := .pointer (some ⟨g, I * 3 + 1, none⟩)) (some 79) rfl rfl (by kernel_rfl) (by kernel_rfl) (by kernel_rfl) (fun _ _ _ h => h) (Or.inl ⟨by rfl, fun u hu => by (try dsimp only at hu); (try obtain ⟨hu1, hu2⟩ := hu); go_simp⟩) (by assumption) ?_
        try simp only [Act.put, List.setIfInBounds_toArray, List.set_cons_zero, List.set_cons_succ]
        refine takeH_to (i := 13) (v := .string x) (some 81) rfl rfl (by kernel_rfl) (by kernel_rfl) (by kernel_rfl) (fun _ _ _ h => h) (Or.inl ⟨by rfl, fun u hu => by (try dsimp only at hu); (try obtain ⟨hu1, hu2⟩ := hu); go_simp⟩) (by assumption) ?_
        try simp only [Act.put, List.setIfInBounds_toArray, List.set_cons_zero, List.set_cons_succ]
        refine takeH_to (i := 14) (v := .int .i64 (k : Int)) (some 82) rfl rfl (by kernel_rfl) (by kernel_rfl) (by kernel_rfl) (fun _ _ _ h => h) (Or.inl ⟨by rfl, fun u hu => by (try dsimp only at hu); (try obtain ⟨hu1, hu2⟩ := hu); go_simp⟩) (by assumption) ?_
        try simp only [Act.put, List.setIfInBounds_toArray, List.set_cons_zero, List.set_cons_succ]
        refine takeH_to (i := 15) (v := .int .u8 (x[k].toNat : Int)) (some 83) rfl rfl (by kernel_rfl) (by kernel_rfl) (by kernel_rfl) (fun _ _ _ h => h) (Or.inl ⟨by rfl, fun u hu => by (try dsimp only at hu); (try obtain ⟨hu1, hu2⟩ := hu); go_simp⟩) (by assumption) ?_
        try simp only [Act.put, List.setIfInBounds_toArray, List.set_cons_zero, List.set_cons_succ]
        refine wpAnyH_ready (rs := [12, 16]) (by kernel_rfl) (by simp) ?_
        refine AllReadyH.cons rfl (fun K hK => ?_) (AllReadyH.cons rfl (fun K hK => ?_) AllReadyH.nil)
        · rw [if_pos (by rfl)]
          go_simp
          refine hK.out _ _ x0 (fun hHeld => ?_)
          clear hK K
          try simp only [Act.put, List.setIfInBounds_toArray, List.set_cons_zero, List.set_cons_succ]
          refine wpAnyH_ready (rs := [16]) (by kernel_rfl) (by simp) ?_
          refine AllReadyH.cons rfl (fun K hK => ?_) AllReadyH.nil
          rw [if_pos (by rfl)]
          go_simp
          refine hK.out _ _ (x0A _) (fun hHeld => ?_)
          clear hK K
          try simp only [Act.put, List.setIfInBounds_toArray, List.set_cons_zero, List.set_cons_succ]
          refine wpAnyH_ready (rs := [17]) (by kernel_rfl) (by simp) ?_
          refine AllReadyH.cons rfl (fun K hK => ?_) AllReadyH.nil
          refine step_append_run rfl _ _ 49 49 rfl (.slice avb ff.bytes.length cvb) (.slice (some ⟨u1.heap.size, 0, none⟩) 1 1) rfl rfl hr3 ?_
          refine hK.out _ _ q0 (fun hHeld => ?_)
          clear hK K
          try simp only [Act.put, List.setIfInBounds_toArray]
          refine takeH_to (i := 18) (v := .pointer (some ⟨g, I * 3, none⟩)) (some 86) rfl rfl (by kernel_rfl) (by kernel_rfl) (by kernel_rfl) (fun _ _ _ h => h) (Or.inl ⟨by rfl, fun u hu => by (try dsimp only at hu); (try obtain ⟨hu1, hu2⟩ := hu); go_simp⟩) (by assumption) ?_
          try simp only [Act.put]
          refine takeH_to (i := 19) (v := .pointer (some ⟨g, I * 3 + 1, none⟩)) (some 87) rfl rfl (by kernel_rfl) (by kernel_rfl) (by kernel_rfl) (fun _ _ _ h => h) (Or.inl ⟨by rfl, fun u hu => by (try dsimp only at hu); (try obtain ⟨hu1, hu2⟩ := hu); go_simp⟩) (by assumption) ?_
          try simp only [Act.put]
          refine wpAnyH_ready (rs := [20]) (by kernel_rfl) (by simp) ?_
          refine AllReadyH.cons rfl (fun K hK => ?_) AllReadyH.nil
          rw [if_pos (by rfl)]
          go_simp
          refine hK.out _ _ xS (fun hHeld => ?_)
          clear hK K
          try simp only [Act.put, List.setIfInBounds_toArray, List.set_cons_zero, List.set_cons_succ]
          refine wpAnyH_done (by kernel_rfl) ?_ _
          exact And.intro rfl rfl
        · rw [if_pos (by rfl)]
          go_simp
          refine hK.out _ _ (x0A _) (fun hHeld => ?_)
          clear hK K
          try simp only [Act.put, List.setIfInBounds_toArray, List.set_cons_zero, List.set_cons_succ]
          refine wpAnyH_ready (rs := [12]) (by kernel_rfl) (by simp) ?_
          refine AllReadyH.cons rfl (fun K hK => ?_) AllReadyH.nil
          rw [if_pos (by rfl)]
          go_simp
          refine hK.out _ _ (x0A _) (fun hHeld => ?_)
          clear hK K
          try simp only [Act.put, List.setIfInBounds_toArray, List.set_cons_zero, List.set_cons_succ]
          refine wpAnyH_ready (rs := [17]) (by kernel_rfl) (by simp) ?_
          refine AllReadyH.cons rfl (fun K hK => ?_) AllReadyH.nil
          refine step_append_run rfl _ _ 49 49 rfl (.slice avb ff.bytes.length cvb) (.slice (some ⟨u1.heap.size, 0, none⟩) 1 1) rfl rfl hr3 ?_
          refine hK.out _ _ q0 (fun hHeld => ?_)
          clear hK K
          try simp only [Act.put, List.setIfInBounds_toArray]
          refine takeH_to (i := 18) (v := .pointer (some ⟨g, I * 3, none⟩)) (some 86) rfl rfl (by kernel_rfl) (by kernel_rfl) (by kernel_rfl) (fun _ _ _ h => h) (Or.inl ⟨by rfl, fun u hu => by (try dsimp only at hu); (try obtain ⟨hu1, hu2⟩ := hu); go_simp⟩) (by assumption) ?_
          try simp only [Act.put]
          refine takeH_to (i := 19) (v := .pointer (some ⟨g, I * 3 + 1, none⟩)) (some 87) rfl rfl (by kernel_rfl) (by kernel_rfl) (by kernel_rfl) (fun _ _ _ h => h) (Or.inl ⟨by rfl, fun u hu => by (try dsimp only at hu); (try obtain ⟨hu1, hu2⟩ := hu); go_simp⟩) (by assumption) ?_
          try simp only [Act.put]
          refine wpAnyH_ready (rs := [20]) (by kernel_rfl) (by simp) ?_
          refine AllReadyH.cons rfl (fun K hK => ?_) AllReadyH.nil
          rw [if_pos (by rfl)]
          go_simp
          refine hK.out _ _ xS (fun hHeld => ?_)
          clear hK K
          try simp only [Act.put, List.setIfInBounds_toArray, List.set_cons_zero, List.set_cons_succ]
          refine wpAnyH_done (by kernel_rfl) ?_ _
          exact And.intro rfl rfl
      case hc =>
        go_wp2
        clear x0 x1 x0A x1A n1 n2 n3 n4 q0 q1 q2 hr3 xS hbl hgl
        have hgl2 : g < (w3.setCell ⟨g, I * 3 + 1, none⟩ (.slice a5 (ff.bytes.length + 1) c5)).heap.size := (R2A.out.1.tab.lt g hgA.out).2
        generalize w3.setCell ⟨g, I * 3 + 1, none⟩ (.slice a5 (ff.bytes.length + 1) c5) = u2 at *
        have hget2 : ({ ({ dd with count := dd.count + 1 } : Rs) with files := ({ dd with count := dd.count + 1 } : Rs).files.set I ⟨ff.name, ff.bytes ++ [x[k]], ff.late, .slice a5 (ff.bytes.length + 1) c5, ff.vl⟩ } : Rs).files[I]? = some ⟨ff.name, ff.bytes ++ [x[k]], ff.late, .slice a5 (ff.bytes.length + 1) c5, ff.vl⟩ := by
          show (dd.files.set I _)[I]? = _
          rw [List.getElem?_set]
          simp [(List.getElem?_eq_some_iff.1 PP.out.get).1]
        obtain ⟨a6, c6, w5, hr4, t0, t1, t2, t3, R3, S3⟩ := R2A.out.1.lateStep (i := I) hget2 hgA.out (by show ff.late.length ≤ _; omega) (dd.count + 1)
        have R3A : Aside _ := And.intro R3 S3
        obtain ⟨avl, cvl, eavl⟩ := own_any (PP.out.rep.rl ff (List.mem_of_getElem? PP.out.get))
        have z0 := R2A.out.1.c0
        have z3 := R2A.out.1.c1
        have z1 := (R2A.out.1.fcells (i := I) hget2 hgA.out).2.2
        have yS0 := R3.c0
        have yS1 := R3.c1
        dsimp only at z0 z1 z3 t0 t1 t3 yS0 yS1 hr4 R3A
        rw [ev] at z0 t0 yS0
        rw [eavl] at z1 t1 hr4
        rw [show ((dd.count + 1 : Nat) : Int) = (dd.count : Int) + 1 by omega] at z3 t3 yS1 hr4
        have hbl2 := R2A.out.1.b_lt
        have yS : (w5.setCell ⟨g, I * 3 + 2, none⟩ (.slice a6 (ff.late.length + 1) c6)).cell? ⟨b, 0, none⟩ = some (.slice (some ⟨g, 0, none⟩) NN cap) ∧ (w5.setCell ⟨g, I * 3 + 2, none⟩ (.slice a6 (ff.late.length + 1) c6)).cell? ⟨b, 1, none⟩ = some (.int .i64 ((dd.count : Int) + 1)) := ⟨yS0, yS1⟩
        have z0A : ∀ o : Obj, (u2.alloc o).cell? ⟨b, 0, none⟩ = some (.slice (some ⟨g, 0, none⟩) NN cap) := fun o => cell_below z0 ((Below.refl _ _).alloc (Nat.le_refl _) o)
        have z3A : ∀ o : Obj, (u2.alloc o).cell? ⟨b, 1, none⟩ = some (.int .i64 ((dd.count : Int) + 1)) := fun o => cell_below z3 ((Below.refl _ _).alloc (Nat.le_refl _) o)
        have z1A : ∀ o : Obj, (u2.alloc o).cell? ⟨g, I * 3 + 2, none⟩ = some (.slice avl ff.late.length cvl) := fun o => cell_below z1 ((Below.refl _ _).alloc (Nat.le_refl _) o)
        have m1 : ¬ b = u2.heap.size := by omega
        have m2 : ¬ u2.heap.size = b := by omega
        have m3 : ¬ g = u2.heap.size := by omega
        have m4 : ¬ u2.heap.size = g := by omega
        clear R3 S3 yS0 yS1
        apply wp_only
        case hr =>
          refine wp_region_held_drew (S := fun u => u.cell? ⟨b, 0, none⟩ = some (.slice (some ⟨g, 0, none⟩) NN cap) ∧ u.cell? ⟨b, 1, none⟩ = some (.int .i64 ((dd.count : Int) + 1))) (by kernel_rfl) ⟨z0, z3⟩ (fun hHeld => ?_)
          change wpAnyH _ _ _ _ _ _ _ _ (World.drew _)
          refine takeH_to (i := 0) (v := .pointer (some ⟨b, 0, none⟩)) (some 88) rfl rfl (by kernel_rfl) (by kernel_rfl) (by kernel_rfl) (fun _ _ _ h => h) (Or.inl ⟨by rfl, fun u hu => by (try dsimp only at hu); (try obtain ⟨hu1, hu2⟩ := hu); go_simp⟩) (by assumption) ?_
          try simp only [Act.put, List.setIfInBounds_toArray, List.set_cons_zero, List.set_cons_succ]
          refine takeH_to (i := 1) (v := .pointer (some ⟨b, 0, none⟩)) (some 89) rfl rfl (by kernel_rfl) (by kernel_rfl) (by kernel_rfl) (fun _ _ _ h => h) (Or.inl ⟨by rfl, fun u hu => by (try dsimp only at hu); (try obtain ⟨hu1, hu2⟩ := hu); go_simp⟩) (by assumption) ?_
          try simp only [Act.put, List.setIfInBounds_toArray, List.set_cons_zero, List.set_cons_succ]
          refine takeH_to (i := 2) (v := .pointer (some ⟨b, 0, none⟩)) (some 90) rfl rfl (by kernel_rfl) (by kernel_rfl) (by kernel_rfl) (fun _ _ _ h => h) (Or.inl ⟨by rfl, fun u hu => by (try dsimp only at hu); (try obtain ⟨hu1, hu2⟩ := hu); go_simp⟩) (by assumption) ?_
          try simp only [Act.put, List.setIfInBounds_toArray, List.set_cons_zero, List.set_cons_succ]
          refine takeH_to (i := 3) (v := .slice (some ⟨g, 0, none⟩) NN cap) (some 91) rfl rfl (by kernel_rfl) (by kernel_rfl) (by kernel_rfl) (fun _ _ _ h => h) (Or.inl ⟨by rfl, fun u hu => by (try dsimp only at hu); (try obtain ⟨hu1, hu2⟩ := hu); go_simp⟩) (by assumption) ?_
          try simp only [Act.put, List.setIfInBounds_toArray, List.set_cons_zero, List.set_cons_succ]
          refine takeH_to (i := 4) (v := .int .i64 (I : Int)) (some 92) rfl rfl (by kernel_rfl) (by kernel_rfl) (by kernel_rfl) (fun _ _ _ h => h) (Or.inl ⟨by rfl, fun u hu => by (try dsimp only at hu); (try obtain ⟨hu1, hu2⟩ := hu); go_simp⟩) (by assumption) ?_
          try simp only [Act.put, List.setIfInBounds_toArray, List.set_cons_zero, List.set_cons_succ]
          refine takeH_to (i := 5) (v := .pointer (some ⟨b, 0, none⟩)) (some 93) rfl rfl (by kernel_rfl) (by kernel_rfl) (by kernel_rfl) (fun _ _ _ h => h) (Or.inl ⟨by rfl, fun u hu => by (try dsimp only at hu); (try obtain ⟨hu1, hu2⟩ := hu); go_simp⟩) (by assumption) ?_
          try simp only [Act.put, List.setIfInBounds_toArray, List.set_cons_zero, List.set_cons_succ]
          refine takeH_to (i := 6) (v := .pointer (some ⟨b, 0, none⟩)) (some 94) rfl rfl (by kernel_rfl) (by kernel_rfl) (by kernel_rfl) (fun _ _ _ h => h) (Or.inl ⟨by rfl, fun u hu => by (try dsimp only at hu); (try obtain ⟨hu1, hu2⟩ := hu); go_simp⟩) (by assumption) ?_
          try simp only [Act.put, List.setIfInBounds_toArray, List.set_cons_zero, List.set_cons_succ]
          refine takeH_to (i := 7) (v := .pointer (some ⟨b, 0, none⟩)) (some 95) rfl rfl (by kernel_rfl) (by kernel_rfl) (by kernel_rfl) (fun _ _ _ h => h) (Or.inl ⟨by rfl, fun u hu => by (try dsimp only at hu); (try obtain ⟨hu1, hu2⟩ := hu); go_simp⟩) (by assumption) ?_
          try simp only [Act.put, List.setIfInBounds_toArray, List.set_cons_zero, List.set_cons_succ]
          refine takeH_to (i := 8) (v := .slice (some ⟨g, 0, none⟩) NN cap) (some 96) rfl rfl (by kernel_rfl) (by kernel_rfl) (by kernel_rfl) (fun _ _ _ h => h) (Or.inl ⟨by rfl, fun u hu => by (try dsimp only at hu); (try obtain ⟨hu1, hu2⟩ := hu); go_simp⟩) (by assumption) ?_
          try simp only [Act.put, List.setIfInBounds_toArray, List.set_cons_zero, List.set_cons_succ]
          refine takeH_to (i := 9) (v := .int .i64 (I : Int)) (some 97) rfl rfl (by kernel_rfl) (by kernel_rfl) (by kernel_rfl) (fun _ _ _ h => h) (Or.inl ⟨by rfl, fun u hu => by (try dsimp only at hu); (try obtain ⟨hu1, hu2⟩ := hu); go_simp⟩) (by assumption) ?_
          try simp only [Act.put, List.setIfInBounds_toArray, List.set_cons_zero, List.set_cons_succ]
          refine takeH_to (i := 10) (v := .pointer (some ⟨g, I * 3, none⟩)) (some 98) rfl rfl (by kernel_rfl) (by kernel_rfl) (by kernel_rfl) (fun _ _ _ h => h) (Or.inl ⟨by rfl, fun u hu => by (try dsimp only at hu); (try obtain ⟨hu1, hu2⟩ := hu); go_simp⟩) (by assumption) ?_
          try simp only [Act.put, List.setIfInBounds_toArray, List.set_cons_zero, List.set_cons_succ]
          refine takeH_to (i := 11) (v := .pointer (some ⟨g, I * 3 + 2, none⟩)) (some 99) rfl rfl (by kernel_rfl) (by kernel_rfl) (by kernel_rfl) (fun _ _ _ h => h) (Or.inl ⟨by rfl, fun u hu => by (try dsimp only at hu); (try obtain ⟨hu1, hu2⟩ := hu); go_simp⟩) (by assumption) ?_
          try simp only [Act.put, List.setIfInBounds_toArray, List.set_cons_zero, List.set_cons_succ]
          refine takeH_to (i := 13) (v := .pointer (some ⟨b, 0, none⟩)) (some 101) rfl rfl (by kernel_rfl) (by kernel_rfl) (by kernel_rfl) (fun _ _ _ h => h) (Or.inl ⟨by rfl, fun u hu => by (try dsimp only at hu); (try obtain ⟨hu1, hu2⟩ := hu); go_simp⟩) (by assumption) ?_
          try simp only [Act.put, List.setIfInBounds_toArray, List.set_cons_zero, List.set_cons_succ]
          refine takeH_to (i := 14) (v := .pointer (some ⟨b, 0, none⟩)) (some 102) rfl rfl (by kernel_rfl) (by kernel_rfl) (by kernel_rfl) (fun _ _ _ h => h) (Or.inl ⟨by rfl, fun u hu => by (try dsimp only at hu); (try obtain ⟨hu1, hu2⟩ := hu); go_simp⟩) (by assumption) ?_
          try simp only [Act.put, List.setIfInBounds_toArray, List.set_cons_zero, List.set_cons_succ]
          refine takeH_to (i := 15) (v := .pointer (some ⟨b, 1, none⟩)) (some 103) rfl rfl (by kernel_rfl) (by kernel_rfl) (by kernel_rfl) (fun _ _ _ h => h) (Or.inl ⟨by rfl, fun u hu => by (try dsimp only at hu); (try obtain ⟨hu1, hu2⟩ := hu); go_simp⟩) (by assumption) ?_
          try simp only [Act.put, List.setIfInBounds_toArray, List.set_cons_zero, List.set_cons_succ]
          refine takeH_to (i := 16) (v := .int .i64 ((dd.count : Int) + 1)) (some 104) rfl rfl (by kernel_rfl) (by kernel_rfl) (by kernel_rfl) (fun _ _ _ h => h) (Or.inl ⟨by rfl, fun u hu => by (try dsimp only at hu); (try obtain ⟨hu1, hu2⟩ := hu); go_simp⟩) (by assumption) ?_
          try simp only [Act.put, List.setIfInBounds_toArray, List.set_cons_zero, List.set_cons_succ]
          refine wpAnyH_ready (rs := [12, 17]) (by kernel_rfl) (by simp) ?_
          refine AllReadyH.cons rfl (fun K hK => ?_) (AllReadyH.cons rfl (fun K hK => ?_) AllReadyH.nil)
          · rw [if_pos (by rfl)]
            go_simp
            refine hK.out _ _ ⟨z0, z3⟩ (fun hHeld => ?_)
            clear hK K
            try simp only [Act.put, List.setIfInBounds_toArray, List.set_cons_zero, List.set_cons_succ]
            refine wpAnyH_ready (rs := [17]) (by kernel_rfl) (by simp) ?_
            refine AllReadyH.cons rfl (fun K hK => ?_) AllReadyH.nil
            rw [if_pos (by rfl)]
            go_simp
            refine hK.out _ _ ⟨z0A _, z3A _⟩ (fun hHeld => ?_)
            clear hK K
            try simp only [Act.put, List.setIfInBounds_toArray, List.set_cons_zero, List.set_cons_succ]
            refine wpAnyH_ready (rs := [18]) (by kernel_rfl) (by simp) ?_
            refine AllReadyH.cons rfl (fun K hK => ?_) AllReadyH.nil
            refine step_append_run rfl _ _ 87 87 rfl (.slice avl ff.late.length cvl) (.slice (some ⟨u2.heap.size, 0, none⟩) 1 1) rfl rfl hr4 ?_
            refine hK.out _ _ ⟨t0, t3⟩ (fun hHeld => ?_)
            clear hK K
            try simp only [Act.put, List.setIfInBounds_toArray]
            refine takeH_to (i := 19) (v := .pointer (some ⟨g, I * 3, none⟩)) (some 107) rfl rfl (by kernel_rfl) (by kernel_rfl) (by kernel_rfl) (fun _ _ _ h => h) (Or.inl ⟨by rfl, fun u hu => by (try dsimp only at hu); (try obtain ⟨hu1, hu2⟩ := hu); go_simp⟩) (by assumption) ?_
            try simp only [Act.put]
            refine takeH_to (i := 20) (v := .pointer (some ⟨g, I * 3 + 2, none⟩)) (some 108) rfl rfl (by kernel_rfl) (by kernel_rfl) (by kernel_rfl) (fun _ _ _ h => h) (Or.inl ⟨by rfl, fun u hu => by (try dsimp only at hu); (try obtain ⟨hu1, hu2⟩ := hu); go_simp⟩) (by assumption) ?_
            try simp only [Act.put]
            refine wpAnyH_ready (rs := [21]) (by kernel_rfl) (by simp) ?_
            refine AllReadyH.cons rfl (fun K hK => ?_) AllReadyH.nil
            rw [if_pos (by rfl)]
            go_simp
            refine hK.out _ _ yS (fun hHeld => ?_)
            clear hK K
            try simp only [Act.put, List.setIfInBounds_toArray, List.set_cons_zero, List.set_cons_succ]
            refine wpAnyH_done (by kernel_rfl) ?_ _
            exact And.intro rfl rfl
          · rw [if_pos (by rfl)]
            go_simp
            refine hK.out _ _ ⟨z0A _, z3A _⟩ (fun hHeld => ?_)
            clear hK K
            try simp only [Act.put, List.setIfInBounds_toArray, List.set_cons_zero, List.set_cons_succ]
            refine wpAnyH_ready (rs := [12]) (by kernel_rfl) (by simp) ?_
            refine AllReadyH.cons rfl (fun K hK => ?_) AllReadyH.nil
            rw [if_pos (by rfl)]
            go_simp
            refine hK.out _ _ ⟨z0A _, z3A _⟩ (fun hHeld => ?_)
            clear hK K
            try simp only [Act.put, List.setIfInBounds_toArray, List.set_cons_zero, List.set_cons_succ]
            refine wpAnyH_ready (rs := [18]) (by kernel_rfl) (by simp) ?_
            refine AllReadyH.cons rfl (fun K hK => ?_) AllReadyH.nil
            refine step_append_run rfl _ _ 87 87 rfl (.slice avl ff.late.length cvl) (.slice (some ⟨u2.heap.size, 0, none⟩) 1 1) rfl rfl hr4 ?_
            refine hK.out _ _ ⟨t0, t3⟩ (fun hHeld => ?_)
            clear hK K
            try simp only [Act.put, List.setIfInBounds_toArray]
            refine takeH_to (i := 19) (v := .pointer (some ⟨g, I * 3, none⟩)) (some 107) rfl rfl (by kernel_rfl) (by kernel_rfl) (by kernel_rfl) (fun _ _ _ h => h) (Or.inl ⟨by rfl, fun u hu => by (try dsimp only at hu); (try obtain ⟨hu1, hu2⟩ := hu); go_simp⟩) (by assumption) ?_
            try simp only [Act.put]
            refine takeH_to (i := 20) (v := .pointer (some ⟨g, I * 3 + 2, none⟩)) (some 108) rfl rfl (by kernel_rfl) (by kernel_rfl) (by kernel_rfl) (fun _ _ _ h => h) (Or.inl ⟨by rfl, fun u hu => by (try dsimp only at hu); (try obtain ⟨hu1, hu2⟩ := hu); go_simp⟩) (by assumption) ?_
            try simp only [Act.put]
            refine wpAnyH_ready (rs := [21]) (by kernel_rfl) (by simp) ?_
            refine AllReadyH.cons rfl (fun K hK => ?_) AllReadyH.nil
            rw [if_pos (by rfl)]
            go_simp
            refine hK.out _ _ yS (fun hHeld => ?_)
            clear hK K
            try simp only [Act.put, List.setIfInBounds_toArray, List.set_cons_zero, List.set_cons_succ]
            refine wpAnyH_done (by kernel_rfl) ?_ _
            exact And.intro rfl rfl
        case hc =>
          go_wp2
          go_roundg (x.size - (k + 1))
          case measure => omega
          case rel => exact ⟨k + 1, _, ⟨ff.name, ff.bytes ++ [x[k]], ff.late ++ [dd.count + 1], .slice a5 (ff.bytes.length + 1) c5, .slice a6 (ff.late.length + 1) c6⟩, Nat.le_refl _, by omega, by go_num, PP.out.next (by omega) HS1.out R3A.out.1 (by simp only [List.set_set]) rfl rfl rfl rfl rfl (by rw [bang_any x k hlt]) rfl (H1A.out.2.trans (R2A.out.2.trans R3A.out.2))⟩
    · obtain rfl : k = x.size := by omega
      have d3 : decide (x.size < x.size) = false := by simp
      go_wp2
      go_ret
      refine ⟨rfl, dd, PP.out.rep, ?_, PP.out.step⟩
      have := PP.out.pl
      rw [List.take_of_length_le (by omega)] at this
      exact this


set_option maxHeartbeats 8000000 in
theorem rappend_new {w : World} {B b : Nat} {d : Rs} (h : RRep w B b d) (ok : ROk d.pl) (hr : Rising d.names) (n x : ByteArray) (hns : n.size ≤ 1000) (hxs : x.size ≤ 1000) (hcnt : d.count ≤ 900000) (hp : d.pl.power = true) (hm : mayBe n = true) (hh : has d.names n = false) (hf2 : ¬ 16 ≤ d.files.length) (hf : ¬ d.most < d.pl.used + x.size) :
    Calls Try.prog 44 #[.pointer (some ⟨b, 0, none⟩), .string n, .string x] w fun e w' => e = .returned (.int .i64 0) ∧ ∃ d', RRep w' B b d' ∧ d'.pl = (d.pl.spent.rmake n).more (place d.names n) x.data.toList ∧ Step (d.foot b) (d'.foot b) w w' := by
  have kp := rpower_any h ok.left
  have km := right_any n (by omega)
  have hfew := ok.dfew
  have okS : ∀ d1 : Rs, d1.pl = d.pl.spent → ROk d1.pl := fun d1 e => by rw [e]; exact ⟨ok.few, ok.most, by show (if 0 < d.left then d.left - 1 else d.left) ≤ _; have : d.left ≤ _ := ok.left; split <;> omega, ok.used, ok.lates, ok.count, ok.small⟩
  rw [hp] at kp
  rw [hm] at km
  have KU : Aside (∀ (d1 : Rs) (u : World), RRep u B b d1 → d1.pl = d.pl.spent → Calls Try.prog 60 #[.pointer (some ⟨b, 0, none⟩)] u fun e w' => e = .returned (.tuple #[.int .i64 (d.pl.used : Nat), .int .i64 (d.pl.lates : Nat)]) ∧ w' = u) := fun d1 u hu e => by
    have := rused_any hu (okS d1 e)
    rw [e] at this
    exact this
  have KA : Aside (∀ (d1 : Rs) (u : World), RRep u B b d1 → d1.files = d.files → Calls Try.prog 48 #[.pointer (some ⟨b, 0, none⟩), .string n] u fun e w' => e = .returned (.int .i64 (-1)) ∧ w' = u) := fun d1 u hu hf => by
    have := at_any hu (by rw [hf]; omega) n
    rw [show d1.names = d.names by unfold Rs.names; rw [hf]] at this
    rw [at_place hr, hh] at this
    exact this
  have hmost : d.most ≤ 60000 := ok.most
  have hused : d.pl.used ≤ 60000 := ok.used
  have HM : Aside (∀ d1 : Rs, d1.pl = d.pl.spent → d1.most = d.most ∧ d1.count = d.count) := fun d1 e => ⟨congrArg RS.most e, congrArg RS.count e⟩
  have hpl : place d.names n ≤ d.files.length := by have := place_le d.names n; simpa [Rs.names] using this
  have hnot := has_not.1 hh
  have KP : Aside (∀ (d1 : Rs) (u : World), RRep u B b d1 → d1.files = d.files → Calls Try.prog 88 #[.pointer (some ⟨b, 0, none⟩), .agg #[.string n, .slice none 0 0, .slice none 0 0]] u fun e w' => e = .returned (.tuple #[]) ∧ ∃ v', RRep w' B b ({ d1 with files := d1.files.take (place d.names n) ++ ⟨n, [], [], .slice none 0 0, .slice none 0 0⟩ :: d1.files.drop (place d.names n), vf := v' } : Rs) ∧ Step (d1.foot b) (Rs.foot b ({ d1 with files := d1.files.take (place d.names n) ++ ⟨n, [], [], .slice none 0 0, .slice none 0 0⟩ :: d1.files.drop (place d.names n), vf := v' } : Rs)) u w') := fun d1 u hu hf1 => by
    have hn1 : d1.names = d.names := by unfold Rs.names; rw [hf1]
    have := rput_any (f := ⟨n, [], [], .slice none 0 0, .slice none 0 0⟩) hu (by rw [hf1]; omega) (by rw [hn1]; exact hr) (World.ownsRow_nil _ _ _ _) (World.ownsRow_nil _ _ _ _) (fun j hj => by simp [Gv.obs, ob, Value.ownBlock] at hj) (by simp [Gv.obs, ob, Value.ownBlock])
    rw [hn1] at this
    refine this.mono ?_
    rintro e w' ⟨rfl, v', a1, a2⟩
    exact ⟨rfl, v', a1, a2.weak fun k hk => .inl (by simpa [Gv.obs, ob, Value.ownBlock] using hk)⟩
  have KA2 : Aside (∀ (d1 : Rs) (v' : Value) (u : World), RRep u B b ({ d1 with files := d1.files.take (place d.names n) ++ ⟨n, [], [], .slice none 0 0, .slice none 0 0⟩ :: d1.files.drop (place d.names n), vf := v' } : Rs) → d1.files = d.files → Calls Try.prog 48 #[.pointer (some ⟨b, 0, none⟩), .string n] u fun e w' => e = .returned (.int .i64 (place d.names n : Int)) ∧ w' = u) := fun d1 v' u hu hf1 => by
    have := at_any hu (by show (d1.files.take (place d.names n) ++ _ :: d1.files.drop (place d.names n)).length ≤ 1000; rw [hf1, List.length_append, List.length_cons, List.length_take, List.length_drop]; omega) n
    have hnm : Rs.names ({ d1 with files := d1.files.take (place d.names n) ++ ⟨n, [], [], .slice none 0 0, .slice none 0 0⟩ :: d1.files.drop (place d.names n), vf := v' } : Rs) = d.names.take (place d.names n) ++ n :: d.names.drop (place d.names n) := by
      unfold Rs.names
      simp only
      rw [hf1]
      simp
    have hri := Rising.insert hr n hnot
    have hmem : has (d.names.take (place d.names n) ++ n :: d.names.drop (place d.names n)) n = true := has_iff.2 (List.mem_append_right _ List.mem_cons_self)
    have hnl : d.names.length = d.files.length := by simp [Rs.names]
    have hpp : place (d.names.take (place d.names n) ++ n :: d.names.drop (place d.names n)) n = place d.names n := by
      have hg := get_mid d.names (place d.names n) (by omega) n
      have hlt := (List.getElem?_eq_some_iff.1 hg).1
      have : place (d.names.take (place d.names n) ++ n :: d.names.drop (place d.names n)) (d.names.take (place d.names n) ++ n :: d.names.drop (place d.names n))[place d.names n]! = place d.names n := place_at hri (place d.names n) hlt
      rw [getElem!_pos (d.names.take (place d.names n) ++ n :: d.names.drop (place d.names n)) (place d.names n) hlt, (List.getElem?_eq_some_iff.1 hg).2] at this
      exact this
    rw [hnm, at_place hri, hmem, hpp] at this
    exact this
  have HS : Aside (d.pl.spent.rmake n = { d.pl.spent with files := d.pl.spent.files.take (place d.names n) ++ ⟨n, [], []⟩ :: d.pl.spent.files.drop (place d.names n) } ∧ (d.pl.spent.rmake n).files[place d.names n]? = some ⟨n, [], []⟩) := by
    have e : d.pl.spent.rmake n = { d.pl.spent with files := d.pl.spent.files.take (place d.names n) ++ ⟨n, [], []⟩ :: d.pl.spent.files.drop (place d.names n) } := by
      unfold RS.rmake
      rw [show d.pl.spent.names = d.names from rnames_pl d, hh]
      rfl
    refine ⟨e, ?_⟩
    rw [e]
    exact get_mid d.pl.spent.files (place d.names n) (by show _ ≤ (d.files.map Gv.pl).length; rw [List.length_map]; exact hpl) _
  have P0' : Aside (∀ (d1 : Rs) (v' : Value) (u u1 : World), RRep u1 B b ({ d1 with files := d1.files.take (place d.names n) ++ ⟨n, [], [], .slice none 0 0, .slice none 0 0⟩ :: d1.files.drop (place d.names n), vf := v' } : Rs) → d1.pl = d.pl.spent → d1.files = d.files → d1.foot b = d.foot b → Step (d.foot b) (d.foot b) w u → Step (d1.foot b) (Rs.foot b ({ d1 with files := d1.files.take (place d.names n) ++ ⟨n, [], [], .slice none 0 0, .slice none 0 0⟩ :: d1.files.drop (place d.names n), vf := v' } : Rs)) u u1 → Put w u1 B b (place d.names n) (d.files.length + 1) (d.foot b) (d.pl.spent.rmake n) x.data.toList 0 ({ d1 with files := d1.files.take (place d.names n) ++ ⟨n, [], [], .slice none 0 0, .slice none 0 0⟩ :: d1.files.drop (place d.names n), vf := v' } : Rs) ⟨n, [], [], .slice none 0 0, .slice none 0 0⟩) := fun d1 v' u u1 h1 p1 f1 g1 s1 s2 => by
    refine ⟨h1, by rw [f1]; exact get_mid d.files _ hpl _, ?_, by simp, by simp, ?_, ?_, by rw [g1] at s2; exact s1.trans s2⟩
    · rw [List.take_zero, more_nil HS.out.2, HS.out.1, ← p1]
      simp [Rs.pl, Gv.pl]
    · have : d1.count = d.count := congrArg RS.count p1
      simp only
      omega
    · simp only
      rw [f1, List.length_append, List.length_cons, List.length_take, List.length_drop]
      omega
  clear h ok hp hm okS
  generalize hU : d.pl.used = U at *
  generalize hLT : d.pl.lates = LT at *
  have d1' : decide ((d.most : Int) < (U : Int) + (x.size : Int)) = false := decide_eq_false (by omega)
  have d0' : decide ((16 : Int) ≤ (d.files.length : Int)) = false := decide_eq_false (by omega)
  have hw : IntKind.i64.wrap ((U : Int) + (x.size : Int)) = (U : Int) + (x.size : Int) := by rw [IntKind.wrap_i64]; omega
  have HS1 : Aside ((d.pl.spent.rmake n).files[place d.names n]? = some ⟨n, [], []⟩) := HS.out.2
  clear hh hr hnot HS
  generalize hI : place d.names n = I at *
  generalize hNN : d.files.length + 1 = NN at *
  go_enter Try.func44, Try.ntmps44
  go_wp2_with (first
    | (go_at_call 86; refine kp.mono ?_; rintro e w1 ⟨rfl, d1, h1, p1, f1, g1, s1⟩; have c2 := h1.c2; have c0 := h1.c0; rw [(HM.out d1 p1).1] at c2; obtain ⟨a0, cap0, ev0⟩ := own_any h1.tab; rw [ev0, f1] at c0)
    | (go_at_call 87; refine (km _).mono ?_; rintro e w1' ⟨rfl, rfl⟩)
    | (go_at_call 60; refine (KU.out _ _ h1 p1).mono ?_; rintro e w2 ⟨rfl, rfl⟩)
    | (go_at_call 48; refine (KA.out _ _ h1 f1).mono ?_; rintro e w2 ⟨rfl, rfl⟩; clear KA)
    | (go_at_call 88; refine (KP.out _ _ h1 f1).mono ?_; rintro e w3' ⟨rfl, v', h3, s3⟩; clear KP)
    | (go_at_call 48; refine (KA2.out _ _ _ h3 f1).mono ?_; rintro e w4' ⟨rfl, rfl⟩; have P0 : Aside _ := P0'.out d1 _ _ _ h3 p1 f1 g1 s1 s3; clear KA2))
  clear KU kp km HM P0' h1 h3 s3 p1 s1 c0 c2
  have hxl : x.data.toList.length = x.size := by rw [Array.length_toList]; rfl
  go_loopg [10] x.size (fun gh s10 wr => ∃ (k : Nat) (dd : Rs) (ff : Gv), x.size - k ≤ gh ∧ k ≤ x.size ∧ s10 = .int .i64 (k : Int) ∧ Aside (Put w wr B b I NN (d.foot b) (d.pl.spent.rmake n) x.data.toList k dd ff))
  case atStart => exact ⟨0, _, _, by omega, by omega, rfl, P0⟩
  case round =>
    obtain ⟨k, dd, ff, hgh, hk, rfl, PP⟩ := hrel
    by_cases hlt : k < x.size
    · have d3 : decide (k < x.size) = true := by simpa using hlt
      have hnb := PP.out.nb
      have hnl := PP.out.nl
      have hnc := PP.out.nc
      have hlen := PP.out.len
      obtain ⟨g, cap, ev, hcap, hcm, hg⟩ := PP.out.rep.vf_form PP.out.get
      rw [hlen] at ev hcap
      have hiN : I < NN := by rw [← hlen]; exact (List.getElem?_eq_some_iff.1 PP.out.get).1
      have y1 := PP.out.rep.c1
      have yf1 := PP.out.rep.fz 1
      have H1 := set_cell1 PP.out.rep (dd.count + 1)
      rw [show ((dd.count + 1 : Nat) : Int) = (dd.count : Int) + 1 by omega] at H1
      have hw1 : IntKind.i64.wrap ((dd.count : Int) + 1) = (dd.count : Int) + 1 := by rw [IntKind.wrap_i64]; omega
      have H1A : Aside _ := H1
      have hgA : Aside (dd.vf.ownBlock = some g) := hg
      clear H1
      go_wp2
      generalize hW1 : wr.setCell ⟨b, 1, none⟩ (.int .i64 ((dd.count : Int) + 1)) = u1 at *
      clear hW1 y1 yf1 hw1
      -- the byte
      obtain ⟨a5, c5, w3, hr3, q0, q1, q2, R2, S2⟩ := H1A.out.1.byteStep (i := I) PP.out.get hgA.out (by omega) x[k]
      have R2A : Aside _ := And.intro R2 S2
      obtain ⟨avb, cvb, eavb⟩ := own_any (PP.out.rep.rb ff (List.mem_of_getElem? PP.out.get))
      have x0 := H1A.out.1.c0
      have x1 := (H1A.out.1.fcells (i := I) PP.out.get hgA.out).2.1
      have hbl := H1A.out.1.b_lt
      have hgl : g < u1.heap.size := (H1A.out.1.tab.lt g hgA.out).2
      dsimp only at x0 q0
      rw [ev] at x0 q0
      rw [eavb] at x1 q1 hr3
      have x0A : ∀ o : Obj, (u1.alloc o).cell? ⟨b, 0, none⟩ = some (.slice (some ⟨g, 0, none⟩) NN cap) := fun o => cell_below x0 ((Below.refl _ _).alloc (Nat.le_refl _) o)
      have x1A : ∀ o : Obj, (u1.alloc o).cell? ⟨g, I * 3 + 1, none⟩ = some (.slice avb ff.bytes.length cvb) := fun o => cell_below x1 ((Below.refl _ _).alloc (Nat.le_refl _) o)
      have n1 : ¬ b = u1.heap.size := by omega
      have n2 : ¬ u1.heap.size = b := by omega
      have n3 : ¬ g = u1.heap.size := by omega
      have n4 : ¬ u1.heap.size = g := by omega
      have hbg : g ≠ b := PP.out.rep.b_vf hgA.out
      clear R2 S2 hg
      have xS : (w3.setCell ⟨g, I * 3 + 1, none⟩ (.slice a5 (ff.bytes.length + 1) c5)).cell? ⟨b, 0, none⟩ = some (.slice (some ⟨g, 0, none⟩) NN cap) := by
        have := R2A.out.1.c0
        dsimp only at this
        rw [ev] at this
        exact this
      apply wp_only
      case hr =>
        refine wp_region_held_drew (S := fun u => u.cell? ⟨b, 0, none⟩ = some (.slice (some ⟨g, 0, none⟩) NN cap)) (by kernel_rfl) x0 (fun hHeld => ?_)
        change wpAnyH _ _ _ _ _ _ _ _ (World.drew _)
        refine takeH_to (i := 0) (v := .pointer (some ⟨b, 0, none⟩)) (some 68) rfl rfl (by kernel_rfl) (by kernel_rfl) (by kernel_rfl) (fun _ _ _ h => h) (Or.inl ⟨by rfl, fun u hu => by (try dsimp only at hu); (try obtain ⟨hu1, hu2⟩ := hu); go_simp⟩) (by assumption) ?_
        try simp only [Act.put, List.setIfInBounds_toArray, List.set_cons_zero, List.set_cons_succ]
        refine takeH_to (i := 1) (v := .pointer (some ⟨b, 0, none⟩)) (some 69) rfl rfl (by kernel_rfl) (by kernel_rfl) (by kernel_rfl) (fun _ _ _ h => h) (Or.inl ⟨by rfl, fun u hu => by (try dsimp only at hu); (try obtain ⟨hu1, hu2⟩ := hu); go_simp⟩) (by assumption) ?_
        try simp only [Act.put, List.setIfInBounds_toArray, List.set_cons_zero, List.set_cons_succ]
        refine takeH_to (i := 2) (v := .pointer (some ⟨b, 0, none⟩)) (some 70) rfl rfl (by kernel_rfl) (by kernel_rfl) (by kernel_rfl) (fun _ _ _ h => h) (Or.inl ⟨by rfl, fun u hu => by (try dsimp only at hu); (try obtain ⟨hu1, hu2⟩ := hu); go_simp⟩) (by assumption) ?_
        try simp only [Act.put, List.setIfInBounds_toArray, List.set_cons_zero, List.set_cons_succ]
        refine takeH_to (i := 3) (v := .slice (some ⟨g, 0, none⟩) NN cap) (some 71) rfl rfl (by kernel_rfl) (by kernel_rfl) (by kernel_rfl) (fun _ _ _ h => h) (Or.inl ⟨by rfl, fun u hu => by (try dsimp only at hu); (try obtain ⟨hu1, hu2⟩ := hu); go_simp⟩) (by assumption) ?_
        try simp only [Act.put, List.setIfInBounds_toArray, List.set_cons_zero, List.set_cons_succ]
        refine takeH_to (i := 4) (v := .int .i64 (I : Int)) (some 72) rfl rfl (by kernel_rfl) (by kernel_rfl) (by kernel_rfl) (fun _ _ _ h => h) (Or.inl ⟨by rfl, fun u hu => by (try dsimp only at hu); (try obtain ⟨hu1, hu2⟩ := hu); go_simp⟩) (by assumption) ?_
        try simp only [Act.put, List.setIfInBounds_toArray, List.set_cons_zero, List.set_cons_succ]
        refine takeH_to (i := 5) (v := .pointer (some ⟨b, 0, none⟩)) (some 73) rfl rfl (by kernel_rfl) (by kernel_rfl) (by kernel_rfl) (fun _ _ _ h => h) (Or.inl ⟨by rfl, fun u hu => by (try dsimp only at hu); (try obtain ⟨hu1, hu2⟩ := hu); go_simp⟩) (by assumption) ?_
        try simp only [Act.put, List.setIfInBounds_toArray, List.set_cons_zero, List.set_cons_succ]
        refine takeH_to (i := 6) (v := .pointer (some ⟨b, 0, none⟩)) (some 74) rfl rfl (by kernel_rfl) (by kernel_rfl) (by kernel_rfl) (fun _ _ _ h => h) (Or.inl ⟨by rfl, fun u hu => by (try dsimp only at hu); (try obtain ⟨hu1, hu2⟩ := hu); go_simp⟩) (by assumption) ?_
        try simp only [Act.put, List.setIfInBounds_toArray, List.set_cons_zero, List.set_cons_succ]
        refine takeH_to (i := 7) (v := .pointer (some ⟨b, 0, none⟩)) (some 75) rfl rfl (by kernel_rfl) (by kernel_rfl) (by kernel_rfl) (fun _ _ _ h => h) (Or.inl ⟨by rfl, fun u hu => by (try dsimp only at hu); (try obtain ⟨hu1, hu2⟩ := hu); go_simp⟩) (by assumption) ?_
        try simp only [Act.put, List.setIfInBounds_toArray, List.set_cons_zero, List.set_cons_succ]
        refine takeH_to (i := 8) (v := .slice (some ⟨g, 0, none⟩) NN cap) (some 76) rfl rfl (by kernel_rfl) (by kernel_rfl) (by kernel_rfl) (fun _ _ _ h => h) (Or.inl ⟨by rfl, fun u hu => by (try dsimp only at hu); (try obtain ⟨hu1, hu2⟩ := hu); go_simp⟩) (by assumption) ?_
        try simp only [Act.put, List.setIfInBounds_toArray, List.set_cons_zero, List.set_cons_succ]
        refine takeH_to (i := 9) (v := .int .i64 (I : Int)) (some 77) rfl rfl (by kernel_rfl) (by kernel_rfl) (by kernel_rfl) (fun _ _ _ h => h) (Or.inl ⟨by rfl, fun u hu => by (try dsimp only at hu); (try obtain ⟨hu1, hu2⟩ := hu); go_simp⟩) (by assumption) ?_
        try simp only [Act.put, List.setIfInBounds_toArray, List.set_cons_zero, List.set_cons_succ]
        refine takeH_to (i := 10) (v := .pointer (some ⟨g, I * 3, none⟩)) (some 78) rfl rfl (by kernel_rfl) (by kernel_rfl) (by kernel_rfl) (fun _ _ _ h => h) (Or.inl ⟨by rfl, fun u hu => by (try dsimp only at hu); (try obtain ⟨hu1, hu2⟩ := hu); go_simp⟩) (by assumption) ?_
        try simp only [Act.put, List.setIfInBounds_toArray, List.set_cons_zero, List.set_cons_succ]
        refine takeH_to (i := 11) (v := .pointer (some ⟨g, I * 3 + 1, none⟩)) (some 79) rfl rfl (by kernel_rfl) (by kernel_rfl) (by kernel_rfl) (fun _ _ _ h => h) (Or.inl ⟨by rfl, fun u hu => by (try dsimp only at hu); (try obtain ⟨hu1, hu2⟩ := hu); go_simp⟩) (by assumption) ?_
        try simp only [Act.put, List.setIfInBounds_toArray, List.set_cons_zero, List.set_cons_succ]
        refine takeH_to (i := 13) (v := .string x) (some 81) rfl rfl (by kernel_rfl) (by kernel_rfl) (by kernel_rfl) (fun _ _ _ h => h) (Or.inl ⟨by rfl, fun u hu => by (try dsimp only at hu); (try obtain ⟨hu1, hu2⟩ := hu); go_simp⟩) (by assumption) ?_
        try simp only [Act.put, List.setIfInBounds_toArray, List.set_cons_zero, List.set_cons_succ]
        refine takeH_to (i := 14) (v := .int .i64 (k : Int)) (some 82) rfl rfl (by kernel_rfl) (by kernel_rfl) (by kernel_rfl) (fun _ _ _ h => h) (Or.inl ⟨by rfl, fun u hu => by (try dsimp only at hu); (try obtain ⟨hu1, hu2⟩ := hu); go_simp⟩) (by assumption) ?_
        try simp only [Act.put, List.setIfInBounds_toArray, List.set_cons_zero, List.set_cons_succ]
        refine takeH_to (i := 15) (v := .int .u8 (x[k].toNat : Int)) (some 83) rfl rfl (by kernel_rfl) (by kernel_rfl) (by kernel_rfl) (fun _ _ _ h => h) (Or.inl ⟨by rfl, fun u hu => by (try dsimp only at hu); (try obtain ⟨hu1, hu2⟩ := hu); go_simp⟩) (by assumption) ?_
        try simp only [Act.put, List.setIfInBounds_toArray, List.set_cons_zero, List.set_cons_succ]
        refine wpAnyH_ready (rs := [12, 16]) (by kernel_rfl) (by simp) ?_
        refine AllReadyH.cons rfl (fun K hK => ?_) (AllReadyH.cons rfl (fun K hK => ?_) AllReadyH.nil)
        · rw [if_pos (by rfl)]
          go_simp
          refine hK.out _ _ x0 (fun hHeld => ?_)
          clear hK K
          try simp only [Act.put, List.setIfInBounds_toArray, List.set_cons_zero, List.set_cons_succ]
          refine wpAnyH_ready (rs := [16]) (by kernel_rfl) (by simp) ?_
          refine AllReadyH.cons rfl (fun K hK => ?_) AllReadyH.nil
          rw [if_pos (by rfl)]
          go_simp
          refine hK.out _ _ (x0A _) (fun hHeld => ?_)
          clear hK K
          try simp only [Act.put, List.setIfInBounds_toArray, List.set_cons_zero, List.set_cons_succ]
          refine wpAnyH_ready (rs := [17]) (by kernel_rfl) (by simp) ?_
          refine AllReadyH.cons rfl (fun K hK => ?_) AllReadyH.nil
          refine step_append_run rfl _ _ 49 49 rfl (.slice avb ff.bytes.length cvb) (.slice (some ⟨u1.heap.size, 0, none⟩) 1 1) rfl rfl hr3 ?_
          refine hK.out _ _ q0 (fun hHeld => ?_)
          clear hK K
          try simp only [Act.put, List.setIfInBounds_toArray]
          refine takeH_to (i := 18) (v := .pointer (some ⟨g, I * 3, none⟩)) (some 86) rfl rfl (by kernel_rfl) (by kernel_rfl) (by kernel_rfl) (fun _ _ _ h => h) (Or.inl ⟨by rfl, fun u hu => by (try dsimp only at hu); (try obtain ⟨hu1, hu2⟩ := hu); go_simp⟩) (by assumption) ?_
          try simp only [Act.put]
          refine takeH_to (i := 19) (v := .pointer (some ⟨g, I * 3 + 1, none⟩)) (some 87) rfl rfl (by kernel_rfl) (by kernel_rfl) (by kernel_rfl) (fun _ _ _ h => h) (Or.inl ⟨by rfl, fun u hu => by (try dsimp only at hu); (try obtain ⟨hu1, hu2⟩ := hu); go_simp⟩) (by assumption) ?_
          try simp only [Act.put]
          refine wpAnyH_ready (rs := [20]) (by kernel_rfl) (by simp) ?_
          refine AllReadyH.cons rfl (fun K hK => ?_) AllReadyH.nil
          rw [if_pos (by rfl)]
          go_simp
          refine hK.out _ _ xS (fun hHeld => ?_)
          clear hK K
          try simp only [Act.put, List.setIfInBounds_toArray, List.set_cons_zero, List.set_cons_succ]
          refine wpAnyH_done (by kernel_rfl) ?_ _
          exact And.intro rfl rfl
        · rw [if_pos (by rfl)]
          go_simp
          refine hK.out _ _ (x0A _) (fun hHeld => ?_)
          clear hK K
          try simp only [Act.put, List.setIfInBounds_toArray, List.set_cons_zero, List.set_cons_succ]
          refine wpAnyH_ready (rs := [12]) (by kernel_rfl) (by simp) ?_
          refine AllReadyH.cons rfl (fun K hK => ?_) AllReadyH.nil
          rw [if_pos (by rfl)]
          go_simp
          refine hK.out _ _ (x0A _) (fun hHeld => ?_)
          clear hK K
          try simp only [Act.put, List.setIfInBounds_toArray, List.set_cons_zero, List.set_cons_succ]
          refine wpAnyH_ready (rs := [17]) (by kernel_rfl) (by simp) ?_
          refine AllReadyH.cons rfl (fun K hK => ?_) AllReadyH.nil
          refine step_append_run rfl _ _ 49 49 rfl (.slice avb ff.bytes.length cvb) (.slice (some ⟨u1.heap.size, 0, none⟩) 1 1) rfl rfl hr3 ?_
          refine hK.out _ _ q0 (fun hHeld => ?_)
          clear hK K
          try simp only [Act.put, List.setIfInBounds_toArray]
          refine takeH_to (i := 18) (v := .pointer (some ⟨g, I * 3, none⟩)) (some 86) rfl rfl (by kernel_rfl) (by kernel_rfl) (by kernel_rfl) (fun _ _ _ h => h) (Or.inl ⟨by rfl, fun u hu => by (try dsimp only at hu); (try obtain ⟨hu1, hu2⟩ := hu); go_simp⟩) (by assumption) ?_
          try simp only [Act.put]
          refine takeH_to (i := 19) (v := .pointer (some ⟨g, I * 3 + 1, none⟩)) (some 87) rfl rfl (by kernel_rfl) (by kernel_rfl) (by kernel_rfl) (fun _ _ _ h => h) (Or.inl ⟨by rfl, fun u hu => by (try dsimp only at hu); (try obtain ⟨hu1, hu2⟩ := hu); go_simp⟩) (by assumption) ?_
          try simp only [Act.put]
          refine wpAnyH_ready (rs := [20]) (by kernel_rfl) (by simp) ?_
          refine AllReadyH.cons rfl (fun K hK => ?_) AllReadyH.nil
          rw [if_pos (by rfl)]
          go_simp
          refine hK.out _ _ xS (fun hHeld => ?_)
          clear hK K
          try simp only [Act.put, List.setIfInBounds_toArray, List.set_cons_zero, List.set_cons_succ]
          refine wpAnyH_done (by kernel_rfl) ?_ _
          exact And.intro rfl rfl
      case hc =>
        go_wp2
        clear x0 x1 x0A x1A n1 n2 n3 n4 q0 q1 q2 hr3 xS hbl hgl
        have hgl2 : g < (w3.setCell ⟨g, I * 3 + 1, none⟩ (.slice a5 (ff.bytes.length + 1) c5)).heap.size := (R2A.out.1.tab.lt g hgA.out).2
        generalize w3.setCell ⟨g, I * 3 + 1, none⟩ (.slice a5 (ff.bytes.length + 1) c5) = u2 at *
        have hget2 : ({ ({ dd with count := dd.count + 1 } : Rs) with files := ({ dd with count := dd.count + 1 } : Rs).files.set I ⟨ff.name, ff.bytes ++ [x[k]], ff.late, .slice a5 (ff.bytes.length + 1) c5, ff.vl⟩ } : Rs).files[I]? = some ⟨ff.name, ff.bytes ++ [x[k]], ff.late, .slice a5 (ff.bytes.length + 1) c5, ff.vl⟩ := by
          show (dd.files.set I _)[I]? = _
          rw [List.getElem?_set]
          simp [(List.getElem?_eq_some_iff.1 PP.out.get).1]
        obtain ⟨a6, c6, w5, hr4, t0, t1, t2, t3, R3, S3⟩ := R2A.out.1.lateStep (i := I) hget2 hgA.out (by show ff.late.length ≤ _; omega) (dd.count + 1)
        have R3A : Aside _ := And.intro R3 S3
        obtain ⟨avl, cvl, eavl⟩ := own_any (PP.out.rep.rl ff (List.mem_of_getElem? PP.out.get))
        have z0 := R2A.out.1.c0
        have z3 := R2A.out.1.c1
        have z1 := (R2A.out.1.fcells (i := I) hget2 hgA.out).2.2
        have yS0 := R3.c0
        have yS1 := R3.c1
        dsimp only at z0 z1 z3 t0 t1 t3 yS0 yS1 hr4 R3A
        rw [ev] at z0 t0 yS0
        rw [eavl] at z1 t1 hr4
        rw [show ((dd.count + 1 : Nat) : Int) = (dd.count : Int) + 1 by omega] at z3 t3 yS1 hr4
        have hbl2 := R2A.out.1.b_lt
        have yS : (w5.setCell ⟨g, I * 3 + 2, none⟩ (.slice a6 (ff.late.length + 1) c6)).cell? ⟨b, 0, none⟩ = some (.slice (some ⟨g, 0, none⟩) NN cap) ∧ (w5.setCell ⟨g, I * 3 + 2, none⟩ (.slice a6 (ff.late.length + 1) c6)).cell? ⟨b, 1, none⟩ = some (.int .i64 ((dd.count : Int) + 1)) := ⟨yS0, yS1⟩
        have z0A : ∀ o : Obj, (u2.alloc o).cell? ⟨b, 0, none⟩ = some (.slice (some ⟨g, 0, none⟩) NN cap) := fun o => cell_below z0 ((Below.refl _ _).alloc (Nat.le_refl _) o)
        have z3A : ∀ o : Obj, (u2.alloc o).cell? ⟨b, 1, none⟩ = some (.int .i64 ((dd.count : Int) + 1)) := fun o => cell_below z3 ((Below.refl _ _).alloc (Nat.le_refl _) o)
        have z1A : ∀ o : Obj, (u2.alloc o).cell? ⟨g, I * 3 + 2, none⟩ = some (.slice avl ff.late.length cvl) := fun o => cell_below z1 ((Below.refl _ _).alloc (Nat.le_refl _) o)
        have m1 : ¬ b = u2.heap.size := by omega
        have m2 : ¬ u2.heap.size = b := by omega
        have m3 : ¬ g = u2.heap.size := by omega
        have m4 : ¬ u2.heap.size = g := by omega
        clear R3 S3 yS0 yS1
        apply wp_only
        case hr =>
          refine wp_region_held_drew (S := fun u => u.cell? ⟨b, 0, none⟩ = some (.slice (some ⟨g, 0, none⟩) NN cap) ∧ u.cell? ⟨b, 1, none⟩ = some (.int .i64 ((dd.count : Int) + 1))) (by kernel_rfl) ⟨z0, z3⟩ (fun hHeld => ?_)
          change wpAnyH _ _ _ _ _ _ _ _ (World.drew _)
          refine takeH_to (i := 0) (v := .pointer (some ⟨b, 0, none⟩)) (some 88) rfl rfl (by kernel_rfl) (by kernel_rfl) (by kernel_rfl) (fun _ _ _ h => h) (Or.inl ⟨by rfl, fun u hu => by (try dsimp only at hu); (try obtain ⟨hu1, hu2⟩ := hu); go_simp⟩) (by assumption) ?_
          try simp only [Act.put, List.setIfInBounds_toArray, List.set_cons_zero, List.set_cons_succ]
          refine takeH_to (i := 1) (v := .pointer (some ⟨b, 0, none⟩)) (some 89) rfl rfl (by kernel_rfl) (by kernel_rfl) (by kernel_rfl) (fun _ _ _ h => h) (Or.inl ⟨by rfl, fun u hu => by (try dsimp only at hu); (try obtain ⟨hu1, hu2⟩ := hu); go_simp⟩) (by assumption) ?_
          try simp only [Act.put, List.setIfInBounds_toArray, List.set_cons_zero, List.set_cons_succ]
          refine takeH_to (i := 2) (v := .pointer (some ⟨b, 0, none⟩)) (some 90) rfl rfl (by kernel_rfl) (by kernel_rfl) (by kernel_rfl) (fun _ _ _ h => h) (Or.inl ⟨by rfl, fun u hu => by (try dsimp only at hu); (try obtain ⟨hu1, hu2⟩ := hu); go_simp⟩) (by assumption) ?_
          try simp only [Act.put, List.setIfInBounds_toArray, List.set_cons_zero, List.set_cons_succ]
          refine takeH_to (i := 3) (v := .slice (some ⟨g, 0, none⟩) NN cap) (some 91) rfl rfl (by kernel_rfl) (by kernel_rfl) (by kernel_rfl) (fun _ _ _ h => h) (Or.inl ⟨by rfl, fun u hu => by (try dsimp only at hu); (try obtain ⟨hu1, hu2⟩ := hu); go_simp⟩) (by assumption) ?_
          try simp only [Act.put, List.setIfInBounds_toArray, List.set_cons_zero, List.set_cons_succ]
          refine takeH_to (i := 4) (v := .int .i64 (I : Int)) (some 92) rfl rfl (by kernel_rfl) (by kernel_rfl) (by kernel_rfl) (fun _ _ _ h => h) (Or.inl ⟨by rfl, fun u hu => by (try dsimp only at hu); (try obtain ⟨hu1, hu2⟩ := hu); go_simp⟩) (by assumption) ?_
          try simp only [Act.put, List.setIfInBounds_toArray, List.set_cons_zero, List.set_cons_succ]
          refine takeH_to (i := 5) (v := .pointer (some ⟨b, 0, none⟩)) (some 93) rfl rfl (by kernel_rfl) (by kernel_rfl) (by kernel_rfl) (fun _ _ _ h => h) (Or.inl ⟨by rfl, fun u hu => by (try dsimp only at hu); (try obtain ⟨hu1, hu2⟩ := hu); go_simp⟩) (by assumption) ?_
          try simp only [Act.put, List.setIfInBounds_toArray, List.set_cons_zero, List.set_cons_succ]
          refine takeH_to (i := 6) (v := .pointer (some ⟨b, 0, none⟩)) (some 94) rfl rfl (by kernel_rfl) (by kernel_rfl) (by kernel_rfl) (fun _ _ _ h => h) (Or.inl ⟨by rfl, fun u hu => by (try dsimp only at hu); (try obtain ⟨hu1, hu2⟩ := hu); go_simp⟩) (by assumption) ?_
          try simp only [Act.put, List.setIfInBounds_toArray, List.set_cons_zero, List.set_cons_succ]
          refine takeH_to (i := 7) (v := .pointer (some ⟨b, 0, none⟩)) (some 95) rfl rfl (by kernel_rfl) (by kernel_rfl) (by kernel_rfl) (fun _ _ _ h => h) (Or.inl ⟨by rfl, fun u hu => by (try dsimp only at hu); (try obtain ⟨hu1, hu2⟩ := hu); go_simp⟩) (by assumption) ?_
          try simp only [Act.put, List.setIfInBounds_toArray, List.set_cons_zero, List.set_cons_succ]
          refine takeH_to (i := 8) (v := .slice (some ⟨g, 0, none⟩) NN cap) (some 96) rfl rfl (by kernel_rfl) (by kernel_rfl) (by kernel_rfl) (fun _ _ _ h => h) (Or.inl ⟨by rfl, fun u hu => by (try dsimp only at hu); (try obtain ⟨hu1, hu2⟩ := hu); go_simp⟩) (by assumption) ?_
          try simp only [Act.put, List.setIfInBounds_toArray, List.set_cons_zero, List.set_cons_succ]
          refine takeH_to (i := 9) (v := .int .i64 (I : Int)) (some 97) rfl rfl (by kernel_rfl) (by kernel_rfl) (by kernel_rfl) (fun _ _ _ h => h) (Or.inl ⟨by rfl, fun u hu => by (try dsimp only at hu); (try obtain ⟨hu1, hu2⟩ := hu); go_simp⟩) (by assumption) ?_
          try simp only [Act.put, List.setIfInBounds_toArray, List.set_cons_zero, List.set_cons_succ]
          refine takeH_to (i := 10) (v := .pointer (some ⟨g, I * 3, none⟩)) (some 98) rfl rfl (by kernel_rfl) (by kernel_rfl) (by kernel_rfl) (fun _ _ _ h => h) (Or.inl ⟨by rfl, fun u hu => by (try dsimp only at hu); (try obtain ⟨hu1, hu2⟩ := hu); go_simp⟩) (by assumption) ?_
          try simp only [Act.put, List.setIfInBounds_toArray, List.set_cons_zero, List.set_cons_succ]
          refine takeH_to (i := 11) (v := .pointer (some ⟨g, I * 3 + 2, none⟩)) (some 99) rfl rfl (by kernel_rfl) (by kernel_rfl) (by kernel_rfl) (fun _ _ _ h => h) (Or.inl ⟨by rfl, fun u hu => by (try dsimp only at hu); (try obtain ⟨hu1, hu2⟩ := hu); go_simp⟩) (by assumption) ?_
          try simp only [Act.put, List.setIfInBounds_toArray, List.set_cons_zero, List.set_cons_succ]
          refine takeH_to (i := 13) (v := .pointer (some ⟨b, 0, none⟩)) (some 101) rfl rfl (by kernel_rfl) (by kernel_rfl) (by kernel_rfl) (fun _ _ _ h => h) (Or.inl ⟨by rfl, fun u hu => by (try dsimp only at hu); (try obtain ⟨hu1, hu2⟩ := hu); go_simp⟩) (by assumption) ?_
          try simp only [Act.put, List.setIfInBounds_toArray, List.set_cons_zero, List.set_cons_succ]
          refine takeH_to (i := 14) (v := .pointer (some ⟨b, 0, none⟩)) (some 102) rfl rfl (by kernel_rfl) (by kernel_rfl) (by kernel_rfl) (fun _ _ _ h => h) (Or.inl ⟨by rfl, fun u hu => by (try dsimp only at hu); (try obtain ⟨hu1, hu2⟩ := hu); go_simp⟩) (by assumption) ?_
          try simp only [Act.put, List.setIfInBounds_toArray, List.set_cons_zero, List.set_cons_succ]
          refine takeH_to (i := 15) (v := .pointer (some ⟨b, 1, none⟩)) (some 103) rfl rfl (by kernel_rfl) (by kernel_rfl) (by kernel_rfl) (fun _ _ _ h => h) (Or.inl ⟨by rfl, fun u hu => by (try dsimp only at hu); (try obtain ⟨hu1, hu2⟩ := hu); go_simp⟩) (by assumption) ?_
          try simp only [Act.put, List.setIfInBounds_toArray, List.set_cons_zero, List.set_cons_succ]
          refine takeH_to (i := 16) (v := .int .i64 ((dd.count : Int) + 1)) (some 104) rfl rfl (by kernel_rfl) (by kernel_rfl) (by kernel_rfl) (fun _ _ _ h => h) (Or.inl ⟨by rfl, fun u hu => by (try dsimp only at hu); (try obtain ⟨hu1, hu2⟩ := hu); go_simp⟩) (by assumption) ?_
          try simp only [Act.put, List.setIfInBounds_toArray, List.set_cons_zero, List.set_cons_succ]
          refine wpAnyH_ready (rs := [12, 17]) (by kernel_rfl) (by simp) ?_
          refine AllReadyH.cons rfl (fun K hK => ?_) (AllReadyH.cons rfl (fun K hK => ?_) AllReadyH.nil)
          · rw [if_pos (by rfl)]
            go_simp
            refine hK.out _ _ ⟨z0, z3⟩ (fun hHeld => ?_)
            clear hK K
            try simp only [Act.put, List.setIfInBounds_toArray, List.set_cons_zero, List.set_cons_succ]
            refine wpAnyH_ready (rs := [17]) (by kernel_rfl) (by simp) ?_
            refine AllReadyH.cons rfl (fun K hK => ?_) AllReadyH.nil
            rw [if_pos (by rfl)]
            go_simp
            refine hK.out _ _ ⟨z0A _, z3A _⟩ (fun hHeld => ?_)
            clear hK K
            try simp only [Act.put, List.setIfInBounds_toArray, List.set_cons_zero, List.set_cons_succ]
            refine wpAnyH_ready (rs := [18]) (by kernel_rfl) (by simp) ?_
            refine AllReadyH.cons rfl (fun K hK => ?_) AllReadyH.nil
            refine step_append_run rfl _ _ 87 87 rfl (.slice avl ff.late.length cvl) (.slice (some ⟨u2.heap.size, 0, none⟩) 1 1) rfl rfl hr4 ?_
            refine hK.out _ _ ⟨t0, t3⟩ (fun hHeld => ?_)
            clear hK K
            try simp only [Act.put, List.setIfInBounds_toArray]
            refine takeH_to (i := 19) (v := .pointer (some ⟨g, I * 3, none⟩)) (some 107) rfl rfl (by kernel_rfl) (by kernel_rfl) (by kernel_rfl) (fun _ _ _ h => h) (Or.inl ⟨by rfl, fun u hu => by (try dsimp only at hu); (try obtain ⟨hu1, hu2⟩ := hu); go_simp⟩) (by assumption) ?_
            try simp only [Act.put]
            refine takeH_to (i := 20) (v := .pointer (some ⟨g, I * 3 + 2, none⟩)) (some 108) rfl rfl (by kernel_rfl) (by kernel_rfl) (by kernel_rfl) (fun _ _ _ h => h) (Or.inl ⟨by rfl, fun u hu => by (try dsimp only at hu); (try obtain ⟨hu1, hu2⟩ := hu); go_simp⟩) (by assumption) ?_
            try simp only [Act.put]
            refine wpAnyH_ready (rs := [21]) (by kernel_rfl) (by simp) ?_
            refine AllReadyH.cons rfl (fun K hK => ?_) AllReadyH.nil
            rw [if_pos (by rfl)]
            go_simp
            refine hK.out _ _ yS (fun hHeld => ?_)
            clear hK K
            try simp only [Act.put, List.setIfInBounds_toArray, List.set_cons_zero, List.set_cons_succ]
            refine wpAnyH_done (by kernel_rfl) ?_ _
            exact And.intro rfl rfl
          · rw [if_pos (by rfl)]
            go_simp
            refine hK.out _ _ ⟨z0A _, z3A _⟩ (fun hHeld => ?_)
            clear hK K
            try simp only [Act.put, List.setIfInBounds_toArray, List.set_cons_zero, List.set_cons_succ]
            refine wpAnyH_ready (rs := [12]) (by kernel_rfl) (by simp) ?_
            refine AllReadyH.cons rfl (fun K hK => ?_) AllReadyH.nil
            rw [if_pos (by rfl)]
            go_simp
            refine hK.out _ _ ⟨z0A _, z3A _⟩ (fun hHeld => ?_)
            clear hK K
            try simp only [Act.put, List.setIfInBounds_toArray, List.set_cons_zero, List.set_cons_succ]
            refine wpAnyH_ready (rs := [18]) (by kernel_rfl) (by simp) ?_
            refine AllReadyH.cons rfl (fun K hK => ?_) AllReadyH.nil
            refine step_append_run rfl _ _ 87 87 rfl (.slice avl ff.late.length cvl) (.slice (some ⟨u2.heap.size, 0, none⟩) 1 1) rfl rfl hr4 ?_
            refine hK.out _ _ ⟨t0, t3⟩ (fun hHeld => ?_)
            clear hK K
            try simp only [Act.put, List.setIfInBounds_toArray]
            refine takeH_to (i := 19) (v := .pointer (some ⟨g, I * 3, none⟩)) (some 107) rfl rfl (by kernel_rfl) (by kernel_rfl) (by kernel_rfl) (fun _ _ _ h => h) (Or.inl ⟨by rfl, fun u hu => by (try dsimp only at hu); (try obtain ⟨hu1, hu2⟩ := hu); go_simp⟩) (by assumption) ?_
            try simp only [Act.put]
            refine takeH_to (i := 20) (v := .pointer (some ⟨g, I * 3 + 2, none⟩)) (some 108) rfl rfl (by kernel_rfl) (by kernel_rfl) (by kernel_rfl) (fun _ _ _ h => h) (Or.inl ⟨by rfl, fun u hu => by (try dsimp only at hu); (try obtain ⟨hu1, hu2⟩ := hu); go_simp⟩) (by assumption) ?_
            try simp only [Act.put]
            refine wpAnyH_ready (rs := [21]) (by kernel_rfl) (by simp) ?_
            refine AllReadyH.cons rfl (fun K hK => ?_) AllReadyH.nil
            rw [if_pos (by rfl)]
            go_simp
            refine hK.out _ _ yS (fun hHeld => ?_)
            clear hK K
            try simp only [Act.put, List.setIfInBounds_toArray, List.set_cons_zero, List.set_cons_succ]
            refine wpAnyH_done (by kernel_rfl) ?_ _
            exact And.intro rfl rfl
        case hc =>
          go_wp2
          go_roundg (x.size - (k + 1))
          case measure => omega
          case rel => exact ⟨k + 1, _, ⟨ff.name, ff.bytes ++ [x[k]], ff.late ++ [dd.count + 1], .slice a5 (ff.bytes.length + 1) c5, .slice a6 (ff.late.length + 1) c6⟩, Nat.le_refl _, by omega, by go_num, PP.out.next (by omega) HS1.out R3A.out.1 (by simp only [List.set_set]) rfl rfl rfl rfl rfl (by rw [bang_any x k hlt]) rfl (H1A.out.2.trans (R2A.out.2.trans R3A.out.2))⟩
    · obtain rfl : k = x.size := by omega
      have d3 : decide (x.size < x.size) = false := by simp
      go_wp2
      go_ret
      refine ⟨rfl, dd, PP.out.rep, ?_, PP.out.step⟩
      have := PP.out.pl
      rw [List.take_of_length_le (by omega)] at this
      exact this

end Go.Proofs.Ytnmamaeoghgegaa.Dk
