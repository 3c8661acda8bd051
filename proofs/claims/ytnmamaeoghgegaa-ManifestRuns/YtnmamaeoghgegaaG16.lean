/-
  Ytnmamaeoghgegaa: the texts DP5, DX9, DX10, one behind the other.
-/
import Derived.Test.YtnmamaeoghgegaaG15
import Derived.Test.YtnmamaeoghgegaaG11
import Derived.Deep.RegionHeld3
/-
  The document's disk: Append.
-/
namespace Go.Proofs.Ytnmamaeoghgegaa.Dk
open Go.RowKit
set_option maxRecDepth 100000

theorem set_cell1 {w : World} {B b : Nat} {d : Rs} (h : RRep w B b d) (m : Nat) : RRep (w.setCell ⟨b, 1, none⟩ (.int .i64 (m : Int))) B b { d with count := m } ∧ Step (d.foot b) (d.foot b) w (w.setCell ⟨b, 1, none⟩ (.int .i64 (m : Int))) :=
  ⟨h.scal rfl rfl (set_same h.blk rfl) (fun _k hk => Below.heap_setCell _ _ _ _ hk), Step.setb _ rfoot_b _ _⟩

set_option maxHeartbeats 8000000 in
theorem rappend_fullB {w : World} {B b : Nat} {d : Rs} (h : RRep w B b d) (ok : ROk d.pl) (hr : Rising d.names) (n x : ByteArray) (hns : n.size ≤ 1000) (hxs : x.size ≤ 1000) (_hcnt : d.count ≤ 900000) (hp : d.pl.power = true) (hm : mayBe n = true) (hh : has d.names n = true) (hf : d.most < d.pl.used + x.size) :
    Calls Try.prog 44 #[.pointer (some ⟨b, 0, none⟩), .string n, .string x] w fun e w' => e = .returned (.int .i64 2) ∧ ∃ d', RRep w' B b d' ∧ d'.pl = d.pl.spent ∧ Step (d.foot b) (d'.foot b) w w' := by
  have kp := rpower_any h ok.left
  have km := right_any n (by omega)
  have hfew := ok.dfew
  have okS : ∀ d1 : Rs, d1.pl = d.pl.spent → ROk d1.pl := fun d1 e => by rw [e]; exact ⟨ok.few, ok.most, by show (if 0 < d.left then d.left - 1 else d.left) ≤ _; have : d.left ≤ _ := ok.left; split <;> omega, ok.used, ok.lates, ok.count, ok.small⟩
  rw [hp] at kp
  rw [hm] at km
  have KU : Aside (∀ (d1 : Rs) (u : World), RRep u B b d1 → d1.pl = d.pl.spent → Calls Try.prog 60 #[.pointer (some ⟨b, 0, none⟩)] u fun e w' => e = .returned (.tuple #[.int .i64 (d.pl.used : Nat), .int .i64 (d.pl.lates : Nat)]) ∧ w' = u) := fun d1 u hu e => by
    have := rused_any hu (okS d1 e)
    rw [e] at this
    exact this
  have KA : Aside (∀ (d1 : Rs) (u : World), RRep u B b d1 → d1.files = d.files → Calls Try.prog 48 #[.pointer (some ⟨b, 0, none⟩), .string n] u fun e w' => e = .returned (.int .i64 (place d.names n : Int)) ∧ w' = u) := fun d1 u hu hf => by
    have := at_any hu (by rw [hf]; omega) n
    rw [show d1.names = d.names by unfold Rs.names; rw [hf]] at this
    rw [at_place hr, hh] at this
    exact this
  have hmost : d.most ≤ 60000 := ok.most
  have hused : d.pl.used ≤ 60000 := ok.used
  have HM : Aside (∀ d1 : Rs, d1.pl = d.pl.spent → d1.most = d.most ∧ d1.count = d.count) := fun d1 e => ⟨congrArg RS.most e, congrArg RS.count e⟩

  clear h ok hp hm okS
  generalize hU : d.pl.used = U at *
  generalize hLT : d.pl.lates = LT at *
  have d1' : decide ((d.most : Int) < (U : Int) + (x.size : Int)) = true := decide_eq_true (by omega)
  have hw : IntKind.i64.wrap ((U : Int) + (x.size : Int)) = (U : Int) + (x.size : Int) := by rw [IntKind.wrap_i64]; omega
  go_enter Try.func44, Try.ntmps44
  go_wp2_with (first
    | (go_at_call 86; refine kp.mono ?_; rintro e w1 ⟨rfl, d1, h1, p1, f1, g1, s1⟩; have c2 := h1.c2; have c0 := h1.c0; rw [(HM.out d1 p1).1] at c2; obtain ⟨a0, cap0, ev0⟩ := own_any h1.tab; rw [ev0, f1] at c0)
    | (go_at_call 87; refine (km _).mono ?_; rintro e w1' ⟨rfl, rfl⟩)
    | (go_at_call 60; refine (KU.out _ _ h1 p1).mono ?_; rintro e w2 ⟨rfl, rfl⟩)
    | (go_at_call 48; refine (KA.out _ _ h1 f1).mono ?_; rintro e w2 ⟨rfl, rfl⟩))
  go_ret
  exact ⟨rfl, d1, h1, p1, g1 ▸ s1⟩


set_option maxHeartbeats 8000000 in
theorem rappend_fullC {w : World} {B b : Nat} {d : Rs} (h : RRep w B b d) (ok : ROk d.pl) (hr : Rising d.names) (n x : ByteArray) (hns : n.size ≤ 1000) (_hxs : x.size ≤ 1000) (_hcnt : d.count ≤ 900000) (hp : d.pl.power = true) (hm : mayBe n = true) (hh : has d.names n = false) (hf : 16 ≤ d.files.length) :
    Calls Try.prog 44 #[.pointer (some ⟨b, 0, none⟩), .string n, .string x] w fun e w' => e = .returned (.int .i64 2) ∧ ∃ d', RRep w' B b d' ∧ d'.pl = d.pl.spent ∧ Step (d.foot b) (d'.foot b) w w' := by
  have kp := rpower_any h ok.left
  have km := right_any n (by omega)
  have hfew := ok.dfew
  have okS : ∀ d1 : Rs, d1.pl = d.pl.spent → ROk d1.pl := fun d1 e => by rw [e]; exact ⟨ok.few, ok.most, by show (if 0 < d.left then d.left - 1 else d.left) ≤ _; have : d.left ≤ _ := ok.left; split <;> omega, ok.used, ok.lates, ok.count, ok.small⟩
  rw [hp] at kp
  rw [hm] at km
  have KU : Aside (∀ (d1 : Rs) (u : World), RRep u B b d1 → d1.pl = d.pl.spent → Calls Try.prog 60 #[.pointer (some ⟨b, 0, none⟩)] u fun e w' => e = .returned (.tuple #[.int .i64 (d.pl.used : Nat), .int .i64 (d.pl.lates : Nat)]) ∧ w' = u) := fun d1 u hu e => by
    have := rused_any hu (okS d1 e)
    rw [e] at this
    exact this
  have KA : Aside (∀ (d1 : Rs) (u : World), RRep u B b d1 → d1.files = d.files → Calls Try.prog 48 #[.pointer (some ⟨b, 0, none⟩), .string n] u fun e w' => e = .returned (.int .i64 (-1)) ∧ w' = u) := fun d1 u hu hf => by
    have := at_any hu (by rw [hf]; omega) n
    rw [show d1.names = d.names by unfold Rs.names; rw [hf]] at this
    rw [at_place hr, hh] at this
    exact this
  have hmost : d.most ≤ 60000 := ok.most
  have hused : d.pl.used ≤ 60000 := ok.used
  have HM : Aside (∀ d1 : Rs, d1.pl = d.pl.spent → d1.most = d.most ∧ d1.count = d.count) := fun d1 e => ⟨congrArg RS.most e, congrArg RS.count e⟩

  clear h ok hp hm okS
  generalize hU : d.pl.used = U at *
  generalize hLT : d.pl.lates = LT at *
  have d1' : decide ((16 : Int) ≤ (d.files.length : Int)) = true := decide_eq_true (by omega)
  go_enter Try.func44, Try.ntmps44
  go_wp2_with (first
    | (go_at_call 86; refine kp.mono ?_; rintro e w1 ⟨rfl, d1, h1, p1, f1, g1, s1⟩; have c2 := h1.c2; have c0 := h1.c0; rw [(HM.out d1 p1).1] at c2; obtain ⟨a0, cap0, ev0⟩ := own_any h1.tab; rw [ev0, f1] at c0)
    | (go_at_call 87; refine (km _).mono ?_; rintro e w1' ⟨rfl, rfl⟩)
    | (go_at_call 60; refine (KU.out _ _ h1 p1).mono ?_; rintro e w2 ⟨rfl, rfl⟩)
    | (go_at_call 48; refine (KA.out _ _ h1 f1).mono ?_; rintro e w2 ⟨rfl, rfl⟩))
  go_ret
  exact ⟨rfl, d1, h1, p1, g1 ▸ s1⟩


set_option maxHeartbeats 8000000 in
theorem rappend_fullE {w : World} {B b : Nat} {d : Rs} (h : RRep w B b d) (ok : ROk d.pl) (hr : Rising d.names) (n x : ByteArray) (hns : n.size ≤ 1000) (hxs : x.size ≤ 1000) (_hcnt : d.count ≤ 900000) (hp : d.pl.power = true) (hm : mayBe n = true) (hh : has d.names n = false) (hf2 : ¬ 16 ≤ d.files.length) (hf : d.most < d.pl.used + x.size) :
    Calls Try.prog 44 #[.pointer (some ⟨b, 0, none⟩), .string n, .string x] w fun e w' => e = .returned (.int .i64 2) ∧ ∃ d', RRep w' B b d' ∧ d'.pl = d.pl.spent ∧ Step (d.foot b) (d'.foot b) w w' := by
  have kp := rpower_any h ok.left
  have km := right_any n (by omega)
  have hfew := ok.dfew
  have okS : ∀ d1 : Rs, d1.pl = d.pl.spent → ROk d1.pl := fun d1 e => by rw [e]; exact ⟨ok.few, ok.most, by show (if 0 < d.left then d.left - 1 else d.left) ≤ _; have : d.left ≤ _ := ok.left; split <;> omega, ok.used, ok.lates, ok.count, ok.small⟩
  rw [hp] at kp
  rw [hm] at km
  have KU : Aside (∀ (d1 : Rs) (u : World), RRep u B b d1 → d1.pl = d.pl.spent → Calls Try.prog 60 #[.pointer (some ⟨b, 0, none⟩)] u fun e w' => e = .returned (.tuple #[.int .i64 (d.pl.used : Nat), .int .i64 (d.pl.lates : Nat)]) ∧ w' = u) := fun d1 u hu e => by
    have := rused_any hu (okS d1 e)
    rw [e] at this
    exact this
  have KA : Aside (∀ (d1 : Rs) (u : World), RRep u B b d1 → d1.files = d.files → Calls Try.prog 48 #[.pointer (some ⟨b, 0, none⟩), .string n] u fun e w' => e = .returned (.int .i64 (-1)) ∧ w' = u) := fun d1 u hu hf => by
    have := at_any hu (by rw [hf]; omega) n
    rw [show d1.names = d.names by unfold Rs.names; rw [hf]] at this
    rw [at_place hr, hh] at this
    exact this
  have hmost : d.most ≤ 60000 := ok.most
  have hused : d.pl.used ≤ 60000 := ok.used
  have HM : Aside (∀ d1 : Rs, d1.pl = d.pl.spent → d1.most = d.most ∧ d1.count = d.count) := fun d1 e => ⟨congrArg RS.most e, congrArg RS.count e⟩

  clear h ok hp hm okS
  generalize hU : d.pl.used = U at *
  generalize hLT : d.pl.lates = LT at *
  have d0' : decide ((16 : Int) ≤ (d.files.length : Int)) = false := decide_eq_false (by omega)
  have d1' : decide ((d.most : Int) < (U : Int) + (x.size : Int)) = true := decide_eq_true (by omega)
  have hw : IntKind.i64.wrap ((U : Int) + (x.size : Int)) = (U : Int) + (x.size : Int) := by rw [IntKind.wrap_i64]; omega
  go_enter Try.func44, Try.ntmps44
  go_wp2_with (first
    | (go_at_call 86; refine kp.mono ?_; rintro e w1 ⟨rfl, d1, h1, p1, f1, g1, s1⟩; have c2 := h1.c2; have c0 := h1.c0; rw [(HM.out d1 p1).1] at c2; obtain ⟨a0, cap0, ev0⟩ := own_any h1.tab; rw [ev0, f1] at c0)
    | (go_at_call 87; refine (km _).mono ?_; rintro e w1' ⟨rfl, rfl⟩)
    | (go_at_call 60; refine (KU.out _ _ h1 p1).mono ?_; rintro e w2 ⟨rfl, rfl⟩)
    | (go_at_call 48; refine (KA.out _ _ h1 f1).mono ?_; rintro e w2 ⟨rfl, rfl⟩))
  go_ret
  exact ⟨rfl, d1, h1, p1, g1 ▸ s1⟩

end Go.Proofs.Ytnmamaeoghgegaa.Dk

/-
  Append.
-/
namespace Go.Proofs.Ytnmamaeoghgegaa.Dk
open Go.RowKit
set_option maxRecDepth 100000

theorem below_refl (w : World) : Below w.heap.size w w := Below.refl _ _

theorem append_early {w : World} {B b : Nat} {d : Ds} (h : Rep w B b d) (ok : Ok d.pl) (n x : ByteArray) (hq : d.power = false ∨ mayBe n = false) :
    Calls Try.prog 15 #[.pointer (some ⟨b, 0, none⟩), .string n, .string x] w fun e w' => e = .returned (.int .i64 (if d.power then 1 else 12)) ∧ Rep w' B b d.spent ∧ Step (d.foot b) (d.foot b) w w' := by
  have kb := begin_any h ok.fuse
  have km := mayBe_any n
  clear h ok
  cases hp : d.power with
  | false =>
    rw [hp] at kb
    go_enter Try.func15, Try.ntmps15
    go_wp2_with (go_at_call 36; refine kb.mono ?_; rintro e w1 ⟨rfl, h1, s1⟩)
    go_ret
    exact ⟨rfl, h1, s1⟩
  | true =>
    rw [hp] at kb hq
    rcases hq with hq | hq
    · cases hq
    · rw [hq] at km
      go_enter Try.func15, Try.ntmps15
      go_wp2_with (first
        | (go_at_call 36; refine kb.mono ?_; rintro e w1 ⟨rfl, h1, s1⟩)
        | (go_at_call 37; refine (km _).mono ?_; rintro e w2 ⟨rfl, rfl⟩))
      go_ret
      exact ⟨rfl, h1, s1⟩

set_option maxHeartbeats 1600000 in
theorem append_fullB {w : World} {B b : Nat} {d : Ds} (h : Rep w B b d) (ok : Ok d.pl) (n x : ByteArray) (hp : d.power = true) (hm : mayBe n = true) (hh : has d.names n = true) (hf : d.room < d.pl.total + x.size) :
    Calls Try.prog 15 #[.pointer (some ⟨b, 0, none⟩), .string n, .string x] w fun e w' => e = .returned (.int .i64 2) ∧ Rep w' B b d.spent ∧ Step (d.foot b) (d.foot b) w w' := by
  have kb := begin_any h ok.fuse
  have km := mayBe_any n
  have kf : Aside (∀ u : World, Rep u B b d.spent → _) := fun (u : World) (hu : Rep u B b d.spent) => find_any hu (show Rising d.spent.names from ok.rise) (by have := ok.dfew; show d.files.length ≤ 1000; omega) n
  have K17 : Aside (∀ u : World, Rep u B b d.spent → Calls Try.prog 39 #[.pointer (some ⟨b, 0, none⟩)] u fun e w' => e = .returned (.int .i64 (d.pl.total : Nat)) ∧ Below u.heap.size u w') := fun u hu => used_any (d := d.spent) hu ok.spent
  have K27 : Aside (∀ u : World, Rep u B b d.spent → Calls Try.prog 38 #[.pointer (some ⟨b, 0, none⟩)] u fun e w' => e = .returned (.int .i64 (16 - (d.files.length : Int))) ∧ Below u.heap.size u w') := fun u hu => (holes_any (d := d.spent) hu ok.spent).mono fun _ _ ⟨a, b⟩ => ⟨by rw [a]; show _ = Ending.returned (.int .i64 (16 - (d.files.length : Int))); simp [Ds.pl, Ds.spent], b ▸ below_refl _⟩
  have KR : Aside (∀ u : World, Rep u B b d.spent → u.cell? ⟨b, 2, none⟩ = some (.int .i64 (d.room : Int))) := fun u hu => hu.c2
  have hroom : d.room ≤ 60000 := ok.room
  have htot : d.pl.total ≤ 60000 := ok.used
  have hfew := ok.dfew

  have en : d.spent.names = d.names := rfl
  rw [hp] at kb
  rw [hm] at km
  rw [en, hh] at kf
  generalize d.pl.total = T at *
  generalize hR : d.room = R at *
  generalize hN : d.files.length = N at *
  generalize hI : place d.names n = I at *
  have hw : IntKind.i64.wrap ((R : Int) - (T : Int)) = (R : Int) - (T : Int) := by rw [IntKind.wrap_i64]; omega
  have d1 : decide ((R : Int) - (T : Int) < (x.size : Int)) = true := by simp; omega
  clear h ok hp hm hh en
  go_enter Try.func15, Try.ntmps15
  go_wp2_with (first
    | (go_at_call 36; refine kb.mono ?_; rintro e w1 ⟨rfl, h1, s1⟩)
    | (go_at_call 37; refine (km _).mono ?_; rintro e w1' ⟨rfl, rfl⟩)
    | (go_at_call 33; refine (kf.out _ h1).mono ?_; rintro e w2 ⟨rfl, hb2⟩))
  have H2 : Aside (Rep w2 B b d.spent ∧ Step (d.foot b) (d.foot b) w w2) := ⟨h1.below hb2, s1.trans (Step.ofBelow hb2)⟩
  have x2 : ∀ q : Later w2, q.u.cell? ⟨b, 2, none⟩ = some (.int .i64 (R : Int)) := fun q => KR.out _ (H2.out.1.below q.bel)
  have HR : Aside (∀ q : Later w2, Rep q.u B b d.spent) := fun q => H2.out.1.below q.bel
  clear h1 hb2 kb km kf
  have hne := later_some w2
  refine wp_region_later (by kernel_rfl) (by kernel_rfl) ?_
  repeat (go_big_quiet_step ((first | (go_at_call 38; exact calls_later (K27.out _ (HR.out _))) | (go_at_call 39; exact calls_later (K17.out _ (HR.out _))))))
  refine wpQuiet_nil ?_
  rintro _ ⟨q, rfl⟩
  have H3 : Aside (Rep q.u B b d.spent ∧ Step (d.foot b) (d.foot b) w q.u) := ⟨HR.out q, H2.out.2.trans (Step.ofBelow q.bel)⟩
  generalize q.u = w3 at H3 ⊢
  clear x2 HR H2 hne K17 K27 KR s1
  go_wp2
  go_ret
  exact ⟨rfl, H3.out⟩


set_option maxHeartbeats 1600000 in
theorem append_fullC {w : World} {B b : Nat} {d : Ds} (h : Rep w B b d) (ok : Ok d.pl) (n x : ByteArray) (hp : d.power = true) (hm : mayBe n = true) (hh : has d.names n = false) (hf : d.files.length = 16) :
    Calls Try.prog 15 #[.pointer (some ⟨b, 0, none⟩), .string n, .string x] w fun e w' => e = .returned (.int .i64 2) ∧ Rep w' B b d.spent ∧ Step (d.foot b) (d.foot b) w w' := by
  have kb := begin_any h ok.fuse
  have km := mayBe_any n
  have kf : Aside (∀ u : World, Rep u B b d.spent → _) := fun (u : World) (hu : Rep u B b d.spent) => find_any hu (show Rising d.spent.names from ok.rise) (by have := ok.dfew; show d.files.length ≤ 1000; omega) n
  have K17 : Aside (∀ u : World, Rep u B b d.spent → Calls Try.prog 39 #[.pointer (some ⟨b, 0, none⟩)] u fun e w' => e = .returned (.int .i64 (d.pl.total : Nat)) ∧ Below u.heap.size u w') := fun u hu => used_any (d := d.spent) hu ok.spent
  have K27 : Aside (∀ u : World, Rep u B b d.spent → Calls Try.prog 38 #[.pointer (some ⟨b, 0, none⟩)] u fun e w' => e = .returned (.int .i64 (16 - (d.files.length : Int))) ∧ Below u.heap.size u w') := fun u hu => (holes_any (d := d.spent) hu ok.spent).mono fun _ _ ⟨a, b⟩ => ⟨by rw [a]; show _ = Ending.returned (.int .i64 (16 - (d.files.length : Int))); simp [Ds.pl, Ds.spent], b ▸ below_refl _⟩
  have KR : Aside (∀ u : World, Rep u B b d.spent → u.cell? ⟨b, 2, none⟩ = some (.int .i64 (d.room : Int))) := fun u hu => hu.c2
  have hroom : d.room ≤ 60000 := ok.room
  have htot : d.pl.total ≤ 60000 := ok.used
  have hfew := ok.dfew

  have en : d.spent.names = d.names := rfl
  rw [hp] at kb
  rw [hm] at km
  rw [en, hh] at kf
  generalize d.pl.total = T at *
  generalize hR : d.room = R at *
  generalize hN : d.files.length = N at *
  generalize hI : place d.names n = I at *
  have hw : IntKind.i64.wrap ((R : Int) - (T : Int)) = (R : Int) - (T : Int) := by rw [IntKind.wrap_i64]; omega
  have d1 : ((16 : Int) - (N : Int) == 0) = true := by simp; omega
  have hw2 : IntKind.i64.wrap ((16 : Int) - (N : Int)) = (16 : Int) - (N : Int) := by rw [IntKind.wrap_i64]; omega
  clear h ok hp hm hh en
  go_enter Try.func15, Try.ntmps15
  go_wp2_with (first
    | (go_at_call 36; refine kb.mono ?_; rintro e w1 ⟨rfl, h1, s1⟩)
    | (go_at_call 37; refine (km _).mono ?_; rintro e w1' ⟨rfl, rfl⟩)
    | (go_at_call 33; refine (kf.out _ h1).mono ?_; rintro e w2 ⟨rfl, hb2⟩))
  have H2 : Aside (Rep w2 B b d.spent ∧ Step (d.foot b) (d.foot b) w w2) := ⟨h1.below hb2, s1.trans (Step.ofBelow hb2)⟩
  have x2 : ∀ q : Later w2, q.u.cell? ⟨b, 2, none⟩ = some (.int .i64 (R : Int)) := fun q => KR.out _ (H2.out.1.below q.bel)
  have HR : Aside (∀ q : Later w2, Rep q.u B b d.spent) := fun q => H2.out.1.below q.bel
  clear h1 hb2 kb km kf
  have hne := later_some w2
  refine wp_region_later (by kernel_rfl) (by kernel_rfl) ?_
  repeat (go_big_quiet_step ((first | (go_at_call 38; exact calls_later (K27.out _ (HR.out _))) | (go_at_call 39; exact calls_later (K17.out _ (HR.out _))))))
  refine wpQuiet_nil ?_
  rintro _ ⟨q, rfl⟩
  have H3 : Aside (Rep q.u B b d.spent ∧ Step (d.foot b) (d.foot b) w q.u) := ⟨HR.out q, H2.out.2.trans (Step.ofBelow q.bel)⟩
  generalize q.u = w3 at H3 ⊢
  clear x2 HR H2 hne K17 K27 KR s1
  go_wp2
  go_ret
  exact ⟨rfl, H3.out⟩


set_option maxHeartbeats 1600000 in
theorem append_fullE {w : World} {B b : Nat} {d : Ds} (h : Rep w B b d) (ok : Ok d.pl) (n x : ByteArray) (hp : d.power = true) (hm : mayBe n = true) (hh : has d.names n = false) (hf : d.files.length ≠ 16) (hf2 : d.room < d.pl.total + x.size) :
    Calls Try.prog 15 #[.pointer (some ⟨b, 0, none⟩), .string n, .string x] w fun e w' => e = .returned (.int .i64 2) ∧ Rep w' B b d.spent ∧ Step (d.foot b) (d.foot b) w w' := by
  have kb := begin_any h ok.fuse
  have km := mayBe_any n
  have kf : Aside (∀ u : World, Rep u B b d.spent → _) := fun (u : World) (hu : Rep u B b d.spent) => find_any hu (show Rising d.spent.names from ok.rise) (by have := ok.dfew; show d.files.length ≤ 1000; omega) n
  have K17 : Aside (∀ u : World, Rep u B b d.spent → Calls Try.prog 39 #[.pointer (some ⟨b, 0, none⟩)] u fun e w' => e = .returned (.int .i64 (d.pl.total : Nat)) ∧ Below u.heap.size u w') := fun u hu => used_any (d := d.spent) hu ok.spent
  have K27 : Aside (∀ u : World, Rep u B b d.spent → Calls Try.prog 38 #[.pointer (some ⟨b, 0, none⟩)] u fun e w' => e = .returned (.int .i64 (16 - (d.files.length : Int))) ∧ Below u.heap.size u w') := fun u hu => (holes_any (d := d.spent) hu ok.spent).mono fun _ _ ⟨a, b⟩ => ⟨by rw [a]; show _ = Ending.returned (.int .i64 (16 - (d.files.length : Int))); simp [Ds.pl, Ds.spent], b ▸ below_refl _⟩
  have KR : Aside (∀ u : World, Rep u B b d.spent → u.cell? ⟨b, 2, none⟩ = some (.int .i64 (d.room : Int))) := fun u hu => hu.c2
  have hroom : d.room ≤ 60000 := ok.room
  have htot : d.pl.total ≤ 60000 := ok.used
  have hfew := ok.dfew

  have en : d.spent.names = d.names := rfl
  rw [hp] at kb
  rw [hm] at km
  rw [en, hh] at kf
  generalize d.pl.total = T at *
  generalize hR : d.room = R at *
  generalize hN : d.files.length = N at *
  generalize hI : place d.names n = I at *
  have hw : IntKind.i64.wrap ((R : Int) - (T : Int)) = (R : Int) - (T : Int) := by rw [IntKind.wrap_i64]; omega
  have d0 : ((16 : Int) - (N : Int) == 0) = false := by simp; omega
  have d1 : decide ((R : Int) - (T : Int) < (x.size : Int)) = true := by simp; omega
  clear h ok hp hm hh en
  go_enter Try.func15, Try.ntmps15
  go_wp2_with (first
    | (go_at_call 36; refine kb.mono ?_; rintro e w1 ⟨rfl, h1, s1⟩)
    | (go_at_call 37; refine (km _).mono ?_; rintro e w1' ⟨rfl, rfl⟩)
    | (go_at_call 33; refine (kf.out _ h1).mono ?_; rintro e w2 ⟨rfl, hb2⟩))
  have H2 : Aside (Rep w2 B b d.spent ∧ Step (d.foot b) (d.foot b) w w2) := ⟨h1.below hb2, s1.trans (Step.ofBelow hb2)⟩
  have x2 : ∀ q : Later w2, q.u.cell? ⟨b, 2, none⟩ = some (.int .i64 (R : Int)) := fun q => KR.out _ (H2.out.1.below q.bel)
  have HR : Aside (∀ q : Later w2, Rep q.u B b d.spent) := fun q => H2.out.1.below q.bel
  clear h1 hb2 kb km kf
  have hne := later_some w2
  refine wp_region_later (by kernel_rfl) (by kernel_rfl) ?_
  repeat (go_big_quiet_step ((first | (go_at_call 38; exact calls_later (K27.out _ (HR.out _))) | (go_at_call 39; exact calls_later (K17.out _ (HR.out _))))))
  refine wpQuiet_nil ?_
  rintro _ ⟨q, rfl⟩
  have H3 : Aside (Rep q.u B b d.spent ∧ Step (d.foot b) (d.foot b) w q.u) := ⟨HR.out q, H2.out.2.trans (Step.ofBelow q.bel)⟩
  generalize q.u = w3 at H3 ⊢
  clear x2 HR H2 hne K17 K27 KR s1
  go_wp2
  go_ret
  exact ⟨rfl, H3.out⟩

end Go.Proofs.Ytnmamaeoghgegaa.Dk

/-
  Append, where there is room.
-/
namespace Go.Proofs.Ytnmamaeoghgegaa.Dk
open Go.RowKit
set_option maxRecDepth 100000

theorem pl_more {d : Ds} {i : Nat} {f : Fv} {v v2 : Value} {n x : ByteArray} (hf : d.files[i]? = some f) : Ds.pl { d with files := d.files.set i ⟨f.name, f.bytes ++ x.data.toList, f.sure, v⟩, pieces := d.pieces ++ [⟨n, x.size⟩], vp := v2 } = d.pl.more i n x := by
  unfold St.more
  rw [pl_get hf]
  simp only [Ds.pl, List.map_set]
  rfl
theorem pl_make {d : Ds} {n : ByteArray} {v : Value} (h : has d.names n = false) : Ds.pl { d with files := d.files.take (place d.names n) ++ ⟨n, [], 0, .slice none 0 0⟩ :: d.files.drop (place d.names n), vf := v } = d.pl.make n := by
  unfold St.make
  rw [names_pl, h]
  simp [Ds.pl, Fv.pl]
theorem pl_there {d : Ds} {n : ByteArray} (h : has d.names n = true) : d.pl.make n = d.pl := by
  unfold St.make
  rw [names_pl, h]
  simp
theorem foot_nil {l : List Nat} {k : Nat} (h : k ∈ l ++ ob (.slice none 0 0)) : k ∈ l := by simpa [ob, Value.ownBlock] using h
theorem empty_of {x : ByteArray} (h : x.size = 0) : x = ⟨#[]⟩ := by
  apply ba_ext
  have : x.data.toList.length = 0 := by rw [Array.length_toList]; exact h
  simpa using List.eq_nil_of_length_eq_zero this
theorem size_len (x : ByteArray) : x.toList.length = x.size := by rw [ByteArray.toList_eq, Array.length_toList]; rfl
theorem nonempty1 {x : ByteArray} (h : x.size ≠ 0) : (x.toList == []) = false ∧ x.toList.isEmpty = false ∧ (x.toList != []) = true ∧ ¬ x.toList = [] ∧ ¬ x = ⟨#[]⟩ := by
  have hne : ¬ x.toList = [] := fun e => h (by rw [← size_len, e]; rfl)
  have hne2 : ¬ x = ⟨#[]⟩ := fun e => h (by rw [e]; rfl)
  refine ⟨?_, ?_, ?_, hne, hne2⟩
  · cases hl : x.toList with
    | nil => exact absurd hl hne
    | cons a r => rfl
  · cases hl : x.toList with
    | nil => exact absurd hl hne
    | cons a r => rfl
  · cases hl : x.toList with
    | nil => exact absurd hl hne
    | cons a r => rfl
theorem get_mid {α : Type} (l : List α) (i : Nat) (h : i ≤ l.length) (f : α) : (l.take i ++ f :: l.drop i)[i]? = some f := by
  rw [List.getElem?_append_right (by rw [List.length_take]; omega), List.length_take, Nat.min_eq_left h, Nat.sub_self]
  rfl
theorem ok_one {d : Ds} (_ok : Ok d.pl) {f : Fv} (hf : f ∈ d.files) : f.bytes.length ≤ d.pl.total := by
  have := mem_le_sum d.pl.files (fun f => f.bytes.length) (x := f.pl) (List.mem_map.2 ⟨f, hf, rfl⟩)
  exact this

set_option maxHeartbeats 8000000 in
theorem append_A0 {w : World} {B b : Nat} {d : Ds} (h : Rep w B b d) (ok : Ok d.pl) (n x : ByteArray) (hp : d.power = true) (hm : mayBe n = true) (hh : has d.names n = true) (hf : ¬ d.room < d.pl.total + x.size) (hx : x.size = 0) :
    Calls Try.prog 15 #[.pointer (some ⟨b, 0, none⟩), .string n, .string x] w fun e w' => e = .returned (.int .i64 0) ∧ ∃ d', Rep w' B b d' ∧ d'.pl = d.pl.spent.make n ∧ Step (d.foot b) (d'.foot b) w w' := by
  have kb := begin_any h ok.fuse
  have km := mayBe_any n
  have kf : Aside (∀ u : World, Rep u B b d.spent → _) := fun (u : World) (hu : Rep u B b d.spent) => find_any hu (show Rising d.spent.names from ok.rise) (by have := ok.dfew; show d.files.length ≤ 1000; omega) n
  have K17 : Aside (∀ u : World, Rep u B b d.spent → Calls Try.prog 39 #[.pointer (some ⟨b, 0, none⟩)] u fun e w' => e = .returned (.int .i64 (d.pl.total : Nat)) ∧ Below u.heap.size u w') := fun u hu => used_any (d := d.spent) hu ok.spent
  have K27 : Aside (∀ u : World, Rep u B b d.spent → Calls Try.prog 38 #[.pointer (some ⟨b, 0, none⟩)] u fun e w' => e = .returned (.int .i64 (16 - (d.files.length : Int))) ∧ Below u.heap.size u w') := fun u hu => (holes_any (d := d.spent) hu ok.spent).mono fun _ _ ⟨a, b⟩ => ⟨by rw [a]; show _ = Ending.returned (.int .i64 (16 - (d.files.length : Int))); simp [Ds.pl, Ds.spent], b ▸ below_refl _⟩
  have KR : Aside (∀ u : World, Rep u B b d.spent → u.cell? ⟨b, 2, none⟩ = some (.int .i64 (d.room : Int))) := fun u hu => hu.c2
  have hroom : d.room ≤ 60000 := ok.room
  have htot : d.pl.total ≤ 60000 := ok.used
  have hfew := ok.dfew
  have hpc := ok.dpieces
  have hpl := place_le d.names n
  have hnl : d.names.length = d.files.length := by simp [Ds.names]
  rw [hnl] at hpl
  clear hnl
  obtain ⟨f, hf', hfn, hfm⟩ := dhas_get ok.rise hh
  have HF : Aside (d.spent.files[place d.names n]? = some f) := hf'
  have hfl := ok_one ok hfm
  clear hf' hfn hfm
  have HT : Aside (d.spent.pl.make n = d.spent.pl) := pl_there (d := d.spent) hh
  have en : d.spent.names = d.names := rfl
  rw [hp] at kb
  rw [hm] at km
  rw [en, hh] at kf
  generalize d.pl.total = T at *
  generalize hR : d.room = R at *
  generalize hN : d.files.length = N at *
  generalize hI : place d.names n = I at *
  have hw : IntKind.i64.wrap ((R : Int) - (T : Int)) = (R : Int) - (T : Int) := by rw [IntKind.wrap_i64]; omega
  have d1 : decide ((R : Int) - (T : Int) < (x.size : Int)) = false := by simp; omega
  clear h ok hp hm hh en
  go_enter Try.func15, Try.ntmps15
  go_wp2_with (first
    | (go_at_call 36; refine kb.mono ?_; rintro e w1 ⟨rfl, h1, s1⟩)
    | (go_at_call 37; refine (km _).mono ?_; rintro e w1' ⟨rfl, rfl⟩)
    | (go_at_call 33; refine (kf.out _ h1).mono ?_; rintro e w2 ⟨rfl, hb2⟩))
  have H2 : Aside (Rep w2 B b d.spent ∧ Step (d.foot b) (d.foot b) w w2) := ⟨h1.below hb2, s1.trans (Step.ofBelow hb2)⟩
  have x2 : ∀ q : Later w2, q.u.cell? ⟨b, 2, none⟩ = some (.int .i64 (R : Int)) := fun q => KR.out _ (H2.out.1.below q.bel)
  have HR : Aside (∀ q : Later w2, Rep q.u B b d.spent) := fun q => H2.out.1.below q.bel
  clear h1 hb2 kb km kf
  have hne := later_some w2
  refine wp_region_later (by kernel_rfl) (by kernel_rfl) ?_
  repeat (go_big_quiet_step ((first | (go_at_call 38; exact calls_later (K27.out _ (HR.out _))) | (go_at_call 39; exact calls_later (K17.out _ (HR.out _))))))
  refine wpQuiet_nil ?_
  rintro _ ⟨q, rfl⟩
  have H3 : Aside (Rep q.u B b d.spent ∧ Step (d.foot b) (d.foot b) w q.u) := ⟨HR.out q, H2.out.2.trans (Step.ofBelow q.bel)⟩
  generalize q.u = w3 at H3 ⊢
  clear x2 HR H2 hne K17 K27 KR s1
  obtain rfl := empty_of hx
  go_wp2
  go_ret
  exact ⟨rfl, d.spent, H3.out.1, HT.out.symm, H3.out.2⟩


set_option maxHeartbeats 8000000 in
theorem append_A1 {w : World} {B b : Nat} {d : Ds} (h : Rep w B b d) (ok : Ok d.pl) (n x : ByteArray) (hp : d.power = true) (hm : mayBe n = true) (hh : has d.names n = true) (hf : ¬ d.room < d.pl.total + x.size) (hx : x.size ≠ 0) :
    Calls Try.prog 15 #[.pointer (some ⟨b, 0, none⟩), .string n, .string x] w fun e w' => e = .returned (.int .i64 0) ∧ ∃ d', Rep w' B b d' ∧ d'.pl = (d.pl.spent.make n).more (place d.names n) n x ∧ Step (d.foot b) (d'.foot b) w w' := by
  have kb := begin_any h ok.fuse
  have km := mayBe_any n
  have kf : Aside (∀ u : World, Rep u B b d.spent → _) := fun (u : World) (hu : Rep u B b d.spent) => find_any hu (show Rising d.spent.names from ok.rise) (by have := ok.dfew; show d.files.length ≤ 1000; omega) n
  have K17 : Aside (∀ u : World, Rep u B b d.spent → Calls Try.prog 39 #[.pointer (some ⟨b, 0, none⟩)] u fun e w' => e = .returned (.int .i64 (d.pl.total : Nat)) ∧ Below u.heap.size u w') := fun u hu => used_any (d := d.spent) hu ok.spent
  have K27 : Aside (∀ u : World, Rep u B b d.spent → Calls Try.prog 38 #[.pointer (some ⟨b, 0, none⟩)] u fun e w' => e = .returned (.int .i64 (16 - (d.files.length : Int))) ∧ Below u.heap.size u w') := fun u hu => (holes_any (d := d.spent) hu ok.spent).mono fun _ _ ⟨a, b⟩ => ⟨by rw [a]; show _ = Ending.returned (.int .i64 (16 - (d.files.length : Int))); simp [Ds.pl, Ds.spent], b ▸ below_refl _⟩
  have KR : Aside (∀ u : World, Rep u B b d.spent → u.cell? ⟨b, 2, none⟩ = some (.int .i64 (d.room : Int))) := fun u hu => hu.c2
  have hroom : d.room ≤ 60000 := ok.room
  have htot : d.pl.total ≤ 60000 := ok.used
  have hfew := ok.dfew
  have hpc := ok.dpieces
  have hpl := place_le d.names n
  have hnl : d.names.length = d.files.length := by simp [Ds.names]
  rw [hnl] at hpl
  clear hnl
  obtain ⟨f, hf', hfn, hfm⟩ := dhas_get ok.rise hh
  have HF : Aside (d.spent.files[place d.names n]? = some f) := hf'
  have hfl := ok_one ok hfm
  clear hf' hfn hfm
  have HT : Aside (d.spent.pl.make n = d.spent.pl) := pl_there (d := d.spent) hh
  have en : d.spent.names = d.names := rfl
  rw [hp] at kb
  rw [hm] at km
  rw [en, hh] at kf
  generalize d.pl.total = T at *
  generalize hR : d.room = R at *
  generalize hN : d.files.length = N at *
  generalize hI : place d.names n = I at *
  have hw : IntKind.i64.wrap ((R : Int) - (T : Int)) = (R : Int) - (T : Int) := by rw [IntKind.wrap_i64]; omega
  have d1 : decide ((R : Int) - (T : Int) < (x.size : Int)) = false := by simp; omega
  obtain ⟨z1, z2, z3, z4, z6⟩ := nonempty1 hx
  clear h ok hp hm hh en
  go_enter Try.func15, Try.ntmps15
  go_wp2_with (first
    | (go_at_call 36; refine kb.mono ?_; rintro e w1 ⟨rfl, h1, s1⟩)
    | (go_at_call 37; refine (km _).mono ?_; rintro e w1' ⟨rfl, rfl⟩)
    | (go_at_call 33; refine (kf.out _ h1).mono ?_; rintro e w2 ⟨rfl, hb2⟩))
  have H2 : Aside (Rep w2 B b d.spent ∧ Step (d.foot b) (d.foot b) w w2) := ⟨h1.below hb2, s1.trans (Step.ofBelow hb2)⟩
  have x2 : ∀ q : Later w2, q.u.cell? ⟨b, 2, none⟩ = some (.int .i64 (R : Int)) := fun q => KR.out _ (H2.out.1.below q.bel)
  have HR : Aside (∀ q : Later w2, Rep q.u B b d.spent) := fun q => H2.out.1.below q.bel
  clear h1 hb2 kb km kf
  have hne := later_some w2
  refine wp_region_later (by kernel_rfl) (by kernel_rfl) ?_
  repeat (go_big_quiet_step ((first | (go_at_call 38; exact calls_later (K27.out _ (HR.out _))) | (go_at_call 39; exact calls_later (K17.out _ (HR.out _))))))
  refine wpQuiet_nil ?_
  rintro _ ⟨q, rfl⟩
  have H3 : Aside (Rep q.u B b d.spent ∧ Step (d.foot b) (d.foot b) w q.u) := ⟨HR.out q, H2.out.2.trans (Step.ofBelow q.bel)⟩
  generalize q.u = w3 at H3 ⊢
  clear x2 HR H2 hne K17 K27 KR s1

  obtain ⟨g, cap, ev, hcap, hcm, hg⟩ := H3.out.1.vf_form HF.out
  obtain ⟨av, cv, eav⟩ := own_any (H3.out.1.rows _ (List.mem_of_getElem? HF.out))
  obtain ⟨a5, c5, w5, hr5, x1, x2, x3, H5', S5'⟩ := bytes_rep H3.out.1.drew HF.out hg x (by first | omega | (simp only [List.length_nil]; omega))
  have xc0 := H3.out.1.drew.c0
  have xc1 := (H3.out.1.drew.fcells HF.out hg).2.1
  obtain ⟨ap, cp, eap⟩ := own_any H3.out.1.pcs
  obtain ⟨a7, c7, w7, hr7, y1, y2, H7', S7'⟩ := pieces_rep H5' (show List.length d.spent.pieces ≤ _ from hpc) ⟨n, x.size⟩
  have y0 := H5'.c1
  have x4 := H5'.c0
  dsimp only at x4
  have PL : Aside _ := pl_more (d := d.spent) (n := n) (x := x) (v := .slice a5 (List.length f.bytes + x.size) c5) (v2 := .slice a7 (List.length d.spent.pieces + 1) c7) HF.out
  have H7 : Aside _ := And.intro H7' (H3.out.2.trans ((show Step (Ds.foot b d.spent) _ w3 _ from ⟨S5'.os, S5'.tape, S5'.output, S5'.size, S5'.block, S5'.sub⟩).trans S7'))
  clear H7' S7' H5' S5'
  rw [eav] at hr5 x2 xc1
  rw [ev] at x1 xc0
  first | rw [ev] at x4 | (dsimp only at ev; rw [ev] at x4)
  dsimp only at eap hr7 y0 y1
  rw [eap] at hr7 y0 y1
  have hIl : I < d.spent.files.length := (List.getElem?_eq_some_iff.1 HF.out).1
  generalize hNN : List.length d.spent.files = NN at *
  go_wp2
  go_region_law (refine step_append_run rfl _ _ 49 9 rfl (.slice av (List.length f.bytes) cv) (.string x) (by simp [Act.eval]) (by simp [Act.eval]) hr5 ?_)
  all_goals
    clear hr5 x1 x2 x3 xc0 xc1 x4 eav ev z1 z2 z3 z4 z6 d1 hw hcap hcm hg hIl
    generalize w5.setCell ⟨g, I * 3 + 1, none⟩ (.slice a5 (List.length f.bytes + x.size) c5) = w6 at *
    go_wp2_with (at_builtin; refine Lib.wpList_append_run _ rfl _ _ _ _ rfl _ _ rfl rfl _ _ hr7 ?_)
    go_ret
    exact ⟨rfl, _, H7.out.1, PL.out.trans (congrArg (fun s => St.more s I n x) HT.out.symm), H7.out.2⟩


set_option maxHeartbeats 8000000 in
theorem append_D0 {w : World} {B b : Nat} {d : Ds} (h : Rep w B b d) (ok : Ok d.pl) (n x : ByteArray) (hp : d.power = true) (hm : mayBe n = true) (hh : has d.names n = false) (hN16 : d.files.length ≠ 16) (hf : ¬ d.room < d.pl.total + x.size) (hx : x.size = 0) :
    Calls Try.prog 15 #[.pointer (some ⟨b, 0, none⟩), .string n, .string x] w fun e w' => e = .returned (.int .i64 0) ∧ ∃ d', Rep w' B b d' ∧ d'.pl = d.pl.spent.make n ∧ Step (d.foot b) (d'.foot b) w w' := by
  have kb := begin_any h ok.fuse
  have km := mayBe_any n
  have kf : Aside (∀ u : World, Rep u B b d.spent → _) := fun (u : World) (hu : Rep u B b d.spent) => find_any hu (show Rising d.spent.names from ok.rise) (by have := ok.dfew; show d.files.length ≤ 1000; omega) n
  have K17 : Aside (∀ u : World, Rep u B b d.spent → Calls Try.prog 39 #[.pointer (some ⟨b, 0, none⟩)] u fun e w' => e = .returned (.int .i64 (d.pl.total : Nat)) ∧ Below u.heap.size u w') := fun u hu => used_any (d := d.spent) hu ok.spent
  have K27 : Aside (∀ u : World, Rep u B b d.spent → Calls Try.prog 38 #[.pointer (some ⟨b, 0, none⟩)] u fun e w' => e = .returned (.int .i64 (16 - (d.files.length : Int))) ∧ Below u.heap.size u w') := fun u hu => (holes_any (d := d.spent) hu ok.spent).mono fun _ _ ⟨a, b⟩ => ⟨by rw [a]; show _ = Ending.returned (.int .i64 (16 - (d.files.length : Int))); simp [Ds.pl, Ds.spent], b ▸ below_refl _⟩
  have KR : Aside (∀ u : World, Rep u B b d.spent → u.cell? ⟨b, 2, none⟩ = some (.int .i64 (d.room : Int))) := fun u hu => hu.c2
  have hroom : d.room ≤ 60000 := ok.room
  have htot : d.pl.total ≤ 60000 := ok.used
  have hfew := ok.dfew
  have hpc := ok.dpieces
  have hpl := place_le d.names n
  have hnl : d.names.length = d.files.length := by simp [Ds.names]
  rw [hnl] at hpl
  clear hnl
  have HT : Aside (∀ v : Value, Ds.pl { d.spent with files := d.spent.files.take (place d.names n) ++ ⟨n, [], 0, .slice none 0 0⟩ :: d.spent.files.drop (place d.names n), vf := v } = d.spent.pl.make n) := fun v : Value => pl_make (d := d.spent) (n := n) (v := v) hh
  have HD : Aside (∀ v : Value, ({ d.spent with files := d.spent.files.take (place d.names n) ++ ⟨n, [], 0, .slice none 0 0⟩ :: d.spent.files.drop (place d.names n), vf := v } : Ds).files[place d.names n]? = some (⟨n, [], 0, .slice none 0 0⟩ : Fv)) := fun v => get_mid d.files _ hpl _
  have KI : Aside (∀ u : World, Rep u B b d.spent → _) := fun (u : World) (hu : Rep u B b d.spent) => insert_rep (d := d.spent) (f := ⟨n, [], 0, .slice none 0 0⟩) hu (show d.files.length ≤ 1000 by omega) (show place d.names n ≤ d.files.length from hpl) (World.ownsRow_nil _ _ _ _) (fun k hk => by cases hk)
  have en : d.spent.names = d.names := rfl
  rw [hp] at kb
  rw [hm] at km
  rw [en, hh] at kf
  generalize d.pl.total = T at *
  generalize hR : d.room = R at *
  generalize hN : d.files.length = N at *
  generalize hI : place d.names n = I at *
  have hw : IntKind.i64.wrap ((R : Int) - (T : Int)) = (R : Int) - (T : Int) := by rw [IntKind.wrap_i64]; omega
  have d1 : decide ((R : Int) - (T : Int) < (x.size : Int)) = false := by simp; omega
  have d0 : ((16 : Int) - (N : Int) == 0) = false := by simp; omega
  clear h ok hp hm hh en
  go_enter Try.func15, Try.ntmps15
  go_wp2_with (first
    | (go_at_call 36; refine kb.mono ?_; rintro e w1 ⟨rfl, h1, s1⟩)
    | (go_at_call 37; refine (km _).mono ?_; rintro e w1' ⟨rfl, rfl⟩)
    | (go_at_call 33; refine (kf.out _ h1).mono ?_; rintro e w2 ⟨rfl, hb2⟩))
  have H2 : Aside (Rep w2 B b d.spent ∧ Step (d.foot b) (d.foot b) w w2) := ⟨h1.below hb2, s1.trans (Step.ofBelow hb2)⟩
  have x2 : ∀ q : Later w2, q.u.cell? ⟨b, 2, none⟩ = some (.int .i64 (R : Int)) := fun q => KR.out _ (H2.out.1.below q.bel)
  have HR : Aside (∀ q : Later w2, Rep q.u B b d.spent) := fun q => H2.out.1.below q.bel
  clear h1 hb2 kb km kf
  have hne := later_some w2
  refine wp_region_later (by kernel_rfl) (by kernel_rfl) ?_
  repeat (go_big_quiet_step ((first | (go_at_call 38; exact calls_later (K27.out _ (HR.out _))) | (go_at_call 39; exact calls_later (K17.out _ (HR.out _))))))
  refine wpQuiet_nil ?_
  rintro _ ⟨q, rfl⟩
  have H3 : Aside (Rep q.u B b d.spent ∧ Step (d.foot b) (d.foot b) w q.u) := ⟨HR.out q, H2.out.2.trans (Step.ofBelow q.bel)⟩
  generalize q.u = w3 at H3 ⊢
  clear x2 HR H2 hne K17 K27 KR s1
  obtain rfl := empty_of hx
  obtain ⟨af, cf, eaf⟩ := own_any H3.out.1.tab
  have c0 := H3.out.1.c0
  have ki := KI.out w3 H3.out.1
  try dsimp only at ki
  rw [eaf] at c0 ki
  rw [show ((0 : Nat) : Int) = 0 from rfl] at ki
  go_wp2_with (go_at_call 40; refine ki.mono ?_; rintro e w4 ⟨a4, c4, rfl, p1, p2, h4, s4⟩; have H4 : Aside _ := And.intro h4 (H3.out.2.trans (s4.weak (a' := d.foot b) (fun k hk => .inl (foot_nil hk)))); clear h4 s4)
  go_ret
  exact ⟨rfl, _, H4.out.1, HT.out _, H4.out.2⟩


set_option maxHeartbeats 8000000 in
theorem append_D1 {w : World} {B b : Nat} {d : Ds} (h : Rep w B b d) (ok : Ok d.pl) (n x : ByteArray) (hp : d.power = true) (hm : mayBe n = true) (hh : has d.names n = false) (hN16 : d.files.length ≠ 16) (hf : ¬ d.room < d.pl.total + x.size) (hx : x.size ≠ 0) :
    Calls Try.prog 15 #[.pointer (some ⟨b, 0, none⟩), .string n, .string x] w fun e w' => e = .returned (.int .i64 0) ∧ ∃ d', Rep w' B b d' ∧ d'.pl = (d.pl.spent.make n).more (place d.names n) n x ∧ Step (d.foot b) (d'.foot b) w w' := by
  have kb := begin_any h ok.fuse
  have km := mayBe_any n
  have kf : Aside (∀ u : World, Rep u B b d.spent → _) := fun (u : World) (hu : Rep u B b d.spent) => find_any hu (show Rising d.spent.names from ok.rise) (by have := ok.dfew; show d.files.length ≤ 1000; omega) n
  have K17 : Aside (∀ u : World, Rep u B b d.spent → Calls Try.prog 39 #[.pointer (some ⟨b, 0, none⟩)] u fun e w' => e = .returned (.int .i64 (d.pl.total : Nat)) ∧ Below u.heap.size u w') := fun u hu => used_any (d := d.spent) hu ok.spent
  have K27 : Aside (∀ u : World, Rep u B b d.spent → Calls Try.prog 38 #[.pointer (some ⟨b, 0, none⟩)] u fun e w' => e = .returned (.int .i64 (16 - (d.files.length : Int))) ∧ Below u.heap.size u w') := fun u hu => (holes_any (d := d.spent) hu ok.spent).mono fun _ _ ⟨a, b⟩ => ⟨by rw [a]; show _ = Ending.returned (.int .i64 (16 - (d.files.length : Int))); simp [Ds.pl, Ds.spent], b ▸ below_refl _⟩
  have KR : Aside (∀ u : World, Rep u B b d.spent → u.cell? ⟨b, 2, none⟩ = some (.int .i64 (d.room : Int))) := fun u hu => hu.c2
  have hroom : d.room ≤ 60000 := ok.room
  have htot : d.pl.total ≤ 60000 := ok.used
  have hfew := ok.dfew
  have hpc := ok.dpieces
  have hpl := place_le d.names n
  have hnl : d.names.length = d.files.length := by simp [Ds.names]
  rw [hnl] at hpl
  clear hnl
  have HT : Aside (∀ v : Value, Ds.pl { d.spent with files := d.spent.files.take (place d.names n) ++ ⟨n, [], 0, .slice none 0 0⟩ :: d.spent.files.drop (place d.names n), vf := v } = d.spent.pl.make n) := fun v : Value => pl_make (d := d.spent) (n := n) (v := v) hh
  have HD : Aside (∀ v : Value, ({ d.spent with files := d.spent.files.take (place d.names n) ++ ⟨n, [], 0, .slice none 0 0⟩ :: d.spent.files.drop (place d.names n), vf := v } : Ds).files[place d.names n]? = some (⟨n, [], 0, .slice none 0 0⟩ : Fv)) := fun v => get_mid d.files _ hpl _
  have KI : Aside (∀ u : World, Rep u B b d.spent → _) := fun (u : World) (hu : Rep u B b d.spent) => insert_rep (d := d.spent) (f := ⟨n, [], 0, .slice none 0 0⟩) hu (show d.files.length ≤ 1000 by omega) (show place d.names n ≤ d.files.length from hpl) (World.ownsRow_nil _ _ _ _) (fun k hk => by cases hk)
  have en : d.spent.names = d.names := rfl
  rw [hp] at kb
  rw [hm] at km
  rw [en, hh] at kf
  generalize d.pl.total = T at *
  generalize hR : d.room = R at *
  generalize hN : d.files.length = N at *
  generalize hI : place d.names n = I at *
  have hw : IntKind.i64.wrap ((R : Int) - (T : Int)) = (R : Int) - (T : Int) := by rw [IntKind.wrap_i64]; omega
  have d1 : decide ((R : Int) - (T : Int) < (x.size : Int)) = false := by simp; omega
  have d0 : ((16 : Int) - (N : Int) == 0) = false := by simp; omega
  obtain ⟨z1, z2, z3, z4, z6⟩ := nonempty1 hx
  clear h ok hp hm hh en
  go_enter Try.func15, Try.ntmps15
  go_wp2_with (first
    | (go_at_call 36; refine kb.mono ?_; rintro e w1 ⟨rfl, h1, s1⟩)
    | (go_at_call 37; refine (km _).mono ?_; rintro e w1' ⟨rfl, rfl⟩)
    | (go_at_call 33; refine (kf.out _ h1).mono ?_; rintro e w2 ⟨rfl, hb2⟩))
  have H2 : Aside (Rep w2 B b d.spent ∧ Step (d.foot b) (d.foot b) w w2) := ⟨h1.below hb2, s1.trans (Step.ofBelow hb2)⟩
  have x2 : ∀ q : Later w2, q.u.cell? ⟨b, 2, none⟩ = some (.int .i64 (R : Int)) := fun q => KR.out _ (H2.out.1.below q.bel)
  have HR : Aside (∀ q : Later w2, Rep q.u B b d.spent) := fun q => H2.out.1.below q.bel
  clear h1 hb2 kb km kf
  have hne := later_some w2
  refine wp_region_later (by kernel_rfl) (by kernel_rfl) ?_
  repeat (go_big_quiet_step ((first | (go_at_call 38; exact calls_later (K27.out _ (HR.out _))) | (go_at_call 39; exact calls_later (K17.out _ (HR.out _))))))
  refine wpQuiet_nil ?_
  rintro _ ⟨q, rfl⟩
  have H3 : Aside (Rep q.u B b d.spent ∧ Step (d.foot b) (d.foot b) w q.u) := ⟨HR.out q, H2.out.2.trans (Step.ofBelow q.bel)⟩
  generalize q.u = w3 at H3 ⊢
  clear x2 HR H2 hne K17 K27 KR s1
  obtain ⟨af, cf, eaf⟩ := own_any H3.out.1.tab
  have c0 := H3.out.1.c0
  have ki := KI.out w3 H3.out.1
  try dsimp only at ki
  rw [eaf] at c0 ki
  rw [show ((0 : Nat) : Int) = 0 from rfl] at ki
  go_wp2_with (go_at_call 40; refine ki.mono ?_; rintro e w4 ⟨a4, c4, rfl, p1, p2, h4, s4⟩; have H4 : Aside _ := And.intro h4 (H3.out.2.trans (s4.weak (a' := d.foot b) (fun k hk => .inl (foot_nil hk)))); clear h4 s4)
  obtain ⟨dd, hdd⟩ : ∃ dd : Ds, ({ d.spent with files := d.spent.files.take I ++ ⟨n, [], 0, .slice none 0 0⟩ :: d.spent.files.drop I, vf := .slice a4 (d.spent.files.length + 1) c4 } : Ds) = dd := ⟨_, rfl⟩
  have HF : Aside (dd.files[I]? = some (⟨n, [], 0, .slice none 0 0⟩ : Fv)) := by
    rw [← hdd]
    exact HD.out (.slice a4 (d.spent.files.length + 1) c4)
  have HD2 : Aside _ := HT.out (.slice a4 (d.spent.files.length + 1) c4)
  have hpc' : List.length ({ d.spent with files := d.spent.files.take I ++ ⟨n, [], 0, .slice none 0 0⟩ :: d.spent.files.drop I, vf := .slice a4 (d.spent.files.length + 1) c4 } : Ds).pieces ≤ 100000 := hpc
  clear HD HT KI ki p1 p2 c0 eaf
  generalize w4.setCell ⟨b, 0, none⟩ (.slice a4 (d.spent.files.length + 1) c4) = w5' at *
  rw [hdd] at H4 HD2 hpc'
  clear hdd
  generalize hff : (⟨n, [], 0, .slice none 0 0⟩ : Fv) = ff at HF
  have hfl : ff.bytes.length ≤ T := by rw [← hff]; exact Nat.zero_le _
  clear hff H3

  obtain ⟨g, cap, ev, hcap, hcm, hg⟩ := H4.out.1.vf_form HF.out
  obtain ⟨av, cv, eav⟩ := own_any (H4.out.1.rows _ (List.mem_of_getElem? HF.out))
  obtain ⟨a5, c5, w5, hr5, x1, x2, x3, H5', S5'⟩ := bytes_rep H4.out.1.drew HF.out hg x (by first | omega | (simp only [List.length_nil]; omega))
  have xc0 := H4.out.1.drew.c0
  have xc1 := (H4.out.1.drew.fcells HF.out hg).2.1
  obtain ⟨ap, cp, eap⟩ := own_any H4.out.1.pcs
  obtain ⟨a7, c7, w7, hr7, y1, y2, H7', S7'⟩ := pieces_rep H5' (show List.length dd.pieces ≤ _ from hpc') ⟨n, x.size⟩
  have y0 := H5'.c1
  have x4 := H5'.c0
  dsimp only at x4
  have PL : Aside _ := pl_more (d := dd) (n := n) (x := x) (v := .slice a5 (List.length ff.bytes + x.size) c5) (v2 := .slice a7 (List.length dd.pieces + 1) c7) HF.out
  have H7 : Aside _ := And.intro H7' (H4.out.2.trans ((show Step (Ds.foot b dd) _ w5' _ from ⟨S5'.os, S5'.tape, S5'.output, S5'.size, S5'.block, S5'.sub⟩).trans S7'))
  clear H7' S7' H5' S5'
  rw [eav] at hr5 x2 xc1
  rw [ev] at x1 xc0
  first | rw [ev] at x4 | (dsimp only at ev; rw [ev] at x4)
  dsimp only at eap hr7 y0 y1
  rw [eap] at hr7 y0 y1
  have hIl : I < dd.files.length := (List.getElem?_eq_some_iff.1 HF.out).1
  generalize hNN : List.length dd.files = NN at *
  go_wp2
  go_region_law (refine step_append_run rfl _ _ 49 9 rfl (.slice av (List.length ff.bytes) cv) (.string x) (by simp [Act.eval]) (by simp [Act.eval]) hr5 ?_)
  all_goals
    clear hr5 x1 x2 x3 xc0 xc1 x4 eav ev z1 z2 z3 z4 z6 d1 hw hcap hcm hg hIl
    generalize w5.setCell ⟨g, I * 3 + 1, none⟩ (.slice a5 (List.length ff.bytes + x.size) c5) = w6 at *
    go_wp2_with (at_builtin; refine Lib.wpList_append_run _ rfl _ _ _ _ rfl _ _ rfl rfl _ _ hr7 ?_)
    go_ret
    exact ⟨rfl, _, H7.out.1, PL.out.trans (congrArg (fun s => St.more s I n x) HD2.out), H7.out.2⟩
end Go.Proofs.Ytnmamaeoghgegaa.Dk
