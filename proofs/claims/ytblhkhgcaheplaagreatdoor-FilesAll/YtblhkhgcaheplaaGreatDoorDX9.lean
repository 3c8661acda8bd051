/-
  Append.
-/
import Derived.Test.YtblhkhgcaheplaaGreatDoorDX8
namespace Go.Proofs.YtblhkhgcaheplaaGreatDoor.Dk
open Go.RowKit
set_option maxRecDepth 100000

theorem below_refl (w : World) : Below w.heap.size w w := Below.refl _ _

theorem append_early {w : World} {B b : Nat} {d : Ds} (h : Rep w B b d) (ok : Ok d.pl) (n x : ByteArray) (hq : d.power = false ∨ mayBe n = false) :
    Calls Tryz.prog 6 #[.pointer (some ⟨b, 0, none⟩), .string n, .string x] w fun e w' => e = .returned (.int .i64 (if d.power then 1 else 12)) ∧ Rep w' B b d.spent ∧ Step (d.foot b) (d.foot b) w w' := by
  have kb := begin_any h ok.fuse
  have km := mayBe_any n
  clear h ok
  cases hp : d.power with
  | false =>
    rw [hp] at kb
    go_enter Tryz.func6, Tryz.ntmps6
    go_wp2_with (go_at_call 16; refine kb.mono ?_; rintro e w1 ⟨rfl, h1, s1⟩)
    go_ret
    exact ⟨rfl, h1, s1⟩
  | true =>
    rw [hp] at kb hq
    rcases hq with hq | hq
    · cases hq
    · rw [hq] at km
      go_enter Tryz.func6, Tryz.ntmps6
      go_wp2_with (first
        | (go_at_call 16; refine kb.mono ?_; rintro e w1 ⟨rfl, h1, s1⟩)
        | (go_at_call 17; refine (km _).mono ?_; rintro e w2 ⟨rfl, rfl⟩))
      go_ret
      exact ⟨rfl, h1, s1⟩

set_option maxHeartbeats 1600000 in
theorem append_fullB {w : World} {B b : Nat} {d : Ds} (h : Rep w B b d) (ok : Ok d.pl) (n x : ByteArray) (hp : d.power = true) (hm : mayBe n = true) (hh : has d.names n = true) (hf : d.room < d.pl.total + x.size) :
    Calls Tryz.prog 6 #[.pointer (some ⟨b, 0, none⟩), .string n, .string x] w fun e w' => e = .returned (.int .i64 2) ∧ Rep w' B b d.spent ∧ Step (d.foot b) (d.foot b) w w' := by
  have kb := begin_any h ok.fuse
  have km := mayBe_any n
  have kf : Aside (∀ u : World, Rep u B b d.spent → _) := fun (u : World) (hu : Rep u B b d.spent) => find_any hu (show Rising d.spent.names from ok.rise) (by have := ok.dfew; show d.files.length ≤ 1000; omega) n
  have K17 : Aside (∀ u : World, Rep u B b d.spent → Calls Tryz.prog 20 #[.pointer (some ⟨b, 0, none⟩)] u fun e w' => e = .returned (.int .i64 (d.pl.total : Nat)) ∧ Below u.heap.size u w') := fun u hu => used_any (d := d.spent) hu ok.spent
  have K27 : Aside (∀ u : World, Rep u B b d.spent → Calls Tryz.prog 19 #[.pointer (some ⟨b, 0, none⟩)] u fun e w' => e = .returned (.int .i64 (16 - (d.files.length : Int))) ∧ Below u.heap.size u w') := fun u hu => (holes_any (d := d.spent) hu ok.spent).mono fun _ _ ⟨a, b⟩ => ⟨by rw [a]; show _ = Ending.returned (.int .i64 (16 - (d.files.length : Int))); simp [Ds.pl, Ds.spent], b ▸ below_refl _⟩
  have KR : Aside (∀ u : World, Rep u B b d.spent → u.cell? ⟨b, 2, none⟩ = some (.int .i64 (d.room : Int))) := fun u hu => hu.c2
  have hroom : d.room ≤ 60000 := ok.room
  have htot : d.pl.total ≤ 60000 := ok.used
  have hfew := ok.dfew

  have en : d.spent.names = d.names := rfl
  rw [hp] at kb
  rw [hm] at km
  rw [en, hh] at kf
  generalize d.pl.total = T at *
  generalize hR : d.room = R at *
  generalize hN : d.files.length = N at *
  generalize hI : place d.names n = I at *
  have hw : IntKind.i64.wrap ((R : Int) - (T : Int)) = (R : Int) - (T : Int) := by rw [IntKind.wrap_i64]; omega
  have d1 : decide ((R : Int) - (T : Int) < (x.size : Int)) = true := by simp; omega
  clear h ok hp hm hh en
  go_enter Tryz.func6, Tryz.ntmps6
  go_wp2_with (first
    | (go_at_call 16; refine kb.mono ?_; rintro e w1 ⟨rfl, h1, s1⟩)
    | (go_at_call 17; refine (km _).mono ?_; rintro e w1' ⟨rfl, rfl⟩)
    | (go_at_call 18; refine (kf.out _ h1).mono ?_; rintro e w2 ⟨rfl, hb2⟩))
  have H2 : Aside (Rep w2 B b d.spent ∧ Step (d.foot b) (d.foot b) w w2) := ⟨h1.below hb2, s1.trans (Step.ofBelow hb2)⟩
  have x2 : ∀ q : Later w2, q.u.cell? ⟨b, 2, none⟩ = some (.int .i64 (R : Int)) := fun q => KR.out _ (H2.out.1.below q.bel)
  have HR : Aside (∀ q : Later w2, Rep q.u B b d.spent) := fun q => H2.out.1.below q.bel
  clear h1 hb2 kb km kf
  have hne := later_some w2
  refine wp_region_later (by kernel_rfl) (by kernel_rfl) ?_
  repeat (go_big_quiet_step ((first | (go_at_call 19; exact calls_later (K27.out _ (HR.out _))) | (go_at_call 20; exact calls_later (K17.out _ (HR.out _))))))
  refine wpQuiet_nil ?_
  rintro _ ⟨q, rfl⟩
  have H3 : Aside (Rep q.u B b d.spent ∧ Step (d.foot b) (d.foot b) w q.u) := ⟨HR.out q, H2.out.2.trans (Step.ofBelow q.bel)⟩
  generalize q.u = w3 at H3 ⊢
  clear x2 HR H2 hne K17 K27 KR s1
  go_wp2
  go_ret
  exact ⟨rfl, H3.out⟩


set_option maxHeartbeats 1600000 in
theorem append_fullC {w : World} {B b : Nat} {d : Ds} (h : Rep w B b d) (ok : Ok d.pl) (n x : ByteArray) (hp : d.power = true) (hm : mayBe n = true) (hh : has d.names n = false) (hf : d.files.length = 16) :
    Calls Tryz.prog 6 #[.pointer (some ⟨b, 0, none⟩), .string n, .string x] w fun e w' => e = .returned (.int .i64 2) ∧ Rep w' B b d.spent ∧ Step (d.foot b) (d.foot b) w w' := by
  have kb := begin_any h ok.fuse
  have km := mayBe_any n
  have kf : Aside (∀ u : World, Rep u B b d.spent → _) := fun (u : World) (hu : Rep u B b d.spent) => find_any hu (show Rising d.spent.names from ok.rise) (by have := ok.dfew; show d.files.length ≤ 1000; omega) n
  have K17 : Aside (∀ u : World, Rep u B b d.spent → Calls Tryz.prog 20 #[.pointer (some ⟨b, 0, none⟩)] u fun e w' => e = .returned (.int .i64 (d.pl.total : Nat)) ∧ Below u.heap.size u w') := fun u hu => used_any (d := d.spent) hu ok.spent
  have K27 : Aside (∀ u : World, Rep u B b d.spent → Calls Tryz.prog 19 #[.pointer (some ⟨b, 0, none⟩)] u fun e w' => e = .returned (.int .i64 (16 - (d.files.length : Int))) ∧ Below u.heap.size u w') := fun u hu => (holes_any (d := d.spent) hu ok.spent).mono fun _ _ ⟨a, b⟩ => ⟨by rw [a]; show _ = Ending.returned (.int .i64 (16 - (d.files.length : Int))); simp [Ds.pl, Ds.spent], b ▸ below_refl _⟩
  have KR : Aside (∀ u : World, Rep u B b d.spent → u.cell? ⟨b, 2, none⟩ = some (.int .i64 (d.room : Int))) := fun u hu => hu.c2
  have hroom : d.room ≤ 60000 := ok.room
  have htot : d.pl.total ≤ 60000 := ok.used
  have hfew := ok.dfew

  have en : d.spent.names = d.names := rfl
  rw [hp] at kb
  rw [hm] at km
  rw [en, hh] at kf
  generalize d.pl.total = T at *
  generalize hR : d.room = R at *
  generalize hN : d.files.length = N at *
  generalize hI : place d.names n = I at *
  have hw : IntKind.i64.wrap ((R : Int) - (T : Int)) = (R : Int) - (T : Int) := by rw [IntKind.wrap_i64]; omega
  have d1 : ((16 : Int) - (N : Int) == 0) = true := by simp; omega
  have hw2 : IntKind.i64.wrap ((16 : Int) - (N : Int)) = (16 : Int) - (N : Int) := by rw [IntKind.wrap_i64]; omega
  clear h ok hp hm hh en
  go_enter Tryz.func6, Tryz.ntmps6
  go_wp2_with (first
    | (go_at_call 16; refine kb.mono ?_; rintro e w1 ⟨rfl, h1, s1⟩)
    | (go_at_call 17; refine (km _).mono ?_; rintro e w1' ⟨rfl, rfl⟩)
    | (go_at_call 18; refine (kf.out _ h1).mono ?_; rintro e w2 ⟨rfl, hb2⟩))
  have H2 : Aside (Rep w2 B b d.spent ∧ Step (d.foot b) (d.foot b) w w2) := ⟨h1.below hb2, s1.trans (Step.ofBelow hb2)⟩
  have x2 : ∀ q : Later w2, q.u.cell? ⟨b, 2, none⟩ = some (.int .i64 (R : Int)) := fun q => KR.out _ (H2.out.1.below q.bel)
  have HR : Aside (∀ q : Later w2, Rep q.u B b d.spent) := fun q => H2.out.1.below q.bel
  clear h1 hb2 kb km kf
  have hne := later_some w2
  refine wp_region_later (by kernel_rfl) (by kernel_rfl) ?_
  repeat (go_big_quiet_step ((first | (go_at_call 19; exact calls_later (K27.out _ (HR.out _))) | (go_at_call 20; exact calls_later (K17.out _ (HR.out _))))))
  refine wpQuiet_nil ?_
  rintro _ ⟨q, rfl⟩
  have H3 : Aside (Rep q.u B b d.spent ∧ Step (d.foot b) (d.foot b) w q.u) := ⟨HR.out q, H2.out.2.trans (Step.ofBelow q.bel)⟩
  generalize q.u = w3 at H3 ⊢
  clear x2 HR H2 hne K17 K27 KR s1
  go_wp2
  go_ret
  exact ⟨rfl, H3.out⟩


set_option maxHeartbeats 1600000 in
theorem append_fullE {w : World} {B b : Nat} {d : Ds} (h : Rep w B b d) (ok : Ok d.pl) (n x : ByteArray) (hp : d.power = true) (hm : mayBe n = true) (hh : has d.names n = false) (hf : d.files.length ≠ 16) (hf2 : d.room < d.pl.total + x.size) :
    Calls Tryz.prog 6 #[.pointer (some ⟨b, 0, none⟩), .string n, .string x] w fun e w' => e = .returned (.int .i64 2) ∧ Rep w' B b d.spent ∧ Step (d.foot b) (d.foot b) w w' := by
  have kb := begin_any h ok.fuse
  have km := mayBe_any n
  have kf : Aside (∀ u : World, Rep u B b d.spent → _) := fun (u : World) (hu : Rep u B b d.spent) => find_any hu (show Rising d.spent.names from ok.rise) (by have := ok.dfew; show d.files.length ≤ 1000; omega) n
  have K17 : Aside (∀ u : World, Rep u B b d.spent → Calls Tryz.prog 20 #[.pointer (some ⟨b, 0, none⟩)] u fun e w' => e = .returned (.int .i64 (d.pl.total : Nat)) ∧ Below u.heap.size u w') := fun u hu => used_any (d := d.spent) hu ok.spent
  have K27 : Aside (∀ u : World, Rep u B b d.spent → Calls Tryz.prog 19 #[.pointer (some ⟨b, 0, none⟩)] u fun e w' => e = .returned (.int .i64 (16 - (d.files.length : Int))) ∧ Below u.heap.size u w') := fun u hu => (holes_any (d := d.spent) hu ok.spent).mono fun _ _ ⟨a, b⟩ => ⟨by rw [a]; show _ = Ending.returned (.int .i64 (16 - (d.files.length : Int))); simp [Ds.pl, Ds.spent], b ▸ below_refl _⟩
  have KR : Aside (∀ u : World, Rep u B b d.spent → u.cell? ⟨b, 2, none⟩ = some (.int .i64 (d.room : Int))) := fun u hu => hu.c2
  have hroom : d.room ≤ 60000 := ok.room
  have htot : d.pl.total ≤ 60000 := ok.used
  have hfew := ok.dfew

  have en : d.spent.names = d.names := rfl
  rw [hp] at kb
  rw [hm] at km
  rw [en, hh] at kf
  generalize d.pl.total = T at *
  generalize hR : d.room = R at *
  generalize hN : d.files.length = N at *
  generalize hI : place d.names n = I at *
  have hw : IntKind.i64.wrap ((R : Int) - (T : Int)) = (R : Int) - (T : Int) := by rw [IntKind.wrap_i64]; omega
  have d0 : ((16 : Int) - (N : Int) == 0) = false := by simp; omega
  have d1 : decide ((R : Int) - (T : Int) < (x.size : Int)) = true := by simp; omega
  clear h ok hp hm hh en
  go_enter Tryz.func6, Tryz.ntmps6
  go_wp2_with (first
    | (go_at_call 16; refine kb.mono ?_; rintro e w1 ⟨rfl, h1, s1⟩)
    | (go_at_call 17; refine (km _).mono ?_; rintro e w1' ⟨rfl, rfl⟩)
    | (go_at_call 18; refine (kf.out _ h1).mono ?_; rintro e w2 ⟨rfl, hb2⟩))
  have H2 : Aside (Rep w2 B b d.spent ∧ Step (d.foot b) (d.foot b) w w2) := ⟨h1.below hb2, s1.trans (Step.ofBelow hb2)⟩
  have x2 : ∀ q : Later w2, q.u.cell? ⟨b, 2, none⟩ = some (.int .i64 (R : Int)) := fun q => KR.out _ (H2.out.1.below q.bel)
  have HR : Aside (∀ q : Later w2, Rep q.u B b d.spent) := fun q => H2.out.1.below q.bel
  clear h1 hb2 kb km kf
  have hne := later_some w2
  refine wp_region_later (by kernel_rfl) (by kernel_rfl) ?_
  repeat (go_big_quiet_step ((first | (go_at_call 19; exact calls_later (K27.out _ (HR.out _))) | (go_at_call 20; exact calls_later (K17.out _ (HR.out _))))))
  refine wpQuiet_nil ?_
  rintro _ ⟨q, rfl⟩
  have H3 : Aside (Rep q.u B b d.spent ∧ Step (d.foot b) (d.foot b) w q.u) := ⟨HR.out q, H2.out.2.trans (Step.ofBelow q.bel)⟩
  generalize q.u = w3 at H3 ⊢
  clear x2 HR H2 hne K17 K27 KR s1
  go_wp2
  go_ret
  exact ⟨rfl, H3.out⟩

end Go.Proofs.YtblhkhgcaheplaaGreatDoor.Dk
