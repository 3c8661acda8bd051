/-
  YtajjcfacbnicnaaGreatDoor: the texts R3, B3, one behind the other.
-/
import Derived.Test.YtajjcfacbnicnaaGreatDoorV35
import Derived.Test.YtajjcfacbnicnaaGreatDoorV12
import Derived.Test.YtajjcfacbnicnaaGreatDoorV3
import Derived.Test.YtajjcfacbnicnaaGreatDoorV11
import Derived.Deep.RegionHeld3
import Derived.WalkKit
import Derived.WalkSpells
import Derived.WalkLawsBesides
import Derived.Deep.LoopGhost
import Derived.Laws.Externs
import Derived.Below
import Derived.BigQuiet
import Derived.Deep.RegionWith
import Derived.OwnWalk
import Derived.Maps.AppendAt
import Derived.WalkSmall
import Derived.Test.YtajjcfacbnicnaaGreatDoorV32
/-
  SeglogRot's walk.
-/
namespace Go.Proofs.YtajjcfacbnicnaaGreatDoor
open Go.RowKit
set_option maxRecDepth 100000
/-- What the log's loop hands on. -/
def RL (W : World) (file at_ : Int) (y : UInt8) (B l b : Nat) (m : Int) (k : Nat) (u : World) : Prop := ∃ (d : Dk.Ds) (G : List Seg), LgS W file at_ y B l b m d u ∧ Rec k d.pl G
/-- Up to the byte that is turned. -/
theorem fuse_sz {s : Dk.Ds} {d : Dk.Ds} {k : Int} (h : ∀ n ∈ s.names, n.size ≤ 1000) (e : d.pl = Dk.opFuse s.pl k) : ∀ n ∈ d.names, n.size ≤ 1000 := fun n hn => by
  rw [← Dk.names_pl, e] at hn
  have : (Dk.opFuse s.pl k).names = s.names := by
    rw [← Dk.names_pl]
    unfold Dk.opFuse
    split <;> rfl
  rw [this] at hn
  exact h n hn
theorem rot_sz {s : Dk.Ds} {d : Dk.Ds} {x y z : Int} (h : ∀ n ∈ s.names, n.size ≤ 1000) (e : d.pl = (Dk.opRot s.pl x y z).2) : ∀ n ∈ d.names, n.size ≤ 1000 := fun n hn => by
  rw [← Dk.names_pl, e, names_rot, Dk.names_pl] at hn
  exact h n hn
/-- Rot, of a disk in memory. -/
theorem drot_any {B b : Nat} {d : Dk.Ds} {w : World} (h : Dsk B b d w) (x y z : Int) :
    Calls Tryz.prog 28 #[.pointer (some ⟨b, 0, none⟩), .int .i64 x, .int .i64 y, .int .i64 z] w fun e w' => e = .returned (.bool (Dk.opRot d.pl x y z).1) ∧ ∃ d', Dsk B b d' w' ∧ d'.pl = (Dk.opRot d.pl x y z).2 ∧ Dk.Step (d.foot b) (d'.foot b) w w' := by
  refine (Dk.rot_any h.rep h.ok x y z).mono ?_
  rintro e w' ⟨h1, d', r, p, s⟩
  exact ⟨h1, d', h.step r (by rw [p]; exact h.ok.opRot _ _ _) (rot_sz h.sz p) s, p, s⟩
theorem dfuse_any {B b : Nat} {d : Dk.Ds} {w : World} (h : Dsk B b d w) (n : Int) (hn : n ≤ 9223372036854775807) :
    Calls Tryz.prog 26 #[.pointer (some ⟨b, 0, none⟩), .int .i64 n] w fun e w' => e = .returned (.tuple #[]) ∧ ∃ d', Dsk B b d' w' ∧ d'.pl = Dk.opFuse d.pl n ∧ Dk.Step (d.foot b) (d'.foot b) w w' := by
  refine (Dk.fuse_any h.rep n).mono ?_
  rintro e w' ⟨h1, d', r, p, s⟩
  exact ⟨h1, d', h.step r (by rw [p]; exact h.ok.opFuse hn) (fuse_sz h.sz p) s, p, s⟩
/-- What Open leaves where it fails, and leaves the disk as it is. -/
theorem open_err {B b : Nat} {d : Dk.Ds} {w : World} (h : Dsk B b d w) (f lim : Int) {c : Int} (hr : lOpen d.pl f = (.error c, d.pl)) :
    Calls Tryz.prog 11 #[.pointer (some ⟨b, 0, none⟩), .int .i64 f, .int .i64 lim] w fun e w' => e = .returned (.tuple #[.pointer none, .slice none 0 0, .int .i64 c]) ∧ ∃ d', Dsk B b d' w' ∧ d'.pl = d.pl ∧ Dk.Step (d.foot b) (d'.foot b) w w' := by
  refine (open_any h f lim).mono ?_
  rintro e w' ⟨d', h1, h2, h3, ⟨c', h4, h5⟩ | ⟨rs', l, rv, h4, _⟩⟩
  · rw [hr] at h4 h2
    injection h4 with h4
    subst h4
    exact ⟨h5, d', h1, h2, h3⟩
  · rw [hr] at h4
    cases h4
set_option maxHeartbeats 8000000 in
theorem rot_main (W : World) (hV : Vars W) (a : Option Addr) (c : Nat) (L : List ByteArray) (hL : Fm.Strs W.heap.size (.slice a L.length c) L W) (lim file at_ : Int) (y : UInt8) (hn : L.length ≤ 12) (hy : y ≠ 0) :
    Calls Tryz.prog 5 #[.slice a L.length c, .int .i64 lim, .agg #[.int .i64 file, .int .i64 at_, .int .u8 (y.toNat : Int)]] W fun e w' => e = .returned (.bool true) ∧ Below W.heap.size W w' := by
  have k7 := bx_awake hV file at_ y
  have d1 : decide (12 < (L.length : Int)) = false := by simp; omega
  have BB := asd (bx_below W file at_ y)
  have BZ := asd (bxW_size W file at_ y)
  have BV := asd (bx_vars hV file at_ y)
  have CB := asd (fun (u : World) (h : Below (W.heap.size + 1) (bxW W file at_ y) u) => bx_cells h)
  have hy1 : ((y.toNat : Int) == 0) = false := by
    rw [beq_eq_false_iff_ne]
    intro e
    exact hy (UInt8.toNat_inj.1 (by have : (0 : UInt8).toNat = 0 := rfl; omega))
  have hy2 : (y.toNat == 0) = false := by
    rw [beq_eq_false_iff_ne]
    intro e
    exact hy (UInt8.toNat_inj.1 (by have : (0 : UInt8).toNat = 0 := rfl; omega))
  have HLS := asd (fun (u : World) (h : Below W.heap.size W u) => hL.later h)
  have A1 := asd (ok_of rot_new)
  have HY := asd hy
  clear hV hL hy
  go_enter Tryz.func5, Tryz.ntmps5
  go_wp2_with (first
    | (go_at_call 7; refine k7.mono ?_; rintro e w1 ⟨rfl, b1⟩; obtain ⟨c0, c1, c2⟩ := CB.out w1 b1; have B1 := asd b1; have V1 := asd (BV.out.keep (B := W.heap.size + 1) (by have := heap4 BV.out; rw [BZ.out] at this; exact this) b1); clear b1 k7)
    | (go_at_call 9; refine (dnew_any 9000 w1 V1.out).mono ?_; rintro e w2 ⟨b, d0, rfl, D0, p0, f0, b2⟩; have H0 := asd D0; have P0 := asd p0; have B2 := asd (B1.out.trans (b2.mono (by have := B1.out.size; rw [BZ.out] at this; omega))); have hle : W.heap.size + 1 ≤ w1.heap.size := (by have := B1.out.size; rw [BZ.out] at this; exact this); clear D0 p0 f0 b2 c0 c1 c2)
    | (go_at_call 11; refine (open_ok H0.out 1 lim (by rw [P0.out]; exact A1.out)).mono ?_; rintro e w3 ⟨l, rv, d1', rfl, s1, p1, st1, hl1, _, _⟩; have R0 : Aside (RL W file at_ y w1.heap.size l b (wi lim) 0 w3) := ⟨d1', [], ⟨s1, B2.out.trans ((st1.below (fun k hk => (H0.out.rep.lt k hk).1) H0.out.hs).mono hle), hle⟩, by rw [p1, P0.out, rot_st]; exact ⟨inv_new _, rfl, rfl, rfl, Nat.le_refl _, Nat.le_refl _⟩⟩; clear s1 p1 st1))
  generalize wi lim = m at *
  generalize hBB : w1.heap.size = B at *
  go_loopg [36, 12] L.length (fun gh s36 _ wr => ∃ k : Nat, L.length - k ≤ gh ∧ k ≤ L.length ∧ s36 = .int .i64 (k : Int) ∧ Aside (RL W file at_ y B l b m k wr))
  case atStart => exact ⟨0, by omega, by omega, rfl, R0⟩
  case round =>
    obtain ⟨k, hgh, hk, rfl, R⟩ := hrel
    clear R0
    obtain ⟨d, G, S, Q⟩ := R.out
    have SS := asd S
    have QQ := asd Q
    have BW := asd (BB.out.trans (S.bel.mono (by omega)))
    clear R S Q
    by_cases hlt : k < L.length
    · have dk : decide (k < L.length) = true := by simpa using hlt
      obtain ⟨a', c', e', hc⟩ := HLS.out _ BW.out
      injection e' with e1 e2 e3
      subst e1 e3
      obtain ⟨g, o, e4, _, k1⟩ := hc k hlt
      subst e4
      rw [List.getD_eq_getElem?_getD, List.getElem?_eq_getElem hlt] at k1
      simp only [Option.getD_some] at k1
      clear hc e2
      generalize L[k] = x at *
      by_cases hx : 200 < x.size
      · have dx : decide (200 < (x.size : Int)) = true := by simp; omega
        go_wp2
        go_ret
        exact ⟨rfl, BW.out⟩
      · have dx : decide (200 < (x.size : Int)) = false := by simp; omega
        have N := asd (QQ.out.next (x := x) (by omega) (by omega) m)
        have KA := lappend_any SS.out.sys (by decide) (by decide) x 0 (by omega)
        rw [N.out.1] at KA
        go_wp2_with (go_at_call 13; refine KA.mono ?_; rintro e w4 ⟨rfl, d2, s2, p2, st2⟩; have R2 : Aside (RL W file at_ y B l b m (k + 1) w4) := (by obtain ⟨G', q⟩ := N.out.2; exact ⟨d2, G', SS.out.next s2 st2, by rw [p2]; exact q⟩); clear s2 p2 st2)
        go_roundg (L.length - (k + 1))
        case measure => omega
        case rel => exact ⟨k + 1, Nat.le_refl _, by omega, by go_num, R2⟩
    · obtain rfl : k = L.length := by omega
      have dk : decide (L.length < L.length) = false := by simp
      obtain ⟨y1, y2, y3, y4, y5⟩ := syn_step QQ.out.inv QQ.out.down QQ.out.fused
      have KS := lsync_any SS.out.sys
      rw [y1] at KS
      go_wp2_with (first
        | (go_at_call 15; refine KS.mono ?_; rintro e w4 ⟨rfl, d2, s2, p2, st2⟩; have SS2 := asd (SS.out.next s2 st2); have Y2 : Aside (Inv d2.pl G) := (by show Inv _ _; rw [p2]; exact y2); have Y3 : Aside (∀ f ∈ d2.pl.files, f.sure = f.bytes.length) := (by show ∀ f ∈ _, _; rw [p2]; exact y3); have Y4 : Aside (d2.pl.down = false) := (by show _ = _; rw [p2]; exact y4); obtain ⟨c0, c1, c2⟩ := CB.out _ SS2.out.bel; clear s2 p2 st2 y2 y3 y4 y5))
      have HW : Aside (wrap64 (y.toNat : Int) = (y.toNat : Int)) := by
        have := y.toNat_lt
        show wrap64 _ = _
        unfold wrap64
        omega
      have KR := drot_any SS2.out.sys.dsk file at_ (y.toNat : Int)
      have BF := asd (fun (fo : List Nat) (u : World) (st : Dk.Step (d2.foot b) fo w4 u) => (show Below W.heap.size W u from BB.out.trans ((SS2.out.bel.trans (st.below (fun k hk => by have := (SS2.out.sys.rep.lt k hk).1; omega) (by have := SS2.out.sys.hs; omega))).mono (by omega))))
      have BX := asd (fun (fo : List Nat) (u : World) (st : Dk.Step (d2.foot b) fo w4 u) => CB.out u (SS2.out.bel.trans (st.below (fun k hk => by have := (SS2.out.sys.rep.lt k hk).1; omega) (by have := SS2.out.sys.hs; omega))))
      cases hr : (Dk.opRot d2.pl file at_ (y.toNat : Int)).1 with
      | true =>
        have RT := asd (rot_told Y2.out Y3.out Y4.out HY.out hr)
        rw [hr] at KR
        clear hr c0 c1 c2
        go_wp2_with (first
          | (go_at_call 28; rw [HW.out]; refine KR.mono ?_; rintro e w5 ⟨rfl, d3, s3, p3, st3⟩; have S3 := asd s3; have P3 := asd p3; have ST3 := asd st3; clear s3 p3 st3 KR)
          | (go_at_call 26; refine (dfuse_any S3.out 0 (by decide)).mono ?_; rintro e w6 ⟨rfl, d4, s4, p4, st4⟩; have S4 := asd s4; have P4 : Aside (d4.pl = Dk.opFuse (Dk.opRot d2.pl file at_ (y.toNat : Int)).2 0) := (by show _ = _; rw [p4, P3.out]); have ST4 := asd (ST3.out.trans st4); clear s4 p4 st4)
          | (go_at_call 11; refine (open_err S4.out 1 lim (c := 4) (by rw [P4.out]; exact RT.out.1)).mono ?_; rintro e w7 ⟨rfl, d5, s5, p5, st5⟩; have S5 := asd s5; have P5 : Aside (d5.pl.down = false) := (by show _ = _; rw [p5, P4.out]; exact RT.out.2.2); have ST5 := asd (ST4.out.trans st5); clear s5 p5 st5)
          | (go_at_call 23; refine (last_nil' _).mono ?_; rintro e w8 ⟨rfl, rfl⟩)
          | (go_at_call 31; refine (Dk.down_any S5.out.rep).mono ?_; rw [P5.out]; rintro e w9 ⟨rfl, rfl⟩))
        go_ret
        exact ⟨rfl, BF.out _ _ ST5.out⟩
      | false =>
        obtain ⟨q1, q2⟩ := rot_not hr
        have Q1 := asd q1
        rw [hr] at KR
        clear hr q1
        go_wp2_with (first
          | (go_at_call 28; rw [HW.out]; refine KR.mono ?_; rintro e w5 ⟨rfl, d3, s3, p3, st3⟩; have S3 := asd s3; have P3 : Aside (d3.pl = d2.pl) := (by show _ = _; rw [p3, Q1.out]); have ST3 := asd st3; clear s3 p3 st3 KR c0 c1 c2))
        obtain ⟨c0, c1, c2⟩ := BX.out _ _ ST3.out
        have HF := asd (fun n => BF.out (d3.foot b) (w5.drewN n) (ST3.out.trans (Dk.Step.ofBelow (drewN_below _ _))))
        by_cases g0 : file < 0
        · have t0 : decide (file < 0) = true := decide_eq_true g0
          go_quiet (fail)
          go_wp2
          go_ret
          exact ⟨rfl, HF.out _⟩
        · have t0 : decide (file < 0) = false := decide_eq_false g0
          by_cases g1 : at_ < 0
          · have t1 : decide (at_ < 0) = true := decide_eq_true g1
            go_quiet (fail)
            go_wp2
            go_ret
            exact ⟨rfl, HF.out _⟩
          · have t1 : decide (at_ < 0) = false := decide_eq_false g1
            have KN : Aside (∀ u, Dsk B b d3 u → Calls Tryz.prog 29 #[.pointer (some ⟨b, 0, none⟩)] u fun e w' => ∃ a c, e = .returned (.slice a d3.names.length c) ∧ (∀ j (_ : j < d3.names.length), ∃ g, a = some ⟨g, 0, none⟩ ∧ w'.cell? ⟨g, j, none⟩ = some (.string d3.names[j])) ∧ Below u.heap.size u w') := fun u hu => by
              refine (Dk.names_any hu.rep hu.ok).mono ?_
              rintro e w' ⟨v, rfl, ho, hb⟩
              obtain ⟨a1, c1, rfl⟩ := Dk.own_any ho
              refine ⟨a1, c1, rfl, fun j hj => ?_, hb⟩
              obtain ⟨g, cap, e2, _, _, hg⟩ := Dk.own_form ho (by omega)
              injection e2 with e3 _ _
              exact ⟨g, e3, Dk.own_cell ho hg (by unfold Dk.scells; rw [List.getElem?_map, List.getElem?_eq_getElem hj]; rfl)⟩
            have hnl : d3.names.length = d2.pl.files.length := by
              rw [← Dk.names_pl, P3.out]
              simp [Dk.St.names]
            have dr : Below w5.heap.size w5 w5.drew := ⟨rfl, rfl, rfl, Nat.le_refl _, fun _ _ => rfl⟩
            have SD := asd (S3.out.below dr)
            have c0d : w5.drew.cell? ⟨W.heap.size, 0, none⟩ = some (.int .i64 file) := c0
            have c1d : w5.drew.cell? ⟨W.heap.size, 1, none⟩ = some (.int .i64 at_) := c1
            have BX2 := asd (fun (u : World) (hb : Below w5.drew.heap.size w5.drew u) => BX.out _ u (ST3.out.trans (Dk.Step.ofBelow (dr.trans hb))))
            have BF2 := asd (fun (u : World) (hb : Below w5.drew.heap.size w5.drew u) => BF.out _ u (ST3.out.trans (Dk.Step.ofBelow (dr.trans hb))))
            clear HF
            rcases q2 with q | q | q | ⟨f, q3, q4, q5⟩
            · exact absurd q g0
            · exact absurd q g1
            · have t2 : decide ((d3.names.length : Int) ≤ file) = true := decide_eq_true (by rw [hnl]; exact q)
              clear hnl
              have KN3 : Aside (∀ u, Below w5.drew.heap.size w5.drew u → Calls Tryz.prog 29 #[.pointer (some ⟨b, 0, none⟩)] u fun e w' => ∃ a c, e = .returned (.slice a d3.names.length c) ∧ Below w5.drew.heap.size w5.drew w' ∧ (w'.cell? ⟨W.heap.size, 0, none⟩ = some (.int .i64 file) ∧ w'.cell? ⟨W.heap.size, 1, none⟩ = some (.int .i64 at_))) := fun u hu => by
                refine (KN.out u (SD.out.below hu)).mono ?_
                rintro e w' ⟨a1, c1, rfl, hc, hb⟩
                have hb2 := hu.trans (hb.mono hu.size)
                obtain ⟨z0, z1, _⟩ := BX2.out w' hb2
                exact ⟨a1, c1, rfl, hb2, z0, z1⟩
              have bw0 : Below w5.drew.heap.size w5.drew w5.drew := Below.refl _ _
              clear KN SD
              generalize d3.names.length = NL at *
              refine wp_region_held_drew (S := (fun u => u.cell? ⟨W.heap.size, 0, none⟩ = some (.int .i64 file) ∧ u.cell? ⟨W.heap.size, 1, none⟩ = some (.int .i64 at_))) (by kernel_rfl) ⟨c0d, c1d⟩ (fun hHeld => ?_)
              change wpAnyH _ _ _ _ _ _ _ _ (World.drew _)
              refine Dk.takeH_to (i := 0) (v := .pointer (some ⟨W.heap.size, 0, none⟩)) (some 63) rfl rfl (by kernel_rfl) (by kernel_rfl) (by kernel_rfl) (fun _ _ _ h => h) (Or.inl ⟨by rfl, fun u hu => by (try dsimp only at hu); obtain ⟨hu1, hu2⟩ := hu; go_simp <;> (first | rfl | omega)⟩) (by assumption) ?_
              try simp only [Act.put, List.setIfInBounds_toArray, List.set_cons_zero, List.set_cons_succ]
              refine Dk.takeH_to (i := 1) (v := .int .i64 file) (some 64) rfl rfl (by kernel_rfl) (by kernel_rfl) (by kernel_rfl) (fun _ _ _ h => h) (Or.inl ⟨by rfl, fun u hu => by (try dsimp only at hu); obtain ⟨hu1, hu2⟩ := hu; go_simp <;> (first | rfl | omega)⟩) (by assumption) ?_
              try simp only [Act.put, List.setIfInBounds_toArray, List.set_cons_zero, List.set_cons_succ]
              refine Dk.takeH_to (i := 2) (v := .bool false) (some 65) rfl rfl (by kernel_rfl) (by kernel_rfl) (by kernel_rfl) (fun _ _ _ h => h) (Or.inl ⟨by rfl, fun u hu => by (try dsimp only at hu); obtain ⟨hu1, hu2⟩ := hu; go_simp <;> (first | rfl | omega)⟩) (by assumption) ?_
              try simp only [Act.put, List.setIfInBounds_toArray, List.set_cons_zero, List.set_cons_succ]
              refine Dk.takeH_to (i := 3) (v := .bool false) (some 66) rfl rfl (by kernel_rfl) (by kernel_rfl) (by kernel_rfl) (fun _ _ _ h => h) (Or.inl ⟨by rfl, fun u hu => by (try dsimp only at hu); obtain ⟨hu1, hu2⟩ := hu; go_simp <;> (first | rfl | omega)⟩) (by assumption) ?_
              try simp only [Act.put, List.setIfInBounds_toArray, List.set_cons_zero, List.set_cons_succ]
              refine Dk.takeH_to (i := 4) (v := .pointer (some ⟨W.heap.size, 1, none⟩)) (some 67) rfl rfl (by kernel_rfl) (by kernel_rfl) (by kernel_rfl) (fun _ _ _ h => h) (Or.inl ⟨by rfl, fun u hu => by (try dsimp only at hu); obtain ⟨hu1, hu2⟩ := hu; go_simp <;> (first | rfl | omega)⟩) (by assumption) ?_
              try simp only [Act.put, List.setIfInBounds_toArray, List.set_cons_zero, List.set_cons_succ]
              refine Dk.takeH_to (i := 5) (v := .int .i64 at_) (some 68) rfl rfl (by kernel_rfl) (by kernel_rfl) (by kernel_rfl) (fun _ _ _ h => h) (Or.inl ⟨by rfl, fun u hu => by (try dsimp only at hu); obtain ⟨hu1, hu2⟩ := hu; go_simp <;> (first | rfl | omega)⟩) (by assumption) ?_
              try simp only [Act.put, List.setIfInBounds_toArray, List.set_cons_zero, List.set_cons_succ]
              refine Dk.takeH_to (i := 6) (v := .bool false) (some 69) rfl rfl (by kernel_rfl) (by kernel_rfl) (by kernel_rfl) (fun _ _ _ h => h) (Or.inl ⟨by rfl, fun u hu => by (try dsimp only at hu); obtain ⟨hu1, hu2⟩ := hu; go_simp <;> (first | rfl | omega)⟩) (by assumption) ?_
              try simp only [Act.put, List.setIfInBounds_toArray, List.set_cons_zero, List.set_cons_succ]
              refine Dk.takeH_to (i := 7) (v := .bool false) (some 70) rfl rfl (by kernel_rfl) (by kernel_rfl) (by kernel_rfl) (fun _ _ _ h => h) (Or.inl ⟨by rfl, fun u hu => by (try dsimp only at hu); obtain ⟨hu1, hu2⟩ := hu; go_simp <;> (first | rfl | omega)⟩) (by assumption) ?_
              try simp only [Act.put, List.setIfInBounds_toArray, List.set_cons_zero, List.set_cons_succ]
              refine Dk.takeH_to (i := 8) (v := .bool false) (some 71) rfl rfl (by kernel_rfl) (by kernel_rfl) (by kernel_rfl) (fun _ _ _ h => h) (Or.inl ⟨by rfl, fun u hu => by (try dsimp only at hu); obtain ⟨hu1, hu2⟩ := hu; go_simp <;> (first | rfl | omega)⟩) (by assumption) ?_
              try simp only [Act.put, List.setIfInBounds_toArray, List.set_cons_zero, List.set_cons_succ]
              refine Dk.takeH_to (i := 9) (v := .pointer (some ⟨W.heap.size, 0, none⟩)) (some 72) rfl rfl (by kernel_rfl) (by kernel_rfl) (by kernel_rfl) (fun _ _ _ h => h) (Or.inl ⟨by rfl, fun u hu => by (try dsimp only at hu); obtain ⟨hu1, hu2⟩ := hu; go_simp <;> (first | rfl | omega)⟩) (by assumption) ?_
              try simp only [Act.put, List.setIfInBounds_toArray, List.set_cons_zero, List.set_cons_succ]
              refine Dk.takeH_to (i := 10) (v := .int .i64 file) (some 73) rfl rfl (by kernel_rfl) (by kernel_rfl) (by kernel_rfl) (fun _ _ _ h => h) (Or.inl ⟨by rfl, fun u hu => by (try dsimp only at hu); obtain ⟨hu1, hu2⟩ := hu; go_simp <;> (first | rfl | omega)⟩) (by assumption) ?_
              try simp only [Act.put, List.setIfInBounds_toArray, List.set_cons_zero, List.set_cons_succ]
              refine Dk.takeH_to (i := 11) (v := .pointer (some ⟨b, 0, none⟩)) (some 74) rfl rfl (by kernel_rfl) (by kernel_rfl) (by kernel_rfl) (fun _ _ _ h => h) (Or.inl ⟨by rfl, fun u hu => by (try dsimp only at hu); obtain ⟨hu1, hu2⟩ := hu; go_simp <;> (first | rfl | omega)⟩) (by assumption) ?_
              try simp only [Act.put, List.setIfInBounds_toArray, List.set_cons_zero, List.set_cons_succ]
              refine wpAnyH_ready (rs := [12]) (by kernel_rfl) (by simp) ?_
              refine AllReadyH.cons rfl (fun K hK => ?_) AllReadyH.nil
              rw [if_pos (by rfl)]
              go_simp
              go_at_call 29
              refine (KN3.out _ bw0).mono ?_
              rintro e w6 ⟨a6, c6, rfl, b6, hS6⟩
              go_simp
              refine hK.out _ _ hS6 (fun hHeld => ?_)
              clear hK K
              try simp only [Act.put, List.setIfInBounds_toArray, List.set_cons_zero, List.set_cons_succ]
              refine Dk.takeH_to (i := 13) (v := .int .i64 (NL : Int)) (some 76) rfl rfl (by kernel_rfl) (by kernel_rfl) (by kernel_rfl) (fun _ _ _ h => h) (Or.inl ⟨by rfl, fun u hu => by (try dsimp only at hu); obtain ⟨hu1, hu2⟩ := hu; go_simp <;> (first | rfl | omega)⟩) (by assumption) ?_
              try simp only [Act.put, List.setIfInBounds_toArray, List.set_cons_zero, List.set_cons_succ]
              refine Dk.takeH_to (i := 14) (v := .bool true) (some 77) rfl rfl (by kernel_rfl) (by kernel_rfl) (by kernel_rfl) (fun _ _ _ h => h) (Or.inl ⟨by rfl, fun u hu => by (try dsimp only at hu); obtain ⟨hu1, hu2⟩ := hu; go_simp <;> (first | rfl | omega)⟩) (by assumption) ?_
              try simp only [Act.put, List.setIfInBounds_toArray, List.set_cons_zero, List.set_cons_succ]
              refine Dk.takeH_to (i := 15) (v := .bool true) (some 78) rfl rfl (by kernel_rfl) (by kernel_rfl) (by kernel_rfl) (fun _ _ _ h => h) (Or.inl ⟨by rfl, fun u hu => by (try dsimp only at hu); obtain ⟨hu1, hu2⟩ := hu; go_simp <;> (first | rfl | omega)⟩) (by assumption) ?_
              try simp only [Act.put, List.setIfInBounds_toArray, List.set_cons_zero, List.set_cons_succ]
              refine Dk.takeH_to (i := 16) (v := .bool true) (some 79) rfl rfl (by kernel_rfl) (by kernel_rfl) (by kernel_rfl) (fun _ _ _ h => h) (Or.inl ⟨by rfl, fun u hu => by (try dsimp only at hu); obtain ⟨hu1, hu2⟩ := hu; go_simp <;> (first | rfl | omega)⟩) (by assumption) ?_
              try simp only [Act.put, List.setIfInBounds_toArray, List.set_cons_zero, List.set_cons_succ]
              refine Dk.takeH_to (i := 17) (v := undef) (some 80) rfl rfl (by kernel_rfl) (by kernel_rfl) (by kernel_rfl) (fun _ _ _ h => h) (Or.inr ⟨by rfl, rfl⟩) (by assumption) ?_
              try simp only [Act.put, List.setIfInBounds_toArray, List.set_cons_zero, List.set_cons_succ]
              refine Dk.takeH_to (i := 18) (v := undef) (some 81) rfl rfl (by kernel_rfl) (by kernel_rfl) (by kernel_rfl) (fun _ _ _ h => h) (Or.inr ⟨by rfl, rfl⟩) (by assumption) ?_
              try simp only [Act.put, List.setIfInBounds_toArray, List.set_cons_zero, List.set_cons_succ]
              refine Dk.takeH_to (i := 19) (v := undef) (some 82) rfl rfl (by kernel_rfl) (by kernel_rfl) (by kernel_rfl) (fun _ _ _ h => h) (Or.inr ⟨by rfl, rfl⟩) (by assumption) ?_
              try simp only [Act.put, List.setIfInBounds_toArray, List.set_cons_zero, List.set_cons_succ]
              refine Dk.takeH_to (i := 20) (v := undef) (some 83) rfl rfl (by kernel_rfl) (by kernel_rfl) (by kernel_rfl) (fun _ _ _ h => h) (Or.inr ⟨by rfl, rfl⟩) (by assumption) ?_
              try simp only [Act.put, List.setIfInBounds_toArray, List.set_cons_zero, List.set_cons_succ]
              refine Dk.takeH_to (i := 21) (v := undef) (some 84) rfl rfl (by kernel_rfl) (by kernel_rfl) (by kernel_rfl) (fun _ _ _ h => h) (Or.inr ⟨by rfl, rfl⟩) (by assumption) ?_
              try simp only [Act.put, List.setIfInBounds_toArray, List.set_cons_zero, List.set_cons_succ]
              refine Dk.takeH_to (i := 22) (v := undef) (some 85) rfl rfl (by kernel_rfl) (by kernel_rfl) (by kernel_rfl) (fun _ _ _ h => h) (Or.inr ⟨by rfl, rfl⟩) (by assumption) ?_
              try simp only [Act.put, List.setIfInBounds_toArray, List.set_cons_zero, List.set_cons_succ]
              refine Dk.takeH_to (i := 23) (v := undef) (some 86) rfl rfl (by kernel_rfl) (by kernel_rfl) (by kernel_rfl) (fun _ _ _ h => h) (Or.inr ⟨by rfl, rfl⟩) (by assumption) ?_
              try simp only [Act.put, List.setIfInBounds_toArray, List.set_cons_zero, List.set_cons_succ]
              refine Dk.takeH_to (i := 24) (v := undef) (some 87) rfl rfl (by kernel_rfl) (by kernel_rfl) (by kernel_rfl) (fun _ _ _ h => h) (Or.inr ⟨by rfl, rfl⟩) (by assumption) ?_
              try simp only [Act.put, List.setIfInBounds_toArray, List.set_cons_zero, List.set_cons_succ]
              refine Dk.takeH_to (i := 25) (v := undef) (some 88) rfl rfl (by kernel_rfl) (by kernel_rfl) (by kernel_rfl) (fun _ _ _ h => h) (Or.inr ⟨by rfl, rfl⟩) (by assumption) ?_
              try simp only [Act.put, List.setIfInBounds_toArray, List.set_cons_zero, List.set_cons_succ]
              refine Dk.takeH_to (i := 26) (v := undef) (some 89) rfl rfl (by kernel_rfl) (by kernel_rfl) (by kernel_rfl) (fun _ _ _ h => h) (Or.inr ⟨by rfl, rfl⟩) (by assumption) ?_
              try simp only [Act.put, List.setIfInBounds_toArray, List.set_cons_zero, List.set_cons_succ]
              refine Dk.takeH_to (i := 27) (v := undef) (some 90) rfl rfl (by kernel_rfl) (by kernel_rfl) (by kernel_rfl) (fun _ _ _ h => h) (Or.inr ⟨by rfl, rfl⟩) (by assumption) ?_
              try simp only [Act.put, List.setIfInBounds_toArray, List.set_cons_zero, List.set_cons_succ]
              refine Dk.takeH_to (i := 28) (v := .bool true) (some 91) rfl rfl (by kernel_rfl) (by kernel_rfl) (by kernel_rfl) (fun _ _ _ h => h) (Or.inl ⟨by rfl, fun u hu => by (try dsimp only at hu); obtain ⟨hu1, hu2⟩ := hu; go_simp <;> (first | rfl | omega)⟩) (by assumption) ?_
              try simp only [Act.put, List.setIfInBounds_toArray, List.set_cons_zero, List.set_cons_succ]
              refine Dk.takeH_to (i := 29) (v := .bool true) (some 6) rfl rfl (by kernel_rfl) (by kernel_rfl) (by kernel_rfl) (fun _ _ _ h => h) (Or.inl ⟨by rfl, fun u hu => by (try dsimp only at hu); obtain ⟨hu1, hu2⟩ := hu; go_simp <;> (first | rfl | omega)⟩) (by assumption) ?_
              try simp only [Act.put, List.setIfInBounds_toArray, List.set_cons_zero, List.set_cons_succ]
              refine wpAnyH_done (by kernel_rfl) ?_ _
              go_wp2
              go_ret
              exact ⟨rfl, BF2.out _ b6⟩
            · obtain ⟨j, rfl⟩ : ∃ j : Nat, file = (j : Int) := ⟨file.toNat, by omega⟩
              rw [Int.toNat_natCast] at q3
              have hj2 : j < d2.pl.files.length := (List.getElem?_eq_some_iff.1 q3).1
              have hj : j < d3.names.length := by rw [hnl]; exact hj2
              have t2 : decide ((d3.names.length : Int) ≤ (j : Int)) = false := by simp; exact hj
              have t2' : decide (d3.names.length ≤ j) = false := by simp; exact hj
              have t3 : decide ((f.sure : Int) ≤ at_) = true := decide_eq_true q5
              have hfm : f ∈ d3.pl.files := by rw [P3.out]; exact List.mem_of_getElem? q3
              have hnm : d3.names[j] = f.name := by
                have e9 : d3.names = d2.pl.files.map Dk.F.name := by
                  rw [← Dk.names_pl, P3.out]
                  rfl
                have : d3.names[j]? = some f.name := by rw [e9, List.getElem?_map, q3]; rfl
                rw [List.getElem?_eq_getElem hj] at this
                injection this
              have dj : decide (j < d3.names.length) = true := decide_eq_true hj
              have hsu : Dk.opSure d3.pl f.name = f.sure := by
                obtain ⟨w1', w2'⟩ := file_at SD.out.ok hfm
                unfold Dk.opSure Dk.St.sureOf
                first
                  | rw [if_pos w1', w2']
                  | (rw [w2'])
                  | simp [w1', w2']
              have KN2 : Aside (∀ u, Below w5.drew.heap.size w5.drew u → Calls Tryz.prog 29 #[.pointer (some ⟨b, 0, none⟩)] u fun e w' => ∃ g c, e = .returned (.slice (some ⟨g, 0, none⟩) d3.names.length c) ∧ w'.cell? ⟨g, j, none⟩ = some (.string f.name) ∧ Below w5.drew.heap.size w5.drew w' ∧ (w'.cell? ⟨W.heap.size, 0, none⟩ = some (.int .i64 (j : Int)) ∧ w'.cell? ⟨W.heap.size, 1, none⟩ = some (.int .i64 at_)) ∧ ∀ p x, u.cell? p = some x → w'.cell? p = some x) := fun u hu => by
                refine (KN.out u (SD.out.below hu)).mono ?_
                rintro e w' ⟨a1, c1, rfl, hc, hb⟩
                obtain ⟨g, rfl, hx⟩ := hc j hj
                have hb2 := hu.trans (hb.mono hu.size)
                obtain ⟨z0, z1, _⟩ := BX2.out w' hb2
                exact ⟨g, c1, rfl, by rw [← hnm]; exact hx, hb2, ⟨z0, z1⟩, fun p x hp => Dk.cell_below hp hb⟩
              have KS2 : Aside (∀ u, Below w5.drew.heap.size w5.drew u → Calls Tryz.prog 30 #[.pointer (some ⟨b, 0, none⟩), .string f.name] u fun e w' => e = .returned (.int .i64 (f.sure : Int)) ∧ Below w5.drew.heap.size w5.drew w' ∧ (w'.cell? ⟨W.heap.size, 0, none⟩ = some (.int .i64 (j : Int)) ∧ w'.cell? ⟨W.heap.size, 1, none⟩ = some (.int .i64 at_)) ∧ ∀ p x, u.cell? p = some x → w'.cell? p = some x) := fun u hu => by
                refine (Dk.sure_any (SD.out.below hu).rep (SD.out.below hu).ok f.name).mono ?_
                rintro e w' ⟨rfl, hb⟩
                have hb2 := hu.trans (hb.mono hu.size)
                obtain ⟨z0, z1, _⟩ := BX2.out w' hb2
                exact ⟨by rw [hsu], hb2, ⟨z0, z1⟩, fun p x hp => Dk.cell_below hp hb⟩
              have bw0 : Below w5.drew.heap.size w5.drew w5.drew := Below.refl _ _
              clear hnl hnm hfm hsu KN SD q3 q4 q5 hj2
              generalize f.name = FN at *
              refine wp_region_held_drew (S := (fun u => u.cell? ⟨W.heap.size, 0, none⟩ = some (.int .i64 (j : Int)) ∧ u.cell? ⟨W.heap.size, 1, none⟩ = some (.int .i64 at_))) (by kernel_rfl) ⟨c0d, c1d⟩ (fun hHeld => ?_)
              change wpAnyH _ _ _ _ _ _ _ _ (World.drew _)
              refine Dk.takeH_to (i := 0) (v := .pointer (some ⟨W.heap.size, 0, none⟩)) (some 63) rfl rfl (by kernel_rfl) (by kernel_rfl) (by kernel_rfl) (fun _ _ _ h => h) (Or.inl ⟨by rfl, fun u hu => by (try dsimp only at hu); obtain ⟨hu1, hu2⟩ := hu; go_simp <;> (first | rfl | omega)⟩) (by assumption) ?_
              try simp only [Act.put, List.setIfInBounds_toArray, List.set_cons_zero, List.set_cons_succ]
              refine Dk.takeH_to (i := 1) (v := .int .i64 (j : Int)) (some 64) rfl rfl (by kernel_rfl) (by kernel_rfl) (by kernel_rfl) (fun _ _ _ h => h) (Or.inl ⟨by rfl, fun u hu => by (try dsimp only at hu); obtain ⟨hu1, hu2⟩ := hu; go_simp <;> (first | rfl | omega)⟩) (by assumption) ?_
              try simp only [Act.put, List.setIfInBounds_toArray, List.set_cons_zero, List.set_cons_succ]
              refine Dk.takeH_to (i := 2) (v := .bool false) (some 65) rfl rfl (by kernel_rfl) (by kernel_rfl) (by kernel_rfl) (fun _ _ _ h => h) (Or.inl ⟨by rfl, fun u hu => by (try dsimp only at hu); obtain ⟨hu1, hu2⟩ := hu; go_simp <;> (first | rfl | omega)⟩) (by assumption) ?_
              try simp only [Act.put, List.setIfInBounds_toArray, List.set_cons_zero, List.set_cons_succ]
              refine Dk.takeH_to (i := 3) (v := .bool false) (some 66) rfl rfl (by kernel_rfl) (by kernel_rfl) (by kernel_rfl) (fun _ _ _ h => h) (Or.inl ⟨by rfl, fun u hu => by (try dsimp only at hu); obtain ⟨hu1, hu2⟩ := hu; go_simp <;> (first | rfl | omega)⟩) (by assumption) ?_
              try simp only [Act.put, List.setIfInBounds_toArray, List.set_cons_zero, List.set_cons_succ]
              refine Dk.takeH_to (i := 4) (v := .pointer (some ⟨W.heap.size, 1, none⟩)) (some 67) rfl rfl (by kernel_rfl) (by kernel_rfl) (by kernel_rfl) (fun _ _ _ h => h) (Or.inl ⟨by rfl, fun u hu => by (try dsimp only at hu); obtain ⟨hu1, hu2⟩ := hu; go_simp <;> (first | rfl | omega)⟩) (by assumption) ?_
              try simp only [Act.put, List.setIfInBounds_toArray, List.set_cons_zero, List.set_cons_succ]
              refine Dk.takeH_to (i := 5) (v := .int .i64 at_) (some 68) rfl rfl (by kernel_rfl) (by kernel_rfl) (by kernel_rfl) (fun _ _ _ h => h) (Or.inl ⟨by rfl, fun u hu => by (try dsimp only at hu); obtain ⟨hu1, hu2⟩ := hu; go_simp <;> (first | rfl | omega)⟩) (by assumption) ?_
              try simp only [Act.put, List.setIfInBounds_toArray, List.set_cons_zero, List.set_cons_succ]
              refine Dk.takeH_to (i := 6) (v := .bool false) (some 69) rfl rfl (by kernel_rfl) (by kernel_rfl) (by kernel_rfl) (fun _ _ _ h => h) (Or.inl ⟨by rfl, fun u hu => by (try dsimp only at hu); obtain ⟨hu1, hu2⟩ := hu; go_simp <;> (first | rfl | omega)⟩) (by assumption) ?_
              try simp only [Act.put, List.setIfInBounds_toArray, List.set_cons_zero, List.set_cons_succ]
              refine Dk.takeH_to (i := 7) (v := .bool false) (some 70) rfl rfl (by kernel_rfl) (by kernel_rfl) (by kernel_rfl) (fun _ _ _ h => h) (Or.inl ⟨by rfl, fun u hu => by (try dsimp only at hu); obtain ⟨hu1, hu2⟩ := hu; go_simp <;> (first | rfl | omega)⟩) (by assumption) ?_
              try simp only [Act.put, List.setIfInBounds_toArray, List.set_cons_zero, List.set_cons_succ]
              refine Dk.takeH_to (i := 8) (v := .bool false) (some 71) rfl rfl (by kernel_rfl) (by kernel_rfl) (by kernel_rfl) (fun _ _ _ h => h) (Or.inl ⟨by rfl, fun u hu => by (try dsimp only at hu); obtain ⟨hu1, hu2⟩ := hu; go_simp <;> (first | rfl | omega)⟩) (by assumption) ?_
              try simp only [Act.put, List.setIfInBounds_toArray, List.set_cons_zero, List.set_cons_succ]
              refine Dk.takeH_to (i := 9) (v := .pointer (some ⟨W.heap.size, 0, none⟩)) (some 72) rfl rfl (by kernel_rfl) (by kernel_rfl) (by kernel_rfl) (fun _ _ _ h => h) (Or.inl ⟨by rfl, fun u hu => by (try dsimp only at hu); obtain ⟨hu1, hu2⟩ := hu; go_simp <;> (first | rfl | omega)⟩) (by assumption) ?_
              try simp only [Act.put, List.setIfInBounds_toArray, List.set_cons_zero, List.set_cons_succ]
              refine Dk.takeH_to (i := 10) (v := .int .i64 (j : Int)) (some 73) rfl rfl (by kernel_rfl) (by kernel_rfl) (by kernel_rfl) (fun _ _ _ h => h) (Or.inl ⟨by rfl, fun u hu => by (try dsimp only at hu); obtain ⟨hu1, hu2⟩ := hu; go_simp <;> (first | rfl | omega)⟩) (by assumption) ?_
              try simp only [Act.put, List.setIfInBounds_toArray, List.set_cons_zero, List.set_cons_succ]
              refine Dk.takeH_to (i := 11) (v := .pointer (some ⟨b, 0, none⟩)) (some 74) rfl rfl (by kernel_rfl) (by kernel_rfl) (by kernel_rfl) (fun _ _ _ h => h) (Or.inl ⟨by rfl, fun u hu => by (try dsimp only at hu); obtain ⟨hu1, hu2⟩ := hu; go_simp <;> (first | rfl | omega)⟩) (by assumption) ?_
              try simp only [Act.put, List.setIfInBounds_toArray, List.set_cons_zero, List.set_cons_succ]
              refine wpAnyH_ready (rs := [12]) (by kernel_rfl) (by simp) ?_
              refine AllReadyH.cons rfl (fun K hK => ?_) AllReadyH.nil
              rw [if_pos (by rfl)]
              go_simp
              go_at_call 29
              refine (KN2.out _ bw0).mono ?_
              rintro e w6 ⟨g6, c6, rfl, _, b6, hS6, _⟩
              go_simp
              refine hK.out _ _ hS6 (fun hHeld => ?_)
              clear hK K
              try simp only [Act.put, List.setIfInBounds_toArray, List.set_cons_zero, List.set_cons_succ]
              refine Dk.takeH_to (i := 13) (v := .int .i64 (d3.names.length : Int)) (some 76) rfl rfl (by kernel_rfl) (by kernel_rfl) (by kernel_rfl) (fun _ _ _ h => h) (Or.inl ⟨by rfl, fun u hu => by (try dsimp only at hu); obtain ⟨hu1, hu2⟩ := hu; go_simp <;> (first | rfl | omega)⟩) (by assumption) ?_
              try simp only [Act.put, List.setIfInBounds_toArray, List.set_cons_zero, List.set_cons_succ]
              refine Dk.takeH_to (i := 14) (v := .bool false) (some 77) rfl rfl (by kernel_rfl) (by kernel_rfl) (by kernel_rfl) (fun _ _ _ h => h) (Or.inl ⟨by rfl, fun u hu => by (try dsimp only at hu); obtain ⟨hu1, hu2⟩ := hu; go_simp <;> (first | rfl | omega)⟩) (by assumption) ?_
              try simp only [Act.put, List.setIfInBounds_toArray, List.set_cons_zero, List.set_cons_succ]
              refine Dk.takeH_to (i := 15) (v := .bool false) (some 78) rfl rfl (by kernel_rfl) (by kernel_rfl) (by kernel_rfl) (fun _ _ _ h => h) (Or.inl ⟨by rfl, fun u hu => by (try dsimp only at hu); obtain ⟨hu1, hu2⟩ := hu; go_simp <;> (first | rfl | omega)⟩) (by assumption) ?_
              try simp only [Act.put, List.setIfInBounds_toArray, List.set_cons_zero, List.set_cons_succ]
              refine Dk.takeH_to (i := 16) (v := .bool false) (some 79) rfl rfl (by kernel_rfl) (by kernel_rfl) (by kernel_rfl) (fun _ _ _ h => h) (Or.inl ⟨by rfl, fun u hu => by (try dsimp only at hu); obtain ⟨hu1, hu2⟩ := hu; go_simp <;> (first | rfl | omega)⟩) (by assumption) ?_
              try simp only [Act.put, List.setIfInBounds_toArray, List.set_cons_zero, List.set_cons_succ]
              refine Dk.takeH_to (i := 17) (v := .pointer (some ⟨W.heap.size, 1, none⟩)) (some 80) rfl rfl (by kernel_rfl) (by kernel_rfl) (by kernel_rfl) (fun _ _ _ h => h) (Or.inl ⟨by rfl, fun u hu => by (try dsimp only at hu); obtain ⟨hu1, hu2⟩ := hu; go_simp <;> (first | rfl | omega)⟩) (by assumption) ?_
              try simp only [Act.put, List.setIfInBounds_toArray, List.set_cons_zero, List.set_cons_succ]
              refine Dk.takeH_to (i := 18) (v := .int .i64 at_) (some 81) rfl rfl (by kernel_rfl) (by kernel_rfl) (by kernel_rfl) (fun _ _ _ h => h) (Or.inl ⟨by rfl, fun u hu => by (try dsimp only at hu); obtain ⟨hu1, hu2⟩ := hu; go_simp <;> (first | rfl | omega)⟩) (by assumption) ?_
              try simp only [Act.put, List.setIfInBounds_toArray, List.set_cons_zero, List.set_cons_succ]
              refine Dk.takeH_to (i := 19) (v := .pointer (some ⟨b, 0, none⟩)) (some 82) rfl rfl (by kernel_rfl) (by kernel_rfl) (by kernel_rfl) (fun _ _ _ h => h) (Or.inl ⟨by rfl, fun u hu => by (try dsimp only at hu); obtain ⟨hu1, hu2⟩ := hu; go_simp <;> (first | rfl | omega)⟩) (by assumption) ?_
              try simp only [Act.put, List.setIfInBounds_toArray, List.set_cons_zero, List.set_cons_succ]
              refine Dk.takeH_to (i := 20) (v := .pointer (some ⟨b, 0, none⟩)) (some 83) rfl rfl (by kernel_rfl) (by kernel_rfl) (by kernel_rfl) (fun _ _ _ h => h) (Or.inl ⟨by rfl, fun u hu => by (try dsimp only at hu); obtain ⟨hu1, hu2⟩ := hu; go_simp <;> (first | rfl | omega)⟩) (by assumption) ?_
              try simp only [Act.put, List.setIfInBounds_toArray, List.set_cons_zero, List.set_cons_succ]
              refine Dk.takeH_to (i := 22) (v := .pointer (some ⟨W.heap.size, 0, none⟩)) (some 85) rfl rfl (by kernel_rfl) (by kernel_rfl) (by kernel_rfl) (fun _ _ _ h => h) (Or.inl ⟨by rfl, fun u hu => by (try dsimp only at hu); obtain ⟨hu1, hu2⟩ := hu; go_simp <;> (first | rfl | omega)⟩) (by assumption) ?_
              try simp only [Act.put, List.setIfInBounds_toArray, List.set_cons_zero, List.set_cons_succ]
              refine Dk.takeH_to (i := 23) (v := .int .i64 (j : Int)) (some 86) rfl rfl (by kernel_rfl) (by kernel_rfl) (by kernel_rfl) (fun _ _ _ h => h) (Or.inl ⟨by rfl, fun u hu => by (try dsimp only at hu); obtain ⟨hu1, hu2⟩ := hu; go_simp <;> (first | rfl | omega)⟩) (by assumption) ?_
              try simp only [Act.put, List.setIfInBounds_toArray, List.set_cons_zero, List.set_cons_succ]
              refine wpAnyH_ready (rs := [21]) (by kernel_rfl) (by simp) ?_
              refine AllReadyH.cons rfl (fun K hK => ?_) AllReadyH.nil
              rw [if_pos (by rfl)]
              go_simp
              go_at_call 29
              refine (KN2.out _ b6).mono ?_
              rintro e w7 ⟨g7, c7, rfl, hx7, b7, hS7, _⟩
              go_simp
              refine hK.out _ _ hS7 (fun hHeld => ?_)
              clear hK K
              try simp only [Act.put, List.setIfInBounds_toArray, List.set_cons_zero, List.set_cons_succ]
              refine Dk.takeH_to (i := 24) (v := .pointer (some ⟨g7, j, none⟩)) (some 87) rfl rfl (by kernel_rfl) (by kernel_rfl) (by kernel_rfl) (fun _ _ _ h => h) (Or.inl ⟨by rfl, fun u hu => by (try dsimp only at hu); obtain ⟨hu1, hu2⟩ := hu; go_simp <;> (first | rfl | omega)⟩) (by assumption) ?_
              try simp only [Act.put, List.setIfInBounds_toArray, List.set_cons_zero, List.set_cons_succ]
              refine wpAnyH_ready (rs := [25]) (by kernel_rfl) (by simp) ?_
              refine AllReadyH.cons rfl (fun K hK => ?_) AllReadyH.nil
              rw [if_pos (by rfl)]
              go_simp
              refine hK.out _ _ hS7 (fun hHeld => ?_)
              clear hK K
              try simp only [Act.put, List.setIfInBounds_toArray, List.set_cons_zero, List.set_cons_succ]
              refine wpAnyH_ready (rs := [26]) (by kernel_rfl) (by simp) ?_
              refine AllReadyH.cons rfl (fun K hK => ?_) AllReadyH.nil
              rw [if_pos (by rfl)]
              go_simp
              go_at_call 30
              refine (KS2.out _ b7).mono ?_
              rintro e w8 ⟨rfl, b8, hS8, _⟩
              go_simp
              refine hK.out _ _ hS8 (fun hHeld => ?_)
              clear hK K
              try simp only [Act.put, List.setIfInBounds_toArray, List.set_cons_zero, List.set_cons_succ]
              refine Dk.takeH_to (i := 27) (v := .bool true) (some 90) rfl rfl (by kernel_rfl) (by kernel_rfl) (by kernel_rfl) (fun _ _ _ h => h) (Or.inl ⟨by rfl, fun u hu => by (try dsimp only at hu); obtain ⟨hu1, hu2⟩ := hu; go_simp <;> (first | rfl | omega)⟩) (by assumption) ?_
              try simp only [Act.put, List.setIfInBounds_toArray, List.set_cons_zero, List.set_cons_succ]
              refine Dk.takeH_to (i := 28) (v := .bool true) (some 91) rfl rfl (by kernel_rfl) (by kernel_rfl) (by kernel_rfl) (fun _ _ _ h => h) (Or.inl ⟨by rfl, fun u hu => by (try dsimp only at hu); obtain ⟨hu1, hu2⟩ := hu; go_simp <;> (first | rfl | omega)⟩) (by assumption) ?_
              try simp only [Act.put, List.setIfInBounds_toArray, List.set_cons_zero, List.set_cons_succ]
              refine Dk.takeH_to (i := 29) (v := .bool true) (some 6) rfl rfl (by kernel_rfl) (by kernel_rfl) (by kernel_rfl) (fun _ _ _ h => h) (Or.inl ⟨by rfl, fun u hu => by (try dsimp only at hu); obtain ⟨hu1, hu2⟩ := hu; go_simp <;> (first | rfl | omega)⟩) (by assumption) ?_
              try simp only [Act.put, List.setIfInBounds_toArray, List.set_cons_zero, List.set_cons_succ]
              refine wpAnyH_done (by kernel_rfl) ?_ _
              go_wp2
              go_ret
              exact ⟨rfl, BF2.out _ b8⟩
end Go.Proofs.YtajjcfacbnicnaaGreatDoor

/-
  The list that SeglogKeeps keeps; a crash.
-/
namespace Go.Proofs.YtajjcfacbnicnaaGreatDoor
open Go.RowKit
set_option maxRecDepth 100000
/-- The log, its disk, and a list of texts, in memory. -/
structure KS (W : World) (B l b : Nat) (m : Int) (v : Value) (L : List ByteArray) (d : Dk.Ds) (u : World) : Prop where
  sys : Sys B l b 1 m d u
  own : u.ownsRow B 9 1 v L.length (Fm.cellsS L)
  apart : ∀ j, v.ownBlock = some j → j ≠ l ∧ j ∉ d.foot b
  bel : Below W.heap.size W u
  le : W.heap.size ≤ B
theorem KS.later {W u u' : World} {B l b : Nat} {m : Int} {v : Value} {L : List ByteArray} {d : Dk.Ds} (h : KS W B l b m v L d u) (hb : Below u.heap.size u u') : KS W B l b m v L d u' :=
  ⟨h.sys.below hb, Dk.own_frame h.own fun k hk => hb.block k (h.own.lt k hk).2, h.apart, h.bel.trans (hb.mono h.bel.size), h.le⟩
/-- The list of texts behind a step of the disk. -/
theorem row_kept {u u' : World} {B b : Nat} {v : Value} {L : List ByteArray} {d d' : Dk.Ds} (h : u.ownsRow B 9 1 v L.length (Fm.cellsS L)) (ha : ∀ j, v.ownBlock = some j → j ∉ d.foot b) (st : Dk.Step (d.foot b) (d'.foot b) u u') :
    u'.ownsRow B 9 1 v L.length (Fm.cellsS L) ∧ ∀ j, v.ownBlock = some j → j ∉ d'.foot b :=
  ⟨Dk.own_frame h fun k hk => st.block k (h.lt k hk).2 (ha k hk), fun j hj hm => by
    rcases st.sub j hm with e | e
    · exact ha j hj e
    · have := (h.lt j hj).2
      omega⟩
theorem KS.disk {W u u' : World} {B l b : Nat} {m : Int} {v : Value} {L : List ByteArray} {d d' : Dk.Ds} (h : KS W B l b m v L d u) (s : Sys B l b 1 m d' u') (st : Dk.Step (d.foot b) (d'.foot b) u u') : KS W B l b m v L d' u' := by
  obtain ⟨o, a⟩ := row_kept h.own (fun j hj => (h.apart j hj).2) st
  refine ⟨s, o, fun j hj => ⟨(h.apart j hj).1, a j hj⟩, h.bel.trans (st.below (fun k hk => ?_) (by have := h.sys.hs; have := h.le; omega)), h.le⟩
  have := (h.sys.rep.lt k hk).1
  have := h.le
  omega
/-- A text more. -/
theorem KS.push {W u : World} {B l b : Nat} {m : Int} {v : Value} {L : List ByteArray} {d : Dk.Ds} (h : KS W B l b m v L d u) (x : ByteArray) (hL : L.length ≤ 1000) :
    ∃ v' w', (Builtin.append_ #[30, 30] 30 #[v, .slice (some ⟨u.heap.size, 0, none⟩) 1 1]).run Tryz.prog (u.alloc (.cells #[.string x] 9)) = .ok v' w' ∧ KS W B l b m v' (L ++ [x]) d w' := by
  obtain ⟨i0, hi, hz0, hz1, hz2⟩ := info_parts Dk.info9
  have hb1 : Below u.heap.size u (u.alloc (.cells #[.string x] 9)) := (Below.refl _ _).alloc (Nat.le_refl _) _
  have h1 := h.later hb1
  have hs := h.sys.hs
  have hsz : (u.alloc (.cells #[.string x] 9)).heap.size = u.heap.size + 1 := by simp
  obtain ⟨v', w', a1, a2, a3, _, a5⟩ := run_append_own_at (P := Tryz.prog) (w := u.alloc (.cells #[.string x] 9)) B 30 30 9 i0 (.string ⟨#[]⟩) 1 16 Tryz.underlying30 hi hz0 hz1 hz2 rfl (by decide) v _ _ h1.own ⟨u.heap.size, 0, none⟩ 1 1 [.string x] rfl (fun j y hj => by
    match j, hj with
    | 0, hj =>
      simp at hj
      rw [← hj, Addr.add_lit]
      simp
    | j + 1, hj => simp at hj) (by simp [Value.oneCell']) (by unfold maxLen; omega) (by omega) (by rw [hsz]; omega)
  have hbk : ∀ k, v.ownBlock = some k → k ∉ d.foot b ∧ k ≠ l ∧ B ≤ k := fun k hk => ⟨(h.apart k hk).2, (h.apart k hk).1, (h.own.lt k hk).1⟩
  refine ⟨v', w', a1, h1.sys.grown a3 hbk, ?_, fun j hj => ?_, ?_, h.le⟩
  · have e : Fm.cellsS (L ++ [x]) = Fm.cellsS L ++ [.string x] := by rw [cellsS_app]; rfl
    rw [e, List.length_append]
    exact a2
  · rcases a5 with e | e
    · rw [e] at hj
      exact h.apart j hj
    · rw [e] at hj
      injection hj with hj
      rw [hsz] at hj
      refine ⟨fun e2 => ?_, fun hm => ?_⟩
      · have := h.sys.lg.lt
        omega
      · have := (h.sys.rep.lt j hm).2
        omega
  · have hbb := h1.bel
    refine ⟨a3.os.trans hbb.os, a3.tape.trans hbb.tape, a3.output.trans hbb.output, Nat.le_trans hbb.size a3.size, fun j hj => (a3.block j (by have := hbb.size; omega) (fun e => ?_)).trans (hbb.block j hj)⟩
    have := (h.own.lt j e.symm).1
    have := h.le
    omega
/-- A deed in a block of its own. -/
def SdAt (u : World) (X : Nat) (x : Sd) : Prop := u.heap[X]? = some (.cells x.cells 38 (0, 0))
theorem SdAt.cells {u : World} {X : Nat} {x : Sd} (h : SdAt u X x) : u.cell? ⟨X, 0, none⟩ = some (.int .u8 x.kind) ∧ u.cell? ⟨X, 1, none⟩ = some (.string x.s) ∧ u.cell? ⟨X, 2, none⟩ = some (.int .i64 x.n) ∧ u.cell? ⟨X, 3, none⟩ = some (.int .i64 x.m) ∧ u.cell? ⟨X, 4, none⟩ = some (.int .i64 x.by_) :=
  ⟨by rw [cell_of_row u X 0 _ _ _ h]; rfl, by rw [cell_of_row u X 1 _ _ _ h]; rfl, by rw [cell_of_row u X 2 _ _ _ h]; rfl, by rw [cell_of_row u X 3 _ _ _ h]; rfl, by rw [cell_of_row u X 4 _ _ _ h]; rfl⟩
theorem SdAt.lt {u : World} {X : Nat} {x : Sd} (h : SdAt u X x) : X < u.heap.size := (Array.getElem?_eq_some_iff.1 h).1
theorem SdAt.step {u u' : World} {X : Nat} {x : Sd} {fo fo' : List Nat} (h : SdAt u X x) (st : Dk.Step fo fo' u u') (hn : X ∉ fo) : SdAt u' X x ∧ X ∉ fo' :=
  ⟨(st.block X h.lt hn).trans h, fun hm => by
    rcases st.sub X hm with e | e
    · exact hn e
    · have := h.lt
      omega⟩
theorem SdAt.new (u : World) (x : Sd) : SdAt (u.alloc (.cells x.cells 38)) u.heap.size x := heap_alloc_new u _
/-- What Open answers behind a crash, of what was there. -/
structure Back (s' : Dk.St) (rs : List ByteArray) (G : List Seg) (q : Nat) : Prop where
  some : ∃ G', Kp s' G' rs.length ∧ rs = G'.flatten.map Fm.bs ∧ ∃ z, G.flatten = G'.flatten ++ z
  le : q ≤ rs.length
theorem ok_open {s : Dk.St} {G : List Seg} {q : Nat} (h : Kp s [] q) (hG : G = []) : (lOpen s 1).1 = .ok [] ∧ Back (lOpen s 1).2 [] G q := by
  rw [open_none h]
  refine ⟨rfl, ⟨[], ?_, rfl, [], by rw [hG]; rfl⟩, by rw [h.nil rfl]; exact Nat.le_refl _⟩
  have := h.nil rfl
  subst this
  exact h
theorem cr_open {s : Dk.St} {D : List Seg} {g : Seg} {q : Nat} (h : Cr s D g q) : (∃ rs, (lOpen s 1).1 = .ok rs ∧ Back (lOpen s 1).2 rs (D ++ [g]) q) ∨ ((lOpen s 1).1 = .error 12 ∧ s.power = false ∧ Cr (lOpen s 1).2 D g q) := by
  rcases open_crash h with ⟨j, h1, h2, h3, h4⟩ | h5
  · refine .inl ⟨_, h3, ⟨D ++ [g.take j], ?_, by simp, g.drop j, ?_⟩, ?_⟩
    · have e : (((D.flatten ++ g.take j).map Fm.bs).length) = D.flatten.length + j := by
        rw [List.length_map, List.length_append, List.length_take]
        omega
      rw [e]
      exact h4
    · simp only [List.flatten_append, List.flatten_cons, List.flatten_nil, List.append_nil, List.append_assoc, List.take_append_drop]
    · rw [List.length_map, List.length_append, List.length_take]
      omega
  · exact .inr h5
theorem fuse_files (s : Dk.St) (n : Int) : (Dk.opFuse s n).files = s.files := by
  unfold Dk.opFuse
  split <;> rfl
/-- A crash, the power that will fail, and Open; then, if it failed, a crash and Open again. -/
theorem keep_crash {s : Dk.St} {G : List Seg} {q : Nat} (h : Kp s G q) (c f : Int) (hf : f ≤ 9223372036854775807) :
    (∃ rs, (lOpen (Dk.opFuse (Dk.opCrash s c) f) 1).1 = .ok rs ∧ Back (lOpen (Dk.opFuse (Dk.opCrash s c) f) 1).2 rs G q) ∨
      ((lOpen (Dk.opFuse (Dk.opCrash s c) f) 1).1 = .error 12 ∧ ∀ c2, ∃ rs, (lOpen (Dk.opCrash (lOpen (Dk.opFuse (Dk.opCrash s c) f) 1).2 c2) 1).1 = .ok rs ∧ Back (lOpen (Dk.opCrash (lOpen (Dk.opFuse (Dk.opCrash s c) f) 1).2 c2) 1).2 rs G q) := by
  rcases List.eq_nil_or_concat G with rfl | ⟨D, g, rfl⟩
  · have h1 := (h.crash_none c).same ((h.inv.ok.opCrash c).opFuse hf) (fuse_files _ f)
    obtain ⟨a, b⟩ := ok_open h1 (G := []) rfl
    exact .inl ⟨_, a, b⟩
  · rw [List.concat_eq_append] at h ⊢
    have h1 := (h.crash c).same ((h.inv.ok.opCrash c).opFuse hf) (fuse_files _ f)
    rcases cr_open h1 with h2 | ⟨h2, _, h3⟩
    · exact .inl h2
    · refine .inr ⟨h2, fun c2 => ?_⟩
      rcases cr_open (h3.crash c2) with h4 | ⟨_, h5, _⟩
      · exact h4
      · rw [(crash_power _ c2).1] at h5
        cases h5
/-- What Open leaves where it fails. -/
theorem open_er {B b : Nat} {d : Dk.Ds} {w : World} (h : Dsk B b d w) (f lim : Int) {c : Int} (hr : (lOpen d.pl f).1 = .error c) :
    Calls Tryz.prog 11 #[.pointer (some ⟨b, 0, none⟩), .int .i64 f, .int .i64 lim] w fun e w' => e = .returned (.tuple #[.pointer none, .slice none 0 0, .int .i64 c]) ∧ ∃ d', Dsk B b d' w' ∧ d'.pl = (lOpen d.pl f).2 ∧ Dk.Step (d.foot b) (d'.foot b) w w' := by
  refine (open_any h f lim).mono ?_
  rintro e w' ⟨d', h1, h2, h3, ⟨c', h4, h5⟩ | ⟨rs', l, rv, h4, _⟩⟩
  · rw [hr] at h4
    injection h4 with h4
    subst h4
    exact ⟨h5, d', h1, h2, h3⟩
  · rw [hr] at h4
    cases h4
end Go.Proofs.YtajjcfacbnicnaaGreatDoor
