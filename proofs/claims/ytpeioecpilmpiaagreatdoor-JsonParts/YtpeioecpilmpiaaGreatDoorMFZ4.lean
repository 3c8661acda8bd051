/-
  JsonParts' walk.
-/
import Derived.Test.YtpeioecpilmpiaaGreatDoorMFZ3
import Derived.WalkKit
import Derived.WalkSpells
import Derived.WalkLawsBesides
import Derived.Deep.LoopGhost
import Derived.Laws.Externs
import Derived.Below
import Derived.BigQuiet
import Derived.Deep.RegionWith
import Derived.OwnWalk
import Derived.Maps.AppendAt
import Derived.WalkSmall
namespace Go.Proofs.YtpeioecpilmpiaaGreatDoor
open Go.RowKit
set_option maxRecDepth 1000000
set_option maxRecDepth 1000000 in
theorem parts_long (s n : ByteArray) (i : Int) (w : World) (hs : 500 < s.size ∨ 100 < n.size) (hV : Vars w) :
    Calls Tryz.prog 4 #[.string s, .string n, .int .i64 i] w fun e w' => e = .returned (.bool true) ∧ Below w.heap.size w w' := by
  have k0 := awake_any w hV
  clear hV
  by_cases h1 : 500 < s.size
  · have d1 : decide (500 < (s.size : Int)) = true := by simp; omega
    go_enter Tryz.func4, Tryz.ntmps4
    go_wp2_with (go_at_call 7; refine k0.mono ?_; rintro e w1 ⟨rfl, hb1⟩; clear k0)
    go_ret
    exact ⟨rfl, hb1⟩
  · have d1 : decide (500 < (s.size : Int)) = false := by simp; omega
    have d2 : decide (100 < (n.size : Int)) = true := by simp; omega
    go_enter Tryz.func4, Tryz.ntmps4
    go_wp2_with (go_at_call 7; refine k0.mono ?_; rintro e w1 ⟨rfl, hb1⟩; clear k0)
    go_ret
    exact ⟨rfl, hb1⟩
set_option maxHeartbeats 8000000 in
set_option maxRecDepth 1000000 in
theorem parts_short (s : ByteArray) (N : Js.B) (i : Int) (w : World) (hs : s.size ≤ 500) (hn : (bs N).size ≤ 100) (hi1 : -9223372036854775808 ≤ i) (hi2 : i ≤ 9223372036854775807) (hV : Vars w) :
    Calls Tryz.prog 4 #[.string s, .string (bs N), .int .i64 i] w fun e w' => e = .returned (.bool true) ∧ Below w.heap.size w w' := by
  have k0 := awake_any w hV
  have HV := asd hV
  have d1 : decide (500 < (s.size : Int)) = false := by simp; omega
  have hn' : N.length ≤ 100 := by rw [bs_size] at hn; exact hn
  have d2 : decide (100 < (N.length : Int)) = false := by simp; omega
  have VV := asd (fun (u : World) (hb : Below w.heap.size w u) => HV.out.below hb)
  obtain ⟨X, E, ho⟩ : ∃ X E, ofP s.data.toList = (X, E) := ⟨_, _, rfl⟩
  have HK := asd (ofP_kind ho)
  obtain ⟨p1, p2, p3, p4, p5, p6, p7⟩ := parts_of ho
  have kO := asd (fun u => Of_is s X E ho u (by omega))
  have kN := asd (fun u => Names_any s u (by omega))
  have K11 := asd (fun u => Kind_any s u (by omega))
  have K12 := asd (fun u => Len_any s u (by omega))
  have K13 := asd (fun (u : World) (hu : Vars u) => Field_any s (bs N) u (by omega) hu)
  have K14 := asd (fun (u : World) (hu : Vars u) => Item_any s i u (by omega) hu hi1 hi2)
  have K15 := asd (fun u => Number_any s u (by omega))
  have K16 := asd (fun u => Text_any s u (by omega))
  rw [p1] at K11
  rw [p2] at K12
  rw [p3] at kN
  rw [bs_list, p6] at K13
  rw [p7] at K14
  rw [p4] at K15
  rw [p5] at K16
  clear p1 p2 p3 p4 p5 p6 p7 hV ho
  have n1 : ((X.kind : Int) != (X.kind : Int)) = false := bne_self_eq_false _
  have n2 : ((X.kind : Int) == (X.kind : Int)) = true := beq_self_eq_true _
  have n3 : ((X.items.length : Int) != (X.items.length : Int)) = false := bne_self_eq_false _
  have n4 : ((X.items.length : Int) == (X.items.length : Int)) = true := beq_self_eq_true _
  have n5 : ((X.names.length : Int) != (X.names.length : Int)) = false := bne_self_eq_false _
  have n6 : ((X.names.length : Int) == (X.names.length : Int)) = true := beq_self_eq_true _
  have be : bs [] = ⟨#[]⟩ := rfl
  go_enter Tryz.func4, Tryz.ntmps4
  go_wp2_with (first
    | (go_at_call 7; refine k0.mono ?_; rintro e w1 ⟨rfl, hb1⟩; clear k0)
    | (go_at_call 9; refine (kO.out _).mono ?_; rintro e w3 ⟨nv, iv, rfl, sn, si, hb3⟩; have B3 := asd (hb1.trans (hb3.mono hb1.size)); have ox1 := sn.one; have ox2 := si.one; have SN := asd (sn.base (Nat.zero_le _)); have SI := asd (si.base (Nat.zero_le _)); have BN := asd (Bk.new w3 z6); clear hb1 hb3 sn si kO)
    | (refine wpList_store_row rfl 28 _ _ rfl _ (vc6 (X.kind : Int) X.form X.text X.num nv iv) rfl rfl 28 _ BN.out (sz28 _ _ _ _ _ _) rfl (vc6_one _ _ _ _ _ _ ox1 ox2) ?_; generalize hwA : World.setRow _ w3.heap.size _ = wA; have BA : Aside (Below w.heap.size w wA) := (by rw [← hwA]; exact asd (B3.out.trans ((below_lay w3 z6 _).mono B3.out.size))); have BX : Aside (Bk wA w3.heap.size (vc6 (X.kind : Int) X.form X.text X.num nv iv)) := (by rw [← hwA]; exact asd (setRow_heap _ _ _ _ _ _ BN.out)); have SNA : Aside (Sl 0 wA nv X.names) := (by rw [← hwA]; exact asd (SN.out.below (below_lay w3 z6 _))); have SIA : Aside (Sl 0 wA iv X.items) := (by rw [← hwA]; exact asd (SI.out.below (below_lay w3 z6 _))); clear hwA BN B3 SN SI)
    | (go_at_call 10; refine (kN.out _).mono ?_; rintro e w4 ⟨⟨pv, rfl, hp⟩, hb4⟩; have PW4 := asd (PW.mk (w := w) (b := w3.heap.size) (X := X) (nv := nv) (iv := iv) (pv := pv) (u := w4) (BA.out.trans (hb4.mono BA.out.size)) (BX.out.below hb4) (SNA.out.below hb4) (SIA.out.below hb4) (Sl.base (show Sl wA.heap.size w4 pv X.names from hp) (Nat.zero_le _))); obtain ⟨na, nc, rfl, _⟩ := PW4.out.sn.form; obtain ⟨ia, ic, rfl, _⟩ := PW4.out.si.form; obtain ⟨pa, pc, rfl, _⟩ := PW4.out.sp.form; clear hp hb4 BA BX SNA SIA kN))
  have c0q : ∀ z : Later w4, z.u.cell? ⟨w3.heap.size, 0, none⟩ = some (.int .i64 (X.kind : Int)) := fun z => (PW4.out.below z.bel).bv.cell 0
  have c4q : ∀ z : Later w4, z.u.cell? ⟨w3.heap.size, 4, none⟩ = some (.slice na X.names.length nc) := fun z => (PW4.out.below z.bel).bv.cell 4
  have c5q : ∀ z : Later w4, z.u.cell? ⟨w3.heap.size, 5, none⟩ = some (.slice ia X.items.length ic) := fun z => (PW4.out.below z.bel).bv.cell 5
  have hne := later_some w4
  refine wp_region_later (by kernel_rfl) (by kernel_rfl) ?_
  repeat (go_big_quiet_step (first | (go_at_call 11; exact calls_later (K11.out _)) | (go_at_call 12; exact calls_later (K12.out _))))
  refine wpQuiet_nil ?_
  rintro _ ⟨z, rfl⟩
  have PW5 := asd (PW4.out.below z.bel)
  generalize z.u = w5 at *
  clear c0q c4q c5q hne PW4 K11 K12
  go_wp2_with fail
  go_loopg [63, 10, 11, 12] X.names.length (fun gh s63 s10 s11 _ wr => ∃ k : Nat, X.names.length - k ≤ gh ∧ k ≤ X.names.length ∧ s63 = .int .i64 (k : Int) ∧ s10 = .string (bs (fldP X N k).1) ∧ s11 = .bool (fldP X N k).2 ∧ Aside (PW w w3.heap.size X (.slice na X.names.length nc) (.slice ia X.items.length ic) (.slice pa X.names.length pc) wr))
  case atStart => exact ⟨0, by omega, by omega, rfl, by rw [fldP_zero], by rw [fldP_zero], PW5⟩
  case round =>
    obtain ⟨k, hgh, hk, rfl, rfl, rfl, PR⟩ := hrel
    clear PW5
    by_cases hlt : k < X.names.length
    · have dk : decide (k < X.names.length) = true := by simpa using hlt
      have h6 : X.kind = 6 := by
        by_cases h6 : X.kind = 6
        · exact h6
        · rw [HK.out.2.2.1 h6] at hlt
          cases hlt
      obtain ⟨hr, hlen⟩ := HK.out.2.2.2 h6
      have hki : k < X.items.length := by omega
      have dki : decide (k < X.items.length) = true := by simpa using hki
      obtain ⟨g1, e1, _⟩ := PR.out.sp.at.2 k hlt
      obtain ⟨g2, e2, _⟩ := PR.out.sn.at.2 k hlt
      obtain ⟨g3, e3, _⟩ := PR.out.si.at.2 k hki
      subst e1 e2 e3
      have CL := asd (fun (u : World) (hu : PW w w3.heap.size X (.slice (some ⟨g2, 0, none⟩) X.names.length nc) (.slice (some ⟨g3, 0, none⟩) X.items.length ic) (.slice (some ⟨g1, 0, none⟩) X.names.length pc) u) => (show u.cell? ⟨g1, k, none⟩ = some (.string (bs X.names[k])) ∧ u.cell? ⟨g2, k, none⟩ = some (.string (bs X.names[k])) ∧ u.cell? ⟨g3, k, none⟩ = some (.string (bs X.items[k])) ∧ u.cell? ⟨w3.heap.size, 4, none⟩ = some (.slice (some ⟨g2, 0, none⟩) X.names.length nc) ∧ u.cell? ⟨w3.heap.size, 5, none⟩ = some (.slice (some ⟨g3, 0, none⟩) X.items.length ic) from by
        obtain ⟨a1, b1, d1⟩ := hu.sp.at.2 k hlt
        obtain ⟨a2, b2, d2⟩ := hu.sn.at.2 k hlt
        obtain ⟨a3, b3, d3⟩ := hu.si.at.2 k hki
        injection b1 with b1
        injection b2 with b2
        injection b3 with b3
        simp only [Addr.mk.injEq] at b1 b2 b3
        rw [← b1.1] at d1
        rw [← b2.1] at d2
        rw [← b3.1] at d3
        exact ⟨d1, d2, d3, hu.bv.cell 4, hu.bv.cell 5⟩))
      obtain ⟨k1, k2, _, k4, _⟩ := CL.out wr PR.out
      have m1 : ((bs X.names[k]).toList != (bs X.names[k]).toList) = false := bne_self_eq_false _
      have m2 : ((bs X.names[k]).toList == (bs X.names[k]).toList) = true := beq_self_eq_true _
      have hbd := PR.out.sn.bound
      have FS := asd (fun hn => fldP_same (X := X) (n := N) hlt hki hr hn)
      have FO := asd (fun hn => fldP_other (X := X) (n := N) hlt hn)
      clear hr h6 hlen
      by_cases hnk : X.names[k] = N
      · have t1 : ((bs X.names[k]).toList == (bs N).toList) = true := by rw [hnk]; exact beq_self_eq_true _
        have FE := asd (FS.out hnk)
        clear hnk FS FO
        generalize bs X.names[k] = P at *
        generalize bs N = Q at *
        generalize hI : bs X.items[k] = I at *
        go_wp2
        go_quiet (fail)
        have PD := asd (PR.out.drewN nq)
        generalize wr.drewN nq = w6 at *
        clear k1 k2 k4 PR
        obtain ⟨k1, k2, k3, k4, k5⟩ := CL.out w6 PD.out
        go_wp2
        go_roundg (X.names.length - (k + 1))
        case measure => omega
        case rel => exact ⟨k + 1, Nat.le_refl _, by omega, by go_num, by rw [FE.out, ← hI], by rw [FE.out], PD⟩
      · have t1 : ((bs X.names[k]).toList == (bs N).toList) = false := by
          rw [beq_eq_false_iff_ne]
          exact toList_ne' (fun e => hnk (by have := congrArg (fun x : ByteArray => x.data.toList) e; simpa using this))
        have t2 : ¬ (bs X.names[k]).toList = (bs N).toList := by
          rw [beq_eq_false_iff_ne] at t1
          exact t1
        have FE := asd (FO.out hnk)
        clear hnk FS FO
        generalize bs X.names[k] = P at *
        generalize bs N = Q at *
        go_wp2
        go_quiet (fail)
        have PD := asd (PR.out.drewN nq)
        generalize wr.drewN nq = w6 at *
        clear k1 k2 k4 PR
        obtain ⟨k1, k2, k3, k4, k5⟩ := CL.out w6 PD.out
        go_wp2
        go_roundg (X.names.length - (k + 1))
        case measure => omega
        case rel => exact ⟨k + 1, Nat.le_refl _, by omega, by go_num, by rw [FE.out], by rw [FE.out], PD⟩
    · obtain rfl : k = X.names.length := by omega
      have dk : decide (X.names.length < X.names.length) = false := by simp
      generalize fldP X N X.names.length = R at *
      obtain ⟨R1, R2⟩ := R
      simp only [] at K13
      have r1 : ((bs R1).toList == (bs R1).toList) = true := beq_self_eq_true _
      have r2 : (R2 == R2) = true := beq_self_eq_true _
      have r3 : (X.num == X.num) = true := beq_self_eq_true _
      have r4 : ((bs X.text).toList == (bs X.text).toList) = true := beq_self_eq_true _
      by_cases hkd : X.kind = 5
      · by_cases h0 : 0 ≤ i
        · by_cases hl : i < (X.items.length : Int)
          · skip
            obtain ⟨j, rfl⟩ : ∃ j : Nat, i = (j : Int) := ⟨i.toNat, by omega⟩
            have hj : j < X.items.length := by omega
            have dj : decide (j < X.items.length) = true := by simpa using hj
            have dj' : decide ((j : Int) < (X.items.length : Int)) = true := by simp; omega
            have d0 : decide ((0 : Int) ≤ (j : Int)) = true := by simp
            obtain ⟨g3, e3, k3⟩ := PR.out.si.at.2 j hj
            subst e3
            generalize hIT : X.items[j] = IT at *
            have r5 : ((bs IT).toList == (bs IT).toList) = true := beq_self_eq_true _
            have c0 : wr.cell? ⟨w3.heap.size, 0, none⟩ = some (.int .i64 5) := by have h := PR.out.bv.cell 0; rw [hkd] at h; exact h
            have c5 := PR.out.bv.cell 5
            have c5' : wr.cell? ⟨w3.heap.size, 5, none⟩ = some (.slice (some ⟨g3, 0, none⟩) X.items.length ic) := c5
            clear c5
            have L14 : Aside (∀ u : World, Vars u → Calls Tryz.prog 14 #[.string s, .int .i64 (j : Int)] u fun e w' => e = .returned (.tuple #[.string (bs IT), .bool true]) ∧ Below u.heap.size u w') := fun u hu => by have h := K14.out u hu; rw [if_pos ⟨hkd, h0, hl⟩, show X.items[((j : Nat) : Int).toNat]! = IT by rw [← hIT, Int.toNat_natCast, List.getElem!_eq_getElem?_getD, List.getElem?_eq_getElem hj]; rfl] at h; exact h
            have L15 : Aside (∀ u : World, Calls Tryz.prog 15 #[.string s] u fun e w' => e = .returned (.tuple #[.int .i64 X.num, .bool false]) ∧ Below u.heap.size u w') := fun u => by have h := K15.out u; rw [show decide (X.kind = 3) = false by simp [hkd]] at h; exact h
            have L16 : Aside (∀ u : World, Calls Tryz.prog 16 #[.string s] u fun e w' => e = .returned (.tuple #[.string (bs X.text), .bool false]) ∧ Below u.heap.size u w') := fun u => by have h := K16.out u; rw [show decide (X.kind = 4) = false by simp [hkd]] at h; exact h
            have HKD := asd hkd
            clear K14 K15 K16 hkd
            generalize bs R1 = S1 at *
            generalize hTX : bs X.text = TX at *
            generalize bs N = Q at *
            go_wp2_with (first
              | (go_at_call 13; refine (K13.out _ (VV.out _ PR.out.bel)).mono ?_; rintro e w6 ⟨rfl, hb6⟩; have PW6 := asd (PR.out.below hb6); clear hb6 K13 c0 c5')
              | (go_at_call 14; refine (L14.out _ (VV.out _ PW6.out.bel)).mono ?_; rintro e w7 ⟨rfl, hb7⟩; have PW7 := asd (PW6.out.below hb7); clear hb7 L14)
              | (go_at_call 15; refine (L15.out _).mono ?_; rintro e w8 ⟨rfl, hb8⟩; have PW8 := asd (PW7.out.below hb8); clear hb8 L15)
              | (go_at_call 16; refine (L16.out _).mono ?_; rintro e w9 ⟨rfl, hb9⟩; have PW9 := asd (PW8.out.below hb9); have c0 : w9.cell? ⟨w3.heap.size, 0, none⟩ = some (.int .i64 5) := (by have h := PW9.out.bv.cell 0; rw [HKD.out] at h; exact h); have c3 : w9.cell? ⟨w3.heap.size, 3, none⟩ = some (.int .i64 X.num) := PW9.out.bv.cell 3; have c2 : w9.cell? ⟨w3.heap.size, 2, none⟩ = some (.string TX) := (by rw [← hTX]; exact PW9.out.bv.cell 2); clear hb9 L16))
            go_ret
            exact ⟨rfl, PW9.out.bel⟩
          · have dl : decide (i < (X.items.length : Int)) = false := by simp; omega
            have d0 : decide ((0 : Int) ≤ i) = true := by simp; omega
            have be' : ((⟨#[]⟩ : ByteArray).toList == (⟨#[]⟩ : ByteArray).toList) = true := beq_self_eq_true _
            have c0 : wr.cell? ⟨w3.heap.size, 0, none⟩ = some (.int .i64 5) := by have h := PR.out.bv.cell 0; rw [hkd] at h; exact h
            have c5 := PR.out.bv.cell 5
            have c5' : wr.cell? ⟨w3.heap.size, 5, none⟩ = some (.slice ia X.items.length ic) := c5
            clear c5
            have L14 : Aside (∀ u : World, Vars u → Calls Tryz.prog 14 #[.string s, .int .i64 i] u fun e w' => e = .returned (.tuple #[.string (bs []), .bool false]) ∧ Below u.heap.size u w') := fun u hu => by have h := K14.out u hu; rw [if_neg (fun h => hl h.2.2)] at h; exact h
            have L15 : Aside (∀ u : World, Calls Tryz.prog 15 #[.string s] u fun e w' => e = .returned (.tuple #[.int .i64 X.num, .bool false]) ∧ Below u.heap.size u w') := fun u => by have h := K15.out u; rw [show decide (X.kind = 3) = false by simp [hkd]] at h; exact h
            have L16 : Aside (∀ u : World, Calls Tryz.prog 16 #[.string s] u fun e w' => e = .returned (.tuple #[.string (bs X.text), .bool false]) ∧ Below u.heap.size u w') := fun u => by have h := K16.out u; rw [show decide (X.kind = 4) = false by simp [hkd]] at h; exact h
            have HKD := asd hkd
            clear K14 K15 K16 hkd
            generalize bs R1 = S1 at *
            generalize hTX : bs X.text = TX at *
            generalize bs N = Q at *
            go_wp2_with (first
              | (go_at_call 13; refine (K13.out _ (VV.out _ PR.out.bel)).mono ?_; rintro e w6 ⟨rfl, hb6⟩; have PW6 := asd (PR.out.below hb6); clear hb6 K13 c0 c5')
              | (go_at_call 14; refine (L14.out _ (VV.out _ PW6.out.bel)).mono ?_; rintro e w7 ⟨rfl, hb7⟩; have PW7 := asd (PW6.out.below hb7); clear hb7 L14)
              | (go_at_call 15; refine (L15.out _).mono ?_; rintro e w8 ⟨rfl, hb8⟩; have PW8 := asd (PW7.out.below hb8); clear hb8 L15)
              | (go_at_call 16; refine (L16.out _).mono ?_; rintro e w9 ⟨rfl, hb9⟩; have PW9 := asd (PW8.out.below hb9); have c0 : w9.cell? ⟨w3.heap.size, 0, none⟩ = some (.int .i64 5) := (by have h := PW9.out.bv.cell 0; rw [HKD.out] at h; exact h); have c3 : w9.cell? ⟨w3.heap.size, 3, none⟩ = some (.int .i64 X.num) := PW9.out.bv.cell 3; have c2 : w9.cell? ⟨w3.heap.size, 2, none⟩ = some (.string TX) := (by rw [← hTX]; exact PW9.out.bv.cell 2); clear hb9 L16))
            go_ret
            exact ⟨rfl, PW9.out.bel⟩
        · have d0 : decide ((0 : Int) ≤ i) = false := by simp; omega
          have be' : ((⟨#[]⟩ : ByteArray).toList == (⟨#[]⟩ : ByteArray).toList) = true := beq_self_eq_true _
          have c0 : wr.cell? ⟨w3.heap.size, 0, none⟩ = some (.int .i64 5) := by have h := PR.out.bv.cell 0; rw [hkd] at h; exact h
          have c5 := PR.out.bv.cell 5
          have c5' : wr.cell? ⟨w3.heap.size, 5, none⟩ = some (.slice ia X.items.length ic) := c5
          clear c5
          have L14 : Aside (∀ u : World, Vars u → Calls Tryz.prog 14 #[.string s, .int .i64 i] u fun e w' => e = .returned (.tuple #[.string (bs []), .bool false]) ∧ Below u.heap.size u w') := fun u hu => by have h := K14.out u hu; rw [if_neg (fun h => h0 h.2.1)] at h; exact h
          have L15 : Aside (∀ u : World, Calls Tryz.prog 15 #[.string s] u fun e w' => e = .returned (.tuple #[.int .i64 X.num, .bool false]) ∧ Below u.heap.size u w') := fun u => by have h := K15.out u; rw [show decide (X.kind = 3) = false by simp [hkd]] at h; exact h
          have L16 : Aside (∀ u : World, Calls Tryz.prog 16 #[.string s] u fun e w' => e = .returned (.tuple #[.string (bs X.text), .bool false]) ∧ Below u.heap.size u w') := fun u => by have h := K16.out u; rw [show decide (X.kind = 4) = false by simp [hkd]] at h; exact h
          have HKD := asd hkd
          clear K14 K15 K16 hkd
          generalize bs R1 = S1 at *
          generalize hTX : bs X.text = TX at *
          generalize bs N = Q at *
          go_wp2_with (first
            | (go_at_call 13; refine (K13.out _ (VV.out _ PR.out.bel)).mono ?_; rintro e w6 ⟨rfl, hb6⟩; have PW6 := asd (PR.out.below hb6); clear hb6 K13 c0 c5')
            | (go_at_call 14; refine (L14.out _ (VV.out _ PW6.out.bel)).mono ?_; rintro e w7 ⟨rfl, hb7⟩; have PW7 := asd (PW6.out.below hb7); clear hb7 L14)
            | (go_at_call 15; refine (L15.out _).mono ?_; rintro e w8 ⟨rfl, hb8⟩; have PW8 := asd (PW7.out.below hb8); clear hb8 L15)
            | (go_at_call 16; refine (L16.out _).mono ?_; rintro e w9 ⟨rfl, hb9⟩; have PW9 := asd (PW8.out.below hb9); have c0 : w9.cell? ⟨w3.heap.size, 0, none⟩ = some (.int .i64 5) := (by have h := PW9.out.bv.cell 0; rw [HKD.out] at h; exact h); have c3 : w9.cell? ⟨w3.heap.size, 3, none⟩ = some (.int .i64 X.num) := PW9.out.bv.cell 3; have c2 : w9.cell? ⟨w3.heap.size, 2, none⟩ = some (.string TX) := (by rw [← hTX]; exact PW9.out.bv.cell 2); clear hb9 L16))
          go_ret
          exact ⟨rfl, PW9.out.bel⟩
      · have h5 := hkd
        clear hkd
        have be' : ((⟨#[]⟩ : ByteArray).toList == (⟨#[]⟩ : ByteArray).toList) = true := beq_self_eq_true _
        by_cases hkd : X.kind = 3
        · skip
          have c0 : wr.cell? ⟨w3.heap.size, 0, none⟩ = some (.int .i64 3) := by have h := PR.out.bv.cell 0; rw [hkd] at h; exact h
          have c5 := PR.out.bv.cell 5
          have c5' : wr.cell? ⟨w3.heap.size, 5, none⟩ = some (.slice ia X.items.length ic) := c5
          clear c5
          have L14 : Aside (∀ u : World, Vars u → Calls Tryz.prog 14 #[.string s, .int .i64 i] u fun e w' => e = .returned (.tuple #[.string (bs []), .bool false]) ∧ Below u.heap.size u w') := fun u hu => by have h := K14.out u hu; rw [if_neg (fun h => h5 h.1)] at h; exact h
          have L15 : Aside (∀ u : World, Calls Tryz.prog 15 #[.string s] u fun e w' => e = .returned (.tuple #[.int .i64 X.num, .bool true]) ∧ Below u.heap.size u w') := fun u => by have h := K15.out u; rw [show decide (X.kind = 3) = true by simp [hkd]] at h; exact h
          have L16 : Aside (∀ u : World, Calls Tryz.prog 16 #[.string s] u fun e w' => e = .returned (.tuple #[.string (bs X.text), .bool false]) ∧ Below u.heap.size u w') := fun u => by have h := K16.out u; rw [show decide (X.kind = 4) = false by simp [hkd]] at h; exact h
          have HKD := asd hkd
          clear K14 K15 K16 hkd
          generalize bs R1 = S1 at *
          generalize hTX : bs X.text = TX at *
          generalize bs N = Q at *
          go_wp2_with (first
            | (go_at_call 13; refine (K13.out _ (VV.out _ PR.out.bel)).mono ?_; rintro e w6 ⟨rfl, hb6⟩; have PW6 := asd (PR.out.below hb6); clear hb6 K13 c0 c5')
            | (go_at_call 14; refine (L14.out _ (VV.out _ PW6.out.bel)).mono ?_; rintro e w7 ⟨rfl, hb7⟩; have PW7 := asd (PW6.out.below hb7); clear hb7 L14)
            | (go_at_call 15; refine (L15.out _).mono ?_; rintro e w8 ⟨rfl, hb8⟩; have PW8 := asd (PW7.out.below hb8); clear hb8 L15)
            | (go_at_call 16; refine (L16.out _).mono ?_; rintro e w9 ⟨rfl, hb9⟩; have PW9 := asd (PW8.out.below hb9); have c0 : w9.cell? ⟨w3.heap.size, 0, none⟩ = some (.int .i64 3) := (by have h := PW9.out.bv.cell 0; rw [HKD.out] at h; exact h); have c3 : w9.cell? ⟨w3.heap.size, 3, none⟩ = some (.int .i64 X.num) := PW9.out.bv.cell 3; have c2 : w9.cell? ⟨w3.heap.size, 2, none⟩ = some (.string TX) := (by rw [← hTX]; exact PW9.out.bv.cell 2); clear hb9 L16))
          go_ret
          exact ⟨rfl, PW9.out.bel⟩
        · have h3 := hkd
          clear hkd
          by_cases hkd : X.kind = 4
          · skip
            have c0 : wr.cell? ⟨w3.heap.size, 0, none⟩ = some (.int .i64 4) := by have h := PR.out.bv.cell 0; rw [hkd] at h; exact h
            have c5 := PR.out.bv.cell 5
            have c5' : wr.cell? ⟨w3.heap.size, 5, none⟩ = some (.slice ia X.items.length ic) := c5
            clear c5
            have L14 : Aside (∀ u : World, Vars u → Calls Tryz.prog 14 #[.string s, .int .i64 i] u fun e w' => e = .returned (.tuple #[.string (bs []), .bool false]) ∧ Below u.heap.size u w') := fun u hu => by have h := K14.out u hu; rw [if_neg (fun h => h5 h.1)] at h; exact h
            have L15 : Aside (∀ u : World, Calls Tryz.prog 15 #[.string s] u fun e w' => e = .returned (.tuple #[.int .i64 X.num, .bool false]) ∧ Below u.heap.size u w') := fun u => by have h := K15.out u; rw [show decide (X.kind = 3) = false by simp [hkd]] at h; exact h
            have L16 : Aside (∀ u : World, Calls Tryz.prog 16 #[.string s] u fun e w' => e = .returned (.tuple #[.string (bs X.text), .bool true]) ∧ Below u.heap.size u w') := fun u => by have h := K16.out u; rw [show decide (X.kind = 4) = true by simp [hkd]] at h; exact h
            have HKD := asd hkd
            clear K14 K15 K16 hkd
            generalize bs R1 = S1 at *
            generalize hTX : bs X.text = TX at *
            generalize bs N = Q at *
            go_wp2_with (first
              | (go_at_call 13; refine (K13.out _ (VV.out _ PR.out.bel)).mono ?_; rintro e w6 ⟨rfl, hb6⟩; have PW6 := asd (PR.out.below hb6); clear hb6 K13 c0 c5')
              | (go_at_call 14; refine (L14.out _ (VV.out _ PW6.out.bel)).mono ?_; rintro e w7 ⟨rfl, hb7⟩; have PW7 := asd (PW6.out.below hb7); clear hb7 L14)
              | (go_at_call 15; refine (L15.out _).mono ?_; rintro e w8 ⟨rfl, hb8⟩; have PW8 := asd (PW7.out.below hb8); clear hb8 L15)
              | (go_at_call 16; refine (L16.out _).mono ?_; rintro e w9 ⟨rfl, hb9⟩; have PW9 := asd (PW8.out.below hb9); have c0 : w9.cell? ⟨w3.heap.size, 0, none⟩ = some (.int .i64 4) := (by have h := PW9.out.bv.cell 0; rw [HKD.out] at h; exact h); have c3 : w9.cell? ⟨w3.heap.size, 3, none⟩ = some (.int .i64 X.num) := PW9.out.bv.cell 3; have c2 : w9.cell? ⟨w3.heap.size, 2, none⟩ = some (.string TX) := (by rw [← hTX]; exact PW9.out.bv.cell 2); clear hb9 L16))
            go_ret
            exact ⟨rfl, PW9.out.bel⟩
          · skip
            have q5 : ((X.kind : Int) == 5) = false := by rw [beq_eq_false_iff_ne]; omega
            have q5' : ¬ ((X.kind : Int) = 5) := by omega
            have q3 : ((X.kind : Int) == 3) = false := by rw [beq_eq_false_iff_ne]; omega
            have q3' : ¬ ((X.kind : Int) = 3) := by omega
            have q4 : ((X.kind : Int) == 4) = false := by rw [beq_eq_false_iff_ne]; omega
            have q4' : ¬ ((X.kind : Int) = 4) := by omega
            have c0 : wr.cell? ⟨w3.heap.size, 0, none⟩ = some (.int .i64 (X.kind : Int)) := PR.out.bv.cell 0
            have c5 := PR.out.bv.cell 5
            have c5' : wr.cell? ⟨w3.heap.size, 5, none⟩ = some (.slice ia X.items.length ic) := c5
            clear c5
            have L14 : Aside (∀ u : World, Vars u → Calls Tryz.prog 14 #[.string s, .int .i64 i] u fun e w' => e = .returned (.tuple #[.string (bs []), .bool false]) ∧ Below u.heap.size u w') := fun u hu => by have h := K14.out u hu; rw [if_neg (fun h => h5 h.1)] at h; exact h
            have L15 : Aside (∀ u : World, Calls Tryz.prog 15 #[.string s] u fun e w' => e = .returned (.tuple #[.int .i64 X.num, .bool false]) ∧ Below u.heap.size u w') := fun u => by have h := K15.out u; rw [show decide (X.kind = 3) = false by simp; omega] at h; exact h
            have L16 : Aside (∀ u : World, Calls Tryz.prog 16 #[.string s] u fun e w' => e = .returned (.tuple #[.string (bs X.text), .bool false]) ∧ Below u.heap.size u w') := fun u => by have h := K16.out u; rw [show decide (X.kind = 4) = false by simp; omega] at h; exact h
            clear K14 K15 K16
            generalize bs R1 = S1 at *
            generalize hTX : bs X.text = TX at *
            generalize bs N = Q at *
            go_wp2_with (first
              | (go_at_call 13; refine (K13.out _ (VV.out _ PR.out.bel)).mono ?_; rintro e w6 ⟨rfl, hb6⟩; have PW6 := asd (PR.out.below hb6); clear hb6 K13 c0 c5')
              | (go_at_call 14; refine (L14.out _ (VV.out _ PW6.out.bel)).mono ?_; rintro e w7 ⟨rfl, hb7⟩; have PW7 := asd (PW6.out.below hb7); clear hb7 L14)
              | (go_at_call 15; refine (L15.out _).mono ?_; rintro e w8 ⟨rfl, hb8⟩; have PW8 := asd (PW7.out.below hb8); clear hb8 L15)
              | (go_at_call 16; refine (L16.out _).mono ?_; rintro e w9 ⟨rfl, hb9⟩; have PW9 := asd (PW8.out.below hb9); have c0 : w9.cell? ⟨w3.heap.size, 0, none⟩ = some (.int .i64 (X.kind : Int)) := PW9.out.bv.cell 0; have c3 : w9.cell? ⟨w3.heap.size, 3, none⟩ = some (.int .i64 X.num) := PW9.out.bv.cell 3; have c2 : w9.cell? ⟨w3.heap.size, 2, none⟩ = some (.string TX) := (by rw [← hTX]; exact PW9.out.bv.cell 2); clear hb9 L16))
            go_ret
            exact ⟨rfl, PW9.out.bel⟩
theorem parts_any (s n : ByteArray) (i : Int) (w : World) (hi : -9223372036854775808 ≤ i ∧ i ≤ 9223372036854775807) (hV : Vars w) :
    Calls Tryz.prog 4 #[.string s, .string n, .int .i64 i] w fun e w' => e = .returned (.bool true) ∧ Below w.heap.size w w' := by
  by_cases h : 500 < s.size ∨ 100 < n.size
  · exact parts_long s n i w h hV
  · have en : bs n.data.toList = n := by
      apply ByteArray.ext
      simp
    have := parts_short s n.data.toList i w (by omega) (by rw [en]; omega) hi.1 hi.2 hV
    rw [en] at this
    exact this
end Go.Proofs.YtpeioecpilmpiaaGreatDoor
