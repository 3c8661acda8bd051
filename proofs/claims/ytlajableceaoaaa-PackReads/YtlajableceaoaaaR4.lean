/-
  The walk of PackReads: whatever bytes and items are given, it answers true.
-/
import Derived.Test.YtlajableceaoaaaR3
import Derived.Test.YtlajableceaoaaaB3
namespace Go.Proofs.Ytlajableceaoaaa
open Go.RowKit

/-- Where the variables lie. -/
structure Places (B sb ob bb : Nat) : Prop where
  b1 : B ≤ sb
  b2 : B ≤ ob
  b3 : B ≤ bb
  so : sb ≠ ob
  sb' : sb ≠ bb
  ob' : ob ≠ bb

/-- What holds at each round's head. -/
structure RelR (B sb ob bb len : Nat) (w wr : World) (k : Nat) (S : ByteArray) (bad : Bool) : Prop where
  le : k ≤ len
  bs : Box wr sb 9 (.string S)
  bbx : Box wr bb 4 (.bool bad)
  at' : At wr ob 45 S bad
  nothing : bad = true → S = ⟨#[]⟩
  short : S.size ≤ 60
  bel : Below B w wr

theorem chainR {B sb ob bb : Nat} {w wr u1 u2 : World} {o : Obj} (h : Below B w wr) (p : Places B sb ob bb) (h1 : Upd2 sb bb (wr.alloc o) u1) (h2 : Upd ob u1 u2) (hB : B ≤ wr.heap.size) : Below B w u2 := by
  have a1 := h.alloc hB o
  have a2 := a1.trans (h1.below p.b1 p.b3 (by simp; omega))
  exact a2.trans (h2.below p.b2 (by have := h1.size; simp at this; omega))

theorem chainR2 {B sb ob bb : Nat} {w wr u0 u1 u2 : World} {o : Obj} (h : Below B w wr) (p : Places B sb ob bb) (h0 : Upd2 sb bb (wr.alloc o) u0) (h1 : Upd2 sb bb u0 u1) (h2 : Upd ob u1 u2) (hB : B ≤ wr.heap.size) : Below B w u2 :=
  chainR h p (h0.trans h1) h2 hB

theorem RelR.drewN {B sb ob bb len : Nat} {w wr : World} {k : Nat} {S : ByteArray} {bad : Bool} (h : RelR B sb ob bb len w wr k S bad) (n : Nat) : RelR B sb ob bb len w (wr.drewN n) k S bad :=
  ⟨h.le, h.bs, h.bbx, h.at', h.nothing, h.short, ⟨h.bel.os, h.bel.tape, h.bel.output, h.bel.size, h.bel.block⟩⟩

theorem At.other {w : World} {b t c : Nat} {s : ByteArray} {bad : Bool} (h : At w b t s bad) (hne : b ≠ c) (j : Nat) (v' : Value) : At (w.setCell ⟨c, j, none⟩ v') b t s bad := by
  unfold At
  rw [Below.heap_setCell w ⟨c, j, none⟩ v' b hne]
  exact h

theorem numC_nonneg {S : ByteArray} {bad : Bool} {most r : Int} {S1 : ByteArray} {b1 : Bool} (h : numC S bad most = (r, S1, b1)) : 0 ≤ r := by
  unfold numC at h
  by_cases hc : bad = true ∨ (Pk.headB S.data.toList).2 = 0 ∨ most < ((Pk.headB S.data.toList).1 : Int)
  · rw [if_pos hc] at h
    simp only [Prod.mk.injEq] at h
    omega
  · rw [if_neg hc] at h
    simp only [Prod.mk.injEq] at h
    omega

set_option maxHeartbeats 8000000 in
set_option maxRecDepth 1000000 in
theorem reads_some (s : ByteArray) (b off len cap : Nat) (kd : Nat → Nat) (nm : Nat → Int) (st : Nat → ByteArray) (w : World) (hit : Items w b off len kd nm st) (hkd : ∀ i, kd i < 256) (hb : b < w.heap.size) (hlen : len ≤ 20) (hs : s.size ≤ 60) :
    Calls Try.prog 4 #[.string s, .slice (some ⟨b, off, none⟩) len cap] w fun e w' => e = .returned (.bool true) ∧ Below w.heap.size w w' := by
  have k0 := awake_any (w.alloc (.cells #[.string s] 9))
  have HI := (show Aside _ from And.intro hit (And.intro hkd hb))
  clear hit hkd hb
  have hW0 : Box (w.alloc (.cells #[.string s] 9)) w.heap.size 9 (.string s) := heap_alloc_new w _
  have d1 : decide (60 < (s.size : Int)) = false := by simp; omega
  have d2 : decide (20 < (len : Int)) = false := by simp; omega
  have X0 : Aside (Box (w.alloc (.cells #[.string s] 9)) w.heap.size 9 (.string s)) := hW0
  have hbelow : Aside (Below w.heap.size w (w.alloc (.cells #[.string s] 9))) := (Below.refl _ _).alloc (Nat.le_refl _) _
  clear hW0
  go_enter Try.func4, Try.ntmps4
  go_wp2_with (first
    | (go_at_call 6; refine k0.mono ?_; rintro e w1 ⟨rfl, hb1⟩; have s1 := X0.out.below hb1 X0.out.lt; have c1 := s1.c)
    | (go_at_call 14; refine (open_any s _).mono ?_; rintro e w2 ⟨rfl, ha2, hb2⟩))
  have e0 : (w.alloc (.cells #[.string s] 9)).heap.size = w.heap.size + 1 := by simp
  have z1 : w.heap.size + 1 ≤ w1.heap.size := by rw [← e0]; exact hb1.size
  have z2 := ha2.lt
  have t2 : Box w2 w.heap.size 9 (.string s) := s1.below hb2 s1.lt
  have R0 : Aside (RelR w.heap.size w.heap.size w1.heap.size w2.heap.size len w (w2.alloc (.cells #[.bool false] 4)) 0 s false) :=
    ⟨by omega, t2.alloc _, heap_alloc_new w2 _, ha2.alloc _, (fun h => by cases h), hs, ((hbelow.out.trans (hb1.mono (by rw [e0]; omega))).trans (hb2.mono (by omega))).alloc (by omega) _⟩
  have PL : Aside (Places w.heap.size w.heap.size w1.heap.size w2.heap.size) := ⟨by omega, by omega, by omega, by omega, by omega, by omega⟩
  obtain ⟨ob, hob⟩ : ∃ ob, ob = w1.heap.size := ⟨_, rfl⟩
  obtain ⟨bb, hbb⟩ : ∃ bb, bb = w2.heap.size := ⟨_, rfl⟩
  rw [← hob, ← hbb] at R0 PL
  rw [← hob, ← hbb]
  clear ha2 hb2 hb1 s1 c1 t2 k0 X0 hbelow e0 z1 z2 hob
  go_loopg [31] len (fun gh v31 wr => ∃ k S bad, len - k ≤ gh ∧ v31 = .int .i64 (k : Int) ∧ RelR w.heap.size w.heap.size ob bb len w wr k S bad)
  case atStart => exact ⟨0, s, false, by omega, rfl, R0.out⟩
  case round =>
    clear R0 hbb
    obtain ⟨k, S, bad, hgh, rfl, hR⟩ := hrel
    by_cases hlt : k < len
    · obtain ⟨c0, c1, c2⟩ := HI.out.1 k hlt
      have hbk := HI.out.2.2
      rw [← hR.bel.cell (p := ⟨b, off + k * 3, none⟩) hbk] at c0
      rw [← hR.bel.cell (p := ⟨b, off + k * 3 + 1, none⟩) hbk] at c1
      rw [← hR.bel.cell (p := ⟨b, off + k * 3 + 2, none⟩) hbk] at c2
      have hkk := HI.out.2.1 k
      have l1 := hR.bs.lt
      have l2 := hR.bbx.lt
      have l3 := hR.at'.lt
      have X : Aside (RelR w.heap.size w.heap.size ob bb len w wr k S bad) := hR
      clear hR hbk
      rcases (show kd k % 3 = 0 ∨ kd k % 3 = 1 ∨ kd k % 3 = 2 by omega) with m0 | m1 | m2
      · have t0 : (((kd k : Int) % 3) == 0) = true := by rw [beq_iff_eq]; omega
        obtain ⟨r, S1, b1, hC⟩ : ∃ r S1 b1, numC S bad (nm k) = (r, S1, b1) := ⟨_, _, _, rfl⟩
        have HC : Aside (numC S bad (nm k) = (r, S1, b1)) := hC
        clear hC m0
        cases b1
        · go_wp2_with (first
            | (go_at_call 21; refine (closNum w.heap.size bb (nm k) r S S1 bad false _ (X.out.bs.alloc _) (X.out.bbx.alloc _) PL.out.sb' (by have := X.out.short; omega) HC.out).mono ?_; rintro e u1 ⟨rfl, hs1, hb1, hu1⟩; have cx := fun j => hu1.cell (p := ⟨wr.heap.size, j, none⟩) (by simp) (by show wr.heap.size ≠ w.heap.size; omega) (by show wr.heap.size ≠ bb; omega); have ha1 := (X.out.at'.alloc (.cells #[.int .u8 (kd k : Int), .int .i64 (nm k), .string (st k)] 27)).upd2 hu1 PL.out.so.symm PL.out.ob')
            | (go_at_call 15; refine (openNum ob (nm k) r S S1 bad false _ ha1 X.out.nothing (by have := X.out.short; omega) HC.out).mono ?_; rintro e u2 ⟨rfl, ha2, hu2⟩; have hs2 := hs1.upd hu2 PL.out.so; have hb2 := hb1.upd hu2 PL.out.ob'.symm; have cs2 := hs2.c; have fs2 := hs2.f; have cb2 := hb2.c))
          have R : Aside (RelR w.heap.size w.heap.size ob bb len w u2 (k + 1) S1 false) :=
            ⟨by omega, hs2, hb2, ha2, (fun h => by cases h), Nat.le_trans (numC_size HC.out) X.out.short, chainR X.out.bel PL.out hu1 hu2 X.out.bel.size⟩
          have cs3 := R.out.bs.c
          have cb3 := R.out.bbx.c
          clear ha2 hs2 hb2 hs1 hb1 hu1 ha1 hu2 cx c0 c1 c2 fs2 cs2 cb2
          go_quiet (first | (go_at_call 18; exact Calls.quiet_of_same (oOk_at ob S1 false _ (by exact R.out.at'))) | (go_at_call 23; exact Calls.quiet_of_same (left_at ob S1 false _ (by exact R.out.at'))) | (go_at_call 19; exact Calls.quiet_of_same (done_at ob S1 false _ (by exact R.out.at'))))
          go_wp2
          go_roundg (len - (k + 1))
          case measure => omega
          case rel => exact ⟨k + 1, S1, false, Nat.le_refl _, by go_num, R.out.drewN _⟩
        · go_wp2_with (first
            | (go_at_call 21; refine (closNum w.heap.size bb (nm k) r S S1 bad true _ (X.out.bs.alloc _) (X.out.bbx.alloc _) PL.out.sb' (by have := X.out.short; omega) HC.out).mono ?_; rintro e u1 ⟨rfl, hs1, hb1, hu1⟩; have cx := fun j => hu1.cell (p := ⟨wr.heap.size, j, none⟩) (by simp) (by show wr.heap.size ≠ w.heap.size; omega) (by show wr.heap.size ≠ bb; omega); have ha1 := (X.out.at'.alloc (.cells #[.int .u8 (kd k : Int), .int .i64 (nm k), .string (st k)] 27)).upd2 hu1 PL.out.so.symm PL.out.ob')
            | (go_at_call 15; refine (openNum ob (nm k) r S S1 bad true _ ha1 X.out.nothing (by have := X.out.short; omega) HC.out).mono ?_; rintro e u2 ⟨rfl, ha2, hu2⟩; have hs2 := hs1.upd hu2 PL.out.so; have hb2 := hb1.upd hu2 PL.out.ob'.symm; have cs2 := hs2.c; have fs2 := hs2.f; have cb2 := hb2.c))
          have R : Aside (RelR w.heap.size w.heap.size ob bb len w (u2.setCell ⟨w.heap.size, 0, none⟩ (.string ⟨#[]⟩)) (k + 1) ⟨#[]⟩ true) :=
            ⟨by omega, hs2.set _, hb2.other PL.out.sb'.symm _ _, At.other ha2 PL.out.so.symm _ _, (fun _ => rfl), by decide, (chainR X.out.bel PL.out hu1 hu2 X.out.bel.size).setCell PL.out.b1 _⟩
          have cs3 := R.out.bs.c
          have cb3 := R.out.bbx.c
          clear ha2 hs2 hb2 hs1 hb1 hu1 ha1 hu2 cx c0 c1 c2 fs2 cs2 cb2
          go_quiet (first | (go_at_call 18; exact Calls.quiet_of_same (oOk_at ob ⟨#[]⟩ true _ (by exact R.out.at'))) | (go_at_call 23; exact Calls.quiet_of_same (left_at ob ⟨#[]⟩ true _ (by exact R.out.at'))) | (go_at_call 19; exact Calls.quiet_of_same (done_at ob ⟨#[]⟩ true _ (by exact R.out.at'))))
          go_wp2
          go_roundg (len - (k + 1))
          case measure => omega
          case rel => exact ⟨k + 1, ⟨#[]⟩, true, Nat.le_refl _, by go_num, R.out.drewN _⟩
      · have t0 : (((kd k : Int) % 3) == 0) = false := by rw [beq_eq_false_iff_ne]; omega
        have t1 : (((kd k : Int) % 3) == 1) = true := by rw [beq_iff_eq]; omega
        obtain ⟨r, S1, b1, hC⟩ : ∃ r S1 b1, numC S bad (nm k) = (r, S1, b1) := ⟨_, _, _, rfl⟩
        obtain ⟨t, S2, b2, hD⟩ : ∃ t S2 b2, rawC S1 b1 r = (t, S2, b2) := ⟨_, _, _, rfl⟩
        have HC : Aside (numC S bad (nm k) = (r, S1, b1) ∧ rawC S1 b1 r = (t, S2, b2)) := ⟨hC, hD⟩
        clear hC hD m1
        cases b2
        · go_wp2_with (first
            | (go_at_call 21; refine (closNum w.heap.size bb (nm k) r S S1 bad b1 _ (X.out.bs.alloc _) (X.out.bbx.alloc _) PL.out.sb' (by have := X.out.short; omega) HC.out.1).mono ?_; rintro e u0 ⟨rfl, hs0, hb0, hu0⟩; have cx0 := fun j => hu0.cell (p := ⟨wr.heap.size, j, none⟩) (by simp) (by show wr.heap.size ≠ w.heap.size; omega) (by show wr.heap.size ≠ bb; omega))
            | (go_at_call 20; refine (closRaw w.heap.size bb r S1 S2 t b1 false _ hs0 hb0 PL.out.sb' (numC_nonneg HC.out.1) HC.out.2).mono ?_; rintro e u1 ⟨rfl, hs1, hb1, hu1⟩; clear cx0; have hu01 := hu0.trans hu1; have cx := fun j => hu01.cell (p := ⟨wr.heap.size, j, none⟩) (by simp) (by show wr.heap.size ≠ w.heap.size; omega) (by show wr.heap.size ≠ bb; omega); have ha1 := (X.out.at'.alloc (.cells #[.int .u8 (kd k : Int), .int .i64 (nm k), .string (st k)] 27)).upd2 hu01 PL.out.so.symm PL.out.ob')
            | (go_at_call 16; refine (openText ob (nm k) r S S1 S2 t bad b1 false _ ha1 X.out.nothing (by have := X.out.short; omega) HC.out.1 HC.out.2).mono ?_; rintro e u2 ⟨rfl, ha2, hu2⟩; have hs2 := hs1.upd hu2 PL.out.so; have hb2 := hb1.upd hu2 PL.out.ob'.symm; have cs2 := hs2.c; have fs2 := hs2.f; have cb2 := hb2.c))
          have R : Aside (RelR w.heap.size w.heap.size ob bb len w u2 (k + 1) S2 false) :=
            ⟨by omega, hs2, hb2, ha2, (fun h => by cases h), Nat.le_trans (rawC_size HC.out.2) (Nat.le_trans (numC_size HC.out.1) X.out.short), chainR2 X.out.bel PL.out hu0 hu1 hu2 X.out.bel.size⟩
          have cs3 := R.out.bs.c
          have cb3 := R.out.bbx.c
          clear ha2 hs2 hb2 hs1 hb1 hu1 ha1 hu2 cx c0 c1 c2 fs2 cs2 cb2 hs0 hb0 hu0 hu01
          go_quiet (first | (go_at_call 18; exact Calls.quiet_of_same (oOk_at ob S2 false _ (by exact R.out.at'))) | (go_at_call 23; exact Calls.quiet_of_same (left_at ob S2 false _ (by exact R.out.at'))) | (go_at_call 19; exact Calls.quiet_of_same (done_at ob S2 false _ (by exact R.out.at'))))
          go_wp2
          go_roundg (len - (k + 1))
          case measure => omega
          case rel => exact ⟨k + 1, S2, false, Nat.le_refl _, by go_num, R.out.drewN _⟩
        · go_wp2_with (first
            | (go_at_call 21; refine (closNum w.heap.size bb (nm k) r S S1 bad b1 _ (X.out.bs.alloc _) (X.out.bbx.alloc _) PL.out.sb' (by have := X.out.short; omega) HC.out.1).mono ?_; rintro e u0 ⟨rfl, hs0, hb0, hu0⟩; have cx0 := fun j => hu0.cell (p := ⟨wr.heap.size, j, none⟩) (by simp) (by show wr.heap.size ≠ w.heap.size; omega) (by show wr.heap.size ≠ bb; omega))
            | (go_at_call 20; refine (closRaw w.heap.size bb r S1 S2 t b1 true _ hs0 hb0 PL.out.sb' (numC_nonneg HC.out.1) HC.out.2).mono ?_; rintro e u1 ⟨rfl, hs1, hb1, hu1⟩; clear cx0; have hu01 := hu0.trans hu1; have cx := fun j => hu01.cell (p := ⟨wr.heap.size, j, none⟩) (by simp) (by show wr.heap.size ≠ w.heap.size; omega) (by show wr.heap.size ≠ bb; omega); have ha1 := (X.out.at'.alloc (.cells #[.int .u8 (kd k : Int), .int .i64 (nm k), .string (st k)] 27)).upd2 hu01 PL.out.so.symm PL.out.ob')
            | (go_at_call 16; refine (openText ob (nm k) r S S1 S2 t bad b1 true _ ha1 X.out.nothing (by have := X.out.short; omega) HC.out.1 HC.out.2).mono ?_; rintro e u2 ⟨rfl, ha2, hu2⟩; have hs2 := hs1.upd hu2 PL.out.so; have hb2 := hb1.upd hu2 PL.out.ob'.symm; have cs2 := hs2.c; have fs2 := hs2.f; have cb2 := hb2.c))
          have R : Aside (RelR w.heap.size w.heap.size ob bb len w (u2.setCell ⟨w.heap.size, 0, none⟩ (.string ⟨#[]⟩)) (k + 1) ⟨#[]⟩ true) :=
            ⟨by omega, hs2.set _, hb2.other PL.out.sb'.symm _ _, At.other ha2 PL.out.so.symm _ _, (fun _ => rfl), by decide, (chainR2 X.out.bel PL.out hu0 hu1 hu2 X.out.bel.size).setCell PL.out.b1 _⟩
          have cs3 := R.out.bs.c
          have cb3 := R.out.bbx.c
          clear ha2 hs2 hb2 hs1 hb1 hu1 ha1 hu2 cx c0 c1 c2 fs2 cs2 cb2 hs0 hb0 hu0 hu01
          go_quiet (first | (go_at_call 18; exact Calls.quiet_of_same (oOk_at ob ⟨#[]⟩ true _ (by exact R.out.at'))) | (go_at_call 23; exact Calls.quiet_of_same (left_at ob ⟨#[]⟩ true _ (by exact R.out.at'))) | (go_at_call 19; exact Calls.quiet_of_same (done_at ob ⟨#[]⟩ true _ (by exact R.out.at'))))
          go_wp2
          go_roundg (len - (k + 1))
          case measure => omega
          case rel => exact ⟨k + 1, ⟨#[]⟩, true, Nat.le_refl _, by go_num, R.out.drewN _⟩
      · have t0 : (((kd k : Int) % 3) == 0) = false := by rw [beq_eq_false_iff_ne]; omega
        have t1 : (((kd k : Int) % 3) == 1) = false := by rw [beq_eq_false_iff_ne]; omega
        have t2 : (((kd k : Int) % 3) == 2) = true := by rw [beq_iff_eq]; omega
        obtain ⟨t, S2, b2, hD⟩ : ∃ t S2 b2, rawC S bad (max (nm k) 0) = (t, S2, b2) := ⟨_, _, _, rfl⟩
        have HC : Aside (rawC S bad (max (nm k) 0) = (t, S2, b2)) := hD
        clear hD m2
        by_cases hneg : nm k < 0
        · have HC2 : Aside (rawC S bad 0 = (t, S2, b2)) := by
            have e := HC.out
            rw [show max (nm k) 0 = 0 by omega] at e
            exact e
          cases b2
          · go_wp2_with (first
              | (go_at_call 20; refine (closRaw w.heap.size bb 0 S S2 t bad false _ (X.out.bs.alloc _) (X.out.bbx.alloc _) PL.out.sb' (by omega) HC2.out).mono ?_; rintro e u1 ⟨rfl, hs1, hb1, hu1⟩; have cx := fun j => hu1.cell (p := ⟨wr.heap.size, j, none⟩) (by simp) (by show wr.heap.size ≠ w.heap.size; omega) (by show wr.heap.size ≠ bb; omega); have ha1 := (X.out.at'.alloc (.cells #[.int .u8 (kd k : Int), .int .i64 (nm k), .string (st k)] 27)).upd2 hu1 PL.out.so.symm PL.out.ob')
              | (go_at_call 17; refine (openRaw ob (nm k) S S2 t bad false _ ha1 X.out.nothing (by have := X.out.short; omega) HC.out).mono ?_; rintro e u2 ⟨rfl, ha2, hu2⟩; have hs2 := hs1.upd hu2 PL.out.so; have hb2 := hb1.upd hu2 PL.out.ob'.symm; have cs2 := hs2.c; have fs2 := hs2.f; have cb2 := hb2.c))
            have R : Aside (RelR w.heap.size w.heap.size ob bb len w u2 (k + 1) S2 false) :=
              ⟨by omega, hs2, hb2, ha2, (fun h => by cases h), Nat.le_trans (rawC_size HC.out) X.out.short, chainR X.out.bel PL.out hu1 hu2 X.out.bel.size⟩
            have cs3 := R.out.bs.c
            have cb3 := R.out.bbx.c
            clear ha2 hs2 hb2 hs1 hb1 hu1 ha1 hu2 cx c0 c1 c2 fs2 cs2 cb2
            go_quiet (first | (go_at_call 18; exact Calls.quiet_of_same (oOk_at ob S2 false _ (by exact R.out.at'))) | (go_at_call 23; exact Calls.quiet_of_same (left_at ob S2 false _ (by exact R.out.at'))) | (go_at_call 19; exact Calls.quiet_of_same (done_at ob S2 false _ (by exact R.out.at'))))
            go_wp2
            go_roundg (len - (k + 1))
            case measure => omega
            case rel => exact ⟨k + 1, S2, false, Nat.le_refl _, by go_num, R.out.drewN _⟩
          · go_wp2_with (first
              | (go_at_call 20; refine (closRaw w.heap.size bb 0 S S2 t bad true _ (X.out.bs.alloc _) (X.out.bbx.alloc _) PL.out.sb' (by omega) HC2.out).mono ?_; rintro e u1 ⟨rfl, hs1, hb1, hu1⟩; have cx := fun j => hu1.cell (p := ⟨wr.heap.size, j, none⟩) (by simp) (by show wr.heap.size ≠ w.heap.size; omega) (by show wr.heap.size ≠ bb; omega); have ha1 := (X.out.at'.alloc (.cells #[.int .u8 (kd k : Int), .int .i64 (nm k), .string (st k)] 27)).upd2 hu1 PL.out.so.symm PL.out.ob')
              | (go_at_call 17; refine (openRaw ob (nm k) S S2 t bad true _ ha1 X.out.nothing (by have := X.out.short; omega) HC.out).mono ?_; rintro e u2 ⟨rfl, ha2, hu2⟩; have hs2 := hs1.upd hu2 PL.out.so; have hb2 := hb1.upd hu2 PL.out.ob'.symm; have cs2 := hs2.c; have fs2 := hs2.f; have cb2 := hb2.c))
            have R : Aside (RelR w.heap.size w.heap.size ob bb len w (u2.setCell ⟨w.heap.size, 0, none⟩ (.string ⟨#[]⟩)) (k + 1) ⟨#[]⟩ true) :=
              ⟨by omega, hs2.set _, hb2.other PL.out.sb'.symm _ _, At.other ha2 PL.out.so.symm _ _, (fun _ => rfl), by decide, (chainR X.out.bel PL.out hu1 hu2 X.out.bel.size).setCell PL.out.b1 _⟩
            have cs3 := R.out.bs.c
            have cb3 := R.out.bbx.c
            clear ha2 hs2 hb2 hs1 hb1 hu1 ha1 hu2 cx c0 c1 c2 fs2 cs2 cb2
            go_quiet (first | (go_at_call 18; exact Calls.quiet_of_same (oOk_at ob ⟨#[]⟩ true _ (by exact R.out.at'))) | (go_at_call 23; exact Calls.quiet_of_same (left_at ob ⟨#[]⟩ true _ (by exact R.out.at'))) | (go_at_call 19; exact Calls.quiet_of_same (done_at ob ⟨#[]⟩ true _ (by exact R.out.at'))))
            go_wp2
            go_roundg (len - (k + 1))
            case measure => omega
            case rel => exact ⟨k + 1, ⟨#[]⟩, true, Nat.le_refl _, by go_num, R.out.drewN _⟩
        · have HC2 : Aside (rawC S bad (nm k) = (t, S2, b2)) := by
            have e := HC.out
            rw [show max (nm k) 0 = nm k by omega] at e
            exact e
          cases b2
          · go_wp2_with (first
              | (go_at_call 20; refine (closRaw w.heap.size bb (nm k) S S2 t bad false _ (X.out.bs.alloc _) (X.out.bbx.alloc _) PL.out.sb' (by omega) HC2.out).mono ?_; rintro e u1 ⟨rfl, hs1, hb1, hu1⟩; have cx := fun j => hu1.cell (p := ⟨wr.heap.size, j, none⟩) (by simp) (by show wr.heap.size ≠ w.heap.size; omega) (by show wr.heap.size ≠ bb; omega); have ha1 := (X.out.at'.alloc (.cells #[.int .u8 (kd k : Int), .int .i64 (nm k), .string (st k)] 27)).upd2 hu1 PL.out.so.symm PL.out.ob')
              | (go_at_call 17; refine (openRaw ob (nm k) S S2 t bad false _ ha1 X.out.nothing (by have := X.out.short; omega) HC.out).mono ?_; rintro e u2 ⟨rfl, ha2, hu2⟩; have hs2 := hs1.upd hu2 PL.out.so; have hb2 := hb1.upd hu2 PL.out.ob'.symm; have cs2 := hs2.c; have fs2 := hs2.f; have cb2 := hb2.c))
            have R : Aside (RelR w.heap.size w.heap.size ob bb len w u2 (k + 1) S2 false) :=
              ⟨by omega, hs2, hb2, ha2, (fun h => by cases h), Nat.le_trans (rawC_size HC.out) X.out.short, chainR X.out.bel PL.out hu1 hu2 X.out.bel.size⟩
            have cs3 := R.out.bs.c
            have cb3 := R.out.bbx.c
            clear ha2 hs2 hb2 hs1 hb1 hu1 ha1 hu2 cx c0 c1 c2 fs2 cs2 cb2
            go_quiet (first | (go_at_call 18; exact Calls.quiet_of_same (oOk_at ob S2 false _ (by exact R.out.at'))) | (go_at_call 23; exact Calls.quiet_of_same (left_at ob S2 false _ (by exact R.out.at'))) | (go_at_call 19; exact Calls.quiet_of_same (done_at ob S2 false _ (by exact R.out.at'))))
            go_wp2
            go_roundg (len - (k + 1))
            case measure => omega
            case rel => exact ⟨k + 1, S2, false, Nat.le_refl _, by go_num, R.out.drewN _⟩
          · go_wp2_with (first
              | (go_at_call 20; refine (closRaw w.heap.size bb (nm k) S S2 t bad true _ (X.out.bs.alloc _) (X.out.bbx.alloc _) PL.out.sb' (by omega) HC2.out).mono ?_; rintro e u1 ⟨rfl, hs1, hb1, hu1⟩; have cx := fun j => hu1.cell (p := ⟨wr.heap.size, j, none⟩) (by simp) (by show wr.heap.size ≠ w.heap.size; omega) (by show wr.heap.size ≠ bb; omega); have ha1 := (X.out.at'.alloc (.cells #[.int .u8 (kd k : Int), .int .i64 (nm k), .string (st k)] 27)).upd2 hu1 PL.out.so.symm PL.out.ob')
              | (go_at_call 17; refine (openRaw ob (nm k) S S2 t bad true _ ha1 X.out.nothing (by have := X.out.short; omega) HC.out).mono ?_; rintro e u2 ⟨rfl, ha2, hu2⟩; have hs2 := hs1.upd hu2 PL.out.so; have hb2 := hb1.upd hu2 PL.out.ob'.symm; have cs2 := hs2.c; have fs2 := hs2.f; have cb2 := hb2.c))
            have R : Aside (RelR w.heap.size w.heap.size ob bb len w (u2.setCell ⟨w.heap.size, 0, none⟩ (.string ⟨#[]⟩)) (k + 1) ⟨#[]⟩ true) :=
              ⟨by omega, hs2.set _, hb2.other PL.out.sb'.symm _ _, At.other ha2 PL.out.so.symm _ _, (fun _ => rfl), by decide, (chainR X.out.bel PL.out hu1 hu2 X.out.bel.size).setCell PL.out.b1 _⟩
            have cs3 := R.out.bs.c
            have cb3 := R.out.bbx.c
            clear ha2 hs2 hb2 hs1 hb1 hu1 ha1 hu2 cx c0 c1 c2 fs2 cs2 cb2
            go_quiet (first | (go_at_call 18; exact Calls.quiet_of_same (oOk_at ob ⟨#[]⟩ true _ (by exact R.out.at'))) | (go_at_call 23; exact Calls.quiet_of_same (left_at ob ⟨#[]⟩ true _ (by exact R.out.at'))) | (go_at_call 19; exact Calls.quiet_of_same (done_at ob ⟨#[]⟩ true _ (by exact R.out.at'))))
            go_wp2
            go_roundg (len - (k + 1))
            case measure => omega
            case rel => exact ⟨k + 1, ⟨#[]⟩, true, Nat.le_refl _, by go_num, R.out.drewN _⟩
    · have Z : Aside (Below w.heap.size w wr) := hR.bel
      clear hR
      go_wp2
      go_ret
      exact ⟨rfl, Z.out⟩
end Go.Proofs.Ytlajableceaoaaa
