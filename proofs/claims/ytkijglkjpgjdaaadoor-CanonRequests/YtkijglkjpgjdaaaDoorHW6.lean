/-
  The eight words behind one block more: the program's 'mixed'.
-/
import Derived.Test.YtkijglkjpgjdaaaDoorHW5
import Derived.Deep.RegionWith
import Derived.Deep.QuietTactic
namespace Go.Proofs.YtkijglkjpgjdaaaDoor.Ha
open Go.RowKit
theorem MX.drewN {v : Sh.V8} {l : List Nat} {w : World} {g : Nat} {wr : World} (h : MX v l w g wr) : ∀ n, MX v l w g (wr.drewN n)
  | 0 => h
  | n + 1 => (MX.drewN h n).drew
theorem eight_one (a b c d e f g h : Int) : (#[Value.int .u32 a, .int .u32 b, .int .u32 c, .int .u32 d, .int .u32 e, .int .u32 f, .int .u32 g, .int .u32 h]).all (·.oneCell') = true := all_oneCell_toArray (cs := [Value.int .u32 a, .int .u32 b, .int .u32 c, .int .u32 d, .int .u32 e, .int .u32 f, .int .u32 g, .int .u32 h]) (by
  intro v hv
  simp only [List.mem_cons, List.not_mem_nil, or_false] at hv
  rcases hv with rfl | rfl | rfl | rfl | rfl | rfl | rfl | rfl <;> rfl)
set_option maxHeartbeats 1600000 in
set_option maxRecDepth 100000 in
theorem mixed_any (v : Sh.V8) (l : List Nat) (w : World) (hT : Tab w) (hv : v.Ok) (hl : l.length = 64) (hb : ∀ x ∈ l, x < 256) :
    Calls Tryd.prog 93 #[.agg (vals v), .agg (u8s l)] w fun e w' => e = .returned (.agg (vals (Sh.mix v l))) ∧ Below w.heap.size w w' := by
  have HT : Aside (Tab w ∧ v.Ok) := ⟨hT, hv⟩
  have k30 : Aside (∀ u, Calls Tryd.prog 100 #[.agg (u8s l)] u fun e w' => e = .returned (.agg (u32s (Sh.ws l 48))) ∧ Below u.heap.size u w') := fun u => bw_any l u hl hb
  have hB := ((Blk.new (w.alloc (.cells (vals v) 75)) 90 (u8s l)).alloc (.cells (vals Sh.zeroV) 75))
  rw [size_alloc] at hB
  clear hT hv hb
  go_enter Tryd.func93, Tryd.ntmps93
  go_wp2_with (first
    | (refine wpList_load_row rfl 90 _ rfl _ rfl 90 _ (0, 0) _ hB Tryd.underlying90 rfl (by rw [u8s_size, hl]; exact sz44) ?_)
    | (go_at_call 100; refine (k30.out _).mono ?_; rintro e w1 ⟨rfl, hb1⟩)
    | (refine wpList_store_row rfl 76 _ _ rfl _ _ rfl rfl 76 _ (heap_alloc_new _ _) (by rw [u32s_size, Sh.ws_len]; exact sz25) (by rw [u32s_size, Sh.ws_len]; rfl) (u32s_one _) ?_; rw [World.setRow_alloc_new]))
  have hX : MX v l w w1.heap.size (w1.alloc (.cells (u32s (Sh.ws l 48)) 76)) := MX.first v l w w1 HT.out.1 (by rw [size_alloc, size_alloc, size_alloc] at hb1; exact hb1)
  have hg : w.heap.size ≤ w1.heap.size := by have := hb1.size; rw [size_alloc, size_alloc, size_alloc] at this; omega
  generalize w1.alloc (.cells (u32s (Sh.ws l 48)) 76) = w2 at hX ⊢
  generalize w1.heap.size = g at hX hg ⊢
  clear hb1 hB w1 k30
  simp only [Act.put]
  have HX : Aside (MX v l w g w2) := hX
  have c0 := hX.a.cell (i := 0) (v := .int .u32 (v.a : Int)) rfl
  have c1 := hX.a.cell (i := 1) (v := .int .u32 (v.b : Int)) rfl
  have c2 := hX.a.cell (i := 2) (v := .int .u32 (v.c : Int)) rfl
  have c3 := hX.a.cell (i := 3) (v := .int .u32 (v.d : Int)) rfl
  have c4 := hX.a.cell (i := 4) (v := .int .u32 (v.e : Int)) rfl
  have c5 := hX.a.cell (i := 5) (v := .int .u32 (v.f : Int)) rfl
  have c6 := hX.a.cell (i := 6) (v := .int .u32 (v.g : Int)) rfl
  have c7 := hX.a.cell (i := 7) (v := .int .u32 (v.h : Int)) rfl
  clear hX
  go_region
  go_wp2_with fail
  go_region
  go_wp2_with fail
  clear c0 c1 c2 c3 c4 c5 c6 c7
  go_loopg [6, 7, 8, 9, 10, 11, 12, 13, 35] 64 (fun gh s6 s7 s8 s9 s10 s11 s12 s13 s35 wr => ∃ (k : Nat) (x : Sh.V8), 64 - k ≤ gh ∧ k ≤ 64 ∧ s6 = .int .u32 (x.a : Int) ∧ s7 = .int .u32 (x.b : Int) ∧ s8 = .int .u32 (x.c : Int) ∧ s9 = .int .u32 (x.d : Int) ∧ s10 = .int .u32 (x.e : Int) ∧ s11 = .int .u32 (x.f : Int) ∧ s12 = .int .u32 (x.g : Int) ∧ s13 = .int .u32 (x.h : Int) ∧ s35 = .int .i64 (k : Int) ∧ x.Ok ∧ x = Sh.rounds v (Sh.ws l 48) k ∧ MX v l w g wr)
  case atStart => exact ⟨0, v, by omega, by omega, rfl, rfl, rfl, rfl, rfl, rfl, rfl, rfl, rfl, HT.out.2, rfl, HX.out.drew.drew⟩
  case round =>
    clear HX
    obtain ⟨k, ⟨a, b, c, d, e, f, gg, h⟩, hgh, hk, rfl, rfl, rfl, rfl, rfl, rfl, rfl, rfl, rfl, hok, hx, hX⟩ := hrel
    have HO : Aside (Sh.V8.Ok ⟨a, b, c, d, e, f, gg, h⟩ ∧ ⟨a, b, c, d, e, f, gg, h⟩ = Sh.rounds v (Sh.ws l 48) k ∧ MX v l w g wr) := ⟨hok, hx, hX⟩
    obtain ⟨la, lb, lc, ld, le, lf, lg, lh⟩ := hok
    simp only at la lb lc ld le lf lg lh
    clear hx
    by_cases hlt : k < 64
    · have d1 : decide ((k : Int) < 64) = true := by simp; omega
      obtain ⟨kk, hkk⟩ : ∃ x, x = Sh.K.getD k 0 := ⟨_, rfl⟩
      obtain ⟨ww, hww⟩ : ∃ x, x = (Sh.ws l 48).getD k 0 := ⟨_, rfl⟩
      have c1 := hX.tab k hlt
      have c2 := hX.g.cell (u32s_at (Sh.ws l 48) k (by rw [Sh.ws_len]; omega))
      rw [← hkk] at c1
      rw [← hww] at c2
      have KW : Aside (kk = Sh.K.getD k 0 ∧ ww = (Sh.ws l 48).getD k 0) := ⟨hkk, hww⟩
      clear hkk hww hX
      have r6 : Aside (∀ u, Calls Tryd.prog 101 #[.int .u32 (e : Int), .int .i64 6] u fun e' w' => e' = .returned (.int .u32 (Sh.rr e 6 : Nat)) ∧ w' = u) := fun u => right_any e 6 u le (by decide) (by decide)
      have r11 : Aside (∀ u, Calls Tryd.prog 101 #[.int .u32 (e : Int), .int .i64 11] u fun e' w' => e' = .returned (.int .u32 (Sh.rr e 11 : Nat)) ∧ w' = u) := fun u => right_any e 11 u le (by decide) (by decide)
      have r25 : Aside (∀ u, Calls Tryd.prog 101 #[.int .u32 (e : Int), .int .i64 25] u fun e' w' => e' = .returned (.int .u32 (Sh.rr e 25 : Nat)) ∧ w' = u) := fun u => right_any e 25 u le (by decide) (by decide)
      have r2 : Aside (∀ u, Calls Tryd.prog 101 #[.int .u32 (a : Int), .int .i64 2] u fun e' w' => e' = .returned (.int .u32 (Sh.rr a 2 : Nat)) ∧ w' = u) := fun u => right_any a 2 u la (by decide) (by decide)
      have r13 : Aside (∀ u, Calls Tryd.prog 101 #[.int .u32 (a : Int), .int .i64 13] u fun e' w' => e' = .returned (.int .u32 (Sh.rr a 13 : Nat)) ∧ w' = u) := fun u => right_any a 13 u la (by decide) (by decide)
      have r22 : Aside (∀ u, Calls Tryd.prog 101 #[.int .u32 (a : Int), .int .i64 22] u fun e' w' => e' = .returned (.int .u32 (Sh.rr a 22 : Nat)) ∧ w' = u) := fun u => right_any a 22 u la (by decide) (by decide)
      have e1 := bs1_is e le
      have e0 := bs0_is a la
      obtain ⟨ne, p1, q1, cc, n1, n2, n3, n4, hcc⟩ := ch_steps e f gg le lf lg
      obtain ⟨p2, q2, r2', mm, m1, m2, m3, m4, hmm⟩ := maj_steps a b c la lb lc
      have n1' : bits BinOp.xor IntKind.u32 (if IntKind.u32.signed = true then -1 else IntKind.u32.max) (e : Int) = (ne : Int) := n1
      have CM : Aside (cc = Sh.ch e f gg ∧ mm = Sh.maj a b c) := ⟨hcc, hmm⟩
      clear hcc hmm la lb lc ld le lf lg lh
      go_wp2_with fail
      go_quiet (first
        | (go_at_call_of 101 (Value.int IntKind.i64 6); exact Calls.quiet_of_same (r6.out _))
        | (go_at_call_of 101 (Value.int IntKind.i64 11); exact Calls.quiet_of_same (r11.out _))
        | (go_at_call_of 101 (Value.int IntKind.i64 25); exact Calls.quiet_of_same (r25.out _)))
      clear e1 n1 n2 n3 n4 n1' r6 r11 r25 c1 c2
      have NX : Aside (∃ t u : Nat, ((((h : Int) + (Sh.bs1 e : Nat) + (cc : Int) + (kk : Int)) % 4294967296 + (ww : Int)) % 4294967296 = (t : Int)) ∧ ((Sh.bs0 a : Nat) + (mm : Int)) % 4294967296 = (u : Int) ∧
          Sh.V8.Ok ⟨(t + u) % 4294967296, a, b, c, (d + t) % 4294967296, e, f, gg⟩ ∧ (⟨(t + u) % 4294967296, a, b, c, (d + t) % 4294967296, e, f, gg⟩ : Sh.V8) = Sh.rounds v (Sh.ws l 48) (k + 1)) := by
        obtain ⟨h1, h2, -⟩ := HO.out
        obtain ⟨h3, h4⟩ := KW.out
        obtain ⟨h5, h6⟩ := CM.out
        refine ⟨Sh.tOf ⟨a, b, c, d, e, f, gg, h⟩ kk ww, Sh.uOf ⟨a, b, c, d, e, f, gg, h⟩, ?_, ?_, ?_, ?_⟩
        · rw [h5]
          simp [Sh.tOf]
        · rw [h6]
          simp [Sh.uOf]
        · exact Sh.rnd_ok h1 kk ww
        · show Sh.rnd _ kk ww = Sh.rnd _ _ _
          rw [h2, h3, h4]
      obtain ⟨t, u, ht, hu, hok2, hnx⟩ := NX.out
      rw [ht]
      have HN : Aside (Sh.V8.Ok ⟨(t + u) % 4294967296, a, b, c, (d + t) % 4294967296, e, f, gg⟩ ∧ (⟨(t + u) % 4294967296, a, b, c, (d + t) % 4294967296, e, f, gg⟩ : Sh.V8) = Sh.rounds v (Sh.ws l 48) (k + 1)) := ⟨hok2, hnx⟩
      clear ht hok2 hnx NX KW CM
      go_wp2_with (first
        | (go_at_call_of 101 (Value.int IntKind.i64 2); refine (r2.out _).mono ?_; rintro e' w1 ⟨rfl, rfl⟩)
        | (go_at_call_of 101 (Value.int IntKind.i64 13); refine (r13.out _).mono ?_; rintro e' w1 ⟨rfl, rfl⟩)
        | (go_at_call_of 101 (Value.int IntKind.i64 22); refine (r22.out _).mono ?_; rintro e' w1 ⟨rfl, rfl⟩))
      go_roundg (64 - (k + 1))
      case measure => omega
      case rel =>
        obtain ⟨z1, z2⟩ := HN.out
        obtain ⟨-, -, z3⟩ := HO.out
        exact ⟨k + 1, _, Nat.le_refl _, by omega, by simp, rfl, rfl, rfl, by simp, rfl, rfl, rfl, by go_num, z1, z2, z3.drewN nq⟩
    · obtain rfl : k = 64 := by omega
      clear la lb lc ld le lf lg lh
      have c0 := hX.a.cell (i := 0) (v := .int .u32 (v.a : Int)) rfl
      have c1 := hX.a.cell (i := 1) (v := .int .u32 (v.b : Int)) rfl
      have c2 := hX.a.cell (i := 2) (v := .int .u32 (v.c : Int)) rfl
      have c3 := hX.a.cell (i := 3) (v := .int .u32 (v.d : Int)) rfl
      have c4 := hX.a.cell (i := 4) (v := .int .u32 (v.e : Int)) rfl
      have c5 := hX.a.cell (i := 5) (v := .int .u32 (v.f : Int)) rfl
      have c6 := hX.a.cell (i := 6) (v := .int .u32 (v.g : Int)) rfl
      have c7 := hX.a.cell (i := 7) (v := .int .u32 (v.h : Int)) rfl
      have hC := hX.c
      have hbel : Aside (Below w.heap.size w wr) := hX.bel
      clear hX
      go_wp2_with (refine wpList_store_row rfl 75 _ _ rfl _ _ rfl rfl 75 _ hC (by exact sz24) (by rfl) (eight_one ..) ?_)
      simp only [Act.put]
      obtain ⟨-, hx, -⟩ := HO.out
      have hval : #[Value.int .u32 (((v.a : Int) + (a : Int)) % 4294967296), Value.int .u32 (((v.b : Int) + (b : Int)) % 4294967296), Value.int .u32 (((v.c : Int) + (c : Int)) % 4294967296), Value.int .u32 (((v.d : Int) + (d : Int)) % 4294967296),
          Value.int .u32 (((v.e : Int) + (e : Int)) % 4294967296), Value.int .u32 (((v.f : Int) + (f : Int)) % 4294967296), Value.int .u32 (((v.g : Int) + (gg : Int)) % 4294967296), Value.int .u32 (((v.h : Int) + (h : Int)) % 4294967296)] = vals (Sh.mix v l) := by
        unfold Sh.mix
        rw [← hx]
        simp [vals, Sh.addV]
      rw [hval]
      refine bodyPost_ret (v := .agg (vals (Sh.mix v l))) (results_cell_row Tryd.results93 _ _ (w.heap.size + 1 + 1) 75 _ (0, 0) _ rfl hC.row Tryd.underlying75 rfl sz24) rfl ⟨rfl, ?_⟩
      exact below_row hbel.out (by omega) _
end Go.Proofs.YtkijglkjpgjdaaaDoor.Ha
