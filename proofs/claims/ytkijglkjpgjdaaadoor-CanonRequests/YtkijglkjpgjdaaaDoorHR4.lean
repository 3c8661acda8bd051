/-
  The document's own digest of a text.
-/
import Derived.Test.YtkijglkjpgjdaaaDoorHR3
namespace Go.Proofs.YtkijglkjpgjdaaaDoor.Ha
open Go.RowKit

theorem index_str (t : ByteArray) (n : Nat) (h : n < t.size) (z : Int) (hz : z = (n : Int)) (w : World) : (Instr.index 9 (.string t) (.int .i64 z)).run Tryd.prog w = .ok (.int .u8 (t[n].toNat : Int)) w := by
  subst hz
  have h0 : (0 : Int) ≤ (n : Int) := by omega
  have h1 : t[n]? = some t[n] := getElem?_pos t n h
  simp only [Instr.index, asIntOf, Sem.run_bind, Sem.run_pure, Result.andThen_ok, run_underlying Tryd.underlying9, h0, if_true, Int.toNat_natCast, h1]

theorem vals_at (v : Sh.V8) (k : Nat) (h : k < 8) : (vals v)[k]? = some (.int .u32 (wd v k : Nat)) := by
  rcases k with _ | _ | _ | _ | _ | _ | _ | _ | k
  all_goals first | rfl | omega

theorem strOf_append (l m : List Nat) : strOf (l ++ m) = strOf l ++ strOf m := by
  apply ByteArray.ext
  simp [strOf]

/-- What the document's digest keeps in memory: the words, the constants. -/
structure RS (v : Sh.V8) (w : World) (V : Nat) (wr : World) : Prop where
  v : Blk wr V 75 (vals v)
  k : Blk wr (V + 1) 76 (u32s Sh.K)
  bel : Below w.heap.size w wr

theorem RS.later {v : Sh.V8} {w : World} {V N : Nat} {wr wr' : World} (h : RS v w V wr) (hb : Below N wr wr') (hN : V + 1 < N) (hw : w.heap.size ≤ N) : RS v w V wr' :=
  ⟨h.v.below hb (by omega), h.k.below hb hN, h.bel.trans (hb.mono hw)⟩

theorem RS.first (w w1 w2 : World) (hb1 : Below w.heap.size w w1)
    (hb2 : Below ((((w1.alloc (.cells (vals Sh.zeroV) 75)).alloc (.cells (u32s (List.replicate 64 0)) 76)).setRow w1.heap.size (vals Sh.start)).setRow (w1.heap.size + 1) (u32s Sh.K)).heap.size
      ((((w1.alloc (.cells (vals Sh.zeroV) 75)).alloc (.cells (u32s (List.replicate 64 0)) 76)).setRow w1.heap.size (vals Sh.start)).setRow (w1.heap.size + 1) (u32s Sh.K)) w2) : RS Sh.start w w1.heap.size w2 ∧ w1.heap.size + 1 < w2.heap.size := by
  have hA : Blk ((w1.alloc (.cells (vals Sh.zeroV) 75)).alloc (.cells (u32s (List.replicate 64 0)) 76)) w1.heap.size 75 (vals Sh.zeroV) := (Blk.new w1 75 (vals Sh.zeroV)).alloc _
  have hB : Blk (((w1.alloc (.cells (vals Sh.zeroV) 75)).alloc (.cells (u32s (List.replicate 64 0)) 76)).setRow w1.heap.size (vals Sh.start)) (w1.heap.size + 1) 76 (u32s (List.replicate 64 0)) := by
    have := Blk.new (w1.alloc (.cells (vals Sh.zeroV) 75)) 76 (u32s (List.replicate 64 0))
    rw [size_alloc] at this
    exact (setRow_other _ _ _ _ (by omega)).trans this
  have b0 : Below w.heap.size w ((((w1.alloc (.cells (vals Sh.zeroV) 75)).alloc (.cells (u32s (List.replicate 64 0)) 76)).setRow w1.heap.size (vals Sh.start)).setRow (w1.heap.size + 1) (u32s Sh.K)) :=
    below_row (below_row ((hb1.alloc hb1.size _).alloc (by have := hb1.size; rw [size_alloc]; omega) _) hb1.size _) (by have := hb1.size; omega) _
  have hv : Blk ((((w1.alloc (.cells (vals Sh.zeroV) 75)).alloc (.cells (u32s (List.replicate 64 0)) 76)).setRow w1.heap.size (vals Sh.start)).setRow (w1.heap.size + 1) (u32s Sh.K)) w1.heap.size 75 (vals Sh.start) := (setRow_other _ _ _ _ (by omega)).trans hA.row
  have hk := hB.row (c' := u32s Sh.K)
  refine ⟨⟨hv.below hb2 hv.lt, hk.below hb2 hk.lt, b0.trans (hb2.mono b0.size)⟩, Nat.lt_of_lt_of_le hk.lt hb2.size⟩

/-- .. and a block's words, as far as they are made. -/
structure RW (v : Sh.V8) (w : World) (V G : Nat) (m : List Nat) (wr : World) : Prop where
  rs : RS v w V wr
  g : Blk wr G 76 (u32s m)
  hV : V + 1 < G
  hw : w.heap.size ≤ V

theorem RW.drew {v : Sh.V8} {w : World} {V G : Nat} {m : List Nat} {wr : World} (h : RW v w V G m wr) : RW v w V G m wr.drew := ⟨⟨h.rs.v, h.rs.k, h.rs.bel.drew⟩, h.g, h.hV, h.hw⟩
theorem RW.drewN {v : Sh.V8} {w : World} {V G : Nat} {m : List Nat} {wr : World} (h : RW v w V G m wr) : ∀ n, RW v w V G m (wr.drewN n)
  | 0 => h
  | n + 1 => (RW.drewN h n).drew
theorem RW.put {v : Sh.V8} {w : World} {V G : Nat} {m : List Nat} {wr : World} (h : RW v w V G m wr) (i x : Nat) : RW v w V G (m.set i x) (wr.setCell ⟨G, i, none⟩ (.int .u32 (x : Int))) := by
  have hV := h.hV
  have hw := h.hw
  refine ⟨⟨h.rs.v.other (by simp; omega) _, h.rs.k.other (by simp; omega) _, h.rs.bel.setCell (by simp; omega) _⟩, ?_, hV, hw⟩
  have := h.g.set i (.int .u32 (x : Int))
  rw [u32s_set] at this
  exact this
theorem RW.first {v : Sh.V8} {w : World} {V : Nat} {wr : World} (h : RS v w V wr) (hV : V + 1 < wr.heap.size) (hw : w.heap.size ≤ V) (b : List Nat) : RW v w V wr.heap.size (mem (wpre b 0)) (wr.alloc (.cells (u32s (List.replicate 64 0)) 76)) :=
  ⟨⟨h.v.alloc _, h.k.alloc _, h.bel.alloc (by omega) _⟩, Blk.new _ _ _, hV, hw⟩

set_option maxHeartbeats 3200000 in
set_option maxRecDepth 100000 in
theorem refSum_any (s : ByteArray) (w : World) (hs : s.size ≤ 90000) :
    Calls Tryd.prog 32 #[.string s] w fun e w' => e = .returned (.string (strOf (Sh.sha (bytes s)))) ∧ Below w.heap.size w w' := by
  have k8 := table_any w
  obtain ⟨P, hP⟩ : ∃ P, P = Sh.padded (bytes s) := ⟨_, rfl⟩
  have k19 : Aside (∀ u, Calls Tryd.prog 57 #[.string s] u fun e w' => e = .returned (.string (strOf P)) ∧ Below u.heap.size u w') := fun u => by
    rw [hP]
    exact padded_any s u (by omega)
  obtain ⟨q, hq⟩ : ∃ q, q = (s.size + 72) / 64 := ⟨_, rfl⟩
  have hPl : P.length = 64 * q := by rw [hP, Sh.padded_len, bytes_len, hq]
  have hPb : ∀ x ∈ P, x < 256 := by
    intro x hx
    rw [hP] at hx
    simp only [Sh.padded, List.mem_append, List.mem_singleton, List.mem_replicate, Sh.be, List.mem_map] at hx
    rcases hx with ((hx | hx) | hx) | ⟨j, _, hx⟩
    · exact bytes_lt s x hx
    · omega
    · omega
    · rw [← hx]
      exact Nat.mod_lt _ (by decide)
  have hres : Sh.dig (Sh.cm P q) = Sh.sha (bytes s) := by
    unfold Sh.sha
    rw [hP, hq, bytes_len]
  have hq2 : 64 * q ≤ 100000 := by omega
  have HR : Aside (Sh.dig (Sh.cm P q) = Sh.sha (bytes s)) := hres
  have HP : Aside (P.length = 64 * q ∧ ∀ x ∈ P, x < 256) := ⟨hPl, hPb⟩
  obtain ⟨t, ht⟩ : ∃ t, t = strOf P := ⟨_, rfl⟩
  have hts : t.size = 64 * q := by rw [ht, ← hPl]; show ((P.map UInt8.ofNat).toArray).size = _; simp
  have hta : ∀ (i : Nat) (hi : i < t.size), t[i].toNat = P.getD i 0 := by
    intro i hi
    subst ht
    exact strOf_at P hPb i hi
  rw [← ht] at k19
  have HA : Aside (∀ (i : Nat) (hi : i < t.size), t[i].toNat = P.getD i 0) := hta
  clear hP hq hPl hPb hres ht hta
  go_enter Tryd.func32, Tryd.ntmps32
  go_wp2_with (first
    | (go_at_call 56; refine k8.mono ?_; rintro e w1 ⟨rfl, hb1⟩; have hA : Blk ((w1.alloc (.cells (vals Sh.zeroV) 75)).alloc (.cells (u32s (List.replicate 64 0)) 76)) w1.heap.size 75 (vals Sh.zeroV) := (Blk.new w1 75 (vals Sh.zeroV)).alloc _)
    | (refine wpList_store_row rfl 75 _ _ rfl _ _ rfl rfl 75 _ hA sz24 rfl (eight_one ..) ?_)
    | (refine wpList_store_row rfl 76 _ _ rfl _ _ rfl rfl 76 _ ((setRow_other _ _ _ _ (by omega)).trans (show Blk _ (w1.heap.size + 1) 76 (u32s (List.replicate 64 0)) from by have := Blk.new (w1.alloc (.cells (vals Sh.zeroV) 75)) 76 (u32s (List.replicate 64 0)); rw [size_alloc] at this; exact this)) (by exact sz25) rfl (u32s_one _) ?_)
    | (go_at_call 57; refine (k19.out _).mono ?_; rintro e w2 ⟨rfl, hb2⟩))
  obtain ⟨hR, hV⟩ := RS.first w w1 w2 hb1 hb2
  have hw := hb1.size
  have HB : Aside (RS (Sh.cm P 0) w w1.heap.size w2 ∧ w1.heap.size + 1 < w2.heap.size) := ⟨hR, hV⟩
  have HW : Aside (w.heap.size ≤ w1.heap.size) := hw
  have HT : Aside (t.size = 64 * q) := hts
  generalize w1.heap.size = V at HB HW ⊢
  clear hb1 hb2 hA hR hV hw hts k8 k19
  have htl : t.size ≤ 100000 := by rw [HT.out]; exact hq2
  clear hq2
  go_loopg [6] q (fun gh s6 wr => ∃ m A : Nat, q - m ≤ gh ∧ m ≤ q ∧ A = 64 * m ∧ s6 = .int .i64 (A : Int) ∧ RS (Sh.cm P m) w V wr ∧ V + 1 < wr.heap.size)
  case atStart => exact ⟨0, 0, by omega, by omega, rfl, rfl, HB.out⟩
  case round =>
    clear HB
    obtain ⟨m, A, hgh, hm, hA, rfl, h1, h2⟩ := hrel
    by_cases hlt : m < q
    · have d1 : decide (A < t.size) = true := by rw [HT.out]; simp; omega
      have hAt : A + 64 ≤ t.size := by rw [HT.out]; omega
      obtain ⟨b, hb⟩ : ∃ b, b = chunk P m := ⟨_, rfl⟩
      have hcb : ∀ i, i < 64 → b.getD i 0 = P.getD (A + i) 0 := fun i hi => by rw [hb, hA]; exact chunk_at P m i hi
      have hbl : ∀ x ∈ b, x < 256 := by rw [hb]; exact chunk_lt P HP.out.2 m
      have HM : Aside (A = 64 * m ∧ b = chunk P m ∧ RW (Sh.cm P m) w V wr.heap.size (mem (wpre b 0)) (wr.alloc (.cells (u32s (List.replicate 64 0)) 76))) := ⟨hA, hb, RW.first h1 h2 HW.out b⟩
      have HC : Aside ((∀ i, i < 64 → b.getD i 0 = P.getD (A + i) 0) ∧ ∀ x ∈ b, x < 256) := ⟨hcb, hbl⟩
      clear hb hA h1 h2 hcb hbl
      go_wp2
      have HX : Aside (RW (Sh.cm P m) w V wr.heap.size (mem (wpre b 0)) (wr.alloc (.cells (u32s (List.replicate 64 0)) 76))) := HM.out.2.2
      have HM2 : Aside (A = 64 * m ∧ b = chunk P m) := ⟨HM.out.1, HM.out.2.1⟩
      clear HM d1
      change Code.wp _ _ _ _ (wr.alloc (.cells (u32s (List.replicate 64 0)) 76))
      generalize wr.alloc (.cells (u32s (List.replicate 64 0)) 76) = wz at HX ⊢
      generalize wr.heap.size = G at HX ⊢
      go_loopg [8] 64 (fun gh s8 wr2 => ∃ i : Nat, 64 - i ≤ gh ∧ i ≤ 64 ∧ s8 = .int .i64 (i : Int) ∧ RW (Sh.cm P m) w V G (mem (wpre b i)) wr2)
      case atStart => exact ⟨0, by omega, by omega, rfl, HX.out⟩
      case round =>
        clear HX
        obtain ⟨i, hgh2, hi, rfl, hX⟩ := hrel
        by_cases hi64 : i < 64
        · have d2 : decide ((i : Int) < 64) = true := by simp; omega
          by_cases hi16 : i < 16
          · have d3 : decide ((i : Int) < 16) = true := by simp; omega
            have HY : Aside (RW (Sh.cm P m) w V G (mid b i 0) wr) := by
              rw [mid_zero b i hi64]
              exact hX
            clear hX
            go_wp2
            go_loopg [9] 4 (fun gh s9 wr3 => ∃ j : Nat, 4 - j ≤ gh ∧ j ≤ 4 ∧ s9 = .int .i64 (j : Int) ∧ RW (Sh.cm P m) w V G (mid b i j) wr3)
            case atStart => exact ⟨0, by omega, by omega, rfl, HY.out⟩
            case round =>
              clear HY
              obtain ⟨j, hgh3, hj, rfl, hX⟩ := hrel
              by_cases hj4 : j < 4
              · have d4 : decide ((j : Int) < 4) = true := by simp; omega
                have hidx : A + 4 * i + j < t.size := by omega
                obtain ⟨x, hx⟩ : ∃ x, t[A + 4 * i + j].toNat = x := ⟨_, rfl⟩
                have hxb : x = b.getD (4 * i + j) 0 := by rw [← hx, HA.out _ hidx, HC.out.1 _ (by omega), Nat.add_assoc]
                have hxl : x < 256 := by rw [hxb]; exact getD_lt HC.out.2 (by decide) _
                obtain ⟨y, hy⟩ : ∃ y, y = pw b i j := ⟨_, rfl⟩
                have hyl : y < 16777216 := by
                  have h1 := pw_lt b HC.out.2 i j
                  have h2 : (256 : Nat) ^ j ≤ 256 ^ 3 := Nat.pow_le_pow_right (by decide) (by omega)
                  rw [hy]
                  omega
                have cw := hX.g.cell (u32s_at (mid b i j) i (by rw [mid_len b i j (by omega)]; omega))
                rw [mid_at b i j hi64, ← hy] at cw
                have fw := hX.g.frozen i
                have hix := index_str t (A + 4 * i + j) hidx ((A : Int) + 4 * (i : Int) + (j : Int)) (by omega)
                rw [hx] at hix
                have N : Aside (RW (Sh.cm P m) w V G (mid b i (j + 1)) (wr.setCell ⟨G, i, none⟩ (.int .u32 ((y : Int) * 256 + (x : Int))))) := by
                  show RW _ _ _ _ _ _
                  have h1 := hX.put i (y * 256 + x)
                  rw [mid_set b i j (y * 256 + x) (by rw [hy, hxb]; rfl)] at h1
                  simpa using h1
                clear hX hxb hy
                go_wp2_with fail
                go_region
                go_wp2
                go_roundg (4 - (j + 1))
                case measure => omega
                case rel => exact ⟨j + 1, Nat.le_refl _, by omega, by go_num, N.out.drew⟩
              · obtain rfl : j = 4 := by omega
                have HZ : Aside (RW (Sh.cm P m) w V G (mem (wpre b (i + 1))) wr) := by
                  rw [← mid_four b i hi16]
                  exact hX
                clear hX
                go_wp2
                go_roundg (64 - (i + 1))
                case measure => omega
                case rel => exact ⟨i + 1, Nat.le_refl _, by omega, by go_num, HZ.out⟩
          · have d3 : decide ((i : Int) < 16) = false := by simp; omega
            have hlen := wpre_len b i (by omega)
            obtain ⟨W, hW⟩ : ∃ W, W = wpre b i := ⟨_, rfl⟩
            have hWl : ∀ x ∈ W, x < 4294967296 := fun x hx => ws_lt b HC.out.2 48 x (by rw [hW] at hx; exact List.mem_of_mem_take hx)
            rw [← hW] at hlen hX
            obtain ⟨x16, hx16⟩ : ∃ x, x = W.getD (i - 16) 0 := ⟨_, rfl⟩
            obtain ⟨x15, hx15⟩ : ∃ x, x = W.getD (i - 15) 0 := ⟨_, rfl⟩
            obtain ⟨x7, hx7⟩ : ∃ x, x = W.getD (i - 7) 0 := ⟨_, rfl⟩
            obtain ⟨x2, hx2⟩ : ∃ x, x = W.getD (i - 2) 0 := ⟨_, rfl⟩
            have hml : (mem W).length = 64 := mem_len W (by omega)
            have F : Aside (∀ u, RW (Sh.cm P m) w V G (mem W) u → u.cell? ⟨G, i - 16, none⟩ = some (.int .u32 (x16 : Int)) ∧ u.cell? ⟨G, i - 15, none⟩ = some (.int .u32 (x15 : Int)) ∧ u.cell? ⟨G, i - 7, none⟩ = some (.int .u32 (x7 : Int)) ∧ u.cell? ⟨G, i - 2, none⟩ = some (.int .u32 (x2 : Int)) ∧ u.cell? ⟨G, i, none⟩ = some (.int .u32 (((mem W).getD i 0 : Nat) : Int)) ∧ u.frozen? ⟨G, i, none⟩ = false) := fun u hu => by
              have c16 := hu.g.cell (u32s_at (mem W) (i - 16) (by omega))
              have c15 := hu.g.cell (u32s_at (mem W) (i - 15) (by omega))
              have c7 := hu.g.cell (u32s_at (mem W) (i - 7) (by omega))
              have c2 := hu.g.cell (u32s_at (mem W) (i - 2) (by omega))
              rw [mem_at W _ (by omega), ← hx16] at c16
              rw [mem_at W _ (by omega), ← hx15] at c15
              rw [mem_at W _ (by omega), ← hx7] at c7
              rw [mem_at W _ (by omega), ← hx2] at c2
              exact ⟨c16, c15, c7, c2, hu.g.cell (u32s_at (mem W) i (by omega)), hu.g.frozen i⟩
            have l15 : x15 < 4294967296 := by rw [hx15]; exact getD_lt hWl (by decide) _
            have l2 : x2 < 4294967296 := by rw [hx2]; exact getD_lt hWl (by decide) _
            have s0 := ss0_is x15 l15
            have s1 := ss1_is x2 l2
            have r7 : Aside (∀ u, Calls Tryd.prog 58 #[.int .u32 (x15 : Int), .int .i64 7] u fun e w' => e = .returned (.int .u32 (Sh.rr x15 7 : Nat)) ∧ ∃ n, w' = u.drewN n) := fun u => (rref_any x15 7 u l15 (by decide) (by decide)).mono fun _ _ h => ⟨h.1, 1, h.2⟩
            have r18 : Aside (∀ u, Calls Tryd.prog 58 #[.int .u32 (x15 : Int), .int .i64 18] u fun e w' => e = .returned (.int .u32 (Sh.rr x15 18 : Nat)) ∧ ∃ n, w' = u.drewN n) := fun u => (rref_any x15 18 u l15 (by decide) (by decide)).mono fun _ _ h => ⟨h.1, 1, h.2⟩
            have r17 : Aside (∀ u, Calls Tryd.prog 58 #[.int .u32 (x2 : Int), .int .i64 17] u fun e w' => e = .returned (.int .u32 (Sh.rr x2 17 : Nat)) ∧ ∃ n, w' = u.drewN n) := fun u => (rref_any x2 17 u l2 (by decide) (by decide)).mono fun _ _ h => ⟨h.1, 1, h.2⟩
            have r19 : Aside (∀ u, Calls Tryd.prog 58 #[.int .u32 (x2 : Int), .int .i64 19] u fun e w' => e = .returned (.int .u32 (Sh.rr x2 19 : Nat)) ∧ ∃ n, w' = u.drewN n) := fun u => (rref_any x2 19 u l2 (by decide) (by decide)).mono fun _ _ h => ⟨h.1, 1, h.2⟩
            have N : Aside (∀ u, RW (Sh.cm P m) w V G (mem W) u → RW (Sh.cm P m) w V G (mem (wpre b (i + 1))) (u.setCell ⟨G, i, none⟩ (.int .u32 (((x16 : Int) + (Sh.ss0 x15 : Nat) + (x7 : Int) + (Sh.ss1 x2 : Nat)) % 4294967296)))) := fun u hu => by
              rw [show ((x16 : Int) + (Sh.ss0 x15 : Nat) + (x7 : Int) + (Sh.ss1 x2 : Nat)) % 4294967296 = (((x16 + Sh.ss0 x15 + x7 + Sh.ss1 x2) % 4294967296 : Nat) : Int) by simp]
              have h1 := hu.put i ((x16 + Sh.ss0 x15 + x7 + Sh.ss1 x2) % 4294967296)
              have h2 := wpre_next b i (by omega) hi64
              rw [← hW, ← hx16, ← hx15, ← hx7, ← hx2] at h2
              rw [h2] at h1
              exact h1
            have HXX : Aside (RW (Sh.cm P m) w V G (mem W) wr) := hX
            have h16 : 16 ≤ i := by omega
            clear hX hx16 hx15 hx7 hx2 hW hWl hlen hml
            have c15 := (F.out _ HXX.out).2.1
            go_wp2_with fail
            go_quiet (first
              | (go_at_call_of 58 (Value.int IntKind.i64 7); exact Calls.quiet_of (r7.out _))
              | (go_at_call_of 58 (Value.int IntKind.i64 18); exact Calls.quiet_of (r18.out _)))
            go_wp2_with fail
            have HQ : Aside (RW (Sh.cm P m) w V G (mem W) (wr.drewN nq)) := HXX.out.drewN nq
            generalize wr.drewN nq = wq at HQ ⊢
            clear c15 r7 r18 s0 HXX
            have c2 := (F.out _ HQ.out).2.2.2.1
            go_quiet (first
              | (go_at_call_of 58 (Value.int IntKind.i64 17); exact Calls.quiet_of (r17.out _))
              | (go_at_call_of 58 (Value.int IntKind.i64 19); exact Calls.quiet_of (r19.out _)))
            go_wp2_with fail
            have HQ2 : Aside (RW (Sh.cm P m) w V G (mem W) (wq.drewN nq)) := HQ.out.drewN nq
            generalize wq.drewN nq = wp at HQ2 ⊢
            clear c2 r17 r19 s1 HQ
            obtain ⟨c16, -, c7, -, cw, fw⟩ := F.out _ HQ2.out
            clear F
            go_region
            go_wp2
            go_roundg (64 - (i + 1))
            case measure => omega
            case rel => exact ⟨i + 1, Nat.le_refl _, by omega, by go_num, (N.out _ HQ2.out).drew⟩
        · obtain rfl : i = 64 := by omega
          have HX2 : Aside (RW (Sh.cm P m) w V G (Sh.ws b 48) wr) := by
            rw [wpre_all] at hX
            have e : mem (Sh.ws b 48) = Sh.ws b 48 := by
              unfold mem
              rw [Sh.ws_len]
              simp
            rw [e] at hX
            exact hX
          have hvok := Sh.cm_ok P m
          obtain ⟨v, hv⟩ : ∃ v, v = Sh.cm P m := ⟨_, rfl⟩
          rw [← hv] at HX2 hvok
          have HV : Aside (v = Sh.cm P m ∧ v.Ok) := ⟨hv, hvok⟩
          have c0 := HX2.out.rs.v.cell (i := 0) (v := .int .u32 (v.a : Int)) rfl
          have c1 := HX2.out.rs.v.cell (i := 1) (v := .int .u32 (v.b : Int)) rfl
          have c2 := HX2.out.rs.v.cell (i := 2) (v := .int .u32 (v.c : Int)) rfl
          have c3 := HX2.out.rs.v.cell (i := 3) (v := .int .u32 (v.d : Int)) rfl
          have c4 := HX2.out.rs.v.cell (i := 4) (v := .int .u32 (v.e : Int)) rfl
          have c5 := HX2.out.rs.v.cell (i := 5) (v := .int .u32 (v.f : Int)) rfl
          have c6 := HX2.out.rs.v.cell (i := 6) (v := .int .u32 (v.g : Int)) rfl
          have c7 := HX2.out.rs.v.cell (i := 7) (v := .int .u32 (v.h : Int)) rfl
          clear hX hv hvok
          go_wp2_with fail
          go_quiet (fail)
          go_wp2_with fail
          clear c0 c1 c2 c3 c4 c5 c6 c7
          have HX3 : Aside (RW v w V G (Sh.ws b 48) (wr.drewN nq)) := HX2.out.drewN nq
          generalize wr.drewN nq = wy at HX3 ⊢
          clear HX2
          go_loopg [12, 13, 14, 15, 16, 17, 18, 19, 20] 64 (fun gh s6 s7 s8 s9 s10 s11 s12 s13 s35 wr => ∃ (k : Nat) (x : Sh.V8), 64 - k ≤ gh ∧ k ≤ 64 ∧ s6 = .int .u32 (x.a : Int) ∧ s7 = .int .u32 (x.b : Int) ∧ s8 = .int .u32 (x.c : Int) ∧ s9 = .int .u32 (x.d : Int) ∧ s10 = .int .u32 (x.e : Int) ∧ s11 = .int .u32 (x.f : Int) ∧ s12 = .int .u32 (x.g : Int) ∧ s13 = .int .u32 (x.h : Int) ∧ s35 = .int .i64 (k : Int) ∧ x.Ok ∧ x = Sh.rounds v (Sh.ws b 48) k ∧ RW v w V G (Sh.ws b 48) wr)
          case atStart => exact ⟨0, v, by omega, by omega, rfl, rfl, rfl, rfl, rfl, rfl, rfl, rfl, rfl, HV.out.2, rfl, HX3.out⟩
          case round =>
            clear HX3
            obtain ⟨k, ⟨xa, xb, xc, xd, xe, xf, xg, xh⟩, hgh4, hk, rfl, rfl, rfl, rfl, rfl, rfl, rfl, rfl, rfl, hok, hx, hX⟩ := hrel
            have HO : Aside (Sh.V8.Ok ⟨xa, xb, xc, xd, xe, xf, xg, xh⟩ ∧ ⟨xa, xb, xc, xd, xe, xf, xg, xh⟩ = Sh.rounds v (Sh.ws b 48) k ∧ RW v w V G (Sh.ws b 48) wr) := ⟨hok, hx, hX⟩
            obtain ⟨la, lb, lc, ld, le, lf, lg, lh⟩ := hok
            simp only at la lb lc ld le lf lg lh
            clear hx
            by_cases hlt4 : k < 64
            · have d5 : decide ((k : Int) < 64) = true := by simp; omega
              obtain ⟨kk, hkk⟩ : ∃ x, x = Sh.K.getD k 0 := ⟨_, rfl⟩
              obtain ⟨ww, hww⟩ : ∃ x, x = (Sh.ws b 48).getD k 0 := ⟨_, rfl⟩
              have c1 := hX.rs.k.cell (u32s_at Sh.K k (by rw [Sh.K_len]; exact hlt4))
              have c2 := hX.g.cell (u32s_at (Sh.ws b 48) k (by rw [Sh.ws_len]; omega))
              rw [← hkk] at c1
              rw [← hww] at c2
              have KW : Aside (kk = Sh.K.getD k 0 ∧ ww = (Sh.ws b 48).getD k 0) := ⟨hkk, hww⟩
              clear hkk hww hX
              have r6 : Aside (∀ u, Calls Tryd.prog 58 #[.int .u32 (xe : Int), .int .i64 6] u fun e' w' => e' = .returned (.int .u32 (Sh.rr xe 6 : Nat)) ∧ ∃ n, w' = u.drewN n) := fun u => (rref_any xe 6 u le (by decide) (by decide)).mono fun _ _ h => ⟨h.1, 1, h.2⟩
              have r11 : Aside (∀ u, Calls Tryd.prog 58 #[.int .u32 (xe : Int), .int .i64 11] u fun e' w' => e' = .returned (.int .u32 (Sh.rr xe 11 : Nat)) ∧ ∃ n, w' = u.drewN n) := fun u => (rref_any xe 11 u le (by decide) (by decide)).mono fun _ _ h => ⟨h.1, 1, h.2⟩
              have r25 : Aside (∀ u, Calls Tryd.prog 58 #[.int .u32 (xe : Int), .int .i64 25] u fun e' w' => e' = .returned (.int .u32 (Sh.rr xe 25 : Nat)) ∧ ∃ n, w' = u.drewN n) := fun u => (rref_any xe 25 u le (by decide) (by decide)).mono fun _ _ h => ⟨h.1, 1, h.2⟩
              have r2 : Aside (∀ u, RW v w V G (Sh.ws b 48) u → Calls Tryd.prog 58 #[.int .u32 (xa : Int), .int .i64 2] u fun e' w' => e' = .returned (.int .u32 (Sh.rr xa 2 : Nat)) ∧ RW v w V G (Sh.ws b 48) w') := fun u hu => (rref_any xa 2 u la (by decide) (by decide)).mono fun _ _ h => ⟨h.1, by rw [h.2]; exact hu.drew⟩
              have r13 : Aside (∀ u, RW v w V G (Sh.ws b 48) u → Calls Tryd.prog 58 #[.int .u32 (xa : Int), .int .i64 13] u fun e' w' => e' = .returned (.int .u32 (Sh.rr xa 13 : Nat)) ∧ RW v w V G (Sh.ws b 48) w') := fun u hu => (rref_any xa 13 u la (by decide) (by decide)).mono fun _ _ h => ⟨h.1, by rw [h.2]; exact hu.drew⟩
              have r22 : Aside (∀ u, RW v w V G (Sh.ws b 48) u → Calls Tryd.prog 58 #[.int .u32 (xa : Int), .int .i64 22] u fun e' w' => e' = .returned (.int .u32 (Sh.rr xa 22 : Nat)) ∧ RW v w V G (Sh.ws b 48) w') := fun u hu => (rref_any xa 22 u la (by decide) (by decide)).mono fun _ _ h => ⟨h.1, by rw [h.2]; exact hu.drew⟩
              have e1 := bs1_is xe le
              have e0 := bs0_is xa la
              obtain ⟨ne, p1, q1, cc, n1, n2, n3, n4, hcc⟩ := ch_steps xe xf xg le lf lg
              obtain ⟨p2, q2, r2', mm, m1, m2, m3, m4, hmm⟩ := maj_steps xa xb xc la lb lc
              have n1' : bits BinOp.xor IntKind.u32 (if IntKind.u32.signed = true then -1 else IntKind.u32.max) (xe : Int) = (ne : Int) := n1
              have CM : Aside (cc = Sh.ch xe xf xg ∧ mm = Sh.maj xa xb xc) := ⟨hcc, hmm⟩
              clear hcc hmm la lb lc ld le lf lg lh
              go_wp2_with fail
              go_quiet (first
                | (go_at_call_of 58 (Value.int IntKind.i64 6); exact Calls.quiet_of (r6.out _))
                | (go_at_call_of 58 (Value.int IntKind.i64 11); exact Calls.quiet_of (r11.out _))
                | (go_at_call_of 58 (Value.int IntKind.i64 25); exact Calls.quiet_of (r25.out _)))
              clear e1 n1 n2 n3 n4 n1' r6 r11 r25 c1 c2
              have NX : Aside (∃ t u : Nat, ((((xh : Int) + (Sh.bs1 xe : Nat) + (cc : Int) + (kk : Int)) % 4294967296 + (ww : Int)) % 4294967296 = (t : Int)) ∧ ((Sh.bs0 xa : Nat) + (mm : Int)) % 4294967296 = (u : Int) ∧
                  Sh.V8.Ok ⟨(t + u) % 4294967296, xa, xb, xc, (xd + t) % 4294967296, xe, xf, xg⟩ ∧ (⟨(t + u) % 4294967296, xa, xb, xc, (xd + t) % 4294967296, xe, xf, xg⟩ : Sh.V8) = Sh.rounds v (Sh.ws b 48) (k + 1)) := by
                obtain ⟨h1, h2, -⟩ := HO.out
                obtain ⟨h3, h4⟩ := KW.out
                obtain ⟨h5, h6⟩ := CM.out
                refine ⟨Sh.tOf ⟨xa, xb, xc, xd, xe, xf, xg, xh⟩ kk ww, Sh.uOf ⟨xa, xb, xc, xd, xe, xf, xg, xh⟩, ?_, ?_, ?_, ?_⟩
                · rw [h5]
                  simp [Sh.tOf]
                · rw [h6]
                  simp [Sh.uOf]
                · exact Sh.rnd_ok h1 kk ww
                · show Sh.rnd _ kk ww = Sh.rnd _ _ _
                  rw [h2, h3, h4]
              obtain ⟨t1, u1, ht, hu, hok2, hnx⟩ := NX.out
              rw [ht]
              have HN : Aside (Sh.V8.Ok ⟨(t1 + u1) % 4294967296, xa, xb, xc, (xd + t1) % 4294967296, xe, xf, xg⟩ ∧ (⟨(t1 + u1) % 4294967296, xa, xb, xc, (xd + t1) % 4294967296, xe, xf, xg⟩ : Sh.V8) = Sh.rounds v (Sh.ws b 48) (k + 1)) := ⟨hok2, hnx⟩
              have HQ : Aside (RW v w V G (Sh.ws b 48) (wr.drewN nq)) := HO.out.2.2.drewN nq
              generalize wr.drewN nq = wq at HQ ⊢
              clear ht hok2 hnx NX KW CM HO
              go_wp2_with (first
                | (go_at_call_of 58 (Value.int IntKind.i64 2); refine (r2.out _ HQ.out).mono ?_; rintro e' w1 ⟨rfl, g1⟩; have G1 : Aside (RW v w V G (Sh.ws b 48) w1) := g1; clear g1)
                | (go_at_call_of 58 (Value.int IntKind.i64 13); refine (r13.out _ G1.out).mono ?_; rintro e' w2 ⟨rfl, g1⟩; have G2 : Aside (RW v w V G (Sh.ws b 48) w2) := g1; clear g1)
                | (go_at_call_of 58 (Value.int IntKind.i64 22); refine (r22.out _ G2.out).mono ?_; rintro e' w3 ⟨rfl, g1⟩; have G3 : Aside (RW v w V G (Sh.ws b 48) w3) := g1; clear g1))
              go_roundg (64 - (k + 1))
              case measure => omega
              case rel =>
                obtain ⟨z1, z2⟩ := HN.out
                exact ⟨k + 1, _, Nat.le_refl _, by omega, by simp, rfl, rfl, rfl, by simp, rfl, rfl, rfl, by go_num, z1, z2, G3.out⟩
            · obtain rfl : k = 64 := by omega
              clear la lb lc ld le lf lg lh
              have c0 := hX.rs.v.cell (i := 0) (v := .int .u32 (v.a : Int)) rfl
              have c1 := hX.rs.v.cell (i := 1) (v := .int .u32 (v.b : Int)) rfl
              have c2 := hX.rs.v.cell (i := 2) (v := .int .u32 (v.c : Int)) rfl
              have c3 := hX.rs.v.cell (i := 3) (v := .int .u32 (v.d : Int)) rfl
              have c4 := hX.rs.v.cell (i := 4) (v := .int .u32 (v.e : Int)) rfl
              have c5 := hX.rs.v.cell (i := 5) (v := .int .u32 (v.f : Int)) rfl
              have c6 := hX.rs.v.cell (i := 6) (v := .int .u32 (v.g : Int)) rfl
              have c7 := hX.rs.v.cell (i := 7) (v := .int .u32 (v.h : Int)) rfl
              have hC := hX.rs.v
              have HE : Aside (#[Value.int .u32 (((v.a : Int) + (xa : Int)) % 4294967296), Value.int .u32 (((v.b : Int) + (xb : Int)) % 4294967296), Value.int .u32 (((v.c : Int) + (xc : Int)) % 4294967296), Value.int .u32 (((v.d : Int) + (xd : Int)) % 4294967296),
                  Value.int .u32 (((v.e : Int) + (xe : Int)) % 4294967296), Value.int .u32 (((v.f : Int) + (xf : Int)) % 4294967296), Value.int .u32 (((v.g : Int) + (xg : Int)) % 4294967296), Value.int .u32 (((v.h : Int) + (xh : Int)) % 4294967296)] = vals (Sh.cm P (m + 1))) := by
                obtain ⟨-, h2, -⟩ := HO.out
                obtain ⟨h3, -⟩ := HV.out
                obtain ⟨h4, h5⟩ := HM2.out
                show _ = vals (Sh.mix (Sh.cm P m) (chunk P m))
                rw [← h3, ← h5]
                unfold Sh.mix
                rw [← h2]
                simp [vals, Sh.addV]
              have HF : Aside (RW v w V G (Sh.ws b 48) wr) := hX
              clear hX
              go_wp2_with (refine wpList_store_row rfl 75 _ _ rfl _ _ rfl rfl 75 _ hC (by exact sz24) (by rfl) (eight_one ..) ?_)
              rw [HE.out]
              have HG : Aside (RS (Sh.cm P (m + 1)) w V (wr.setRow V (vals (Sh.cm P (m + 1)))) ∧ V + 1 < (wr.setRow V (vals (Sh.cm P (m + 1)))).heap.size) := by
                have h1 := HF.out
                refine ⟨⟨h1.rs.v.row, (setRow_other _ _ _ _ (by omega)).trans h1.rs.k, below_row h1.rs.bel h1.hw _⟩, ?_⟩
                rw [size_setRow]
                exact h1.rs.k.lt
              generalize wr.setRow V (vals (Sh.cm P (m + 1))) = wf at HG ⊢
              go_roundg (q - (m + 1))
              case measure => omega
              case rel =>
                have h4 := HM2.out.1
                exact ⟨m + 1, A + 64, Nat.le_refl _, by omega, by omega, by simp, HG.out⟩
    · obtain rfl : m = q := by omega
      have d1 : decide (A < t.size) = false := by rw [HT.out]; simp; omega
      obtain ⟨v, hv⟩ : ∃ v, v = Sh.cm P m := ⟨_, rfl⟩
      rw [← hv] at h1
      have HV : Aside (v = Sh.cm P m ∧ v.Ok ∧ RS v w V wr) := ⟨hv, by rw [hv]; exact Sh.cm_ok P m, h1⟩
      clear h1 hv hA
      go_wp2
      go_loopg [23, 24] 8 (fun gh s23 s24 wr => ∃ k : Nat, 8 - k ≤ gh ∧ k ≤ 8 ∧ s23 = .string (strOf (digN v k)) ∧ s24 = .int .i64 (k : Int) ∧ RS v w V wr)
      case atStart => exact ⟨0, by omega, by omega, rfl, rfl, HV.out.2.2⟩
      case round =>
        obtain ⟨k, hgh5, hk, rfl, rfl, hX⟩ := hrel
        by_cases hk8 : k < 8
        · have d6 : decide ((k : Int) < 8) = true := by simp; omega
          obtain ⟨x, hx⟩ : ∃ x, x = wd v k := ⟨_, rfl⟩
          have cx : wr.cell? ⟨V, k, none⟩ = some (.int .u32 (x : Int)) := hX.v.cell (by rw [hx]; exact vals_at v k hk8)
          have hxl : x < 4294967296 := by rw [hx]; exact wd_lt HV.out.2.1 k hk8
          obtain ⟨D, hD⟩ : ∃ D, D = strOf (digN v k) := ⟨_, rfl⟩
          have hDs : D.size ≤ 32 := by rw [hD]; show ((digN v k).map UInt8.ofNat).toArray.size ≤ 32; simp [digN_len v k hk]; omega
          have HD : Aside (D = strOf (digN v k) ∧ x = wd v k ∧ RS v w V wr) := ⟨hD, hx, hX⟩
          rw [← hD]
          clear hx hD hX
          have hcv : (convert 41 9 (.slice (some ⟨wr.heap.size, 0, none⟩) 4 4)).run Tryd.prog ((wr.alloc (.cells #[.int .u8 ((x : Int) / 16777216), .int .u8 ((x : Int) / 65536 % 256), .int .u8 ((x : Int) / 256 % 256), .int .u8 ((x : Int) % 256)] 5)).drew) = .ok (.string (strOf (Sh.wordB x))) ((wr.alloc (.cells #[.int .u8 ((x : Int) / 16777216), .int .u8 ((x : Int) / 65536 % 256), .int .u8 ((x : Int) / 256 % 256), .int .u8 ((x : Int) % 256)] 5)).drew) := by
            have h1 := (World.ownsRow_lit (base := wr.heap.size) (e := 5) (size := 1) wr #[.int .u8 ((x : Int) / 16777216), .int .u8 ((x : Int) / 65536 % 256), .int .u8 ((x : Int) / 256 % 256), .int .u8 ((x : Int) % 256)] 4 (Nat.le_refl _) (by decide) rfl).drew
            have h2 : (#[Value.int .u8 ((x : Int) / 16777216), .int .u8 ((x : Int) / 65536 % 256), .int .u8 ((x : Int) / 256 % 256), .int .u8 ((x : Int) % 256)]).toList = nums (Sh.wordB x) := nums_wordB x hxl
            rw [h2] at h1
            exact conv_own wr.heap.size wr.heap.size 4 (Sh.wordB x) 4 _ rfl h1
          have hcv2 : (convert 41 9 (.slice (some ⟨wr.heap.size, 0, none⟩) 4 4)).run Tryd.prog (wr.drew.alloc (.cells #[.int .u8 ((x : Int) / 16777216), .int .u8 ((x : Int) / 65536 % 256), .int .u8 ((x : Int) / 256 % 256), .int .u8 ((x : Int) % 256)] 5)) = .ok (.string (strOf (Sh.wordB x))) (wr.drew.alloc (.cells #[.int .u8 ((x : Int) / 16777216), .int .u8 ((x : Int) / 65536 % 256), .int .u8 ((x : Int) / 256 % 256), .int .u8 ((x : Int) % 256)] 5)) := hcv
          have hVl : Aside (V < wr.heap.size) := block_lt_of_cell cx
          obtain ⟨Y, hY⟩ : ∃ Y, Y = strOf (Sh.wordB x) := ⟨_, rfl⟩
          obtain ⟨D2, hD2⟩ : ∃ D2, D ++ Y = D2 := ⟨_, rfl⟩
          rw [← hY] at hcv hcv2
          have hYs : Y.size ≤ 4 := by rw [hY]; exact Nat.le_refl _
          have HD2 : Aside (strOf (digN v (k + 1)) = D2) := by
            show _ = _
            rw [digN_succ v k hk8, strOf_append, ← HD.out.1, ← HD.out.2.1, ← hY]
            exact hD2
          have HR2 : Aside (RS v w V ((wr.alloc (.cells #[.int .u8 ((x : Int) / 16777216), .int .u8 ((x : Int) / 65536 % 256), .int .u8 ((x : Int) / 256 % 256), .int .u8 ((x : Int) % 256)] 5)).drew)) := by
            have h1 := HD.out.2.2
            exact ⟨h1.v.alloc _, h1.k.alloc _, (h1.bel.alloc h1.bel.size _).drew⟩
          clear hY
          go_wp2_with fail
          go_region
          clear hcv hcv2
          generalize (wr.alloc (.cells #[.int .u8 ((x : Int) / 16777216), .int .u8 ((x : Int) / 65536 % 256), .int .u8 ((x : Int) / 256 % 256), .int .u8 ((x : Int) % 256)] 5)).drew = wg at HR2 ⊢
          go_wp2
          go_roundg (8 - (k + 1))
          case measure => omega
          case rel => exact ⟨k + 1, Nat.le_refl _, by omega, by rw [HD2.out], by go_num, HR2.out⟩
        · obtain rfl : k = 8 := by omega
          have HB : Aside (Below w.heap.size w wr) := hX.bel
          have HE : Aside (digN v 8 = Sh.sha (bytes s)) := by
            show _ = _
            rw [digN_all, HV.out.1]
            exact HR.out
          clear hX
          go_wp2
          go_ret
          exact ⟨by rw [HE.out]; rfl, HB.out⟩
end Go.Proofs.YtkijglkjpgjdaaaDoor.Ha
