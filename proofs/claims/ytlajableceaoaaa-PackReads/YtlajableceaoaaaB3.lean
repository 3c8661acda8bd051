/-
  The walk of PackBack: whatever items are given, it answers true.
-/
import Derived.Test.YtlajableceaoaaaB2
import Derived.Test.YtlajableceaoaaaB4
import Derived.Deep.RegionWith
namespace Go.Proofs.Ytlajableceaoaaa
open Go.RowKit

/-- The items lie in memory. -/
def Items (w : World) (b off len : Nat) (kd : Nat → Nat) (nm : Nat → Int) (st : Nat → ByteArray) : Prop :=
  ∀ i, i < len → w.cell? ⟨b, off + i * 3, none⟩ = some (.int .u8 (kd i : Int)) ∧ w.cell? ⟨b, off + i * 3 + 1, none⟩ = some (.int .i64 (nm i)) ∧ w.cell? ⟨b, off + i * 3 + 2, none⟩ = some (.string (st i))

/-- What holds at each round's head of the first loop. -/
structure Rel1 (B pb len : Nat) (kd : Nat → Nat) (nm : Nat → Int) (st : Nat → ByteArray) (w wr : World) (k : Nat) : Prop where
  le : k ≤ len
  short : ∀ j, j < k → (st j).size ≤ 300
  at' : At wr pb 25 (pk (okk kd nm k) (cat kd nm st k)) (!okk kd nm k)
  bel : Below B w wr
  base : B ≤ wr.heap.size

theorem Upd.cell {c : Nat} {u v : World} (h : Upd c u v) {p : Addr} (hp : p.block < u.heap.size) (hc : p.block ≠ c) : v.cell? p = u.cell? p := World.cell?_of_block (w := u) (h.block p.block hp hc)

theorem step_num {kd : Nat → Nat} {nm : Nat → Int} {st : Nat → ByteArray} {k n : Nat} (h0 : kd k % 3 = 0) (hn : nm k = (n : Int)) (hb : n ≤ 4611686018427387904) :
    cat kd nm st (k + 1) = cat kd nm st k ++ Pk.numB n ∧ okk kd nm (k + 1) = okk kd nm k := by
  constructor
  · rw [cat, encI, if_pos h0, hn, if_pos (by omega), Int.toNat_natCast]
  · rw [okk, okI, hn, decide_eq_false (by omega)]
    simp
theorem step_out {kd : Nat → Nat} {nm : Nat → Int} {st : Nat → ByteArray} {k : Nat} (h0 : kd k % 3 = 0) (hn : nm k < 0 ∨ 4611686018427387904 < nm k) :
    cat kd nm st (k + 1) = cat kd nm st k ∧ okk kd nm (k + 1) = false := by
  constructor
  · rw [cat, encI, if_pos h0, if_neg (by omega), List.append_nil]
  · rw [okk, okI, decide_eq_true (by omega)]
    simp
theorem step_text {kd : Nat → Nat} {nm : Nat → Int} {st : Nat → ByteArray} {k : Nat} (h1 : kd k % 3 = 1) :
    cat kd nm st (k + 1) = cat kd nm st k ++ (Pk.numB (st k).size ++ (st k).data.toList) ∧ okk kd nm (k + 1) = okk kd nm k := by
  constructor
  · rw [cat, encI, if_neg (by omega), if_pos h1]
  · rw [okk, okI, decide_eq_false (by omega)]
    simp
theorem step_raw {kd : Nat → Nat} {nm : Nat → Int} {st : Nat → ByteArray} {k : Nat} (h2 : kd k % 3 = 2) :
    cat kd nm st (k + 1) = cat kd nm st k ++ (st k).data.toList ∧ okk kd nm (k + 1) = okk kd nm k := by
  constructor
  · rw [cat, encI, if_neg (by omega), if_neg (by omega)]
  · rw [okk, okI, decide_eq_false (by omega)]
    simp

theorem Rel1.next {B pb len : Nat} {kd : Nat → Nat} {nm : Nat → Int} {st : Nat → ByteArray} {w wr w' : World} {k : Nat} (h : Rel1 B pb len kd nm st w wr k) (hk : k < len) (hs : (st k).size ≤ 300)
    (ha : At w' pb 25 (pk (okk kd nm (k + 1)) (cat kd nm st (k + 1))) (!okk kd nm (k + 1))) (hb : Below B wr w') : Rel1 B pb len kd nm st w w' (k + 1) :=
  ⟨by omega, fun j hj => by rcases Nat.lt_succ_iff_lt_or_eq.1 hj with h1 | h1
                            · exact h.short j h1
                            · rw [h1]; exact hs, ha, h.bel.trans hb, Nat.le_trans h.base hb.size⟩

theorem chain1 {B pb : Nat} {wr w2 : World} {o : Obj} (h : B ≤ wr.heap.size) (hp : B ≤ pb) (hu : Upd pb (wr.alloc o) w2) : Below B wr w2 :=
  ((Below.refl B wr).alloc h o).trans (hu.below hp (by simp; omega))
theorem chain2 {B pb : Nat} {wr w2 w3 : World} {o : Obj} (h : B ≤ wr.heap.size) (hp : B ≤ pb) (hu : Upd pb (wr.alloc o) w2) (hb : Below w2.heap.size w2 w3) : Below B wr w3 :=
  (chain1 h hp hu).trans (hb.mono (Nat.le_trans h (chain1 h hp hu).size))

theorem chain3 {ob : Nat} {w wr u : World} {o : Obj} (h : Below w.heap.size w wr) (hp : w.heap.size ≤ ob) (hu : Upd ob ((wr.alloc o).drew) u) : Below w.heap.size w u :=
  ((h.alloc h.size o).drew).trans (hu.below hp (by have := h.size; show _ ≤ (wr.alloc o).heap.size; simp; omega))

set_option maxHeartbeats 4000000 in
set_option maxRecDepth 1000000 in
theorem back_some (b off len cap : Nat) (kd : Nat → Nat) (nm : Nat → Int) (st : Nat → ByteArray) (w : World) (hit : Items w b off len kd nm st) (hkd : ∀ i, kd i < 256) (hb : b < w.heap.size) (hlen : len ≤ 40) :
    Calls Try.prog 3 #[.slice (some ⟨b, off, none⟩) len cap] w fun e w' => e = .returned (.bool true) ∧ Below w.heap.size w w' := by
  have k0 := awake_any w
  have HI := (show Aside _ from And.intro hit (And.intro hkd hb))
  clear hit hkd hb
  go_enter Try.func3, Try.ntmps3
  go_wp2_with (go_at_call 6; refine k0.mono ?_; rintro e w1 ⟨rfl, hb1⟩)
  have hn := hb1.size
  have hB : Below w.heap.size w (w1.alloc (.cells #[.string ⟨#[]⟩, .bool false] 25)) := hb1.alloc hn _
  have hp0 : At (w1.alloc (.cells #[.string ⟨#[]⟩, .bool false] 25)) w1.heap.size 25 ⟨#[]⟩ false := heap_alloc_new w1 _
  obtain ⟨pb, hpb⟩ : ∃ pb, pb = w1.heap.size := ⟨_, rfl⟩
  have R0 : Aside (Rel1 w.heap.size pb len kd nm st w (w1.alloc (.cells #[.string ⟨#[]⟩, .bool false] 25)) 0) := by
    rw [hpb]
    exact ⟨by omega, fun j hj => by omega, hp0, hB, by simp; omega⟩
  have hpB : Aside (w.heap.size ≤ pb) := by rw [hpb]; exact hn
  clear hB hp0 hb1 k0 hn
  rw [← hpb]
  go_loopg [4, 5, 19] len (fun gh v4 v5 v19 wr => ∃ k, len - k ≤ gh ∧ v19 = .int .i64 (k : Int) ∧ v4 = .string ⟨(cat kd nm st k).toArray⟩ ∧ v5 = .bool (okk kd nm k) ∧ Rel1 w.heap.size pb len kd nm st w wr k)
  case atStart => exact ⟨0, by omega, rfl, rfl, rfl, R0.out⟩
  case round =>
    clear R0 hpb
    obtain ⟨k, hgh, rfl, rfl, rfl, hR⟩ := hrel
    by_cases hlt : k < len
    · obtain ⟨c0, c1, c2⟩ := HI.out.1 k hlt
      have hbk := HI.out.2.2
      rw [← hR.bel.cell (p := ⟨b, off + k * 3, none⟩) hbk] at c0
      rw [← hR.bel.cell (p := ⟨b, off + k * 3 + 1, none⟩) hbk] at c1
      rw [← hR.bel.cell (p := ⟨b, off + k * 3 + 2, none⟩) hbk] at c2
      have hkk := HI.out.2.1 k
      have hA := hR.at'
      have hpl := hA.lt
      have hcl : (cat kd nm st k).length ≤ 12400 := by
        have := cat_len kd nm st k hR.short
        omega
      have hcs : (ByteArray.mk (cat kd nm st k).toArray).size = (cat kd nm st k).length := size_mk _
      have X : Aside (Rel1 w.heap.size pb len kd nm st w wr k) := hR
      have HA : Aside (At wr pb 25 (pk (okk kd nm k) (cat kd nm st k)) (!okk kd nm k)) := hA
      clear hR hA hbk
      by_cases hlong : 300 < (st k).size
      · go_wp2
        go_ret
        exact ⟨rfl, X.out.bel.alloc X.out.base _⟩
      · rcases (show kd k % 3 = 0 ∨ kd k % 3 = 1 ∨ kd k % 3 = 2 by omega) with m0 | m1 | m2
        · have t0 : (((kd k : Int) % 3) == 0) = true := by rw [beq_iff_eq]; omega
          by_cases hr : 0 ≤ nm k ∧ nm k ≤ 4611686018427387904
          · obtain ⟨n, hn⟩ := Int.eq_ofNat_of_zero_le hr.1
            have hn2 : n ≤ 4611686018427387904 := by omega
            have S := (show Aside _ from step_num (st := st) m0 hn hn2)
            rw [hn] at c1
            have hnl := Pk.numB_len hn2
            have hns : (ByteArray.mk (Pk.numB n).toArray).size = (Pk.numB n).length := size_mk _
            clear hr m0 hn
            go_wp2_with (first
              | (go_at_call 7; refine (numU pb n (okk kd nm k) (cat kd nm st k) _ (HA.out.alloc _) hn2 (by omega)).mono ?_; rintro e w2 ⟨rfl, ha2, hu2⟩; have cx := fun j => hu2.cell (p := ⟨wr.heap.size, j, none⟩) (by simp) (by show wr.heap.size ≠ pb; omega))
              | (go_at_call 8; refine (refNum_any n _ hn2).mono ?_; rintro e w3 ⟨rfl, hb3⟩))
            go_roundg (len - (k + 1))
            case measure => omega
            case rel =>
              exact ⟨k + 1, Nat.le_refl _, by go_num, by rw [S.out.1, mk_append], by rw [S.out.2], X.out.next hlt (by omega) (by rw [S.out.1, S.out.2]; exact ha2.below hb3 ha2.lt) (chain2 X.out.base hpB.out hu2 hb3)⟩
          · have hr' : nm k < 0 ∨ 4611686018427387904 < nm k := by omega
            have S := (show Aside _ from step_out (st := st) m0 hr')
            have K7 := (show Aside _ from fun u h => outU pb (nm k) (okk kd nm k) (cat kd nm st k) (cat kd nm st k) u h hr')
            clear hr m0
            rcases hr' with hneg | hbig
            · have d1 : decide (nm k < 0) = true := by simpa using hneg
              go_wp2_with (go_at_call 7; refine (K7.out _ (HA.out.alloc _)).mono ?_; rintro e w2 ⟨rfl, ha2, hu2⟩; have cx := fun j => hu2.cell (p := ⟨wr.heap.size, j, none⟩) (by simp) (by show wr.heap.size ≠ pb; omega))
              go_roundg (len - (k + 1))
              case measure => omega
              case rel =>
                exact ⟨k + 1, Nat.le_refl _, by go_num, by rw [S.out.1], by rw [S.out.2], X.out.next hlt (by omega) (by rw [S.out.1, S.out.2]; exact ha2) (chain1 X.out.base hpB.out hu2)⟩
            · have d1 : decide (nm k < 0) = false := by simp; omega
              have d2 : decide (4611686018427387904 < nm k) = true := by simpa using hbig
              go_wp2_with (go_at_call 7; refine (K7.out _ (HA.out.alloc _)).mono ?_; rintro e w2 ⟨rfl, ha2, hu2⟩; have cx := fun j => hu2.cell (p := ⟨wr.heap.size, j, none⟩) (by simp) (by show wr.heap.size ≠ pb; omega))
              go_roundg (len - (k + 1))
              case measure => omega
              case rel =>
                exact ⟨k + 1, Nat.le_refl _, by go_num, by rw [S.out.1], by rw [S.out.2], X.out.next hlt (by omega) (by rw [S.out.1, S.out.2]; exact ha2) (chain1 X.out.base hpB.out hu2)⟩
        · have t0 : (((kd k : Int) % 3) == 0) = false := by rw [beq_eq_false_iff_ne]; omega
          have t1 : (((kd k : Int) % 3) == 1) = true := by rw [beq_iff_eq]; omega
          have S := (show Aside _ from step_text (nm := nm) (st := st) m1)
          have hnl := Pk.numB_len (a := (st k).size) (by omega)
          have hdl : (st k).data.toList.length = (st k).size := by rw [Array.length_toList]; rfl
          have hns : (ByteArray.mk (Pk.numB (st k).size ++ (st k).data.toList).toArray).size = (Pk.numB (st k).size).length + (st k).size := by rw [size_mk, List.length_append, hdl]
          clear m1 hdl
          go_wp2_with (first
            | (go_at_call 9; refine (textU pb (st k) (okk kd nm k) (cat kd nm st k) _ (HA.out.alloc _) (by omega) (by omega)).mono ?_; rintro e w2 ⟨rfl, ha2, hu2⟩; have cx := fun j => hu2.cell (p := ⟨wr.heap.size, j, none⟩) (by simp) (by show wr.heap.size ≠ pb; omega))
            | (go_at_call 10; refine (refText_any (st k) _ (by omega)).mono ?_; rintro e w3 ⟨rfl, hb3⟩))
          go_roundg (len - (k + 1))
          case measure => omega
          case rel =>
            exact ⟨k + 1, Nat.le_refl _, by go_num, by rw [S.out.1, mk_append], by rw [S.out.2], X.out.next hlt (by omega) (by rw [S.out.1, S.out.2]; exact ha2.below hb3 ha2.lt) (chain2 X.out.base hpB.out hu2 hb3)⟩
        · have t0 : (((kd k : Int) % 3) == 0) = false := by rw [beq_eq_false_iff_ne]; omega
          have t1 : (((kd k : Int) % 3) == 1) = false := by rw [beq_eq_false_iff_ne]; omega
          have t2 : (((kd k : Int) % 3) == 2) = true := by rw [beq_iff_eq]; omega
          have S := (show Aside _ from step_raw (nm := nm) (st := st) m2)
          clear m2
          go_wp2_with (go_at_call 11; refine (rawU pb (st k) (okk kd nm k) (cat kd nm st k) _ (HA.out.alloc _) (by omega) (by omega)).mono ?_; rintro e w2 ⟨rfl, ha2, hu2⟩; have cx := fun j => hu2.cell (p := ⟨wr.heap.size, j, none⟩) (by simp) (by show wr.heap.size ≠ pb; omega))
          go_roundg (len - (k + 1))
          case measure => omega
          case rel =>
            exact ⟨k + 1, Nat.le_refl _, by go_num, by rw [S.out.1, ← mk_append, mk_data], by rw [S.out.2], X.out.next hlt (by omega) (by rw [S.out.1, S.out.2]; exact ha2) (chain1 X.out.base hpB.out hu2)⟩
    · obtain rfl : k = len := by have := hR.le; omega
      have hcl : (cat kd nm st k).length ≤ 12400 := by
        have := cat_len kd nm st k hR.short
        omega
      have hA := hR.at'
      cases hok : okk kd nm k
      · rw [hok] at hA
        have k12 := ok_yes pb true wr hA.c1
        have k13 := string_no pb wr hA.c1
        have X : Aside (Below w.heap.size w wr) := hR.bel
        clear hR hA HI hcl hok
        go_wp2_with (first
          | (go_at_call 12; refine k12.mono ?_; rintro e w2 ⟨rfl, rfl⟩)
          | (go_at_call 13; refine k13.mono ?_; rintro e w2 ⟨rfl, rfl⟩))
        go_ret
        exact ⟨rfl, X.out⟩
      · rw [hok] at hA
        have hall := (show Aside _ from okk_all kd nm k hok)
        have hA' : At wr pb 25 ⟨(cat kd nm st k).toArray⟩ false := hA
        have k12 := ok_yes pb false wr hA'.c1
        have k13 := string_yes pb _ wr hA'.c0 hA'.c1
        obtain ⟨ob, hob⟩ : ∃ ob, ob = wr.heap.size := ⟨_, rfl⟩
        have k14 := open_any ⟨(cat kd nm st k).toArray⟩ wr
        rw [← hob] at k14
        have X : Aside (Rel1 w.heap.size pb k kd nm st w wr k ∧ w.heap.size ≤ ob) := ⟨hR, by rw [hob]; exact hR.base⟩
        have hrl : Aside (cat kd nm st k = rst kd nm st k 0) := by
          have e := cat_rst kd nm st k 0
          rw [Nat.zero_add] at e
          exact e.symm
        clear hR hA hA' hok hob
        go_wp2_with (first
          | (go_at_call 12; refine k12.mono ?_; rintro e u1 ⟨rfl, rfl⟩)
          | (go_at_call 13; refine k13.mono ?_; rintro e u2 ⟨rfl, rfl⟩)
          | (go_at_call 14; refine k14.mono ?_; rintro e u3 ⟨rfl, ha3, hb3⟩))
        have Y : Aside (∃ j m, j + m = k ∧ m ≤ k ∧ Value.int .i64 0 = .int .i64 (j : Int) ∧ At u3 ob 45 ⟨(rst kd nm st m j).toArray⟩ false ∧ Below w.heap.size w u3) :=
          ⟨0, k, by omega, by omega, rfl, by rw [← hrl.out]; exact ha3, X.out.1.bel.trans (hb3.mono X.out.2)⟩
        clear ha3 hb3 k12 k13 k14 hrl
        go_loopg [82] k (fun gh v82 wr => ∃ j m, j + m = k ∧ m ≤ gh ∧ v82 = .int .i64 (j : Int) ∧ At wr ob 45 ⟨(rst kd nm st m j).toArray⟩ false ∧ Below w.heap.size w wr)
        case atStart => exact Y.out
        case round =>
          clear Y
          obtain ⟨j, m, hjm, hgh, rfl, hA, hbel⟩ := hrel
          by_cases hlt : j < k
          · obtain ⟨m', rfl⟩ : ∃ m', m = m' + 1 := ⟨m - 1, by omega⟩
            obtain ⟨c0, c1, c2⟩ := HI.out.1 j hlt
            have hbk := HI.out.2.2
            rw [← hbel.cell (p := ⟨b, off + j * 3, none⟩) hbk] at c0
            rw [← hbel.cell (p := ⟨b, off + j * 3 + 1, none⟩) hbk] at c1
            rw [← hbel.cell (p := ⟨b, off + j * 3 + 2, none⟩) hbk] at c2
            have hkk := HI.out.2.1 j
            have hsh := X.out.1.short j hlt
            have hoj := hall.out j hlt
            have hrl : (rst kd nm st (m' + 1) j).length ≤ 12400 := by
              have e := congrArg List.length (cat_rst kd nm st (m' + 1) j)
              rw [List.length_append, show j + (m' + 1) = k by omega] at e
              omega
            have hol := hA.lt
            rcases (show kd j % 3 = 0 ∨ kd j % 3 = 1 ∨ kd j % 3 = 2 by omega) with m0 | m1 | m2
            · have t0 : (((kd j : Int) % 3) == 0) = true := by rw [beq_iff_eq]; omega
              obtain ⟨r0, r1⟩ := okI_num hoj m0
              obtain ⟨n, hn⟩ := Int.eq_ofNat_of_zero_le r0
              have hn2 : n ≤ 4611686018427387904 := by omega
              rw [hn] at c1
              have er : rst kd nm st (m' + 1) j = Pk.numB n ++ rst kd nm st m' (j + 1) := by
                rw [rst, encI, if_pos m0, hn, if_pos (by omega), Int.toNat_natCast]
              rw [er] at hA hrl
              have HA : Aside (At wr ob 45 ⟨(Pk.numB n ++ rst kd nm st m' (j + 1)).toArray⟩ false ∧ Below w.heap.size w wr ∧ (Pk.numB n ++ rst kd nm st m' (j + 1)).length ≤ 1000000) := ⟨hA, hbel, by omega⟩
              clear hoj m0 hn er r0 r1 hA hbel hrl hbk
              go_wp2_with fail
              go_region_with (go_at_call 15; refine (readNum ob n (rst kd nm st m' (j + 1)) _ _ (by exact HA.out.1.alloc _) hn2 (by omega) HA.out.2.2).mono ?_; rintro e u5 ⟨rfl, ha5, hu5⟩; have cx := fun i => hu5.cell (p := ⟨wr.heap.size, i, none⟩) (by simp) (by show wr.heap.size ≠ ob; omega))
              all_goals
                have k18 := oOk_at ob _ _ _ ha5
                have Z : Aside (At u5 ob 45 ⟨(rst kd nm st m' (j + 1)).toArray⟩ false ∧ Below w.heap.size w u5) := ⟨ha5, chain3 HA.out.2.1 X.out.2 hu5⟩
                clear ha5 hu5 cx c0 c1 c2
                go_wp2_with (go_at_call 18; refine k18.mono ?_; rintro e u6 ⟨rfl, rfl⟩)
                go_roundg m'
                case measure => omega
                case rel => exact ⟨j + 1, m', by omega, Nat.le_refl _, by go_num, Z.out.1, Z.out.2⟩
            · have t0 : (((kd j : Int) % 3) == 0) = false := by rw [beq_eq_false_iff_ne]; omega
              have t1 : (((kd j : Int) % 3) == 1) = true := by rw [beq_iff_eq]; omega
              have er : rst kd nm st (m' + 1) j = (Pk.numB (st j).size ++ (st j).data.toList) ++ rst kd nm st m' (j + 1) := by
                rw [rst, encI, if_neg (by omega), if_pos m1]
              rw [er] at hA hrl
              have HA : Aside (At wr ob 45 ⟨((Pk.numB (st j).size ++ (st j).data.toList) ++ rst kd nm st m' (j + 1)).toArray⟩ false ∧ Below w.heap.size w wr ∧ ((Pk.numB (st j).size ++ (st j).data.toList) ++ rst kd nm st m' (j + 1)).length ≤ 1000000) := ⟨hA, hbel, by omega⟩
              clear hoj m1 er hA hbel hrl hbk
              go_wp2_with fail
              go_region_with (go_at_call 16; refine (readText ob (st j) (rst kd nm st m' (j + 1)) _ _ (by exact HA.out.1.alloc _) (by omega) HA.out.2.2).mono ?_; rintro e u5 ⟨rfl, ha5, hu5⟩; have cx := fun i => hu5.cell (p := ⟨wr.heap.size, i, none⟩) (by simp) (by show wr.heap.size ≠ ob; omega))
              all_goals
                have k18 := oOk_at ob _ _ _ ha5
                have Z : Aside (At u5 ob 45 ⟨(rst kd nm st m' (j + 1)).toArray⟩ false ∧ Below w.heap.size w u5) := ⟨ha5, chain3 HA.out.2.1 X.out.2 hu5⟩
                clear ha5 hu5 cx c0 c1 c2
                go_wp2_with (go_at_call 18; refine k18.mono ?_; rintro e u6 ⟨rfl, rfl⟩)
                go_roundg m'
                case measure => omega
                case rel => exact ⟨j + 1, m', by omega, Nat.le_refl _, by go_num, Z.out.1, Z.out.2⟩
            · have t0 : (((kd j : Int) % 3) == 0) = false := by rw [beq_eq_false_iff_ne]; omega
              have t1 : (((kd j : Int) % 3) == 1) = false := by rw [beq_eq_false_iff_ne]; omega
              have t2 : (((kd j : Int) % 3) == 2) = true := by rw [beq_iff_eq]; omega
              have er : rst kd nm st (m' + 1) j = (st j).data.toList ++ rst kd nm st m' (j + 1) := by
                rw [rst, encI, if_neg (by omega), if_neg (by omega)]
              rw [er] at hA hrl
              have HA : Aside (At wr ob 45 ⟨((st j).data.toList ++ rst kd nm st m' (j + 1)).toArray⟩ false ∧ Below w.heap.size w wr ∧ ((st j).data.toList ++ rst kd nm st m' (j + 1)).length ≤ 1000000) := ⟨hA, hbel, by omega⟩
              clear hoj m2 er hA hbel hrl hbk
              go_wp2_with fail
              go_region_with (go_at_call 17; refine (readRaw ob (st j) (rst kd nm st m' (j + 1)) _ (by exact HA.out.1.alloc _) HA.out.2.2).mono ?_; rintro e u5 ⟨rfl, ha5, hu5⟩; have cx := fun i => hu5.cell (p := ⟨wr.heap.size, i, none⟩) (by simp) (by show wr.heap.size ≠ ob; omega))
              all_goals
                have k18 := oOk_at ob _ _ _ ha5
                have Z : Aside (At u5 ob 45 ⟨(rst kd nm st m' (j + 1)).toArray⟩ false ∧ Below w.heap.size w u5) := ⟨ha5, chain3 HA.out.2.1 X.out.2 hu5⟩
                clear ha5 hu5 cx c0 c1 c2
                go_wp2_with (go_at_call 18; refine k18.mono ?_; rintro e u6 ⟨rfl, rfl⟩)
                go_roundg m'
                case measure => omega
                case rel => exact ⟨j + 1, m', by omega, Nat.le_refl _, by go_num, Z.out.1, Z.out.2⟩
          · obtain rfl : m = 0 := by omega
            have k19 := done_at ob _ _ _ hA
            have Z : Aside (Below w.heap.size w wr) := hbel
            clear hA hbel
            go_wp2_with (go_at_call 19; refine k19.mono ?_; rintro e u1 ⟨rfl, rfl⟩)
            go_ret
            exact ⟨rfl, Z.out⟩
end Go.Proofs.Ytlajableceaoaaa
