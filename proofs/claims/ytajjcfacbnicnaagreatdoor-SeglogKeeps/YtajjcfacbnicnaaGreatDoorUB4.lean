/-
  SeglogKeeps' walk.
-/
import Derived.Test.YtajjcfacbnicnaaGreatDoorUB3
import Derived.WalkKit
import Derived.WalkSpells
import Derived.WalkLawsBesides
import Derived.Deep.LoopGhost
import Derived.Laws.Externs
import Derived.Below
import Derived.BigQuiet
import Derived.Deep.RegionWith
import Derived.OwnWalk
import Derived.Maps.AppendAt
import Derived.WalkSmall
namespace Go.Proofs.YtajjcfacbnicnaaGreatDoor
open Go.RowKit
set_option maxRecDepth 100000
/-- What SeglogKeeps' loop hands on. -/
def KR (W : World) (B b : Nat) (m : Int) (k l : Nat) (v : Value) (q : Nat) (u : World) : Prop := ∃ (L : List ByteArray) (d : Dk.Ds) (G : List Seg), KS W B l b m v L d u ∧ Kp d.pl G q ∧ L = G.flatten.map Fm.bs ∧ L.length ≤ k
theorem kinds9 {k : Int} (_h : 0 ≤ k) : k % 9 = 0 ∨ k % 9 = 1 ∨ k % 9 = 2 ∨ k % 9 = 3 ∨ k % 9 = 4 ∨ k % 9 = 5 ∨ k % 9 = 6 ∨ k % 9 = 7 ∨ k % 9 = 8 := by omega
theorem room_sz {s : Dk.Ds} {d : Dk.Ds} {k : Int} (h : ∀ n ∈ s.names, n.size ≤ 1000) (e : d.pl = Dk.opRoom s.pl k) : ∀ n ∈ d.names, n.size ≤ 1000 := fun n hn => by
  rw [← Dk.names_pl, e] at hn
  have : (Dk.opRoom s.pl k).names = s.names := by
    rw [← Dk.names_pl]
    rfl
  rw [this] at hn
  exact h n hn
theorem sroom_any {B l b : Nat} {f m : Int} {d : Dk.Ds} {w : World} (h : Sys B l b f m d w) (n : Int) :
    Calls Tryz.prog 27 #[.pointer (some ⟨b, 0, none⟩), .int .i64 n] w fun e w' => e = .returned (.tuple #[]) ∧ ∃ d', Sys B l b f m d' w' ∧ d'.pl = Dk.opRoom d.pl n ∧ Dk.Step (d.foot b) (d'.foot b) w w' := by
  refine (Dk.room_any h.rep n).mono ?_
  rintro e w' ⟨h1, d', r, p, s⟩
  exact ⟨h1, d', h.step r (by rw [p]; exact h.ok.opRoom _) (room_sz h.sz p) s h.hs, p, s⟩
theorem sfuse_any {B l b : Nat} {f m : Int} {d : Dk.Ds} {w : World} (h : Sys B l b f m d w) (n : Int) (hn : n ≤ 9223372036854775807) :
    Calls Tryz.prog 26 #[.pointer (some ⟨b, 0, none⟩), .int .i64 n] w fun e w' => e = .returned (.tuple #[]) ∧ ∃ d', Sys B l b f m d' w' ∧ d'.pl = Dk.opFuse d.pl n ∧ Dk.Step (d.foot b) (d'.foot b) w w' := by
  refine (Dk.fuse_any h.rep n).mono ?_
  rintro e w' ⟨h1, d', r, p, s⟩
  exact ⟨h1, d', h.step r (by rw [p]; exact h.ok.opFuse hn) (fuse_sz h.sz p) s h.hs, p, s⟩
/-- What Open gave back, as the first of the list. -/
theorem Back.first {s' : Dk.St} {rs L : List ByteArray} {G : List Seg} {q : Nat} (h : Back s' rs G q) (e : L = G.flatten.map Fm.bs) : rs.length ≤ L.length ∧ L.take rs.length = rs := by
  obtain ⟨⟨G', _, e1, z, e2⟩, _⟩ := h
  have e3 : L = rs ++ z.map Fm.bs := by rw [e, e2, List.map_append, ← e1]
  rw [e3]
  exact ⟨by rw [List.length_append]; omega, List.take_left⟩
theorem own_cap {w : World} {base : Nat} {a : Option Addr} {n c k : Nat} {xs : List Value} (h : w.ownsRow base 9 1 (.slice a n c) k xs) : n ≤ c := by
  rcases h.2 with ⟨e, _⟩ | ⟨g, cap, cur, e, _, _, h3, _⟩
  · injection e with _ e1 e2
    omega
  · injection e with _ e1 e2
    omega
theorem own_len {w : World} {base : Nat} {v : Value} {n : Nat} {xs : List Value} (h : w.ownsRow base 9 1 v n xs) : ∃ a c, v = .slice a n c := Dk.own_any h
open Dk (takeH_to)
set_option maxHeartbeats 40000000 in
theorem keeps_big (W : World) (hV : Vars W) (ad : Option Addr) (n cap : Nat) (X : Nat → Sd) (lim : Int) (h : Sds W ad n X) (hsm : smallOf n X = true) :
    Calls Tryz.prog 4 #[.int .i64 lim, .slice ad n cap] W fun e w' => e = .returned (.bool true) ∧ Below W.heap.size W w' := by
  have k7 := awake_any W hV
  have H := asd h
  have BV := asd hV
  have K8 := asd (fun (u : World) (hu : Below W.heap.size W u) => (show Calls Tryz.prog 8 #[.slice ad n cap] u fun e w' => e = .returned (.bool true) ∧ Below u.heap.size u w' from by
    have := small_any ad n cap X u (H.out.below hu)
    rwa [hsm] at this))
  obtain ⟨hn, hsz⟩ := small_iff.1 hsm
  have SZ := asd hsz
  have A1 := asd (ok_of rot_new)
  clear h hV hsm hsz
  go_enter Tryz.func4, Tryz.ntmps4
  go_wp2_with (first
    | (go_at_call 7; refine k7.mono ?_; rintro e w1 ⟨rfl, b1⟩; have B1 := asd b1; clear b1 k7)
    | (go_at_call 8; refine (K8.out _ B1.out).mono ?_; rintro e w2 ⟨rfl, b2⟩; have B2 := asd (B1.out.trans (b2.mono B1.out.size)); clear b2)
    | (go_at_call 9; refine (dnew_any 9000 w2 (BV.out.below B2.out)).mono ?_; rintro e w3 ⟨b, d0, rfl, D0, p0, f0, b3⟩; have H0 := asd D0; have P0 := asd p0; have B3 := asd (B2.out.trans (b3.mono B2.out.size)); have hle : W.heap.size ≤ w2.heap.size := B2.out.size; clear D0 p0 f0 b3)
    | (go_at_call 11; refine (open_ok H0.out 1 lim (by rw [P0.out]; exact A1.out)).mono ?_; rintro e w4 ⟨l0, rv, d1, rfl, s1, p1, st1, hl1, _, _⟩; have R0 : Aside (KR W w2.heap.size b (wi lim) 0 l0 (.slice none 0 0) 0 w4) := ⟨[], d1, [], ⟨s1, World.ownsRow_nil _ _ _ _, fun j hj => by simp [Value.ownBlock] at hj, B3.out.trans ((st1.below (fun k hk => (H0.out.rep.lt k hk).1) H0.out.hs).mono hle), hle⟩, by rw [p1, P0.out, rot_st]; exact ⟨inv_new _, fun _ => rfl, fun D g e => by simp at e⟩, rfl, Nat.le_refl _⟩; clear s1 p1 st1))
  generalize hBB : w2.heap.size = B at *
  clear K8 H0 P0 B1 B2 B3 A1 hBB
  go_loopg [31, 6, 9, 10, 12, 13, 14, 15] n (fun gh s31 s6 s9 s10 _ _ _ _ wr => ∃ k l q : Nat, n - k ≤ gh ∧ k ≤ n ∧ s31 = .int .i64 (k : Int) ∧ s6 = .pointer (some ⟨l, 0, none⟩) ∧ s10 = .int .i64 (q : Int) ∧ Aside (KR W B b (wi lim) k l s9 q wr))
  case atStart => exact ⟨0, l0, 0, by omega, by omega, rfl, rfl, rfl, R0⟩
  case round =>
    obtain ⟨k, l, q, hgh, hk, rfl, rfl, rfl, R⟩ := hrel
    clear R0
    obtain ⟨L, d, G, K0, P0, eL, hLk⟩ := R.out
    obtain ⟨a9, c9, ev⟩ := own_len K0.own
    subst ev
    clear R
    by_cases hlt : k < n
    · have q3 : decide (k < n) = true := by simpa using hlt
      rcases H.out with h0 | ⟨g, o, rfl, hc⟩
      · omega
      obtain ⟨⟨a0, a1, a2, a3, a4⟩, F⟩ := hc k hlt
      have c0 := Dk.cell_below a0 K0.bel
      have c1 := Dk.cell_below a1 K0.bel
      have c2 := Dk.cell_below a2 K0.bel
      have c3 := Dk.cell_below a3 K0.bel
      have c4 := Dk.cell_below a4 K0.bel
      have hxs := SZ.out k hlt
      have NF := asd (fun hm => by have := (K0.sys.rep.lt _ hm).2; omega : wr.heap.size ∉ d.foot b)
      have KA := asd (K0.later ((Below.refl _ _).alloc (Nat.le_refl _) (.cells (X k).cells 38)))
      have SA := asd (SdAt.new wr (X k))
      have PA := asd P0
      have EL := asd eL
      have FF := asd F
      have hk0 := F.k0
      have hk1 := F.k1
      clear a0 a1 a2 a3 a4 hc K0 P0 eL F
      generalize X k = x at *
      unfold Sd.cells at KA SA
      rcases kinds9 hk0 with hq | hq | hq | hq | hq | hq | hq | hq | hq
      · have AK := asd (app_keep PA.out (wi lim) x.s x.n)
        have KC := lappend_any KA.out.sys (by decide) (by decide) x.s x.n (by omega)
        by_cases hA : (lAppend d.pl 1 (wi lim) x.s x.n).1 = 0
        · rw [hA] at KC
          obtain ⟨G2, p1, p2⟩ := AK.out.1 hA
          have Q1 := asd p1
          have Q2 := asd p2
          clear p1 p2 hA
          go_wp2_with (first | (go_at_call 13; refine KC.mono ?_; rintro e w4 ⟨rfl, d2, s2, pl2, st2⟩; have K4 := asd (KA.out.disk s2 st2); have P4 : Aside (Kp d2.pl G2 q) := (by show Kp _ _ _; rw [pl2]; exact Q1.out); obtain ⟨S4, _⟩ := SA.out.step st2 NF.out; obtain ⟨z0, z1, z2, z3, z4⟩ := S4.cells; obtain ⟨v5, w5, r5, K5⟩ := K4.out.push x.s (by omega); have K6 := asd K5; clear s2 pl2 st2 K5 S4 KC) | (at_builtin; refine wpList_append_eq rfl (.tmp 49) (.tmp 52) 30 rfl _ _ rfl rfl v5 w5 r5 ?_))
          have R2 : Aside (KR W B b (wi lim) (k + 1) l v5 q w5) := ⟨L ++ [x.s], d2, G2, K6.out, P4.out, by rw [Q2.out, List.map_append, ← EL.out]; rfl, by rw [List.length_append]; simp; omega⟩
          go_roundg (n - (k + 1))
          case measure => omega
          case rel => exact ⟨k + 1, l, q, Nat.le_refl _, by omega, by go_num, rfl, rfl, R2⟩
        · have dA : ((lAppend d.pl 1 (wi lim) x.s x.n).1 == (0 : Int)) = false := beq_eq_false_iff_ne.2 hA
          have Q1 := asd (AK.out.2 hA)
          clear hA AK
          generalize (lAppend d.pl 1 (wi lim) x.s x.n).1 = A at KC dA
          go_wp2_with (go_at_call 13; refine KC.mono ?_; rintro e w4 ⟨rfl, d2, s2, pl2, st2⟩; have K4 := asd (KA.out.disk s2 st2); have P4 : Aside (Kp d2.pl G q) := (by show Kp _ _ _; rw [pl2]; exact Q1.out); clear s2 pl2 st2 KC)
          have R2 : Aside (KR W B b (wi lim) (k + 1) l (.slice a9 L.length c9) q w4) := ⟨L, d2, G, K4.out, P4.out, EL.out, by omega⟩
          go_roundg (n - (k + 1))
          case measure => omega
          case rel => exact ⟨k + 1, l, q, Nat.le_refl _, by omega, by go_num, rfl, rfl, R2⟩
      · have AK := asd (app_keep PA.out (wi lim) x.s x.n)
        have KC := lappend_any KA.out.sys (by decide) (by decide) x.s x.n (by omega)
        by_cases hA : (lAppend d.pl 1 (wi lim) x.s x.n).1 = 0
        · rw [hA] at KC
          obtain ⟨G2, p1, p2⟩ := AK.out.1 hA
          have Q1 := asd p1
          have Q2 := asd p2
          clear p1 p2 hA
          go_wp2_with (first | (go_at_call 13; refine KC.mono ?_; rintro e w4 ⟨rfl, d2, s2, pl2, st2⟩; have K4 := asd (KA.out.disk s2 st2); have P4 : Aside (Kp d2.pl G2 q) := (by show Kp _ _ _; rw [pl2]; exact Q1.out); obtain ⟨S4, _⟩ := SA.out.step st2 NF.out; obtain ⟨z0, z1, z2, z3, z4⟩ := S4.cells; obtain ⟨v5, w5, r5, K5⟩ := K4.out.push x.s (by omega); have K6 := asd K5; clear s2 pl2 st2 K5 S4 KC) | (at_builtin; refine wpList_append_eq rfl (.tmp 49) (.tmp 52) 30 rfl _ _ rfl rfl v5 w5 r5 ?_))
          have R2 : Aside (KR W B b (wi lim) (k + 1) l v5 q w5) := ⟨L ++ [x.s], d2, G2, K6.out, P4.out, by rw [Q2.out, List.map_append, ← EL.out]; rfl, by rw [List.length_append]; simp; omega⟩
          go_roundg (n - (k + 1))
          case measure => omega
          case rel => exact ⟨k + 1, l, q, Nat.le_refl _, by omega, by go_num, rfl, rfl, R2⟩
        · have dA : ((lAppend d.pl 1 (wi lim) x.s x.n).1 == (0 : Int)) = false := beq_eq_false_iff_ne.2 hA
          have Q1 := asd (AK.out.2 hA)
          clear hA AK
          generalize (lAppend d.pl 1 (wi lim) x.s x.n).1 = A at KC dA
          go_wp2_with (go_at_call 13; refine KC.mono ?_; rintro e w4 ⟨rfl, d2, s2, pl2, st2⟩; have K4 := asd (KA.out.disk s2 st2); have P4 : Aside (Kp d2.pl G q) := (by show Kp _ _ _; rw [pl2]; exact Q1.out); clear s2 pl2 st2 KC)
          have R2 : Aside (KR W B b (wi lim) (k + 1) l (.slice a9 L.length c9) q w4) := ⟨L, d2, G, K4.out, P4.out, EL.out, by omega⟩
          go_roundg (n - (k + 1))
          case measure => omega
          case rel => exact ⟨k + 1, l, q, Nat.le_refl _, by omega, by go_num, rfl, rfl, R2⟩
      · have AK := asd (app_keep PA.out (wi lim) x.s x.n)
        have KC := lappend_any KA.out.sys (by decide) (by decide) x.s x.n (by omega)
        by_cases hA : (lAppend d.pl 1 (wi lim) x.s x.n).1 = 0
        · rw [hA] at KC
          obtain ⟨G2, p1, p2⟩ := AK.out.1 hA
          have Q1 := asd p1
          have Q2 := asd p2
          clear p1 p2 hA
          go_wp2_with (first | (go_at_call 13; refine KC.mono ?_; rintro e w4 ⟨rfl, d2, s2, pl2, st2⟩; have K4 := asd (KA.out.disk s2 st2); have P4 : Aside (Kp d2.pl G2 q) := (by show Kp _ _ _; rw [pl2]; exact Q1.out); obtain ⟨S4, _⟩ := SA.out.step st2 NF.out; obtain ⟨z0, z1, z2, z3, z4⟩ := S4.cells; obtain ⟨v5, w5, r5, K5⟩ := K4.out.push x.s (by omega); have K6 := asd K5; clear s2 pl2 st2 K5 S4 KC) | (at_builtin; refine wpList_append_eq rfl (.tmp 49) (.tmp 52) 30 rfl _ _ rfl rfl v5 w5 r5 ?_))
          have R2 : Aside (KR W B b (wi lim) (k + 1) l v5 q w5) := ⟨L ++ [x.s], d2, G2, K6.out, P4.out, by rw [Q2.out, List.map_append, ← EL.out]; rfl, by rw [List.length_append]; simp; omega⟩
          go_roundg (n - (k + 1))
          case measure => omega
          case rel => exact ⟨k + 1, l, q, Nat.le_refl _, by omega, by go_num, rfl, rfl, R2⟩
        · have dA : ((lAppend d.pl 1 (wi lim) x.s x.n).1 == (0 : Int)) = false := beq_eq_false_iff_ne.2 hA
          have Q1 := asd (AK.out.2 hA)
          clear hA AK
          generalize (lAppend d.pl 1 (wi lim) x.s x.n).1 = A at KC dA
          go_wp2_with (go_at_call 13; refine KC.mono ?_; rintro e w4 ⟨rfl, d2, s2, pl2, st2⟩; have K4 := asd (KA.out.disk s2 st2); have P4 : Aside (Kp d2.pl G q) := (by show Kp _ _ _; rw [pl2]; exact Q1.out); clear s2 pl2 st2 KC)
          have R2 : Aside (KR W B b (wi lim) (k + 1) l (.slice a9 L.length c9) q w4) := ⟨L, d2, G, K4.out, P4.out, EL.out, by omega⟩
          go_roundg (n - (k + 1))
          case measure => omega
          case rel => exact ⟨k + 1, l, q, Nat.le_refl _, by omega, by go_num, rfl, rfl, R2⟩
      · have AK := asd (syn_keep PA.out)
        have KC := lsync_any KA.out.sys
        by_cases hA : (lSync d.pl 1).1 = 0
        · rw [hA] at KC
          have Q1 := asd (AK.out.1 hA)
          clear hA AK
          go_wp2_with (go_at_call 15; refine KC.mono ?_; rintro e w4 ⟨rfl, d2, s2, pl2, st2⟩; have K4 := asd (KA.out.disk s2 st2); have P4 : Aside (Kp d2.pl G L.length) := (by show Kp _ _ _; rw [pl2, EL.out, List.length_map]; exact Q1.out); clear s2 pl2 st2 KC)
          have R2 : Aside (KR W B b (wi lim) (k + 1) l (.slice a9 L.length c9) L.length w4) := ⟨L, d2, G, K4.out, P4.out, EL.out, by omega⟩
          go_roundg (n - (k + 1))
          case measure => omega
          case rel => exact ⟨k + 1, l, L.length, Nat.le_refl _, by omega, by go_num, rfl, rfl, R2⟩
        · have dA : ((lSync d.pl 1).1 == (0 : Int)) = false := beq_eq_false_iff_ne.2 hA
          have Q1 := asd (AK.out.2 hA)
          clear hA AK
          generalize (lSync d.pl 1).1 = A at KC dA
          go_wp2_with (go_at_call 15; refine KC.mono ?_; rintro e w4 ⟨rfl, d2, s2, pl2, st2⟩; have K4 := asd (KA.out.disk s2 st2); have P4 : Aside (Kp d2.pl G q) := (by show Kp _ _ _; rw [pl2]; exact Q1.out); clear s2 pl2 st2 KC)
          have R2 : Aside (KR W B b (wi lim) (k + 1) l (.slice a9 L.length c9) q w4) := ⟨L, d2, G, K4.out, P4.out, EL.out, by omega⟩
          go_roundg (n - (k + 1))
          case measure => omega
          case rel => exact ⟨k + 1, l, q, Nat.le_refl _, by omega, by go_num, rfl, rfl, R2⟩
      · have AK := asd (syn_keep PA.out)
        have KC := lsync_any KA.out.sys
        by_cases hA : (lSync d.pl 1).1 = 0
        · rw [hA] at KC
          have Q1 := asd (AK.out.1 hA)
          clear hA AK
          go_wp2_with (go_at_call 15; refine KC.mono ?_; rintro e w4 ⟨rfl, d2, s2, pl2, st2⟩; have K4 := asd (KA.out.disk s2 st2); have P4 : Aside (Kp d2.pl G L.length) := (by show Kp _ _ _; rw [pl2, EL.out, List.length_map]; exact Q1.out); clear s2 pl2 st2 KC)
          have R2 : Aside (KR W B b (wi lim) (k + 1) l (.slice a9 L.length c9) L.length w4) := ⟨L, d2, G, K4.out, P4.out, EL.out, by omega⟩
          go_roundg (n - (k + 1))
          case measure => omega
          case rel => exact ⟨k + 1, l, L.length, Nat.le_refl _, by omega, by go_num, rfl, rfl, R2⟩
        · have dA : ((lSync d.pl 1).1 == (0 : Int)) = false := beq_eq_false_iff_ne.2 hA
          have Q1 := asd (AK.out.2 hA)
          clear hA AK
          generalize (lSync d.pl 1).1 = A at KC dA
          go_wp2_with (go_at_call 15; refine KC.mono ?_; rintro e w4 ⟨rfl, d2, s2, pl2, st2⟩; have K4 := asd (KA.out.disk s2 st2); have P4 : Aside (Kp d2.pl G q) := (by show Kp _ _ _; rw [pl2]; exact Q1.out); clear s2 pl2 st2 KC)
          have R2 : Aside (KR W B b (wi lim) (k + 1) l (.slice a9 L.length c9) q w4) := ⟨L, d2, G, K4.out, P4.out, EL.out, by omega⟩
          go_roundg (n - (k + 1))
          case measure => omega
          case rel => exact ⟨k + 1, l, q, Nat.le_refl _, by omega, by go_num, rfl, rfl, R2⟩
      · rcases keep_crash PA.out x.n x.m FF.out.m with ⟨rs, o1, bk⟩ | ⟨oe, o2⟩
        · have O1 := asd o1
          have BK := asd bk
          clear o1 bk
          obtain ⟨f1, f2⟩ := BK.out.first EL.out
          have f3 := BK.out.le
          have fc : rs.length ≤ c9 := Nat.le_trans f1 (own_cap KA.out.own)
          have F2 := asd f2
          have hrs : rs.length ≤ 1000000 := by omega
          clear f2
          go_wp2_with (first | (go_at_call 19; refine (same_yes _ _ rs _ (Fm.Strs.of_row OR.out) (by have := strs_take (Fm.Strs.of_row OL.out) f1 c9; rw [F2.out] at this; exact this) hrs).mono ?_; rintro e w7 ⟨rfl, b7⟩; have K7 := asd (KK.out.later b7); clear b7) | (go_at_call 26; refine (sfuse_any K7.out.sys (-1) (by decide)).mono ?_; rintro e w8 ⟨rfl, d8, s8, p8, st8⟩; have K8 := asd (K7.out.disk s8 st8); have PE := asd p8; clear s8 p8 st8) | (go_at_call 17; refine (dcrash_any KA.out.sys.dsk x.n FF.out.n).mono ?_; rintro e w4 ⟨rfl, d4, s4, p4, st4⟩; have H4 := asd s4; have E4 := asd p4; have T4 := asd st4; obtain ⟨S4, nf4⟩ := SA.out.step st4 NF.out; have SS4 := asd S4; have NF4 := asd nf4; obtain ⟨z0, z1, z2, z3, z4⟩ := S4.cells; clear s4 p4 st4 nf4 S4) | (go_at_call 26; refine (dfuse_any H4.out x.m FF.out.m).mono ?_; rintro e w5 ⟨rfl, d5, s5, p5, st5⟩; have H5 := asd s5; have E5 : Aside (d5.pl = Dk.opFuse (Dk.opCrash d.pl x.n) x.m) := (by show _ = _; rw [p5, E4.out]); have T5 := asd (T4.out.trans st5); obtain ⟨S5, nf5⟩ := SS4.out.step st5 NF4.out; have SS5 := asd S5; have NF5 := asd nf5; clear s5 p5 st5 nf5 S5) | (go_at_call 11; refine (open_ok H5.out 1 lim (rs := rs) (by rw [E5.out]; exact O1.out)).mono ?_; rintro e w6 ⟨l6, rv, d6, rfl, s6, p6, st6, hl6, own6, ap6⟩; obtain ⟨a6, c6, er⟩ := own_len own6; subst er; have OR := asd own6; have T6 := asd (T5.out.trans st6); have P6 : Aside (d6.pl = (lOpen (Dk.opFuse (Dk.opCrash d.pl x.n) x.m) 1).2) := (by show _ = _; rw [p6, E5.out]); have OL := asd (row_kept KA.out.own (fun j hj => (KA.out.apart j hj).2) T6.out).1; have KK : Aside (KS W B l6 b (wi lim) (.slice a6 rs.length c6) rs d6 w6) := ⟨s6, own_base' own6 H5.out.hs, ap6, KA.out.bel.trans (T6.out.below (fun j hj => by have := (KA.out.sys.rep.lt j hj).1; have := KA.out.le; omega) (by have := KA.out.sys.hs; have := KA.out.le; omega)), KA.out.le⟩; clear s6 p6 st6 own6 ap6))
          have R2 : Aside (KR W B b (wi lim) (k + 1) l6 (.slice a6 rs.length c6) rs.length w8) := by
            obtain ⟨⟨G2, g1, g2, _⟩, _⟩ := BK.out
            exact ⟨rs, d8, G2, K8.out, by rw [PE.out, P6.out]; exact g1.same (g1.inv.ok.opFuse (by decide)) (fuse_files _ _), g2, by omega⟩
          go_roundg (n - (k + 1))
          case measure => omega
          case rel => exact ⟨k + 1, l6, rs.length, Nat.le_refl _, by omega, by go_num, rfl, rfl, R2⟩
        · obtain ⟨rs, o1, bk⟩ := o2 x.by_
          have OE := asd oe
          have O1 := asd o1
          have BK := asd bk
          clear oe o1 o2 bk
          obtain ⟨f1, f2⟩ := BK.out.first EL.out
          have f3 := BK.out.le
          have fc : rs.length ≤ c9 := Nat.le_trans f1 (own_cap KA.out.own)
          have F2 := asd f2
          have hrs : rs.length ≤ 1000000 := by omega
          clear f2
          go_wp2_with (first | (go_at_call 19; refine (same_yes _ _ rs _ (Fm.Strs.of_row OR.out) (by have := strs_take (Fm.Strs.of_row OL.out) f1 c9; rw [F2.out] at this; exact this) hrs).mono ?_; rintro e w7 ⟨rfl, b7⟩; have K7 := asd (KK.out.later b7); clear b7) | (go_at_call 26; refine (sfuse_any K7.out.sys (-1) (by decide)).mono ?_; rintro e w8 ⟨rfl, d8, s8, p8, st8⟩; have K8 := asd (K7.out.disk s8 st8); have PE := asd p8; clear s8 p8 st8) | (go_at_call 17; refine (dcrash_any HA.out x.by_ FF.out.by_).mono ?_; rintro e wb ⟨rfl, db, sb, pb, stb⟩; have HB := asd sb; have EB : Aside (db.pl = Dk.opCrash (lOpen (Dk.opFuse (Dk.opCrash d.pl x.n) x.m) 1).2 x.by_) := (by show _ = _; rw [pb, EA.out]); have TB := asd (TA.out.trans stb); clear sb pb stb HA) | (go_at_call 17; refine (dcrash_any KA.out.sys.dsk x.n FF.out.n).mono ?_; rintro e w4 ⟨rfl, d4, s4, p4, st4⟩; have H4 := asd s4; have E4 := asd p4; have T4 := asd st4; obtain ⟨S4, nf4⟩ := SA.out.step st4 NF.out; have SS4 := asd S4; have NF4 := asd nf4; obtain ⟨z0, z1, z2, z3, z4⟩ := S4.cells; clear s4 p4 st4 nf4 S4) | (go_at_call 26; refine (dfuse_any H4.out x.m FF.out.m).mono ?_; rintro e w5 ⟨rfl, d5, s5, p5, st5⟩; have H5 := asd s5; have E5 : Aside (d5.pl = Dk.opFuse (Dk.opCrash d.pl x.n) x.m) := (by show _ = _; rw [p5, E4.out]); have T5 := asd (T4.out.trans st5); obtain ⟨S5, nf5⟩ := SS4.out.step st5 NF4.out; have SS5 := asd S5; have NF5 := asd nf5; clear s5 p5 st5 nf5 S5) | (go_at_call 11; refine (open_er H5.out 1 lim (c := 12) (by rw [E5.out]; exact OE.out)).mono ?_; rintro e wa ⟨rfl, da, sa, pa, sta⟩; have HA := asd sa; have EA : Aside (da.pl = (lOpen (Dk.opFuse (Dk.opCrash d.pl x.n) x.m) 1).2) := (by show _ = _; rw [pa, E5.out]); have TA := asd (T5.out.trans sta); obtain ⟨Sa, nfa⟩ := SS5.out.step sta NF5.out; have SSa := asd Sa; have NFa := asd nfa; obtain ⟨y0, y1, y2, y3, y4⟩ := Sa.cells; clear H5 E5 sa pa sta Sa nfa) | (go_at_call 11; refine (open_ok HB.out 1 lim (rs := rs) (by rw [EB.out]; exact O1.out)).mono ?_; rintro e w6 ⟨l6, rv, d6, rfl, s6, p6, st6, hl6, own6, ap6⟩; obtain ⟨a6, c6, er⟩ := own_len own6; subst er; have OR := asd own6; have T6 := asd (TB.out.trans st6); have P6 : Aside (d6.pl = (lOpen (Dk.opCrash (lOpen (Dk.opFuse (Dk.opCrash d.pl x.n) x.m) 1).2 x.by_) 1).2) := (by show _ = _; rw [p6, EB.out]); have OL := asd (row_kept KA.out.own (fun j hj => (KA.out.apart j hj).2) T6.out).1; have KK : Aside (KS W B l6 b (wi lim) (.slice a6 rs.length c6) rs d6 w6) := ⟨s6, own_base' own6 HB.out.hs, ap6, KA.out.bel.trans (T6.out.below (fun j hj => by have := (KA.out.sys.rep.lt j hj).1; have := KA.out.le; omega) (by have := KA.out.sys.hs; have := KA.out.le; omega)), KA.out.le⟩; clear s6 p6 st6 own6 ap6))
          have R2 : Aside (KR W B b (wi lim) (k + 1) l6 (.slice a6 rs.length c6) rs.length w8) := by
            obtain ⟨⟨G2, g1, g2, _⟩, _⟩ := BK.out
            exact ⟨rs, d8, G2, K8.out, by rw [PE.out, P6.out]; exact g1.same (g1.inv.ok.opFuse (by decide)) (fuse_files _ _), g2, by omega⟩
          go_roundg (n - (k + 1))
          case measure => omega
          case rel => exact ⟨k + 1, l6, rs.length, Nat.le_refl _, by omega, by go_num, rfl, rfl, R2⟩
      · go_wp2_with (go_at_call 27; refine (sroom_any KA.out.sys x.n).mono ?_; rintro e w4 ⟨rfl, d2, s2, pl2, st2⟩; have K4 := asd (KA.out.disk s2 st2); have P4 : Aside (Kp d2.pl G q) := (by show Kp _ _ _; rw [pl2]; exact PA.out.same (PA.out.inv.ok.opRoom _) rfl); clear s2 pl2 st2)
        have R2 : Aside (KR W B b (wi lim) (k + 1) l (.slice a9 L.length c9) q w4) := ⟨L, d2, G, K4.out, P4.out, EL.out, by omega⟩
        go_roundg (n - (k + 1))
        case measure => omega
        case rel => exact ⟨k + 1, l, q, Nat.le_refl _, by omega, by go_num, rfl, rfl, R2⟩
      · go_wp2_with (go_at_call 26; refine (sfuse_any KA.out.sys x.n FF.out.n).mono ?_; rintro e w4 ⟨rfl, d2, s2, pl2, st2⟩; have K4 := asd (KA.out.disk s2 st2); have P4 : Aside (Kp d2.pl G q) := (by show Kp _ _ _; rw [pl2]; exact PA.out.same (PA.out.inv.ok.opFuse FF.out.n) (fuse_files _ _)); clear s2 pl2 st2)
        have R2 : Aside (KR W B b (wi lim) (k + 1) l (.slice a9 L.length c9) q w4) := ⟨L, d2, G, K4.out, P4.out, EL.out, by omega⟩
        go_roundg (n - (k + 1))
        case measure => omega
        case rel => exact ⟨k + 1, l, q, Nat.le_refl _, by omega, by go_num, rfl, rfl, R2⟩
      · go_wp2
        have R2 : Aside (KR W B b (wi lim) (k + 1) l (.slice a9 L.length c9) q _) := ⟨L, d, G, KA.out, PA.out, EL.out, by omega⟩
        go_roundg (n - (k + 1))
        case measure => omega
        case rel => exact ⟨k + 1, l, q, Nat.le_refl _, by omega, by go_num, rfl, rfl, R2⟩
    · obtain rfl : k = n := by omega
      have q3 : decide (k < k) = false := by simp
      have BE := asd K0.bel
      clear K0 P0 eL
      go_wp2
      go_ret
      exact ⟨rfl, BE.out⟩
theorem keeps_any (W : World) (hV : Vars W) (ad : Option Addr) (n cap : Nat) (X : Nat → Sd) (lim : Int) (h : Sds W ad n X) :
    Calls Tryz.prog 4 #[.int .i64 lim, .slice ad n cap] W fun e w' => e = .returned (.bool true) ∧ Below W.heap.size W w' := by
  cases hsm : smallOf n X with
  | true => exact keeps_big W hV ad n cap X lim h hsm
  | false =>
    have k0 := awake_any W hV
    have K1 : Aside (∀ u, Below W.heap.size W u → Calls Tryz.prog 8 #[.slice ad n cap] u fun e w' => e = .returned (.bool false) ∧ Below u.heap.size u w') := fun u hu => by
      have := small_any ad n cap X u (h.below hu)
      rwa [hsm] at this
    clear h hsm
    go_enter Tryz.func4, Tryz.ntmps4
    go_wp2_with (first
      | (go_at_call 7; refine k0.mono ?_; rintro e w1 ⟨rfl, hb1⟩)
      | (go_at_call 8; refine (K1.out _ hb1).mono ?_; rintro e w2 ⟨rfl, hb2⟩))
    go_ret
    exact ⟨rfl, hb1.trans (hb2.mono hb1.size)⟩
end Go.Proofs.YtajjcfacbnicnaaGreatDoor
