/-
  YtajjcfacbnicnaaGreatDoor: the texts A1, K1, C1, C2, C3, C4, C5, one behind the other.
-/
import Derived.Test.YtajjcfacbnicnaaGreatDoorV28
import Derived.Test.YtajjcfacbnicnaaGreatDoorV3
import Derived.Test.YtajjcfacbnicnaaGreatDoorV14
import Derived.Test.YtajjcfacbnicnaaGreatDoorV29
import Derived.WalkKit
import Derived.WalkSpells
import Derived.WalkLawsBesides
import Derived.Deep.LoopGhost
import Derived.Laws.Externs
import Derived.Below
import Derived.BigQuiet
import Derived.Deep.RegionWith
import Derived.OwnWalk
import Derived.Maps.AppendAt
import Derived.WalkSmall
import Derived.Test.YtajjcfacbnicnaaGreatDoorV24
import Derived.Test.YtajjcfacbnicnaaGreatDoorV15
import Derived.Test.YtajjcfacbnicnaaGreatDoorV16
import Derived.Test.YtajjcfacbnicnaaGreatDoorV17
import Derived.Test.YtajjcfacbnicnaaGreatDoorV23
import Derived.Deep.RegionHeld3
import Derived.Test.YtajjcfacbnicnaaGreatDoorV27
import Derived.Test.YtajjcfacbnicnaaGreatDoorV18
/-
  awake; a new disk.
-/
namespace Go.Proofs.YtajjcfacbnicnaaGreatDoor
open Go.RowKit
set_option maxRecDepth 100000
open Fm (cellsS)
theorem heap4 {w : World} (h : Vars w) : 4 ≤ w.heap.size := by
  obtain ⟨te, pe, e⟩ := h.er
  rcases Nat.lt_or_ge 3 w.heap.size with h' | h'
  · omega
  · unfold World.cell? at e
    rw [Array.getElem?_eq_none h'] at e
    simp at e
theorem ok_empty : Dk.Ok Dk.emptySt := ⟨trivial, by simp [Dk.emptySt], by simp [Dk.emptySt], by simp [Dk.emptySt], by simp [Dk.emptySt, Dk.St.total], by simp [Dk.emptySt], by simp [Dk.emptySt], by simp [Dk.emptySt]⟩
theorem ok_new (n : Int) : Dk.Ok (Dk.opRoom Dk.emptySt n) := ok_empty.opRoom n
/-- A new disk. -/
theorem dnew_any (n : Int) (w : World) (hV : Vars w) : Calls Tryz.prog 9 #[.int .i64 n] w fun e w' => ∃ b d, e = .returned (.pointer (some ⟨b, 0, none⟩)) ∧ Dsk w.heap.size b d w' ∧ d.pl = Dk.opRoom Dk.emptySt n ∧ (∀ k ∈ d.foot b, w.heap.size ≤ k) ∧ Below w.heap.size w w' := by
  refine (Dk.new_any n w w.heap.size (Nat.le_refl _)).mono ?_
  rintro e w' ⟨b, d, h1, h2, h3, h4, h5⟩
  refine ⟨b, d, h1, ⟨h2, by rw [h3]; exact ok_new n, fun t ht => ?_, hV.below h5, heap4 hV⟩, h3, h4, h5⟩
  rw [← Dk.names_pl, h3] at ht
  cases ht
theorem crash_sz {s : Dk.Ds} {d : Dk.Ds} {k : Int} (h : ∀ n ∈ s.names, n.size ≤ 1000) (e : d.pl = Dk.opCrash s.pl k) : ∀ n ∈ d.names, n.size ≤ 1000 := fun n hn => by
  rw [← Dk.names_pl, e, Dk.crash_names, Dk.names_pl] at hn
  exact h n hn
/-- A crash of a log's disk. -/
theorem dcrash_any {B b : Nat} {d : Dk.Ds} {w : World} (h : Dsk B b d w) (last : Int) (hl : last ≤ 9223372036854775807) :
    Calls Tryz.prog 17 #[.pointer (some ⟨b, 0, none⟩), .int .i64 last] w fun e w' => e = .returned (.tuple #[]) ∧ ∃ d', Dsk B b d' w' ∧ d'.pl = Dk.opCrash d.pl last ∧ Dk.Step (d.foot b) (d'.foot b) w w' := by
  refine (Dk.crash_any h.rep h.ok last hl).mono ?_
  rintro e w' ⟨h1, d', r, p, s⟩
  exact ⟨h1, d', h.step r (by rw [p]; exact h.ok.opCrash last) (crash_sz h.sz p) s, p, s⟩
def aw0 : Dk.St := Dk.opRoom Dk.emptySt 999
def aw1 : Dk.St := (lOpen aw0 1).2
def aw2 : Dk.St := (lAppend aw1 1 (wi 500) ⟨#[97, 98]⟩ 0).2
def aw3 : Dk.St := (lSync aw2 1).2
def aw4 : Dk.St := (lAppend aw3 1 (wi 500) ⟨#[99, 100]⟩ 0).2
def aw5 : Dk.St := Dk.opCrash aw4 3
def aw6 : Dk.St := (lOpen aw5 1).2
theorem aw_open : (lOpen aw0 1).1.toOption = some [] := by decide +kernel
theorem aw_a : (lAppend aw1 1 (wi 500) ⟨#[97, 98]⟩ 0).1 = 0 := by decide +kernel
theorem aw_b : (lSync aw2 1).1 = 0 := by decide +kernel
theorem aw_c : (lAppend aw3 1 (wi 500) ⟨#[99, 100]⟩ 0).1 = 0 := by decide +kernel
theorem aw_again : (lOpen aw5 1).1.toOption = some [⟨#[97, 98]⟩] := by decide +kernel
theorem aw_bytes : lBytes aw6 1 = 12 := by decide +kernel
theorem aw_last : lLast aw6 1 = 1 := by decide +kernel
theorem ok_of {x : Except Int (List ByteArray)} {l : List ByteArray} (h : x.toOption = some l) : x = .ok l := by
  cases x with
  | error e => cases h
  | ok a =>
    injection h with h
    rw [h]
/-- What Open leaves where the records are these. -/
theorem open_ok {B b : Nat} {d : Dk.Ds} {w : World} (h : Dsk B b d w) (f lim : Int) {rs : List ByteArray} (hr : (lOpen d.pl f).1 = .ok rs) :
    Calls Tryz.prog 11 #[.pointer (some ⟨b, 0, none⟩), .int .i64 f, .int .i64 lim] w fun e w' => ∃ l rv d', e = .returned (.tuple #[.pointer (some ⟨l, 0, none⟩), rv, .int .i64 0]) ∧ Sys B l b f (wi lim) d' w' ∧ d'.pl = (lOpen d.pl f).2 ∧ Dk.Step (d.foot b) (d'.foot b) w w' ∧ w.heap.size ≤ l ∧ w'.ownsRow w.heap.size 9 1 rv rs.length (cellsS rs) ∧ ∀ j, rv.ownBlock = some j → j ≠ l ∧ j ∉ d'.foot b := by
  refine (open_any h f lim).mono ?_
  rintro e w' ⟨d', h1, h2, h3, ⟨c, h4, _⟩ | ⟨rs', l, rv, h4, h5, h6, h7, h8, h9⟩⟩
  · rw [hr] at h4
    cases h4
  · rw [hr] at h4
    injection h4 with h4
    subst h4
    exact ⟨l, rv, d', h5, h6, h2, h3, h7, h8, h9⟩
set_option maxHeartbeats 4000000 in
theorem awake_any (w : World) (hV : Vars w) : Calls Tryz.prog 7 #[] w fun e w' => e = .returned (.bool true) ∧ Below w.heap.size w w' := by
  have k9 := dnew_any 999 w hV
  have A1 := asd (ok_of aw_open)
  have A2 := asd (ok_of aw_again)
  have T1 := asd trivial
  have T2 := asd trivial
  go_enter Tryz.func7, Tryz.ntmps7
  go_wp2_with (first
    | (go_at_call 9; refine k9.mono ?_; rintro e w1 ⟨b, d, rfl, D0, p0, f0, b0⟩; have H0 := asd D0; have P0 : Aside (d.pl = aw0) := p0; have F0 := asd f0; have B0 := asd b0; clear D0 p0 f0 b0 k9)
    | (clear T1; go_at_call 11; refine (open_ok H0.out 1 500 (by rw [P0.out]; exact A1.out)).mono ?_; rintro e w2 ⟨l, rv, d1, rfl, s1, p1, st1, hl1, _, _⟩; have H1 := asd s1; have P1 : Aside (d1.pl = aw1) := (by show d1.pl = aw1; rw [p1, P0.out]; rfl); have S1 := asd st1; clear s1 p1 st1)
    | (clear T2; go_at_call 13; refine (lappend_any H1.out (by decide) (by decide) ⟨#[97, 98]⟩ 0 (by decide)).mono ?_; rw [P1.out, aw_a]; rintro e w3 ⟨rfl, d2, s2, p2, st2⟩; have H2 := asd s2; have P2 : Aside (d2.pl = aw2) := p2; have S2 := asd (S1.out.trans st2); clear s2 p2 st2)
    | (go_at_call 15; refine (lsync_any H2.out).mono ?_; rw [P2.out, aw_b]; rintro e w4 ⟨rfl, d3, s3, p3, st3⟩; have H3 := asd s3; have P3 : Aside (d3.pl = aw3) := p3; have S3 := asd (S2.out.trans st3); clear s3 p3 st3)
    | (go_at_call 13; refine (lappend_any H3.out (by decide) (by decide) ⟨#[99, 100]⟩ 0 (by decide)).mono ?_; rw [P3.out, aw_c]; rintro e w5 ⟨rfl, d4, s4, p4, st4⟩; have H4 := asd s4.dsk; have P4 : Aside (d4.pl = aw4) := p4; have S4 := asd (S3.out.trans st4); clear s4 p4 st4)
    | (go_at_call 17; refine (dcrash_any H4.out 3 (by decide)).mono ?_; rintro e w6 ⟨rfl, d5, s5, p5, st5⟩; have H5 := asd s5; have P5 : Aside (d5.pl = aw5) := (by show d5.pl = aw5; rw [p5, P4.out]; rfl); have S5 := asd (S4.out.trans st5); clear s5 p5 st5)
    | (go_at_call 11; refine (open_ok H5.out 1 500 (by rw [P5.out]; exact A2.out)).mono ?_; rintro e w7 ⟨l2, rv2, d6, rfl, s6, p6, st6, hl6, own6, _⟩; have H6 := asd s6; have P6 : Aside (d6.pl = aw6) := (by show d6.pl = aw6; rw [p6, P5.out]; rfl); have S6 := asd (S5.out.trans st6); obtain ⟨g6, c6, e6, _, _, hg6⟩ := Dk.own_form own6 (by decide); subst e6; have c60 : w7.cell? ⟨g6, 0, none⟩ = some (.string ⟨#[97, 98]⟩) := Dk.own_cell own6 hg6 rfl; clear s6 p6 st6 own6 hg6)
    | (go_at_call 24; refine (lbytes_any H6.out).mono ?_; rw [P6.out, aw_bytes]; rintro e w8 ⟨rfl, b8⟩; have H8 := asd (H6.out.below b8))
    | (go_at_call 23; refine (llast_any H8.out).mono ?_; rw [P6.out, aw_last]; rintro e w9 ⟨rfl, b9⟩; have S9 := asd (S6.out.trans (Dk.Step.ofBelow (b8.trans (b9.mono b8.size))))))
  go_ret
  refine ⟨rfl, B0.out.trans (S9.out.below F0.out B0.out.size)⟩
end Go.Proofs.YtajjcfacbnicnaaGreatDoor

/-
  Files by their names; what Append leaves of them.
-/
namespace Go.Proofs.YtajjcfacbnicnaaGreatDoor
open Go.RowKit
set_option maxRecDepth 100000
theorem file_uniq : ∀ {l : List Dk.F}, (l.map Dk.F.name).Nodup → ∀ {f g : Dk.F}, f ∈ l → g ∈ l → f.name = g.name → f = g
  | [], _, _, _, h, _, _ => by cases h
  | a :: r, hn, f, g, hf, hg, e => by
    have h1 := List.nodup_cons.1 hn
    rcases List.mem_cons.1 hf with e1 | hf2
    · rcases List.mem_cons.1 hg with e2 | hg2
      · rw [e1, e2]
      · exact absurd (List.mem_map.2 ⟨g, hg2, by rw [← e, e1]⟩) h1.1
    · rcases List.mem_cons.1 hg with e2 | hg2
      · exact absurd (List.mem_map.2 ⟨f, hf2, by rw [e, e2]⟩) h1.1
      · exact file_uniq h1.2 hf2 hg2 e
theorem make_rest (s : Dk.St) (n : ByteArray) : (s.make n).room = s.room ∧ (s.make n).down = s.down ∧ (s.make n).fused = s.fused ∧ (s.make n).fuse = s.fuse ∧ (s.make n).pieces = s.pieces := by
  unfold Dk.St.make
  split <;> exact ⟨rfl, rfl, rfl, rfl, rfl⟩
theorem total_set {l : List Dk.F} {i : Nat} {f g : Dk.F} (h : l[i]? = some f) : Dk.totalF (l.set i g) + f.bytes.length = Dk.totalF l + g.bytes.length := by
  obtain ⟨hi, e⟩ := List.getElem?_eq_some_iff.1 h
  have e1 : l = l.take i ++ f :: l.drop (i + 1) := by
    rw [← e, List.getElem_cons_drop, List.take_append_drop]
  have e2 : l.set i g = l.take i ++ g :: l.drop (i + 1) := by rw [List.set_eq_take_append_cons_drop, if_pos hi]
  rw [e2, Dk.totalF_mid]
  conv => rhs; rw [e1]
  rw [Dk.totalF_mid]
  omega
theorem mem_names {s : Dk.St} {f : Dk.F} (h : f ∈ s.files) : f.name ∈ s.names := List.mem_map.2 ⟨f, h, rfl⟩
/-- The file of a name, where it stands. -/
theorem file_at {s : Dk.St} (ok : Dk.Ok s) {f : Dk.F} (h : f ∈ s.files) : Dk.has s.names f.name = true ∧ s.files[Dk.place s.names f.name]? = some f := by
  have hh := Dk.has_iff.2 (mem_names h)
  obtain ⟨g, h1, h2, h3⟩ := Dk.has_get ok.rising hh
  rw [file_uniq ok.rising.nodup h h3 h2.symm]
  rw [h2] at *
  exact ⟨hh, h1⟩
theorem tx_of {s : Dk.St} (ok : Dk.Ok s) {f : Dk.F} (h : f ∈ s.files) {n : Int} (hn : f.name = nmL n) : tx s n = Fm.bs f.bytes ∧ th s n = true := by
  obtain ⟨h1, h2⟩ := file_at ok h
  rw [hn] at h1 h2
  unfold tx th Dk.opRead Dk.St.bytesOf
  rw [if_pos h1, h2]
  exact ⟨rfl, rfl⟩
theorem tx_no {s : Dk.St} {n : Int} (h : nmL n ∉ s.names) : tx s n = ⟨#[]⟩ ∧ th s n = false := by
  unfold tx th Dk.opRead
  rw [Dk.has_not.2 h]
  exact ⟨rfl, rfl⟩
theorem dec_digits : ∀ (k u : Nat), u ≤ k → ∀ b ∈ Lib.decDigits u, 48 ≤ b.toNat ∧ b.toNat ≤ 57
  | k, u, h => by
    induction k generalizing u with
    | zero =>
      obtain rfl : u = 0 := by omega
      rw [Lib.decDigits_one (by omega)]
      intro b hb
      simp at hb
      subst hb
      decide
    | succ k ih =>
      intro b hb
      by_cases hu : u < 10
      · rw [Lib.decDigits_one hu] at hb
        simp only [List.mem_singleton] at hb
        subst hb
        rw [Fi.dig_nat hu]
        omega
      · rw [Lib.decDigits, dif_neg hu] at hb
        rcases List.mem_append.1 hb with hb | hb
        · exact ih (u / 10) (by omega) b hb
        · simp only [List.mem_singleton] at hb
          subst hb
          rw [Fi.dig_nat (by omega)]
          omega
theorem nmL_may {n : Int} (h1 : 1 ≤ n) (h2 : n ≤ 99999) : Dk.mayBe (nmL n) = true := by
  have hz := nmL_size n
  have hne : ¬ (nmL n).size = 0 := fun h => nmL_empty.1 h ⟨h1, h2⟩
  unfold Dk.mayBe
  rw [decide_eq_true (by omega), decide_eq_true (by omega)]
  show List.all _ _ = true
  rw [List.all_eq_true]
  intro b hb
  have e : (nmL n).data.toList = Fi.nm LG.data.toList n := by simp [nmL, nmB]
  rw [e, Fi.nm_in wd_LG h1 h2] at hb
  rcases List.mem_append.1 hb with hb | hb
  · have : b = 108 ∨ b = 111 ∨ b = 103 := by simpa [LG] using hb
    rcases this with rfl | rfl | rfl <;> decide
  · rcases List.mem_cons.1 hb with rfl | hb
    · decide
    · obtain ⟨h3, h4⟩ := dec_digits _ _ (Nat.le_refl _) b hb
      unfold Dk.nb
      simp
      omega
/-- What Append leaves of the files. -/
theorem app_files {s : Dk.St} (ok : Dk.Ok s) {n x : ByteArray} (hp : s.power = true) (hm : Dk.mayBe n = true) (hf : s.full n x = false) (hx : x.size ≠ 0) :
    (Dk.opAppend s n x).1 = 0 ∧ (∀ f ∈ s.files, f.name ≠ n → f ∈ (Dk.opAppend s n x).2.files) ∧
    (∀ f ∈ s.files, f.name = n → (⟨n, f.bytes ++ x.data.toList, f.sure⟩ : Dk.F) ∈ (Dk.opAppend s n x).2.files) ∧
    (n ∉ s.names → (⟨n, x.data.toList, 0⟩ : Dk.F) ∈ (Dk.opAppend s n x).2.files) ∧
    (∀ t, t ∈ (Dk.opAppend s n x).2.names ↔ t ∈ s.names ∨ t = n) ∧ (Dk.opAppend s n x).2.total = s.total + x.size ∧
    (Dk.opAppend s n x).2.files.length = s.files.length + (if Dk.has s.names n then 0 else 1) ∧ (Dk.opAppend s n x).2.room = s.room ∧ (Dk.opAppend s n x).2.down = false ∧ (Dk.opAppend s n x).2.fused = s.fused := by
  have hxl : x.data.toList.length = x.size := rfl
  have hnd : s.down = false := by
    unfold Dk.St.power at hp
    simp at hp
    exact hp.1
  have hfew : Dk.has s.names n = false → s.files.length < 16 := fun hh => by
    unfold Dk.St.full at hf
    rw [hh] at hf
    simp at hf
    have := ok.few
    omega
  have he : Dk.opAppend s n x = (0, (s.spent.make n).more (Dk.place s.names n) n x) := by
    unfold Dk.opAppend
    rw [if_pos hp, if_pos hm, if_neg (by rw [hf]; decide), if_neg hx]
  rw [he]
  dsimp only
  obtain ⟨okm, htot, f0, hf0, hf0n⟩ := ok.spent.make n hfew
  rw [show s.spent.names = s.names from rfl] at hf0
  have hmore : ((s.spent.make n).more (Dk.place s.names n) n x) = { (s.spent.make n) with files := (s.spent.make n).files.set (Dk.place s.names n) ⟨f0.name, f0.bytes ++ x.data.toList, f0.sure⟩, pieces := (s.spent.make n).pieces ++ [⟨n, x.size⟩] } := by
    unfold Dk.St.more
    rw [hf0]
  have hi : Dk.place s.names n < (s.spent.make n).files.length := (List.getElem?_eq_some_iff.1 hf0).1
  have hget : (s.spent.make n).files[Dk.place s.names n] = f0 := (List.getElem?_eq_some_iff.1 hf0).2
  have hmk : ∀ f ∈ s.files, f ∈ (s.spent.make n).files := fun f hfm => by
    unfold Dk.St.make
    split
    · exact hfm
    · show f ∈ s.files.take _ ++ _ :: s.files.drop _
      have : f ∈ s.files.take (Dk.place s.names n) ++ s.files.drop (Dk.place s.names n) := by rw [List.take_append_drop]; exact hfm
      rcases List.mem_append.1 this with h | h
      · exact List.mem_append_left _ h
      · exact List.mem_append_right _ (List.mem_cons_of_mem _ h)
  have hin : (⟨f0.name, f0.bytes ++ x.data.toList, f0.sure⟩ : Dk.F) ∈ (s.spent.make n).files.set (Dk.place s.names n) ⟨f0.name, f0.bytes ++ x.data.toList, f0.sure⟩ := List.mem_iff_getElem.2 ⟨Dk.place s.names n, by simpa using hi, by simp⟩
  have hnames : ((s.spent.make n).more (Dk.place s.names n) n x).names = (s.spent.make n).names := names_more _ _ _ _
  refine ⟨rfl, fun f hfm hne => ?_, fun f hfm hn => ?_, fun hn => ?_, fun t => ?_, ?_, ?_, ?_, ?_, ?_⟩
  · rw [hmore]
    obtain ⟨j, hj, rfl⟩ := List.getElem_of_mem (hmk f hfm)
    have hji : Dk.place s.names n ≠ j := fun e => by
      subst e
      rw [hget] at hne
      exact hne hf0n
    exact List.mem_iff_getElem.2 ⟨j, by simpa using hj, by simp [hji]⟩
  · rw [hmore]
    have e : f0 = f := file_uniq okm.rising.nodup (by rw [← hget]; exact List.getElem_mem hi) (hmk f hfm) (by rw [hf0n, hn])
    subst e
    have h9 : (⟨n, f0.bytes ++ x.data.toList, f0.sure⟩ : Dk.F) = ⟨f0.name, f0.bytes ++ x.data.toList, f0.sure⟩ := by rw [hf0n]
    rw [h9]
    exact hin
  · rw [hmore]
    have e : f0 = ⟨n, [], 0⟩ := by
      refine file_uniq okm.rising.nodup (by rw [← hget]; exact List.getElem_mem hi) ?_ hf0n
      unfold Dk.St.make
      rw [if_neg (show ¬ Dk.has s.spent.names n = true by rw [show Dk.has s.spent.names n = false from Dk.has_not.2 hn]; decide)]
      exact List.mem_append_right _ List.mem_cons_self
    have h9 : (⟨n, x.data.toList, 0⟩ : Dk.F) = ⟨f0.name, f0.bytes ++ x.data.toList, f0.sure⟩ := by rw [e]; rfl
    rw [h9]
    exact hin
  · show t ∈ ((s.spent.make n).more (Dk.place s.names n) n x).names ↔ _
    rw [hnames]
    constructor
    · intro h
      exact mem_make (s := s.spent) h
    · rintro (h | rfl)
      · obtain ⟨f, h1, rfl⟩ := List.mem_map.1 h
        exact List.mem_map.2 ⟨f, hmk f h1, rfl⟩
      · exact List.mem_map.2 ⟨f0, by rw [← hget]; exact List.getElem_mem hi, hf0n⟩
  · rw [hmore]
    have h1 := total_set (g := ⟨f0.name, f0.bytes ++ x.data.toList, f0.sure⟩) hf0
    have h2 : Dk.totalF (s.spent.make n).files = s.total := htot
    show Dk.totalF ((s.spent.make n).files.set (Dk.place s.names n) ⟨f0.name, f0.bytes ++ x.data.toList, f0.sure⟩) = s.total + x.size
    rw [List.length_append, hxl] at h1
    omega
  · rw [hmore]
    show ((s.spent.make n).files.set _ _).length = _
    rw [List.length_set]
    unfold Dk.St.make
    cases h : Dk.has s.names n with
    | true =>
      rw [if_pos (show Dk.has s.spent.names n = true from h)]
      rfl
    | false =>
      rw [if_neg (show ¬ Dk.has s.spent.names n = true by rw [show Dk.has s.spent.names n = false from h]; decide)]
      show (s.files.take (Dk.place s.names n) ++ (⟨n, [], 0⟩ : Dk.F) :: s.files.drop (Dk.place s.names n)).length = s.files.length + 1
      rw [List.length_append, List.length_cons, List.length_take, List.length_drop]
      have : Dk.place s.names n ≤ s.files.length := by
        have := Dk.place_le s.names n
        have e : s.names.length = s.files.length := by simp [Dk.St.names]
        omega
      omega
  · rw [hmore]
    exact (make_rest s.spent n).1
  · rw [hmore]
    refine (make_rest s.spent n).2.1.trans ?_
    show (!s.power) = false
    rw [hp]
    rfl
  · rw [hmore]
    exact (make_rest s.spent n).2.2.1
end Go.Proofs.YtajjcfacbnicnaaGreatDoor

/-
  The document's log: a segment's bytes.
-/
namespace Go.Proofs.YtajjcfacbnicnaaGreatDoor
open Go.RowKit
set_option maxRecDepth 100000
/-- The document's disk in memory, alike to a plain one. -/
structure Rb (w : World) (B c : Nat) (d : Dk.Ds) (r : Dk.Rs) : Prop where
  rrep : Dk.RRep w B c r
  ok : Dk.Ok d.pl
  rel : ∃ T, Dk.Rel d.pl r.pl T
theorem Rb.below {w w' : World} {B c : Nat} {d : Dk.Ds} {r : Dk.Rs} (h : Rb w B c d r) (hb : Below w.heap.size w w') : Rb w' B c d r := ⟨h.rrep.below hb, h.ok, h.rel⟩
theorem Rb.rok {w : World} {B c : Nat} {d : Dk.Ds} {r : Dk.Rs} (h : Rb w B c d r) (hc : r.count ≤ 1000000) : Dk.ROk r.pl := by
  obtain ⟨T, hT⟩ := h.rel
  exact hT.ok h.ok hc
theorem Rb.rise {w : World} {B c : Nat} {d : Dk.Ds} {r : Dk.Rs} (h : Rb w B c d r) : Dk.Rising r.names := by
  obtain ⟨T, hT⟩ := h.rel
  rw [← Dk.rnames_pl, hT.nm]
  exact h.ok.rising
theorem rb_of {w : World} {B b c : Nat} {d : Dk.Ds} {r : Dk.Rs} (h : Dk.Both w B b c d r) : Rb w B c d r := ⟨h.rrep, h.ok, h.rel⟩
/-- A file's bytes, by the document's disk, are the program's. -/
theorem rel_tx {d : Dk.Ds} {r : Dk.Rs} (ok : Dk.Ok d.pl) (hR : ∃ T, Dk.Rel d.pl r.pl T) {i : Nat} {f : Dk.Gv} {n : Int} (hf : r.files[i]? = some f) (hn : f.name = nmL n) : tx d.pl n = ⟨f.bytes.toArray⟩ ∧ th d.pl n = true := by
  obtain ⟨T, hT⟩ := hR
  have h1 := Dk.rpl_get hf
  rw [hT.files, List.getElem?_map] at h1
  cases h2 : d.pl.files[i]? with
  | none => rw [h2] at h1; cases h1
  | some F =>
    rw [h2] at h1
    simp only [Option.map_some, Option.some.injEq] at h1
    have e1 : F.name = f.name := congrArg Dk.G.name h1
    have e2 : F.bytes = f.bytes := congrArg Dk.G.bytes h1
    have := tx_of ok (List.mem_of_getElem? h2) (e1.trans hn)
    rw [e2] at this
    exact this
theorem rel_no {d : Dk.Ds} {r : Dk.Rs} (hR : ∃ T, Dk.Rel d.pl r.pl T) {n : Int} (hh : Dk.has r.names (nmL n) = false) : tx d.pl n = ⟨#[]⟩ ∧ th d.pl n = false := by
  obtain ⟨T, hT⟩ := hR
  have h1 := hT.nm
  rw [Dk.rnames_pl] at h1
  refine tx_no fun hm => ?_
  rw [h1, Dk.has_iff.2 hm] at hh
  cases hh
set_option maxHeartbeats 1600000 in
/-- The document's Bytes of a segment. -/
theorem rbytes_any {w : World} {B c : Nat} {d : Dk.Ds} {r : Dk.Rs} (h : Rb w B c d r) (hc : r.count ≤ 1000000) (n : Int) :
    Calls Tryz.prog 42 #[.pointer (some ⟨c, 0, none⟩), .int .i64 n] w fun e w' => e = .returned (.tuple #[.string (tx d.pl n), .bool (th d.pl n)]) ∧ Below w.heap.size w w' := by
  have k32 := refName_any LG n w
  have few := (h.rok hc).dfew
  have KA : Aside (∀ u : World, Below w.heap.size w u → Calls Tryz.prog 78 #[.pointer (some ⟨c, 0, none⟩), .string (nmL n)] u fun e w' => e = .returned (.int .i64 (Dk.atOf r.names (nmL n))) ∧ w' = u) := fun u hu => Dk.at_any (h.rrep.below hu) (by omega) (nmL n)
  cases hh : Dk.has r.names (nmL n) with
  | false =>
    obtain ⟨e1, e2⟩ := rel_no h.rel hh
    rw [e1, e2]
    rw [Dk.at_none hh] at KA
    clear h hh
    go_enter Tryz.func42, Tryz.ntmps42
    go_wp2_with (first
      | (go_at_call 32; refine k32.mono ?_; rintro e w1 ⟨rfl, b1⟩)
      | (go_at_call 78; refine (KA.out _ b1).mono ?_; rintro e w2 ⟨rfl, rfl⟩))
    go_ret2
    exact ⟨rfl, b1⟩
  | true =>
    obtain ⟨i, f, e1, hf, hn, hm⟩ := Dk.atOf_get hh
    obtain ⟨t1, t2⟩ := rel_tx h.ok h.rel hf hn
    rw [t1, t2]
    rw [e1] at KA
    have hil : i < r.files.length := (List.getElem?_eq_some_iff.1 hf).1
    obtain ⟨g, cap, ev, hcap, _, hg⟩ := Dk.own_form h.rrep.tab (by omega)
    have H := asd h
    have EV := asd ev
    have CV := asd (fun (u : World) (hu : Below w.heap.size w u) => (show (u.cell? ⟨c, 0, none⟩ = some (.slice (some ⟨g, 0, none⟩) r.files.length cap) ∧ u.cell? ⟨g, i * 3 + 1, none⟩ = some f.vb ∧ (convert 46 9 f.vb).run Tryz.prog u = .ok (.string ⟨f.bytes.toArray⟩) u) from by
      have h2 := H.out.below hu
      refine ⟨by rw [← EV.out]; exact h2.rrep.c0, (h2.rrep.fcells hf hg).2.1, Dk.conv_row (h2.rrep.rb f hm)⟩))
    have dl : decide (i < r.files.length) = true := decide_eq_true hil
    clear h hh ev hg hn t1 t2 hm e1
    go_enter Tryz.func42, Tryz.ntmps42
    go_wp2_with (first
      | (go_at_call 32; refine k32.mono ?_; rintro e w1 ⟨rfl, b1⟩)
      | (go_at_call 78; refine (KA.out _ b1).mono ?_; rintro e w2 ⟨rfl, rfl⟩; obtain ⟨c0, c1, cv⟩ := CV.out _ b1))
    go_ret2
    exact ⟨rfl, b1⟩
end Go.Proofs.YtajjcfacbnicnaaGreatDoor

/-
  The document's log: Sync.
-/
namespace Go.Proofs.YtajjcfacbnicnaaGreatDoor
open Go.RowKit
set_option maxRecDepth 100000
/-- The document's log in memory. -/
def LrAt (w : World) (y c : Nat) (f la m : Int) : Prop := w.heap[y]? = some (.cells #[.pointer (some ⟨c, 0, none⟩), .int .i64 f, .int .i64 la, .int .i64 m] 51 (0, 0))
theorem LrAt.lt {w : World} {y c : Nat} {f la m : Int} (h : LrAt w y c f la m) : y < w.heap.size := (Array.getElem?_eq_some_iff.1 h).1
theorem LrAt.cells {w : World} {y c : Nat} {f la m : Int} (h : LrAt w y c f la m) : w.cell? ⟨y, 0, none⟩ = some (.pointer (some ⟨c, 0, none⟩)) ∧ w.cell? ⟨y, 1, none⟩ = some (.int .i64 f) ∧ w.cell? ⟨y, 2, none⟩ = some (.int .i64 la) ∧ w.cell? ⟨y, 3, none⟩ = some (.int .i64 m) :=
  ⟨by rw [cell_of_row w y 0 _ _ _ h]; rfl, by rw [cell_of_row w y 1 _ _ _ h]; rfl, by rw [cell_of_row w y 2 _ _ _ h]; rfl, by rw [cell_of_row w y 3 _ _ _ h]; rfl⟩
theorem LrAt.below {w w' : World} {y c : Nat} {f la m : Int} (h : LrAt w y c f la m) (hb : Below w.heap.size w w') : LrAt w' y c f la m := (hb.block y h.lt).trans h
theorem LrAt.step {w w' : World} {y c : Nat} {f la m : Int} {fo fo' : List Nat} (h : LrAt w y c f la m) (st : Dk.Step fo fo' w w') (hn : y ∉ fo) : LrAt w' y c f la m := (st.block y h.lt hn).trans h
/-- What the document's Sync does. -/
def rlSync (s : Dk.St) (q : Dk.RS) (la : Int) : Int × Dk.RS := if th s la then Dk.rSync q (nmL la) else (0, q)
theorem rlsync_none (w : World) : Calls Tryz.prog 16 #[.pointer none] w fun e w' => e = .returned (.int .i64 1) ∧ w' = w := by
  go_enter Tryz.func16, Tryz.ntmps16
  go_wp2
  go_ret
  exact ⟨rfl, rfl⟩
set_option maxHeartbeats 1600000 in
theorem rlsync_any {w : World} {B c y : Nat} {d : Dk.Ds} {r : Dk.Rs} {f la m : Int} (h : Rb w B c d r) (hc : r.count ≤ 1000000) (hy : LrAt w y c f la m) (_hn : y ∉ r.foot c) :
    Calls Tryz.prog 16 #[.pointer (some ⟨y, 0, none⟩)] w fun e w' => e = .returned (.int .i64 (rlSync d.pl r.pl la).1) ∧ ∃ r', Dk.RRep w' B c r' ∧ r'.pl = (rlSync d.pl r.pl la).2 ∧ Dk.Step (r.foot c) (r'.foot c) w w' := by
  have H := asd h
  have HY := asd hy
  have ROK := asd (h.rok hc)
  have KB := asd (fun (u : World) (hu : Below w.heap.size w u) => rbytes_any (H.out.below hu) hc la)
  have KN := asd (fun (u : World) => refName_any LG la u)
  have KS := asd (fun (u : World) (hu : Below w.heap.size w u) => Dk.rsync_any (H.out.rrep.below hu) ROK.out (nmL la))
  have CY := asd (fun (u : World) (hu : Below w.heap.size w u) => (HY.out.below hu).cells)
  obtain ⟨c0, c1, c2, c3⟩ := hy.cells
  unfold rlSync
  clear h hy
  generalize tx d.pl la = T at *
  cases hh : th d.pl la with
  | false =>
    rw [hh] at KB
    clear hh KS
    simp only [Bool.false_eq_true, if_false]
    go_enter Tryz.func16, Tryz.ntmps16
    go_wp2
    go_region_held3 (fun u => u.cell? ⟨y, 0, none⟩ = some (.pointer (some ⟨c, 0, none⟩)) ∧ u.cell? ⟨y, 2, none⟩ = some (.int .i64 la)) (go_keep) ((go_at_call 42; refine (KB.out w.drew ⟨rfl, rfl, rfl, Nat.le_refl _, fun _ _ => rfl⟩).mono ?_; rintro e w1 ⟨rfl, b1⟩; have bb : Below w.heap.size w w1 := Dk.below_drew b1; obtain ⟨z0, z1, z2, z3⟩ := CY.out w1 bb))
    go_wp2
    go_ret
    exact ⟨rfl, r, H.out.rrep.below bb, rfl, Dk.Step.ofBelow bb⟩
  | true =>
    rw [hh] at KB
    clear hh
    simp only [if_true]
    generalize (Dk.rSync r.pl (nmL la)).1 = A at *
    go_enter Tryz.func16, Tryz.ntmps16
    go_wp2
    go_region_held3 (fun u => u.cell? ⟨y, 0, none⟩ = some (.pointer (some ⟨c, 0, none⟩)) ∧ u.cell? ⟨y, 2, none⟩ = some (.int .i64 la)) (go_keep) ((go_at_call 42; refine (KB.out w.drew ⟨rfl, rfl, rfl, Nat.le_refl _, fun _ _ => rfl⟩).mono ?_; rintro e w1 ⟨rfl, b1⟩; have bb : Below w.heap.size w w1 := Dk.below_drew b1; obtain ⟨z0, z1, z2, z3⟩ := CY.out w1 bb))
    go_wp2
    go_region_held3 (fun u => u.cell? ⟨y, 0, none⟩ = some (.pointer (some ⟨c, 0, none⟩)) ∧ u.cell? ⟨y, 2, none⟩ = some (.int .i64 la)) (go_keep) ((first
      | (go_at_call 32; refine (KN.out _).mono ?_; rintro e w2 ⟨rfl, b2⟩; have bb2 : Below w.heap.size w w2 := bb.trans ((Dk.below_drew b2).mono bb.size); obtain ⟨y0, y1, y2, y3⟩ := CY.out w2 bb2)
      | (go_at_call 52; refine (KS.out w2 bb2).mono ?_; rintro e w3 ⟨rfl, r3, R3, p3, st3⟩; have L3 := (HY.out.below bb2).step st3 _hn; obtain ⟨x0, x1, x2, x3⟩ := L3.cells)))
    go_wp2
    go_ret
    exact ⟨rfl, r3, R3, p3, (Dk.Step.ofBelow bb2).trans st3⟩
end Go.Proofs.YtajjcfacbnicnaaGreatDoor

/-
  The document's log: Size.
-/
namespace Go.Proofs.YtajjcfacbnicnaaGreatDoor
open Go.RowKit
set_option maxRecDepth 100000
/-- How many bytes k segments from f on have. -/
def rlSize (s : Dk.St) (f : Int) (k : Nat) : Nat := ((List.range k).map fun (i : Nat) => (tx s (f + (i : Int))).size).sum
theorem rlSize_succ (s : Dk.St) (f : Int) (k : Nat) : rlSize s f (k + 1) = rlSize s f k + (tx s (f + (k : Int))).size := by
  unfold rlSize
  rw [List.range_succ, List.map_append, List.sum_append]
  simp
theorem rlSize_le {s : Dk.St} (h : ∀ n, (tx s n).size ≤ 60000) (f : Int) : ∀ k, rlSize s f k ≤ 60000 * k
  | 0 => by simp [rlSize]
  | k + 1 => by
    rw [rlSize_succ]
    have := rlSize_le h f k
    have := h (f + (k : Int))
    omega
set_option maxHeartbeats 1600000 in
theorem rlsize_any {w : World} {B c y : Nat} {d : Dk.Ds} {r : Dk.Rs} {f la m : Int} (h : Rb w B c d r) (hc : r.count ≤ 1000000) (hy : LrAt w y c f la m) (h1 : 1 ≤ f) (h2 : la ≤ 99999) :
    Calls Tryz.prog 25 #[.pointer (some ⟨y, 0, none⟩)] w fun e w' => e = .returned (.int .i64 (rlSize d.pl f (la + 1 - f).toNat : Nat)) ∧ Below w.heap.size w w' := by
  have H := asd h
  have HY := asd hy
  have KB := asd (fun (n : Int) (u : World) (hu : Below w.heap.size w u) => rbytes_any (H.out.below hu) hc n)
  have CY := asd (fun (u : World) (hu : Below w.heap.size w u) => (HY.out.below hu).cells)
  have TL := asd (fun n => lg_text_len h.ok n)
  have SL := asd (rlSize_le TL.out f)
  obtain ⟨c0, c1, c2, c3⟩ := hy.cells
  clear h hy
  go_enter Tryz.func25, Tryz.ntmps25
  go_wp2
  clear c0 c1 c2 c3
  go_loopg [4, 3, 5, 6] (la + 1 - f).toNat (fun gh s4 s3 _ _ wr => ∃ k : Nat, (la + 1 - f).toNat - k ≤ gh ∧ k ≤ (la + 1 - f).toNat ∧ s4 = .int .i64 (f + (k : Int)) ∧ s3 = .int .i64 (rlSize d.pl f k : Nat) ∧ Below w.heap.size w wr)
  case atStart => exact ⟨0, by omega, by omega, by simp, rfl, Below.refl _ _⟩
  case round =>
    obtain ⟨k, hgh, hk, rfl, rfl, hb⟩ := hrel
    obtain ⟨c0, c1, c2, c3⟩ := CY.out wr hb
    have s1 := SL.out k
    by_cases hlt : k < (la + 1 - f).toNat
    · have q1 : decide (f + (k : Int) ≤ la) = true := decide_eq_true (by omega)
      have q2 : decide (la < f + (k : Int)) = false := decide_eq_false (by omega)
      have s2 := TL.out (f + (k : Int))
      have RS := asd (rlSize_succ d.pl f k)
      have KC := KB.out (f + (k : Int)) wr hb
      generalize tx d.pl (f + (k : Int)) = T at *
      generalize th d.pl (f + (k : Int)) = T2 at *
      have RS2 : Aside (rlSize d.pl f (k + 1) = rlSize d.pl f k + T.size) := RS.out
      clear RS
      generalize hz : rlSize d.pl f k = Z at *
      clear hz
      go_wp2_with (go_at_call 42; refine KC.mono ?_; rintro e w1 ⟨rfl, b1⟩; have bb : Below w.heap.size w w1 := hb.trans (b1.mono hb.size))
      go_roundg ((la + 1 - f).toNat - (k + 1))
      case measure => omega
      case rel => exact ⟨k + 1, Nat.le_refl _, by omega, by go_num, by rw [RS2.out]; go_num, bb⟩
    · obtain rfl : k = (la + 1 - f).toNat := by omega
      have q1 : decide (f + ((la + 1 - f).toNat : Int) ≤ la) = false := decide_eq_false (by omega)
      have q2 : decide (la < f + ((la + 1 - f).toNat : Int)) = true := decide_eq_true (by omega)
      go_wp2
      go_ret
      exact ⟨rfl, hb⟩
end Go.Proofs.YtajjcfacbnicnaaGreatDoor

/-
  The document's log: Count.
-/
namespace Go.Proofs.YtajjcfacbnicnaaGreatDoor
open Go.RowKit
set_option maxRecDepth 100000
/-- How many of these names are segments from f on, by the document. -/
def rCnt (l : List ByteArray) (f : Int) : Nat := (l.filter fun t => decide (f ≤ (nR LG t : Int))).length
theorem rCnt_le (l : List ByteArray) (f : Int) : rCnt l f ≤ l.length := List.length_filter_le _ _
theorem rCnt_succ {l : List ByteArray} {i : Nat} {t : ByteArray} (h : l[i]? = some t) (f : Int) : rCnt (l.take (i + 1)) f = rCnt (l.take i) f + if f ≤ (nR LG t : Int) then 1 else 0 := by
  unfold rCnt
  rw [List.take_add_one, h]
  simp only [Option.toList_some, List.filter_append, List.length_append]
  congr 1
  by_cases hd : f ≤ (nR LG t : Int)
  · simp [hd]
  · simp [hd]
/-- Are the first k from f on there? -/
def rOk (s : Dk.St) (f : Int) (k : Nat) : Bool := (List.range k).all fun (i : Nat) => th s (f + (i : Int))
theorem rOk_succ (s : Dk.St) (f : Int) (k : Nat) : rOk s f (k + 1) = (rOk s f k && th s (f + (k : Int))) := by
  unfold rOk
  rw [List.range_succ, List.all_append]
  simp
theorem rOk_no {s : Dk.St} {f : Int} {k n : Nat} (hk : k < n) (h : th s (f + (k : Int)) = false) : rOk s f n = false := by
  unfold rOk
  rw [List.all_eq_false]
  exact ⟨k, List.mem_range.2 hk, by rw [h]; simp⟩
set_option maxHeartbeats 3200000 in
theorem rcount_any {w : World} {B c : Nat} {d : Dk.Ds} {r : Dk.Rs} (h : Rb w B c d r) (hc : r.count ≤ 1000000) (hsz : ∀ t ∈ r.names, t.size ≤ 1000) (f : Int) (h1 : 1 ≤ f) (h2 : f ≤ 99999) :
    Calls Tryz.prog 41 #[.pointer (some ⟨c, 0, none⟩), .int .i64 f] w fun e w' => e = .returned (.tuple #[.int .i64 (rCnt r.names f : Nat), .bool (rOk d.pl f (rCnt r.names f))]) ∧ Below w.heap.size w w' := by
  have H := asd h
  have few := (h.rok hc).dfew
  have hnl : r.names.length = r.files.length := by simp [Dk.Rs.names]
  have KB := asd (fun (n : Int) (u : World) (hu : Below w.heap.size w u) => rbytes_any (H.out.below hu) hc n)
  obtain ⟨a9, cap9, ev⟩ := Dk.own_any h.rrep.tab
  have EV := asd ev
  have C0 := asd (fun (u : World) (hu : Below w.heap.size w u) => (show u.cell? ⟨c, 0, none⟩ = some (.slice a9 r.files.length cap9) from by rw [← EV.out]; exact (H.out.below hu).rrep.c0))
  have CF := asd (fun (i : Nat) (hi : i < r.files.length) => (show ∃ t g, r.names[i]? = some t ∧ a9 = some ⟨g, 0, none⟩ ∧ ∀ u, Below w.heap.size w u → u.cell? ⟨g, i * 3, none⟩ = some (.string t) from by
    obtain ⟨g, cap', e, _, _, hg⟩ := Dk.own_form H.out.rrep.tab (by omega)
    have e2 := e
    rw [EV.out] at e2
    injection e2 with e3 _ _
    refine ⟨r.files[i].name, g, by unfold Dk.Rs.names; rw [List.getElem?_map, List.getElem?_eq_getElem hi]; rfl, e3, fun u hu => ?_⟩
    exact ((H.out.below hu).rrep.fcells (List.getElem?_eq_getElem hi) hg).1))
  have c0 := C0.out w (Below.refl _ _)
  have HSZ := asd hsz
  clear hsz
  clear h ev
  go_enter Tryz.func41, Tryz.ntmps41
  go_wp2
  clear c0
  go_loopg [7, 6] r.files.length (fun gh s7 s6 wr => ∃ i : Nat, r.files.length - i ≤ gh ∧ i ≤ r.files.length ∧ s7 = .int .i64 (i : Int) ∧ s6 = .int .i64 (rCnt (r.names.take i) f : Nat) ∧ Below w.heap.size w wr)
  case atStart => exact ⟨0, by omega, by omega, rfl, rfl, Below.refl _ _⟩
  case round =>
    obtain ⟨i, hgh, hi, rfl, rfl, hb⟩ := hrel
    have c0 := C0.out wr hb
    by_cases hlt : i < r.files.length
    · have q1 : decide (i < r.files.length) = true := decide_eq_true hlt
      obtain ⟨t, g, ht, rfl, hcell⟩ := CF.out i hlt
      have ct := hcell wr hb
      have RS := rCnt_succ ht f
      have hle := rCnt_le (r.names.take i) f
      have hle2 : (r.names.take i).length ≤ 16 := by rw [List.length_take]; omega
      have KN := refNumber_any LG t wr (by decide) (HSZ.out t (List.mem_of_getElem? ht))
      clear hcell ht
      generalize hz : rCnt (r.names.take i) f = Z at *
      have RS2 := asd RS
      clear hz RS
      generalize nR LG t = N at *
      by_cases hN : f ≤ (N : Int)
      · have q2 : decide (f ≤ (N : Int)) = true := decide_eq_true hN
        have q3 : decide ((N : Int) < f) = false := decide_eq_false (by omega)
        have E : Aside (rCnt (r.names.take (i + 1)) f = Z + 1) := (by show _ = _; rw [RS2.out, if_pos hN])
        clear RS2
        go_wp2_with (go_at_call 84; refine KN.mono ?_; rintro e w1 ⟨rfl, b1⟩; have bb : Below w.heap.size w w1 := hb.trans (b1.mono hb.size))
        go_roundg (r.files.length - (i + 1))
        case measure => omega
        case rel => exact ⟨i + 1, Nat.le_refl _, by omega, by go_num, by rw [E.out]; go_num, bb⟩
      · have q2 : decide (f ≤ (N : Int)) = false := decide_eq_false hN
        have q3 : decide ((N : Int) < f) = true := decide_eq_true (by omega)
        have E : Aside (rCnt (r.names.take (i + 1)) f = Z) := (by show _ = _; rw [RS2.out, if_neg hN]; rfl)
        clear RS2
        go_wp2_with (go_at_call 84; refine KN.mono ?_; rintro e w1 ⟨rfl, b1⟩; have bb : Below w.heap.size w w1 := hb.trans (b1.mono hb.size))
        go_roundg (r.files.length - (i + 1))
        case measure => omega
        case rel => exact ⟨i + 1, Nat.le_refl _, by omega, by go_num, by rw [E.out], bb⟩
    · obtain rfl : i = r.files.length := by omega
      have q1 : decide (r.files.length < r.files.length) = false := by simp
      rw [List.take_of_length_le (by omega)]
      have hle := rCnt_le r.names f
      have HB := asd hb
      generalize hz : rCnt r.names f = Z at *
      have HZ := asd hz
      clear hz hb
      go_wp2
      clear c0
      go_loopg [8, 9, 10] Z (fun gh s8 _ _ wq => ∃ k : Nat, Z - k ≤ gh ∧ k ≤ Z ∧ s8 = .int .i64 (k : Int) ∧ Aside (rOk d.pl f k = true) ∧ Below w.heap.size w wq)
      case atStart => exact ⟨0, by omega, by omega, rfl, (rfl : rOk d.pl f 0 = true), HB.out⟩
      case round =>
        obtain ⟨k, hgh2, hk, rfl, I, hq⟩ := hrel
        by_cases hlt2 : k < Z
        · have q4 : decide (k < Z) = true := decide_eq_true hlt2
          have KC := KB.out (f + (k : Int)) _ hq
          have RS := rOk_succ d.pl f k
          rw [I.out, Bool.true_and] at RS
          cases hth : th d.pl (f + (k : Int)) with
          | true =>
            rw [hth] at KC RS
            have I2 := asd RS
            clear I RS hth
            generalize tx d.pl (f + (k : Int)) = T at *
            go_wp2_with (go_at_call 42; refine KC.mono ?_; rintro e w1 ⟨rfl, b1⟩; have bb : Below w.heap.size w w1 := hq.trans (b1.mono hq.size))
            go_roundg (Z - (k + 1))
            case measure => omega
            case rel => exact ⟨k + 1, Nat.le_refl _, by omega, by go_num, I2, bb⟩
          | false =>
            rw [hth] at KC
            have I2 := asd (rOk_no hlt2 hth)
            clear I RS hth
            generalize tx d.pl (f + (k : Int)) = T at *
            go_wp2_with (go_at_call 42; refine KC.mono ?_; rintro e w1 ⟨rfl, b1⟩; have bb : Below w.heap.size w w1 := hq.trans (b1.mono hq.size))
            go_ret2
            exact ⟨by rw [HZ.out, I2.out]; rfl, bb⟩
        · obtain rfl : k = Z := by omega
          have q4 : decide (k < k) = false := by simp
          go_wp2
          go_ret2
          exact ⟨by rw [HZ.out, I.out]; rfl, hq⟩
end Go.Proofs.YtajjcfacbnicnaaGreatDoor

/-
  The document's log: what it counts is what the program has.
-/
namespace Go.Proofs.YtajjcfacbnicnaaGreatDoor
open Go.RowKit
set_option maxRecDepth 100000
theorem nP_both (t : ByteArray) : nP LG t = ((nR LG t : Int), decide (0 < nR LG t)) := Fi.num_both _ _
theorem one_is (t : ByteArray) : one LG t = if 0 < nR LG t then [(nR LG t : Int)] else [] := by
  unfold one
  rw [nP_both]
  by_cases h : 0 < nR LG t <;> simp [h]
theorem cnt_numsOf {f : Int} (h1 : 1 ≤ f) : ∀ l : List ByteArray, ((numsOf LG l).filter fun n => decide (f ≤ n)).length = rCnt l f
  | [] => rfl
  | t :: r => by
    have ih := cnt_numsOf h1 r
    unfold rCnt at ih ⊢
    show ((one LG t ++ numsOf LG r).filter _).length = _
    rw [List.filter_append, List.length_append, ih, one_is, List.filter_cons]
    by_cases h0 : f ≤ (nR LG t : Int)
    · have h2 : 0 < nR LG t := by omega
      simp [h2, h0]
      omega
    · by_cases h2 : 0 < nR LG t <;> simp [h2, h0]
/-- The document's count is the program's. -/
theorem rCnt_nums (l : List ByteArray) {f : Int} (h1 : 1 ≤ f) : rCnt l f = (nums l f).length := by
  rw [← cnt_numsOf h1 l]
  exact ((List.mergeSort_perm _ _).filter _).length_eq.symm
theorem nums_mem' {ns : List ByteArray} {f n : Int} : n ∈ nums ns f ↔ (1 ≤ n ∧ n ≤ 99999 ∧ nmL n ∈ ns) ∧ f ≤ n := by
  unfold nums
  rw [List.mem_filter, all_mem]
  simp
theorem nums_lt {ns : List ByteArray} (h : ns.Nodup) (f : Int) : (nums ns f).Pairwise (· < ·) := (all_lt h).filter _
theorem th_iff {s : Dk.St} (n : Int) : th s n = true ↔ nmL n ∈ s.names := by
  unfold th Dk.opRead
  by_cases h : Dk.has s.names (nmL n) = true
  · rw [if_pos h]
    exact ⟨fun _ => Dk.has_iff.1 h, fun _ => rfl⟩
  · rw [if_neg h]
    exact ⟨fun e => (by cases e), fun e => absurd (Dk.has_iff.2 e) h⟩
theorem row_of_all : ∀ (L : List Int) (f : Int), L.Pairwise (· < ·) → (∀ n ∈ L, f ≤ n) → (∀ k : Nat, k < L.length → f + (k : Int) ∈ L) → rowB f L = true
  | [], _, _, _, _ => rfl
  | a :: r, f, hp, hl, hk => by
    rw [List.pairwise_cons] at hp
    have h0 := hk 0 (by simp)
    have ha := hl a List.mem_cons_self
    have e : a = f := by
      rcases List.mem_cons.1 h0 with h | h
      · omega
      · have := hp.1 _ h
        omega
    unfold rowB
    rw [decide_eq_true e, Bool.true_and]
    refine row_of_all r (f + 1) hp.2 (fun n hn => ?_) (fun k hkr => ?_)
    · have := hp.1 n hn
      omega
    · have := hk (k + 1) (by simp; omega)
      rcases List.mem_cons.1 this with h | h
      · omega
      · rw [show f + 1 + (k : Int) = f + ((k + 1 : Nat) : Int) by omega]
        exact h
theorem low_all : ∀ (L : List Int) (f : Int), L.Pairwise (· < ·) → (∀ n ∈ L, f ≤ n) → ∀ (k : Nat) (h : k < L.length), f + (k : Int) ≤ L[k]
  | [], _, _, _, _, h => by cases h
  | a :: r, f, hp, hl, k, h => by
    rw [List.pairwise_cons] at hp
    have ha := hl a List.mem_cons_self
    cases k with
    | zero => simpa using ha
    | succ k =>
      have := low_all r (f + 1) hp.2 (fun n hn => by have := hp.1 n hn; omega) k (by simpa using h)
      simp only [List.getElem_cons_succ]
      omega
/-- Whether they have no gap. -/
theorem rok_row {s : Dk.St} (ok : Dk.Ok s) {f : Int} (h1 : 1 ≤ f) : rOk s f (rCnt s.names f) = rowB f (nums s.names f) := by
  have hp := nums_lt ok.rising.nodup f
  have hl : ∀ n ∈ nums s.names f, f ≤ n := fun n hn => (nums_mem'.1 hn).2
  rw [rCnt_nums _ h1, Bool.eq_iff_iff]
  unfold rOk
  rw [List.all_eq_true]
  constructor
  · intro h
    refine row_of_all _ f hp hl fun k hk => ?_
    have h2 := low_all _ f hp hl k hk
    have h3 := nums_mem'.1 (List.getElem_mem hk)
    exact nums_mem'.2 ⟨⟨by omega, by omega, (th_iff _).1 (h k (List.mem_range.2 hk))⟩, by omega⟩
  · intro h k hk
    have hk' := List.mem_range.1 hk
    have := (rowB_iff _ _).1 h k hk'
    exact (th_iff _).2 (by rw [← this]; exact (nums_mem'.1 (List.getElem_mem hk')).1.2.2)
/-- A log's segments have no gap: their numbers. -/
theorem row_map {L : List Int} {f : Int} (h : rowB f L = true) : L = (List.range L.length).map fun (i : Nat) => f + (i : Int) := by
  apply List.ext_getElem
  · simp
  · intro i h1 h2
    simp only [List.getElem_map, List.getElem_range]
    exact (rowB_iff _ _).1 h i h1
theorem lsize_row {s : Dk.St} {f : Int} (h : rowB f (nums s.names f) = true) : lBytes s f = rlSize s f (nums s.names f).length := by
  unfold lBytes rlSize
  conv => lhs; rw [row_map h]
  rw [List.map_map]
  rfl
/-- The greatest, where they have no gap. -/
theorem llast_row {s : Dk.St} (ok : Dk.Ok s) {f : Int} (h1 : 1 ≤ f) (h : rowB f (nums s.names f) = true) : lLast s f = if (nums s.names f).length = 0 then f else f + ((nums s.names f).length : Int) - 1 := by
  have hnd := ok.rising.nodup
  have hr := (rowB_iff _ _).1 h
  have hb := last_bd s.names
  split
  · rename_i h0
    unfold lLast
    by_cases he : allOf LG s.names = []
    · rw [he]
      unfold lastOf
      simp
      omega
    · obtain ⟨a, ha⟩ := List.exists_mem_of_ne_nil _ he
      obtain ⟨_, h3⟩ := last_max hnd ha
      have : ¬ f ≤ lastOf (allOf LG s.names) := fun hf => by
        have := nums_mem'.2 ⟨all_mem.1 h3, hf⟩
        rw [List.eq_nil_of_length_eq_zero h0] at this
        cases this
      omega
  · rename_i h0
    have hk : (nums s.names f).length - 1 < (nums s.names f).length := by omega
    have e1 := hr _ hk
    have hm := nums_mem'.1 (List.getElem_mem hk)
    obtain ⟨h2, h3⟩ := last_max hnd (all_mem.2 hm.1)
    have h4 : lastOf (allOf LG s.names) ∈ nums s.names f := nums_mem'.2 ⟨all_mem.1 h3, by omega⟩
    obtain ⟨j, hj, e2⟩ := List.getElem_of_mem h4
    have e3 := hr j hj
    unfold lLast
    omega
theorem lsize_eq {s : Dk.St} (ok : Dk.Ok s) {f : Int} (h1 : 1 ≤ f) (h2 : f ≤ 99999) (h : rowB f (nums s.names f) = true) : rlSize s f (lLast s f + 1 - f).toNat = lBytes s f := by
  rw [lsize_row h, llast_row ok h1 h]
  split
  · rename_i h0
    rw [h0, show (f + 1 - f).toNat = 0 + 1 by omega, rlSize_succ]
    have hn : nmL (f + ((0 : Nat) : Int)) ∉ s.names := fun hm => by
      have := nums_mem'.2 ⟨⟨by omega, by omega, hm⟩, (show f ≤ f + ((0 : Nat) : Int) by omega)⟩
      rw [List.eq_nil_of_length_eq_zero h0] at this
      cases this
    rw [(tx_no hn).1]
    rfl
  · rename_i h0
    congr 1
    omega
end Go.Proofs.YtajjcfacbnicnaaGreatDoor
