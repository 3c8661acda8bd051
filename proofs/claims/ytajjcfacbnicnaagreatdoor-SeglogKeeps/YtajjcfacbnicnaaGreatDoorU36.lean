/-
  YtajjcfacbnicnaaGreatDoor: the texts A1, K1, K2, K3, K4, one behind the other.
-/
import Derived.Test.YtajjcfacbnicnaaGreatDoorU28
import Derived.Test.YtajjcfacbnicnaaGreatDoorU6
import Derived.Test.YtajjcfacbnicnaaGreatDoorU29
import Derived.Test.YtajjcfacbnicnaaGreatDoorU35
import Derived.WalkKit
import Derived.WalkSpells
import Derived.WalkLawsBesides
import Derived.Deep.LoopGhost
import Derived.Laws.Externs
import Derived.Below
import Derived.BigQuiet
import Derived.Deep.RegionWith
import Derived.OwnWalk
import Derived.Maps.AppendAt
import Derived.WalkSmall
import Derived.Test.YtajjcfacbnicnaaGreatDoorU22
import Derived.Test.YtajjcfacbnicnaaGreatDoorU12
import Derived.Test.YtajjcfacbnicnaaGreatDoorU27
/-
  awake; a new disk.
-/
namespace Go.Proofs.YtajjcfacbnicnaaGreatDoor
open Go.RowKit
set_option maxRecDepth 100000
open Fm (cellsS)
theorem heap4 {w : World} (h : Vars w) : 4 ≤ w.heap.size := by
  obtain ⟨te, pe, e⟩ := h.er
  rcases Nat.lt_or_ge 3 w.heap.size with h' | h'
  · omega
  · unfold World.cell? at e
    rw [Array.getElem?_eq_none h'] at e
    simp at e
theorem ok_empty : Dk.Ok Dk.emptySt := ⟨trivial, by simp [Dk.emptySt], by simp [Dk.emptySt], by simp [Dk.emptySt], by simp [Dk.emptySt, Dk.St.total], by simp [Dk.emptySt], by simp [Dk.emptySt], by simp [Dk.emptySt]⟩
theorem ok_new (n : Int) : Dk.Ok (Dk.opRoom Dk.emptySt n) := ok_empty.opRoom n
/-- A new disk. -/
theorem dnew_any (n : Int) (w : World) (hV : Vars w) : Calls Tryz.prog 9 #[.int .i64 n] w fun e w' => ∃ b d, e = .returned (.pointer (some ⟨b, 0, none⟩)) ∧ Dsk w.heap.size b d w' ∧ d.pl = Dk.opRoom Dk.emptySt n ∧ (∀ k ∈ d.foot b, w.heap.size ≤ k) ∧ Below w.heap.size w w' := by
  refine (Dk.new_any n w w.heap.size (Nat.le_refl _)).mono ?_
  rintro e w' ⟨b, d, h1, h2, h3, h4, h5⟩
  refine ⟨b, d, h1, ⟨h2, by rw [h3]; exact ok_new n, fun t ht => ?_, hV.below h5, heap4 hV⟩, h3, h4, h5⟩
  rw [← Dk.names_pl, h3] at ht
  cases ht
theorem crash_sz {s : Dk.Ds} {d : Dk.Ds} {k : Int} (h : ∀ n ∈ s.names, n.size ≤ 1000) (e : d.pl = Dk.opCrash s.pl k) : ∀ n ∈ d.names, n.size ≤ 1000 := fun n hn => by
  rw [← Dk.names_pl, e, Dk.crash_names, Dk.names_pl] at hn
  exact h n hn
/-- A crash of a log's disk. -/
theorem dcrash_any {B b : Nat} {d : Dk.Ds} {w : World} (h : Dsk B b d w) (last : Int) (hl : last ≤ 9223372036854775807) :
    Calls Tryz.prog 17 #[.pointer (some ⟨b, 0, none⟩), .int .i64 last] w fun e w' => e = .returned (.tuple #[]) ∧ ∃ d', Dsk B b d' w' ∧ d'.pl = Dk.opCrash d.pl last ∧ Dk.Step (d.foot b) (d'.foot b) w w' := by
  refine (Dk.crash_any h.rep h.ok last hl).mono ?_
  rintro e w' ⟨h1, d', r, p, s⟩
  exact ⟨h1, d', h.step r (by rw [p]; exact h.ok.opCrash last) (crash_sz h.sz p) s, p, s⟩
def aw0 : Dk.St := Dk.opRoom Dk.emptySt 999
def aw1 : Dk.St := (lOpen aw0 1).2
def aw2 : Dk.St := (lAppend aw1 1 (wi 500) ⟨#[97, 98]⟩ 0).2
def aw3 : Dk.St := (lSync aw2 1).2
def aw4 : Dk.St := (lAppend aw3 1 (wi 500) ⟨#[99, 100]⟩ 0).2
def aw5 : Dk.St := Dk.opCrash aw4 3
def aw6 : Dk.St := (lOpen aw5 1).2
theorem aw_open : (lOpen aw0 1).1.toOption = some [] := by decide +kernel
theorem aw_a : (lAppend aw1 1 (wi 500) ⟨#[97, 98]⟩ 0).1 = 0 := by decide +kernel
theorem aw_b : (lSync aw2 1).1 = 0 := by decide +kernel
theorem aw_c : (lAppend aw3 1 (wi 500) ⟨#[99, 100]⟩ 0).1 = 0 := by decide +kernel
theorem aw_again : (lOpen aw5 1).1.toOption = some [⟨#[97, 98]⟩] := by decide +kernel
theorem aw_bytes : lBytes aw6 1 = 12 := by decide +kernel
theorem aw_last : lLast aw6 1 = 1 := by decide +kernel
theorem ok_of {x : Except Int (List ByteArray)} {l : List ByteArray} (h : x.toOption = some l) : x = .ok l := by
  cases x with
  | error e => cases h
  | ok a =>
    injection h with h
    rw [h]
/-- What Open leaves where the records are these. -/
theorem open_ok {B b : Nat} {d : Dk.Ds} {w : World} (h : Dsk B b d w) (f lim : Int) {rs : List ByteArray} (hr : (lOpen d.pl f).1 = .ok rs) :
    Calls Tryz.prog 11 #[.pointer (some ⟨b, 0, none⟩), .int .i64 f, .int .i64 lim] w fun e w' => ∃ l rv d', e = .returned (.tuple #[.pointer (some ⟨l, 0, none⟩), rv, .int .i64 0]) ∧ Sys B l b f (wi lim) d' w' ∧ d'.pl = (lOpen d.pl f).2 ∧ Dk.Step (d.foot b) (d'.foot b) w w' ∧ w.heap.size ≤ l ∧ w'.ownsRow w.heap.size 9 1 rv rs.length (cellsS rs) ∧ ∀ j, rv.ownBlock = some j → j ≠ l ∧ j ∉ d'.foot b := by
  refine (open_any h f lim).mono ?_
  rintro e w' ⟨d', h1, h2, h3, ⟨c, h4, _⟩ | ⟨rs', l, rv, h4, h5, h6, h7, h8, h9⟩⟩
  · rw [hr] at h4
    cases h4
  · rw [hr] at h4
    injection h4 with h4
    subst h4
    exact ⟨l, rv, d', h5, h6, h2, h3, h7, h8, h9⟩
set_option maxHeartbeats 4000000 in
theorem awake_any (w : World) (hV : Vars w) : Calls Tryz.prog 7 #[] w fun e w' => e = .returned (.bool true) ∧ Below w.heap.size w w' := by
  have k9 := dnew_any 999 w hV
  have A1 := asd (ok_of aw_open)
  have A2 := asd (ok_of aw_again)
  have T1 := asd trivial
  have T2 := asd trivial
  go_enter Tryz.func7, Tryz.ntmps7
  go_wp2_with (first
    | (go_at_call 9; refine k9.mono ?_; rintro e w1 ⟨b, d, rfl, D0, p0, f0, b0⟩; have H0 := asd D0; have P0 : Aside (d.pl = aw0) := p0; have F0 := asd f0; have B0 := asd b0; clear D0 p0 f0 b0 k9)
    | (clear T1; go_at_call 11; refine (open_ok H0.out 1 500 (by rw [P0.out]; exact A1.out)).mono ?_; rintro e w2 ⟨l, rv, d1, rfl, s1, p1, st1, hl1, _, _⟩; have H1 := asd s1; have P1 : Aside (d1.pl = aw1) := (by show d1.pl = aw1; rw [p1, P0.out]; rfl); have S1 := asd st1; clear s1 p1 st1)
    | (clear T2; go_at_call 13; refine (lappend_any H1.out (by decide) (by decide) ⟨#[97, 98]⟩ 0 (by decide)).mono ?_; rw [P1.out, aw_a]; rintro e w3 ⟨rfl, d2, s2, p2, st2⟩; have H2 := asd s2; have P2 : Aside (d2.pl = aw2) := p2; have S2 := asd (S1.out.trans st2); clear s2 p2 st2)
    | (go_at_call 15; refine (lsync_any H2.out).mono ?_; rw [P2.out, aw_b]; rintro e w4 ⟨rfl, d3, s3, p3, st3⟩; have H3 := asd s3; have P3 : Aside (d3.pl = aw3) := p3; have S3 := asd (S2.out.trans st3); clear s3 p3 st3)
    | (go_at_call 13; refine (lappend_any H3.out (by decide) (by decide) ⟨#[99, 100]⟩ 0 (by decide)).mono ?_; rw [P3.out, aw_c]; rintro e w5 ⟨rfl, d4, s4, p4, st4⟩; have H4 := asd s4.dsk; have P4 : Aside (d4.pl = aw4) := p4; have S4 := asd (S3.out.trans st4); clear s4 p4 st4)
    | (go_at_call 17; refine (dcrash_any H4.out 3 (by decide)).mono ?_; rintro e w6 ⟨rfl, d5, s5, p5, st5⟩; have H5 := asd s5; have P5 : Aside (d5.pl = aw5) := (by show d5.pl = aw5; rw [p5, P4.out]; rfl); have S5 := asd (S4.out.trans st5); clear s5 p5 st5)
    | (go_at_call 11; refine (open_ok H5.out 1 500 (by rw [P5.out]; exact A2.out)).mono ?_; rintro e w7 ⟨l2, rv2, d6, rfl, s6, p6, st6, hl6, own6, _⟩; have H6 := asd s6; have P6 : Aside (d6.pl = aw6) := (by show d6.pl = aw6; rw [p6, P5.out]; rfl); have S6 := asd (S5.out.trans st6); obtain ⟨g6, c6, e6, _, _, hg6⟩ := Dk.own_form own6 (by decide); subst e6; have c60 : w7.cell? ⟨g6, 0, none⟩ = some (.string ⟨#[97, 98]⟩) := Dk.own_cell own6 hg6 rfl; clear s6 p6 st6 own6 hg6)
    | (go_at_call 24; refine (lbytes_any H6.out).mono ?_; rw [P6.out, aw_bytes]; rintro e w8 ⟨rfl, b8⟩; have H8 := asd (H6.out.below b8))
    | (go_at_call 23; refine (llast_any H8.out).mono ?_; rw [P6.out, aw_last]; rintro e w9 ⟨rfl, b9⟩; have S9 := asd (S6.out.trans (Dk.Step.ofBelow (b8.trans (b9.mono b8.size))))))
  go_ret
  refine ⟨rfl, B0.out.trans (S9.out.below F0.out B0.out.size)⟩
end Go.Proofs.YtajjcfacbnicnaaGreatDoor

/-
  Files by their names; what Append leaves of them.
-/
namespace Go.Proofs.YtajjcfacbnicnaaGreatDoor
open Go.RowKit
set_option maxRecDepth 100000
theorem file_uniq : ∀ {l : List Dk.F}, (l.map Dk.F.name).Nodup → ∀ {f g : Dk.F}, f ∈ l → g ∈ l → f.name = g.name → f = g
  | [], _, _, _, h, _, _ => by cases h
  | a :: r, hn, f, g, hf, hg, e => by
    have h1 := List.nodup_cons.1 hn
    rcases List.mem_cons.1 hf with e1 | hf2
    · rcases List.mem_cons.1 hg with e2 | hg2
      · rw [e1, e2]
      · exact absurd (List.mem_map.2 ⟨g, hg2, by rw [← e, e1]⟩) h1.1
    · rcases List.mem_cons.1 hg with e2 | hg2
      · exact absurd (List.mem_map.2 ⟨f, hf2, by rw [e, e2]⟩) h1.1
      · exact file_uniq h1.2 hf2 hg2 e
theorem make_rest (s : Dk.St) (n : ByteArray) : (s.make n).room = s.room ∧ (s.make n).down = s.down ∧ (s.make n).fused = s.fused ∧ (s.make n).fuse = s.fuse ∧ (s.make n).pieces = s.pieces := by
  unfold Dk.St.make
  split <;> exact ⟨rfl, rfl, rfl, rfl, rfl⟩
theorem total_set {l : List Dk.F} {i : Nat} {f g : Dk.F} (h : l[i]? = some f) : Dk.totalF (l.set i g) + f.bytes.length = Dk.totalF l + g.bytes.length := by
  obtain ⟨hi, e⟩ := List.getElem?_eq_some_iff.1 h
  have e1 : l = l.take i ++ f :: l.drop (i + 1) := by
    rw [← e, List.getElem_cons_drop, List.take_append_drop]
  have e2 : l.set i g = l.take i ++ g :: l.drop (i + 1) := by rw [List.set_eq_take_append_cons_drop, if_pos hi]
  rw [e2, Dk.totalF_mid]
  conv => rhs; rw [e1]
  rw [Dk.totalF_mid]
  omega
theorem mem_names {s : Dk.St} {f : Dk.F} (h : f ∈ s.files) : f.name ∈ s.names := List.mem_map.2 ⟨f, h, rfl⟩
/-- The file of a name, where it stands. -/
theorem file_at {s : Dk.St} (ok : Dk.Ok s) {f : Dk.F} (h : f ∈ s.files) : Dk.has s.names f.name = true ∧ s.files[Dk.place s.names f.name]? = some f := by
  have hh := Dk.has_iff.2 (mem_names h)
  obtain ⟨g, h1, h2, h3⟩ := Dk.has_get ok.rising hh
  rw [file_uniq ok.rising.nodup h h3 h2.symm]
  rw [h2] at *
  exact ⟨hh, h1⟩
theorem tx_of {s : Dk.St} (ok : Dk.Ok s) {f : Dk.F} (h : f ∈ s.files) {n : Int} (hn : f.name = nmL n) : tx s n = Fm.bs f.bytes ∧ th s n = true := by
  obtain ⟨h1, h2⟩ := file_at ok h
  rw [hn] at h1 h2
  unfold tx th Dk.opRead Dk.St.bytesOf
  rw [if_pos h1, h2]
  exact ⟨rfl, rfl⟩
theorem tx_no {s : Dk.St} {n : Int} (h : nmL n ∉ s.names) : tx s n = ⟨#[]⟩ ∧ th s n = false := by
  unfold tx th Dk.opRead
  rw [Dk.has_not.2 h]
  exact ⟨rfl, rfl⟩
theorem dec_digits : ∀ (k u : Nat), u ≤ k → ∀ b ∈ Lib.decDigits u, 48 ≤ b.toNat ∧ b.toNat ≤ 57
  | k, u, h => by
    induction k generalizing u with
    | zero =>
      obtain rfl : u = 0 := by omega
      rw [Lib.decDigits_one (by omega)]
      intro b hb
      simp at hb
      subst hb
      decide
    | succ k ih =>
      intro b hb
      by_cases hu : u < 10
      · rw [Lib.decDigits_one hu] at hb
        simp only [List.mem_singleton] at hb
        subst hb
        rw [Fi.dig_nat hu]
        omega
      · rw [Lib.decDigits, dif_neg hu] at hb
        rcases List.mem_append.1 hb with hb | hb
        · exact ih (u / 10) (by omega) b hb
        · simp only [List.mem_singleton] at hb
          subst hb
          rw [Fi.dig_nat (by omega)]
          omega
theorem nmL_may {n : Int} (h1 : 1 ≤ n) (h2 : n ≤ 99999) : Dk.mayBe (nmL n) = true := by
  have hz := nmL_size n
  have hne : ¬ (nmL n).size = 0 := fun h => nmL_empty.1 h ⟨h1, h2⟩
  unfold Dk.mayBe
  rw [decide_eq_true (by omega), decide_eq_true (by omega)]
  show List.all _ _ = true
  rw [List.all_eq_true]
  intro b hb
  have e : (nmL n).data.toList = Fi.nm LG.data.toList n := by simp [nmL, nmB]
  rw [e, Fi.nm_in wd_LG h1 h2] at hb
  rcases List.mem_append.1 hb with hb | hb
  · have : b = 108 ∨ b = 111 ∨ b = 103 := by simpa [LG] using hb
    rcases this with rfl | rfl | rfl <;> decide
  · rcases List.mem_cons.1 hb with rfl | hb
    · decide
    · obtain ⟨h3, h4⟩ := dec_digits _ _ (Nat.le_refl _) b hb
      unfold Dk.nb
      simp
      omega
/-- What Append leaves of the files. -/
theorem app_files {s : Dk.St} (ok : Dk.Ok s) {n x : ByteArray} (hp : s.power = true) (hm : Dk.mayBe n = true) (hf : s.full n x = false) (hx : x.size ≠ 0) :
    (Dk.opAppend s n x).1 = 0 ∧ (∀ f ∈ s.files, f.name ≠ n → f ∈ (Dk.opAppend s n x).2.files) ∧
    (∀ f ∈ s.files, f.name = n → (⟨n, f.bytes ++ x.data.toList, f.sure⟩ : Dk.F) ∈ (Dk.opAppend s n x).2.files) ∧
    (n ∉ s.names → (⟨n, x.data.toList, 0⟩ : Dk.F) ∈ (Dk.opAppend s n x).2.files) ∧
    (∀ t, t ∈ (Dk.opAppend s n x).2.names ↔ t ∈ s.names ∨ t = n) ∧ (Dk.opAppend s n x).2.total = s.total + x.size ∧
    (Dk.opAppend s n x).2.files.length = s.files.length + (if Dk.has s.names n then 0 else 1) ∧ (Dk.opAppend s n x).2.room = s.room ∧ (Dk.opAppend s n x).2.down = false ∧ (Dk.opAppend s n x).2.fused = s.fused := by
  have hxl : x.data.toList.length = x.size := rfl
  have hnd : s.down = false := by
    unfold Dk.St.power at hp
    simp at hp
    exact hp.1
  have hfew : Dk.has s.names n = false → s.files.length < 16 := fun hh => by
    unfold Dk.St.full at hf
    rw [hh] at hf
    simp at hf
    have := ok.few
    omega
  have he : Dk.opAppend s n x = (0, (s.spent.make n).more (Dk.place s.names n) n x) := by
    unfold Dk.opAppend
    rw [if_pos hp, if_pos hm, if_neg (by rw [hf]; decide), if_neg hx]
  rw [he]
  dsimp only
  obtain ⟨okm, htot, f0, hf0, hf0n⟩ := ok.spent.make n hfew
  rw [show s.spent.names = s.names from rfl] at hf0
  have hmore : ((s.spent.make n).more (Dk.place s.names n) n x) = { (s.spent.make n) with files := (s.spent.make n).files.set (Dk.place s.names n) ⟨f0.name, f0.bytes ++ x.data.toList, f0.sure⟩, pieces := (s.spent.make n).pieces ++ [⟨n, x.size⟩] } := by
    unfold Dk.St.more
    rw [hf0]
  have hi : Dk.place s.names n < (s.spent.make n).files.length := (List.getElem?_eq_some_iff.1 hf0).1
  have hget : (s.spent.make n).files[Dk.place s.names n] = f0 := (List.getElem?_eq_some_iff.1 hf0).2
  have hmk : ∀ f ∈ s.files, f ∈ (s.spent.make n).files := fun f hfm => by
    unfold Dk.St.make
    split
    · exact hfm
    · show f ∈ s.files.take _ ++ _ :: s.files.drop _
      have : f ∈ s.files.take (Dk.place s.names n) ++ s.files.drop (Dk.place s.names n) := by rw [List.take_append_drop]; exact hfm
      rcases List.mem_append.1 this with h | h
      · exact List.mem_append_left _ h
      · exact List.mem_append_right _ (List.mem_cons_of_mem _ h)
  have hin : (⟨f0.name, f0.bytes ++ x.data.toList, f0.sure⟩ : Dk.F) ∈ (s.spent.make n).files.set (Dk.place s.names n) ⟨f0.name, f0.bytes ++ x.data.toList, f0.sure⟩ := List.mem_iff_getElem.2 ⟨Dk.place s.names n, by simpa using hi, by simp⟩
  have hnames : ((s.spent.make n).more (Dk.place s.names n) n x).names = (s.spent.make n).names := names_more _ _ _ _
  refine ⟨rfl, fun f hfm hne => ?_, fun f hfm hn => ?_, fun hn => ?_, fun t => ?_, ?_, ?_, ?_, ?_, ?_⟩
  · rw [hmore]
    obtain ⟨j, hj, rfl⟩ := List.getElem_of_mem (hmk f hfm)
    have hji : Dk.place s.names n ≠ j := fun e => by
      subst e
      rw [hget] at hne
      exact hne hf0n
    exact List.mem_iff_getElem.2 ⟨j, by simpa using hj, by simp [hji]⟩
  · rw [hmore]
    have e : f0 = f := file_uniq okm.rising.nodup (by rw [← hget]; exact List.getElem_mem hi) (hmk f hfm) (by rw [hf0n, hn])
    subst e
    have h9 : (⟨n, f0.bytes ++ x.data.toList, f0.sure⟩ : Dk.F) = ⟨f0.name, f0.bytes ++ x.data.toList, f0.sure⟩ := by rw [hf0n]
    rw [h9]
    exact hin
  · rw [hmore]
    have e : f0 = ⟨n, [], 0⟩ := by
      refine file_uniq okm.rising.nodup (by rw [← hget]; exact List.getElem_mem hi) ?_ hf0n
      unfold Dk.St.make
      rw [if_neg (show ¬ Dk.has s.spent.names n = true by rw [show Dk.has s.spent.names n = false from Dk.has_not.2 hn]; decide)]
      exact List.mem_append_right _ List.mem_cons_self
    have h9 : (⟨n, x.data.toList, 0⟩ : Dk.F) = ⟨f0.name, f0.bytes ++ x.data.toList, f0.sure⟩ := by rw [e]; rfl
    rw [h9]
    exact hin
  · show t ∈ ((s.spent.make n).more (Dk.place s.names n) n x).names ↔ _
    rw [hnames]
    constructor
    · intro h
      exact mem_make (s := s.spent) h
    · rintro (h | rfl)
      · obtain ⟨f, h1, rfl⟩ := List.mem_map.1 h
        exact List.mem_map.2 ⟨f, hmk f h1, rfl⟩
      · exact List.mem_map.2 ⟨f0, by rw [← hget]; exact List.getElem_mem hi, hf0n⟩
  · rw [hmore]
    have h1 := total_set (g := ⟨f0.name, f0.bytes ++ x.data.toList, f0.sure⟩) hf0
    have h2 : Dk.totalF (s.spent.make n).files = s.total := htot
    show Dk.totalF ((s.spent.make n).files.set (Dk.place s.names n) ⟨f0.name, f0.bytes ++ x.data.toList, f0.sure⟩) = s.total + x.size
    rw [List.length_append, hxl] at h1
    omega
  · rw [hmore]
    show ((s.spent.make n).files.set _ _).length = _
    rw [List.length_set]
    unfold Dk.St.make
    cases h : Dk.has s.names n with
    | true =>
      rw [if_pos (show Dk.has s.spent.names n = true from h)]
      rfl
    | false =>
      rw [if_neg (show ¬ Dk.has s.spent.names n = true by rw [show Dk.has s.spent.names n = false from h]; decide)]
      show (s.files.take (Dk.place s.names n) ++ (⟨n, [], 0⟩ : Dk.F) :: s.files.drop (Dk.place s.names n)).length = s.files.length + 1
      rw [List.length_append, List.length_cons, List.length_take, List.length_drop]
      have : Dk.place s.names n ≤ s.files.length := by
        have := Dk.place_le s.names n
        have e : s.names.length = s.files.length := by simp [Dk.St.names]
        omega
      omega
  · rw [hmore]
    exact (make_rest s.spent n).1
  · rw [hmore]
    refine (make_rest s.spent n).2.1.trans ?_
    show (!s.power) = false
    rw [hp]
    rfl
  · rw [hmore]
    exact (make_rest s.spent n).2.2.1
end Go.Proofs.YtajjcfacbnicnaaGreatDoor

/-
  The segments that a disk has.
-/
namespace Go.Proofs.YtajjcfacbnicnaaGreatDoor
open Go.RowKit
set_option maxRecDepth 100000
theorem rise_mem_eq {l l' : List Int} (h : l.Pairwise (· < ·)) (h' : l'.Pairwise (· < ·)) (e : ∀ n, n ∈ l ↔ n ∈ l') : l = l' := by
  induction l generalizing l' with
  | nil =>
    cases l' with
    | nil => rfl
    | cons a r => exact absurd ((e a).2 List.mem_cons_self) (by simp)
  | cons a r ih =>
    cases l' with
    | nil => exact absurd ((e a).1 List.mem_cons_self) (by simp)
    | cons c q =>
      rw [List.pairwise_cons] at h h'
      have hac : a = c := by
        have h1 := (e a).1 List.mem_cons_self
        have h2 := (e c).2 List.mem_cons_self
        rcases List.mem_cons.1 h1 with h1 | h1
        · exact h1
        · rcases List.mem_cons.1 h2 with h2 | h2
          · exact h2.symm
          · have := h'.1 a h1
            have := h.1 c h2
            omega
      subst hac
      congr 1
      refine ih h.2 h'.2 fun n => ?_
      constructor
      · intro hn
        rcases List.mem_cons.1 ((e n).1 (List.mem_cons_of_mem _ hn)) with rfl | hq
        · exact absurd (h.1 n hn) (by omega)
        · exact hq
      · intro hn
        rcases List.mem_cons.1 ((e n).2 (List.mem_cons_of_mem _ hn)) with rfl | hq
        · exact absurd (h'.1 n hn) (by omega)
        · exact hq

/-- What Sync leaves of the files. -/
theorem syn_files {s : Dk.St} (ok : Dk.Ok s) {n : ByteArray} (hp : s.power = true) {f : Dk.F} (hf : f ∈ s.files) (hn : f.name = n) :
    (Dk.opSync s n).1 = 0 ∧ (∀ g ∈ s.files, g.name ≠ n → g ∈ (Dk.opSync s n).2.files) ∧ (⟨n, f.bytes, f.bytes.length⟩ : Dk.F) ∈ (Dk.opSync s n).2.files ∧ (Dk.opSync s n).2.total = s.total ∧ (Dk.opSync s n).2.files.length = s.files.length ∧
    (Dk.opSync s n).2.room = s.room ∧ (Dk.opSync s n).2.down = false ∧ (Dk.opSync s n).2.fused = s.fused := by
  obtain ⟨hh, hp0⟩ := file_at ok hf
  rw [hn] at hh hp0
  have hlen : s.len n = f.bytes.length := Dk.settle_len n hp0
  have he : Dk.opSync s n = (0, { s.spent with files := s.files.set (Dk.place s.names n) ⟨f.name, f.bytes, f.bytes.length⟩, pieces := Dk.keepOf f.name s.pieces }) := by
    unfold Dk.opSync
    rw [if_pos hp, if_pos hh, hlen]
    unfold Dk.St.settle
    rw [show s.spent.files = s.files from rfl, hp0]
    simp only [List.take_length]
    rfl
  rw [he]
  dsimp only
  obtain ⟨hi, hget⟩ := List.getElem?_eq_some_iff.1 hp0
  refine ⟨rfl, fun g hg hne => ?_, ?_, ?_, ?_, rfl, ?_, rfl⟩
  · obtain ⟨j, hj, rfl⟩ := List.getElem_of_mem hg
    have hji : Dk.place s.names n ≠ j := fun e => by
      subst e
      rw [hget] at hne
      exact hne hn
    exact List.mem_iff_getElem.2 ⟨j, by simpa using hj, by simp [hji]⟩
  · have h9 : (⟨n, f.bytes, f.bytes.length⟩ : Dk.F) = ⟨f.name, f.bytes, f.bytes.length⟩ := by rw [hn]
    rw [h9]
    exact List.mem_iff_getElem.2 ⟨Dk.place s.names n, by simpa using hi, by simp⟩
  · have h1 := total_set (g := ⟨f.name, f.bytes, f.bytes.length⟩) hp0
    show Dk.totalF (s.files.set (Dk.place s.names n) ⟨f.name, f.bytes, f.bytes.length⟩) = Dk.totalF s.files
    dsimp only at h1
    omega
  · show (s.files.set _ _).length = _
    rw [List.length_set]
  · show (!s.power) = false
    rw [hp]
    rfl
abbrev Seg := List (List UInt8)
/-- The disk has just these segments, from 1 on. -/
structure Inv (s : Dk.St) (G : List Seg) : Prop where
  ok : Dk.Ok s
  names : ∀ t, t ∈ s.names ↔ ∃ i, i < G.length ∧ t = nmL ((i : Int) + 1)
  file : ∀ i (h : i < G.length), ∃ f ∈ s.files, f.name = nmL ((i : Int) + 1) ∧ f.bytes = Fm.Fr.mks G[i] ∧ (i + 1 < G.length → f.sure = f.bytes.length)
  short : ∀ g ∈ G, ∀ x ∈ g, x.length ≤ 2000
  cnt : s.files.length = G.length
theorem Inv.few {s : Dk.St} {G : List Seg} (h : Inv s G) : G.length ≤ 16 := by
  have := h.ok.few
  have := h.cnt
  omega
/-- 1, 2, and so on. -/
def row (k : Nat) : List Int := (List.range k).map fun (i : Nat) => (i : Int) + 1
theorem row_lt (k : Nat) : (row k).Pairwise (· < ·) := by
  unfold row
  rw [List.pairwise_map]
  exact List.pairwise_lt_range.imp fun h => by omega
theorem row_mem {k : Nat} {n : Int} : n ∈ row k ↔ 1 ≤ n ∧ n ≤ (k : Int) := by
  unfold row
  rw [List.mem_map]
  constructor
  · rintro ⟨i, hi, rfl⟩
    rw [List.mem_range] at hi
    omega
  · rintro ⟨h1, h2⟩
    exact ⟨(n - 1).toNat, List.mem_range.2 (by omega), by omega⟩
theorem row_len (k : Nat) : (row k).length = k := by simp [row]
theorem Inv.has {s : Dk.St} {G : List Seg} (h : Inv s G) {n : Int} (h1 : 1 ≤ n) (h2 : n ≤ 99999) : nmL n ∈ s.names ↔ n ≤ (G.length : Int) := by
  rw [h.names]
  constructor
  · rintro ⟨i, hi, e⟩
    have := nmL_inj e h1 h2
    omega
  · intro h3
    exact ⟨(n - 1).toNat, by omega, by rw [show (((n - 1).toNat : Nat) : Int) + 1 = n by omega]⟩
theorem Inv.all {s : Dk.St} {G : List Seg} (h : Inv s G) : allOf LG s.names = row G.length := by
  refine rise_mem_eq (all_lt h.ok.rising.nodup) (row_lt _) fun n => ?_
  rw [all_mem, row_mem]
  have := h.few
  constructor
  · rintro ⟨h1, h2, h3⟩
    exact ⟨h1, (h.has h1 h2).1 h3⟩
  · rintro ⟨h1, h2⟩
    exact ⟨h1, by omega, (h.has h1 (by omega)).2 h2⟩
theorem Inv.nums {s : Dk.St} {G : List Seg} (h : Inv s G) : nums s.names 1 = row G.length := by
  unfold _root_.Go.Proofs.YtajjcfacbnicnaaGreatDoor.nums
  rw [h.all, List.filter_eq_self]
  intro n hn
  have := (row_mem.1 hn).1
  simpa using this
theorem Inv.last {s : Dk.St} {G : List Seg} (h : Inv s G) : lLast s 1 = max (G.length : Int) 1 := by
  unfold lLast lastOf
  rw [h.all, row_len]
  by_cases h0 : G.length = 0
  · rw [h0]
    rfl
  · have hk : G.length - 1 < (row G.length).length := by rw [row_len]; omega
    rw [List.getD_eq_getElem?_getD, List.getElem?_eq_getElem hk]
    simp only [Option.getD_some, row, List.getElem_map, List.getElem_range]
    omega
theorem Inv.tx {s : Dk.St} {G : List Seg} (h : Inv s G) {i : Nat} (hi : i < G.length) : tx s ((i : Int) + 1) = Fm.bs (Fm.Fr.mks G[i]) ∧ th s ((i : Int) + 1) = true := by
  obtain ⟨f, h1, h2, h3, _⟩ := h.file i hi
  rw [← h3]
  exact tx_of h.ok h1 h2
theorem Inv.txno {s : Dk.St} {G : List Seg} (h : Inv s G) {n : Int} (h1 : 1 ≤ n) (h2 : n ≤ 99999) (h3 : (G.length : Int) < n) : _root_.Go.Proofs.YtajjcfacbnicnaaGreatDoor.tx s n = ⟨#[]⟩ ∧ th s n = false := tx_no fun hh => by
  have := (h.has h1 h2).1 hh
  omega
end Go.Proofs.YtajjcfacbnicnaaGreatDoor

/-
  What a record more, and Sync, leave of the segments.
-/
namespace Go.Proofs.YtajjcfacbnicnaaGreatDoor
open Go.RowKit
set_option maxRecDepth 100000
theorem fr_list {x : ByteArray} (h : x.size ≤ 2000) : (fr x).data.toList = Fm.Fr.mk x.data.toList := by
  unfold fr Fm.mkS
  rw [if_neg (by omega)]
  rfl
theorem Inv.sureAll {s : Dk.St} {G : List Seg} (h : Inv s G) (hl : ∀ f ∈ s.files, f.name = nmL (G.length : Int) → f.sure = f.bytes.length) : ∀ f ∈ s.files, f.sure = f.bytes.length := fun f hf => by
  obtain ⟨i, hi, e⟩ := (h.names f.name).1 (mem_names hf)
  by_cases h1 : i + 1 < G.length
  · obtain ⟨g, h2, h3, _, h4⟩ := h.file i hi
    rw [file_uniq h.ok.rising.nodup hf h2 (by rw [e, h3])]
    exact h4 h1
  · refine hl f hf ?_
    rw [e, show (G.length : Int) = (i : Int) + 1 by omega]
/-- A new segment. -/
theorem Inv.new {s : Dk.St} {G : List Seg} (h : Inv s G) (hp : s.power = true) (hs : ∀ f ∈ s.files, f.sure = f.bytes.length) {x : ByteArray} (hx : x.size ≤ 2000) (hG : G.length ≤ 15) (hr : s.total + (x.size + 10) ≤ s.room) :
    (Dk.opAppend s (nmL ((G.length : Int) + 1)) (fr x)).1 = 0 ∧ Inv (Dk.opAppend s (nmL ((G.length : Int) + 1)) (fr x)).2 (G ++ [[x.data.toList]]) ∧ (Dk.opAppend s (nmL ((G.length : Int) + 1)) (fr x)).2.total = s.total + (x.size + 10) ∧
    (Dk.opAppend s (nmL ((G.length : Int) + 1)) (fr x)).2.room = s.room ∧ (Dk.opAppend s (nmL ((G.length : Int) + 1)) (fr x)).2.down = false ∧ (Dk.opAppend s (nmL ((G.length : Int) + 1)) (fr x)).2.fused = s.fused := by
  have hz := fr_size hx
  have hno : nmL ((G.length : Int) + 1) ∉ s.names := fun hh => by
    have := (h.has (by omega) (by omega)).1 hh
    omega
  have hfull : s.full (nmL ((G.length : Int) + 1)) (fr x) = false := by
    unfold Dk.St.full
    rw [hz]
    have := h.cnt
    simp
    omega
  obtain ⟨a1, a2, a3, a4, a5, a6, a7, a8, a9, a10⟩ := app_files h.ok hp (nmL_may (by omega) (by omega)) hfull (by omega)
  rw [hz] at a6
  have e1 := a4 hno
  refine ⟨a1, ⟨h.ok.opAppend _ _, fun t => ?_, fun i hi => ?_, fun g hg y hy => ?_, ?_⟩, a6, a8, a9, a10⟩
  · rw [a5, h.names]
    constructor
    · rintro (⟨i, hi, rfl⟩ | rfl)
      · exact ⟨i, by rw [List.length_append]; omega, rfl⟩
      · exact ⟨G.length, by simp, rfl⟩
    · rintro ⟨i, hi, rfl⟩
      rw [List.length_append] at hi
      simp at hi
      by_cases h1 : i < G.length
      · exact .inl ⟨i, h1, rfl⟩
      · rw [show i = G.length by omega]
        exact .inr rfl
  · rw [List.length_append] at hi
    simp at hi
    by_cases h1 : i < G.length
    · obtain ⟨f, h2, h3, h4, _⟩ := h.file i h1
      refine ⟨f, a2 f h2 (fun e => hno (by rw [← e]; exact mem_names h2)), h3, ?_, fun _ => hs f h2⟩
      rw [List.getElem_append_left h1]
      exact h4
    · obtain rfl : i = G.length := by omega
      refine ⟨_, e1, rfl, ?_, fun hh => ?_⟩
      · rw [List.getElem_append_right (Nat.le_refl _)]
        simp only [Nat.sub_self, List.getElem_cons_zero, Fm.Fr.mks_one]
        exact fr_list hx
      · rw [List.length_append] at hh
        simp at hh
  · rcases List.mem_append.1 hg with hg | hg
    · exact h.short g hg y hy
    · rw [List.mem_singleton.1 hg] at hy
      rw [List.mem_singleton.1 hy]
      exact hx
  · rw [a7, Dk.has_not.2 hno, List.length_append, h.cnt]
    rfl
/-- One record more in the last segment. -/
theorem Inv.more {s : Dk.St} {D : List Seg} {g : Seg} (h : Inv s (D ++ [g])) (hp : s.power = true) {x : ByteArray} (hx : x.size ≤ 2000) (hr : s.total + (x.size + 10) ≤ s.room) :
    (Dk.opAppend s (nmL ((D.length : Int) + 1)) (fr x)).1 = 0 ∧ Inv (Dk.opAppend s (nmL ((D.length : Int) + 1)) (fr x)).2 (D ++ [g ++ [x.data.toList]]) ∧ (Dk.opAppend s (nmL ((D.length : Int) + 1)) (fr x)).2.total = s.total + (x.size + 10) ∧
    (Dk.opAppend s (nmL ((D.length : Int) + 1)) (fr x)).2.room = s.room ∧ (Dk.opAppend s (nmL ((D.length : Int) + 1)) (fr x)).2.down = false ∧ (Dk.opAppend s (nmL ((D.length : Int) + 1)) (fr x)).2.fused = s.fused := by
  have hz := fr_size hx
  have hlen : (D ++ [g]).length = D.length + 1 := by simp
  have hD : D.length < (D ++ [g]).length := by omega
  have hfew := h.few
  obtain ⟨f, h2, h3, h4, _⟩ := h.file D.length hD
  rw [List.getElem_append_right (Nat.le_refl _)] at h4
  simp only [Nat.sub_self, List.getElem_cons_zero] at h4
  have hin : nmL ((D.length : Int) + 1) ∈ s.names := by rw [← h3]; exact mem_names h2
  have hfull : s.full (nmL ((D.length : Int) + 1)) (fr x) = false := by
    unfold Dk.St.full
    rw [hz, Dk.has_iff.2 hin]
    simp
    omega
  obtain ⟨a1, a2, a3, a4, a5, a6, a7, a8, a9, a10⟩ := app_files h.ok hp (nmL_may (by omega) (by omega)) hfull (by omega)
  rw [hz] at a6
  refine ⟨a1, ⟨h.ok.opAppend _ _, fun t => ?_, fun i hi => ?_, fun y hy z hz => ?_, ?_⟩, a6, a8, a9, a10⟩
  · rw [a5, h.names]
    have hl2 : (D ++ [g ++ [x.data.toList]]).length = (D ++ [g]).length := by simp
    rw [hl2]
    constructor
    · rintro (h1 | rfl)
      · exact h1
      · exact ⟨D.length, hD, rfl⟩
    · exact .inl
  · have hi2 : i < (D ++ [g]).length := by simpa using hi
    by_cases h1 : i < D.length
    · obtain ⟨f', k2, k3, k4, k5⟩ := h.file i hi2
      refine ⟨f', a2 f' k2 (fun e => ?_), k3, ?_, fun _ => k5 (by omega)⟩
      · have := nmL_inj (k3.symm.trans e) (by omega) (by omega)
        omega
      · rw [List.getElem_append_left h1] at k4 ⊢
        exact k4
    · obtain rfl : i = D.length := by omega
      refine ⟨_, a3 f h2 h3, rfl, ?_, fun hh => ?_⟩
      · rw [List.getElem_append_right (Nat.le_refl _)]
        simp only [Nat.sub_self, List.getElem_cons_zero, Fm.Fr.mks_app, Fm.Fr.mks_one]
        rw [h4, fr_list hx]
      · simp at hh
  · rcases List.mem_append.1 hy with hy | hy
    · exact h.short y (List.mem_append_left _ hy) z hz
    · rw [List.mem_singleton.1 hy] at hz
      rcases List.mem_append.1 hz with hz | hz
      · exact h.short g (by simp) z hz
      · rw [List.mem_singleton.1 hz]
        exact hx
  · rw [a7, Dk.has_iff.2 hin, h.cnt]
    simp
/-- The last segment is sure. -/
theorem Inv.sync {s : Dk.St} {D : List Seg} {g : Seg} (h : Inv s (D ++ [g])) (hp : s.power = true) :
    (Dk.opSync s (nmL ((D.length : Int) + 1))).1 = 0 ∧ Inv (Dk.opSync s (nmL ((D.length : Int) + 1))).2 (D ++ [g]) ∧ (∀ f ∈ (Dk.opSync s (nmL ((D.length : Int) + 1))).2.files, f.sure = f.bytes.length) ∧ (Dk.opSync s (nmL ((D.length : Int) + 1))).2.total = s.total ∧
    (Dk.opSync s (nmL ((D.length : Int) + 1))).2.room = s.room ∧ (Dk.opSync s (nmL ((D.length : Int) + 1))).2.down = false ∧ (Dk.opSync s (nmL ((D.length : Int) + 1))).2.fused = s.fused := by
  have hlen : (D ++ [g]).length = D.length + 1 := by simp
  have hD : D.length < (D ++ [g]).length := by omega
  have hfew := h.few
  obtain ⟨f, h2, h3, h4, _⟩ := h.file D.length hD
  obtain ⟨a1, a2, a3, a4, a5, a6, a7, a8⟩ := syn_files h.ok hp h2 h3
  have hnm := names_sync s (nmL ((D.length : Int) + 1))
  have I : Inv (Dk.opSync s (nmL ((D.length : Int) + 1))).2 (D ++ [g]) := by
    refine ⟨h.ok.opSync _, fun t => by rw [hnm]; exact h.names t, fun i hi => ?_, h.short, by rw [a5, h.cnt]⟩
    by_cases h1 : i < D.length
    · obtain ⟨f', k2, k3, k4, k5⟩ := h.file i hi
      refine ⟨f', a2 f' k2 (fun e => ?_), k3, k4, k5⟩
      have := nmL_inj (k3.symm.trans e) (by omega) (by omega)
      omega
    · obtain rfl : i = D.length := by omega
      exact ⟨_, a3, rfl, h4, fun _ => rfl⟩
  refine ⟨a1, I, I.sureAll fun f' hf' hn' => ?_, a4, a6, a7, a8⟩
  rw [hlen] at hn'
  rw [file_uniq I.ok.rising.nodup hf' a3 (by rw [hn']; push_cast; rfl)]
end Go.Proofs.YtajjcfacbnicnaaGreatDoor

/-
  Records that are appended one by one; a byte that is turned.
-/
namespace Go.Proofs.YtajjcfacbnicnaaGreatDoor
open Go.RowKit
set_option maxRecDepth 100000
theorem power_on {s : Dk.St} (h1 : s.down = false) (h2 : s.fused = false) : s.power = true := by
  unfold Dk.St.power
  rw [h1, h2]
  rfl
theorem Inv.free {s : Dk.St} {G : List Seg} (h : Inv s G) (hG : G.length ≤ 13) {to wanted : Int} (h1 : 1 ≤ to) (h2 : to ≤ 99999) (hw : (s.total : Int) + wanted ≤ s.room) : lRefused s to wanted = 0 := by
  have hc := h.cnt
  unfold lRefused
  rw [if_neg (fun hh => nmL_empty.1 hh ⟨h1, h2⟩), if_neg (fun hh => by omega), if_neg]
  unfold Dk.St.free
  omega
/-- A record is appended, in whatever segment. -/
theorem app_step {s : Dk.St} {G : List Seg} (h : Inv s G) (hd : s.down = false) (hu : s.fused = false) {x : ByteArray} (hx : x.size ≤ 2000) (m rest : Int) (hG : G.length ≤ 13) (hr : (s.total : Int) + ((x.size : Int) + 10 + wi rest) ≤ s.room) :
    ∃ G', (lAppend s 1 m x rest).1 = 0 ∧ Inv (lAppend s 1 m x rest).2 G' ∧ G'.flatten = G.flatten ++ [x.data.toList] ∧ (lAppend s 1 m x rest).2.total = s.total + (x.size + 10) ∧ (lAppend s 1 m x rest).2.room = s.room ∧
      (lAppend s 1 m x rest).2.down = false ∧ (lAppend s 1 m x rest).2.fused = false ∧ G'.length ≤ G.length + 1 := by
  have hp := power_on hd hu
  have hz := fr_size hx
  have hwi : 0 ≤ wi rest := by unfold wi; omega
  have hl := h.last
  have hx' : ¬ 2000 < x.size := by omega
  have NR : ∀ to : Int, 1 ≤ to → to ≤ 99999 → lRefused s to ((fr x).size + wi rest) = 0 := fun to h1 h2 => h.free hG h1 h2 (by rw [hz]; push_cast; omega)
  rcases List.eq_nil_or_concat G with rfl | ⟨D, g, rfl⟩
  · have hl1 : lLast s 1 = 1 := by rw [hl]; rfl
    have htx := (h.txno (n := 1) (by omega) (by omega) (by simp)).1
    have hpl : lPlace s m (lLast s 1) (fr x).size = lLast s 1 := by
      unfold lPlace
      rw [hl1, htx, if_neg (fun hh => by have : (⟨#[]⟩ : ByteArray).size = 0 := rfl; omega)]
    have he := lapp_same (m := m) hx' (by rw [hpl, hl1]; exact NR 1 (by omega) (by omega)) hpl
    rw [he, hl1]
    obtain ⟨b1, b2, b3, b4, b5, b6⟩ := h.new hp (fun f hf => by
      have := h.cnt
      have : s.files = [] := List.eq_nil_of_length_eq_zero this
      rw [this] at hf
      cases hf) hx (by simp) (by omega)
    exact ⟨_, b1, b2, by simp, b3, b4, b5, b6.trans hu, by simp⟩
  · have hlen : (D ++ [g]).length = D.length + 1 := by simp
    rw [List.concat_eq_append] at h hG hl ⊢
    have hl1 : lLast s 1 = (D.length : Int) + 1 := by rw [hl, hlen]; omega
    by_cases hpl : lPlace s m (lLast s 1) (fr x).size = lLast s 1
    · have he := lapp_same (m := m) hx' (by rw [hpl, hl1]; exact NR _ (by omega) (by omega)) hpl
      rw [he, hl1]
      obtain ⟨b1, b2, b3, b4, b5, b6⟩ := h.more hp hx (by omega)
      exact ⟨_, b1, b2, by simp, b3, b4, b5, b6.trans hu, by simp⟩
    · have hpl2 : lPlace s m (lLast s 1) (fr x).size = (D.length : Int) + 2 := by
        unfold lPlace at hpl ⊢
        split
        · rw [hl1]; omega
        · rename_i hh
          rw [if_neg hh] at hpl
          exact absurd rfl hpl
      obtain ⟨c1, c2, c3, c4, c5, c6, c7⟩ := h.sync hp
      have he := lapp_next (m := m) hx' (by rw [hpl2]; exact NR _ (by omega) (by omega)) hpl (by rw [hl1]; exact c1)
      rw [he, hpl2, hl1]
      have e2 : (D.length : Int) + 2 = ((D ++ [g]).length : Int) + 1 := by rw [hlen]; push_cast; omega
      rw [e2]
      obtain ⟨b1, b2, b3, b4, b5, b6⟩ := c2.new (power_on c6 (c7.trans hu)) c3 hx (by omega) (by rw [c4, c5]; omega)
      exact ⟨_, b1, b2, by simp, by rw [b3, c4], b4.trans c5, b5, b6.trans (c7.trans hu), by simp⟩
/-- Sync of a whole log. -/
theorem syn_step {s : Dk.St} {G : List Seg} (h : Inv s G) (hd : s.down = false) (hu : s.fused = false) :
    (lSync s 1).1 = 0 ∧ Inv (lSync s 1).2 G ∧ (∀ f ∈ (lSync s 1).2.files, f.sure = f.bytes.length) ∧ (lSync s 1).2.down = false ∧ (lSync s 1).2.fused = false := by
  have hl := h.last
  unfold lSync
  rcases List.eq_nil_or_concat G with rfl | ⟨D, g, rfl⟩
  · have hl1 : lLast s 1 = 1 := by rw [hl]; rfl
    have htx := (h.txno (n := 1) (by omega) (by omega) (by simp)).2
    rw [hl1, htx]
    simp only [Bool.false_eq_true, if_false]
    refine ⟨trivial, h, fun f hf => ?_, hd, hu⟩
    have := h.cnt
    have : s.files = [] := List.eq_nil_of_length_eq_zero this
    rw [this] at hf
    cases hf
  · have hlen : (D ++ [g]).length = D.length + 1 := by simp
    rw [List.concat_eq_append] at h hl ⊢
    have hl1 : lLast s 1 = (D.length : Int) + 1 := by rw [hl, hlen]; omega
    have htx := (h.tx (i := D.length) (by omega)).2
    rw [hl1, htx]
    simp only [if_true]
    obtain ⟨c1, c2, c3, c4, c5, c6, c7⟩ := h.sync (power_on hd hu)
    exact ⟨c1, c2, c3, c6, c7.trans hu⟩
/-- In which frame a byte lies. -/
theorem frame_of (l : Seg) (a : Nat) : ∀ n, n ≤ l.length → a < Fm.Fr.en l n → ∃ k, k < n ∧ Fm.Fr.en l k ≤ a ∧ a < Fm.Fr.en l (k + 1)
  | 0, _, h => by simp [Fm.Fr.en, Fm.Fr.mks] at h
  | n + 1, hn, h => by
    by_cases h1 : a < Fm.Fr.en l n
    · obtain ⟨k, h2, h3, h4⟩ := frame_of l a n (by omega) h1
      exact ⟨k, by omega, h3, h4⟩
    · exact ⟨n, by omega, by omega, h⟩
theorem rot_seg {l : Seg} (h : ∀ x ∈ l, x.length ≤ 2000) {a : Nat} (ha : a < (Fm.Fr.mks l).length) {c : UInt8} (hc : (Fm.Fr.mks l)[a]? ≠ some c) : (Fm.Fr.spx ((Fm.Fr.mks l).set a c) [] 0).2.2 = 4 := by
  obtain ⟨k, h1, h2, h3⟩ := frame_of l a l.length (Nat.le_refl _) (by rw [Fm.Fr.en_all]; exact ha)
  rw [Fm.Fr.split_rot l h a k c h1 h2 h3 hc]
/-- A log that is whole but for one segment: that one's fault is told. -/
theorem open_rot {s : Dk.St} {G : List Seg} (hok : Dk.Ok s) (hn : ∀ t, t ∈ s.names ↔ ∃ i, i < G.length ∧ t = nmL ((i : Int) + 1)) (hk : G.length ≤ 16) (hs : ∀ g ∈ G, ∀ x ∈ g, x.length ≤ 2000) {i : Nat} (hi : i < G.length)
    (hf : ∀ j (h : j < G.length), j ≠ i → ∃ f ∈ s.files, f.name = nmL ((j : Int) + 1) ∧ f.bytes = Fm.Fr.mks G[j]) {nb : List UInt8} (hb : ∃ f ∈ s.files, f.name = nmL ((i : Int) + 1) ∧ f.bytes = nb) (h4 : (Fm.Fr.spx nb [] 0).2.2 = 4) :
    lOpen s 1 = (.error 4, s) := by
  have hrow : nums s.names 1 = row G.length := by
    refine rise_mem_eq ((all_lt hok.rising.nodup).sublist List.filter_sublist) (row_lt _) fun n => ?_
    rw [nums_mem, row_mem, hn]
    constructor
    · rintro ⟨h1, _, h3, j, hj, e⟩
      have := nmL_inj e h1 h3
      omega
    · rintro ⟨h1, h2⟩
      exact ⟨h1, h1, by omega, (n - 1).toNat, by omega, by rw [show (((n - 1).toNat : Nat) : Int) + 1 = n by omega]⟩
  have hrb : rowB 1 (row G.length) = true := by
    rw [rowB_iff]
    intro j hj
    simp only [row, List.getElem_map, List.getElem_range]
    omega
  have key : ∀ (t j : Nat), i - j = t → j ≤ i → ∀ acc, recs s ((row G.length).drop j) acc = ([], 4, s) := by
    intro t
    induction t with
    | zero =>
      intro j h1 h2 acc
      obtain rfl : j = i := by omega
      have hlt : j < (row G.length).length := by rw [row_len]; exact hi
      rw [List.drop_eq_getElem_cons hlt]
      have e : (row G.length)[j] = (j : Int) + 1 := by simp [row]
      rw [e]
      obtain ⟨f, k1, k2, k3⟩ := hb
      have hsp : (spl s ((j : Int) + 1)).2.2 = 4 := by
        unfold spl
        rw [(tx_of hok k1 k2).1, k3, Fm.bs_list]
        exact h4
      rw [recs_bad (by omega) (fun hh => by omega), hsp]
      rfl
    | succ t ih =>
      intro j h1 h2 acc
      have hlt : j < (row G.length).length := by rw [row_len]; omega
      rw [List.drop_eq_getElem_cons hlt]
      have e : (row G.length)[j] = (j : Int) + 1 := by simp [row]
      rw [e]
      obtain ⟨f, k1, k2, k3⟩ := hf j (by omega) (by omega)
      have hsp : (spl s ((j : Int) + 1)).2.2 = 0 := by
        unfold spl
        rw [(tx_of hok k1 k2).1, k3, Fm.bs_list, Fm.Fr.split_mks _ (hs _ (List.getElem_mem _))]
      rw [recs_go hsp]
      exact ih (j + 1) (by omega) (by omega) _
  unfold lOpen
  rw [if_neg (fun hh => nmL_empty.1 hh ⟨by omega, by omega⟩), hrow, hrb, if_neg (by decide)]
  have := key (i - 0) 0 rfl (Nat.zero_le _) []
  rw [List.drop_zero] at this
  rw [this, if_neg (show ¬ ((4 : Int) = 0) by decide)]
end Go.Proofs.YtajjcfacbnicnaaGreatDoor
