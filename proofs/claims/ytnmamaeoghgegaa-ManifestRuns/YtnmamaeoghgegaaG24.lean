/-
  Ytnmamaeoghgegaa: the texts DX19, DE5, DE8, one behind the other.
-/
import Derived.Test.YtnmamaeoghgegaaG12
import Derived.Laws.MakeOwn
import Derived.Lib.AppendZeros
import Derived.Test.YtnmamaeoghgegaaG22
/-
  Names.
-/
namespace Go.Proofs.Ytnmamaeoghgegaa.Dk
open Go.RowKit
set_option maxRecDepth 100000

theorem info9 : (Try.prog.info? 9).map (fun i => (i.zero, i.size, i.bytes)) = some (some (.string ⟨#[]⟩), 1, 16) := by kernel_rfl
def scells (l : List ByteArray) : List Value := l.map Value.string

theorem scells_next (l : List Fv) (k : Nat) (h : k < l.length) : scells ((l.take (k + 1)).map Fv.name) = scells ((l.take k).map Fv.name) ++ [.string l[k]!.name] := by
  rw [take_next l k h]
  simp [scells]

set_option maxHeartbeats 2000000 in
theorem names_any {w : World} {B b : Nat} {d : Ds} (h : Rep w B b d) (ok : Ok d.pl) :
    Calls Try.prog 11 #[.pointer (some ⟨b, 0, none⟩)] w fun e w' => ∃ v, e = .returned v ∧ w'.ownsRow w.heap.size 9 1 v d.names.length (scells d.names) ∧ Below w.heap.size w w' := by
  obtain ⟨i0, hi0, hz0, hzs, hzb⟩ := info_parts info9
  have c0 := h.c0
  obtain ⟨a, cap, ev, hc'⟩ := h.row
  have hc : Aside (∀ t, t < d.files.length → ∃ g a' c', a = some ⟨g, 0, none⟩ ∧ w.cell? ⟨g, t * 3, none⟩ = some (.string d.files[t]!.name) ∧ w.cell? ⟨g, t * 3 + 1, none⟩ = some (.slice a' d.files[t]!.bytes.length c') ∧ w.cell? ⟨g, t * 3 + 2, none⟩ = some (.int .i64 (d.files[t]!.sure : Int))) := hc'
  rw [ev] at c0
  have hfew := ok.dfew
  obtain ⟨w1, hmk, hown, hgr⟩ := run_make_own (P := Try.prog) w w.heap.size 30 9 i0 (.string ⟨#[]⟩) 1 Try.underlying30 hi0 hz0 hzs .i64 .i64 d.files.length (by rw [hzb]; omega) (by unfold maxLen; omega) (Nat.le_refl _)
  have hb1 : Below w.heap.size w w1 := ⟨hgr.os, hgr.tape, hgr.output, hgr.size, fun k hk => hgr.block k hk (by simp)⟩
  have c01 := cell_below c0 hb1
  have OWN : Aside (w1.ownsRow w.heap.size 9 1 (.slice (some ⟨w.heap.size, 0, none⟩) 0 d.files.length) 0 []) := hown
  unfold Ds.names
  clear hc' h ok ev hgr hown
  generalize d.files = l at *
  go_enter Try.func11, Try.ntmps11
  go_wp2
  go_loopg [3, 5, 19] l.length (fun gh s3 _ s19 wr => ∃ k : Nat, l.length - k ≤ gh ∧ k ≤ l.length ∧ s19 = .int .i64 (k : Int) ∧ Below w.heap.size w wr ∧ Aside (wr.ownsRow w.heap.size 9 1 s3 k (scells ((l.take k).map Fv.name))))
  case atStart => exact ⟨0, by omega, by omega, rfl, hb1, OWN⟩
  case round =>
    obtain ⟨k, hgh, hk, rfl, hb, R⟩ := hrel
    have hsz := hb.size
    by_cases hlt : k < l.length
    · have d3 : decide (k < l.length) = true := by simpa using hlt
      obtain ⟨g, a', c', rfl, e0, e1, e2⟩ := hc.out k hlt
      replace e0 := cell_below e0 hb
      replace e1 := cell_below e1 hb
      replace e2 := cell_below e2 hb
      have hn : Aside _ := scells_next l k hlt
      generalize l[k]! = y at *
      obtain ⟨a3, c3, rfl⟩ := own_any R.out
      have hb2 : Below wr.heap.size wr ((wr.alloc (.cells #[.string y.name, .slice a' y.bytes.length c', .int .i64 (y.sure : Int)] 70)).alloc (.cells #[.string y.name] 9)) := (((Below.refl _ _).alloc (Nat.le_refl _) _)).alloc (by simp) _
      obtain ⟨v4, w4, hr4, ho4, hg4, _, _⟩ := run_append_own_at (P := Try.prog) ((wr.alloc (.cells #[.string y.name, .slice a' y.bytes.length c', .int .i64 (y.sure : Int)] 70)).alloc (.cells #[.string y.name] 9)) w.heap.size 30 30 9 i0 (.string ⟨#[]⟩) 1 16 Try.underlying30 hi0 hz0 hzs hzb rfl (by omega) _ k _ ((R.out.alloc _).alloc _) ⟨wr.heap.size + 1, 0, none⟩ 1 1 [.string y.name] rfl (fun j u hj => by
        match j, hj with
        | 0, hj =>
          simp at hj
          rw [← hj, Addr.add_lit]
          simp
        | j + 1, hj => simp at hj) (by simp [Value.oneCell']) (by unfold maxLen; omega) (by omega) (by simp; omega)
      have R4 : Aside (w4.ownsRow w.heap.size 9 1 v4 (k + 1) (scells ((l.take (k + 1)).map Fv.name)) ∧ Below w.heap.size w w4) := by
        refine ⟨by rw [hn.out]; exact ho4, ?_⟩
        have hbb := hb.trans (hb2.mono hsz)
        refine ⟨hg4.os.trans hbb.os, hg4.tape.trans hbb.tape, hg4.output.trans hbb.output, Nat.le_trans hbb.size hg4.size, fun j hj => (hg4.block j (by have := hbb.size; omega) (fun e => ?_)).trans (hbb.block j hj)⟩
        have := (R.out.lt j e.symm).1
        omega
      clear R ho4 hg4 hb2 hi0 hz0 hzs hzb OWN hmk c01
      go_wp2_with (at_builtin; refine Lib.wpList_append_run _ rfl _ _ _ _ rfl _ _ rfl rfl _ _ hr4 ?_)
      go_roundg (l.length - (k + 1))
      case measure => omega
      case rel => exact ⟨k + 1, Nat.le_refl _, by omega, by go_num, R4.out.2, R4.out.1⟩
    · obtain rfl : k = l.length := by omega
      have d3 : decide (l.length < l.length) = false := by simp
      rw [List.take_of_length_le (Nat.le_refl l.length)] at R
      go_wp2
      go_ret
      refine ⟨_, rfl, ?_, hb⟩
      rw [List.length_map]
      exact R.out
end Go.Proofs.Ytnmamaeoghgegaa.Dk

/-
  Both disks are found to be the same.
-/
namespace Go.Proofs.Ytnmamaeoghgegaa.Dk
open Go.RowKit
set_option maxRecDepth 100000

theorem Both.get {w : World} {B b c t : Nat} {d : Ds} {r : Rs} {f : Gv} (h : Both w B b c d r) (hf : r.files[t]? = some f) : d.names[t]? = some f.name ∧ opRead d.pl f.name = (⟨f.bytes.toArray⟩, 0) ∧ rSure r.pl f.name = opSure d.pl f.name := by
  obtain ⟨T, hT⟩ := h.rel
  have h1 := rpl_get hf
  rw [hT.files, List.getElem?_map] at h1
  obtain ⟨F, hF, hFe⟩ := Option.map_eq_some_iff.1 h1
  have hn : F.name = f.name := congrArg G.name hFe
  have hby : F.bytes = f.bytes := congrArg G.bytes hFe
  have hl : t < d.pl.files.length := (List.getElem?_eq_some_iff.1 hF).1
  have hnt : d.pl.names[t]? = some f.name := by
    show (d.pl.files.map Ytnmamaeoghgegaa.Dk.F.name)[t]? = _
    rw [List.getElem?_map, hF, ← hn]
    rfl
  have hl2 : t < d.pl.names.length := (List.getElem?_eq_some_iff.1 hnt).1
  have hnt' : d.pl.names[t]! = f.name := by
    rw [getElem!_pos d.pl.names t hl2]
    rw [List.getElem?_eq_getElem hl2] at hnt
    exact Option.some.inj hnt
  have hpl : place d.pl.names f.name = t := by
    have := place_at h.ok.rising t hl2
    rwa [hnt'] at this
  have hh : has d.pl.names f.name = true := has_iff.2 (List.mem_of_getElem? hnt)
  refine ⟨by rw [← names_pl]; exact hnt, ?_, ?_⟩
  · unfold opRead St.bytesOf
    rw [hh, hpl, hF]
    simp only [if_true]
    rw [hby]
  · rw [hT.sure h.ok (n := f.name) (by rw [hpl]; exact hF) hh]
    unfold opSure St.sureOf
    rw [hh, hpl, hF]
    rfl

theorem Both.sums {w : World} {B b c : Nat} {d : Ds} {r : Rs} (h : Both w B b c d r) : r.pl.used = d.pl.total ∧ r.pl.lates = d.pl.late ∧ r.pl.most - r.pl.used = d.pl.free ∧ r.pl.files.length = d.pl.files.length ∧ r.down = d.pl.down := by
  obtain ⟨T, hT⟩ := h.rel
  exact ⟨hT.used, (hT.lates h.ok).trans rfl, by rw [hT.used, hT.most]; rfl, by rw [hT.files, List.length_map], hT.down⟩

set_option maxHeartbeats 4000000 in
theorem same_any {w : World} {B b c : Nat} {d : Ds} {r : Rs} (h : Both w B b c d r) (hc : r.count ≤ 100000) :
    Calls Try.prog 22 #[.pointer (some ⟨b, 0, none⟩), .pointer (some ⟨c, 0, none⟩)] w fun e w' => e = .returned (.bool true) ∧ Below w.heap.size w w' := by
  have H : Aside (Both w B b c d r) := h
  have kn := names_any h.rep h.ok
  obtain ⟨g1, g2, g3, g4, g5⟩ := h.sums
  have hrl : r.files.length = d.names.length := by
    have e1 : r.pl.files.length = r.files.length := by simp [Rs.pl]
    have e2 : d.pl.files.length = d.names.length := by simp [Ds.pl, Ds.names]
    omega
  have hfew : d.names.length ≤ 16 := by
    have := h.ok.few
    simpa [Ds.pl, Ds.names] using this
  have hrok := h.rok (by omega)
  have K14 : Aside (∀ (n : ByteArray) (u : World), Both u B b c d r → Calls Try.prog 12 #[.pointer (some ⟨b, 0, none⟩), .string n] u fun e w' => e = .returned (.tuple #[.string (opRead d.pl n).1, .int .i64 (opRead d.pl n).2]) ∧ Below u.heap.size u w') := fun n u hu => read_any hu.rep hu.ok n
  have K15 : Aside (∀ (n : ByteArray) (u : World), Both u B b c d r → Calls Try.prog 58 #[.pointer (some ⟨b, 0, none⟩), .string n] u fun e w' => e = .returned (.int .i64 (opSure d.pl n : Nat)) ∧ Below u.heap.size u w') := fun n u hu => sure_any hu.rep hu.ok n
  have K38 : Aside (∀ (n : ByteArray) (u : World), Both u B b c d r → Calls Try.prog 59 #[.pointer (some ⟨c, 0, none⟩), .string n] u fun e w' => e = .returned (.int .i64 (rSure r.pl n : Nat)) ∧ Below u.heap.size u w') := fun n u hu => (rsure_any hu.rrep hrok n).mono fun e w' ⟨a, b⟩ => ⟨a, b ▸ Below.refl _ _⟩
  have K39 : Aside (∀ u : World, Both u B b c d r → Calls Try.prog 60 #[.pointer (some ⟨c, 0, none⟩)] u fun e w' => e = .returned (.tuple #[.int .i64 (d.pl.total : Nat), .int .i64 (d.pl.late : Nat)]) ∧ w' = u) := fun u hu => by
    have := rused_any hu.rrep hrok
    rwa [g1, g2] at this
  have K40 : Aside (∀ u : World, Both u B b c d r → Calls Try.prog 61 #[.pointer (some ⟨c, 0, none⟩)] u fun e w' => e = .returned (.tuple #[.int .i64 (d.pl.free : Nat), .int .i64 (16 - (d.pl.files.length : Int))]) ∧ Below u.heap.size u w') := fun u hu => by
    have := rfree_any hu.rrep hrok
    rwa [g3, g4] at this
  have c0 := h.rrep.c0
  have c4 := h.rrep.c4
  rw [g5] at c4
  obtain ⟨a, cap, ev⟩ := own_any h.rrep.tab
  have HR : Aside (∀ t, t < d.names.length → ∃ (f : Gv) (g : Nat) (a' : Option Addr) (c' : Nat) (a'' : Option Addr) (c'' : Nat), a = some ⟨g, 0, none⟩ ∧ w.cell? ⟨g, t * 3, none⟩ = some (.string f.name) ∧ w.cell? ⟨g, t * 3 + 1, none⟩ = some (.slice a' f.bytes.length c') ∧ w.cell? ⟨g, t * 3 + 2, none⟩ = some (.slice a'' f.late.length c'') ∧ (∀ u : World, Both u B b c d r → (convert 49 9 (.slice a' f.bytes.length c')).run Try.prog u = .ok (.string ⟨f.bytes.toArray⟩) u) ∧ d.names[t]? = some f.name ∧ opRead d.pl f.name = (⟨f.bytes.toArray⟩, 0) ∧ rSure r.pl f.name = opSure d.pl f.name) := fun t ht => by
    have hf : r.files[t]? = some r.files[t]! := getbang r.files t (by omega)
    obtain ⟨n1, n2, n3⟩ := h.get hf
    obtain ⟨g, cap', ev', _, _, hg⟩ := h.rrep.vf_form hf
    obtain ⟨a', c', e'⟩ := own_any (h.rrep.rb _ (List.mem_of_getElem? hf))
    obtain ⟨a'', c'', e''⟩ := own_any (h.rrep.rl _ (List.mem_of_getElem? hf))
    obtain ⟨y0, y1, y2⟩ := h.rrep.fcells hf hg
    rw [ev] at ev'
    injection ev' with q1 q2 q3
    rw [e'] at y1
    rw [e''] at y2
    refine ⟨r.files[t]!, g, a', c', a'', c'', q1, y0, y1, y2, fun u hu => ?_, n1, n2, n3⟩
    have := conv_row (hu.rrep.rb _ (List.mem_of_getElem? hf))
    rwa [e'] at this
  rw [ev, hrl] at c0
  have K17 : Aside (∀ u : World, Both u B b c d r → Calls Try.prog 39 #[.pointer (some ⟨b, 0, none⟩)] u fun e w' => e = .returned (.int .i64 (d.pl.total : Nat)) ∧ Below u.heap.size u w') := fun u hu => used_any hu.rep hu.ok
  have K13 : Aside (∀ u : World, Both u B b c d r → Calls Try.prog 14 #[.pointer (some ⟨b, 0, none⟩)] u fun e w' => e = .returned (.int .i64 (d.pl.late : Nat)) ∧ Below u.heap.size u w') := fun u hu => waits_any hu.rep hu.ok
  have K26 : Aside (∀ u : World, Both u B b c d r → Calls Try.prog 62 #[.pointer (some ⟨b, 0, none⟩)] u fun e w' => e = .returned (.int .i64 (d.pl.free : Nat)) ∧ Below u.heap.size u w') := fun u hu => free_any hu.rep hu.ok
  have K27 : Aside (∀ u : World, Both u B b c d r → Calls Try.prog 38 #[.pointer (some ⟨b, 0, none⟩)] u fun e w' => e = .returned (.int .i64 (16 - (d.pl.files.length : Int))) ∧ Below u.heap.size u w') := fun u hu => (holes_any hu.rep hu.ok).mono fun e w' ⟨a, b⟩ => ⟨a, b ▸ Below.refl _ _⟩
  have K18 : Aside (∀ u : World, Both u B b c d r → Calls Try.prog 63 #[.pointer (some ⟨b, 0, none⟩)] u fun e w' => e = .returned (.bool d.pl.down) ∧ Below u.heap.size u w') := fun u hu => (down_any hu.rep).mono fun e w' ⟨a, b⟩ => ⟨a, b ▸ Below.refl _ _⟩
  clear h hrok ev hc hrl
  generalize d.pl.total = TO at *
  generalize d.pl.late = LA at *
  generalize d.pl.free = FR at *
  generalize 16 - (d.pl.files.length : Int) = HO at *
  generalize d.pl.down = DO at *
  clear g1 g2 g3 g4 g5
  go_enter Try.func22, Try.ntmps22
  go_wp2_with (go_at_call 11; refine kn.mono ?_; rintro e w1 ⟨v, rfl, ho, hb1⟩; obtain ⟨av, cv, ev⟩ := own_any ho; subst ev; have b0 := cell_below c0 hb1)
  have HO1 : Aside _ := ho
  clear ho
  go_loopg [29, 6, 7, 8, 9] d.names.length (fun gh s29 _ _ _ _ wr => ∃ k : Nat, d.names.length - k ≤ gh ∧ k ≤ d.names.length ∧ s29 = .int .i64 (k : Int) ∧ Below w.heap.size w wr ∧ Below w1.heap.size w1 wr)
  case atStart => exact ⟨0, by omega, by omega, rfl, hb1, Below.refl _ _⟩
  case round =>
    obtain ⟨k, hgh, hk, rfl, hbr, hb2⟩ := hrel
    by_cases hlt : k < d.names.length
    · have q3 : decide (k < d.names.length) = true := by simpa using hlt
      obtain ⟨f, g, a', c', a'', c'', rfl, y0, y1, y2, hcv, n1, n2, n3⟩ := HR.out k hlt
      obtain ⟨ln, cvv, e1, _, _, hln⟩ := own_form HO1.out (by omega)
      injection e1 with e1 e2 e3
      subst e1 e3
      clear e2
      have hkl : (scells d.names)[k]? = some (.string f.name) := by unfold scells; rw [List.getElem?_map, n1]; rfl
      have z0 := cell_below y0 hbr
      have z1 := cell_below y1 hbr
      have z2 := cell_below y2 hbr
      have zl := cell_below (own_cell HO1.out hln hkl) hb2
      have k14 := K14.out f.name
      have k15 := K15.out f.name
      have k38 := K38.out f.name
      rw [n2] at k14
      rw [n3] at k38
      generalize opSure d.pl f.name = SU at *
      generalize (ByteArray.mk f.bytes.toArray) = S at *
      have p1 : (f.name.toList == f.name.toList) = true := beq_self_eq_true _
      have p1' : (f.name.toList != f.name.toList) = false := by unfold bne; rw [p1]; rfl
      have p2 : (S.toList == S.toList) = true := beq_self_eq_true _
      have p2' : (S.toList != S.toList) = false := by unfold bne; rw [p2]; rfl
      have p3 : ((SU : Int) == (SU : Int)) = true := beq_self_eq_true _
      have p3' : ((SU : Int) != (SU : Int)) = false := by unfold bne; rw [p3]; rfl
      have p4 : (SU == SU) = true := beq_self_eq_true _
      have p4' : (SU != SU) = false := by unfold bne; rw [p4]; rfl
      have k14' : Aside _ := k14
      have k15' : Aside _ := k15
      have k38' : Aside _ := k38
      have hcv' : Aside _ := hcv
      clear hkl hln n1 n2 n3 y0 y1 y2 k14 k15 k38 hcv
      go_wp2_with (go_at_call 12; refine (k14'.out _ (H.out.below (hbr.alloc hbr.size _))).mono ?_; rintro e w4 ⟨rfl, hb4⟩)
      have hbw4 : Below w.heap.size w w4 := (hbr.alloc hbr.size _).trans (hb4.mono (hbr.alloc hbr.size _).size)
      have hbw14 : Below w1.heap.size w1 w4 := (hb2.alloc hb2.size _).trans (hb4.mono (hb2.alloc hb2.size _).size)
      obtain ⟨x0, x1, x2⟩ : w4.cell? ⟨wr.heap.size, 0, none⟩ = some (.string f.name) ∧ w4.cell? ⟨wr.heap.size, 1, none⟩ = some (.slice a' f.bytes.length c') ∧ w4.cell? ⟨wr.heap.size, 2, none⟩ = some (.slice a'' f.late.length c'') := by
        have hX : w4.heap[wr.heap.size]? = some (.cells #[.string f.name, .slice a' f.bytes.length c', .slice a'' f.late.length c''] 89 (0, 0)) := (hb4.block _ (by simp)).trans (heap_alloc_new wr _)
        exact ⟨by rw [cell_of_row _ _ 0 _ _ _ hX]; rfl, by rw [cell_of_row _ _ 1 _ _ _ hX]; rfl, by rw [cell_of_row _ _ 2 _ _ _ hX]; rfl⟩
      have zl4 := cell_below zl ((((Below.refl _ _).alloc (Nat.le_refl _) _)).trans (hb4.mono (by simp)))
      have x0q : ∀ q : Later w4, q.u.cell? ⟨wr.heap.size, 0, none⟩ = some (.string f.name) := fun q => cell_below x0 q.bel
      have x1q : ∀ q : Later w4, q.u.cell? ⟨wr.heap.size, 1, none⟩ = some (.slice a' f.bytes.length c') := fun q => cell_below x1 q.bel
      have zlq : ∀ q : Later w4, q.u.cell? ⟨ln, k, none⟩ = some (.string f.name) := fun q => cell_below zl4 q.bel
      have hB : Aside (∀ q : Later w4, Both q.u B b c d r) := fun q => (H.out.below hbw4).below q.bel
      have cvq : ∀ q : Later w4, (convert 49 9 (.slice a' f.bytes.length c')).run Try.prog q.u = .ok (.string S) q.u := fun q => hcv'.out _ (hB.out q)
      have K15q : Aside (∀ q : Later w4, Calls Try.prog 58 #[.pointer (some ⟨b, 0, none⟩), .string f.name] q.u fun e w' => e = .returned (.int .i64 (SU : Nat)) ∧ Below q.u.heap.size q.u w') := fun q => k15'.out _ (hB.out q)
      have K38q : Aside (∀ q : Later w4, Calls Try.prog 59 #[.pointer (some ⟨c, 0, none⟩), .string f.name] q.u fun e w' => e = .returned (.int .i64 (SU : Nat)) ∧ Below q.u.heap.size q.u w') := fun q => k38'.out _ (hB.out q)
      have HB : Aside _ := And.intro hbw4 hbw14
      clear x0 x1 x2 zl zl4 z0 z1 z2 hb4 hbw4 hbw14 hb2 hbr k14' k15' k38' hcv'
      have hne := later_some w4
      refine wp_region_later (by kernel_rfl) (by kernel_rfl) ?_
      repeat (go_big_quiet_step ((first | (go_at_call 58; exact calls_later (K15q.out _)) | (go_at_call 59; exact calls_later (K38q.out _)))))
      refine wpQuiet_nil ?_
      rintro _ ⟨q, rfl⟩
      obtain ⟨e1, e2⟩ := HB.out
      have f1 : Below w.heap.size w q.u := e1.trans (q.bel.mono e1.size)
      have f2 : Below w1.heap.size w1 q.u := e2.trans (q.bel.mono e2.size)
      clear hne x0q x1q zlq cvq K15q K38q hB HB e1 e2
      go_wp2
      go_roundg (d.names.length - (k + 1))
      case measure => omega
      case rel => exact ⟨k + 1, Nat.le_refl _, by omega, by go_num, f1, f2⟩
    · obtain rfl : k = d.names.length := by omega
      have q3 : decide (d.names.length < d.names.length) = false := by simp
      have hBr := H.out.below hbr
      go_wp2_with (first
        | (go_at_call 60; refine (K39.out _ hBr).mono ?_; rintro e w5 ⟨rfl, rfl⟩)
        | (go_at_call 61; refine (K40.out _ hBr).mono ?_; rintro e w6 ⟨rfl, hb6⟩))
      have hB6 := hBr.below hb6
      have hb7 : Below w.heap.size w w6 := hbr.trans (hb6.mono hbr.size)
      have c4' := cell_below c4 hb7
      have c4q : ∀ q : Later w6, q.u.cell? ⟨c, 4, none⟩ = some (.bool DO) := fun q => cell_below c4' q.bel
      have hB : Aside (∀ q : Later w6, Both q.u B b c d r) := fun q => hB6.below q.bel
      have Q17 : Aside (∀ q : Later w6, Calls Try.prog 39 #[.pointer (some ⟨b, 0, none⟩)] q.u fun e w' => e = .returned (.int .i64 (TO : Nat)) ∧ Below q.u.heap.size q.u w') := fun q => K17.out _ (hB.out q)
      have Q13 : Aside (∀ q : Later w6, Calls Try.prog 14 #[.pointer (some ⟨b, 0, none⟩)] q.u fun e w' => e = .returned (.int .i64 (LA : Nat)) ∧ Below q.u.heap.size q.u w') := fun q => K13.out _ (hB.out q)
      have Q26 : Aside (∀ q : Later w6, Calls Try.prog 62 #[.pointer (some ⟨b, 0, none⟩)] q.u fun e w' => e = .returned (.int .i64 (FR : Nat)) ∧ Below q.u.heap.size q.u w') := fun q => K26.out _ (hB.out q)
      have Q27 : Aside (∀ q : Later w6, Calls Try.prog 38 #[.pointer (some ⟨b, 0, none⟩)] q.u fun e w' => e = .returned (.int .i64 HO) ∧ Below q.u.heap.size q.u w') := fun q => K27.out _ (hB.out q)
      have Q18 : Aside (∀ q : Later w6, Calls Try.prog 63 #[.pointer (some ⟨b, 0, none⟩)] q.u fun e w' => e = .returned (.bool DO) ∧ Below q.u.heap.size q.u w') := fun q => K18.out _ (hB.out q)
      have t1 : ((TO : Int) == (TO : Int)) = true := beq_self_eq_true _
      have t2 : ((LA : Int) == (LA : Int)) = true := beq_self_eq_true _
      have t3 : ((FR : Int) == (FR : Int)) = true := beq_self_eq_true _
      have t4 : (HO == HO) = true := beq_self_eq_true _
      have t5 : (DO == DO) = true := beq_self_eq_true _
      have HB : Aside _ := hb7
      clear hBr hB6 hb7 hb6 c4' hbr hb2
      have hne := later_some w6
      refine wp_region_later (by kernel_rfl) (by kernel_rfl) ?_
      repeat (go_big_quiet_step ((first | (go_at_call 39; exact calls_later (Q17.out _)) | (go_at_call 14; exact calls_later (Q13.out _)) | (go_at_call 62; exact calls_later (Q26.out _)) | (go_at_call 38; exact calls_later (Q27.out _)) | (go_at_call 63; exact calls_later (Q18.out _)))))
      refine wpQuiet_nil ?_
      rintro _ ⟨q, rfl⟩
      have f1 : Below w.heap.size w q.u := HB.out.trans (q.bel.mono HB.out.size)
      clear hne c4q Q17 Q13 Q26 Q27 Q18 hB HB
      go_wp2
      go_ret
      exact ⟨rfl, f1⟩
end Go.Proofs.Ytnmamaeoghgegaa.Dk

/-
  What a crash leaves, as plain data.
-/
namespace Go.Proofs.Ytnmamaeoghgegaa.Dk
open Go.RowKit
set_option maxRecDepth 100000

/-- How many bytes of a file last that weren't sure. -/
def cntOf (s : St) (last : Int) (n : ByteArray) : Nat := ((flat s.pieces).take last.toNat).countP fun x => decide (cmp x n = 0)

theorem crash_files (s : St) (last : Int) : (opCrash s last).files = s.files.map fun f => ⟨f.name, f.bytes.take (f.sure + cntOf s last f.name), f.sure + cntOf s last f.name⟩ := by
  show cutAll (lasts s.files s.pieces last.toNat) = _
  unfold cutAll
  rw [lasts_flat, List.map_map]
  rfl

theorem crash_le {s : St} (ok : Ok s) (last : Int) {f : F} (hf : f ∈ s.files) : f.sure + cntOf s last f.name ≤ f.bytes.length := by
  have h1 := ok.waits f hf
  have h2 : cntOf s last f.name ≤ wait f.name s.pieces := by
    rw [← flat_count]
    exact (List.take_sublist _ _).countP_le
  omega

theorem crash_twice (s : St) (last : Int) : opCrash (opCrash s last) last = opCrash s last := by
  have e : cutAll (cutAll (lasts s.files s.pieces last.toNat)) = cutAll (lasts s.files s.pieces last.toNat) := by
    unfold cutAll
    rw [List.map_map]
    apply List.map_congr_left
    intro f _
    simp [List.take_take]
  show (⟨cutAll (cutAll (lasts s.files s.pieces last.toNat)), [], s.room, false, 0, false⟩ : St) = ⟨cutAll (lasts s.files s.pieces last.toNat), [], s.room, false, 0, false⟩
  rw [e]

theorem sum_count (l : List ByteArray) (hn : l.Nodup) : ∀ xs : List ByteArray, (∀ x ∈ xs, x ∈ l) → (l.map fun n => xs.countP fun x => decide (cmp x n = 0)).sum = xs.length
  | [], _ => sum_zero l _ fun _ _ => rfl
  | x :: r, h => by
    have ih := sum_count l hn r fun y hy => h y (List.mem_cons_of_mem _ hy)
    have e : ∀ n, (x :: r).countP (fun y => decide (cmp y n = 0)) = (if cmp x n = 0 then 1 else 0) + r.countP fun y => decide (cmp y n = 0) := fun n => by
      rw [List.countP_cons]
      by_cases hx : cmp x n = 0 <;> simp [hx] <;> omega
    simp only [e, sum_add_map]
    rw [ih, sum_hit l hn x 1 (h x List.mem_cons_self), List.length_cons]
    omega

theorem flat_length : ∀ ps : List Pc, (flat ps).length = (ps.map Pc.size).sum
  | [] => rfl
  | p :: r => by
    have ih := flat_length r
    unfold flat at ih ⊢
    rw [List.flatMap_cons, List.length_append, List.length_replicate, ih, List.map_cons, List.sum_cons]

theorem crash_total {s : St} (ok : Ok s) (last : Int) : (opCrash s last).total = (s.files.map F.sure).sum + min last.toNat s.late := by
  unfold St.total
  rw [crash_files, List.map_map]
  have e1 : s.files.map ((fun f => f.bytes.length) ∘ fun f => (⟨f.name, f.bytes.take (f.sure + cntOf s last f.name), f.sure + cntOf s last f.name⟩ : F)) = s.files.map fun f => f.sure + cntOf s last f.name := by
    apply List.map_congr_left
    intro f hf
    show (f.bytes.take (f.sure + cntOf s last f.name)).length = _
    rw [List.length_take]
    have := crash_le ok last hf
    omega
  rw [e1, sum_add_map]
  congr 1
  have e2 : (s.files.map fun f => cntOf s last f.name) = s.names.map fun n => cntOf s last n := by
    unfold St.names
    rw [List.map_map]
    rfl
  rw [e2]
  have hmem : ∀ x ∈ (flat s.pieces).take last.toNat, x ∈ s.names := fun x hx => by
    obtain ⟨p, hp, hxp⟩ := List.mem_flatMap.1 (List.mem_of_mem_take hx)
    rw [List.eq_of_mem_replicate hxp]
    exact ok.named p hp
  have := sum_count s.names ok.rising.nodup _ hmem
  unfold cntOf
  rw [this, List.length_take, flat_length]
  rfl

theorem crash_names (s : St) (last : Int) : (opCrash s last).names = s.names := by
  unfold St.names
  rw [crash_files, List.map_map]
  rfl

/-- What is asked of one file. -/
theorem ask_at {s : St} (ok : Ok s) {i : Nat} {f : F} (hf : s.files[i]? = some f) : s.names[i]? = some f.name ∧ opRead s f.name = (⟨f.bytes.toArray⟩, 0) ∧ opSure s f.name = f.sure := by
  have hnt : s.names[i]? = some f.name := by
    show (s.files.map F.name)[i]? = _
    rw [List.getElem?_map, hf]
    rfl
  have hl2 : i < s.names.length := (List.getElem?_eq_some_iff.1 hnt).1
  have hnt' : s.names[i]! = f.name := by
    rw [getElem!_pos s.names i hl2]
    rw [List.getElem?_eq_getElem hl2] at hnt
    exact Option.some.inj hnt
  have hpl : place s.names f.name = i := by
    have := place_at ok.rising i hl2
    rwa [hnt'] at this
  have hh : has s.names f.name = true := has_iff.2 (List.mem_of_getElem? hnt)
  refine ⟨hnt, ?_, ?_⟩
  · unfold opRead St.bytesOf
    rw [hh, hpl, hf]
    rfl
  · unfold opSure St.sureOf
    rw [hh, hpl, hf]
    rfl

/-- The same, behind the crash. -/
theorem ask_crashed {s : St} (ok : Ok s) (last : Int) {i : Nat} {f : F} (hf : s.files[i]? = some f) : ∃ m, m ≤ f.bytes.length ∧ f.sure ≤ m ∧ opRead (opCrash s last) f.name = (⟨(f.bytes.take m).toArray⟩, 0) ∧ opSure (opCrash s last) f.name = m := by
  have h2 : (opCrash s last).files[i]? = some ⟨f.name, f.bytes.take (f.sure + cntOf s last f.name), f.sure + cntOf s last f.name⟩ := by
    rw [crash_files, List.getElem?_map, hf]
    rfl
  obtain ⟨_, a, b⟩ := ask_at (ok.opCrash last) h2
  exact ⟨f.sure + cntOf s last f.name, crash_le ok last (List.mem_of_getElem? hf), Nat.le_add_right _ _, a, b⟩
end Go.Proofs.Ytnmamaeoghgegaa.Dk
