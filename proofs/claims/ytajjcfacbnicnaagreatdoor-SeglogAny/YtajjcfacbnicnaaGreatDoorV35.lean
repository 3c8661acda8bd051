/-
  YtajjcfacbnicnaaGreatDoor: the texts K5, K6, R1, R2, one behind the other.
-/
import Derived.Test.YtajjcfacbnicnaaGreatDoorV33
import Derived.Test.YtajjcfacbnicnaaGreatDoorV29
import Derived.Test.YtajjcfacbnicnaaGreatDoorV34
import Derived.WalkKit
import Derived.WalkSpells
import Derived.WalkLawsBesides
import Derived.Deep.LoopGhost
import Derived.Laws.Externs
import Derived.Below
import Derived.BigQuiet
import Derived.Deep.RegionWith
import Derived.OwnWalk
import Derived.Maps.AppendAt
import Derived.WalkSmall
import Derived.Test.YtajjcfacbnicnaaGreatDoorV30
/-
  The segments, and which records are sure.
-/
namespace Go.Proofs.YtajjcfacbnicnaaGreatDoor
open Go.RowKit
set_option maxRecDepth 100000
/-- The segments, and that so many records are sure. -/
structure Kp (s : Dk.St) (G : List Seg) (k : Nat) : Prop where
  inv : Inv s G
  nil : G = [] → k = 0
  sure : ∀ D g, G = D ++ [g] → ∃ j, j ≤ g.length ∧ k ≤ D.flatten.length + j ∧ ∀ f ∈ s.files, f.name = nmL ((D.length : Int) + 1) → Fm.Fr.en g j ≤ f.sure
theorem Kp.le {s : Dk.St} {G : List Seg} {k : Nat} (h : Kp s G k) : k ≤ G.flatten.length := by
  rcases List.eq_nil_or_concat G with rfl | ⟨D, g, rfl⟩
  · rw [h.nil rfl]
    exact Nat.zero_le _
  · rw [List.concat_eq_append] at h ⊢
    obtain ⟨j, h1, h2, _⟩ := h.sure D g rfl
    simp
    simp at h2
    omega
theorem Inv.same {s s' : Dk.St} {G : List Seg} (h : Inv s G) (ok : Dk.Ok s') (e : s'.files = s.files) : Inv s' G := by
  refine ⟨ok, fun t => ?_, fun i hi => ?_, h.short, by rw [e]; exact h.cnt⟩
  · rw [show s'.names = s.names by unfold Dk.St.names; rw [e]]
    exact h.names t
  · rw [e]
    exact h.file i hi
theorem Kp.same {s s' : Dk.St} {G : List Seg} {k : Nat} (h : Kp s G k) (ok : Dk.Ok s') (e : s'.files = s.files) : Kp s' G k :=
  ⟨h.inv.same ok e, h.nil, fun D g hg => by rw [e]; exact h.sure D g hg⟩
/-- An append takes nothing from what is sure. -/
theorem app_sure {s : Dk.St} (ok : Dk.Ok s) {n x : ByteArray} (hp : s.power = true) (hm : Dk.mayBe n = true) (hf : s.full n x = false) (hx : x.size ≠ 0) {f f' : Dk.F} (hf' : f' ∈ (Dk.opAppend s n x).2.files) (hfm : f ∈ s.files) (e : f.name = f'.name) : f.sure ≤ f'.sure := by
  obtain ⟨_, a2, a3, _⟩ := app_files ok hp hm hf hx
  have ok' := ok.opAppend n x
  by_cases hn : f.name = n
  · have := file_uniq ok'.rising.nodup hf' (a3 f hfm hn) (by rw [← e, hn])
    rw [this]
    exact Nat.le_refl _
  · have := file_uniq ok'.rising.nodup hf' (a2 f hfm hn) e.symm
    rw [this]
    exact Nat.le_refl _
theorem snoc_inj {α : Type} {D D' : List α} {g g' : α} (h : D ++ [g] = D' ++ [g']) : D = D' ∧ g = g' := by
  have := List.append_inj' h rfl
  exact ⟨this.1, by simpa using this.2⟩
theorem en_more (g : Seg) (x : List UInt8) {j : Nat} (h : j ≤ g.length) : Fm.Fr.en (g ++ [x]) j = Fm.Fr.en g j := by
  unfold Fm.Fr.en
  rw [List.take_append_of_le_length h]
theorem Kp.new {s : Dk.St} {G : List Seg} {k : Nat} (h : Kp s G k) (hp : s.power = true) (hs : ∀ f ∈ s.files, f.sure = f.bytes.length) {x : ByteArray} (hx : x.size ≤ 2000) (hG : G.length ≤ 15) (hr : s.total + (x.size + 10) ≤ s.room) :
    (Dk.opAppend s (nmL ((G.length : Int) + 1)) (fr x)).1 = 0 ∧ Kp (Dk.opAppend s (nmL ((G.length : Int) + 1)) (fr x)).2 (G ++ [[x.data.toList]]) k := by
  obtain ⟨b1, b2, _⟩ := h.inv.new hp hs hx hG hr
  refine ⟨b1, b2, fun e => by simp at e, fun D g e => ?_⟩
  obtain ⟨rfl, rfl⟩ := snoc_inj e
  exact ⟨0, Nat.zero_le _, h.le, fun f _ _ => by rw [Fm.Fr.en_zero]; exact Nat.zero_le _⟩
theorem Kp.more {s : Dk.St} {D : List Seg} {g : Seg} {k : Nat} (h : Kp s (D ++ [g]) k) (hp : s.power = true) {x : ByteArray} (hx : x.size ≤ 2000) (hr : s.total + (x.size + 10) ≤ s.room) :
    (Dk.opAppend s (nmL ((D.length : Int) + 1)) (fr x)).1 = 0 ∧ Kp (Dk.opAppend s (nmL ((D.length : Int) + 1)) (fr x)).2 (D ++ [g ++ [x.data.toList]]) k := by
  obtain ⟨b1, b2, _⟩ := h.inv.more hp hx hr
  have hz := fr_size hx
  have hfew := h.inv.few
  have hlen : (D ++ [g]).length = D.length + 1 := by simp
  have hD : D.length < (D ++ [g]).length := by omega
  obtain ⟨f, h2, h3, _, _⟩ := h.inv.file D.length hD
  have hin : nmL ((D.length : Int) + 1) ∈ s.names := by rw [← h3]; exact mem_names h2
  have hfull : s.full (nmL ((D.length : Int) + 1)) (fr x) = false := by
    unfold Dk.St.full
    rw [hz, Dk.has_iff.2 hin]
    simp
    omega
  refine ⟨b1, b2, fun e => by simp at e, fun D' g' e => ?_⟩
  obtain ⟨rfl, rfl⟩ := snoc_inj e
  obtain ⟨j, k1, k2, k3⟩ := h.sure D g rfl
  refine ⟨j, by simp; omega, k2, fun f' hf' hn' => ?_⟩
  rw [en_more g _ k1]
  exact Nat.le_trans (k3 f h2 h3) (app_sure h.inv.ok hp (nmL_may (by omega) (by omega)) hfull (by omega) hf' h2 (by rw [h3, hn']))
theorem Kp.all {s : Dk.St} {G : List Seg} (h : Inv s G) (hs : ∀ f ∈ s.files, f.sure = f.bytes.length) : Kp s G G.flatten.length := by
  refine ⟨h, fun e => by rw [e]; rfl, fun D g e => ?_⟩
  subst e
  refine ⟨g.length, Nat.le_refl _, by simp, fun f hf hn => ?_⟩
  obtain ⟨f', k2, k3, k4, _⟩ := h.file D.length (by simp)
  rw [List.getElem_append_right (Nat.le_refl _)] at k4
  simp only [Nat.sub_self, List.getElem_cons_zero] at k4
  have e := file_uniq h.ok.rising.nodup hf k2 (by rw [hn, k3])
  rw [hs f hf, e, k4, Fm.Fr.en_all]
  exact Nat.le_refl _
theorem app_off {s : Dk.St} (h : s.power = false) (n x : ByteArray) : Dk.opAppend s n x = (12, s.spent) := by
  unfold Dk.opAppend
  rw [h]
  rfl
theorem syn_off {s : Dk.St} (h : s.power = false) (n : ByteArray) : Dk.opSync s n = (12, s.spent) := by
  unfold Dk.opSync
  rw [h]
  rfl
theorem ref_free {s : Dk.St} {tn w : Int} (h : lRefused s tn w = 0) (hw : 0 < w) : (s.total : Int) + w ≤ s.room ∧ (th s tn = false → s.files.length ≤ 13) ∧ 1 ≤ tn ∧ tn ≤ 99999 := by
  unfold lRefused at h
  split at h
  · cases h
  · rename_i h1
    split at h
    · cases h
    · rename_i h2
      split at h
      · cases h
      · rename_i h3
        have h4 : 1 ≤ tn ∧ tn ≤ 99999 := Classical.byContradiction fun hh => h1 (nmL_empty.2 hh)
        unfold Dk.St.free at h3
        refine ⟨by omega, fun ht => ?_, h4⟩
        exact Nat.le_of_not_lt fun hlt => h2 ⟨ht, by omega⟩
/-- Append, whatever the disk says. -/
theorem app_keep {s : Dk.St} {G : List Seg} {k : Nat} (h : Kp s G k) (m : Int) (x : ByteArray) (rest : Int) :
    ((lAppend s 1 m x rest).1 = 0 → ∃ G', Kp (lAppend s 1 m x rest).2 G' k ∧ G'.flatten = G.flatten ++ [x.data.toList]) ∧ ((lAppend s 1 m x rest).1 ≠ 0 → Kp (lAppend s 1 m x rest).2 G k) := by
  have hwi : 0 ≤ wi rest := by unfold wi; omega
  by_cases hx2 : 2000 < x.size
  · rw [lapp_long hx2]
    exact ⟨fun e => (by cases e), fun _ => h⟩
  have hx : x.size ≤ 2000 := by omega
  have hz := fr_size hx
  have hl := h.inv.last
  by_cases hr : lRefused s (lPlace s m (lLast s 1) (fr x).size) ((fr x).size + wi rest) = 0
  case neg =>
    rw [lapp_refused hx2 hr]
    exact ⟨fun e => absurd e hr, fun _ => h⟩
  obtain ⟨r1, r2, r3, r4⟩ := ref_free hr (by rw [hz]; push_cast; omega)
  rw [hz] at r1
  have hroom : s.total + (x.size + 10) ≤ s.room := by push_cast at r1; omega
  rcases List.eq_nil_or_concat G with rfl | ⟨D, g, rfl⟩
  · have hl1 : lLast s 1 = 1 := by rw [hl]; rfl
    have htx := (h.inv.txno (n := 1) (by omega) (by omega) (by simp)).1
    have hpl : lPlace s m (lLast s 1) (fr x).size = lLast s 1 := by
      unfold lPlace
      rw [hl1, htx, if_neg (fun hh => by have : (⟨#[]⟩ : ByteArray).size = 0 := rfl; omega)]
    rw [lapp_same hx2 hr hpl, hl1]
    cases hp : s.power with
    | false =>
      rw [app_off hp]
      exact ⟨fun e => (by cases e), fun _ => h.same h.inv.ok.spent rfl⟩
    | true =>
      obtain ⟨b1, b2⟩ := h.new hp (fun f hf => by
        have := h.inv.cnt
        have : s.files = [] := List.eq_nil_of_length_eq_zero this
        rw [this] at hf
        cases hf) hx (by simp) hroom
      exact ⟨fun _ => ⟨_, b2, by simp⟩, fun e => absurd b1 e⟩
  · have hlen : (D ++ [g]).length = D.length + 1 := by simp
    rw [List.concat_eq_append] at h hl ⊢
    have hl1 : lLast s 1 = (D.length : Int) + 1 := by rw [hl, hlen]; omega
    by_cases hpl : lPlace s m (lLast s 1) (fr x).size = lLast s 1
    · rw [lapp_same hx2 hr hpl, hl1]
      cases hp : s.power with
      | false =>
        rw [app_off hp]
        exact ⟨fun e => (by cases e), fun _ => h.same h.inv.ok.spent rfl⟩
      | true =>
        obtain ⟨b1, b2⟩ := h.more hp hx hroom
        exact ⟨fun _ => ⟨_, b2, by simp⟩, fun e => absurd b1 e⟩
    · have hpl2 : lPlace s m (lLast s 1) (fr x).size = (D.length : Int) + 2 := by
        unfold lPlace at hpl ⊢
        split
        · rw [hl1]; omega
        · rename_i hh
          rw [if_neg hh] at hpl
          exact absurd rfl hpl
      have hno : th s ((D.length : Int) + 2) = false := (h.inv.txno (by omega) (by rw [← hpl2]; exact r4) (by rw [hlen]; push_cast; omega)).2
      rw [hpl2] at r2
      have hfl := r2 hno
      have hcnt := h.inv.cnt
      cases hp : s.power with
      | false =>
        have e0 := syn_off hp (nmL (lLast s 1))
        rw [lapp_unsure hx2 hr hpl (by rw [e0]; show (12 : Int) ≠ 0; decide), e0]
        exact ⟨fun e => (by cases e), fun _ => h.same h.inv.ok.spent rfl⟩
      | true =>
        obtain ⟨c1, c2, c3, c4, c5, c6, c7⟩ := h.inv.sync hp
        rw [lapp_next hx2 hr hpl (by rw [hl1]; exact c1), hpl2, hl1]
        have K1 : Kp (Dk.opSync s (nmL ((D.length : Int) + 1))).2 (D ++ [g]) k := by
          refine ⟨c2, fun e => by simp at e, fun D' g' e => ?_⟩
          obtain ⟨rfl, rfl⟩ := snoc_inj e
          obtain ⟨j, k1, k2, _⟩ := (Kp.all c2 c3).sure D g rfl
          exact ⟨j, k1, by have := h.le; omega, by assumption⟩
        have e2 : (D.length : Int) + 2 = ((D ++ [g]).length : Int) + 1 := by rw [hlen]; push_cast; omega
        rw [e2]
        cases hp2 : (Dk.opSync s (nmL ((D.length : Int) + 1))).2.power with
        | false =>
          rw [app_off hp2]
          exact ⟨fun e => (by cases e), fun _ => K1.same c2.ok.spent rfl⟩
        | true =>
          obtain ⟨b1, b2⟩ := K1.new hp2 c3 hx (by omega) (by rw [c4, c5]; exact hroom)
          exact ⟨fun _ => ⟨_, b2, by simp⟩, fun e => absurd b1 e⟩
/-- Sync, whatever the disk says. -/
theorem syn_keep {s : Dk.St} {G : List Seg} {k : Nat} (h : Kp s G k) : ((lSync s 1).1 = 0 → Kp (lSync s 1).2 G G.flatten.length) ∧ ((lSync s 1).1 ≠ 0 → Kp (lSync s 1).2 G k) := by
  have hl := h.inv.last
  unfold lSync
  rcases List.eq_nil_or_concat G with rfl | ⟨D, g, rfl⟩
  · have hl1 : lLast s 1 = 1 := by rw [hl]; rfl
    have htx := (h.inv.txno (n := 1) (by omega) (by omega) (by simp)).2
    rw [hl1, htx]
    simp only [Bool.false_eq_true, if_false]
    refine ⟨fun _ => ?_, fun e => absurd rfl e⟩
    have := h.nil rfl
    subst this
    exact h
  · have hlen : (D ++ [g]).length = D.length + 1 := by simp
    rw [List.concat_eq_append] at h hl ⊢
    have hl1 : lLast s 1 = (D.length : Int) + 1 := by rw [hl, hlen]; omega
    have htx := (h.inv.tx (i := D.length) (by omega)).2
    rw [hl1, htx]
    simp only [if_true]
    cases hp : s.power with
    | false =>
      rw [syn_off hp]
      exact ⟨fun e => (by cases e), fun _ => h.same h.inv.ok.spent rfl⟩
    | true =>
      obtain ⟨c1, c2, c3, _⟩ := h.inv.sync hp
      exact ⟨fun _ => Kp.all c2 c3, fun e => absurd c1 e⟩
end Go.Proofs.YtajjcfacbnicnaaGreatDoor

/-
  A crash, and Open behind it.
-/
namespace Go.Proofs.YtajjcfacbnicnaaGreatDoor
open Go.RowKit
set_option maxRecDepth 100000
/-- What is there behind a crash: of the last segment a beginning. -/
structure Cr (s : Dk.St) (D : List Seg) (g : Seg) (k : Nat) : Prop where
  ok : Dk.Ok s
  names : ∀ t, t ∈ s.names ↔ ∃ i, i < D.length + 1 ∧ t = nmL ((i : Int) + 1)
  file : ∀ i (h : i < D.length), ∃ f ∈ s.files, f.name = nmL ((i : Int) + 1) ∧ f.bytes = Fm.Fr.mks D[i] ∧ f.sure = f.bytes.length
  last : ∃ f ∈ s.files, f.name = nmL ((D.length : Int) + 1) ∧ f.sure = f.bytes.length ∧ ∃ m, m ≤ (Fm.Fr.mks g).length ∧ f.bytes = (Fm.Fr.mks g).take m ∧ ∃ j, j ≤ g.length ∧ k ≤ D.flatten.length + j ∧ Fm.Fr.en g j ≤ m
  short : ∀ y ∈ D ++ [g], ∀ x ∈ y, x.length ≤ 2000
  cnt : s.files.length = D.length + 1
theorem Cr.few {s : Dk.St} {D : List Seg} {g : Seg} {k : Nat} (h : Cr s D g k) : D.length ≤ 15 := by
  have := h.ok.few
  have := h.cnt
  omega
theorem Cr.same {s s' : Dk.St} {D : List Seg} {g : Seg} {k : Nat} (h : Cr s D g k) (ok : Dk.Ok s') (e : s'.files = s.files) : Cr s' D g k := by
  refine ⟨ok, fun t => ?_, by rw [e]; exact h.file, by rw [e]; exact h.last, h.short, by rw [e]; exact h.cnt⟩
  rw [show s'.names = s.names by unfold Dk.St.names; rw [e]]
  exact h.names t
theorem crash_mem {s : Dk.St} (c : Int) {f : Dk.F} (hf : f ∈ s.files) : (⟨f.name, f.bytes.take (f.sure + Dk.cntOf s c f.name), f.sure + Dk.cntOf s c f.name⟩ : Dk.F) ∈ (Dk.opCrash s c).files := by
  rw [Dk.crash_files]
  exact List.mem_map.2 ⟨f, hf, rfl⟩
/-- A file that is sure is as before behind a crash. -/
theorem crash_sure {s : Dk.St} (ok : Dk.Ok s) (c : Int) {f : Dk.F} (hf : f ∈ s.files) (hs : f.sure = f.bytes.length) : f ∈ (Dk.opCrash s c).files := by
  have h1 := crash_mem c hf
  have h2 := Dk.crash_le ok c hf
  have e : f.sure + Dk.cntOf s c f.name = f.bytes.length := by omega
  rw [e, List.take_length, ← hs] at h1
  exact h1
theorem crash_len (s : Dk.St) (c : Int) : (Dk.opCrash s c).files.length = s.files.length := by
  rw [Dk.crash_files, List.length_map]
theorem Kp.crash {s : Dk.St} {D : List Seg} {g : Seg} {k : Nat} (h : Kp s (D ++ [g]) k) (c : Int) : Cr (Dk.opCrash s c) D g k := by
  have hlen : (D ++ [g]).length = D.length + 1 := by simp
  refine ⟨h.inv.ok.opCrash c, fun t => ?_, fun i hi => ?_, ?_, h.inv.short, by rw [crash_len, h.inv.cnt, hlen]⟩
  · rw [Dk.crash_names, h.inv.names, hlen]
  · obtain ⟨f, h1, h2, h3, h4⟩ := h.inv.file i (by omega)
    have hs := h4 (by omega)
    rw [List.getElem_append_left hi] at h3
    exact ⟨f, crash_sure h.inv.ok c h1 hs, h2, h3, hs⟩
  · obtain ⟨f, h1, h2, h3, _⟩ := h.inv.file D.length (by omega)
    rw [List.getElem_append_right (Nat.le_refl _)] at h3
    simp only [Nat.sub_self, List.getElem_cons_zero] at h3
    have hle := Dk.crash_le h.inv.ok c h1
    obtain ⟨j, k1, k2, k3⟩ := h.sure D g rfl
    have := k3 f h1 h2
    refine ⟨_, crash_mem c h1, h2, ?_, f.sure + Dk.cntOf s c f.name, by rw [← h3]; exact hle, by rw [h3], j, k1, k2, by omega⟩
    show f.sure + Dk.cntOf s c f.name = (f.bytes.take (f.sure + Dk.cntOf s c f.name)).length
    rw [List.length_take, Nat.min_eq_left hle]
theorem Cr.crash {s : Dk.St} {D : List Seg} {g : Seg} {k : Nat} (h : Cr s D g k) (c : Int) : Cr (Dk.opCrash s c) D g k := by
  refine ⟨h.ok.opCrash c, fun t => ?_, fun i hi => ?_, ?_, h.short, by rw [crash_len, h.cnt]⟩
  · rw [Dk.crash_names, h.names]
  · obtain ⟨f, h1, h2, h3, h4⟩ := h.file i hi
    exact ⟨f, crash_sure h.ok c h1 h4, h2, h3, h4⟩
  · obtain ⟨f, h1, h2, h3, h4⟩ := h.last
    exact ⟨f, crash_sure h.ok c h1 h3, h2, h3, h4⟩
theorem Kp.crash_none {s : Dk.St} {k : Nat} (h : Kp s [] k) (c : Int) : Kp (Dk.opCrash s c) [] k := by
  have h0 : s.files = [] := List.eq_nil_of_length_eq_zero h.inv.cnt
  refine h.same (h.inv.ok.opCrash c) ?_
  rw [Dk.crash_files, h0]
  rfl
theorem crash_power (s : Dk.St) (c : Int) : (Dk.opCrash s c).power = true ∧ (Dk.opCrash s c).down = false := ⟨rfl, rfl⟩
/-- What Cut leaves of the files. -/
theorem cut_files {s : Dk.St} (ok : Dk.Ok s) {n : ByteArray} (hp : s.power = true) {f : Dk.F} (hf : f ∈ s.files) (hn : f.name = n) {k : Nat} (hk : k ≤ f.bytes.length) :
    (Dk.opCut s n k).1 = 0 ∧ (∀ g ∈ s.files, g.name ≠ n → g ∈ (Dk.opCut s n k).2.files) ∧ (⟨n, f.bytes.take k, k⟩ : Dk.F) ∈ (Dk.opCut s n k).2.files ∧ (Dk.opCut s n k).2.files.length = s.files.length ∧ (Dk.opCut s n k).2.names = s.names := by
  obtain ⟨hh, hp0⟩ := file_at ok hf
  rw [hn] at hh hp0
  have hlen : s.len n = f.bytes.length := Dk.settle_len n hp0
  have he : Dk.opCut s n k = (0, { s.spent with files := s.files.set (Dk.place s.names n) ⟨f.name, f.bytes.take k, k⟩, pieces := Dk.keepOf f.name s.pieces }) := by
    unfold Dk.opCut
    rw [if_pos hp, if_pos hh, hlen, show (min (max (k : Int) 0) (f.bytes.length : Int)).toNat = k by omega]
    unfold Dk.St.settle
    rw [show s.spent.files = s.files from rfl, hp0]
    rfl
  rw [he]
  dsimp only
  obtain ⟨hi, hget⟩ := List.getElem?_eq_some_iff.1 hp0
  refine ⟨rfl, fun g hg hne => ?_, ?_, ?_, ?_⟩
  · obtain ⟨j, hj, rfl⟩ := List.getElem_of_mem hg
    have hji : Dk.place s.names n ≠ j := fun e => by
      subst e
      rw [hget] at hne
      exact hne hn
    exact List.mem_iff_getElem.2 ⟨j, by simpa using hj, by simp [hji]⟩
  · have h9 : (⟨n, f.bytes.take k, k⟩ : Dk.F) = ⟨f.name, f.bytes.take k, k⟩ := by rw [hn]
    rw [h9]
    exact List.mem_iff_getElem.2 ⟨Dk.place s.names n, by simpa using hi, by simp⟩
  · show (s.files.set _ _).length = _
    rw [List.length_set]
  · show (s.files.set _ _).map Dk.F.name = s.files.map Dk.F.name
    rw [List.map_set]
    refine List.ext_getElem (by simp) fun j h1 h2 => ?_
    rw [List.getElem_set]
    split
    · rename_i hj
      subst hj
      rw [List.getElem_map, hget]
    · rfl
/-- The greatest number of frames that end within so many bytes. -/
theorem frames_in (l : Seg) (m : Nat) : ∀ n, n ≤ l.length → ∃ j, j ≤ n ∧ Fm.Fr.en l j ≤ m ∧ (j < n → m < Fm.Fr.en l (j + 1))
  | 0, _ => ⟨0, Nat.le_refl _, by rw [Fm.Fr.en_zero]; exact Nat.zero_le _, fun h => absurd h (Nat.lt_irrefl _)⟩
  | n + 1, hn => by
    obtain ⟨j, h1, h2, h3⟩ := frames_in l m n (by omega)
    by_cases hj : j < n
    · exact ⟨j, by omega, h2, fun _ => h3 hj⟩
    · obtain rfl : j = n := by omega
      by_cases h4 : Fm.Fr.en l (j + 1) ≤ m
      · exact ⟨j + 1, Nat.le_refl _, h4, fun h => absurd h (Nat.lt_irrefl _)⟩
      · exact ⟨j, by omega, h2, fun _ => by omega⟩
theorem en_mono (l : Seg) : ∀ a n, n ≤ l.length → a ≤ n → Fm.Fr.en l a ≤ Fm.Fr.en l n
  | a, 0, _, h => by
    obtain rfl : a = 0 := by omega
    exact Nat.le_refl _
  | a, n + 1, hn, h => by
    by_cases h1 : a = n + 1
    · rw [h1]
      exact Nat.le_refl _
    · have h2 := en_mono l a n (by omega) (by omega)
      rw [Fm.Fr.en_succ l n (by omega)]
      omega
theorem Cr.row {s : Dk.St} {D : List Seg} {g : Seg} {k : Nat} (h : Cr s D g k) : nums s.names 1 = row (D.length + 1) := by
  have hfew := h.few
  refine rise_mem_eq ((all_lt h.ok.rising.nodup).sublist List.filter_sublist) (row_lt _) fun n => ?_
  rw [nums_mem, row_mem, h.names]
  constructor
  · rintro ⟨h1, _, h3, j, hj, e⟩
    have := nmL_inj e h1 h3
    omega
  · rintro ⟨h1, h2⟩
    exact ⟨h1, h1, by omega, (n - 1).toNat, by omega, by rw [show (((n - 1).toNat : Nat) : Int) + 1 = n by omega]⟩
theorem row_ok (k : Nat) : rowB 1 (row k) = true := by
  rw [rowB_iff]
  intro j hj
  simp only [row, List.getElem_map, List.getElem_range]
  omega
theorem map_flatten_app (D : List Seg) (l : Seg) : (D.flatten ++ l).map Fm.bs = D.flatten.map Fm.bs ++ l.map Fm.bs := List.map_append
theorem row_succ (k : Nat) : row (k + 1) = row k ++ [(k : Int) + 1] := by
  unfold row
  rw [List.range_succ, List.map_append]
  rfl
/-- The whole segments are read. -/
theorem recs_whole {s : Dk.St} {D : List Seg} {g : Seg} {k : Nat} (h : Cr s D g k) : ∀ t, t ≤ D.length → recs s (row (D.length + 1)) [] = recs s ((row (D.length + 1)).drop t) ((D.take t).flatten.map Fm.bs)
  | 0, _ => by simp
  | t + 1, ht => by
    rw [recs_whole h t (by omega)]
    have hlt : t < (row (D.length + 1)).length := by rw [row_len]; omega
    rw [List.drop_eq_getElem_cons hlt]
    have e : (row (D.length + 1))[t] = (t : Int) + 1 := by simp [row]
    obtain ⟨f, k1, k2, k3, _⟩ := h.file t (by omega)
    have hsp : spl s ((t : Int) + 1) = (D[t], (Fm.Fr.mks D[t]).length, 0) := by
      unfold spl
      rw [(tx_of h.ok k1 k2).1, k3, Fm.bs_list, Fm.Fr.split_mks _ (h.short _ (List.mem_append_left _ (List.getElem_mem _)))]
    rw [e, recs_go (by rw [hsp]), hsp]
    congr 1
    rw [← List.map_append]
    congr 1
    rw [List.take_succ_eq_append_getElem (by omega), List.flatten_append]
    simp
/-- Open behind a crash. -/
theorem open_crash {s : Dk.St} {D : List Seg} {g : Seg} {k : Nat} (h : Cr s D g k) :
    (∃ j, j ≤ g.length ∧ k ≤ D.flatten.length + j ∧ (lOpen s 1).1 = .ok ((D.flatten ++ g.take j).map Fm.bs) ∧ Kp (lOpen s 1).2 (D ++ [g.take j]) (D.flatten.length + j)) ∨
      ((lOpen s 1).1 = .error 12 ∧ s.power = false ∧ Cr (lOpen s 1).2 D g k) := by
  obtain ⟨f, h1, h2, h3, m, h4, h5, j0, h6, h7, h8⟩ := h.last
  have hrow := h.row
  have hfew := h.few
  obtain ⟨j, j1, j2, j3⟩ := frames_in g m g.length (Nat.le_refl _)
  have hj0 : j0 ≤ j := by
    refine Nat.le_of_not_lt fun hlt => ?_
    have := j3 (by omega)
    have := en_mono g (j + 1) j0 h6 (by omega)
    omega
  have hlen : f.bytes.length = m := by rw [h5, List.length_take]; omega
  have hsp : spl s ((D.length : Int) + 1) = (g.take j, Fm.Fr.en g j, if Fm.Fr.en g j = m then 0 else 3) := by
    unfold spl
    rw [(tx_of h.ok h1 h2).1, h5, Fm.bs_list]
    exact Fm.Fr.split_cut g (h.short g (by simp)) m j j1 j2 (fun hh => j3 hh) h4
  have hR : recs s (row (D.length + 1)) [] = recs s [(D.length : Int) + 1] (D.flatten.map Fm.bs) := by
    rw [recs_whole h D.length (Nat.le_refl _), List.take_length, row_succ, List.drop_append_of_le_length (by rw [row_len]; exact Nat.le_refl _)]
    rw [List.drop_eq_nil_of_le (by rw [row_len]; exact Nat.le_refl _), List.nil_append]
  have hO : lOpen s 1 = if (recs s [(D.length : Int) + 1] (D.flatten.map Fm.bs)).2.1 = 0 then (.ok (recs s [(D.length : Int) + 1] (D.flatten.map Fm.bs)).1, (recs s [(D.length : Int) + 1] (D.flatten.map Fm.bs)).2.2) else (.error (recs s [(D.length : Int) + 1] (D.flatten.map Fm.bs)).2.1, (recs s [(D.length : Int) + 1] (D.flatten.map Fm.bs)).2.2) := by
    unfold lOpen
    rw [if_neg (fun hh => nmL_empty.1 hh ⟨by omega, by omega⟩), hrow, row_ok, if_neg (by decide), hR]
  have hgj : ∀ y ∈ D ++ [g.take j], ∀ x ∈ y, x.length ≤ 2000 := fun y hy x hx => by
    rcases List.mem_append.1 hy with hy | hy
    · exact h.short y (List.mem_append_left _ hy) x hx
    · rw [List.mem_singleton.1 hy] at hx
      exact h.short g (by simp) x (List.mem_of_mem_take hx)
  have hkk : k ≤ D.flatten.length + j := by omega
  -- what stands in the end
  have KEY : ∀ s' : Dk.St, Dk.Ok s' → s'.names = s.names → s'.files.length = s.files.length → (∀ y ∈ s.files, y.name ≠ nmL ((D.length : Int) + 1) → y ∈ s'.files) → (⟨nmL ((D.length : Int) + 1), Fm.Fr.mks (g.take j), Fm.Fr.en g j⟩ : Dk.F) ∈ s'.files → Kp s' (D ++ [g.take j]) (D.flatten.length + j) := by
    intro s' ok' hn' hl' hk' hf'
    have hl2 : (D ++ [g.take j]).length = D.length + 1 := by simp
    refine ⟨⟨ok', fun t => by rw [hn', hl2]; exact h.names t, fun i hi => ?_, hgj, by rw [hl', h.cnt, hl2]⟩, fun e => by simp at e, fun D' g' e => ?_⟩
    · rw [hl2] at hi
      by_cases hiD : i < D.length
      · obtain ⟨y, y1, y2, y3, y4⟩ := h.file i hiD
        refine ⟨y, hk' y y1 (fun e => ?_), y2, by rw [List.getElem_append_left hiD]; exact y3, fun _ => y4⟩
        have := nmL_inj (y2.symm.trans e) (by omega) (by omega)
        omega
      · obtain rfl : i = D.length := by omega
        refine ⟨_, hf', rfl, ?_, fun hh => by rw [hl2] at hh; omega⟩
        rw [List.getElem_append_right (Nat.le_refl _)]
        simp
    · obtain ⟨rfl, rfl⟩ := snoc_inj e
      refine ⟨j, by rw [List.length_take]; omega, Nat.le_refl _, fun y hy hyn => ?_⟩
      rw [file_uniq ok'.rising.nodup hy hf' hyn]
      unfold Fm.Fr.en
      rw [List.take_take, Nat.min_self]
      exact Nat.le_refl _
  by_cases hz : Fm.Fr.en g j = m
  · refine .inl ⟨j, j1, hkk, ?_⟩
    rw [if_pos hz] at hsp
    rw [hO, recs_go (by rw [hsp]), hsp]
    unfold recs
    rw [if_pos rfl]
    refine ⟨by rw [map_flatten_app], KEY s h.ok rfl rfl (fun y hy _ => hy) ?_⟩
    have e1 : f = ⟨nmL ((D.length : Int) + 1), Fm.Fr.mks (g.take j), Fm.Fr.en g j⟩ := by
      have e2 : f.bytes = Fm.Fr.mks (g.take j) := by
        rw [h5, ← hz]
        have := Fm.Fr.mks_app (g.take j) (g.drop j)
        rw [List.take_append_drop] at this
        rw [this]
        unfold Fm.Fr.en
        rw [List.take_append_of_le_length (Nat.le_refl _), List.take_length]
      cases f
      simp only at h2 e2 h3 hlen
      subst h2 e2
      rw [h3, hlen, hz]
    rw [← e1]
    exact h1
  · rw [if_neg hz] at hsp
    cases hp : s.power with
    | false =>
      refine .inr ⟨?_, rfl, ?_⟩
      · have hc : Dk.opCut s (nmL ((D.length : Int) + 1)) (spl s ((D.length : Int) + 1)).2.1 = (12, s.spent) := by
          unfold Dk.opCut
          rw [hp]
          rfl
        rw [hO, recs_dead (by rw [hsp]) (by rw [hc]; show (12 : Int) ≠ 0; decide), hc]
        rfl
      · have hc : Dk.opCut s (nmL ((D.length : Int) + 1)) (spl s ((D.length : Int) + 1)).2.1 = (12, s.spent) := by
          unfold Dk.opCut
          rw [hp]
          rfl
        rw [hO, recs_dead (by rw [hsp]) (by rw [hc]; show (12 : Int) ≠ 0; decide), hc]
        exact h.same h.ok.spent rfl
    | true =>
      refine .inl ⟨j, j1, hkk, ?_⟩
      obtain ⟨c1, c2, c3, c4, c5⟩ := cut_files h.ok hp h1 h2 (k := Fm.Fr.en g j) (by omega)
      have hc : Dk.opCut s (nmL ((D.length : Int) + 1)) (spl s ((D.length : Int) + 1)).2.1 = Dk.opCut s (nmL ((D.length : Int) + 1)) (Fm.Fr.en g j) := by rw [hsp]
      rw [hO, recs_cut (by rw [hsp]) (by rw [hc]; exact c1), hc, hsp]
      rw [if_pos rfl]
      refine ⟨by rw [map_flatten_app], KEY _ (h.ok.opCut _ _) c5 c4 c2 ?_⟩
      have e2 : f.bytes.take (Fm.Fr.en g j) = Fm.Fr.mks (g.take j) := by
        rw [h5, List.take_take, Nat.min_eq_left j2]
        have := Fm.Fr.mks_app (g.take j) (g.drop j)
        rw [List.take_append_drop] at this
        rw [this]
        unfold Fm.Fr.en
        rw [List.take_append_of_le_length (Nat.le_refl _), List.take_length]
      rw [e2] at c3
      exact c3
/-- Open of a disk that has no segment. -/
theorem open_none {s : Dk.St} {k : Nat} (h : Kp s [] k) : lOpen s 1 = (.ok [], s) := by
  unfold lOpen
  rw [if_neg (fun hh => nmL_empty.1 hh ⟨by omega, by omega⟩), h.inv.nums]
  rfl
end Go.Proofs.YtajjcfacbnicnaaGreatDoor

/-
  SeglogRot: what came in, what the log has.
-/
namespace Go.Proofs.YtajjcfacbnicnaaGreatDoor
open Go.RowKit
set_option maxRecDepth 100000
/-- A box that a value came in by, and all that was there. -/
def bxW (W : World) (file at_ : Int) (y : UInt8) : World := W.alloc (.cells #[.int .i64 file, .int .i64 at_, .int .u8 (y.toNat : Int)] 55)
theorem bxW_size (W : World) (file at_ : Int) (y : UInt8) : (bxW W file at_ y).heap.size = W.heap.size + 1 := by simp [bxW]
theorem bx_cells {W u : World} {file at_ : Int} {y : UInt8} (h : Below (W.heap.size + 1) (bxW W file at_ y) u) : u.cell? ⟨W.heap.size, 0, none⟩ = some (.int .i64 file) ∧ u.cell? ⟨W.heap.size, 1, none⟩ = some (.int .i64 at_) ∧ u.cell? ⟨W.heap.size, 2, none⟩ = some (.int .u8 (y.toNat : Int)) := by
  have hr : (bxW W file at_ y).heap[W.heap.size]? = some (.cells #[.int .i64 file, .int .i64 at_, .int .u8 (y.toNat : Int)] 55 (0, 0)) := heap_alloc_new W _
  have hu : u.heap[W.heap.size]? = some (.cells #[.int .i64 file, .int .i64 at_, .int .u8 (y.toNat : Int)] 55 (0, 0)) := (h.block _ (by omega)).trans hr
  refine ⟨?_, ?_, ?_⟩
  · rw [cell_of_row u W.heap.size 0 _ _ _ hu]; rfl
  · rw [cell_of_row u W.heap.size 1 _ _ _ hu]; rfl
  · rw [cell_of_row u W.heap.size 2 _ _ _ hu]; rfl
theorem bx_below (W : World) (file at_ : Int) (y : UInt8) : Below W.heap.size W (bxW W file at_ y) := (Below.refl _ _).alloc (Nat.le_refl _) _
theorem bx_vars {W : World} (h : Vars W) (file at_ : Int) (y : UInt8) : Vars (bxW W file at_ y) := h.below (bx_below W file at_ y)
/-- awake, behind the box. -/
theorem bx_awake {W : World} (hV : Vars W) (file at_ : Int) (y : UInt8) : Calls Tryz.prog 7 #[] (W.alloc (.cells #[.int .i64 file, .int .i64 at_, .int .u8 (y.toNat : Int)] 55)) fun e w' => e = .returned (.bool true) ∧ Below (W.heap.size + 1) (bxW W file at_ y) w' := by
  have h := awake_any (bxW W file at_ y) (bx_vars hV file at_ y)
  rw [bxW_size] at h
  exact h
theorem rot_long (W : World) (hV : Vars W) (a : Option Addr) (n c : Nat) (lim file at_ : Int) (y : UInt8) (hn : 12 < n) :
    Calls Tryz.prog 5 #[.slice a n c, .int .i64 lim, .agg #[.int .i64 file, .int .i64 at_, .int .u8 (y.toNat : Int)]] W fun e w' => e = .returned (.bool true) ∧ Below W.heap.size W w' := by
  have k7 := bx_awake hV file at_ y
  have d1 : decide (12 < (n : Int)) = true := by simp; omega
  have bb := bx_below W file at_ y
  go_enter Tryz.func5, Tryz.ntmps5
  go_wp2_with (go_at_call 7; refine k7.mono ?_; rintro e w1 ⟨rfl, b1⟩)
  go_ret
  exact ⟨rfl, bb.trans (b1.mono (by omega))⟩
theorem rot_zero (W : World) (hV : Vars W) (a : Option Addr) (n c : Nat) (lim file at_ : Int) (y : UInt8) (hn : ¬ 12 < n) (hy : y = 0) :
    Calls Tryz.prog 5 #[.slice a n c, .int .i64 lim, .agg #[.int .i64 file, .int .i64 at_, .int .u8 (y.toNat : Int)]] W fun e w' => e = .returned (.bool true) ∧ Below W.heap.size W w' := by
  have k7 := bx_awake hV file at_ y
  have d1 : decide (12 < (n : Int)) = false := by simp; omega
  have bb := bx_below W file at_ y
  have CB := asd (fun (u : World) (h : Below (W.heap.size + 1) (bxW W file at_ y) u) => bx_cells h)
  have hy1 : ((y.toNat : Int) == 0) = true := by rw [beq_iff_eq, hy]; rfl
  have hy2 : (y.toNat == 0) = true := by rw [beq_iff_eq, hy]; rfl
  clear hy
  go_enter Tryz.func5, Tryz.ntmps5
  go_wp2_with (go_at_call 7; refine k7.mono ?_; rintro e w1 ⟨rfl, b1⟩; obtain ⟨c0, c1, c2⟩ := CB.out w1 b1)
  go_ret
  exact ⟨rfl, bb.trans (b1.mono (by omega))⟩
/-- The log at work, and what came in. -/
structure LgS (W : World) (file at_ : Int) (y : UInt8) (B l b : Nat) (m : Int) (d : Dk.Ds) (u : World) : Prop where
  sys : Sys B l b 1 m d u
  bel : Below (W.heap.size + 1) (bxW W file at_ y) u
  le : W.heap.size + 1 ≤ B
theorem LgS.next {W : World} {file at_ : Int} {y : UInt8} {B l b : Nat} {m : Int} {d d' : Dk.Ds} {u u' : World} (h : LgS W file at_ y B l b m d u) (s : Sys B l b 1 m d' u') (st : Dk.Step (d.foot b) (d'.foot b) u u') : LgS W file at_ y B l b m d' u' :=
  ⟨s, h.bel.trans (st.below (fun k hk => by have := (h.sys.rep.lt k hk).1; have := h.le; omega) (by have := h.sys.hs; have := h.le; omega)), h.le⟩
theorem rot_new : (lOpen (Dk.opRoom Dk.emptySt 9000) 1).1.toOption = some [] := by decide +kernel
theorem rot_st : (lOpen (Dk.opRoom Dk.emptySt 9000) 1).2 = Dk.opRoom Dk.emptySt 9000 := by
  have h1 : (nmL 1).size ≠ 0 := by decide +kernel
  have h2 : nums (Dk.opRoom Dk.emptySt 9000).names 1 = [] := by decide +kernel
  unfold lOpen
  rw [if_neg h1, h2]
  rfl
theorem inv_new (n : Int) : Inv (Dk.opRoom Dk.emptySt n) [] := by
  refine ⟨ok_new n, fun t => ⟨fun h => ?_, ?_⟩, fun i h => ?_, fun g h => ?_, rfl⟩
  · cases h
  · rintro ⟨i, h, _⟩
    simp at h
  · simp at h
  · cases h
/-- Behind so many records. -/
structure Rec (k : Nat) (s : Dk.St) (G : List Seg) : Prop where
  inv : Inv s G
  down : s.down = false
  fused : s.fused = false
  room : s.room = 9000
  tot : s.total ≤ 210 * k
  few : G.length ≤ k
theorem Rec.next {k : Nat} {s : Dk.St} {G : List Seg} (h : Rec k s G) (hk : k < 12) {x : ByteArray} (hx : x.size ≤ 200) (m : Int) : (lAppend s 1 m x 0).1 = 0 ∧ ∃ G', Rec (k + 1) (lAppend s 1 m x 0).2 G' := by
  have h1 := h.few
  have h2 := h.tot
  have h3 := h.room
  obtain ⟨G', a1, a2, _, a4, a5, a6, a7, a8⟩ := app_step h.inv h.down h.fused (x := x) (by omega) m 0 (by omega) (by
    have : wi 0 = 0 := by decide
    rw [this]
    omega)
  exact ⟨a1, G', a2, a6, a7, by rw [a5, h3], by rw [a4]; omega, by omega⟩
end Go.Proofs.YtajjcfacbnicnaaGreatDoor

/-
  A byte that is turned: what Open says of it.
-/
namespace Go.Proofs.YtajjcfacbnicnaaGreatDoor
open Go.RowKit
set_option maxRecDepth 100000
theorem xor_ne {x y : UInt8} (h : y ≠ 0) : x ^^^ y ≠ x := fun e => h (by
  have h1 : x ^^^ (x ^^^ y) = x ^^^ x := by rw [e]
  rw [← UInt8.xor_assoc, UInt8.xor_self, UInt8.zero_xor] at h1
  exact h1)
theorem names_rot (s : Dk.St) (file at_ by_ : Int) : (Dk.opRot s file at_ by_).2.names = s.names := by
  unfold Dk.opRot
  split
  · split
    · rename_i f hf
      split
      · show ((s.files.set _ _).map Dk.F.name) = _
        exact Dk.names_set hf rfl
      · rfl
    · rfl
  · rfl
/-- What Open says of a log of which a byte was turned. -/
theorem rot_told {s : Dk.St} {G : List Seg} (h : Inv s G) (hs : ∀ f ∈ s.files, f.sure = f.bytes.length) (hd : s.down = false) {file at_ : Int} {y : UInt8} (hy : y ≠ 0) (hr : (Dk.opRot s file at_ (y.toNat : Int)).1 = true) :
    lOpen (Dk.opFuse (Dk.opRot s file at_ (y.toNat : Int)).2 0) 1 = (.error 4, Dk.opFuse (Dk.opRot s file at_ (y.toNat : Int)).2 0) ∧ Dk.Ok (Dk.opFuse (Dk.opRot s file at_ (y.toNat : Int)).2 0) ∧ (Dk.opFuse (Dk.opRot s file at_ (y.toNat : Int)).2 0).down = false := by
  have okr := h.ok.opRot file at_ (y.toNat : Int)
  have okf : Dk.Ok (Dk.opFuse (Dk.opRot s file at_ (y.toNat : Int)).2 0) := okr.opFuse (by decide)
  have hn0 := names_rot s file at_ (y.toNat : Int)
  have hdr : (Dk.opRot s file at_ (y.toNat : Int)).2.down = false := by
    unfold Dk.opRot
    split
    · split
      · split <;> exact hd
      · exact hd
    · exact hd
  have hff : (Dk.opFuse (Dk.opRot s file at_ (y.toNat : Int)).2 0).files = (Dk.opRot s file at_ (y.toNat : Int)).2.files := by
    unfold Dk.opFuse
    split <;> rfl
  have hfn : (Dk.opFuse (Dk.opRot s file at_ (y.toNat : Int)).2 0).names = s.names := by
    unfold Dk.St.names
    rw [hff]
    exact hn0
  have hfd : (Dk.opFuse (Dk.opRot s file at_ (y.toNat : Int)).2 0).down = false := by
    unfold Dk.opFuse
    rw [hdr, if_neg (by decide)]
  refine ⟨?_, okf, hfd⟩
  -- the file
  have key : ∃ f, s.files[file.toNat]? = some f ∧ 0 ≤ at_ ∧ at_ < f.sure ∧ (Dk.opRot s file at_ (y.toNat : Int)).2.files = s.files.set file.toNat ⟨f.name, f.bytes.set at_.toNat (f.bytes[at_.toNat]! ^^^ y), f.sure⟩ := by
    have e1 : UInt8.ofNat (((y.toNat : Int) % 256).toNat) = y := by
      have := y.toNat_lt
      rw [show (((y.toNat : Int) % 256).toNat) = y.toNat by omega]
      exact UInt8.ofNat_toNat
    unfold Dk.opRot at hr ⊢
    split at hr
    · rename_i h0
      rw [if_pos h0]
      split at hr
      · rename_i f hf
        split at hr
        · rename_i h1
          refine ⟨f, hf, h0.2, h1, ?_⟩
          simp only [if_pos h1, e1]
        · cases hr
      · cases hr
    · cases hr
  obtain ⟨f, hf, ha0, ha, hfs⟩ := key
  obtain ⟨hlt, hget⟩ := List.getElem?_eq_some_iff.1 hf
  have hfm : f ∈ s.files := by rw [← hget]; exact List.getElem_mem hlt
  obtain ⟨i, hi, hin⟩ := (h.names f.name).1 (mem_names hfm)
  obtain ⟨f2, k1, k2, k3, _⟩ := h.file i hi
  have e2 : f = f2 := file_uniq h.ok.rising.nodup hfm k1 (by rw [hin, k2])
  subst e2
  have hsz := hs f hfm
  have hal : at_.toNat < f.bytes.length := by omega
  have hb : (Fm.Fr.mks G[i])[at_.toNat]? ≠ some (f.bytes[at_.toNat]! ^^^ y) := by
    rw [← k3, List.getElem!_eq_getElem?_getD, List.getElem?_eq_getElem hal]
    intro e
    injection e with e
    exact xor_ne hy e.symm
  have h4 := rot_seg (l := G[i]) (h.short _ (List.getElem_mem hi)) (a := at_.toNat) (by rw [← k3]; exact hal) hb
  rw [← k3] at h4
  refine open_rot okf (fun t => by rw [hfn]; exact h.names t) h.few h.short hi (fun j hj hne => ?_) ⟨⟨f.name, f.bytes.set at_.toNat (f.bytes[at_.toNat]! ^^^ y), f.sure⟩, ?_, hin, rfl⟩ h4
  · obtain ⟨f', c1, c2, c3, _⟩ := h.file j hj
    refine ⟨f', ?_, c2, c3⟩
    rw [hff, hfs]
    obtain ⟨t, ht, rfl⟩ := List.getElem_of_mem c1
    have hti : file.toNat ≠ t := fun e => by
      subst e
      rw [hget] at c2
      have := nmL_inj (hin.symm.trans c2) (by omega) (by have := h.few; omega)
      omega
    exact List.mem_iff_getElem.2 ⟨t, by simpa using ht, by simp [hti]⟩
  · rw [hff, hfs]
    exact List.mem_iff_getElem.2 ⟨file.toNat, by simpa using hlt, by simp⟩
/-- Where no byte is turned. -/
theorem rot_not {s : Dk.St} {file at_ by_ : Int} (hr : (Dk.opRot s file at_ by_).1 = false) : (Dk.opRot s file at_ by_).2 = s ∧ (file < 0 ∨ at_ < 0 ∨ (s.files.length : Int) ≤ file ∨ ∃ f, s.files[file.toNat]? = some f ∧ 0 ≤ file ∧ (f.sure : Int) ≤ at_) := by
  unfold Dk.opRot at hr ⊢
  split
  · rename_i h0
    rw [if_pos h0] at hr
    split
    · rename_i f hf
      rw [hf] at hr
      dsimp only at hr
      split
      · rename_i h1
        rw [if_pos h1] at hr
        cases hr
      · rename_i h1
        exact ⟨rfl, .inr (.inr (.inr ⟨f, hf, h0.1, by omega⟩))⟩
    · rename_i hf
      refine ⟨rfl, .inr (.inr (.inl ?_))⟩
      have := List.getElem?_eq_none_iff.1 hf
      omega
  · rename_i h0
    refine ⟨rfl, ?_⟩
    by_cases h1 : 0 ≤ file
    · exact .inr (.inl (by omega))
    · exact .inl (by omega)
end Go.Proofs.YtajjcfacbnicnaaGreatDoor
