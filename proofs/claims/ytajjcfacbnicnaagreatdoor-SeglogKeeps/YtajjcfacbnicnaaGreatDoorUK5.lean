/-
  The segments, and which records are sure.
-/
import Derived.Test.YtajjcfacbnicnaaGreatDoorU36
import Derived.Test.YtajjcfacbnicnaaGreatDoorU35
import Derived.Test.YtajjcfacbnicnaaGreatDoorU39
import Derived.WalkKit
import Derived.WalkSpells
import Derived.WalkLawsBesides
import Derived.Deep.LoopGhost
import Derived.Laws.Externs
import Derived.Below
import Derived.BigQuiet
import Derived.Deep.RegionWith
import Derived.OwnWalk
import Derived.Maps.AppendAt
import Derived.WalkSmall
namespace Go.Proofs.YtajjcfacbnicnaaGreatDoor
open Go.RowKit
set_option maxRecDepth 100000
/-- The segments, and that so many records are sure. -/
structure Kp (s : Dk.St) (G : List Seg) (k : Nat) : Prop where
  inv : Inv s G
  nil : G = [] → k = 0
  sure : ∀ D g, G = D ++ [g] → ∃ j, j ≤ g.length ∧ k ≤ D.flatten.length + j ∧ ∀ f ∈ s.files, f.name = nmL ((D.length : Int) + 1) → Fm.Fr.en g j ≤ f.sure
theorem Kp.le {s : Dk.St} {G : List Seg} {k : Nat} (h : Kp s G k) : k ≤ G.flatten.length := by
  rcases List.eq_nil_or_concat G with rfl | ⟨D, g, rfl⟩
  · rw [h.nil rfl]
    exact Nat.zero_le _
  · rw [List.concat_eq_append] at h ⊢
    obtain ⟨j, h1, h2, _⟩ := h.sure D g rfl
    simp
    simp at h2
    omega
theorem Inv.same {s s' : Dk.St} {G : List Seg} (h : Inv s G) (ok : Dk.Ok s') (e : s'.files = s.files) : Inv s' G := by
  refine ⟨ok, fun t => ?_, fun i hi => ?_, h.short, by rw [e]; exact h.cnt⟩
  · rw [show s'.names = s.names by unfold Dk.St.names; rw [e]]
    exact h.names t
  · rw [e]
    exact h.file i hi
theorem Kp.same {s s' : Dk.St} {G : List Seg} {k : Nat} (h : Kp s G k) (ok : Dk.Ok s') (e : s'.files = s.files) : Kp s' G k :=
  ⟨h.inv.same ok e, h.nil, fun D g hg => by rw [e]; exact h.sure D g hg⟩
/-- An append takes nothing from what is sure. -/
theorem app_sure {s : Dk.St} (ok : Dk.Ok s) {n x : ByteArray} (hp : s.power = true) (hm : Dk.mayBe n = true) (hf : s.full n x = false) (hx : x.size ≠ 0) {f f' : Dk.F} (hf' : f' ∈ (Dk.opAppend s n x).2.files) (hfm : f ∈ s.files) (e : f.name = f'.name) : f.sure ≤ f'.sure := by
  obtain ⟨_, a2, a3, _⟩ := app_files ok hp hm hf hx
  have ok' := ok.opAppend n x
  by_cases hn : f.name = n
  · have := file_uniq ok'.rising.nodup hf' (a3 f hfm hn) (by rw [← e, hn])
    rw [this]
    exact Nat.le_refl _
  · have := file_uniq ok'.rising.nodup hf' (a2 f hfm hn) e.symm
    rw [this]
    exact Nat.le_refl _
theorem snoc_inj {α : Type} {D D' : List α} {g g' : α} (h : D ++ [g] = D' ++ [g']) : D = D' ∧ g = g' := by
  have := List.append_inj' h rfl
  exact ⟨this.1, by simpa using this.2⟩
theorem en_more (g : Seg) (x : List UInt8) {j : Nat} (h : j ≤ g.length) : Fm.Fr.en (g ++ [x]) j = Fm.Fr.en g j := by
  unfold Fm.Fr.en
  rw [List.take_append_of_le_length h]
theorem Kp.new {s : Dk.St} {G : List Seg} {k : Nat} (h : Kp s G k) (hp : s.power = true) (hs : ∀ f ∈ s.files, f.sure = f.bytes.length) {x : ByteArray} (hx : x.size ≤ 2000) (hG : G.length ≤ 15) (hr : s.total + (x.size + 10) ≤ s.room) :
    (Dk.opAppend s (nmL ((G.length : Int) + 1)) (fr x)).1 = 0 ∧ Kp (Dk.opAppend s (nmL ((G.length : Int) + 1)) (fr x)).2 (G ++ [[x.data.toList]]) k := by
  obtain ⟨b1, b2, _⟩ := h.inv.new hp hs hx hG hr
  refine ⟨b1, b2, fun e => by simp at e, fun D g e => ?_⟩
  obtain ⟨rfl, rfl⟩ := snoc_inj e
  exact ⟨0, Nat.zero_le _, h.le, fun f _ _ => by rw [Fm.Fr.en_zero]; exact Nat.zero_le _⟩
theorem Kp.more {s : Dk.St} {D : List Seg} {g : Seg} {k : Nat} (h : Kp s (D ++ [g]) k) (hp : s.power = true) {x : ByteArray} (hx : x.size ≤ 2000) (hr : s.total + (x.size + 10) ≤ s.room) :
    (Dk.opAppend s (nmL ((D.length : Int) + 1)) (fr x)).1 = 0 ∧ Kp (Dk.opAppend s (nmL ((D.length : Int) + 1)) (fr x)).2 (D ++ [g ++ [x.data.toList]]) k := by
  obtain ⟨b1, b2, _⟩ := h.inv.more hp hx hr
  have hz := fr_size hx
  have hfew := h.inv.few
  have hlen : (D ++ [g]).length = D.length + 1 := by simp
  have hD : D.length < (D ++ [g]).length := by omega
  obtain ⟨f, h2, h3, _, _⟩ := h.inv.file D.length hD
  have hin : nmL ((D.length : Int) + 1) ∈ s.names := by rw [← h3]; exact mem_names h2
  have hfull : s.full (nmL ((D.length : Int) + 1)) (fr x) = false := by
    unfold Dk.St.full
    rw [hz, Dk.has_iff.2 hin]
    simp
    omega
  refine ⟨b1, b2, fun e => by simp at e, fun D' g' e => ?_⟩
  obtain ⟨rfl, rfl⟩ := snoc_inj e
  obtain ⟨j, k1, k2, k3⟩ := h.sure D g rfl
  refine ⟨j, by simp; omega, k2, fun f' hf' hn' => ?_⟩
  rw [en_more g _ k1]
  exact Nat.le_trans (k3 f h2 h3) (app_sure h.inv.ok hp (nmL_may (by omega) (by omega)) hfull (by omega) hf' h2 (by rw [h3, hn']))
theorem Kp.all {s : Dk.St} {G : List Seg} (h : Inv s G) (hs : ∀ f ∈ s.files, f.sure = f.bytes.length) : Kp s G G.flatten.length := by
  refine ⟨h, fun e => by rw [e]; rfl, fun D g e => ?_⟩
  subst e
  refine ⟨g.length, Nat.le_refl _, by simp, fun f hf hn => ?_⟩
  obtain ⟨f', k2, k3, k4, _⟩ := h.file D.length (by simp)
  rw [List.getElem_append_right (Nat.le_refl _)] at k4
  simp only [Nat.sub_self, List.getElem_cons_zero] at k4
  have e := file_uniq h.ok.rising.nodup hf k2 (by rw [hn, k3])
  rw [hs f hf, e, k4, Fm.Fr.en_all]
  exact Nat.le_refl _
theorem app_off {s : Dk.St} (h : s.power = false) (n x : ByteArray) : Dk.opAppend s n x = (12, s.spent) := by
  unfold Dk.opAppend
  rw [h]
  rfl
theorem syn_off {s : Dk.St} (h : s.power = false) (n : ByteArray) : Dk.opSync s n = (12, s.spent) := by
  unfold Dk.opSync
  rw [h]
  rfl
theorem ref_free {s : Dk.St} {to w : Int} (h : lRefused s to w = 0) (hw : 0 < w) : (s.total : Int) + w ≤ s.room ∧ (th s to = false → s.files.length ≤ 13) ∧ 1 ≤ to ∧ to ≤ 99999 := by
  unfold lRefused at h
  split at h
  · cases h
  · rename_i h1
    split at h
    · cases h
    · rename_i h2
      split at h
      · cases h
      · rename_i h3
        have h4 : 1 ≤ to ∧ to ≤ 99999 := Classical.byContradiction fun hh => h1 (nmL_empty.2 hh)
        unfold Dk.St.free at h3
        refine ⟨by omega, fun ht => ?_, h4⟩
        exact Nat.le_of_not_lt fun hlt => h2 ⟨ht, by omega⟩
/-- Append, whatever the disk says. -/
theorem app_keep {s : Dk.St} {G : List Seg} {k : Nat} (h : Kp s G k) (m : Int) (x : ByteArray) (rest : Int) :
    ((lAppend s 1 m x rest).1 = 0 → ∃ G', Kp (lAppend s 1 m x rest).2 G' k ∧ G'.flatten = G.flatten ++ [x.data.toList]) ∧ ((lAppend s 1 m x rest).1 ≠ 0 → Kp (lAppend s 1 m x rest).2 G k) := by
  have hwi : 0 ≤ wi rest := by unfold wi; omega
  by_cases hx2 : 2000 < x.size
  · rw [lapp_long hx2]
    exact ⟨fun e => (by cases e), fun _ => h⟩
  have hx : x.size ≤ 2000 := by omega
  have hz := fr_size hx
  have hl := h.inv.last
  by_cases hr : lRefused s (lPlace s m (lLast s 1) (fr x).size) ((fr x).size + wi rest) = 0
  case neg =>
    rw [lapp_refused hx2 hr]
    exact ⟨fun e => absurd e hr, fun _ => h⟩
  obtain ⟨r1, r2, r3, r4⟩ := ref_free hr (by rw [hz]; push_cast; omega)
  rw [hz] at r1
  have hroom : s.total + (x.size + 10) ≤ s.room := by push_cast at r1; omega
  rcases List.eq_nil_or_concat G with rfl | ⟨D, g, rfl⟩
  · have hl1 : lLast s 1 = 1 := by rw [hl]; rfl
    have htx := (h.inv.txno (n := 1) (by omega) (by omega) (by simp)).1
    have hpl : lPlace s m (lLast s 1) (fr x).size = lLast s 1 := by
      unfold lPlace
      rw [hl1, htx, if_neg (fun hh => by have : (⟨#[]⟩ : ByteArray).size = 0 := rfl; omega)]
    rw [lapp_same hx2 hr hpl, hl1]
    cases hp : s.power with
    | false =>
      rw [app_off hp]
      exact ⟨fun e => (by cases e), fun _ => h.same h.inv.ok.spent rfl⟩
    | true =>
      obtain ⟨b1, b2⟩ := h.new hp (fun f hf => by
        have := h.inv.cnt
        have : s.files = [] := List.eq_nil_of_length_eq_zero this
        rw [this] at hf
        cases hf) hx (by simp) hroom
      exact ⟨fun _ => ⟨_, b2, by simp⟩, fun e => absurd b1 e⟩
  · have hlen : (D ++ [g]).length = D.length + 1 := by simp
    rw [List.concat_eq_append] at h hl ⊢
    have hl1 : lLast s 1 = (D.length : Int) + 1 := by rw [hl, hlen]; omega
    by_cases hpl : lPlace s m (lLast s 1) (fr x).size = lLast s 1
    · rw [lapp_same hx2 hr hpl, hl1]
      cases hp : s.power with
      | false =>
        rw [app_off hp]
        exact ⟨fun e => (by cases e), fun _ => h.same h.inv.ok.spent rfl⟩
      | true =>
        obtain ⟨b1, b2⟩ := h.more hp hx hroom
        exact ⟨fun _ => ⟨_, b2, by simp⟩, fun e => absurd b1 e⟩
    · have hpl2 : lPlace s m (lLast s 1) (fr x).size = (D.length : Int) + 2 := by
        unfold lPlace at hpl ⊢
        split
        · rw [hl1]; omega
        · rename_i hh
          rw [if_neg hh] at hpl
          exact absurd rfl hpl
      have hno : th s ((D.length : Int) + 2) = false := (h.inv.txno (by omega) (by rw [← hpl2]; exact r4) (by rw [hlen]; push_cast; omega)).2
      rw [hpl2] at r2
      have hfl := r2 hno
      have hcnt := h.inv.cnt
      cases hp : s.power with
      | false =>
        have e0 := syn_off hp (nmL (lLast s 1))
        rw [lapp_unsure hx2 hr hpl (by rw [e0]; show (12 : Int) ≠ 0; decide), e0]
        exact ⟨fun e => (by cases e), fun _ => h.same h.inv.ok.spent rfl⟩
      | true =>
        obtain ⟨c1, c2, c3, c4, c5, c6, c7⟩ := h.inv.sync hp
        rw [lapp_next hx2 hr hpl (by rw [hl1]; exact c1), hpl2, hl1]
        have K1 : Kp (Dk.opSync s (nmL ((D.length : Int) + 1))).2 (D ++ [g]) k := by
          refine ⟨c2, fun e => by simp at e, fun D' g' e => ?_⟩
          obtain ⟨rfl, rfl⟩ := snoc_inj e
          obtain ⟨j, k1, k2, _⟩ := (Kp.all c2 c3).sure D g rfl
          exact ⟨j, k1, by have := h.le; omega, by assumption⟩
        have e2 : (D.length : Int) + 2 = ((D ++ [g]).length : Int) + 1 := by rw [hlen]; push_cast; omega
        rw [e2]
        cases hp2 : (Dk.opSync s (nmL ((D.length : Int) + 1))).2.power with
        | false =>
          rw [app_off hp2]
          exact ⟨fun e => (by cases e), fun _ => K1.same c2.ok.spent rfl⟩
        | true =>
          obtain ⟨b1, b2⟩ := K1.new hp2 c3 hx (by omega) (by rw [c4, c5]; exact hroom)
          exact ⟨fun _ => ⟨_, b2, by simp⟩, fun e => absurd b1 e⟩
/-- Sync, whatever the disk says. -/
theorem syn_keep {s : Dk.St} {G : List Seg} {k : Nat} (h : Kp s G k) : ((lSync s 1).1 = 0 → Kp (lSync s 1).2 G G.flatten.length) ∧ ((lSync s 1).1 ≠ 0 → Kp (lSync s 1).2 G k) := by
  have hl := h.inv.last
  unfold lSync
  rcases List.eq_nil_or_concat G with rfl | ⟨D, g, rfl⟩
  · have hl1 : lLast s 1 = 1 := by rw [hl]; rfl
    have htx := (h.inv.txno (n := 1) (by omega) (by omega) (by simp)).2
    rw [hl1, htx]
    simp only [Bool.false_eq_true, if_false]
    refine ⟨fun _ => ?_, fun e => absurd rfl e⟩
    have := h.nil rfl
    subst this
    exact h
  · have hlen : (D ++ [g]).length = D.length + 1 := by simp
    rw [List.concat_eq_append] at h hl ⊢
    have hl1 : lLast s 1 = (D.length : Int) + 1 := by rw [hl, hlen]; omega
    have htx := (h.inv.tx (i := D.length) (by omega)).2
    rw [hl1, htx]
    simp only [if_true]
    cases hp : s.power with
    | false =>
      rw [syn_off hp]
      exact ⟨fun e => (by cases e), fun _ => h.same h.inv.ok.spent rfl⟩
    | true =>
      obtain ⟨c1, c2, c3, _⟩ := h.inv.sync hp
      exact ⟨fun _ => Kp.all c2 c3, fun e => absurd c1 e⟩
end Go.Proofs.YtajjcfacbnicnaaGreatDoor
