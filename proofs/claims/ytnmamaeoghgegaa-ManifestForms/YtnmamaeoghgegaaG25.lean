/-
  Ytnmamaeoghgegaa: the texts S7, S8, S9, S10, S11, S12, one behind the other.
-/
import Derived.Test.YtnmamaeoghgegaaG23
import Derived.Test.YtnmamaeoghgegaaG24
import Derived.WalkKit
import Derived.WalkSpells
import Derived.WalkLawsBesides
import Derived.Deep.LoopGhost
import Derived.Laws.Externs
import Derived.Below
import Derived.BigQuiet
import Derived.Deep.RegionWith
import Derived.OwnWalk
import Derived.Maps.AppendAt
import Derived.WalkSmall
import Derived.Deep.RegionHeld3
/-
  Files by their names, behind each operation.
-/
namespace Go.Proofs.Ytnmamaeoghgegaa
open Go.RowKit
set_option maxRecDepth 100000
theorem names_settle (s : Dk.St) (i k : Nat) : (s.settle i k).names = s.names := by
  unfold Dk.St.settle
  split
  · rename_i f hf
    show ((s.files.set i _).map Dk.F.name) = _
    rw [Dk.names_set (g := ⟨f.name, f.bytes.take k, k⟩) hf rfl]
    rfl
  · rfl
theorem names_sync (s : Dk.St) (n : ByteArray) : (Dk.opSync s n).2.names = s.names := by
  unfold Dk.opSync
  split
  · split
    · exact names_settle _ _ _
    · rfl
  · rfl
theorem names_more (s : Dk.St) (i : Nat) (n x : ByteArray) : (s.more i n x).names = s.names := by
  unfold Dk.St.more
  split
  · rename_i f hf
    show ((s.files.set i _).map Dk.F.name) = _
    rw [Dk.names_set (g := ⟨f.name, f.bytes ++ x.data.toList, f.sure⟩) hf rfl]
    rfl
  · rfl
theorem names_make (s : Dk.St) (n : ByteArray) : (s.make n).names = if Dk.has s.names n then s.names else s.names.take (Dk.place s.names n) ++ n :: s.names.drop (Dk.place s.names n) := by
  unfold Dk.St.make
  split
  · rfl
  · exact Dk.names_mid _ _ _
theorem mem_make {s : Dk.St} {n x : ByteArray} (h : x ∈ (s.make n).names) : x ∈ s.names ∨ x = n := by
  rw [names_make] at h
  split at h
  · exact .inl h
  · rcases List.mem_append.1 h with h | h
    · exact .inl (List.mem_of_mem_take h)
    · rcases List.mem_cons.1 h with h | h
      · exact .inr h
      · exact .inl (List.mem_of_mem_drop h)
theorem file_uniq : ∀ {l : List Dk.F}, (l.map Dk.F.name).Nodup → ∀ {f g : Dk.F}, f ∈ l → g ∈ l → f.name = g.name → f = g
  | [], _, _, _, h, _, _ => by cases h
  | a :: r, hn, f, g, hf, hg, e => by
    have h1 := List.nodup_cons.1 hn
    rcases List.mem_cons.1 hf with e1 | hf2
    · rcases List.mem_cons.1 hg with e2 | hg2
      · rw [e1, e2]
      · exact absurd (List.mem_map.2 ⟨g, hg2, by rw [← e, e1]⟩) h1.1
    · rcases List.mem_cons.1 hg with e2 | hg2
      · exact absurd (List.mem_map.2 ⟨f, hf2, by rw [e, e2]⟩) h1.1
      · exact file_uniq h1.2 hf2 hg2 e
theorem make_rest (s : Dk.St) (n : ByteArray) : (s.make n).room = s.room ∧ (s.make n).down = s.down ∧ (s.make n).fused = s.fused ∧ (s.make n).fuse = s.fuse ∧ (s.make n).pieces = s.pieces := by
  unfold Dk.St.make
  split <;> exact ⟨rfl, rfl, rfl, rfl, rfl⟩
theorem total_set {l : List Dk.F} {i : Nat} {f g : Dk.F} (h : l[i]? = some f) : Dk.totalF (l.set i g) + f.bytes.length = Dk.totalF l + g.bytes.length := by
  obtain ⟨hi, e⟩ := List.getElem?_eq_some_iff.1 h
  have e1 : l = l.take i ++ f :: l.drop (i + 1) := by
    rw [← e, List.getElem_cons_drop, List.take_append_drop]
  have e2 : l.set i g = l.take i ++ g :: l.drop (i + 1) := by rw [List.set_eq_take_append_cons_drop, if_pos hi]
  rw [e2, Dk.totalF_mid]
  conv => rhs; rw [e1]
  rw [Dk.totalF_mid]
  omega
theorem mem_names {s : Dk.St} {f : Dk.F} (h : f ∈ s.files) : f.name ∈ s.names := List.mem_map.2 ⟨f, h, rfl⟩
/-- The file of a name, where it stands. -/
theorem file_at {s : Dk.St} (ok : Dk.Ok s) {f : Dk.F} (h : f ∈ s.files) : Dk.has s.names f.name = true ∧ s.files[Dk.place s.names f.name]? = some f := by
  have hh := Dk.has_iff.2 (mem_names h)
  obtain ⟨g, h1, h2, h3⟩ := Dk.has_get ok.rising hh
  rw [file_uniq ok.rising.nodup h h3 h2.symm]
  rw [h2] at *
  exact ⟨hh, h1⟩
/-- What Append leaves of the files. -/
theorem app_files {s : Dk.St} (ok : Dk.Ok s) {n x : ByteArray} (hp : s.power = true) (hm : Dk.mayBe n = true) (hf : s.full n x = false) (hx : x.size ≠ 0) :
    (Dk.opAppend s n x).1 = 0 ∧ (∀ f ∈ s.files, f.name ≠ n → f ∈ (Dk.opAppend s n x).2.files) ∧
    (∀ f ∈ s.files, f.name = n → (⟨n, f.bytes ++ x.data.toList, f.sure⟩ : Dk.F) ∈ (Dk.opAppend s n x).2.files) ∧
    (n ∉ s.names → (⟨n, x.data.toList, 0⟩ : Dk.F) ∈ (Dk.opAppend s n x).2.files) ∧
    (∀ t, t ∈ (Dk.opAppend s n x).2.names ↔ t ∈ s.names ∨ t = n) ∧ (Dk.opAppend s n x).2.total = s.total + x.size ∧
    (Dk.opAppend s n x).2.files.length = s.files.length + (if Dk.has s.names n then 0 else 1) ∧ (Dk.opAppend s n x).2.room = s.room ∧ (Dk.opAppend s n x).2.down = false ∧ (Dk.opAppend s n x).2.fused = s.fused := by
  have hxl : x.data.toList.length = x.size := rfl
  have hnd : s.down = false := by
    unfold Dk.St.power at hp
    simp at hp
    exact hp.1
  have hfew : Dk.has s.names n = false → s.files.length < 16 := fun hh => by
    unfold Dk.St.full at hf
    rw [hh] at hf
    simp at hf
    have := ok.few
    omega
  have he : Dk.opAppend s n x = (0, (s.spent.make n).more (Dk.place s.names n) n x) := by
    unfold Dk.opAppend
    rw [if_pos hp, if_pos hm, if_neg (by rw [hf]; decide), if_neg hx]
  rw [he]
  dsimp only
  obtain ⟨okm, htot, f0, hf0, hf0n⟩ := ok.spent.make n hfew
  rw [show s.spent.names = s.names from rfl] at hf0
  have hmore : ((s.spent.make n).more (Dk.place s.names n) n x) = { (s.spent.make n) with files := (s.spent.make n).files.set (Dk.place s.names n) ⟨f0.name, f0.bytes ++ x.data.toList, f0.sure⟩, pieces := (s.spent.make n).pieces ++ [⟨n, x.size⟩] } := by
    unfold Dk.St.more
    rw [hf0]
  have hi : Dk.place s.names n < (s.spent.make n).files.length := (List.getElem?_eq_some_iff.1 hf0).1
  have hget : (s.spent.make n).files[Dk.place s.names n] = f0 := (List.getElem?_eq_some_iff.1 hf0).2
  have hmk : ∀ f ∈ s.files, f ∈ (s.spent.make n).files := fun f hfm => by
    unfold Dk.St.make
    split
    · exact hfm
    · show f ∈ s.files.take _ ++ _ :: s.files.drop _
      have : f ∈ s.files.take (Dk.place s.names n) ++ s.files.drop (Dk.place s.names n) := by rw [List.take_append_drop]; exact hfm
      rcases List.mem_append.1 this with h | h
      · exact List.mem_append_left _ h
      · exact List.mem_append_right _ (List.mem_cons_of_mem _ h)
  have hin : (⟨f0.name, f0.bytes ++ x.data.toList, f0.sure⟩ : Dk.F) ∈ (s.spent.make n).files.set (Dk.place s.names n) ⟨f0.name, f0.bytes ++ x.data.toList, f0.sure⟩ := List.mem_iff_getElem.2 ⟨Dk.place s.names n, by simpa using hi, by simp⟩
  have hnames : ((s.spent.make n).more (Dk.place s.names n) n x).names = (s.spent.make n).names := names_more _ _ _ _
  refine ⟨rfl, fun f hfm hne => ?_, fun f hfm hn => ?_, fun hn => ?_, fun t => ?_, ?_, ?_, ?_, ?_, ?_⟩
  · rw [hmore]
    obtain ⟨j, hj, rfl⟩ := List.getElem_of_mem (hmk f hfm)
    have hji : Dk.place s.names n ≠ j := fun e => by
      subst e
      rw [hget] at hne
      exact hne hf0n
    exact List.mem_iff_getElem.2 ⟨j, by simpa using hj, by simp [hji]⟩
  · rw [hmore]
    have e : f0 = f := file_uniq okm.rising.nodup (by rw [← hget]; exact List.getElem_mem hi) (hmk f hfm) (by rw [hf0n, hn])
    subst e
    have h9 : (⟨n, f0.bytes ++ x.data.toList, f0.sure⟩ : Dk.F) = ⟨f0.name, f0.bytes ++ x.data.toList, f0.sure⟩ := by rw [hf0n]
    rw [h9]
    exact hin
  · rw [hmore]
    have e : f0 = ⟨n, [], 0⟩ := by
      refine file_uniq okm.rising.nodup (by rw [← hget]; exact List.getElem_mem hi) ?_ hf0n
      unfold Dk.St.make
      rw [if_neg (show ¬ Dk.has s.spent.names n = true by rw [show Dk.has s.spent.names n = false from Dk.has_not.2 hn]; decide)]
      exact List.mem_append_right _ List.mem_cons_self
    have h9 : (⟨n, x.data.toList, 0⟩ : Dk.F) = ⟨f0.name, f0.bytes ++ x.data.toList, f0.sure⟩ := by rw [e]; rfl
    rw [h9]
    exact hin
  · show t ∈ ((s.spent.make n).more (Dk.place s.names n) n x).names ↔ _
    rw [hnames]
    constructor
    · intro h
      exact mem_make (s := s.spent) h
    · rintro (h | rfl)
      · obtain ⟨f, h1, rfl⟩ := List.mem_map.1 h
        exact List.mem_map.2 ⟨f, hmk f h1, rfl⟩
      · exact List.mem_map.2 ⟨f0, by rw [← hget]; exact List.getElem_mem hi, hf0n⟩
  · rw [hmore]
    have h1 := total_set (g := ⟨f0.name, f0.bytes ++ x.data.toList, f0.sure⟩) hf0
    have h2 : Dk.totalF (s.spent.make n).files = s.total := htot
    show Dk.totalF ((s.spent.make n).files.set (Dk.place s.names n) ⟨f0.name, f0.bytes ++ x.data.toList, f0.sure⟩) = s.total + x.size
    rw [List.length_append, hxl] at h1
    omega
  · rw [hmore]
    show ((s.spent.make n).files.set _ _).length = _
    rw [List.length_set]
    unfold Dk.St.make
    cases h : Dk.has s.names n with
    | true =>
      rw [if_pos (show Dk.has s.spent.names n = true from h)]
      rfl
    | false =>
      rw [if_neg (show ¬ Dk.has s.spent.names n = true by rw [show Dk.has s.spent.names n = false from h]; decide)]
      show (s.files.take (Dk.place s.names n) ++ (⟨n, [], 0⟩ : Dk.F) :: s.files.drop (Dk.place s.names n)).length = s.files.length + 1
      rw [List.length_append, List.length_cons, List.length_take, List.length_drop]
      have : Dk.place s.names n ≤ s.files.length := by
        have := Dk.place_le s.names n
        have e : s.names.length = s.files.length := by simp [Dk.St.names]
        omega
      omega
  · rw [hmore]
    exact (make_rest s.spent n).1
  · rw [hmore]
    refine (make_rest s.spent n).2.1.trans ?_
    show (!s.power) = false
    rw [hp]
    rfl
  · rw [hmore]
    exact (make_rest s.spent n).2.2.1
/-- What Sync leaves of the files. -/
theorem syn_files {s : Dk.St} (ok : Dk.Ok s) {n : ByteArray} (hp : s.power = true) {f : Dk.F} (hf : f ∈ s.files) (hn : f.name = n) :
    (Dk.opSync s n).1 = 0 ∧ (∀ g ∈ s.files, g.name ≠ n → g ∈ (Dk.opSync s n).2.files) ∧ (⟨n, f.bytes, f.bytes.length⟩ : Dk.F) ∈ (Dk.opSync s n).2.files ∧ (Dk.opSync s n).2.total = s.total ∧ (Dk.opSync s n).2.files.length = s.files.length ∧
    (Dk.opSync s n).2.room = s.room ∧ (Dk.opSync s n).2.down = false ∧ (Dk.opSync s n).2.fused = s.fused := by
  obtain ⟨hh, hp0⟩ := file_at ok hf
  rw [hn] at hh hp0
  have hlen : s.len n = f.bytes.length := Dk.settle_len n hp0
  have he : Dk.opSync s n = (0, { s.spent with files := s.files.set (Dk.place s.names n) ⟨f.name, f.bytes, f.bytes.length⟩, pieces := Dk.keepOf f.name s.pieces }) := by
    unfold Dk.opSync
    rw [if_pos hp, if_pos hh, hlen]
    unfold Dk.St.settle
    rw [show s.spent.files = s.files from rfl, hp0]
    simp only [List.take_length]
    rfl
  rw [he]
  dsimp only
  obtain ⟨hi, hget⟩ := List.getElem?_eq_some_iff.1 hp0
  refine ⟨rfl, fun g hg hne => ?_, ?_, ?_, ?_, rfl, ?_, rfl⟩
  · obtain ⟨j, hj, rfl⟩ := List.getElem_of_mem hg
    have hji : Dk.place s.names n ≠ j := fun e => by
      subst e
      rw [hget] at hne
      exact hne hn
    exact List.mem_iff_getElem.2 ⟨j, by simpa using hj, by simp [hji]⟩
  · have h9 : (⟨n, f.bytes, f.bytes.length⟩ : Dk.F) = ⟨f.name, f.bytes, f.bytes.length⟩ := by rw [hn]
    rw [h9]
    exact List.mem_iff_getElem.2 ⟨Dk.place s.names n, by simpa using hi, by simp⟩
  · have h1 := total_set (g := ⟨f.name, f.bytes, f.bytes.length⟩) hp0
    show Dk.totalF (s.files.set (Dk.place s.names n) ⟨f.name, f.bytes, f.bytes.length⟩) = Dk.totalF s.files
    dsimp only at h1
    omega
  · show (s.files.set _ _).length = _
    rw [List.length_set]
  · show (!s.power) = false
    rw [hp]
    rfl
theorem app_names (s : Dk.St) (n x : ByteArray) : ((Dk.opAppend s n x).1 = 0 ∧ ∀ t, t ∈ (Dk.opAppend s n x).2.names ↔ t ∈ s.names ∨ t = n) ∨ ((Dk.opAppend s n x).1 ≠ 0 ∧ (Dk.opAppend s n x).2.names = s.names) := by
  have hmk : ∀ t, t ∈ (s.spent.make n).names ↔ t ∈ s.names ∨ t = n := fun t => by
    rw [names_make]
    split
    · rename_i h
      have h' := Dk.has_iff.1 h
      constructor
      · exact .inl
      · rintro (h1 | rfl)
        · exact h1
        · exact h'
    · rw [show s.spent.names = s.names from rfl]
      conv => rhs; rw [← List.take_append_drop (Dk.place s.names n) s.names]
      rw [List.mem_append, List.mem_append, List.mem_cons]
      constructor
      · rintro (h | h | h)
        · exact .inl (.inl h)
        · exact .inr h
        · exact .inl (.inr h)
      · rintro ((h | h) | h)
        · exact .inl h
        · exact .inr (.inr h)
        · exact .inr (.inl h)
  unfold Dk.opAppend
  split
  · split
    · split
      · exact .inr ⟨by show (2 : Int) ≠ 0; decide, rfl⟩
      · split
        · exact .inl ⟨rfl, hmk⟩
        · refine .inl ⟨rfl, fun t => ?_⟩
          show t ∈ ((s.spent.make n).more _ n x).names ↔ _
          rw [names_more]
          exact hmk t
    · exact .inr ⟨by show (1 : Int) ≠ 0; decide, rfl⟩
  · exact .inr ⟨by show (12 : Int) ≠ 0; decide, rfl⟩
theorem crash_mem {s : Dk.St} (c : Int) {f : Dk.F} (hf : f ∈ s.files) : (⟨f.name, f.bytes.take (f.sure + Dk.cntOf s c f.name), f.sure + Dk.cntOf s c f.name⟩ : Dk.F) ∈ (Dk.opCrash s c).files := by
  rw [Dk.crash_files]
  exact List.mem_map.2 ⟨f, hf, rfl⟩
/-- A file that is sure is as before behind a crash. -/
theorem crash_sure {s : Dk.St} (ok : Dk.Ok s) (c : Int) {f : Dk.F} (hf : f ∈ s.files) (hs : f.sure = f.bytes.length) : f ∈ (Dk.opCrash s c).files := by
  have h1 := crash_mem c hf
  have h2 := Dk.crash_le ok c hf
  have e : f.sure + Dk.cntOf s c f.name = f.bytes.length := by omega
  rw [e, List.take_length, ← hs] at h1
  exact h1
theorem crash_len (s : Dk.St) (c : Int) : (Dk.opCrash s c).files.length = s.files.length := by
  rw [Dk.crash_files, List.length_map]
/-- Append leaves the other files, whatever it answers. -/
theorem app_keep {s : Dk.St} (ok : Dk.Ok s) {n x : ByteArray} (hx : x.size ≠ 0) {f : Dk.F} (hf : f ∈ s.files) (hn : f.name ≠ n) : f ∈ (Dk.opAppend s n x).2.files := by
  cases hp : s.power with
  | false =>
    have : Dk.opAppend s n x = (12, s.spent) := by unfold Dk.opAppend; rw [hp]; rfl
    rw [this]
    exact hf
  | true =>
    cases hm : Dk.mayBe n with
    | false =>
      have : Dk.opAppend s n x = (1, s.spent) := by unfold Dk.opAppend; rw [hp, hm]; rfl
      rw [this]
      exact hf
    | true =>
      cases hq : s.full n x with
      | true =>
        have : Dk.opAppend s n x = (2, s.spent) := by unfold Dk.opAppend; rw [hp, hm, hq]; rfl
        rw [this]
        exact hf
      | false => exact (app_files ok hp hm hq hx).2.1 f hf hn
/-- .. and where it answers OK the new file is there. -/
theorem app_new {s : Dk.St} (ok : Dk.Ok s) {n x : ByteArray} (hx : x.size ≠ 0) (h : (Dk.opAppend s n x).1 = 0) (hn : n ∉ s.names) : (⟨n, x.data.toList, 0⟩ : Dk.F) ∈ (Dk.opAppend s n x).2.files := by
  cases hp : s.power with
  | false =>
    have : Dk.opAppend s n x = (12, s.spent) := by unfold Dk.opAppend; rw [hp]; rfl
    rw [this] at h
    cases h
  | true =>
    cases hm : Dk.mayBe n with
    | false =>
      have : Dk.opAppend s n x = (1, s.spent) := by unfold Dk.opAppend; rw [hp, hm]; rfl
      rw [this] at h
      cases h
    | true =>
      cases hq : s.full n x with
      | true =>
        have : Dk.opAppend s n x = (2, s.spent) := by unfold Dk.opAppend; rw [hp, hm, hq]; rfl
        rw [this] at h
        cases h
      | false => exact (app_files ok hp hm hq hx).2.2.2.1 hn
theorem syn_keep {s : Dk.St} (ok : Dk.Ok s) {n : ByteArray} {f : Dk.F} (hf : f ∈ s.files) (hn : f.name ≠ n) : f ∈ (Dk.opSync s n).2.files := by
  cases hp : s.power with
  | false =>
    have : Dk.opSync s n = (12, s.spent) := by unfold Dk.opSync; rw [hp]; rfl
    rw [this]
    exact hf
  | true =>
    cases hh : Dk.has s.names n with
    | false =>
      have : Dk.opSync s n = (6, s.spent) := by unfold Dk.opSync; rw [hp, hh]; rfl
      rw [this]
      exact hf
    | true =>
      obtain ⟨g, h1, h2, h3⟩ := Dk.has_get ok.rising hh
      exact (syn_files ok hp h3 h2).2.1 f hf hn
theorem syn_new {s : Dk.St} (ok : Dk.Ok s) {n : ByteArray} {f : Dk.F} (hf : f ∈ s.files) (hn : f.name = n) (h : (Dk.opSync s n).1 = 0) : (⟨n, f.bytes, f.bytes.length⟩ : Dk.F) ∈ (Dk.opSync s n).2.files := by
  cases hp : s.power with
  | false =>
    have : Dk.opSync s n = (12, s.spent) := by unfold Dk.opSync; rw [hp]; rfl
    rw [this] at h
    cases h
  | true => exact (syn_files ok hp hf hn).2.2.1
/-- Remove leaves the other files, and no name that wasn't there. -/
theorem rem_files {s : Dk.St} (ok : Dk.Ok s) (n : ByteArray) : (∀ f ∈ s.files, f.name ≠ n → f ∈ (Dk.opRemove s n).2.files) ∧ (∀ t, t ∈ (Dk.opRemove s n).2.names → t ∈ s.names) ∧ ((Dk.opRemove s n).1 = 0 → n ∉ (Dk.opRemove s n).2.names) := by
  cases hp : s.power with
  | false =>
    have : Dk.opRemove s n = (12, s.spent) := by unfold Dk.opRemove; rw [hp]; rfl
    rw [this]
    exact ⟨fun f hf _ => hf, fun t ht => ht, fun h => by cases h⟩
  | true =>
    cases hh : Dk.has s.names n with
    | false =>
      have : Dk.opRemove s n = (6, s.spent) := by unfold Dk.opRemove; rw [hp, hh]; rfl
      rw [this]
      exact ⟨fun f hf _ => hf, fun t ht => ht, fun h => by cases h⟩
    | true =>
      obtain ⟨g, h1, h2, h3⟩ := Dk.has_get ok.rising hh
      have : Dk.opRemove s n = (0, s.spent.drop (Dk.place s.names n)) := by unfold Dk.opRemove; rw [hp, hh]; rfl
      rw [this]
      have e : (s.spent.drop (Dk.place s.names n)).files = s.files.eraseIdx (Dk.place s.names n) := by
        unfold Dk.St.drop
        rw [show s.spent.files = s.files from rfl, h1]
      have hmem : ∀ f, f ∈ (s.spent.drop (Dk.place s.names n)).files ↔ f ∈ s.files ∧ ¬ f.name = n := fun f => by
        rw [e, Dk.mem_erase_ne ok.rising.nodup h1, h2]
      refine ⟨fun f hf hne => (hmem f).2 ⟨hf, hne⟩, fun t ht => ?_, fun _ hm => ?_⟩
      · obtain ⟨f, hf, rfl⟩ := List.mem_map.1 ht
        exact mem_names ((hmem f).1 hf).1
      · obtain ⟨f, hf, hfn⟩ := List.mem_map.1 hm
        exact ((hmem f).1 hf).2 hfn
/-- Rename: what it leaves where it fails, and where it doesn't. -/
theorem ren_bad {s : Dk.St} {n t : ByteArray} (h : (Dk.opRename s n t).1 ≠ 0) : (Dk.opRename s n t).2.files = s.files := by
  unfold Dk.opRename at h ⊢
  split at h
  · rename_i hp
    rw [if_pos hp]
    split at h
    · rename_i hm
      rw [if_pos hm]
      split at h
      · rename_i f h1 h2
        split at h
        · rename_i h3
          rw [if_pos h3]
          rfl
        · split at h
          · exact absurd rfl h
          · exact absurd rfl h
      · rfl
    · rename_i hm
      rw [if_neg hm]
      rfl
  · rename_i hp
    rw [if_neg hp]
    rfl
theorem ren_new {s : Dk.St} (ok : Dk.Ok s) {n t : ByteArray} (hc : ¬ Dk.cmp n t = 0) {f : Dk.F} (hf : f ∈ s.files) (hn : f.name = n) (h : (Dk.opRename s n t).1 = 0) : (⟨t, f.bytes, f.sure⟩ : Dk.F) ∈ (Dk.opRename s n t).2.files := by
  obtain ⟨h1, h2⟩ := file_at ok hf
  rw [hn] at h1 h2
  unfold Dk.opRename at h ⊢
  rw [h2, h1] at h ⊢
  split at h
  · rename_i hp
    rw [if_pos hp]
    split at h
    · rename_i hm
      rw [if_pos hm]
      simp only at h ⊢
      split at h
      · cases h
      · rename_i h3
        rw [if_neg h3, if_neg hc]
        exact List.mem_append_right _ List.mem_cons_self
    · cases h
  · cases h
end Go.Proofs.Ytnmamaeoghgegaa

/-
  The number that a disk's manifest tells, behind each call.
-/
namespace Go.Proofs.Ytnmamaeoghgegaa
open Go.RowKit
set_option maxRecDepth 100000
theorem mf_dr : ¬ MF = DR := by decide
theorem cmp_dr : ¬ Dk.cmp DR MF = 0 := fun e => mf_dr (Dk.cmp_zero.1 e).symm
/-- What the disk has: the manifest of a number, all sure; none, if it is 1. -/
def Kn (s : Dk.St) (now : Int) : Prop := (MF ∉ s.names ∧ now = 1) ∨ (hasB now = true ∧ (⟨MF, (fmS now).data.toList, (fmS now).size⟩ : Dk.F) ∈ s.files)
theorem Kn.keep {s s' : Dk.St} {now : Int} (h : Kn s now) (h1 : ∀ f ∈ s.files, f.name ≠ DR → f ∈ s'.files) (h2 : MF ∈ s'.names → MF ∈ s.names) : Kn s' now := by
  rcases h with ⟨a, b⟩ | ⟨a, b⟩
  · exact .inl ⟨fun hm => a (h2 hm), b⟩
  · exact .inr ⟨a, h1 _ b (fun e => mf_dr e)⟩
theorem Kn.clean {s : Dk.St} {now : Int} (h : Kn s now) (ok : Dk.Ok s) : Kn (mClean s).2 now ∧ Dk.Ok (mClean s).2 ∧ ((mClean s).1 = 0 → DR ∉ (mClean s).2.names) := by
  unfold mClean
  cases hh : Dk.has s.names DR with
  | false => exact ⟨h, ok, fun _ hm => by rw [Dk.has_iff.2 (show DR ∈ s.names from hm)] at hh; cases hh⟩
  | true =>
    obtain ⟨a, b, c⟩ := rem_files ok DR
    exact ⟨h.keep a (b MF), ok.opRemove DR, c⟩
theorem Kn.append {s : Dk.St} {now : Int} (h : Kn s now) (ok : Dk.Ok s) {x : ByteArray} (hx : x.size ≠ 0) : Kn (Dk.opAppend s DR x).2 now :=
  h.keep (fun f hf hn => app_keep ok hx hf hn) (fun hm => by
    rcases app_names s DR x with ⟨_, e⟩ | ⟨_, e⟩
    · rcases (e MF).1 hm with h1 | h1
      · exact h1
      · exact absurd h1 mf_dr
    · rw [e] at hm
      exact hm)
theorem Kn.sync {s : Dk.St} {now : Int} (h : Kn s now) (ok : Dk.Ok s) : Kn (Dk.opSync s DR).2 now :=
  h.keep (fun f hf hn => syn_keep ok hf hn) (fun hm => by rw [names_sync] at hm; exact hm)
theorem Kn.same {s s' : Dk.St} {now : Int} (h : Kn s now) (e : s'.files = s.files) : Kn s' now :=
  h.keep (fun f hf _ => by rw [e]; exact hf) (fun hm => by unfold Dk.St.names at hm ⊢; rw [e] at hm; exact hm)
theorem Kn.crash {s : Dk.St} {now : Int} (h : Kn s now) (ok : Dk.Ok s) (c : Int) : Kn (Dk.opCrash s c) now := by
  rcases h with ⟨a, b⟩ | ⟨a, b⟩
  · exact .inl ⟨fun hm => a (by rw [Dk.crash_names] at hm; exact hm), b⟩
  · exact .inr ⟨a, crash_sure ok c b rfl⟩
/-- Write: behind OK the number is the later one, else it is the elder. -/
theorem Kn.write {s : Dk.St} {now : Int} (h : Kn s now) (ok : Dk.Ok s) (n : Int) : Dk.Ok (mWrite s n).2 ∧ Kn (mWrite s n).2 (if (mWrite s n).1 = 0 then n else now) := by
  cases hb : hasB n with
  | false =>
    rw [mw_none hb]
    exact ⟨ok, h⟩
  | true =>
    have hz := fmS_size hb
    obtain ⟨k1, ok1, d1⟩ := h.clean ok
    by_cases c1 : (mClean s).1 = 0
    · have k2 := k1.append ok1 (x := fmS n) (by omega)
      have ok2 := ok1.opAppend DR (fmS n)
      by_cases c2 : (Dk.opAppend (mClean s).2 DR (fmS n)).1 = 0
      · have f2 := app_new ok1 (by omega) c2 (d1 c1)
        have k3 := k2.sync ok2
        have ok3 := ok2.opSync DR
        by_cases c3 : (Dk.opSync (Dk.opAppend (mClean s).2 DR (fmS n)).2 DR).1 = 0
        · have f3 := syn_new ok2 f2 rfl c3
          rw [mw_all hb c1 c2 c3]
          refine ⟨ok3.opRename DR MF, ?_⟩
          by_cases c4 : (Dk.opRename (Dk.opSync (Dk.opAppend (mClean s).2 DR (fmS n)).2 DR).2 DR MF).1 = 0
          · rw [if_pos c4]
            exact .inr ⟨hb, ren_new ok3 cmp_dr f3 rfl c4⟩
          · rw [if_neg c4]
            exact k3.same (ren_bad c4)
        · rw [mw_sync hb c1 c2 c3, if_neg c3]
          exact ⟨ok3, k3⟩
      · rw [mw_app hb c1 c2, if_neg c2]
        exact ⟨ok2, k2⟩
    · rw [mw_clean hb c1, if_neg c1]
      exact ⟨ok1, k1⟩
theorem fmc_first (k : Nat) (h : k ≤ 99999) : Fm.Fr.first (Fm.Fr.mk (fmc k)) = (fmc k, (fmc k).length + 10, 0) := by
  have := Fm.Fr.first_mk (fmc k) [] (by have := fmc_len h; omega)
  rw [List.append_nil] at this
  exact this
theorem num_fmc (k : Nat) (h : k ≤ 99999) : numOf (Fm.bs (fmc k)) = (k : Int) := by
  have hl := fmc_len h
  have e0 : (Fm.bs (fmc k)).size = (fmc k).length := Fm.bs_size _
  have e1 : (Fm.bs (fmc k)).extract 0 3 = CG := by
    apply ByteArray.ext
    simp [Fm.bs, fmc, CG]
  have e2 : ((Fm.bs (fmc k)).extract 3 (Fm.bs (fmc k)).size).data.toList = Pa.Pk.numB k := by
    rw [e0]
    simp [Fm.bs, fmc, CG]
  have e3 : Pa.Pk.headB (Pa.Pk.numB k) = (k, (Pa.Pk.numB k).length) := by
    have := Pa.Pk.headB_numB k [] (by omega)
    rw [List.append_nil] at this
    exact this
  have hn := Pa.Pk.numB_len (a := k) (by omega)
  have e4 : (fmc k).length = 3 + (Pa.Pk.numB k).length := by
    unfold fmc
    rw [List.length_append]
    rfl
  have hok : okX (Fm.bs (fmc k)) := by
    unfold okX
    rw [e2, e3]
    exact ⟨by omega, e1, by show (Pa.Pk.numB k).length ≠ 0; omega, h, by show (Pa.Pk.numB k).length + 3 = _; omega⟩
  rw [numOf_yes hok, e2, e3]
/-- A manifest is read as its number. -/
theorem of_form {n : Int} (h : hasB n = true) : ofS (fmS n) = (n, 0) := by
  have h1 := hasB_iff.1 h
  obtain ⟨k, rfl⟩ : ∃ k : Nat, n = (k : Int) := ⟨n.toNat, by omega⟩
  have hk : k ≤ 99999 := by omega
  have e : fmS (k : Int) = Fm.bs (Fm.Fr.mk (fmc k)) := by unfold fmS; rw [h, if_pos rfl, Int.toNat_natCast]
  have hf : Fm.Fr.first (fmS (k : Int)).data.toList = (fmc k, (fmc k).length + 10, 0) := by rw [e, Fm.bs_list]; exact fmc_first k hk
  have hsz : (fmS (k : Int)).size = (fmc k).length + 10 := by rw [e, Fm.bs_size, Fm.Fr.mk_len]
  have := ofS_yes (s := fmS (k : Int)) (by rw [hf]) (by rw [hf, hsz]; exact Nat.lt_irrefl _) (by rw [hf]; show hasB (numOf (Fm.bs (fmc k))) = true; rw [num_fmc k hk]; exact h)
  rw [hf] at this
  rw [this]
  show (numOf (Fm.bs (fmc k)), (0 : Int)) = _
  rw [num_fmc k hk]
/-- Read answers the number. -/
theorem Kn.read {s : Dk.St} {now : Int} (h : Kn s now) (ok : Dk.Ok s) : mRd s = (now, 0) := by
  unfold mRd
  rcases h with ⟨a, rfl⟩ | ⟨a, b⟩
  · rw [Dk.has_not.2 a]
    rfl
  · obtain ⟨h1, h2⟩ := file_at ok b
    have h1' : Dk.has s.names MF = true := h1
    have h2' : s.files[Dk.place s.names MF]? = some ⟨MF, (fmS now).data.toList, (fmS now).size⟩ := h2
    have e : (Dk.opRead s MF).1 = fmS now := by
      unfold Dk.opRead Dk.St.bytesOf
      rw [h1', h2']
      rfl
    rw [h1', if_pos rfl, e, of_form a]
end Go.Proofs.Ytnmamaeoghgegaa

/-
  The disk of the first two laws.
-/
namespace Go.Proofs.Ytnmamaeoghgegaa
open Go.RowKit
set_option maxRecDepth 100000
open Dk (emptySt opRoom opAppend opSync opRename opRead)
theorem ok_empty : Dk.Ok emptySt := ⟨trivial, by simp [emptySt], by simp [emptySt], by simp [emptySt], by simp [emptySt, Dk.St.total], by simp [emptySt], by simp [emptySt], by simp [emptySt]⟩
theorem ok_new (n : Int) : Dk.Ok (opRoom emptySt n) := ok_empty.opRoom n
theorem kn_new (n : Int) : Kn (opRoom emptySt n) 1 := .inl ⟨fun h => (by cases h), rfl⟩
/-- A disk with one file. -/
def oneF (n : ByteArray) (x : ByteArray) (k : Nat) (ps : List Dk.Pc) (room : Nat) : Dk.St := ⟨[⟨n, x.data.toList, k⟩], ps, room, false, 0, false⟩
theorem app_one {n x : ByteArray} {k : Int} (hm : Dk.mayBe n = true) (hk : (x.size : Int) ≤ k) (hk2 : k ≤ 60000) (hx : x.size ≠ 0) : opAppend (opRoom emptySt k) n x = (0, oneF n x 0 [⟨n, x.size⟩] k.toNat) := by
  have hp : (opRoom emptySt k).power = true := rfl
  have hf : (opRoom emptySt k).full n x = false := by
    unfold Dk.St.full
    have e1 : (opRoom emptySt k).room = k.toNat := by show (min (max k 0) 60000).toNat = _; omega
    have e2 : (opRoom emptySt k).total = 0 := rfl
    rw [e1, e2, decide_eq_false (show ¬ k.toNat < 0 + x.size by omega), Bool.or_false]
    have e3 : (opRoom emptySt k).files.length = 0 := rfl
    rw [e3]
    simp
  unfold Dk.opAppend
  rw [if_pos hp, if_pos hm, hf, if_neg (by decide), if_neg hx]
  have e1 : (min (max k 0) 60000).toNat = k.toNat := by omega
  unfold oneF
  rw [← e1]
  simp [Dk.St.make, Dk.St.more, Dk.St.spent, Dk.opRoom, Dk.emptySt, Dk.has, Dk.St.names, Dk.place, Dk.St.power]
theorem one_has (n x : ByteArray) (k : Nat) (ps : List Dk.Pc) (room : Nat) : Dk.has (oneF n x k ps room).names n = true ∧ Dk.place (oneF n x k ps room).names n = 0 := by
  refine ⟨Dk.has_iff.2 (by simp [oneF, Dk.St.names]), ?_⟩
  unfold Dk.place oneF Dk.St.names
  simp [Dk.cmp_self]
theorem sync_one (n x : ByteArray) (room : Nat) : opSync (oneF n x 0 [⟨n, x.size⟩] room) n = (0, oneF n x x.size [] room) := by
  obtain ⟨h1, h2⟩ := one_has n x 0 [⟨n, x.size⟩] room
  have hp : (oneF n x 0 [⟨n, x.size⟩] room).power = true := rfl
  have hl : (oneF n x 0 [⟨n, x.size⟩] room).len n = x.size := by
    unfold Dk.St.len
    rw [h2]
    rfl
  unfold Dk.opSync
  rw [if_pos hp, if_pos h1, h2, hl]
  unfold Dk.St.settle
  have e : (oneF n x 0 [⟨n, x.size⟩] room).spent.files[0]? = some ⟨n, x.data.toList, 0⟩ := rfl
  rw [e]
  have e2 : x.data.toList.take x.size = x.data.toList := List.take_of_length_le (Nat.le_refl _)
  simp only [e2]
  unfold oneF Dk.St.spent Dk.keepOf Dk.isOf
  simp [Dk.cmp_self, Dk.St.power]
theorem ren_one (x : ByteArray) (room : Nat) : opRename (oneF DR x x.size [] room) DR MF = (0, oneF MF x x.size [] room) := by
  obtain ⟨h1, h2⟩ := one_has DR x x.size [] room
  have hp : (oneF DR x x.size [] room).power = true := rfl
  have hm : Dk.mayBe MF = true := by decide
  unfold Dk.opRename
  have e : (oneF DR x x.size [] room).files[0]? = some ⟨DR, x.data.toList, x.size⟩ := rfl
  rw [if_pos hp, if_pos hm, h2, h1, e]
  have e3 : ¬ x.size < x.data.toList.length := Nat.lt_irrefl _
  simp only [if_neg e3, if_neg cmp_dr]
  unfold oneF Dk.St.drop Dk.St.free1 Dk.St.putAt Dk.St.spent Dk.St.names Dk.place
  simp [Dk.has, Dk.keepOf, Dk.St.power]
/-- Write on a new disk. -/
theorem write_new {n k : Int} (h : hasB n = true) (hk : 22 ≤ k) (hk2 : k ≤ 60000) : mWrite (opRoom emptySt k) n = (0, oneF MF (fmS n) (fmS n).size [] k.toNat) := by
  have hz := fmS_size h
  have c0 : mClean (opRoom emptySt k) = (0, opRoom emptySt k) := rfl
  have a := app_one (n := DR) (x := fmS n) (k := k) (by decide) (by omega) hk2 (by omega)
  have s := sync_one DR (fmS n) k.toNat
  have e := mw_all (s := opRoom emptySt k) h (by rw [c0]) (by rw [c0, a]) (by rw [c0, a, s])
  rw [c0, a, s, ren_one] at e
  exact e
theorem read_one (x : ByteArray) (k : Nat) (ps : List Dk.Pc) (room : Nat) : opRead (oneF MF x k ps room) MF = (x, 0) := by
  obtain ⟨h1, h2⟩ := one_has MF x k ps room
  unfold Dk.opRead Dk.St.bytesOf
  rw [h1, h2, if_pos rfl]
  rfl
/-- A file of any bytes. -/
theorem file_new (s : ByteArray) (hs : s.size ≤ 999) : (opAppend (opRoom emptySt 999) MF s).1 = 0 ∧ mRd (opAppend (opRoom emptySt 999) MF s).2 = ofS s := by
  by_cases h0 : s.size = 0
  · have e : s = ⟨#[]⟩ := by
      apply ByteArray.ext
      exact Array.eq_empty_of_size_eq_zero h0
    subst e
    have e2 : opAppend (opRoom emptySt 999) MF ⟨#[]⟩ = (0, oneF MF ⟨#[]⟩ 0 [] 999) := by rfl
    rw [e2]
    refine ⟨rfl, ?_⟩
    unfold mRd
    rw [(one_has MF ⟨#[]⟩ 0 [] 999).1, if_pos rfl, read_one]
  · rw [app_one (n := MF) (x := s) (k := 999) (by decide) (by omega) (by decide) h0]
    refine ⟨rfl, ?_⟩
    unfold mRd
    rw [(one_has MF s 0 [⟨MF, s.size⟩] _).1, if_pos rfl, read_one]
end Go.Proofs.Ytnmamaeoghgegaa

/-
  The first few calls of each statement answer true.
-/
namespace Go.Proofs.Ytnmamaeoghgegaa
open Go.RowKit
set_option maxRecDepth 100000
open Dk (emptySt opRoom opAppend opSync opRename opRead)
theorem dnew (n : Int) (w : World) : Calls Try.prog 8 #[.int .i64 n] w fun e w' => ∃ b d, e = .returned (.pointer (some ⟨b, 0, none⟩)) ∧ Dsk w.heap.size b d w' ∧ d.pl = opRoom emptySt n ∧ Below w.heap.size w w' := by
  refine (Dk.new_any n w w.heap.size (Nat.le_refl _)).mono ?_
  rintro e w' ⟨b, d, h1, h2, h3, h4, h5⟩
  exact ⟨b, d, h1, ⟨h2, by rw [h3]; exact ok_new n⟩, h3, h5⟩
theorem Dsk.hs {B b : Nat} {d : Dk.Ds} {w : World} (h : Dsk B b d w) : B ≤ w.heap.size := by
  have := h.rep.lt b Dk.foot_b
  omega
/-- Behind a call of the program all that lay below the disk is as it was. -/
theorem Dsk.bel {W w w' : World} {B b : Nat} {d d' : Dk.Ds} (h : Dsk B b d w) (hW : Below W.heap.size W w) (hle : W.heap.size ≤ B) (st : Dk.Step (d.foot b) (d'.foot b) w w') : Below W.heap.size W w' :=
  hW.trans ((st.below (fun k hk => (h.rep.lt k hk).1) h.hs).mono hle)
theorem has300 : hasB 300 = true := by decide
theorem form300 : (fmS 300).size = 15 := by decide +kernel
theorem dnames {w : World} {B b : Nat} {d : Dk.Ds} (h : Dsk B b d w) : Calls Try.prog 11 #[.pointer (some ⟨b, 0, none⟩)] w fun e w' => ∃ a c, e = .returned (.slice a d.pl.names.length c) ∧ Below w.heap.size w w' := by
  refine (Dk.names_any h.rep h.ok).mono ?_
  rintro e w' ⟨v, rfl, ho, hb⟩
  obtain ⟨a, c, rfl⟩ := Dk.own_any ho
  exact ⟨a, c, by rw [Dk.names_pl], hb⟩
theorem dmread {w : World} {B b : Nat} {d : Dk.Ds} (h : Dsk B b d w) : Calls Try.prog 10 #[.pointer (some ⟨b, 0, none⟩)] w fun e w' => e = .returned (.tuple #[.int .i64 (mRd d.pl).1, .int .i64 (mRd d.pl).2]) ∧ Below w.heap.size w w' := mread_any h.rep h.ok
set_option maxHeartbeats 2000000 in
theorem awake_any (w : World) : Calls Try.prog 6 #[] w fun e w' => e = .returned (.bool true) ∧ Below w.heap.size w w' := by
  have k8 := dnew 99 w
  have EW := asd (write_new (k := 99) has300 (by decide) (by decide))
  have KW := asd (fun (B b : Nat) (d : Dk.Ds) (u : World) (h : Dsk B b d u) => mwrite_any h 300)
  have KR := asd (fun (B b : Nat) (d : Dk.Ds) (u : World) (h : Dsk B b d u) => dmread h)
  have KF := asd (fun (u : World) => form_any 300 u)
  have KN := asd (fun (B b : Nat) (d : Dk.Ds) (u : World) (h : Dsk B b d u) => dnames h)
  have RD : Aside (mRd (oneF MF (fmS 300) (fmS 300).size [] 99) = (300, 0)) := by
    have h1 := kn_new 99
    have h2 := Kn.write h1 (ok_new 99) 300
    rw [EW.out] at h2
    exact Kn.read h2.2 h2.1
  have NL : Aside ((oneF MF (fmS 300) (fmS 300).size [] 99).names.length = 1) := (rfl : (oneF MF (fmS 300) (fmS 300).size [] 99).names.length = 1)
  have hfs := form300
  rw [show (99 : Int).toNat = 99 from rfl] at EW
  generalize oneF MF (fmS 300) (fmS 300).size [] 99 = S1 at *
  generalize fmS 300 = F at *
  go_enter Try.func6, Try.ntmps6
  go_wp2_with (first
    | (go_at_call 8; refine k8.mono ?_; rintro e w1 ⟨b, d1, rfl, D1, p1, b1⟩; have DD1 := asd D1; have P1 := asd p1; have B1 := asd b1; clear D1 p1 b1)
    | (go_at_call 9; refine (KW.out _ _ _ _ DD1.out).mono ?_; unfold DO; rw [P1.out, EW.out]; rintro e w2 ⟨rfl, d2, D2, p2, st2⟩; have DD2 := asd D2; have P2 := asd p2; have B2 := asd (DD1.out.bel B1.out (Nat.le_refl _) st2); clear D2 p2 st2)
    | (go_at_call 10; refine (KR.out _ _ _ _ DD2.out).mono ?_; rw [P2.out, RD.out]; rintro e w3 ⟨rfl, b3⟩; have DD3 := asd (DD2.out.below b3); have B3 := asd (B2.out.trans (b3.mono B2.out.size)); clear b3)
    | (go_at_call 7; refine (KF.out _).mono ?_; rintro e w4 ⟨rfl, b4⟩; have DD4 := asd (DD3.out.below b4); have B4 := asd (B3.out.trans (b4.mono B3.out.size)); clear b4)
    | (go_at_call 11; refine (KN.out _ _ _ _ DD4.out).mono ?_; rw [P2.out, NL.out]; rintro e w5 ⟨a5, c5, rfl, b5⟩; have B5 := asd (B4.out.trans (b5.mono B4.out.size)); clear b5))
  go_ret
  exact ⟨rfl, B5.out⟩
end Go.Proofs.Ytnmamaeoghgegaa

/-
  Both disks, and the number that counts.
-/
namespace Go.Proofs.Ytnmamaeoghgegaa
open Go.RowKit
set_option maxRecDepth 100000
namespace Dk
/-- What is behind a deed, and what the program's disk then has. -/
def DoneAs (w : World) (B b c : Nat) (d : Ds) (r : Rs) (s : St) (w' : World) : Prop := ∃ d' r', Both w' B b c d' r' ∧ d'.pl = s ∧ r'.count ≤ r.count + 101 ∧ Step (d.foot b ++ r.foot c) (d'.foot b ++ r'.foot c) w w'
theorem Pair.doneAs {w w1 w2 : World} {B b c : Nat} {d d' : Ds} {r r' : Rs} {x : Dd} {f g : Nat} {af ag : Array Value} {a : Value} {s : St} {q : RS} (p : Pair w B b c d r x f g af ag a s q) (h1 : Rep w1 B b d') (e1 : d'.pl = s) (s1 : Step (d.foot b) (d'.foot b) (w.alloc (.cells x.cells 51)) w1) (h2 : RRep w2 B c r') (e2 : r'.pl = q) (s2 : Step (r.foot c) (r'.foot c) w1 w2) : DoneAs w B b c d r s w2 := by
  obtain ⟨_, a1⟩ := rrep_kept p.both.rrep p.both.apart s1
  obtain ⟨h3, a2⟩ := rep_kept h1 a1 s2
  exact ⟨d', r', ⟨h3, h2, e1 ▸ p.ok, e1 ▸ e2 ▸ p.rel, a2⟩, e1, by rw [← count_pl, e2]; exact p.cnt, (Step.ofBelow ((Below.refl _ _).alloc (Nat.le_refl _) _)).trans ((s1.frame (r.foot c)).trans (s2.frameL (d'.foot b)))⟩
set_option maxHeartbeats 1000000 in
theorem do_crash2 {w : World} {B b c : Nat} {d : Ds} {r : Rs} (h : Both w B b c d r) (x : Dd) (hk : x.kind % 10 = 6) (hk0 : 0 ≤ x.kind) (hk1 : x.kind ≤ 255) (hc : r.count ≤ 100000) (hn : x.name.size ≤ 101) (hs : x.s.size ≤ 101) (hN : x.n ≤ 9223372036854775807) :
    Calls Try.prog 21 #[.pointer (some ⟨b, 0, none⟩), .pointer (some ⟨c, 0, none⟩), .agg x.cells] w fun e w' => e = .returned (.bool true) ∧ DoneAs w B b c d r (opCrash d.pl x.n) w' := by
  have P := pair_crash h x hc hn hs hN
  have P' : Aside _ := P
  clear h hc P
  unfold Dd.cells
  go_enter Try.func21, Try.ntmps21
  go_wp2_with (first
    | (go_at_call 52; refine (P'.out.kl (w.alloc (.cells x.cells 51)) P'.out.both.rep (heap_alloc_new w _) P'.out.nl).mono ?_; rintro e w1 ⟨rfl, hX1, d', h1, e1, s1⟩; obtain ⟨_, z1, z2, z3, z4, z5⟩ := dd_cells hX1)
    | (go_at_call 53; refine (P'.out.kr _ (rrep_kept P'.out.both.rrep P'.out.both.apart s1).1 hX1 P'.out.nr).mono ?_; rintro e w2 ⟨rfl, hX2, r', h2, e2, s2⟩; obtain ⟨_, y1, y2, y3, y4, y5⟩ := dd_cells hX2))
  go_ret
  exact ⟨rfl, P'.out.doneAs h1 e1 s1 h2 e2 s2⟩
set_option maxHeartbeats 1000000 in
theorem do_room2 {w : World} {B b c : Nat} {d : Ds} {r : Rs} (h : Both w B b c d r) (x : Dd) (hk : x.kind % 10 = 7) (hk0 : 0 ≤ x.kind) (hk1 : x.kind ≤ 255) (hc : r.count ≤ 100000) (hn : x.name.size ≤ 101) (hs : x.s.size ≤ 101) (hN : x.n ≤ 9223372036854775807) :
    Calls Try.prog 21 #[.pointer (some ⟨b, 0, none⟩), .pointer (some ⟨c, 0, none⟩), .agg x.cells] w fun e w' => e = .returned (.bool true) ∧ DoneAs w B b c d r (opRoom d.pl x.n) w' := by
  have P := pair_room h x hc hn hs hN
  have P' : Aside _ := P
  clear h hc P
  unfold Dd.cells
  go_enter Try.func21, Try.ntmps21
  go_wp2_with (first
    | (go_at_call 28; refine (P'.out.kl (w.alloc (.cells x.cells 51)) P'.out.both.rep (heap_alloc_new w _) P'.out.nl).mono ?_; rintro e w1 ⟨rfl, hX1, d', h1, e1, s1⟩; obtain ⟨_, z1, z2, z3, z4, z5⟩ := dd_cells hX1)
    | (go_at_call 43; refine (P'.out.kr _ (rrep_kept P'.out.both.rrep P'.out.both.apart s1).1 hX1 P'.out.nr).mono ?_; rintro e w2 ⟨rfl, hX2, r', h2, e2, s2⟩; obtain ⟨_, y1, y2, y3, y4, y5⟩ := dd_cells hX2))
  go_ret
  exact ⟨rfl, P'.out.doneAs h1 e1 s1 h2 e2 s2⟩
set_option maxHeartbeats 1000000 in
theorem do_fuse2 {w : World} {B b c : Nat} {d : Ds} {r : Rs} (h : Both w B b c d r) (x : Dd) (hk : x.kind % 10 = 9) (hk0 : 0 ≤ x.kind) (hk1 : x.kind ≤ 255) (hc : r.count ≤ 100000) (hn : x.name.size ≤ 101) (hs : x.s.size ≤ 101) (hN : x.n ≤ 9223372036854775807) :
    Calls Try.prog 21 #[.pointer (some ⟨b, 0, none⟩), .pointer (some ⟨c, 0, none⟩), .agg x.cells] w fun e w' => e = .returned (.bool true) ∧ DoneAs w B b c d r (opFuse d.pl x.n) w' := by
  have P := pair_fuse h x hc hn hs hN
  have P' : Aside _ := P
  clear h hc P
  unfold Dd.cells
  go_enter Try.func21, Try.ntmps21
  go_wp2_with (first
    | (go_at_call 56; refine (P'.out.kl (w.alloc (.cells x.cells 51)) P'.out.both.rep (heap_alloc_new w _) P'.out.nl).mono ?_; rintro e w1 ⟨rfl, hX1, d', h1, e1, s1⟩; obtain ⟨_, z1, z2, z3, z4, z5⟩ := dd_cells hX1)
    | (go_at_call 57; refine (P'.out.kr _ (rrep_kept P'.out.both.rrep P'.out.both.apart s1).1 hX1 P'.out.nr).mono ?_; rintro e w2 ⟨rfl, hX2, r', h2, e2, s2⟩; obtain ⟨_, y1, y2, y3, y4, y5⟩ := dd_cells hX2))
  go_ret
  exact ⟨rfl, P'.out.doneAs h1 e1 s1 h2 e2 s2⟩
end Dk
theorem mt_fuse (s : Dk.St) (n : Int) : (Dk.opFuse s n).files = s.files := by
  unfold Dk.opFuse
  split <;> rfl
/-- Both disks, the number that counts, and what lay there ahead of them. -/
structure MT (W : World) (B b c N : Nat) (d : Dk.Ds) (r : Dk.Rs) (now : Int) (u : World) : Prop where
  both : Dk.Both u B b c d r
  cnt : r.count ≤ 101 * N
  kn : Kn d.pl now
  bel : Below W.heap.size W u
  le : W.heap.size ≤ B
theorem MT.dsk {W u : World} {B b c N : Nat} {d : Dk.Ds} {r : Dk.Rs} {now : Int} (h : MT W B b c N d r now u) : Dsk B b d u := ⟨h.both.rep, h.both.ok⟩
theorem MT.later {W u u' : World} {B b c N : Nat} {d : Dk.Ds} {r : Dk.Rs} {now : Int} (h : MT W B b c N d r now u) (hb : Below u.heap.size u u') : MT W B b c N d r now u' :=
  ⟨h.both.below hb, h.cnt, h.kn, h.bel.trans (hb.mono h.bel.size), h.le⟩
theorem MT.hs {W u : World} {B b c N : Nat} {d : Dk.Ds} {r : Dk.Rs} {now : Int} (h : MT W B b c N d r now u) : B ≤ u.heap.size := by
  have := h.both.rep.lt b Dk.foot_b
  omega
/-- The program's disk has gone a step. -/
theorem MT.half {W u u1 : World} {B b c N : Nat} {d d' : Dk.Ds} {r : Dk.Rs} {now : Int} (h : MT W B b c N d r now u) (st : Dk.Step (d.foot b) (d'.foot b) u u1) : Rb u1 B c d.pl r ∧ ∀ k ∈ d'.foot b, k ∉ r.foot c := by
  obtain ⟨a1, a2⟩ := Dk.rrep_kept h.both.rrep h.both.apart st
  exact ⟨⟨a1, h.both.ok, h.both.rel⟩, a2⟩
/-- .. and the document's. -/
theorem MT.whole {W u u1 u2 : World} {B b c N : Nat} {d d' : Dk.Ds} {r r' : Dk.Rs} {now now' : Int} {s : Dk.St} (h : MT W B b c N d r now u) (D : Dsk B b d' u1) (st : Dk.Step (d.foot b) (d'.foot b) u u1) (e : d'.pl = s) (R : Rb u2 B c s r') (hc : r'.count ≤ r.count + 101) (st2 : Dk.Step (r.foot c) (r'.foot c) u1 u2) (hk : Kn s now') : MT W B b c (N + 1) d' r' now' u2 := by
  obtain ⟨_, ap⟩ := h.half st
  have b2 : Below B u1 u2 := st2.below (fun k hk => (h.both.rrep.lt k hk).1) (by have := D.hs; omega)
  have b1 : Below B u u1 := st.below (fun k hk => (h.both.rep.lt k hk).1) h.hs
  refine ⟨⟨D.rep.frame fun k hk => st2.block k (D.rep.lt k hk).2 (fun hm => ap k hk hm), R.rrep, D.ok, by rw [e]; exact R.rel, fun k hk hm => ?_⟩, by have := h.cnt; omega, by rw [e]; exact hk, h.bel.trans ((b1.trans b2).mono h.le), h.le⟩
  rcases st2.sub k hm with e | e
  · exact ap k hk e
  · have := (D.rep.lt k hk).2
    omega
/-- A deed done to both. -/
theorem MT.deed {W u u2 : World} {B b c N : Nat} {d : Dk.Ds} {r : Dk.Rs} {now : Int} {s : Dk.St} (h : MT W B b c N d r now u) (hd : Dk.DoneAs u B b c d r s u2) (hk : Kn s now) : ∃ d' r', MT W B b c (N + 1) d' r' now u2 := by
  obtain ⟨d', r', h1, h2, h3, h4⟩ := hd
  have lo : ∀ k ∈ d.foot b ++ r.foot c, B ≤ k := fun k hk => by
    rcases List.mem_append.1 hk with hk | hk
    · exact (h.both.rep.lt k hk).1
    · exact (h.both.rrep.lt k hk).1
  exact ⟨d', r', h1, by have := h.cnt; omega, by rw [h2]; exact hk, h.bel.trans ((h4.below lo h.hs).mono h.le), h.le⟩
/-- Both disks, made anew. -/
theorem mt_new {W w1 w2 : World} {B b c : Nat} {d : Dk.Ds} {r : Dk.Rs} {n : Int} (h1 : Dsk B b d w1) (e1 : d.pl = Dk.opRoom Dk.emptySt n) (h2 : Dk.RRep w2 B c r) (e2 : r.pl = Dk.rRoom Dk.rEmpty n) (f2 : ∀ k ∈ r.foot c, w1.heap.size ≤ k) (b2 : Below w1.heap.size w1 w2) (hW : Below W.heap.size W w1) (hle : W.heap.size ≤ B) : MT W B b c 0 d r 1 w2 := by
  refine ⟨⟨h1.rep.below b2, h2, h1.ok, ⟨[], ?_⟩, fun k hk hm => ?_⟩, ?_, by rw [e1]; exact kn_new n, hW.trans (b2.mono hW.size), hle⟩
  · rw [e1, e2]
    exact ⟨rfl, rfl, List.Pairwise.nil, fun x hx => (by cases hx), rfl, rfl, rfl, fun e => (by cases e)⟩
  · have := (h1.rep.lt k hk).2
    have := f2 k hm
    omega
  · rw [← Dk.count_pl, e2]
    show 0 ≤ 101 * 0
    omega
end Go.Proofs.Ytnmamaeoghgegaa

/-
  The walks of ManifestForms and ManifestReads.
-/
namespace Go.Proofs.Ytnmamaeoghgegaa
open Go.RowKit
set_option maxRecDepth 100000
open Dk (emptySt opRoom opAppend opSync opRename opRead)
theorem dwaits {w : World} {B b : Nat} {d : Dk.Ds} (h : Dsk B b d w) : Calls Try.prog 14 #[.pointer (some ⟨b, 0, none⟩)] w fun e w' => e = .returned (.int .i64 (d.pl.late : Nat)) ∧ Below w.heap.size w w' := Dk.waits_any h.rep h.ok
set_option maxHeartbeats 4000000 in
/-- ManifestForms' walk. -/
theorem forms_any (n : Int) (w : World) : Calls Try.prog 3 #[.int .i64 n] w fun e w' => e = .returned (.bool true) ∧ Below w.heap.size w w' := by
  have k6 := awake_any w
  have KF := asd (fun (u : World) => form_any n u)
  have KG := asd (fun (u : World) => refForm_any n u)
  have K8 := asd (fun (u : World) => dnew 99 u)
  have KW := asd (fun (B b : Nat) (d : Dk.Ds) (u : World) (h : Dsk B b d u) => mwrite_any h n)
  have KR := asd (fun (B b : Nat) (d : Dk.Ds) (u : World) (h : Dsk B b d u) => dmread h)
  cases hb : hasB n with
  | false =>
    have EW := asd (mw_none (s := opRoom emptySt 99) hb)
    have RD : Aside (mRd (opRoom emptySt 99) = (1, 0)) := Kn.read (kn_new 99) (ok_new 99)
    have NL : Aside ((opRoom emptySt 99).names.length = 0) := (rfl : (opRoom emptySt 99).names.length = 0)
    have KN := asd (fun (B b : Nat) (d : Dk.Ds) (u : World) (h : Dsk B b d u) => dnames h)
    have e0 : fmS n = ⟨#[]⟩ := by unfold fmS; rw [hb]; rfl
    rw [e0] at KF
    have h9 : n < 2 ∨ 99999 < n := by
      unfold hasB at hb
      simp at hb
      omega
    clear e0 hb KG
    generalize opRoom emptySt 99 = S0 at *
    by_cases h1 : n < 2
    · have q1 : decide (n < 2) = true := decide_eq_true h1
      clear h9
      go_enter Try.func3, Try.ntmps3
      go_wp2_with (first
        | (go_at_call 6; refine k6.mono ?_; rintro e w0 ⟨rfl, b0⟩; have B0 := asd b0; clear b0)
        | (go_at_call 7; refine (KF.out _).mono ?_; rintro e wf ⟨rfl, bf⟩; have BF := asd (B0.out.trans (bf.mono B0.out.size)); clear bf)
        | (go_at_call 8; refine (K8.out _).mono ?_; rintro e w1 ⟨b, d1, rfl, D1, p1, b1⟩; have DD1 := asd D1; have P1 := asd p1; have B1 := asd (BF.out.trans (b1.mono BF.out.size)); have LE := asd BF.out.size; clear D1 p1 b1)
        | (go_at_call 9; refine (KW.out _ _ _ _ DD1.out).mono ?_; unfold DO; rw [P1.out, EW.out]; rintro e w2 ⟨rfl, d2, D2, p2, st2⟩; have DD2 := asd D2; have P2 := asd p2; have B2 := asd (DD1.out.bel B1.out LE.out st2); clear D2 p2 st2)
        | (go_at_call 10; refine (KR.out _ _ _ _ DD2.out).mono ?_; rw [P2.out, RD.out]; rintro e w3 ⟨rfl, b3⟩; have DD3 := asd (DD2.out.below b3); have B3 := asd (B2.out.trans (b3.mono B2.out.size)); clear b3)
        | (go_at_call 11; refine (KN.out _ _ _ _ DD3.out).mono ?_; rw [P2.out, NL.out]; rintro e w5 ⟨a5, c5, rfl, b5⟩; have B5 := asd (B3.out.trans (b5.mono B3.out.size)); clear b5))
      go_ret
      exact ⟨rfl, B5.out⟩
    · have q1 : decide (n < 2) = false := decide_eq_false h1
      have q2 : decide (99999 < n) = true := decide_eq_true (by omega)
      clear h9
      go_enter Try.func3, Try.ntmps3
      go_wp2_with (first
        | (go_at_call 6; refine k6.mono ?_; rintro e w0 ⟨rfl, b0⟩; have B0 := asd b0; clear b0)
        | (go_at_call 7; refine (KF.out _).mono ?_; rintro e wf ⟨rfl, bf⟩; have BF := asd (B0.out.trans (bf.mono B0.out.size)); clear bf)
        | (go_at_call 8; refine (K8.out _).mono ?_; rintro e w1 ⟨b, d1, rfl, D1, p1, b1⟩; have DD1 := asd D1; have P1 := asd p1; have B1 := asd (BF.out.trans (b1.mono BF.out.size)); have LE := asd BF.out.size; clear D1 p1 b1)
        | (go_at_call 9; refine (KW.out _ _ _ _ DD1.out).mono ?_; unfold DO; rw [P1.out, EW.out]; rintro e w2 ⟨rfl, d2, D2, p2, st2⟩; have DD2 := asd D2; have P2 := asd p2; have B2 := asd (DD1.out.bel B1.out LE.out st2); clear D2 p2 st2)
        | (go_at_call 10; refine (KR.out _ _ _ _ DD2.out).mono ?_; rw [P2.out, RD.out]; rintro e w3 ⟨rfl, b3⟩; have DD3 := asd (DD2.out.below b3); have B3 := asd (B2.out.trans (b3.mono B2.out.size)); clear b3)
        | (go_at_call 11; refine (KN.out _ _ _ _ DD3.out).mono ?_; rw [P2.out, NL.out]; rintro e w5 ⟨a5, c5, rfl, b5⟩; have B5 := asd (B3.out.trans (b5.mono B3.out.size)); clear b5))
      go_ret
      exact ⟨rfl, B5.out⟩
  | true =>
    have EW := asd (write_new (k := 99) hb (by decide) (by decide))
    have RD : Aside (mRd (oneF MF (fmS n) (fmS n).size [] 99) = (n, 0)) := by
      have h2 := Kn.write (kn_new 99) (ok_new 99) n
      rw [EW.out] at h2
      exact Kn.read h2.2 h2.1
    have R1 : Aside (opRead (oneF MF (fmS n) (fmS n).size [] 99) MF = (fmS n, 0)) := read_one _ _ _ _
    have LT : Aside ((oneF MF (fmS n) (fmS n).size [] 99).late = 0) := (rfl : (oneF MF (fmS n) (fmS n).size [] 99).late = 0)
    have K12 := asd (fun (B b : Nat) (d : Dk.Ds) (u : World) (h : Dsk B b d u) => dread h MF)
    have K14 := asd (fun (B b : Nat) (d : Dk.Ds) (u : World) (h : Dsk B b d u) => dwaits h)
    have h1 := hasB_iff.1 hb
    have q1 : decide (n < 2) = false := decide_eq_false (by omega)
    have q2 : decide (99999 < n) = false := decide_eq_false (by omega)
    have q3 : (n == n) = true := beq_self_eq_true _
    have q4 : ((fmS n).toList == (fmS n).toList) = true := beq_self_eq_true _
    rw [show (99 : Int).toNat = 99 from rfl] at EW
    clear hb h1
    generalize oneF MF (fmS n) (fmS n).size [] 99 = S1 at *
    generalize opRoom emptySt 99 = S0 at *
    generalize fmS n = F at *
    go_enter Try.func3, Try.ntmps3
    go_wp2_with (first
      | (go_at_call 6; refine k6.mono ?_; rintro e w0 ⟨rfl, b0⟩; have B0 := asd b0; clear b0)
      | (go_at_call 7; refine (KF.out _).mono ?_; rintro e wf ⟨rfl, bf⟩; have BF := asd (B0.out.trans (bf.mono B0.out.size)); clear bf)
      | (go_at_call 8; refine (K8.out _).mono ?_; rintro e w1 ⟨b, d1, rfl, D1, p1, b1⟩; have DD1 := asd D1; have P1 := asd p1; have B1 := asd (BF.out.trans (b1.mono BF.out.size)); have LE := asd BF.out.size; clear D1 p1 b1)
      | (go_at_call 9; refine (KW.out _ _ _ _ DD1.out).mono ?_; unfold DO; rw [P1.out, EW.out]; rintro e w2 ⟨rfl, d2, D2, p2, st2⟩; have DD2 := asd D2; have P2 := asd p2; have B2 := asd (DD1.out.bel B1.out LE.out st2); clear D2 p2 st2)
      | (go_at_call 10; refine (KR.out _ _ _ _ DD2.out).mono ?_; rw [P2.out, RD.out]; rintro e w3 ⟨rfl, b3⟩; have DD3 := asd (DD2.out.below b3); have B3 := asd (B2.out.trans (b3.mono B2.out.size)); clear b3)
      | (go_at_call 12; refine (K12.out _ _ _ _ DD3.out).mono ?_; rw [P2.out, R1.out]; rintro e w4 ⟨rfl, b4⟩; have DD4 := asd (DD3.out.below b4); have B4 := asd (B3.out.trans (b4.mono B3.out.size)); clear b4)
      | (go_at_call 13; refine (KG.out _).mono ?_; rintro e w5 ⟨rfl, b5⟩; have DD5 := asd (DD4.out.below b5); have B5 := asd (B4.out.trans (b5.mono B4.out.size)); clear b5)
      | (go_at_call 14; refine (K14.out _ _ _ _ DD5.out).mono ?_; rw [P2.out, LT.out]; rintro e w6 ⟨rfl, b6⟩; have B6 := asd (B5.out.trans (b6.mono B5.out.size)); clear b6))
    go_ret
    exact ⟨rfl, B6.out⟩
set_option maxHeartbeats 4000000 in
/-- ManifestReads' walk. -/
theorem reads_any (s : ByteArray) (w : World) : Calls Try.prog 4 #[.string s] w fun e w' => e = .returned (.bool true) ∧ Below w.heap.size w w' := by
  have k6 := awake_any w
  by_cases hs : 100 < s.size
  · have q1 : decide (100 < s.size) = true := decide_eq_true hs
    go_enter Try.func4, Try.ntmps4
    go_wp2_with (go_at_call 6; refine k6.mono ?_; rintro e w0 ⟨rfl, b0⟩)
    go_ret
    exact ⟨rfl, b0⟩
  · have q1 : decide (100 < s.size) = false := decide_eq_false hs
    obtain ⟨e1, e2⟩ := file_new s (by omega)
    have E1 := asd e1
    have E2 := asd e2
    have K8 := asd (fun (u : World) => dnew 999 u)
    have KA := asd (fun (B b : Nat) (d : Dk.Ds) (u : World) (h : Dsk B b d u) => dappend h MF s)
    have KR := asd (fun (B b : Nat) (d : Dk.Ds) (u : World) (h : Dsk B b d u) => dmread h)
    have KO := asd (fun (u : World) => refOf_any s u (by omega))
    have q2 : ((ofS s).1 == (ofS s).1) = true := beq_self_eq_true _
    have q3 : ((ofS s).2 == (ofS s).2) = true := beq_self_eq_true _
    clear e1 e2
    generalize ofS s = O at *
    go_enter Try.func4, Try.ntmps4
    go_wp2_with (first
      | (go_at_call 6; refine k6.mono ?_; rintro e w0 ⟨rfl, b0⟩; have B0 := asd b0; clear b0)
      | (go_at_call 8; refine (K8.out _).mono ?_; rintro e w1 ⟨b, d1, rfl, D1, p1, b1⟩; have DD1 := asd D1; have P1 := asd p1; have B1 := asd (B0.out.trans (b1.mono B0.out.size)); have LE := asd B0.out.size; clear D1 p1 b1)
      | (go_at_call 15; refine (KA.out _ _ _ _ DD1.out).mono ?_; unfold DO; rw [P1.out, E1.out]; rintro e w2 ⟨rfl, d2, D2, p2, st2⟩; have DD2 := asd D2; have P2 := asd p2; have B2 := asd (DD1.out.bel B1.out LE.out st2); clear D2 p2 st2)
      | (go_at_call 10; refine (KR.out _ _ _ _ DD2.out).mono ?_; rw [P2.out, E2.out]; rintro e w3 ⟨rfl, b3⟩; have B3 := asd (B2.out.trans (b3.mono B2.out.size)); clear b3)
      | (go_at_call 16; refine (KO.out _).mono ?_; rintro e w4 ⟨rfl, b4⟩; have B4 := asd (B3.out.trans (b4.mono B3.out.size)); clear b4))
    go_ret
    exact ⟨rfl, B4.out⟩
end Go.Proofs.Ytnmamaeoghgegaa
