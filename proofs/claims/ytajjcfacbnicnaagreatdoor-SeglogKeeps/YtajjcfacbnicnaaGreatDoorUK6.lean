/-
  A crash, and Open behind it.
-/
import Derived.Test.YtajjcfacbnicnaaGreatDoorUK5
import Derived.WalkKit
import Derived.WalkSpells
import Derived.WalkLawsBesides
import Derived.Deep.LoopGhost
import Derived.Laws.Externs
import Derived.Below
import Derived.BigQuiet
import Derived.Deep.RegionWith
import Derived.OwnWalk
import Derived.Maps.AppendAt
import Derived.WalkSmall
namespace Go.Proofs.YtajjcfacbnicnaaGreatDoor
open Go.RowKit
set_option maxRecDepth 100000
/-- What is there behind a crash: of the last segment a beginning. -/
structure Cr (s : Dk.St) (D : List Seg) (g : Seg) (k : Nat) : Prop where
  ok : Dk.Ok s
  names : ∀ t, t ∈ s.names ↔ ∃ i, i < D.length + 1 ∧ t = nmL ((i : Int) + 1)
  file : ∀ i (h : i < D.length), ∃ f ∈ s.files, f.name = nmL ((i : Int) + 1) ∧ f.bytes = Fm.Fr.mks D[i] ∧ f.sure = f.bytes.length
  last : ∃ f ∈ s.files, f.name = nmL ((D.length : Int) + 1) ∧ f.sure = f.bytes.length ∧ ∃ m, m ≤ (Fm.Fr.mks g).length ∧ f.bytes = (Fm.Fr.mks g).take m ∧ ∃ j, j ≤ g.length ∧ k ≤ D.flatten.length + j ∧ Fm.Fr.en g j ≤ m
  short : ∀ y ∈ D ++ [g], ∀ x ∈ y, x.length ≤ 2000
  cnt : s.files.length = D.length + 1
theorem Cr.few {s : Dk.St} {D : List Seg} {g : Seg} {k : Nat} (h : Cr s D g k) : D.length ≤ 15 := by
  have := h.ok.few
  have := h.cnt
  omega
theorem Cr.same {s s' : Dk.St} {D : List Seg} {g : Seg} {k : Nat} (h : Cr s D g k) (ok : Dk.Ok s') (e : s'.files = s.files) : Cr s' D g k := by
  refine ⟨ok, fun t => ?_, by rw [e]; exact h.file, by rw [e]; exact h.last, h.short, by rw [e]; exact h.cnt⟩
  rw [show s'.names = s.names by unfold Dk.St.names; rw [e]]
  exact h.names t
theorem crash_mem {s : Dk.St} (c : Int) {f : Dk.F} (hf : f ∈ s.files) : (⟨f.name, f.bytes.take (f.sure + Dk.cntOf s c f.name), f.sure + Dk.cntOf s c f.name⟩ : Dk.F) ∈ (Dk.opCrash s c).files := by
  rw [Dk.crash_files]
  exact List.mem_map.2 ⟨f, hf, rfl⟩
/-- A file that is sure is as before behind a crash. -/
theorem crash_sure {s : Dk.St} (ok : Dk.Ok s) (c : Int) {f : Dk.F} (hf : f ∈ s.files) (hs : f.sure = f.bytes.length) : f ∈ (Dk.opCrash s c).files := by
  have h1 := crash_mem c hf
  have h2 := Dk.crash_le ok c hf
  have e : f.sure + Dk.cntOf s c f.name = f.bytes.length := by omega
  rw [e, List.take_length, ← hs] at h1
  exact h1
theorem crash_len (s : Dk.St) (c : Int) : (Dk.opCrash s c).files.length = s.files.length := by
  rw [Dk.crash_files, List.length_map]
theorem Kp.crash {s : Dk.St} {D : List Seg} {g : Seg} {k : Nat} (h : Kp s (D ++ [g]) k) (c : Int) : Cr (Dk.opCrash s c) D g k := by
  have hlen : (D ++ [g]).length = D.length + 1 := by simp
  refine ⟨h.inv.ok.opCrash c, fun t => ?_, fun i hi => ?_, ?_, h.inv.short, by rw [crash_len, h.inv.cnt, hlen]⟩
  · rw [Dk.crash_names, h.inv.names, hlen]
  · obtain ⟨f, h1, h2, h3, h4⟩ := h.inv.file i (by omega)
    have hs := h4 (by omega)
    rw [List.getElem_append_left hi] at h3
    exact ⟨f, crash_sure h.inv.ok c h1 hs, h2, h3, hs⟩
  · obtain ⟨f, h1, h2, h3, _⟩ := h.inv.file D.length (by omega)
    rw [List.getElem_append_right (Nat.le_refl _)] at h3
    simp only [Nat.sub_self, List.getElem_cons_zero] at h3
    have hle := Dk.crash_le h.inv.ok c h1
    obtain ⟨j, k1, k2, k3⟩ := h.sure D g rfl
    have := k3 f h1 h2
    refine ⟨_, crash_mem c h1, h2, ?_, f.sure + Dk.cntOf s c f.name, by rw [← h3]; exact hle, by rw [h3], j, k1, k2, by omega⟩
    show f.sure + Dk.cntOf s c f.name = (f.bytes.take (f.sure + Dk.cntOf s c f.name)).length
    rw [List.length_take, Nat.min_eq_left hle]
theorem Cr.crash {s : Dk.St} {D : List Seg} {g : Seg} {k : Nat} (h : Cr s D g k) (c : Int) : Cr (Dk.opCrash s c) D g k := by
  refine ⟨h.ok.opCrash c, fun t => ?_, fun i hi => ?_, ?_, h.short, by rw [crash_len, h.cnt]⟩
  · rw [Dk.crash_names, h.names]
  · obtain ⟨f, h1, h2, h3, h4⟩ := h.file i hi
    exact ⟨f, crash_sure h.ok c h1 h4, h2, h3, h4⟩
  · obtain ⟨f, h1, h2, h3, h4⟩ := h.last
    exact ⟨f, crash_sure h.ok c h1 h3, h2, h3, h4⟩
theorem Kp.crash_none {s : Dk.St} {k : Nat} (h : Kp s [] k) (c : Int) : Kp (Dk.opCrash s c) [] k := by
  have h0 : s.files = [] := List.eq_nil_of_length_eq_zero h.inv.cnt
  refine h.same (h.inv.ok.opCrash c) ?_
  rw [Dk.crash_files, h0]
  rfl
theorem crash_power (s : Dk.St) (c : Int) : (Dk.opCrash s c).power = true ∧ (Dk.opCrash s c).down = false := ⟨rfl, rfl⟩
/-- What Cut leaves of the files. -/
theorem cut_files {s : Dk.St} (ok : Dk.Ok s) {n : ByteArray} (hp : s.power = true) {f : Dk.F} (hf : f ∈ s.files) (hn : f.name = n) {k : Nat} (hk : k ≤ f.bytes.length) :
    (Dk.opCut s n k).1 = 0 ∧ (∀ g ∈ s.files, g.name ≠ n → g ∈ (Dk.opCut s n k).2.files) ∧ (⟨n, f.bytes.take k, k⟩ : Dk.F) ∈ (Dk.opCut s n k).2.files ∧ (Dk.opCut s n k).2.files.length = s.files.length ∧ (Dk.opCut s n k).2.names = s.names := by
  obtain ⟨hh, hp0⟩ := file_at ok hf
  rw [hn] at hh hp0
  have hlen : s.len n = f.bytes.length := Dk.settle_len n hp0
  have he : Dk.opCut s n k = (0, { s.spent with files := s.files.set (Dk.place s.names n) ⟨f.name, f.bytes.take k, k⟩, pieces := Dk.keepOf f.name s.pieces }) := by
    unfold Dk.opCut
    rw [if_pos hp, if_pos hh, hlen, show (min (max (k : Int) 0) (f.bytes.length : Int)).toNat = k by omega]
    unfold Dk.St.settle
    rw [show s.spent.files = s.files from rfl, hp0]
    rfl
  rw [he]
  dsimp only
  obtain ⟨hi, hget⟩ := List.getElem?_eq_some_iff.1 hp0
  refine ⟨rfl, fun g hg hne => ?_, ?_, ?_, ?_⟩
  · obtain ⟨j, hj, rfl⟩ := List.getElem_of_mem hg
    have hji : Dk.place s.names n ≠ j := fun e => by
      subst e
      rw [hget] at hne
      exact hne hn
    exact List.mem_iff_getElem.2 ⟨j, by simpa using hj, by simp [hji]⟩
  · have h9 : (⟨n, f.bytes.take k, k⟩ : Dk.F) = ⟨f.name, f.bytes.take k, k⟩ := by rw [hn]
    rw [h9]
    exact List.mem_iff_getElem.2 ⟨Dk.place s.names n, by simpa using hi, by simp⟩
  · show (s.files.set _ _).length = _
    rw [List.length_set]
  · show (s.files.set _ _).map Dk.F.name = s.files.map Dk.F.name
    rw [List.map_set]
    refine List.ext_getElem (by simp) fun j h1 h2 => ?_
    rw [List.getElem_set]
    split
    · rename_i hj
      subst hj
      rw [List.getElem_map, hget]
    · rfl
/-- The greatest number of frames that end within so many bytes. -/
theorem frames_in (l : Seg) (m : Nat) : ∀ n, n ≤ l.length → ∃ j, j ≤ n ∧ Fm.Fr.en l j ≤ m ∧ (j < n → m < Fm.Fr.en l (j + 1))
  | 0, _ => ⟨0, Nat.le_refl _, by rw [Fm.Fr.en_zero]; exact Nat.zero_le _, fun h => absurd h (Nat.lt_irrefl _)⟩
  | n + 1, hn => by
    obtain ⟨j, h1, h2, h3⟩ := frames_in l m n (by omega)
    by_cases hj : j < n
    · exact ⟨j, by omega, h2, fun _ => h3 hj⟩
    · obtain rfl : j = n := by omega
      by_cases h4 : Fm.Fr.en l (j + 1) ≤ m
      · exact ⟨j + 1, Nat.le_refl _, h4, fun h => absurd h (Nat.lt_irrefl _)⟩
      · exact ⟨j, by omega, h2, fun _ => by omega⟩
theorem en_mono (l : Seg) : ∀ a n, n ≤ l.length → a ≤ n → Fm.Fr.en l a ≤ Fm.Fr.en l n
  | a, 0, _, h => by
    obtain rfl : a = 0 := by omega
    exact Nat.le_refl _
  | a, n + 1, hn, h => by
    by_cases h1 : a = n + 1
    · rw [h1]
      exact Nat.le_refl _
    · have h2 := en_mono l a n (by omega) (by omega)
      rw [Fm.Fr.en_succ l n (by omega)]
      omega
theorem Cr.row {s : Dk.St} {D : List Seg} {g : Seg} {k : Nat} (h : Cr s D g k) : nums s.names 1 = row (D.length + 1) := by
  have hfew := h.few
  refine rise_mem_eq ((all_lt h.ok.rising.nodup).sublist List.filter_sublist) (row_lt _) fun n => ?_
  rw [nums_mem, row_mem, h.names]
  constructor
  · rintro ⟨h1, _, h3, j, hj, e⟩
    have := nmL_inj e h1 h3
    omega
  · rintro ⟨h1, h2⟩
    exact ⟨h1, h1, by omega, (n - 1).toNat, by omega, by rw [show (((n - 1).toNat : Nat) : Int) + 1 = n by omega]⟩
theorem row_ok (k : Nat) : rowB 1 (row k) = true := by
  rw [rowB_iff]
  intro j hj
  simp only [row, List.getElem_map, List.getElem_range]
  omega
theorem map_flatten_app (D : List Seg) (l : Seg) : (D.flatten ++ l).map Fm.bs = D.flatten.map Fm.bs ++ l.map Fm.bs := List.map_append
theorem row_succ (k : Nat) : row (k + 1) = row k ++ [(k : Int) + 1] := by
  unfold row
  rw [List.range_succ, List.map_append]
  rfl
/-- The whole segments are read. -/
theorem recs_whole {s : Dk.St} {D : List Seg} {g : Seg} {k : Nat} (h : Cr s D g k) : ∀ t, t ≤ D.length → recs s (row (D.length + 1)) [] = recs s ((row (D.length + 1)).drop t) ((D.take t).flatten.map Fm.bs)
  | 0, _ => by simp
  | t + 1, ht => by
    rw [recs_whole h t (by omega)]
    have hlt : t < (row (D.length + 1)).length := by rw [row_len]; omega
    rw [List.drop_eq_getElem_cons hlt]
    have e : (row (D.length + 1))[t] = (t : Int) + 1 := by simp [row]
    obtain ⟨f, k1, k2, k3, _⟩ := h.file t (by omega)
    have hsp : spl s ((t : Int) + 1) = (D[t], (Fm.Fr.mks D[t]).length, 0) := by
      unfold spl
      rw [(tx_of h.ok k1 k2).1, k3, Fm.bs_list, Fm.Fr.split_mks _ (h.short _ (List.mem_append_left _ (List.getElem_mem _)))]
    rw [e, recs_go (by rw [hsp]), hsp]
    congr 1
    rw [← List.map_append]
    congr 1
    rw [List.take_succ_eq_append_getElem (by omega), List.flatten_append]
    simp
/-- Open behind a crash. -/
theorem open_crash {s : Dk.St} {D : List Seg} {g : Seg} {k : Nat} (h : Cr s D g k) :
    (∃ j, j ≤ g.length ∧ k ≤ D.flatten.length + j ∧ (lOpen s 1).1 = .ok ((D.flatten ++ g.take j).map Fm.bs) ∧ Kp (lOpen s 1).2 (D ++ [g.take j]) (D.flatten.length + j)) ∨
      ((lOpen s 1).1 = .error 12 ∧ s.power = false ∧ Cr (lOpen s 1).2 D g k) := by
  obtain ⟨f, h1, h2, h3, m, h4, h5, j0, h6, h7, h8⟩ := h.last
  have hrow := h.row
  have hfew := h.few
  obtain ⟨j, j1, j2, j3⟩ := frames_in g m g.length (Nat.le_refl _)
  have hj0 : j0 ≤ j := by
    refine Nat.le_of_not_lt fun hlt => ?_
    have := j3 (by omega)
    have := en_mono g (j + 1) j0 h6 (by omega)
    omega
  have hlen : f.bytes.length = m := by rw [h5, List.length_take]; omega
  have hsp : spl s ((D.length : Int) + 1) = (g.take j, Fm.Fr.en g j, if Fm.Fr.en g j = m then 0 else 3) := by
    unfold spl
    rw [(tx_of h.ok h1 h2).1, h5, Fm.bs_list]
    exact Fm.Fr.split_cut g (h.short g (by simp)) m j j1 j2 (fun hh => j3 hh) h4
  have hR : recs s (row (D.length + 1)) [] = recs s [(D.length : Int) + 1] (D.flatten.map Fm.bs) := by
    rw [recs_whole h D.length (Nat.le_refl _), List.take_length, row_succ, List.drop_append_of_le_length (by rw [row_len]; exact Nat.le_refl _)]
    rw [List.drop_eq_nil_of_le (by rw [row_len]; exact Nat.le_refl _), List.nil_append]
  have hO : lOpen s 1 = if (recs s [(D.length : Int) + 1] (D.flatten.map Fm.bs)).2.1 = 0 then (.ok (recs s [(D.length : Int) + 1] (D.flatten.map Fm.bs)).1, (recs s [(D.length : Int) + 1] (D.flatten.map Fm.bs)).2.2) else (.error (recs s [(D.length : Int) + 1] (D.flatten.map Fm.bs)).2.1, (recs s [(D.length : Int) + 1] (D.flatten.map Fm.bs)).2.2) := by
    unfold lOpen
    rw [if_neg (fun hh => nmL_empty.1 hh ⟨by omega, by omega⟩), hrow, row_ok, if_neg (by decide), hR]
  have hgj : ∀ y ∈ D ++ [g.take j], ∀ x ∈ y, x.length ≤ 2000 := fun y hy x hx => by
    rcases List.mem_append.1 hy with hy | hy
    · exact h.short y (List.mem_append_left _ hy) x hx
    · rw [List.mem_singleton.1 hy] at hx
      exact h.short g (by simp) x (List.mem_of_mem_take hx)
  have hkk : k ≤ D.flatten.length + j := by omega
  -- what stands in the end
  have KEY : ∀ s' : Dk.St, Dk.Ok s' → s'.names = s.names → s'.files.length = s.files.length → (∀ y ∈ s.files, y.name ≠ nmL ((D.length : Int) + 1) → y ∈ s'.files) → (⟨nmL ((D.length : Int) + 1), Fm.Fr.mks (g.take j), Fm.Fr.en g j⟩ : Dk.F) ∈ s'.files → Kp s' (D ++ [g.take j]) (D.flatten.length + j) := by
    intro s' ok' hn' hl' hk' hf'
    have hl2 : (D ++ [g.take j]).length = D.length + 1 := by simp
    refine ⟨⟨ok', fun t => by rw [hn', hl2]; exact h.names t, fun i hi => ?_, hgj, by rw [hl', h.cnt, hl2]⟩, fun e => by simp at e, fun D' g' e => ?_⟩
    · rw [hl2] at hi
      by_cases hiD : i < D.length
      · obtain ⟨y, y1, y2, y3, y4⟩ := h.file i hiD
        refine ⟨y, hk' y y1 (fun e => ?_), y2, by rw [List.getElem_append_left hiD]; exact y3, fun _ => y4⟩
        have := nmL_inj (y2.symm.trans e) (by omega) (by omega)
        omega
      · obtain rfl : i = D.length := by omega
        refine ⟨_, hf', rfl, ?_, fun hh => by rw [hl2] at hh; omega⟩
        rw [List.getElem_append_right (Nat.le_refl _)]
        simp
    · obtain ⟨rfl, rfl⟩ := snoc_inj e
      refine ⟨j, by rw [List.length_take]; omega, Nat.le_refl _, fun y hy hyn => ?_⟩
      rw [file_uniq ok'.rising.nodup hy hf' hyn]
      unfold Fm.Fr.en
      rw [List.take_take, Nat.min_self]
      exact Nat.le_refl _
  by_cases hz : Fm.Fr.en g j = m
  · refine .inl ⟨j, j1, hkk, ?_⟩
    rw [if_pos hz] at hsp
    rw [hO, recs_go (by rw [hsp]), hsp]
    unfold recs
    rw [if_pos rfl]
    refine ⟨by rw [map_flatten_app], KEY s h.ok rfl rfl (fun y hy _ => hy) ?_⟩
    have e1 : f = ⟨nmL ((D.length : Int) + 1), Fm.Fr.mks (g.take j), Fm.Fr.en g j⟩ := by
      have e2 : f.bytes = Fm.Fr.mks (g.take j) := by
        rw [h5, ← hz]
        have := Fm.Fr.mks_app (g.take j) (g.drop j)
        rw [List.take_append_drop] at this
        rw [this]
        unfold Fm.Fr.en
        rw [List.take_append_of_le_length (Nat.le_refl _), List.take_length]
      cases f
      simp only at h2 e2 h3 hlen
      subst h2 e2
      rw [h3, hlen, hz]
    rw [← e1]
    exact h1
  · rw [if_neg hz] at hsp
    cases hp : s.power with
    | false =>
      refine .inr ⟨?_, rfl, ?_⟩
      · have hc : Dk.opCut s (nmL ((D.length : Int) + 1)) (spl s ((D.length : Int) + 1)).2.1 = (12, s.spent) := by
          unfold Dk.opCut
          rw [hp]
          rfl
        rw [hO, recs_dead (by rw [hsp]) (by rw [hc]; show (12 : Int) ≠ 0; decide), hc]
        rfl
      · have hc : Dk.opCut s (nmL ((D.length : Int) + 1)) (spl s ((D.length : Int) + 1)).2.1 = (12, s.spent) := by
          unfold Dk.opCut
          rw [hp]
          rfl
        rw [hO, recs_dead (by rw [hsp]) (by rw [hc]; show (12 : Int) ≠ 0; decide), hc]
        exact h.same h.ok.spent rfl
    | true =>
      refine .inl ⟨j, j1, hkk, ?_⟩
      obtain ⟨c1, c2, c3, c4, c5⟩ := cut_files h.ok hp h1 h2 (k := Fm.Fr.en g j) (by omega)
      have hc : Dk.opCut s (nmL ((D.length : Int) + 1)) (spl s ((D.length : Int) + 1)).2.1 = Dk.opCut s (nmL ((D.length : Int) + 1)) (Fm.Fr.en g j) := by rw [hsp]
      rw [hO, recs_cut (by rw [hsp]) (by rw [hc]; exact c1), hc, hsp]
      rw [if_pos rfl]
      refine ⟨by rw [map_flatten_app], KEY _ (h.ok.opCut _ _) c5 c4 c2 ?_⟩
      have e2 : f.bytes.take (Fm.Fr.en g j) = Fm.Fr.mks (g.take j) := by
        rw [h5, List.take_take, Nat.min_eq_left j2]
        have := Fm.Fr.mks_app (g.take j) (g.drop j)
        rw [List.take_append_drop] at this
        rw [this]
        unfold Fm.Fr.en
        rw [List.take_append_of_le_length (Nat.le_refl _), List.take_length]
      rw [e2] at c3
      exact c3
/-- Open of a disk that has no segment. -/
theorem open_none {s : Dk.St} {k : Nat} (h : Kp s [] k) : lOpen s 1 = (.ok [], s) := by
  unfold lOpen
  rw [if_neg (fun hh => nmL_empty.1 hh ⟨by omega, by omega⟩), h.inv.nums]
  rfl
end Go.Proofs.YtajjcfacbnicnaaGreatDoor
