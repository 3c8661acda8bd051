/-
  What a disk may be stays so, whatever is done.
-/
import Derived.Test.YtblhkhgcaheplaaGreatDoorDX13
import Derived.Test.YtblhkhgcaheplaaGreatDoorDX8
namespace Go.Proofs.YtblhkhgcaheplaaGreatDoor.Dk
open Go.RowKit
set_option maxRecDepth 100000

theorem wait_keep (n m : ByteArray) (l : List Pc) : wait n (keepOf m l) = if cmp n m = 0 then 0 else wait n l := by
  induction l with
  | nil => simp [keepOf, wait_nil]
  | cons p r ih =>
    unfold keepOf at ih ⊢
    by_cases h : cmp p.name m = 0
    · have e : isOf m p = true := by simp [isOf, h]
      rw [List.filter_cons_of_neg (by simp [e]), ih, wait_cons]
      by_cases h2 : cmp n m = 0
      · rw [if_pos h2, if_pos h2]
      · rw [if_neg h2, if_neg h2, if_neg (fun e => h2 (by rw [← cmp_zero.1 e]; exact h)), Nat.zero_add]
    · have e : isOf m p = false := by simp [isOf, h]
      rw [List.filter_cons_of_pos (by simp [e]), wait_cons, ih, wait_cons]
      by_cases h2 : cmp n m = 0
      · rw [if_pos h2, if_pos h2, if_neg (fun e => h (by rw [cmp_zero.1 e]; exact h2))]
      · rw [if_neg h2, if_neg h2]

theorem wait_pos' {n : ByteArray} {p : Pc} {l : List Pc} (h : p.name = n) : wait n (p :: l) = p.size + wait n l := by rw [wait_cons, if_pos (by rw [h]; exact cmp_self n)]

theorem wait_out {n : ByteArray} {l : List Pc} (h : ∀ p ∈ l, ¬ p.name = n) : wait n l = 0 := by
  induction l with
  | nil => rfl
  | cons p r ih =>
    rw [wait_cons, if_neg (fun e => h p List.mem_cons_self (cmp_zero.1 e)), ih fun q hq => h q (List.mem_cons_of_mem _ hq)]

theorem keep_mem {m : ByteArray} {l : List Pc} {p : Pc} (h : p ∈ keepOf m l) : p ∈ l ∧ ¬ p.name = m := by
  unfold keepOf at h
  rw [List.mem_filter] at h
  refine ⟨h.1, fun e => ?_⟩
  have := h.2
  simp [isOf, e, cmp_self] at this

theorem sum_sub : ∀ {l m : List Nat}, l.Sublist m → l.sum ≤ m.sum
  | _, _, .slnil => Nat.le_refl _
  | _, _, .cons a h => by rw [List.sum_cons]; have := sum_sub h; omega
  | _, _, .cons_cons a h => by rw [List.sum_cons, List.sum_cons]; have := sum_sub h; omega

def totalF (l : List F) : Nat := (l.map fun f => f.bytes.length).sum
theorem total_eq (s : St) : s.total = totalF s.files := rfl
theorem totalF_mid (A C : List F) (f : F) : totalF (A ++ f :: C) = totalF (A ++ C) + f.bytes.length := by simp [totalF]; omega

theorem names_set {l : List F} {i : Nat} {f g : F} (hf : l[i]? = some f) (hn : g.name = f.name) : (l.set i g).map F.name = l.map F.name := by
  obtain ⟨A, C, e1, e2, _⟩ := split_at hf g
  rw [e2, e1]
  simp [hn]

theorem mem_set_ne {l : List F} (hn : (l.map F.name).Nodup) {i : Nat} {f g : F} (hf : l[i]? = some f) {x : F} (hx : x ∈ l.set i g) : x = g ∨ (x ∈ l ∧ ¬ x.name = f.name) := by
  obtain ⟨A, C, e1, e2, _⟩ := split_at hf g
  rw [e2] at hx
  rw [e1, List.map_append, List.map_cons] at hn
  obtain ⟨_, h2, h3⟩ := List.nodup_append.1 hn
  have h4 := (List.nodup_cons.1 h2).1
  rcases List.mem_append.1 hx with hx | hx
  · refine .inr ⟨by rw [e1]; exact List.mem_append_left _ hx, fun e => ?_⟩
    exact h3 x.name (List.mem_map.2 ⟨x, hx, rfl⟩) f.name List.mem_cons_self e
  · rcases List.mem_cons.1 hx with hx | hx
    · exact .inl hx
    · refine .inr ⟨by rw [e1]; exact List.mem_append_right _ (List.mem_cons_of_mem _ hx), fun e => ?_⟩
      exact h4 (List.mem_map.2 ⟨x, hx, e⟩)

theorem mem_erase_ne {l : List F} (hn : (l.map F.name).Nodup) {i : Nat} {f : F} (hf : l[i]? = some f) {x : F} : x ∈ l.eraseIdx i ↔ (x ∈ l ∧ ¬ x.name = f.name) := by
  obtain ⟨A, C, e1, _, hA⟩ := split_at hf f
  have e2 : l.eraseIdx i = A ++ C := by
    rw [e1, List.eraseIdx_append_of_length_le (by omega), hA, Nat.sub_self]
    rfl
  rw [e2]
  rw [e1, List.map_append, List.map_cons] at hn
  obtain ⟨_, h2, h3⟩ := List.nodup_append.1 hn
  have h4 := (List.nodup_cons.1 h2).1
  rw [e1]
  constructor
  · intro hx
    rcases List.mem_append.1 hx with hx | hx
    · exact ⟨List.mem_append_left _ hx, fun e => h3 x.name (List.mem_map.2 ⟨x, hx, rfl⟩) f.name List.mem_cons_self e⟩
    · exact ⟨List.mem_append_right _ (List.mem_cons_of_mem _ hx), fun e => h4 (List.mem_map.2 ⟨x, hx, e⟩)⟩
  · rintro ⟨hx, hne⟩
    rcases List.mem_append.1 hx with hx | hx
    · exact List.mem_append_left _ hx
    · rcases List.mem_cons.1 hx with hx | hx
      · exact absurd (by rw [hx]) hne
      · exact List.mem_append_right _ hx

theorem Ok.settle {s : St} (h : Ok s) {i k : Nat} {f : F} (hf : s.files[i]? = some f) (hk : k ≤ f.bytes.length) : Ok (s.settle i k) := by
  have hn := h.rising.nodup
  have hm := List.mem_of_getElem? hf
  unfold St.settle
  rw [hf]
  have en : St.names { s with files := s.files.set i ⟨f.name, f.bytes.take k, k⟩, pieces := keepOf f.name s.pieces } = s.names := names_set hf rfl
  refine ⟨by rw [en]; exact h.rising, by simpa using h.few, h.room, h.fuse, ?_, fun p hp => h.sizes p (keep_mem hp).1, ?_, fun p hp => by rw [en]; exact h.named p (keep_mem hp).1⟩
  · obtain ⟨A, C, e1, e2, _⟩ := split_at hf (⟨f.name, f.bytes.take k, k⟩ : F)
    have hu := h.used
    rw [total_eq] at hu ⊢
    simp only
    rw [e1, totalF_mid] at hu
    rw [e2, totalF_mid, List.length_take]
    omega
  · intro x hx
    rcases mem_set_ne hn hf hx with rfl | ⟨hx, hne⟩
    · simp only
      rw [wait_keep, if_pos (cmp_self _), List.length_take]
      omega
    · simp only
      rw [wait_keep, if_neg (fun e => hne (cmp_zero.1 e))]
      exact h.waits x hx

theorem Ok.drop {s : St} (h : Ok s) {i : Nat} {f : F} (hf : s.files[i]? = some f) : Ok (s.drop i) := by
  have hn := h.rising.nodup
  have hi : i < s.files.length := (List.getElem?_eq_some_iff.1 hf).1
  unfold St.drop
  rw [hf]
  have hsub : (s.files.eraseIdx i).Sublist s.files := List.eraseIdx_sublist _ _
  refine ⟨Rising.sub (hsub.map _) h.rising, by simp only; have := h.few; have := hsub.length_le; omega, h.room, h.fuse, ?_, fun p hp => h.sizes p (keep_mem hp).1, ?_, ?_⟩
  · have hu := h.used
    rw [total_eq] at hu ⊢
    simp only
    unfold totalF at hu ⊢
    have := sum_sub (hsub.map fun f : F => f.bytes.length)
    omega
  · intro x hx
    obtain ⟨hx, hne⟩ := (mem_erase_ne hn hf).1 hx
    simp only
    rw [wait_keep, if_neg (fun e => hne (cmp_zero.1 e))]
    exact h.waits x hx
  · intro p hp
    obtain ⟨hp, hne⟩ := keep_mem hp
    obtain ⟨x, hx, e⟩ := List.mem_map.1 (h.named p hp)
    exact List.mem_map.2 ⟨x, (mem_erase_ne hn hf).2 ⟨hx, fun e2 => hne (e.symm.trans e2)⟩, e⟩

theorem names_mid (l : List F) (i : Nat) (f : F) : (l.take i ++ f :: l.drop i).map F.name = (l.map F.name).take i ++ f.name :: (l.map F.name).drop i := by simp

theorem Ok.putAt {s : St} (h : Ok s) {f : F} (hn : f.name ∉ s.names) (hl : s.files.length < 16) (hs : f.sure = f.bytes.length) (hu : s.total + f.bytes.length ≤ 60000) : Ok (s.putAt (place s.names f.name) f) := by
  have hmem : ∀ x, x ∈ s.files.take (place s.names f.name) ++ f :: s.files.drop (place s.names f.name) ↔ x = f ∨ x ∈ s.files := fun x => by
    constructor
    · intro hx
      rcases List.mem_append.1 hx with hx | hx
      · exact .inr (List.mem_of_mem_take hx)
      · rcases List.mem_cons.1 hx with hx | hx
        · exact .inl hx
        · exact .inr (List.mem_of_mem_drop hx)
    · rintro (rfl | hx)
      · exact List.mem_append_right _ List.mem_cons_self
      · rw [← List.take_append_drop (place s.names f.name) s.files] at hx
        rcases List.mem_append.1 hx with hx | hx
        · exact List.mem_append_left _ hx
        · exact List.mem_append_right _ (List.mem_cons_of_mem _ hx)
  unfold St.putAt
  refine ⟨?_, ?_, h.room, h.fuse, ?_, h.sizes, ?_, ?_⟩
  · show Rising ((s.files.take (place s.names f.name) ++ f :: s.files.drop (place s.names f.name)).map F.name)
    rw [names_mid]
    exact Rising.insert h.rising f.name hn
  · simp only [List.length_append, List.length_cons, List.length_take, List.length_drop]
    omega
  · rw [total_eq] at hu ⊢
    simp only
    rw [totalF_mid, List.take_append_drop]
    exact hu
  · intro x hx
    rcases (hmem x).1 hx with rfl | hx
    · simp only
      rw [wait_out (n := x.name) (fun p hp e => hn (by rw [← e]; exact h.named p hp)), hs]
      rfl
    · exact h.waits x hx
  · intro p hp
    obtain ⟨x, hx, e⟩ := List.mem_map.1 (h.named p hp)
    exact List.mem_map.2 ⟨x, (hmem x).2 (.inr hx), e⟩

theorem Ok.more {s : St} (h : Ok s) {i : Nat} {f : F} {n x : ByteArray} (hf : s.files[i]? = some f) (hfn : f.name = n) (hx : x.size ≠ 0) (hu : s.total + x.size ≤ 60000) : Ok (s.more i n x) := by
  have hn := h.rising.nodup
  have hxs : x.data.toList.length = x.size := by rw [Array.length_toList]; rfl
  unfold St.more
  rw [hf]
  have en : St.names { s with files := s.files.set i ⟨f.name, f.bytes ++ x.data.toList, f.sure⟩, pieces := s.pieces ++ [⟨n, x.size⟩] } = s.names := names_set hf rfl
  refine ⟨by rw [en]; exact h.rising, by simpa using h.few, h.room, h.fuse, ?_, ?_, ?_, ?_⟩
  · obtain ⟨A, C, e1, e2, _⟩ := split_at hf (⟨f.name, f.bytes ++ x.data.toList, f.sure⟩ : F)
    rw [total_eq] at hu ⊢
    simp only
    rw [e1, totalF_mid] at hu
    rw [e2, totalF_mid, List.length_append, hxs]
    omega
  · intro p hp
    rcases List.mem_append.1 hp with hp | hp
    · exact h.sizes p hp
    · rw [List.mem_singleton.1 hp]
      show 0 < x.size
      omega
  · intro y hy
    rcases mem_set_ne hn hf hy with rfl | ⟨hy, hne⟩
    · simp only
      have := h.waits f (List.mem_of_getElem? hf)
      rw [wait_app, wait_pos' hfn.symm, wait_nil, List.length_append, hxs]
      simp only
      omega
    · simp only
      rw [wait_app, wait_out (l := [⟨n, x.size⟩]) (fun p hp e => hne (by rw [List.mem_singleton.1 hp] at e; rw [hfn]; exact e.symm))]
      exact h.waits y hy
  · intro p hp
    rw [en]
    rcases List.mem_append.1 hp with hp | hp
    · exact h.named p hp
    · rw [List.mem_singleton.1 hp]
      show n ∈ s.names
      rw [← hfn]
      exact List.mem_map.2 ⟨f, List.mem_of_getElem? hf, rfl⟩

theorem settle_len {s : St} (n : ByteArray) {f : F} (hf : s.files[place s.names n]? = some f) : s.len n = f.bytes.length := by
  unfold St.len
  rw [hf]

theorem Ok.opSync {s : St} (h : Ok s) (n : ByteArray) : Ok (opSync s n).2 := by
  unfold YtblhkhgcaheplaaGreatDoor.Dk.opSync
  cases s.power with
  | false => exact h.spent
  | true =>
    cases hh : has s.names n with
    | false => exact h.spent
    | true =>
      obtain ⟨f, hf, hfn, hfm⟩ := has_get h.rising hh
      exact h.spent.settle (f := f) hf (by rw [settle_len n hf]; exact Nat.le_refl _)
theorem Ok.opCut {s : St} (h : Ok s) (n : ByteArray) (k : Int) : Ok (opCut s n k).2 := by
  unfold YtblhkhgcaheplaaGreatDoor.Dk.opCut
  cases s.power with
  | false => exact h.spent
  | true =>
    cases hh : has s.names n with
    | false => exact h.spent
    | true =>
      obtain ⟨f, hf, hfn, hfm⟩ := has_get h.rising hh
      exact h.spent.settle (f := f) hf (by rw [settle_len n hf]; omega)
theorem Ok.opRemove {s : St} (h : Ok s) (n : ByteArray) : Ok (opRemove s n).2 := by
  unfold YtblhkhgcaheplaaGreatDoor.Dk.opRemove
  cases s.power with
  | false => exact h.spent
  | true =>
    cases hh : has s.names n with
    | false => exact h.spent
    | true =>
      obtain ⟨f, hf, hfn, hfm⟩ := has_get h.rising hh
      exact h.spent.drop (f := f) hf

theorem Ok.make {s : St} (h : Ok s) (n : ByteArray) (hl : has s.names n = false → s.files.length < 16) : Ok (s.make n) ∧ (s.make n).total = s.total ∧ ∃ f, (s.make n).files[place s.names n]? = some f ∧ f.name = n := by
  unfold St.make
  cases hh : has s.names n with
  | true =>
    obtain ⟨f, hf, hfn, hfm⟩ := has_get h.rising hh
    exact ⟨h, rfl, f, hf, hfn⟩
  | false =>
    refine ⟨h.putAt (f := ⟨n, [], 0⟩) (has_not.1 hh) (hl hh) rfl (by simpa using h.used), ?_, ⟨n, [], 0⟩, ?_, rfl⟩
    · show totalF (s.files.take _ ++ _ :: s.files.drop _) = totalF s.files
      rw [totalF_mid, List.take_append_drop]
      rfl
    · have hp := place_le s.names n
      have e : s.names.length = s.files.length := by simp [St.names]
      show (s.files.take (place s.names n) ++ _ :: s.files.drop (place s.names n))[place s.names n]? = _
      rw [List.getElem?_append_right (by rw [List.length_take]; omega), List.length_take, Nat.min_eq_left (by omega), Nat.sub_self]
      rfl

theorem Ok.opAppend {s : St} (h : Ok s) (n x : ByteArray) : Ok (opAppend s n x).2 := by
  unfold YtblhkhgcaheplaaGreatDoor.Dk.opAppend
  cases s.power with
  | false => exact h.spent
  | true =>
    cases mayBe n with
    | false => exact h.spent
    | true =>
      cases hf : s.full n x with
      | true => exact h.spent
      | false =>
        unfold St.full at hf
        simp only [Bool.or_eq_false_iff, Bool.and_eq_false_iff, decide_eq_false_iff_not, Bool.not_eq_false'] at hf
        have hfew := h.few
        have hr := h.room
        obtain ⟨a, b, f, hf1, hf2⟩ := h.spent.make n (fun hh => by
          have hh' : has s.names n = false := hh
          have := hf.1
          rw [hh'] at this
          show s.files.length < 16
          rcases this with e | e
          · cases e
          · omega)
        simp only [if_true, Bool.false_eq_true, if_false]
        split
        · exact a
        · rename_i hx
          refine a.more (f := f) hf1 hf2 hx ?_
          rw [b]
          show s.total + x.size ≤ 60000
          omega
end Go.Proofs.YtblhkhgcaheplaaGreatDoor.Dk
