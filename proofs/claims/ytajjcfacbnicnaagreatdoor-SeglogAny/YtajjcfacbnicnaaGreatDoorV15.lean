/-
  YtajjcfacbnicnaaGreatDoor: the texts DM3, DM4, DE1, DE2, one behind the other.
-/
import Derived.Test.YtajjcfacbnicnaaGreatDoorV6
import Derived.Test.YtajjcfacbnicnaaGreatDoorV4
import Derived.Test.YtajjcfacbnicnaaGreatDoorV13
import Derived.Test.YtajjcfacbnicnaaGreatDoorV14
/-
  What a disk may be stays so, whatever is done.
-/
namespace Go.Proofs.YtajjcfacbnicnaaGreatDoor.Dk
open Go.RowKit
set_option maxRecDepth 100000

theorem wait_keep (n m : ByteArray) (l : List Pc) : wait n (keepOf m l) = if cmp n m = 0 then 0 else wait n l := by
  induction l with
  | nil => simp [keepOf, wait_nil]
  | cons p r ih =>
    unfold keepOf at ih ⊢
    by_cases h : cmp p.name m = 0
    · have e : isOf m p = true := by simp [isOf, h]
      rw [List.filter_cons_of_neg (by simp [e]), ih, wait_cons]
      by_cases h2 : cmp n m = 0
      · rw [if_pos h2, if_pos h2]
      · rw [if_neg h2, if_neg h2, if_neg (fun e => h2 (by rw [← cmp_zero.1 e]; exact h)), Nat.zero_add]
    · have e : isOf m p = false := by simp [isOf, h]
      rw [List.filter_cons_of_pos (by simp [e]), wait_cons, ih, wait_cons]
      by_cases h2 : cmp n m = 0
      · rw [if_pos h2, if_pos h2, if_neg (fun e => h (by rw [cmp_zero.1 e]; exact h2))]
      · rw [if_neg h2, if_neg h2]

theorem wait_pos' {n : ByteArray} {p : Pc} {l : List Pc} (h : p.name = n) : wait n (p :: l) = p.size + wait n l := by rw [wait_cons, if_pos (by rw [h]; exact cmp_self n)]

theorem wait_out {n : ByteArray} {l : List Pc} (h : ∀ p ∈ l, ¬ p.name = n) : wait n l = 0 := by
  induction l with
  | nil => rfl
  | cons p r ih =>
    rw [wait_cons, if_neg (fun e => h p List.mem_cons_self (cmp_zero.1 e)), ih fun q hq => h q (List.mem_cons_of_mem _ hq)]

theorem keep_mem {m : ByteArray} {l : List Pc} {p : Pc} (h : p ∈ keepOf m l) : p ∈ l ∧ ¬ p.name = m := by
  unfold keepOf at h
  rw [List.mem_filter] at h
  refine ⟨h.1, fun e => ?_⟩
  have := h.2
  simp [isOf, e, cmp_self] at this

theorem sum_sub : ∀ {l m : List Nat}, l.Sublist m → l.sum ≤ m.sum
  | _, _, .slnil => Nat.le_refl _
  | _, _, .cons a h => by rw [List.sum_cons]; have := sum_sub h; omega
  | _, _, .cons_cons a h => by rw [List.sum_cons, List.sum_cons]; have := sum_sub h; omega

def totalF (l : List F) : Nat := (l.map fun f => f.bytes.length).sum
theorem total_eq (s : St) : s.total = totalF s.files := rfl
theorem totalF_mid (A C : List F) (f : F) : totalF (A ++ f :: C) = totalF (A ++ C) + f.bytes.length := by simp [totalF]; omega

theorem names_set {l : List F} {i : Nat} {f g : F} (hf : l[i]? = some f) (hn : g.name = f.name) : (l.set i g).map F.name = l.map F.name := by
  obtain ⟨A, C, e1, e2, _⟩ := split_at hf g
  rw [e2, e1]
  simp [hn]

theorem mem_set_ne {l : List F} (hn : (l.map F.name).Nodup) {i : Nat} {f g : F} (hf : l[i]? = some f) {x : F} (hx : x ∈ l.set i g) : x = g ∨ (x ∈ l ∧ ¬ x.name = f.name) := by
  obtain ⟨A, C, e1, e2, _⟩ := split_at hf g
  rw [e2] at hx
  rw [e1, List.map_append, List.map_cons] at hn
  obtain ⟨_, h2, h3⟩ := List.nodup_append.1 hn
  have h4 := (List.nodup_cons.1 h2).1
  rcases List.mem_append.1 hx with hx | hx
  · refine .inr ⟨by rw [e1]; exact List.mem_append_left _ hx, fun e => ?_⟩
    exact h3 x.name (List.mem_map.2 ⟨x, hx, rfl⟩) f.name List.mem_cons_self e
  · rcases List.mem_cons.1 hx with hx | hx
    · exact .inl hx
    · refine .inr ⟨by rw [e1]; exact List.mem_append_right _ (List.mem_cons_of_mem _ hx), fun e => ?_⟩
      exact h4 (List.mem_map.2 ⟨x, hx, e⟩)

theorem mem_erase_ne {l : List F} (hn : (l.map F.name).Nodup) {i : Nat} {f : F} (hf : l[i]? = some f) {x : F} : x ∈ l.eraseIdx i ↔ (x ∈ l ∧ ¬ x.name = f.name) := by
  obtain ⟨A, C, e1, _, hA⟩ := split_at hf f
  have e2 : l.eraseIdx i = A ++ C := by
    rw [e1, List.eraseIdx_append_of_length_le (by omega), hA, Nat.sub_self]
    rfl
  rw [e2]
  rw [e1, List.map_append, List.map_cons] at hn
  obtain ⟨_, h2, h3⟩ := List.nodup_append.1 hn
  have h4 := (List.nodup_cons.1 h2).1
  rw [e1]
  constructor
  · intro hx
    rcases List.mem_append.1 hx with hx | hx
    · exact ⟨List.mem_append_left _ hx, fun e => h3 x.name (List.mem_map.2 ⟨x, hx, rfl⟩) f.name List.mem_cons_self e⟩
    · exact ⟨List.mem_append_right _ (List.mem_cons_of_mem _ hx), fun e => h4 (List.mem_map.2 ⟨x, hx, e⟩)⟩
  · rintro ⟨hx, hne⟩
    rcases List.mem_append.1 hx with hx | hx
    · exact List.mem_append_left _ hx
    · rcases List.mem_cons.1 hx with hx | hx
      · exact absurd (by rw [hx]) hne
      · exact List.mem_append_right _ hx

theorem Ok.settle {s : St} (h : Ok s) {i k : Nat} {f : F} (hf : s.files[i]? = some f) (hk : k ≤ f.bytes.length) : Ok (s.settle i k) := by
  have hn := h.rising.nodup
  have hm := List.mem_of_getElem? hf
  unfold St.settle
  rw [hf]
  have en : St.names { s with files := s.files.set i ⟨f.name, f.bytes.take k, k⟩, pieces := keepOf f.name s.pieces } = s.names := names_set hf rfl
  refine ⟨by rw [en]; exact h.rising, by simpa using h.few, h.room, h.fuse, ?_, fun p hp => h.sizes p (keep_mem hp).1, ?_, fun p hp => by rw [en]; exact h.named p (keep_mem hp).1⟩
  · obtain ⟨A, C, e1, e2, _⟩ := split_at hf (⟨f.name, f.bytes.take k, k⟩ : F)
    have hu := h.used
    rw [total_eq] at hu ⊢
    simp only
    rw [e1, totalF_mid] at hu
    rw [e2, totalF_mid, List.length_take]
    omega
  · intro x hx
    rcases mem_set_ne hn hf hx with rfl | ⟨hx, hne⟩
    · simp only
      rw [wait_keep, if_pos (cmp_self _), List.length_take]
      omega
    · simp only
      rw [wait_keep, if_neg (fun e => hne (cmp_zero.1 e))]
      exact h.waits x hx

theorem Ok.drop {s : St} (h : Ok s) {i : Nat} {f : F} (hf : s.files[i]? = some f) : Ok (s.drop i) := by
  have hn := h.rising.nodup
  have hi : i < s.files.length := (List.getElem?_eq_some_iff.1 hf).1
  unfold St.drop
  rw [hf]
  have hsub : (s.files.eraseIdx i).Sublist s.files := List.eraseIdx_sublist _ _
  refine ⟨Rising.sub (hsub.map _) h.rising, by simp only; have := h.few; have := hsub.length_le; omega, h.room, h.fuse, ?_, fun p hp => h.sizes p (keep_mem hp).1, ?_, ?_⟩
  · have hu := h.used
    rw [total_eq] at hu ⊢
    simp only
    unfold totalF at hu ⊢
    have := sum_sub (hsub.map fun f : F => f.bytes.length)
    omega
  · intro x hx
    obtain ⟨hx, hne⟩ := (mem_erase_ne hn hf).1 hx
    simp only
    rw [wait_keep, if_neg (fun e => hne (cmp_zero.1 e))]
    exact h.waits x hx
  · intro p hp
    obtain ⟨hp, hne⟩ := keep_mem hp
    obtain ⟨x, hx, e⟩ := List.mem_map.1 (h.named p hp)
    exact List.mem_map.2 ⟨x, (mem_erase_ne hn hf).2 ⟨hx, fun e2 => hne (e.symm.trans e2)⟩, e⟩

theorem names_mid (l : List F) (i : Nat) (f : F) : (l.take i ++ f :: l.drop i).map F.name = (l.map F.name).take i ++ f.name :: (l.map F.name).drop i := by simp

theorem Ok.putAt {s : St} (h : Ok s) {f : F} (hn : f.name ∉ s.names) (hl : s.files.length < 16) (hs : f.sure = f.bytes.length) (hu : s.total + f.bytes.length ≤ 60000) : Ok (s.putAt (place s.names f.name) f) := by
  have hmem : ∀ x, x ∈ s.files.take (place s.names f.name) ++ f :: s.files.drop (place s.names f.name) ↔ x = f ∨ x ∈ s.files := fun x => by
    constructor
    · intro hx
      rcases List.mem_append.1 hx with hx | hx
      · exact .inr (List.mem_of_mem_take hx)
      · rcases List.mem_cons.1 hx with hx | hx
        · exact .inl hx
        · exact .inr (List.mem_of_mem_drop hx)
    · rintro (rfl | hx)
      · exact List.mem_append_right _ List.mem_cons_self
      · rw [← List.take_append_drop (place s.names f.name) s.files] at hx
        rcases List.mem_append.1 hx with hx | hx
        · exact List.mem_append_left _ hx
        · exact List.mem_append_right _ (List.mem_cons_of_mem _ hx)
  unfold St.putAt
  refine ⟨?_, ?_, h.room, h.fuse, ?_, h.sizes, ?_, ?_⟩
  · show Rising ((s.files.take (place s.names f.name) ++ f :: s.files.drop (place s.names f.name)).map F.name)
    rw [names_mid]
    exact Rising.insert h.rising f.name hn
  · simp only [List.length_append, List.length_cons, List.length_take, List.length_drop]
    omega
  · rw [total_eq] at hu ⊢
    simp only
    rw [totalF_mid, List.take_append_drop]
    exact hu
  · intro x hx
    rcases (hmem x).1 hx with rfl | hx
    · simp only
      rw [wait_out (n := x.name) (fun p hp e => hn (by rw [← e]; exact h.named p hp)), hs]
      rfl
    · exact h.waits x hx
  · intro p hp
    obtain ⟨x, hx, e⟩ := List.mem_map.1 (h.named p hp)
    exact List.mem_map.2 ⟨x, (hmem x).2 (.inr hx), e⟩

theorem Ok.more {s : St} (h : Ok s) {i : Nat} {f : F} {n x : ByteArray} (hf : s.files[i]? = some f) (hfn : f.name = n) (hx : x.size ≠ 0) (hu : s.total + x.size ≤ 60000) : Ok (s.more i n x) := by
  have hn := h.rising.nodup
  have hxs : x.data.toList.length = x.size := by rw [Array.length_toList]; rfl
  unfold St.more
  rw [hf]
  have en : St.names { s with files := s.files.set i ⟨f.name, f.bytes ++ x.data.toList, f.sure⟩, pieces := s.pieces ++ [⟨n, x.size⟩] } = s.names := names_set hf rfl
  refine ⟨by rw [en]; exact h.rising, by simpa using h.few, h.room, h.fuse, ?_, ?_, ?_, ?_⟩
  · obtain ⟨A, C, e1, e2, _⟩ := split_at hf (⟨f.name, f.bytes ++ x.data.toList, f.sure⟩ : F)
    rw [total_eq] at hu ⊢
    simp only
    rw [e1, totalF_mid] at hu
    rw [e2, totalF_mid, List.length_append, hxs]
    omega
  · intro p hp
    rcases List.mem_append.1 hp with hp | hp
    · exact h.sizes p hp
    · rw [List.mem_singleton.1 hp]
      show 0 < x.size
      omega
  · intro y hy
    rcases mem_set_ne hn hf hy with rfl | ⟨hy, hne⟩
    · simp only
      have := h.waits f (List.mem_of_getElem? hf)
      rw [wait_app, wait_pos' hfn.symm, wait_nil, List.length_append, hxs]
      simp only
      omega
    · simp only
      rw [wait_app, wait_out (l := [⟨n, x.size⟩]) (fun p hp e => hne (by rw [List.mem_singleton.1 hp] at e; rw [hfn]; exact e.symm))]
      exact h.waits y hy
  · intro p hp
    rw [en]
    rcases List.mem_append.1 hp with hp | hp
    · exact h.named p hp
    · rw [List.mem_singleton.1 hp]
      show n ∈ s.names
      rw [← hfn]
      exact List.mem_map.2 ⟨f, List.mem_of_getElem? hf, rfl⟩

theorem settle_len {s : St} (n : ByteArray) {f : F} (hf : s.files[place s.names n]? = some f) : s.len n = f.bytes.length := by
  unfold St.len
  rw [hf]

theorem Ok.opSync {s : St} (h : Ok s) (n : ByteArray) : Ok (opSync s n).2 := by
  unfold YtajjcfacbnicnaaGreatDoor.Dk.opSync
  cases s.power with
  | false => exact h.spent
  | true =>
    cases hh : has s.names n with
    | false => exact h.spent
    | true =>
      obtain ⟨f, hf, hfn, hfm⟩ := has_get h.rising hh
      exact h.spent.settle (f := f) hf (by rw [settle_len n hf]; exact Nat.le_refl _)
theorem Ok.opCut {s : St} (h : Ok s) (n : ByteArray) (k : Int) : Ok (opCut s n k).2 := by
  unfold YtajjcfacbnicnaaGreatDoor.Dk.opCut
  cases s.power with
  | false => exact h.spent
  | true =>
    cases hh : has s.names n with
    | false => exact h.spent
    | true =>
      obtain ⟨f, hf, hfn, hfm⟩ := has_get h.rising hh
      exact h.spent.settle (f := f) hf (by rw [settle_len n hf]; omega)
theorem Ok.opRemove {s : St} (h : Ok s) (n : ByteArray) : Ok (opRemove s n).2 := by
  unfold YtajjcfacbnicnaaGreatDoor.Dk.opRemove
  cases s.power with
  | false => exact h.spent
  | true =>
    cases hh : has s.names n with
    | false => exact h.spent
    | true =>
      obtain ⟨f, hf, hfn, hfm⟩ := has_get h.rising hh
      exact h.spent.drop (f := f) hf

theorem Ok.make {s : St} (h : Ok s) (n : ByteArray) (hl : has s.names n = false → s.files.length < 16) : Ok (s.make n) ∧ (s.make n).total = s.total ∧ ∃ f, (s.make n).files[place s.names n]? = some f ∧ f.name = n := by
  unfold St.make
  cases hh : has s.names n with
  | true =>
    obtain ⟨f, hf, hfn, hfm⟩ := has_get h.rising hh
    exact ⟨h, rfl, f, hf, hfn⟩
  | false =>
    refine ⟨h.putAt (f := ⟨n, [], 0⟩) (has_not.1 hh) (hl hh) rfl (by simpa using h.used), ?_, ⟨n, [], 0⟩, ?_, rfl⟩
    · show totalF (s.files.take _ ++ _ :: s.files.drop _) = totalF s.files
      rw [totalF_mid, List.take_append_drop]
      rfl
    · have hp := place_le s.names n
      have e : s.names.length = s.files.length := by simp [St.names]
      show (s.files.take (place s.names n) ++ _ :: s.files.drop (place s.names n))[place s.names n]? = _
      rw [List.getElem?_append_right (by rw [List.length_take]; omega), List.length_take, Nat.min_eq_left (by omega), Nat.sub_self]
      rfl

theorem Ok.opAppend {s : St} (h : Ok s) (n x : ByteArray) : Ok (opAppend s n x).2 := by
  unfold YtajjcfacbnicnaaGreatDoor.Dk.opAppend
  cases s.power with
  | false => exact h.spent
  | true =>
    cases mayBe n with
    | false => exact h.spent
    | true =>
      cases hf : s.full n x with
      | true => exact h.spent
      | false =>
        unfold St.full at hf
        simp only [Bool.or_eq_false_iff, Bool.and_eq_false_iff, decide_eq_false_iff_not, Bool.not_eq_false'] at hf
        have hfew := h.few
        have hr := h.room
        obtain ⟨a, b, f, hf1, hf2⟩ := h.spent.make n (fun hh => by
          have hh' : has s.names n = false := hh
          have := hf.1
          rw [hh'] at this
          show s.files.length < 16
          rcases this with e | e
          · cases e
          · omega)
        simp only [if_true, Bool.false_eq_true, if_false]
        split
        · exact a
        · rename_i hx
          refine a.more (f := f) hf1 hf2 hx ?_
          rw [b]
          show s.total + x.size ≤ 60000
          omega
end Go.Proofs.YtajjcfacbnicnaaGreatDoor.Dk

/-
  What a disk may be stays so behind a crash, behind Rename, and with turned bits.
-/
namespace Go.Proofs.YtajjcfacbnicnaaGreatDoor.Dk
open Go.RowKit
set_option maxRecDepth 100000

theorem surer_names (l : List F) (n : ByteArray) (k : Nat) : (surer l n k).map F.name = l.map F.name := by
  unfold surer
  rw [List.map_map]
  refine List.map_congr_left fun f _ => ?_
  show F.name (if _ then _ else _) = _
  split <;> rfl
theorem surer_bytes (l : List F) (n : ByteArray) (k : Nat) : (surer l n k).map F.bytes = l.map F.bytes := by
  unfold surer
  rw [List.map_map]
  refine List.map_congr_left fun f _ => ?_
  show F.bytes (if _ then _ else _) = _
  split <;> rfl
theorem mem_surer {l : List F} {n : ByteArray} {m : Nat} {x : F} (h : x ∈ surer l n m) : ∃ f ∈ l, x = if cmp f.name n = 0 then ⟨f.name, f.bytes, f.sure + m⟩ else f := by
  obtain ⟨f, hf, e⟩ := List.mem_map.1 h
  exact ⟨f, hf, e.symm⟩

theorem lasts_keep : ∀ (ps : List Pc) (l : List F) (left : Nat), (∀ f ∈ l, f.sure + wait f.name ps ≤ f.bytes.length) → (lasts l ps left).map F.name = l.map F.name ∧ (lasts l ps left).map F.bytes = l.map F.bytes ∧ ∀ f ∈ lasts l ps left, f.sure ≤ f.bytes.length
  | [], l, left, h => ⟨rfl, rfl, fun f hf => by have := h f hf; omega⟩
  | p :: r, l, left, h => by
    have ih := lasts_keep r (surer l p.name (min p.size left)) (left - min p.size left) (fun x hx => by
      obtain ⟨y, hy, e⟩ := mem_surer hx
      have := h y hy
      by_cases hc : cmp y.name p.name = 0
      · rw [if_pos hc] at e
        rw [wait_pos (cmp_zero.1 hc).symm] at this
        rw [e]
        show y.sure + min p.size left + wait y.name _ ≤ y.bytes.length
        omega
      · rw [if_neg hc] at e
        rw [wait_neg (fun e => hc (by rw [e]; exact cmp_self _))] at this
        rw [e]
        exact this)
    exact ⟨ih.1.trans (surer_names _ _ _), ih.2.1.trans (surer_bytes _ _ _), ih.2.2⟩

theorem Ok.opCrash {s : St} (h : Ok s) (last : Int) : Ok (opCrash s last) := by
  have hk := lasts_keep s.pieces s.files last.toNat (fun f hf => Nat.le_of_eq (h.waits f hf))
  unfold YtajjcfacbnicnaaGreatDoor.Dk.opCrash
  generalize lasts s.files s.pieces last.toNat = L at hk
  obtain ⟨h1, h2, h3⟩ := hk
  have hlen : L.length = s.files.length := by have := congrArg List.length h1; simpa using this
  have en : St.names ⟨cutAll L, [], s.room, false, 0, false⟩ = s.names := by
    show (cutAll L).map F.name = _
    unfold cutAll
    rw [List.map_map]
    exact h1
  refine ⟨by rw [en]; exact h.rising, ?_, h.room, Nat.zero_le _, ?_, fun p hp => by simp at hp, ?_, fun p hp => by simp at hp⟩
  · show (cutAll L).length ≤ 16
    unfold cutAll
    rw [List.length_map, hlen]
    exact h.few
  · have hu := h.used
    rw [total_eq] at hu ⊢
    refine Nat.le_trans ?_ hu
    have e : totalF L = totalF s.files := by
      unfold totalF
      have := congrArg (fun l => (l.map List.length).sum) h2
      simpa [List.map_map, Function.comp_def] using this
    rw [← e]
    show totalF (cutAll L) ≤ totalF L
    unfold totalF cutAll
    rw [List.map_map]
    refine sum_le_map _ _ _ fun f _ => ?_
    show (f.bytes.take f.sure).length ≤ f.bytes.length
    rw [List.length_take]
    omega
  · intro f hf
    obtain ⟨y, hy, rfl⟩ := List.mem_map.1 hf
    have := h3 y hy
    show y.sure + wait _ [] = (y.bytes.take y.sure).length
    rw [wait_nil, List.length_take]
    omega

theorem drop_total {s : St} {i : Nat} {f : F} (hf : s.files[i]? = some f) : (s.drop i).total + f.bytes.length = s.total ∧ (s.drop i).files.length + 1 = s.files.length := by
  have hi : i < s.files.length := (List.getElem?_eq_some_iff.1 hf).1
  unfold St.drop
  rw [hf]
  obtain ⟨A, C, e1, _, hA⟩ := split_at hf f
  have e2 : s.files.eraseIdx i = A ++ C := by
    rw [e1, List.eraseIdx_append_of_length_le (by omega), hA, Nat.sub_self]
    rfl
  refine ⟨?_, ?_⟩
  · rw [total_eq, total_eq]
    simp only
    rw [e2, e1, totalF_mid]
  · simp only
    rw [List.length_eraseIdx_of_lt hi]
    omega

theorem drop_out {s : St} (hn : s.names.Nodup) {i : Nat} {f : F} (hf : s.files[i]? = some f) : f.name ∉ (s.drop i).names := by
  unfold St.drop
  rw [hf]
  intro hm
  obtain ⟨x, hx, e⟩ := List.mem_map.1 hm
  exact ((mem_erase_ne hn hf).1 hx).2 e

theorem Ok.free1 {s : St} (h : Ok s) (t : ByteArray) : Ok (s.free1 t) ∧ t ∉ (s.free1 t).names ∧ (s.free1 t).total ≤ s.total ∧ (s.free1 t).files.length ≤ s.files.length ∧ place (s.free1 t).names t = place s.names t := by
  unfold St.free1
  cases hh : has s.names t with
  | false => exact ⟨h, has_not.1 hh, Nat.le_refl _, Nat.le_refl _, rfl⟩
  | true =>
    obtain ⟨f, hf, hfn, hfm⟩ := has_get h.rising hh
    have ht := drop_total hf
    have hd := h.drop hf
    simp only [if_true]
    refine ⟨hd, fun hm => drop_out h.rising.nodup hf (by rw [hfn]; exact hm), by omega, by omega, ?_⟩
    have hi : place s.names t < s.files.length := (List.getElem?_eq_some_iff.1 hf).1
    have e : (s.drop (place s.names t)).names = s.names.eraseIdx (place s.names t) := by
      unfold St.drop St.names
      rw [show s.files[place (s.files.map F.name) t]? = some f from hf]
      simp only [List.eraseIdx_eq_take_drop_succ, List.map_append, List.map_take, List.map_drop]
    rw [e]
    unfold place
    have hg : s.names[s.names.countP fun x => decide (cmp x t < 0)]? = some t := by
      have := (place_mem h.rising t).1 (has_iff.1 hh)
      have h2 := getbang s.names (place s.names t) this.1
      rw [this.2] at h2
      exact h2
    obtain ⟨A, C, e1, _, hA⟩ := split_at hg t
    generalize hp : (s.names.countP fun x => decide (cmp x t < 0)) = P at *
    rw [e1, List.eraseIdx_append_of_length_le (by omega), hA, Nat.sub_self]
    show (A ++ C).countP _ = P
    rw [← hp, e1]
    simp [List.countP_append, cmp_self]

theorem Ok.opRename {s : St} (h : Ok s) (n t : ByteArray) : Ok (opRename s n t).2 := by
  unfold YtajjcfacbnicnaaGreatDoor.Dk.opRename
  cases s.power with
  | false => exact h.spent
  | true =>
    cases mayBe t with
    | false => exact h.spent
    | true =>
      simp only [if_true]
      cases hh : has s.names n with
      | false => cases s.files[place s.names n]? <;> exact h.spent
      | true =>
        obtain ⟨f, hf, hfn, hfm⟩ := has_get h.rising hh
        rw [hf]
        simp only
        by_cases hlt : f.sure < f.bytes.length
        · rw [if_pos hlt]
          exact h.spent
        · rw [if_neg hlt]
          by_cases hc : cmp n t = 0
          · rw [if_pos hc]
            exact h.spent
          · rw [if_neg hc]
            have hs := h.sure hfm
            have hd := h.spent.drop (f := f) hf
            have hdt := drop_total (s := s.spent) hf
            obtain ⟨a, b, c, d, e⟩ := hd.free1 t
            have hu := h.used
            have hfew := h.few
            have e1 : s.spent.total = s.total := rfl
            have e2 : s.spent.files.length = s.files.length := rfl
            rw [← e]
            exact a.putAt (f := ⟨t, f.bytes, f.sure⟩) b (by omega) (by simp only; omega) (by simp only; omega)

theorem Ok.opRot {s : St} (h : Ok s) (file at_ by_ : Int) : Ok (opRot s file at_ by_).2 := by
  unfold YtajjcfacbnicnaaGreatDoor.Dk.opRot
  split
  · split
    · rename_i f hf
      split
      · simp only
        have en : ∀ g : F, g.name = f.name → St.names { s with files := s.files.set file.toNat g } = s.names := fun g hg => names_set hf hg
        refine ⟨by rw [en (⟨f.name, f.bytes.set at_.toNat (f.bytes[at_.toNat]! ^^^ UInt8.ofNat (by_ % 256).toNat), f.sure⟩ : F) rfl]; exact h.rising, by simpa using h.few, h.room, h.fuse, ?_, h.sizes, ?_, fun p hp => by rw [en (⟨f.name, f.bytes.set at_.toNat (f.bytes[at_.toNat]! ^^^ UInt8.ofNat (by_ % 256).toNat), f.sure⟩ : F) rfl]; exact h.named p hp⟩
        · obtain ⟨A, C, e1, e2, _⟩ := split_at hf (⟨f.name, f.bytes.set at_.toNat (f.bytes[at_.toNat]! ^^^ UInt8.ofNat (by_ % 256).toNat), f.sure⟩ : F)
          have hu := h.used
          rw [total_eq] at hu ⊢
          simp only
          rw [e1, totalF_mid] at hu
          rw [e2, totalF_mid, List.length_set]
          exact hu
        · intro x hx
          rcases mem_set_ne h.rising.nodup hf hx with rfl | ⟨hx, _⟩
          · simp only
            rw [List.length_set]
            exact h.waits f (List.mem_of_getElem? hf)
          · exact h.waits x hx
      · exact h
    · exact h
  · exact h
end Go.Proofs.YtajjcfacbnicnaaGreatDoor.Dk

/-
  The program's disk and the document's, side by side: what is alike, and that each call keeps it.
-/
namespace Go.Proofs.YtajjcfacbnicnaaGreatDoor.Dk
open Go.RowKit
set_option maxRecDepth 100000

/-- Places, and the names of the files that they are of, in the order in which they came. -/
abbrev Tape := List (Nat × ByteArray)
def plc (T : Tape) (n : ByteArray) : List Nat := (T.filter fun x => decide (cmp x.2 n = 0)).map Prod.fst
def outT (T : Tape) (n : ByteArray) : Tape := T.filter fun x => !decide (cmp x.2 n = 0)
def toG (T : Tape) (f : F) : G := ⟨f.name, f.bytes, List.replicate f.sure 0 ++ plc T f.name⟩
def flat (ps : List Pc) : List ByteArray := ps.flatMap fun p => List.replicate p.size p.name

structure Rel (s : St) (r : RS) (T : Tape) : Prop where
  files : r.files = s.files.map (toG T)
  names : T.map Prod.snd = flat s.pieces
  rise : (T.map Prod.fst).Pairwise (· < ·)
  pos : ∀ x ∈ T, 0 < x.1 ∧ x.1 ≤ r.count
  most : r.most = s.room
  left : r.left = if s.fused then (s.fuse : Int) else -1
  down : r.down = s.down
  fell : s.down = true → s.fused = true ∧ s.fuse = 0

theorem Rel.nm {s : St} {r : RS} {T : Tape} (h : Rel s r T) : r.names = s.names := by
  unfold RS.names St.names
  rw [h.files, List.map_map]
  rfl
theorem Rel.get {s : St} {r : RS} {T : Tape} (h : Rel s r T) {i : Nat} {f : F} (hf : s.files[i]? = some f) : r.files[i]? = some (toG T f) := by
  rw [h.files, List.getElem?_map, hf]
  rfl
theorem Rel.power {s : St} {r : RS} {T : Tape} (h : Rel s r T) : r.power = s.power := by
  unfold RS.power St.power
  rw [h.down, h.left]
  congr 2
  cases s.fused with
  | false => simp
  | true => by_cases h0 : s.fuse = 0 <;> simp [h0]
theorem Rel.spent {s : St} {r : RS} {T : Tape} (h : Rel s r T) : Rel s.spent r.spent T := by
  have hp := h.power
  refine ⟨h.files, h.names, h.rise, h.pos, h.most, ?_, ?_, ?_⟩
  · show (if 0 < r.left then r.left - 1 else r.left) = if s.fused then ((if s.power && s.fused then s.fuse - 1 else s.fuse : Nat) : Int) else -1
    rw [h.left]
    cases hf : s.fused with
    | false => simp
    | true =>
      simp only [if_true, Bool.and_true]
      cases hq : s.power with
      | true =>
        have : s.fuse ≠ 0 := fun e => by unfold St.power at hq; rw [hf, e] at hq; simp at hq
        simp only [if_true]
        rw [if_pos (by omega)]
        omega
      | false =>
        have : s.fuse = 0 := by
          unfold St.power at hq
          rw [hf] at hq
          cases hd : s.down with
          | true => exact (h.fell hd).2
          | false => rw [hd] at hq; simpa using hq
        simp [this]
  · show (!r.power) = !s.power
    rw [hp]
  · intro hd
    have hq : s.power = false := by have : (!s.power) = true := hd; simpa using this
    have hfs : s.fused = true ∧ s.fuse = 0 := by
      cases hd' : s.down with
      | true => exact h.fell hd'
      | false =>
        unfold St.power at hq
        rw [hd'] at hq
        simpa using hq
    refine ⟨hfs.1, ?_⟩
    show (if s.power && s.fused then s.fuse - 1 else s.fuse) = 0
    rw [hq]
    simpa using hfs.2

theorem plc_out {T : Tape} {n m : ByteArray} : plc (outT T n) m = if cmp m n = 0 then [] else plc T m := by
  unfold plc outT
  rw [List.filter_filter]
  split
  · rename_i h
    have e := cmp_zero.1 h
    subst e
    have : T.filter (fun x => decide (cmp x.2 m = 0) && !decide (cmp x.2 m = 0)) = [] := by
      rw [List.filter_eq_nil_iff]
      intro x _
      simp
    rw [this]
    rfl
  · rename_i h
    congr 1
    apply List.filter_congr
    intro x _
    by_cases e : cmp x.2 m = 0
    · have e' := cmp_zero.1 e
      rw [e']
      simp [h]
    · simp [e]

theorem flat_keep (n : ByteArray) : ∀ ps : List Pc, flat (keepOf n ps) = (flat ps).filter fun x => !decide (cmp x n = 0)
  | [] => rfl
  | p :: r => by
    have ih := flat_keep n r
    unfold keepOf isOf at ih ⊢
    unfold flat at ih ⊢
    simp only [List.flatMap_cons, List.filter_append]
    by_cases h : cmp p.name n = 0
    · have e1 : (p :: r).filter (fun p => !decide (cmp p.name n = 0)) = r.filter fun p => !decide (cmp p.name n = 0) := by simp [h]
      have e2 : (List.replicate p.size p.name).filter (fun x => !decide (cmp x n = 0)) = [] := by
        rw [List.filter_eq_nil_iff]
        intro x hx
        rw [List.eq_of_mem_replicate hx]
        simp [h]
      rw [e1, e2, List.nil_append]
      exact ih
    · have e1 : (p :: r).filter (fun p => !decide (cmp p.name n = 0)) = p :: r.filter fun p => !decide (cmp p.name n = 0) := by simp [h]
      have e2 : (List.replicate p.size p.name).filter (fun x => !decide (cmp x n = 0)) = List.replicate p.size p.name := by
        rw [List.filter_eq_self]
        intro x hx
        rw [List.eq_of_mem_replicate hx]
        simp [h]
      rw [e1, e2, List.flatMap_cons, ih]

theorem out_names {T : Tape} {ps : List Pc} (h : T.map Prod.snd = flat ps) (n : ByteArray) : (outT T n).map Prod.snd = flat (keepOf n ps) := by
  rw [flat_keep, ← h]
  unfold outT
  rw [List.filter_map]
  rfl
theorem out_rise {T : Tape} (h : (T.map Prod.fst).Pairwise (· < ·)) (n : ByteArray) : ((outT T n).map Prod.fst).Pairwise (· < ·) := h.sublist (List.filter_sublist.map _)
theorem out_pos {T : Tape} {k : Nat} (h : ∀ x ∈ T, 0 < x.1 ∧ x.1 ≤ k) (n : ByteArray) : ∀ x ∈ outT T n, 0 < x.1 ∧ x.1 ≤ k := fun x hx => h x ((List.mem_filter.1 hx).1)

theorem toG_out {T : Tape} {f : F} {n : ByteArray} (h : ¬ f.name = n) : toG (outT T n) f = toG T f := by
  unfold toG
  rw [plc_out, if_neg (fun e => h (cmp_zero.1 e))]

theorem getElem_name {l : List F} (hn : (l.map F.name).Nodup) {i j : Nat} {f x : F} (hf : l[i]? = some f) (hx : l[j]? = some x) (hij : i ≠ j) : ¬ x.name = f.name := fun e => by
  have h1 : (l.map F.name)[i]? = some f.name := by rw [List.getElem?_map, hf]; rfl
  have h2 : (l.map F.name)[j]? = some f.name := by rw [List.getElem?_map, hx, ← e]; rfl
  obtain ⟨a, _⟩ := List.getElem?_eq_some_iff.1 h1
  exact hij ((List.getElem?_inj a hn).1 (h1.trans h2.symm))

theorem map_set {l : List F} (hn : (l.map F.name).Nodup) {i : Nat} {f f' : F} (hf : l[i]? = some f) (T : Tape) {y : G} (hy : toG (outT T f.name) f' = y) : (l.map (toG T)).set i y = (l.set i f').map (toG (outT T f.name)) := by
  have hi : i < l.length := (List.getElem?_eq_some_iff.1 hf).1
  apply List.ext_getElem?
  intro j
  rw [List.getElem?_set, List.getElem?_map, List.getElem?_map, List.getElem?_set]
  by_cases e : i = j
  · rw [if_pos e, if_pos e, if_pos (by simpa using hi), if_pos hi, ← hy]
    rfl
  · rw [if_neg e, if_neg e]
    cases hx : l[j]? with
    | none => rfl
    | some x =>
      show some _ = some _
      rw [toG_out (getElem_name hn hf hx e)]

theorem map_erase {l : List F} (hn : (l.map F.name).Nodup) {i : Nat} {f : F} (hf : l[i]? = some f) (T : Tape) : (l.map (toG T)).eraseIdx i = (l.eraseIdx i).map (toG (outT T f.name)) := by
  rw [List.eraseIdx_eq_take_drop_succ, ← List.map_take, ← List.map_drop, ← List.map_append, ← List.eraseIdx_eq_take_drop_succ]
  apply List.map_congr_left
  intro x hx
  rw [toG_out ((mem_erase_ne hn hf).1 hx).2]

theorem Rel.settle {s : St} {r : RS} {T : Tape} (h : Rel s r T) (hn : s.names.Nodup) {i k : Nat} {f : F} (hf : s.files[i]? = some f) : Rel (s.settle i k) (r.setAt i fun g => ⟨g.name, g.bytes.take k, List.replicate k 0⟩) (outT T f.name) := by
  unfold St.settle RS.setAt
  rw [hf, h.get hf]
  refine ⟨?_, out_names h.names f.name, out_rise h.rise _, out_pos h.pos _, h.most, h.left, h.down, h.fell⟩
  simp only
  rw [h.files]
  refine map_set hn hf T ?_
  unfold toG
  rw [plc_out, if_pos (cmp_self _), List.append_nil]

theorem Rel.drop {s : St} {r : RS} {T : Tape} (h : Rel s r T) (hn : s.names.Nodup) {i : Nat} {f : F} (hf : s.files[i]? = some f) : Rel (s.drop i) (r.dropAt i) (outT T f.name) := by
  unfold St.drop RS.dropAt
  rw [hf]
  refine ⟨?_, out_names h.names f.name, out_rise h.rise _, out_pos h.pos _, h.most, h.left, h.down, h.fell⟩
  simp only
  rw [h.files]
  exact map_erase hn hf T

/-- So many places as bytes that wait. -/
theorem flat_count (n : ByteArray) : ∀ ps : List Pc, (flat ps).countP (fun x => decide (cmp x n = 0)) = wait n ps
  | [] => rfl
  | p :: r => by
    unfold flat
    rw [List.flatMap_cons, List.countP_append, wait_cons]
    have ih := flat_count n r
    unfold flat at ih
    rw [ih]
    congr 1
    rw [List.countP_replicate]
    by_cases h : cmp p.name n = 0 <;> simp [h]
theorem plc_length (T : Tape) (n : ByteArray) : (plc T n).length = (T.map Prod.snd).countP fun x => decide (cmp x n = 0) := by
  unfold plc
  rw [List.length_map, List.countP_map, List.countP_eq_length_filter]
  rfl
theorem Rel.plc_len {s : St} {r : RS} {T : Tape} (h : Rel s r T) (n : ByteArray) : (plc T n).length = wait n s.pieces := by rw [plc_length, h.names, flat_count]

theorem plc_pos {T : Tape} {k : Nat} (h : ∀ x ∈ T, 0 < x.1 ∧ x.1 ≤ k) {n : ByteArray} {p : Nat} (hp : p ∈ plc T n) : 0 < p ∧ p ≤ k := by
  obtain ⟨x, hx, rfl⟩ := List.mem_map.1 hp
  exact h x ((List.mem_filter.1 hx).1)

theorem Rel.put {s : St} {r : RS} {T : Tape} (h : Rel s r T) {f : F} {g : G} (hg : toG T f = g) : Rel (s.putAt (place s.names f.name) f) (r.putF g) T := by
  refine ⟨?_, h.names, h.rise, h.pos, h.most, h.left, h.down, h.fell⟩
  show r.files.take (place r.names g.name) ++ g :: r.files.drop (place r.names g.name) = (s.files.take (place s.names f.name) ++ f :: s.files.drop (place s.names f.name)).map (toG T)
  have e : g.name = f.name := by rw [← hg]; rfl
  rw [h.nm, e, h.files, List.map_append, List.map_cons, List.map_take, List.map_drop, hg]

theorem range_fst (n : ByteArray) (a k : Nat) : ((List.range' a k).map fun p => ((p, n) : Nat × ByteArray)).map Prod.fst = List.range' a k := by
  rw [List.map_map]
  exact List.map_id' _
theorem range_snd (n : ByteArray) (a k : Nat) : ((List.range' a k).map fun p => ((p, n) : Nat × ByteArray)).map Prod.snd = List.replicate k n := by
  rw [List.map_map]
  show (List.range' a k).map (fun _ => n) = _
  rw [List.map_const']
  simp

theorem plc_more (T : Tape) (n m : ByteArray) (a k : Nat) : plc (T ++ (List.range' a k).map fun p => (p, n)) m = if cmp m n = 0 then plc T m ++ List.range' a k else plc T m := by
  unfold plc
  rw [List.filter_append, List.map_append]
  split
  · rename_i h
    have e := cmp_zero.1 h
    subst e
    congr 1
    have : ((List.range' a k).map fun p => ((p, m) : Nat × ByteArray)).filter (fun x => decide (cmp x.2 m = 0)) = (List.range' a k).map fun p => ((p, m) : Nat × ByteArray) := by
      rw [List.filter_eq_self]
      intro x hx
      obtain ⟨p, _, rfl⟩ := List.mem_map.1 hx
      simp [cmp_self]
    rw [this, range_fst]
  · rename_i h
    have : ((List.range' a k).map fun p => ((p, n) : Nat × ByteArray)).filter (fun x => decide (cmp x.2 m = 0)) = [] := by
      rw [List.filter_eq_nil_iff]
      intro x hx
      obtain ⟨p, _, rfl⟩ := List.mem_map.1 hx
      have : ¬ cmp n m = 0 := fun e => h (cmp_zero.2 (cmp_zero.1 e).symm)
      simp [this]
    rw [this]
    simp

theorem Rel.more {s : St} {r : RS} {T : Tape} (h : Rel s r T) (hn : s.names.Nodup) {i : Nat} {f : F} {n x : ByteArray} (hf : s.files[i]? = some f) (hfn : f.name = n) : Rel (s.more i n x) (r.more i x.data.toList) (T ++ (List.range' (r.count + 1) x.size).map fun p => (p, n)) := by
  have hi : i < s.files.length := (List.getElem?_eq_some_iff.1 hf).1
  have hxs : x.data.toList.length = x.size := rfl
  unfold St.more RS.more
  rw [hf, h.get hf]
  refine ⟨?_, ?_, ?_, ?_, h.most, h.left, h.down, h.fell⟩
  · simp only
    rw [h.files]
    apply List.ext_getElem?
    intro j
    rw [List.getElem?_set, List.getElem?_map, List.getElem?_map, List.getElem?_set]
    by_cases e : i = j
    · rw [if_pos e, if_pos e, if_pos (by simpa using hi), if_pos hi]
      show some _ = some _
      congr 1
      unfold toG
      simp only
      rw [plc_more, hfn, if_pos (cmp_self _), hxs, List.append_assoc]
    · rw [if_neg e, if_neg e]
      cases hx : s.files[j]? with
      | none => rfl
      | some y =>
        show some _ = some _
        congr 1
        unfold toG
        rw [plc_more, if_neg (fun e' => getElem_name hn hf hx e (by rw [cmp_zero.1 e', hfn]))]
  · rw [List.map_append, h.names, range_snd]
    show _ = flat (s.pieces ++ [⟨n, x.size⟩])
    unfold flat
    rw [List.flatMap_append]
    simp
  · rw [List.map_append, range_fst, List.pairwise_append]
    refine ⟨h.rise, List.pairwise_lt_range', fun a ha c hc => ?_⟩
    obtain ⟨y, hy, rfl⟩ := List.mem_map.1 ha
    have := (h.pos y hy).2
    have := (List.mem_range'_1.1 hc).1
    omega
  · intro y hy
    show 0 < y.1 ∧ y.1 ≤ r.count + x.data.toList.length
    rcases List.mem_append.1 hy with hy | hy
    · have := h.pos y hy
      omega
    · obtain ⟨p, hp, rfl⟩ := List.mem_map.1 hy
      have := List.mem_range'_1.1 hp
      rw [hxs]
      show 0 < p ∧ p ≤ _
      omega
end Go.Proofs.YtajjcfacbnicnaaGreatDoor.Dk

/-
  Each call of both disks keeps what is alike, and answers alike.
-/
namespace Go.Proofs.YtajjcfacbnicnaaGreatDoor.Dk
open Go.RowKit
set_option maxRecDepth 100000

theorem spent_names (s : St) : s.spent.names = s.names := rfl
theorem atOf_nat {l : List ByteArray} (hr : Rising l) {n : ByteArray} (hh : has l n = true) : (atOf l n).toNat = place l n := by rw [at_place hr n, hh]; simp
theorem rspent_names (r : RS) : r.spent.names = r.names := rfl

theorem sureN_app (k : Nat) (l : List Nat) (h : ∀ p ∈ l, 0 < p) : sureN (List.replicate k 0 ++ l) = k := by
  unfold sureN
  rw [List.countP_append, List.countP_replicate, if_pos (by simp)]
  have : l.countP (fun n => decide (n = 0)) = 0 := by
    rw [List.countP_eq_zero]
    intro p hp
    have := h p hp
    simp; omega
  omega
theorem lateN_app (k : Nat) (l : List Nat) (h : ∀ p ∈ l, 0 < p) : lateN (List.replicate k 0 ++ l) = l.length := by
  unfold lateN
  rw [List.countP_append, List.countP_replicate, if_neg (by simp), Nat.zero_add, List.countP_eq_length]
  intro p hp
  exact decide_eq_true (h p hp)

theorem Rel.sureOf {s : St} {r : RS} {T : Tape} (h : Rel s r T) (f : F) : sureN (toG T f).late = f.sure := sureN_app _ _ fun _p hp => (plc_pos h.pos hp).1

theorem Rel.sure {s : St} {r : RS} {T : Tape} (h : Rel s r T) (ok : Ok s) {n : ByteArray} {f : F} (hf : s.files[place s.names n]? = some f) (hh : has s.names n = true) : rSure r n = f.sure := by
  unfold rSure
  rw [h.nm, atOf_nat ok.rising hh, h.get hf, hh]
  exact h.sureOf f

theorem Rel.sure_none {s : St} {r : RS} {T : Tape} (h : Rel s r T) {n : ByteArray} (hh : has s.names n = false) : rSure r n = 0 := by
  unfold rSure
  rw [h.nm, hh]
  split
  · rename_i e
    cases e
  · rfl

theorem Rel.used {s : St} {r : RS} {T : Tape} (h : Rel s r T) : r.used = s.total := by
  unfold RS.used St.total
  rw [h.files, List.map_map]
  rfl
theorem Rel.lates {s : St} {r : RS} {T : Tape} (h : Rel s r T) (ok : Ok s) : r.lates = (s.pieces.map Pc.size).sum := by
  rw [sum_waits s.names ok.rising.nodup s.pieces ok.named]
  unfold RS.lates St.names
  rw [h.files, List.map_map, List.map_map]
  congr 1
  apply List.map_congr_left
  intro f _
  show lateN (toG T f).late = wait f.name s.pieces
  rw [show (toG T f).late = List.replicate f.sure 0 ++ plc T f.name from rfl, lateN_app _ _ fun p hp => (plc_pos h.pos hp).1, h.plc_len]

theorem Rel.room {s : St} {r : RS} {T : Tape} (h : Rel s r T) (n : Int) : Rel (opRoom s n) (rRoom r n) T := ⟨h.files, h.names, h.rise, h.pos, rfl, h.left, h.down, h.fell⟩
theorem Rel.fuse {s : St} {r : RS} {T : Tape} (h : Rel s r T) (n : Int) : Rel (opFuse s n) (rFuse r n) T := by
  unfold opFuse rFuse
  rw [h.down]
  cases hd : s.down with
  | true => exact h
  | false =>
    simp only [Bool.false_eq_true, if_false]
    refine ⟨h.files, h.names, h.rise, h.pos, h.most, ?_, rfl, fun e => by cases e⟩
    show (if n < 0 then -1 else n) = if decide (0 ≤ n) = true then ((n.toNat : Nat) : Int) else -1
    by_cases hn : n < 0
    · rw [if_pos hn, if_neg (by simpa using hn)]
    · rw [if_neg hn, if_pos (by simp; omega)]
      omega

theorem Rel.sync {s : St} {r : RS} {T : Tape} (h : Rel s r T) (ok : Ok s) (n : ByteArray) : (rSync r n).1 = (opSync s n).1 ∧ ∃ T', Rel (opSync s n).2 (rSync r n).2 T' ∧ (rSync r n).2.count = r.count := by
  unfold rSync opSync
  rw [h.power, h.nm]
  cases s.power with
  | false => exact ⟨rfl, T, h.spent, rfl⟩
  | true =>
    cases hh : has s.names n with
    | false => exact ⟨rfl, T, h.spent, rfl⟩
    | true =>
      obtain ⟨f, hf, hfn, hfm⟩ := has_get ok.rising hh
      simp only [if_true]
      rw [atOf_nat ok.rising hh, settle_len n hf]
      have hs := h.spent.settle (k := f.bytes.length) (show s.spent.names.Nodup from ok.rising.nodup) (show s.spent.files[place s.names n]? = some f from hf)
      refine ⟨trivial, outT T f.name, ?_, ?_⟩
      · have e : r.spent.setAt (place s.names n) (fun g => ⟨g.name, g.bytes, List.replicate g.bytes.length 0⟩) = r.spent.setAt (place s.names n) fun g => ⟨g.name, g.bytes.take f.bytes.length, List.replicate f.bytes.length 0⟩ := by
          unfold RS.setAt
          rw [h.spent.get (show s.spent.files[place s.names n]? = some f from hf)]
          simp only [toG, List.take_length]
        rw [e]
        exact hs
      · unfold RS.setAt
        split <;> rfl

theorem Rel.cut {s : St} {r : RS} {T : Tape} (h : Rel s r T) (ok : Ok s) (n : ByteArray) (k : Int) : (rCut r n k).1 = (opCut s n k).1 ∧ ∃ T', Rel (opCut s n k).2 (rCut r n k).2 T' ∧ (rCut r n k).2.count = r.count := by
  unfold rCut opCut
  rw [h.power, h.nm]
  cases s.power with
  | false => exact ⟨rfl, T, h.spent, rfl⟩
  | true =>
    cases hh : has s.names n with
    | false => exact ⟨rfl, T, h.spent, rfl⟩
    | true =>
      obtain ⟨f, hf, hfn, hfm⟩ := has_get ok.rising hh
      simp only [if_true]
      rw [atOf_nat ok.rising hh, settle_len n hf]
      have hs := h.spent.settle (k := (min (max k 0) (f.bytes.length : Int)).toNat) (show s.spent.names.Nodup from ok.rising.nodup) (show s.spent.files[place s.names n]? = some f from hf)
      refine ⟨trivial, outT T f.name, ?_, ?_⟩
      · have e : r.spent.setAt (place s.names n) (fun g => ⟨g.name, g.bytes.take (min (max k 0) (g.bytes.length : Int)).toNat, List.replicate (min (max k 0) (g.bytes.length : Int)).toNat 0⟩) = r.spent.setAt (place s.names n) fun g => ⟨g.name, g.bytes.take (min (max k 0) (f.bytes.length : Int)).toNat, List.replicate (min (max k 0) (f.bytes.length : Int)).toNat 0⟩ := by
          unfold RS.setAt
          rw [h.spent.get (show s.spent.files[place s.names n]? = some f from hf)]
          rfl
        rw [e]
        exact hs
      · unfold RS.setAt
        split <;> rfl

theorem Rel.remove {s : St} {r : RS} {T : Tape} (h : Rel s r T) (ok : Ok s) (n : ByteArray) : (rRemove r n).1 = (opRemove s n).1 ∧ ∃ T', Rel (opRemove s n).2 (rRemove r n).2 T' ∧ (rRemove r n).2.count = r.count := by
  unfold rRemove opRemove
  rw [h.power, h.nm]
  cases s.power with
  | false => exact ⟨rfl, T, h.spent, rfl⟩
  | true =>
    cases hh : has s.names n with
    | false => exact ⟨rfl, T, h.spent, rfl⟩
    | true =>
      obtain ⟨f, hf, hfn, hfm⟩ := has_get ok.rising hh
      simp only [if_true]
      rw [atOf_nat ok.rising hh]
      exact ⟨trivial, _, h.spent.drop (show s.spent.names.Nodup from ok.rising.nodup) (show s.spent.files[place s.names n]? = some f from hf), rfl⟩

theorem Rel.rot {s : St} {r : RS} {T : Tape} (h : Rel s r T) (ok : Ok s) (file at_ by_ : Int) : (rRot r file at_ by_).1 = (opRot s file at_ by_).1 ∧ Rel (opRot s file at_ by_).2 (rRot r file at_ by_).2 T ∧ (rRot r file at_ by_).2.count = r.count := by
  unfold rRot opRot
  by_cases hc : 0 ≤ file ∧ 0 ≤ at_
  · rw [if_pos hc, if_pos hc]
    cases hf : s.files[file.toNat]? with
    | none =>
      have : r.files[file.toNat]? = none := by rw [h.files, List.getElem?_map, hf]; rfl
      rw [this]
      exact ⟨rfl, h, rfl⟩
    | some f =>
      rw [h.get hf]
      simp only
      have hi : file.toNat < s.files.length := (List.getElem?_eq_some_iff.1 hf).1
      have hnm : has s.names f.name = true := has_iff.2 (List.mem_map.2 ⟨f, List.mem_of_getElem? hf, rfl⟩)
      have hpl : place s.names f.name = file.toNat := by
        have hl : file.toNat < s.names.length := by simpa [St.names] using hi
        have := place_at ok.rising file.toNat hl
        rw [getElem!_pos s.names _ hl] at this
        have e : s.names[file.toNat] = f.name := by
          have : s.names[file.toNat]? = some f.name := by show (s.files.map F.name)[file.toNat]? = _; rw [List.getElem?_map, hf]; rfl
          rw [List.getElem?_eq_getElem hl] at this
          exact Option.some.inj this
        rwa [e] at this
      have hsu : rSure r (toG T f).name = f.sure := h.sure ok (n := f.name) (by rw [hpl]; exact hf) hnm
      rw [hsu]
      by_cases ha : at_ < (f.sure : Int)
      · rw [if_pos ha, if_pos ha]
        refine ⟨rfl, ⟨?_, h.names, h.rise, h.pos, h.most, h.left, h.down, h.fell⟩, rfl⟩
        show r.files.set file.toNat _ = (s.files.set file.toNat _).map (toG T)
        rw [h.files, List.map_set]
        rfl
      · rw [if_neg ha, if_neg ha]
        exact ⟨rfl, h, rfl⟩
  · rw [if_neg hc, if_neg hc]
    exact ⟨rfl, h, rfl⟩

theorem out_none {T : Tape} {n : ByteArray} (h : plc T n = []) : outT T n = T := by
  unfold outT
  rw [List.filter_eq_self]
  intro x hx
  unfold plc at h
  have := List.map_eq_nil_iff.1 h
  rw [List.filter_eq_nil_iff] at this
  have := this x hx
  simpa using this

theorem Rel.plc_none {s : St} {r : RS} {T : Tape} (h : Rel s r T) (ok : Ok s) {n : ByteArray} (hn : n ∉ s.names) : plc T n = [] := by
  apply List.eq_nil_of_length_eq_zero
  rw [h.plc_len]
  exact wait_out fun p hp e => hn (e ▸ ok.named p hp)

theorem Rel.make {s : St} {r : RS} {T : Tape} (h : Rel s r T) (ok : Ok s) (n : ByteArray) : Rel (s.make n) (r.rmake n) T := by
  unfold St.make RS.rmake
  rw [h.nm]
  cases hh : has s.names n with
  | true => exact h
  | false =>
    simp only [Bool.false_eq_true, if_false]
    have hn : n ∉ s.names := fun hm => by rw [has_iff.2 hm] at hh; cases hh
    have := h.put (f := ⟨n, [], 0⟩) (g := ⟨n, [], []⟩) (by unfold toG; simp only; rw [h.plc_none ok hn]; rfl)
    unfold St.putAt RS.putF at this
    simp only [h.nm] at this
    exact this

theorem Rel.append {s : St} {r : RS} {T : Tape} (h : Rel s r T) (ok : Ok s) (n x : ByteArray) : (rAppend r n x).1 = (opAppend s n x).1 ∧ ∃ T', Rel (opAppend s n x).2 (rAppend r n x).2 T' ∧ (rAppend r n x).2.count ≤ r.count + x.size := by
  unfold rAppend opAppend
  have hfull : r.full n x = s.full n x := by
    unfold RS.full St.full
    rw [h.nm, h.used, h.most, h.files, List.length_map]
    have := ok.few
    congr 2
    rw [Bool.eq_iff_iff]
    simp
    omega
  rw [h.power, hfull, h.nm]
  cases s.power with
  | false => exact ⟨rfl, T, h.spent, Nat.le_add_right _ _⟩
  | true =>
    simp only [if_true]
    cases mayBe n with
    | false => exact ⟨rfl, T, h.spent, Nat.le_add_right _ _⟩
    | true =>
      simp only [if_true]
      cases hq : s.full n x with
      | true => exact ⟨rfl, T, h.spent, Nat.le_add_right _ _⟩
      | false =>
        simp only [Bool.false_eq_true, if_false]
        have hl : has s.spent.names n = false → s.spent.files.length < 16 := fun e => by
          unfold St.full at hq
          have e' : has s.names n = false := e
          have hf16 := ok.few
          rw [e'] at hq
          simp at hq
          show s.files.length < 16
          omega
        obtain ⟨okm, _, f, hf, hfn⟩ := ok.spent.make n hl
        have hm := h.spent.make ok.spent n
        have hfr : (r.spent.rmake n).count = r.count := by
          unfold RS.rmake
          split <;> rfl
        have hf' : (s.spent.make n).files[place s.names n]? = some f := hf
        by_cases hx : x.size = 0
        · have hxe : x.data.toList = [] := List.eq_nil_of_length_eq_zero hx
          rw [if_pos hx, hxe, more_nil (hm.get hf')]
          exact ⟨trivial, T, hm, by rw [hfr]; omega⟩
        · rw [if_neg hx]
          refine ⟨trivial, _, hm.more okm.rising.nodup hf' hfn, ?_⟩
          unfold RS.more
          rw [hm.get hf']
          show (r.spent.rmake n).count + x.data.toList.length ≤ _
          rw [hfr]
          exact Nat.le_refl _

theorem Rel.rename {s : St} {r : RS} {T : Tape} (h : Rel s r T) (ok : Ok s) (n t : ByteArray) : (rRename r n t).1 = (opRename s n t).1 ∧ ∃ T', Rel (opRename s n t).2 (rRename r n t).2 T' ∧ (rRename r n t).2.count = r.count := by
  unfold rRename opRename
  rw [h.power, h.nm]
  cases s.power with
  | false => exact ⟨rfl, T, h.spent, rfl⟩
  | true =>
    simp only [if_true]
    cases mayBe t with
    | false => exact ⟨rfl, T, h.spent, rfl⟩
    | true =>
      simp only [if_true]
      cases hh : has s.names n with
      | false =>
        cases s.files[place s.names n]? <;> exact ⟨rfl, T, h.spent, rfl⟩
      | true =>
        obtain ⟨f, hf, hfn, hfm⟩ := has_get ok.rising hh
        rw [atOf_nat ok.rising hh, h.get hf, hf]
        simp only [if_true]
        rw [h.sure ok hf hh]
        by_cases hlt : f.sure < f.bytes.length
        · rw [if_pos (show f.sure < (toG T f).bytes.length from hlt), if_pos hlt]
          exact ⟨rfl, T, h.spent, rfl⟩
        · rw [if_neg (show ¬ f.sure < (toG T f).bytes.length from hlt), if_neg hlt]
          by_cases hc : cmp n t = 0
          · rw [if_pos hc, if_pos hc]
            exact ⟨rfl, T, h.spent, rfl⟩
          · rw [if_neg hc, if_neg hc]
            have hnd : s.spent.names.Nodup := ok.rising.nodup
            have hfs : s.spent.files[place s.names n]? = some f := hf
            have h1 := h.spent.drop hnd hfs
            have ok1 := ok.spent.drop hfs
            have hw : plc T n = [] := by
              apply List.eq_nil_of_length_eq_zero
              have := ok.waits f hfm
              rw [h.plc_len, ← hfn]
              omega
            have hT1 : outT T f.name = T := out_none (by rw [hfn]; exact hw)
            rw [hT1] at h1
            have hlate : (toG T f).late = List.replicate f.sure 0 := by unfold toG; simp only; rw [hfn, hw, List.append_nil]
            have hct : ((r.spent.dropAt (place s.names n)).free1 t).count = r.count := by
              unfold RS.free1 RS.dropAt
              split <;> rfl
            refine ⟨rfl, ?_⟩
            unfold RS.moved
            obtain ⟨okf, hout, _, _, hpl⟩ := ok1.free1 t
            have key : ∃ T', Rel ((s.spent.drop (place s.names n)).free1 t) ((r.spent.dropAt (place s.names n)).free1 t) T' := by
              unfold St.free1 RS.free1
              rw [h1.nm]
              cases hht : has (s.spent.drop (place s.names n)).names t with
              | false => exact ⟨T, h1⟩
              | true =>
                obtain ⟨f2, hf2, _, _⟩ := has_get ok1.rising hht
                simp only [if_true]
                rw [atOf_nat ok1.rising hht]
                exact ⟨_, h1.drop ok1.rising.nodup hf2⟩
            obtain ⟨T', h2⟩ := key
            refine ⟨T', ?_, hct⟩
            have := h2.put (f := ⟨t, f.bytes, f.sure⟩) (g := ⟨t, (toG T f).bytes, (toG T f).late⟩) (by
              rw [hlate]
              unfold toG
              simp only
              rw [h2.plc_none okf hout, List.append_nil])
            simp only at this
            rw [hpl] at this
            exact this
end Go.Proofs.YtajjcfacbnicnaaGreatDoor.Dk
