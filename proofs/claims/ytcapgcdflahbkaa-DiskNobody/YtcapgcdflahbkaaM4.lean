/-
  What a disk may be stays so behind a crash, behind Rename, and with turned bits.
-/
import Derived.Test.YtcapgcdflahbkaaM3
import Derived.Test.YtcapgcdflahbkaaX16
namespace Go.Proofs.Ytcapgcdflahbkaa
open Go.RowKit

theorem surer_names (l : List F) (n : ByteArray) (k : Nat) : (surer l n k).map F.name = l.map F.name := by
  unfold surer
  rw [List.map_map]
  refine List.map_congr_left fun f _ => ?_
  show F.name (if _ then _ else _) = _
  split <;> rfl
theorem surer_bytes (l : List F) (n : ByteArray) (k : Nat) : (surer l n k).map F.bytes = l.map F.bytes := by
  unfold surer
  rw [List.map_map]
  refine List.map_congr_left fun f _ => ?_
  show F.bytes (if _ then _ else _) = _
  split <;> rfl
theorem mem_surer {l : List F} {n : ByteArray} {m : Nat} {x : F} (h : x ∈ surer l n m) : ∃ f ∈ l, x = if cmp f.name n = 0 then ⟨f.name, f.bytes, f.sure + m⟩ else f := by
  obtain ⟨f, hf, e⟩ := List.mem_map.1 h
  exact ⟨f, hf, e.symm⟩

theorem lasts_keep : ∀ (ps : List Pc) (l : List F) (left : Nat), (∀ f ∈ l, f.sure + wait f.name ps ≤ f.bytes.length) → (lasts l ps left).map F.name = l.map F.name ∧ (lasts l ps left).map F.bytes = l.map F.bytes ∧ ∀ f ∈ lasts l ps left, f.sure ≤ f.bytes.length
  | [], l, left, h => ⟨rfl, rfl, fun f hf => by have := h f hf; omega⟩
  | p :: r, l, left, h => by
    have ih := lasts_keep r (surer l p.name (min p.size left)) (left - min p.size left) (fun x hx => by
      obtain ⟨y, hy, e⟩ := mem_surer hx
      have := h y hy
      by_cases hc : cmp y.name p.name = 0
      · rw [if_pos hc] at e
        rw [wait_pos (cmp_zero.1 hc).symm] at this
        rw [e]
        show y.sure + min p.size left + wait y.name _ ≤ y.bytes.length
        omega
      · rw [if_neg hc] at e
        rw [wait_neg (fun e => hc (by rw [e]; exact cmp_self _))] at this
        rw [e]
        exact this)
    exact ⟨ih.1.trans (surer_names _ _ _), ih.2.1.trans (surer_bytes _ _ _), ih.2.2⟩

theorem Ok.opCrash {s : St} (h : Ok s) (last : Int) : Ok (opCrash s last) := by
  have hk := lasts_keep s.pieces s.files last.toNat (fun f hf => Nat.le_of_eq (h.waits f hf))
  unfold Ytcapgcdflahbkaa.opCrash
  generalize lasts s.files s.pieces last.toNat = L at hk
  obtain ⟨h1, h2, h3⟩ := hk
  have hlen : L.length = s.files.length := by have := congrArg List.length h1; simpa using this
  have en : St.names ⟨cutAll L, [], s.room, false, 0, false⟩ = s.names := by
    show (cutAll L).map F.name = _
    unfold cutAll
    rw [List.map_map]
    exact h1
  refine ⟨by rw [en]; exact h.rising, ?_, h.room, Nat.zero_le _, ?_, fun p hp => by simp at hp, ?_, fun p hp => by simp at hp⟩
  · show (cutAll L).length ≤ 16
    unfold cutAll
    rw [List.length_map, hlen]
    exact h.few
  · have hu := h.used
    rw [total_eq] at hu ⊢
    refine Nat.le_trans ?_ hu
    have e : totalF L = totalF s.files := by
      unfold totalF
      have := congrArg (fun l => (l.map List.length).sum) h2
      simpa [List.map_map, Function.comp_def] using this
    rw [← e]
    show totalF (cutAll L) ≤ totalF L
    unfold totalF cutAll
    rw [List.map_map]
    refine sum_le_map _ _ _ fun f _ => ?_
    show (f.bytes.take f.sure).length ≤ f.bytes.length
    rw [List.length_take]
    omega
  · intro f hf
    obtain ⟨y, hy, rfl⟩ := List.mem_map.1 hf
    have := h3 y hy
    show y.sure + wait _ [] = (y.bytes.take y.sure).length
    rw [wait_nil, List.length_take]
    omega

theorem drop_total {s : St} {i : Nat} {f : F} (hf : s.files[i]? = some f) : (s.drop i).total + f.bytes.length = s.total ∧ (s.drop i).files.length + 1 = s.files.length := by
  have hi : i < s.files.length := (List.getElem?_eq_some_iff.1 hf).1
  unfold St.drop
  rw [hf]
  obtain ⟨A, C, e1, _, hA⟩ := split_at hf f
  have e2 : s.files.eraseIdx i = A ++ C := by
    rw [e1, List.eraseIdx_append_of_length_le (by omega), hA, Nat.sub_self]
    rfl
  refine ⟨?_, ?_⟩
  · rw [total_eq, total_eq]
    simp only
    rw [e2, e1, totalF_mid]
  · simp only
    rw [List.length_eraseIdx_of_lt hi]
    omega

theorem drop_out {s : St} (hn : s.names.Nodup) {i : Nat} {f : F} (hf : s.files[i]? = some f) : f.name ∉ (s.drop i).names := by
  unfold St.drop
  rw [hf]
  intro hm
  obtain ⟨x, hx, e⟩ := List.mem_map.1 hm
  exact ((mem_erase_ne hn hf).1 hx).2 e

theorem Ok.free1 {s : St} (h : Ok s) (t : ByteArray) : Ok (s.free1 t) ∧ t ∉ (s.free1 t).names ∧ (s.free1 t).total ≤ s.total ∧ (s.free1 t).files.length ≤ s.files.length ∧ place (s.free1 t).names t = place s.names t := by
  unfold St.free1
  cases hh : has s.names t with
  | false => exact ⟨h, has_not.1 hh, Nat.le_refl _, Nat.le_refl _, rfl⟩
  | true =>
    obtain ⟨f, hf, hfn, hfm⟩ := has_get h.rising hh
    have ht := drop_total hf
    have hd := h.drop hf
    simp only [if_true]
    refine ⟨hd, fun hm => drop_out h.rising.nodup hf (by rw [hfn]; exact hm), by omega, by omega, ?_⟩
    have hi : place s.names t < s.files.length := (List.getElem?_eq_some_iff.1 hf).1
    have e : (s.drop (place s.names t)).names = s.names.eraseIdx (place s.names t) := by
      unfold St.drop St.names
      rw [show s.files[place (s.files.map F.name) t]? = some f from hf]
      simp only [List.eraseIdx_eq_take_drop_succ, List.map_append, List.map_take, List.map_drop]
    rw [e]
    unfold place
    have hg : s.names[s.names.countP fun x => decide (cmp x t < 0)]? = some t := by
      have := (place_mem h.rising t).1 (has_iff.1 hh)
      have h2 := getbang s.names (place s.names t) this.1
      rw [this.2] at h2
      exact h2
    obtain ⟨A, C, e1, _, hA⟩ := split_at hg t
    generalize hp : (s.names.countP fun x => decide (cmp x t < 0)) = P at *
    rw [e1, List.eraseIdx_append_of_length_le (by omega), hA, Nat.sub_self]
    show (A ++ C).countP _ = P
    rw [← hp, e1]
    simp [List.countP_append, cmp_self]

theorem Ok.opRename {s : St} (h : Ok s) (n t : ByteArray) : Ok (opRename s n t).2 := by
  unfold Ytcapgcdflahbkaa.opRename
  cases s.power with
  | false => exact h.spent
  | true =>
    cases mayBe t with
    | false => exact h.spent
    | true =>
      simp only [if_true]
      cases hh : has s.names n with
      | false => cases s.files[place s.names n]? <;> exact h.spent
      | true =>
        obtain ⟨f, hf, hfn, hfm⟩ := has_get h.rising hh
        rw [hf]
        simp only
        by_cases hlt : f.sure < f.bytes.length
        · rw [if_pos hlt]
          exact h.spent
        · rw [if_neg hlt]
          by_cases hc : cmp n t = 0
          · rw [if_pos hc]
            exact h.spent
          · rw [if_neg hc]
            have hs := h.sure hfm
            have hd := h.spent.drop (f := f) hf
            have hdt := drop_total (s := s.spent) hf
            obtain ⟨a, b, c, d, e⟩ := hd.free1 t
            have hu := h.used
            have hfew := h.few
            have e1 : s.spent.total = s.total := rfl
            have e2 : s.spent.files.length = s.files.length := rfl
            rw [← e]
            exact a.putAt (f := ⟨t, f.bytes, f.sure⟩) b (by omega) (by simp only; omega) (by simp only; omega)

theorem Ok.opRot {s : St} (h : Ok s) (file at_ by_ : Int) : Ok (opRot s file at_ by_).2 := by
  unfold Ytcapgcdflahbkaa.opRot
  split
  · split
    · rename_i f hf
      split
      · simp only
        have en : ∀ g : F, g.name = f.name → St.names { s with files := s.files.set file.toNat g } = s.names := fun g hg => names_set hf hg
        refine ⟨by rw [en (⟨f.name, f.bytes.set at_.toNat (f.bytes[at_.toNat]! ^^^ UInt8.ofNat (by_ % 256).toNat), f.sure⟩ : F) rfl]; exact h.rising, by simpa using h.few, h.room, h.fuse, ?_, h.sizes, ?_, fun p hp => by rw [en (⟨f.name, f.bytes.set at_.toNat (f.bytes[at_.toNat]! ^^^ UInt8.ofNat (by_ % 256).toNat), f.sure⟩ : F) rfl]; exact h.named p hp⟩
        · obtain ⟨A, C, e1, e2, _⟩ := split_at hf (⟨f.name, f.bytes.set at_.toNat (f.bytes[at_.toNat]! ^^^ UInt8.ofNat (by_ % 256).toNat), f.sure⟩ : F)
          have hu := h.used
          rw [total_eq] at hu ⊢
          simp only
          rw [e1, totalF_mid] at hu
          rw [e2, totalF_mid, List.length_set]
          exact hu
        · intro x hx
          rcases mem_set_ne h.rising.nodup hf hx with rfl | ⟨hx, _⟩
          · simp only
            rw [List.length_set]
            exact h.waits f (List.mem_of_getElem? hf)
          · exact h.waits x hx
      · exact h
    · exact h
  · exact h
end Go.Proofs.Ytcapgcdflahbkaa
