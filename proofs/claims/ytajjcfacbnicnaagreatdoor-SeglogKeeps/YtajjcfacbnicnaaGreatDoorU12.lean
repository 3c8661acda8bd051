/-
  YtajjcfacbnicnaaGreatDoor: the texts DX13, DM3, DX16, DM4, one behind the other.
-/
import Derived.Test.YtajjcfacbnicnaaGreatDoorU8
/-
  Rename.
-/
namespace Go.Proofs.YtajjcfacbnicnaaGreatDoor.Dk
open Go.RowKit
set_option maxRecDepth 100000

def St.putAt (s : St) (i : Nat) (f : F) : St := { s with files := s.files.take i ++ f :: s.files.drop i }
/-- What is there is dropped. -/
def St.free1 (s : St) (n : ByteArray) : St := if has s.names n then s.drop (place s.names n) else s
def opRename (s : St) (n t : ByteArray) : Int × St :=
  if s.power then if mayBe t then match s.files[place s.names n]?, has s.names n with
    | some f, true => if f.sure < f.bytes.length then (8, s.spent) else if cmp n t = 0 then (0, s.spent) else
        (0, ((s.spent.drop (place s.names n)).free1 t).putAt (place (s.spent.drop (place s.names n)).names t) ⟨t, f.bytes, f.sure⟩)
    | _, _ => (6, s.spent)
  else (1, s.spent) else (12, s.spent)

theorem rename_early {w : World} {B b : Nat} {d : Ds} (h : Rep w B b d) (ok : Ok d.pl) (n t : ByteArray) (hq : d.power = false ∨ mayBe t = false) :
    Calls Tryz.prog 57 #[.pointer (some ⟨b, 0, none⟩), .string n, .string t] w fun e w' => e = .returned (.int .i64 (if d.power then 1 else 12)) ∧ Rep w' B b d.spent ∧ Step (d.foot b) (d.foot b) w w' := by
  have kb := begin_any h ok.fuse
  have km := mayBe_any t
  clear h ok
  cases hp : d.power with
  | false =>
    rw [hp] at kb
    go_enter Tryz.func57, Tryz.ntmps57
    go_wp2_with (go_at_call 73; refine kb.mono ?_; rintro e w1 ⟨rfl, h1, s1⟩)
    go_ret
    exact ⟨rfl, h1, s1⟩
  | true =>
    rw [hp] at kb hq
    rcases hq with hq | hq
    · cases hq
    · rw [hq] at km
      go_enter Tryz.func57, Tryz.ntmps57
      go_wp2_with (first
        | (go_at_call 73; refine kb.mono ?_; rintro e w1 ⟨rfl, h1, s1⟩)
        | (go_at_call 74; refine (km _).mono ?_; rintro e w2 ⟨rfl, rfl⟩))
      go_ret
      exact ⟨rfl, h1, s1⟩

theorem rename_none {w : World} {B b : Nat} {d : Ds} (h : Rep w B b d) (ok : Ok d.pl) (n t : ByteArray) (hp : d.power = true) (hm : mayBe t = true) (hh : has d.names n = false) :
    Calls Tryz.prog 57 #[.pointer (some ⟨b, 0, none⟩), .string n, .string t] w fun e w' => e = .returned (.int .i64 6) ∧ Rep w' B b d.spent ∧ Step (d.foot b) (d.foot b) w w' := by
  have kb := begin_any h ok.fuse
  have km := mayBe_any t
  have kf : Aside (∀ u : World, Rep u B b d.spent → _) := fun (u : World) (hu : Rep u B b d.spent) => find_any hu (show Rising d.spent.names from ok.rise) (by have := ok.dfew; show d.files.length ≤ 1000; omega) n
  have en : d.spent.names = d.names := rfl
  rw [hp] at kb
  rw [hm] at km
  rw [en, hh] at kf
  clear h ok hp hm hh en
  go_enter Tryz.func57, Tryz.ntmps57
  go_wp2_with (first
    | (go_at_call 73; refine kb.mono ?_; rintro e w1 ⟨rfl, h1, s1⟩)
    | (go_at_call 74; refine (km _).mono ?_; rintro e w1' ⟨rfl, rfl⟩)
    | (go_at_call 54; refine (kf.out _ h1).mono ?_; rintro e w2 ⟨rfl, hb2⟩))
  go_ret
  exact ⟨rfl, h1.below hb2, s1.trans (Step.ofBelow hb2)⟩

theorem eq_bytes' {a b : ByteArray} (h : cmp a b ≠ 0) : (a.toList == b.toList) = false := by rw [eq_bytes]; simpa using h
theorem eq_bytes'' {a b : ByteArray} (h : cmp a b = 0) : (a.toList == b.toList) = true := by rw [eq_bytes]; simpa using h

set_option maxHeartbeats 1600000 in
theorem rename_stay {w : World} {B b : Nat} {d : Ds} {f : Fv} (h : Rep w B b d) (ok : Ok d.pl) (n t : ByteArray) (hp : d.power = true) (hm : mayBe t = true) (hh : has d.names n = true) (hf : d.files[place d.names n]? = some f) (hc : f.sure < f.bytes.length ∨ cmp n t = 0) :
    Calls Tryz.prog 57 #[.pointer (some ⟨b, 0, none⟩), .string n, .string t] w fun e w' => e = .returned (.int .i64 (if f.sure < f.bytes.length then 8 else 0)) ∧ Rep w' B b d.spent ∧ Step (d.foot b) (d.foot b) w w' := by
  have kb := begin_any h ok.fuse
  have km := mayBe_any t
  have kf : Aside (∀ u : World, Rep u B b d.spent → _) := fun (u : World) (hu : Rep u B b d.spent) => find_any hu (show Rising d.spent.names from ok.rise) (by have := ok.dfew; show d.files.length ≤ 1000; omega) n
  have en : d.spent.names = d.names := rfl
  rw [hp] at kb
  rw [hm] at km
  rw [en, hh] at kf
  have hfew := ok.dfew
  have hi : place d.names n < d.files.length := (List.getElem?_eq_some_iff.1 hf).1
  obtain ⟨g, cap, ev, hcap, hcm, hg⟩ := h.vf_form hf
  obtain ⟨a, c, ea⟩ := own_any (h.rows f (List.mem_of_getElem? hf))
  have hfc : Aside (∀ u : World, Rep u B b d.spent → u.cell? ⟨b, 0, none⟩ = some (.slice (some ⟨g, 0, none⟩) d.files.length cap) ∧ u.cell? ⟨g, place d.names n * 3, none⟩ = some (.string f.name) ∧ u.cell? ⟨g, place d.names n * 3 + 1, none⟩ = some (.slice a f.bytes.length c) ∧ u.cell? ⟨g, place d.names n * 3 + 2, none⟩ = some (.int .i64 (f.sure : Int))) := fun (u : World) hu => by
    have := hu.fcells (d := d.spent) hf hg
    rw [ea] at this
    exact ⟨by rw [← ev]; exact hu.c0, this⟩
  clear h ok hp hm hh en hf ev
  generalize place d.names n = I at *
  by_cases hlt : f.sure < f.bytes.length
  · have d1 : decide ((f.sure : Int) < (f.bytes.length : Int)) = true := by simp; omega
    have d1' : decide (f.sure < f.bytes.length) = true := by simpa using hlt
    rw [if_pos hlt]
    go_enter Tryz.func57, Tryz.ntmps57
    go_wp2_with (first
      | (go_at_call 73; refine kb.mono ?_; rintro e w1 ⟨rfl, h1, s1⟩)
      | (go_at_call 74; refine (km _).mono ?_; rintro e w1' ⟨rfl, rfl⟩)
      | (go_at_call 54; refine (kf.out _ h1).mono ?_; rintro e w2 ⟨rfl, hb2⟩; obtain ⟨x0, x1, x2, x3⟩ := hfc.out _ (h1.below hb2)))
    go_ret
    exact ⟨rfl, (h1.below hb2).below ((Below.refl _ _).alloc (Nat.le_refl _) _), (s1.trans (Step.ofBelow hb2)).trans (Step.ofBelow ((Below.refl _ _).alloc (Nat.le_refl _) _))⟩
  · have d1 : decide ((f.sure : Int) < (f.bytes.length : Int)) = false := by simp; omega
    have d1' : decide (f.sure < f.bytes.length) = false := by simpa using hlt
    rw [if_neg hlt]
    have hc' := eq_bytes'' (hc.resolve_left hlt)
    clear hc
    go_enter Tryz.func57, Tryz.ntmps57
    go_wp2_with (first
      | (go_at_call 73; refine kb.mono ?_; rintro e w1 ⟨rfl, h1, s1⟩)
      | (go_at_call 74; refine (km _).mono ?_; rintro e w1' ⟨rfl, rfl⟩)
      | (go_at_call 54; refine (kf.out _ h1).mono ?_; rintro e w2 ⟨rfl, hb2⟩; obtain ⟨x0, x1, x2, x3⟩ := hfc.out _ (h1.below hb2)))
    go_ret
    exact ⟨rfl, (h1.below hb2).below ((Below.refl _ _).alloc (Nat.le_refl _) _), (s1.trans (Step.ofBelow hb2)).trans (Step.ofBelow ((Below.refl _ _).alloc (Nat.le_refl _) _))⟩
end Go.Proofs.YtajjcfacbnicnaaGreatDoor.Dk

/-
  What a disk may be stays so, whatever is done.
-/
namespace Go.Proofs.YtajjcfacbnicnaaGreatDoor.Dk
open Go.RowKit
set_option maxRecDepth 100000

theorem wait_keep (n m : ByteArray) (l : List Pc) : wait n (keepOf m l) = if cmp n m = 0 then 0 else wait n l := by
  induction l with
  | nil => simp [keepOf, wait_nil]
  | cons p r ih =>
    unfold keepOf at ih ⊢
    by_cases h : cmp p.name m = 0
    · have e : isOf m p = true := by simp [isOf, h]
      rw [List.filter_cons_of_neg (by simp [e]), ih, wait_cons]
      by_cases h2 : cmp n m = 0
      · rw [if_pos h2, if_pos h2]
      · rw [if_neg h2, if_neg h2, if_neg (fun e => h2 (by rw [← cmp_zero.1 e]; exact h)), Nat.zero_add]
    · have e : isOf m p = false := by simp [isOf, h]
      rw [List.filter_cons_of_pos (by simp [e]), wait_cons, ih, wait_cons]
      by_cases h2 : cmp n m = 0
      · rw [if_pos h2, if_pos h2, if_neg (fun e => h (by rw [cmp_zero.1 e]; exact h2))]
      · rw [if_neg h2, if_neg h2]

theorem wait_pos' {n : ByteArray} {p : Pc} {l : List Pc} (h : p.name = n) : wait n (p :: l) = p.size + wait n l := by rw [wait_cons, if_pos (by rw [h]; exact cmp_self n)]

theorem wait_out {n : ByteArray} {l : List Pc} (h : ∀ p ∈ l, ¬ p.name = n) : wait n l = 0 := by
  induction l with
  | nil => rfl
  | cons p r ih =>
    rw [wait_cons, if_neg (fun e => h p List.mem_cons_self (cmp_zero.1 e)), ih fun q hq => h q (List.mem_cons_of_mem _ hq)]

theorem keep_mem {m : ByteArray} {l : List Pc} {p : Pc} (h : p ∈ keepOf m l) : p ∈ l ∧ ¬ p.name = m := by
  unfold keepOf at h
  rw [List.mem_filter] at h
  refine ⟨h.1, fun e => ?_⟩
  have := h.2
  simp [isOf, e, cmp_self] at this

theorem sum_sub : ∀ {l m : List Nat}, l.Sublist m → l.sum ≤ m.sum
  | _, _, .slnil => Nat.le_refl _
  | _, _, .cons a h => by rw [List.sum_cons]; have := sum_sub h; omega
  | _, _, .cons_cons a h => by rw [List.sum_cons, List.sum_cons]; have := sum_sub h; omega

def totalF (l : List F) : Nat := (l.map fun f => f.bytes.length).sum
theorem total_eq (s : St) : s.total = totalF s.files := rfl
theorem totalF_mid (A C : List F) (f : F) : totalF (A ++ f :: C) = totalF (A ++ C) + f.bytes.length := by simp [totalF]; omega

theorem names_set {l : List F} {i : Nat} {f g : F} (hf : l[i]? = some f) (hn : g.name = f.name) : (l.set i g).map F.name = l.map F.name := by
  obtain ⟨A, C, e1, e2, _⟩ := split_at hf g
  rw [e2, e1]
  simp [hn]

theorem mem_set_ne {l : List F} (hn : (l.map F.name).Nodup) {i : Nat} {f g : F} (hf : l[i]? = some f) {x : F} (hx : x ∈ l.set i g) : x = g ∨ (x ∈ l ∧ ¬ x.name = f.name) := by
  obtain ⟨A, C, e1, e2, _⟩ := split_at hf g
  rw [e2] at hx
  rw [e1, List.map_append, List.map_cons] at hn
  obtain ⟨_, h2, h3⟩ := List.nodup_append.1 hn
  have h4 := (List.nodup_cons.1 h2).1
  rcases List.mem_append.1 hx with hx | hx
  · refine .inr ⟨by rw [e1]; exact List.mem_append_left _ hx, fun e => ?_⟩
    exact h3 x.name (List.mem_map.2 ⟨x, hx, rfl⟩) f.name List.mem_cons_self e
  · rcases List.mem_cons.1 hx with hx | hx
    · exact .inl hx
    · refine .inr ⟨by rw [e1]; exact List.mem_append_right _ (List.mem_cons_of_mem _ hx), fun e => ?_⟩
      exact h4 (List.mem_map.2 ⟨x, hx, e⟩)

theorem mem_erase_ne {l : List F} (hn : (l.map F.name).Nodup) {i : Nat} {f : F} (hf : l[i]? = some f) {x : F} : x ∈ l.eraseIdx i ↔ (x ∈ l ∧ ¬ x.name = f.name) := by
  obtain ⟨A, C, e1, _, hA⟩ := split_at hf f
  have e2 : l.eraseIdx i = A ++ C := by
    rw [e1, List.eraseIdx_append_of_length_le (by omega), hA, Nat.sub_self]
    rfl
  rw [e2]
  rw [e1, List.map_append, List.map_cons] at hn
  obtain ⟨_, h2, h3⟩ := List.nodup_append.1 hn
  have h4 := (List.nodup_cons.1 h2).1
  rw [e1]
  constructor
  · intro hx
    rcases List.mem_append.1 hx with hx | hx
    · exact ⟨List.mem_append_left _ hx, fun e => h3 x.name (List.mem_map.2 ⟨x, hx, rfl⟩) f.name List.mem_cons_self e⟩
    · exact ⟨List.mem_append_right _ (List.mem_cons_of_mem _ hx), fun e => h4 (List.mem_map.2 ⟨x, hx, e⟩)⟩
  · rintro ⟨hx, hne⟩
    rcases List.mem_append.1 hx with hx | hx
    · exact List.mem_append_left _ hx
    · rcases List.mem_cons.1 hx with hx | hx
      · exact absurd (by rw [hx]) hne
      · exact List.mem_append_right _ hx

theorem Ok.settle {s : St} (h : Ok s) {i k : Nat} {f : F} (hf : s.files[i]? = some f) (hk : k ≤ f.bytes.length) : Ok (s.settle i k) := by
  have hn := h.rising.nodup
  have hm := List.mem_of_getElem? hf
  unfold St.settle
  rw [hf]
  have en : St.names { s with files := s.files.set i ⟨f.name, f.bytes.take k, k⟩, pieces := keepOf f.name s.pieces } = s.names := names_set hf rfl
  refine ⟨by rw [en]; exact h.rising, by simpa using h.few, h.room, h.fuse, ?_, fun p hp => h.sizes p (keep_mem hp).1, ?_, fun p hp => by rw [en]; exact h.named p (keep_mem hp).1⟩
  · obtain ⟨A, C, e1, e2, _⟩ := split_at hf (⟨f.name, f.bytes.take k, k⟩ : F)
    have hu := h.used
    rw [total_eq] at hu ⊢
    simp only
    rw [e1, totalF_mid] at hu
    rw [e2, totalF_mid, List.length_take]
    omega
  · intro x hx
    rcases mem_set_ne hn hf hx with rfl | ⟨hx, hne⟩
    · simp only
      rw [wait_keep, if_pos (cmp_self _), List.length_take]
      omega
    · simp only
      rw [wait_keep, if_neg (fun e => hne (cmp_zero.1 e))]
      exact h.waits x hx

theorem Ok.drop {s : St} (h : Ok s) {i : Nat} {f : F} (hf : s.files[i]? = some f) : Ok (s.drop i) := by
  have hn := h.rising.nodup
  have hi : i < s.files.length := (List.getElem?_eq_some_iff.1 hf).1
  unfold St.drop
  rw [hf]
  have hsub : (s.files.eraseIdx i).Sublist s.files := List.eraseIdx_sublist _ _
  refine ⟨Rising.sub (hsub.map _) h.rising, by simp only; have := h.few; have := hsub.length_le; omega, h.room, h.fuse, ?_, fun p hp => h.sizes p (keep_mem hp).1, ?_, ?_⟩
  · have hu := h.used
    rw [total_eq] at hu ⊢
    simp only
    unfold totalF at hu ⊢
    have := sum_sub (hsub.map fun f : F => f.bytes.length)
    omega
  · intro x hx
    obtain ⟨hx, hne⟩ := (mem_erase_ne hn hf).1 hx
    simp only
    rw [wait_keep, if_neg (fun e => hne (cmp_zero.1 e))]
    exact h.waits x hx
  · intro p hp
    obtain ⟨hp, hne⟩ := keep_mem hp
    obtain ⟨x, hx, e⟩ := List.mem_map.1 (h.named p hp)
    exact List.mem_map.2 ⟨x, (mem_erase_ne hn hf).2 ⟨hx, fun e2 => hne (e.symm.trans e2)⟩, e⟩

theorem names_mid (l : List F) (i : Nat) (f : F) : (l.take i ++ f :: l.drop i).map F.name = (l.map F.name).take i ++ f.name :: (l.map F.name).drop i := by simp

theorem Ok.putAt {s : St} (h : Ok s) {f : F} (hn : f.name ∉ s.names) (hl : s.files.length < 16) (hs : f.sure = f.bytes.length) (hu : s.total + f.bytes.length ≤ 60000) : Ok (s.putAt (place s.names f.name) f) := by
  have hmem : ∀ x, x ∈ s.files.take (place s.names f.name) ++ f :: s.files.drop (place s.names f.name) ↔ x = f ∨ x ∈ s.files := fun x => by
    constructor
    · intro hx
      rcases List.mem_append.1 hx with hx | hx
      · exact .inr (List.mem_of_mem_take hx)
      · rcases List.mem_cons.1 hx with hx | hx
        · exact .inl hx
        · exact .inr (List.mem_of_mem_drop hx)
    · rintro (rfl | hx)
      · exact List.mem_append_right _ List.mem_cons_self
      · rw [← List.take_append_drop (place s.names f.name) s.files] at hx
        rcases List.mem_append.1 hx with hx | hx
        · exact List.mem_append_left _ hx
        · exact List.mem_append_right _ (List.mem_cons_of_mem _ hx)
  unfold St.putAt
  refine ⟨?_, ?_, h.room, h.fuse, ?_, h.sizes, ?_, ?_⟩
  · show Rising ((s.files.take (place s.names f.name) ++ f :: s.files.drop (place s.names f.name)).map F.name)
    rw [names_mid]
    exact Rising.insert h.rising f.name hn
  · simp only [List.length_append, List.length_cons, List.length_take, List.length_drop]
    omega
  · rw [total_eq] at hu ⊢
    simp only
    rw [totalF_mid, List.take_append_drop]
    exact hu
  · intro x hx
    rcases (hmem x).1 hx with rfl | hx
    · simp only
      rw [wait_out (n := x.name) (fun p hp e => hn (by rw [← e]; exact h.named p hp)), hs]
      rfl
    · exact h.waits x hx
  · intro p hp
    obtain ⟨x, hx, e⟩ := List.mem_map.1 (h.named p hp)
    exact List.mem_map.2 ⟨x, (hmem x).2 (.inr hx), e⟩

theorem Ok.more {s : St} (h : Ok s) {i : Nat} {f : F} {n x : ByteArray} (hf : s.files[i]? = some f) (hfn : f.name = n) (hx : x.size ≠ 0) (hu : s.total + x.size ≤ 60000) : Ok (s.more i n x) := by
  have hn := h.rising.nodup
  have hxs : x.data.toList.length = x.size := by rw [Array.length_toList]; rfl
  unfold St.more
  rw [hf]
  have en : St.names { s with files := s.files.set i ⟨f.name, f.bytes ++ x.data.toList, f.sure⟩, pieces := s.pieces ++ [⟨n, x.size⟩] } = s.names := names_set hf rfl
  refine ⟨by rw [en]; exact h.rising, by simpa using h.few, h.room, h.fuse, ?_, ?_, ?_, ?_⟩
  · obtain ⟨A, C, e1, e2, _⟩ := split_at hf (⟨f.name, f.bytes ++ x.data.toList, f.sure⟩ : F)
    rw [total_eq] at hu ⊢
    simp only
    rw [e1, totalF_mid] at hu
    rw [e2, totalF_mid, List.length_append, hxs]
    omega
  · intro p hp
    rcases List.mem_append.1 hp with hp | hp
    · exact h.sizes p hp
    · rw [List.mem_singleton.1 hp]
      show 0 < x.size
      omega
  · intro y hy
    rcases mem_set_ne hn hf hy with rfl | ⟨hy, hne⟩
    · simp only
      have := h.waits f (List.mem_of_getElem? hf)
      rw [wait_app, wait_pos' hfn.symm, wait_nil, List.length_append, hxs]
      simp only
      omega
    · simp only
      rw [wait_app, wait_out (l := [⟨n, x.size⟩]) (fun p hp e => hne (by rw [List.mem_singleton.1 hp] at e; rw [hfn]; exact e.symm))]
      exact h.waits y hy
  · intro p hp
    rw [en]
    rcases List.mem_append.1 hp with hp | hp
    · exact h.named p hp
    · rw [List.mem_singleton.1 hp]
      show n ∈ s.names
      rw [← hfn]
      exact List.mem_map.2 ⟨f, List.mem_of_getElem? hf, rfl⟩

theorem settle_len {s : St} (n : ByteArray) {f : F} (hf : s.files[place s.names n]? = some f) : s.len n = f.bytes.length := by
  unfold St.len
  rw [hf]

theorem Ok.opSync {s : St} (h : Ok s) (n : ByteArray) : Ok (opSync s n).2 := by
  unfold YtajjcfacbnicnaaGreatDoor.Dk.opSync
  cases s.power with
  | false => exact h.spent
  | true =>
    cases hh : has s.names n with
    | false => exact h.spent
    | true =>
      obtain ⟨f, hf, hfn, hfm⟩ := has_get h.rising hh
      exact h.spent.settle (f := f) hf (by rw [settle_len n hf]; exact Nat.le_refl _)
theorem Ok.opCut {s : St} (h : Ok s) (n : ByteArray) (k : Int) : Ok (opCut s n k).2 := by
  unfold YtajjcfacbnicnaaGreatDoor.Dk.opCut
  cases s.power with
  | false => exact h.spent
  | true =>
    cases hh : has s.names n with
    | false => exact h.spent
    | true =>
      obtain ⟨f, hf, hfn, hfm⟩ := has_get h.rising hh
      exact h.spent.settle (f := f) hf (by rw [settle_len n hf]; omega)
theorem Ok.opRemove {s : St} (h : Ok s) (n : ByteArray) : Ok (opRemove s n).2 := by
  unfold YtajjcfacbnicnaaGreatDoor.Dk.opRemove
  cases s.power with
  | false => exact h.spent
  | true =>
    cases hh : has s.names n with
    | false => exact h.spent
    | true =>
      obtain ⟨f, hf, hfn, hfm⟩ := has_get h.rising hh
      exact h.spent.drop (f := f) hf

theorem Ok.make {s : St} (h : Ok s) (n : ByteArray) (hl : has s.names n = false → s.files.length < 16) : Ok (s.make n) ∧ (s.make n).total = s.total ∧ ∃ f, (s.make n).files[place s.names n]? = some f ∧ f.name = n := by
  unfold St.make
  cases hh : has s.names n with
  | true =>
    obtain ⟨f, hf, hfn, hfm⟩ := has_get h.rising hh
    exact ⟨h, rfl, f, hf, hfn⟩
  | false =>
    refine ⟨h.putAt (f := ⟨n, [], 0⟩) (has_not.1 hh) (hl hh) rfl (by simpa using h.used), ?_, ⟨n, [], 0⟩, ?_, rfl⟩
    · show totalF (s.files.take _ ++ _ :: s.files.drop _) = totalF s.files
      rw [totalF_mid, List.take_append_drop]
      rfl
    · have hp := place_le s.names n
      have e : s.names.length = s.files.length := by simp [St.names]
      show (s.files.take (place s.names n) ++ _ :: s.files.drop (place s.names n))[place s.names n]? = _
      rw [List.getElem?_append_right (by rw [List.length_take]; omega), List.length_take, Nat.min_eq_left (by omega), Nat.sub_self]
      rfl

theorem Ok.opAppend {s : St} (h : Ok s) (n x : ByteArray) : Ok (opAppend s n x).2 := by
  unfold YtajjcfacbnicnaaGreatDoor.Dk.opAppend
  cases s.power with
  | false => exact h.spent
  | true =>
    cases mayBe n with
    | false => exact h.spent
    | true =>
      cases hf : s.full n x with
      | true => exact h.spent
      | false =>
        unfold St.full at hf
        simp only [Bool.or_eq_false_iff, Bool.and_eq_false_iff, decide_eq_false_iff_not, Bool.not_eq_false'] at hf
        have hfew := h.few
        have hr := h.room
        obtain ⟨a, b, f, hf1, hf2⟩ := h.spent.make n (fun hh => by
          have hh' : has s.names n = false := hh
          have := hf.1
          rw [hh'] at this
          show s.files.length < 16
          rcases this with e | e
          · cases e
          · omega)
        simp only [if_true, Bool.false_eq_true, if_false]
        split
        · exact a
        · rename_i hx
          refine a.more (f := f) hf1 hf2 hx ?_
          rw [b]
          show s.total + x.size ≤ 60000
          omega
end Go.Proofs.YtajjcfacbnicnaaGreatDoor.Dk

/-
  Crash: what lasts, and what is cut.
-/
namespace Go.Proofs.YtajjcfacbnicnaaGreatDoor.Dk
open Go.RowKit
set_option maxRecDepth 100000

def surerV (l : List Fv) (n : ByteArray) (k : Nat) : List Fv := l.map fun f => if cmp f.name n = 0 then ⟨f.name, f.bytes, f.sure + k, f.v⟩ else f
def cutF (f : Fv) : Fv := f.settled f.sure

theorem surerV_pl (l : List Fv) (n : ByteArray) (k : Nat) : (surerV l n k).map Fv.pl = surer (l.map Fv.pl) n k := by
  unfold surerV surer
  rw [List.map_map, List.map_map]
  refine List.map_congr_left fun f _ => ?_
  show Fv.pl (if _ then _ else _) = (if cmp f.name n = 0 then _ else _)
  split <;> rfl
theorem cutF_pl (l : List Fv) : (l.map cutF).map Fv.pl = cutAll (l.map Fv.pl) := by
  unfold cutAll
  rw [List.map_map, List.map_map]
  rfl
theorem surerV_names (l : List Fv) (n : ByteArray) (k : Nat) : (surerV l n k).map Fv.name = l.map Fv.name := by
  unfold surerV
  rw [List.map_map]
  refine List.map_congr_left fun f _ => ?_
  show Fv.name (if _ then _ else _) = _
  split <;> rfl
theorem surerV_v (l : List Fv) (n : ByteArray) (k : Nat) : (surerV l n k).map Fv.v = l.map Fv.v := by
  unfold surerV
  rw [List.map_map]
  refine List.map_congr_left fun f _ => ?_
  show Fv.v (if _ then _ else _) = _
  split <;> rfl

theorem surerV_set {l : List Fv} {n : ByteArray} {k i : Nat} {f : Fv} (hn : (l.map Fv.name).Nodup) (hf : l[i]? = some f) (he : f.name = n) : surerV l n k = l.set i ⟨f.name, f.bytes, f.sure + k, f.v⟩ := by
  obtain ⟨A, C, e1, e2, _⟩ := split_at hf (⟨f.name, f.bytes, f.sure + k, f.v⟩ : Fv)
  rw [e2]
  unfold surerV
  rw [e1] at hn ⊢
  rw [List.map_append, List.map_cons] at hn ⊢
  obtain ⟨_, h2, h3⟩ := List.nodup_append.1 hn
  have h4 := (List.nodup_cons.1 h2).1
  congr 1
  · conv => rhs; rw [← List.map_id A]
    refine List.map_congr_left fun x hx => if_neg fun hc => ?_
    exact h3 x.name (List.mem_map.2 ⟨x, hx, rfl⟩) f.name List.mem_cons_self ((cmp_zero.1 hc).trans he.symm)
  · congr 1
    · exact if_pos (by rw [he]; exact cmp_self n)
    · conv => rhs; rw [← List.map_id C]
      refine List.map_congr_left fun x hx => if_neg fun hc => ?_
      exact h4 (List.mem_map.2 ⟨x, hx, (cmp_zero.1 hc).trans he.symm⟩)

theorem foot_same {b : Nat} {d : Ds} {L : List Fv} (h : L.map Fv.v = d.files.map Fv.v) : Ds.foot b { d with files := L } = d.foot b := by
  unfold Ds.foot
  simp only
  have e : ∀ l : List Fv, (l.flatMap fun f => ob f.v) = (l.map Fv.v).flatMap ob := fun l => by rw [List.flatMap_map]
  rw [e, e, h]

theorem Rep.setSure {w : World} {B b g i : Nat} {d : Ds} {f : Fv} (h : Rep w B b d) (hf : d.files[i]? = some f) (hg : d.vf.ownBlock = some g) (m : Nat) :
    Rep (w.setCell ⟨g, i * 3 + 2, none⟩ (.int .i64 (m : Int))) B b { d with files := d.files.set i ⟨f.name, f.bytes, m, f.v⟩ } ∧ Step (d.foot b) (d.foot b) w (w.setCell ⟨g, i * 3 + 2, none⟩ (.int .i64 (m : Int))) := by
  have hi : i < d.files.length := (List.getElem?_eq_some_iff.1 hf).1
  refine h.setFile hf hg ?_ (grown_set (grown_refl w _) _ _) rfl (h.rows f (List.mem_of_getElem? hf))
  rw [flat_sets d.files i f ⟨f.name, f.bytes, m, f.v⟩ hf rfl rfl]
  exact own_set h.tab hg (i * 3 + 2) (by omega) _

theorem Rep.setCut {w : World} {B b g i : Nat} {d : Ds} {f : Fv} (h : Rep w B b d) (hf : d.files[i]? = some f) (hg : d.vf.ownBlock = some g) (hs : f.sure ≤ f.bytes.length) :
    Rep (w.setCell ⟨g, i * 3 + 1, none⟩ (cutV f.v f.sure)) B b { d with files := d.files.set i (cutF f) } ∧ Step (d.foot b) (d.foot b) w (w.setCell ⟨g, i * 3 + 1, none⟩ (cutV f.v f.sure)) := by
  have hi : i < d.files.length := (List.getElem?_eq_some_iff.1 hf).1
  obtain ⟨h1, h2⟩ := own_cutV (h.rows f (List.mem_of_getElem? hf)) f.sure hs
  refine h.setFile hf hg ?_ (grown_set (grown_refl w _) _ _) h2 ?_
  · rw [flat_setv d.files i f (cutF f) hf rfl rfl]
    exact own_set h.tab hg (i * 3 + 1) (by omega) _
  · have e : (cutF f).bytes.length = f.sure := by show (f.bytes.take f.sure).length = _; rw [List.length_take]; omega
    rw [e]
    show w.ownsRow B 5 1 (cutV f.v f.sure) f.sure (bcells (f.bytes.take f.sure))
    rw [← bcells_take]
    exact h1

theorem Rep.noPieces {w : World} {B b : Nat} {d : Ds} (h : Rep w B b d) :
    Rep (w.setCell ⟨b, 1, none⟩ (.slice none 0 0)) B b { d with pieces := [], vp := .slice none 0 0 } ∧ Step (d.foot b) (Ds.foot b { d with pieces := [], vp := .slice none 0 0 }) w (w.setCell ⟨b, 1, none⟩ (.slice none 0 0)) := by
  have hsub : (Ds.foot b { d with pieces := [], vp := .slice none 0 0 }).Sublist (d.foot b) := by
    unfold Ds.foot
    exact (((List.sublist_append_right _ _)).append_left _).cons_cons _
  have keep : ∀ k, k ≠ b → (w.setCell ⟨b, 1, none⟩ (.slice none 0 0)).heap[k]? = w.heap[k]? := fun k hk => Below.heap_setCell w ⟨b, 1, none⟩ _ k hk
  exact ⟨⟨h.ge, set_same h.blk rfl, own_frame h.tab fun k hk => keep k (h.b_vf hk), World.ownsRow_nil _ _ _ _, fun f hf => own_frame (h.rows f hf) fun k hk => keep k (h.b_f hf hk), h.nodup.sublist hsub⟩, (Step.setb w foot_b 1 _).trans ⟨rfl, rfl, rfl, Nat.le_refl _, fun _ _ _ => rfl, fun k hk => .inl (hsub.subset hk)⟩⟩

theorem wait_pos {n : ByteArray} {p : Pc} {l : List Pc} (h : p.name = n) : wait n (p :: l) = p.size + wait n l := by rw [wait_cons, if_pos (by rw [h]; exact cmp_self n)]
theorem wait_neg {n : ByteArray} {p : Pc} {l : List Pc} (h : ¬ p.name = n) : wait n (p :: l) = wait n l := by rw [wait_cons, if_neg (fun e => h (cmp_zero.1 e)), Nat.zero_add]

/-- The files, so many of which are cut. -/
def cutUpto (l : List Fv) (k : Nat) : List Fv := (l.take k).map cutF ++ l.drop k
theorem cutUpto_next {l : List Fv} {k : Nat} {f : Fv} (hf : l[k]? = some f) : (cutUpto l k)[k]? = some f ∧ cutUpto l (k + 1) = (cutUpto l k).set k (cutF f) := by
  have hk : k < l.length := (List.getElem?_eq_some_iff.1 hf).1
  have hl : ((l.take k).map cutF).length = k := by rw [List.length_map, List.length_take]; omega
  unfold cutUpto
  have hd : l.drop k = f :: l.drop (k + 1) := by rw [List.drop_eq_getElem_cons hk, (List.getElem?_eq_some_iff.1 hf).2]
  refine ⟨?_, ?_⟩
  · rw [List.getElem?_append_right (by omega), hl, Nat.sub_self, hd]
    rfl
  · rw [List.set_append_right _ _ (by omega), hl, Nat.sub_self, hd, List.take_add_one, hf]
    simp
theorem cutUpto_len (l : List Fv) (k : Nat) : (cutUpto l k).length = l.length := by
  unfold cutUpto
  rw [List.length_append, List.length_map, List.length_take, List.length_drop]
  omega
theorem cutUpto_all (l : List Fv) : cutUpto l l.length = l.map cutF := by simp [cutUpto]
end Go.Proofs.YtajjcfacbnicnaaGreatDoor.Dk

/-
  What a disk may be stays so behind a crash, behind Rename, and with turned bits.
-/
namespace Go.Proofs.YtajjcfacbnicnaaGreatDoor.Dk
open Go.RowKit
set_option maxRecDepth 100000

theorem surer_names (l : List F) (n : ByteArray) (k : Nat) : (surer l n k).map F.name = l.map F.name := by
  unfold surer
  rw [List.map_map]
  refine List.map_congr_left fun f _ => ?_
  show F.name (if _ then _ else _) = _
  split <;> rfl
theorem surer_bytes (l : List F) (n : ByteArray) (k : Nat) : (surer l n k).map F.bytes = l.map F.bytes := by
  unfold surer
  rw [List.map_map]
  refine List.map_congr_left fun f _ => ?_
  show F.bytes (if _ then _ else _) = _
  split <;> rfl
theorem mem_surer {l : List F} {n : ByteArray} {m : Nat} {x : F} (h : x ∈ surer l n m) : ∃ f ∈ l, x = if cmp f.name n = 0 then ⟨f.name, f.bytes, f.sure + m⟩ else f := by
  obtain ⟨f, hf, e⟩ := List.mem_map.1 h
  exact ⟨f, hf, e.symm⟩

theorem lasts_keep : ∀ (ps : List Pc) (l : List F) (left : Nat), (∀ f ∈ l, f.sure + wait f.name ps ≤ f.bytes.length) → (lasts l ps left).map F.name = l.map F.name ∧ (lasts l ps left).map F.bytes = l.map F.bytes ∧ ∀ f ∈ lasts l ps left, f.sure ≤ f.bytes.length
  | [], l, left, h => ⟨rfl, rfl, fun f hf => by have := h f hf; omega⟩
  | p :: r, l, left, h => by
    have ih := lasts_keep r (surer l p.name (min p.size left)) (left - min p.size left) (fun x hx => by
      obtain ⟨y, hy, e⟩ := mem_surer hx
      have := h y hy
      by_cases hc : cmp y.name p.name = 0
      · rw [if_pos hc] at e
        rw [wait_pos (cmp_zero.1 hc).symm] at this
        rw [e]
        show y.sure + min p.size left + wait y.name _ ≤ y.bytes.length
        omega
      · rw [if_neg hc] at e
        rw [wait_neg (fun e => hc (by rw [e]; exact cmp_self _))] at this
        rw [e]
        exact this)
    exact ⟨ih.1.trans (surer_names _ _ _), ih.2.1.trans (surer_bytes _ _ _), ih.2.2⟩

theorem Ok.opCrash {s : St} (h : Ok s) (last : Int) : Ok (opCrash s last) := by
  have hk := lasts_keep s.pieces s.files last.toNat (fun f hf => Nat.le_of_eq (h.waits f hf))
  unfold YtajjcfacbnicnaaGreatDoor.Dk.opCrash
  generalize lasts s.files s.pieces last.toNat = L at hk
  obtain ⟨h1, h2, h3⟩ := hk
  have hlen : L.length = s.files.length := by have := congrArg List.length h1; simpa using this
  have en : St.names ⟨cutAll L, [], s.room, false, 0, false⟩ = s.names := by
    show (cutAll L).map F.name = _
    unfold cutAll
    rw [List.map_map]
    exact h1
  refine ⟨by rw [en]; exact h.rising, ?_, h.room, Nat.zero_le _, ?_, fun p hp => by simp at hp, ?_, fun p hp => by simp at hp⟩
  · show (cutAll L).length ≤ 16
    unfold cutAll
    rw [List.length_map, hlen]
    exact h.few
  · have hu := h.used
    rw [total_eq] at hu ⊢
    refine Nat.le_trans ?_ hu
    have e : totalF L = totalF s.files := by
      unfold totalF
      have := congrArg (fun l => (l.map List.length).sum) h2
      simpa [List.map_map, Function.comp_def] using this
    rw [← e]
    show totalF (cutAll L) ≤ totalF L
    unfold totalF cutAll
    rw [List.map_map]
    refine sum_le_map _ _ _ fun f _ => ?_
    show (f.bytes.take f.sure).length ≤ f.bytes.length
    rw [List.length_take]
    omega
  · intro f hf
    obtain ⟨y, hy, rfl⟩ := List.mem_map.1 hf
    have := h3 y hy
    show y.sure + wait _ [] = (y.bytes.take y.sure).length
    rw [wait_nil, List.length_take]
    omega

theorem drop_total {s : St} {i : Nat} {f : F} (hf : s.files[i]? = some f) : (s.drop i).total + f.bytes.length = s.total ∧ (s.drop i).files.length + 1 = s.files.length := by
  have hi : i < s.files.length := (List.getElem?_eq_some_iff.1 hf).1
  unfold St.drop
  rw [hf]
  obtain ⟨A, C, e1, _, hA⟩ := split_at hf f
  have e2 : s.files.eraseIdx i = A ++ C := by
    rw [e1, List.eraseIdx_append_of_length_le (by omega), hA, Nat.sub_self]
    rfl
  refine ⟨?_, ?_⟩
  · rw [total_eq, total_eq]
    simp only
    rw [e2, e1, totalF_mid]
  · simp only
    rw [List.length_eraseIdx_of_lt hi]
    omega

theorem drop_out {s : St} (hn : s.names.Nodup) {i : Nat} {f : F} (hf : s.files[i]? = some f) : f.name ∉ (s.drop i).names := by
  unfold St.drop
  rw [hf]
  intro hm
  obtain ⟨x, hx, e⟩ := List.mem_map.1 hm
  exact ((mem_erase_ne hn hf).1 hx).2 e

theorem Ok.free1 {s : St} (h : Ok s) (t : ByteArray) : Ok (s.free1 t) ∧ t ∉ (s.free1 t).names ∧ (s.free1 t).total ≤ s.total ∧ (s.free1 t).files.length ≤ s.files.length ∧ place (s.free1 t).names t = place s.names t := by
  unfold St.free1
  cases hh : has s.names t with
  | false => exact ⟨h, has_not.1 hh, Nat.le_refl _, Nat.le_refl _, rfl⟩
  | true =>
    obtain ⟨f, hf, hfn, hfm⟩ := has_get h.rising hh
    have ht := drop_total hf
    have hd := h.drop hf
    simp only [if_true]
    refine ⟨hd, fun hm => drop_out h.rising.nodup hf (by rw [hfn]; exact hm), by omega, by omega, ?_⟩
    have hi : place s.names t < s.files.length := (List.getElem?_eq_some_iff.1 hf).1
    have e : (s.drop (place s.names t)).names = s.names.eraseIdx (place s.names t) := by
      unfold St.drop St.names
      rw [show s.files[place (s.files.map F.name) t]? = some f from hf]
      simp only [List.eraseIdx_eq_take_drop_succ, List.map_append, List.map_take, List.map_drop]
    rw [e]
    unfold place
    have hg : s.names[s.names.countP fun x => decide (cmp x t < 0)]? = some t := by
      have := (place_mem h.rising t).1 (has_iff.1 hh)
      have h2 := getbang s.names (place s.names t) this.1
      rw [this.2] at h2
      exact h2
    obtain ⟨A, C, e1, _, hA⟩ := split_at hg t
    generalize hp : (s.names.countP fun x => decide (cmp x t < 0)) = P at *
    rw [e1, List.eraseIdx_append_of_length_le (by omega), hA, Nat.sub_self]
    show (A ++ C).countP _ = P
    rw [← hp, e1]
    simp [List.countP_append, cmp_self]

theorem Ok.opRename {s : St} (h : Ok s) (n t : ByteArray) : Ok (opRename s n t).2 := by
  unfold YtajjcfacbnicnaaGreatDoor.Dk.opRename
  cases s.power with
  | false => exact h.spent
  | true =>
    cases mayBe t with
    | false => exact h.spent
    | true =>
      simp only [if_true]
      cases hh : has s.names n with
      | false => cases s.files[place s.names n]? <;> exact h.spent
      | true =>
        obtain ⟨f, hf, hfn, hfm⟩ := has_get h.rising hh
        rw [hf]
        simp only
        by_cases hlt : f.sure < f.bytes.length
        · rw [if_pos hlt]
          exact h.spent
        · rw [if_neg hlt]
          by_cases hc : cmp n t = 0
          · rw [if_pos hc]
            exact h.spent
          · rw [if_neg hc]
            have hs := h.sure hfm
            have hd := h.spent.drop (f := f) hf
            have hdt := drop_total (s := s.spent) hf
            obtain ⟨a, b, c, d, e⟩ := hd.free1 t
            have hu := h.used
            have hfew := h.few
            have e1 : s.spent.total = s.total := rfl
            have e2 : s.spent.files.length = s.files.length := rfl
            rw [← e]
            exact a.putAt (f := ⟨t, f.bytes, f.sure⟩) b (by omega) (by simp only; omega) (by simp only; omega)

theorem Ok.opRot {s : St} (h : Ok s) (file at_ by_ : Int) : Ok (opRot s file at_ by_).2 := by
  unfold YtajjcfacbnicnaaGreatDoor.Dk.opRot
  split
  · split
    · rename_i f hf
      split
      · simp only
        have en : ∀ g : F, g.name = f.name → St.names { s with files := s.files.set file.toNat g } = s.names := fun g hg => names_set hf hg
        refine ⟨by rw [en (⟨f.name, f.bytes.set at_.toNat (f.bytes[at_.toNat]! ^^^ UInt8.ofNat (by_ % 256).toNat), f.sure⟩ : F) rfl]; exact h.rising, by simpa using h.few, h.room, h.fuse, ?_, h.sizes, ?_, fun p hp => by rw [en (⟨f.name, f.bytes.set at_.toNat (f.bytes[at_.toNat]! ^^^ UInt8.ofNat (by_ % 256).toNat), f.sure⟩ : F) rfl]; exact h.named p hp⟩
        · obtain ⟨A, C, e1, e2, _⟩ := split_at hf (⟨f.name, f.bytes.set at_.toNat (f.bytes[at_.toNat]! ^^^ UInt8.ofNat (by_ % 256).toNat), f.sure⟩ : F)
          have hu := h.used
          rw [total_eq] at hu ⊢
          simp only
          rw [e1, totalF_mid] at hu
          rw [e2, totalF_mid, List.length_set]
          exact hu
        · intro x hx
          rcases mem_set_ne h.rising.nodup hf hx with rfl | ⟨hx, _⟩
          · simp only
            rw [List.length_set]
            exact h.waits f (List.mem_of_getElem? hf)
          · exact h.waits x hx
      · exact h
    · exact h
  · exact h
end Go.Proofs.YtajjcfacbnicnaaGreatDoor.Dk
