/-
  YtajjcfacbnicnaaGreatDoor: the texts DM2, DW9, DW10, DX1, DX2, one behind the other.
-/
import Derived.Test.YtajjcfacbnicnaaGreatDoorU5
import Derived.Deep.RegionWith
/-
  A disk as plain data, and what each call makes of it, as the program does it.
-/
namespace Go.Proofs.YtajjcfacbnicnaaGreatDoor.Dk
open Go.RowKit
set_option maxRecDepth 100000

structure F where
  name : ByteArray
  bytes : List UInt8
  sure : Nat

structure St where
  files : List F
  pieces : List Pc
  room : Nat
  fused : Bool
  fuse : Nat
  down : Bool

def Fv.pl (f : Fv) : F := ⟨f.name, f.bytes, f.sure⟩
def Ds.pl (d : Ds) : St := ⟨d.files.map Fv.pl, d.pieces, d.room, d.fused, d.fuse, d.down⟩
def St.names (s : St) : List ByteArray := s.files.map F.name
def St.power (s : St) : Bool := !(s.down || (s.fused && s.fuse == 0))
def St.spent (s : St) : St := { s with down := !s.power, fuse := if s.power && s.fused then s.fuse - 1 else s.fuse }
theorem names_pl (d : Ds) : d.pl.names = d.names := by simp [St.names, Ds.pl, Ds.names, Fv.pl]
theorem power_pl (d : Ds) : d.pl.power = d.power := rfl
theorem spent_pl (d : Ds) : d.spent.pl = d.pl.spent := rfl

def wait (n : ByteArray) (l : List Pc) : Nat := ((l.filter (isOf n)).map Pc.size).sum
def St.total (s : St) : Nat := (s.files.map fun f => f.bytes.length).sum

structure Ok (s : St) : Prop where
  rising : Rising s.names
  few : s.files.length ≤ 16
  room : s.room ≤ 60000
  fuse : s.fuse ≤ 9223372036854775807
  used : s.total ≤ 60000
  sizes : ∀ p ∈ s.pieces, 0 < p.size
  waits : ∀ f ∈ s.files, f.sure + wait f.name s.pieces = f.bytes.length
  named : ∀ p ∈ s.pieces, p.name ∈ s.names

theorem wait_nil (n : ByteArray) : wait n [] = 0 := rfl
theorem wait_cons (n : ByteArray) (p : Pc) (l : List Pc) : wait n (p :: l) = (if cmp p.name n = 0 then p.size else 0) + wait n l := by
  unfold wait isOf
  by_cases h : cmp p.name n = 0 <;> simp [h]
theorem wait_app (n : ByteArray) (l m : List Pc) : wait n (l ++ m) = wait n l + wait n m := by simp [wait]

theorem sum_zero {α : Type} (l : List α) (g : α → Nat) (h : ∀ x ∈ l, g x = 0) : (l.map g).sum = 0 := by
  induction l with
  | nil => rfl
  | cons a r ih =>
    simp only [List.map_cons, List.sum_cons]
    rw [h a List.mem_cons_self, ih fun x hx => h x (List.mem_cons_of_mem _ hx)]

theorem sum_hit (l : List ByteArray) (hn : l.Nodup) (x : ByteArray) (k : Nat) (hx : x ∈ l) : (l.map fun n => if cmp x n = 0 then k else 0).sum = k := by
  induction l with
  | nil => cases hx
  | cons a r ih =>
    rw [List.nodup_cons] at hn
    simp only [List.map_cons, List.sum_cons]
    by_cases h : cmp x a = 0
    · have e := cmp_zero.1 h
      subst e
      have h0 : (r.map fun n => if cmp x n = 0 then k else 0).sum = 0 := by
        refine sum_zero _ _ fun n hn' => if_neg ?_
        intro e
        exact hn.1 (cmp_zero.1 e ▸ hn')
      rw [if_pos h, h0]
      omega
    · rw [if_neg h, Nat.zero_add]
      refine ih hn.2 ?_
      rcases List.mem_cons.1 hx with e | e
      · exact absurd (cmp_zero.2 e) h
      · exact e

theorem sum_add_map {α : Type} (l : List α) (g h : α → Nat) : (l.map fun x => g x + h x).sum = (l.map g).sum + (l.map h).sum := by
  induction l with
  | nil => rfl
  | cons a r ih => simp only [List.map_cons, List.sum_cons, ih]; omega

theorem sum_waits (l : List ByteArray) (hn : l.Nodup) : ∀ ps : List Pc, (∀ p ∈ ps, p.name ∈ l) → (ps.map Pc.size).sum = (l.map fun n => wait n ps).sum
  | [], _ => (sum_zero l _ fun _ _ => rfl).symm
  | p :: r, h => by
    have ih := sum_waits l hn r (fun q hq => h q (List.mem_cons_of_mem _ hq))
    simp only [wait_cons, sum_add_map, List.map_cons, List.sum_cons, ih]
    rw [sum_hit l hn p.name p.size (h p List.mem_cons_self)]

theorem sum_le_map {α : Type} (l : List α) (g h : α → Nat) (hh : ∀ x ∈ l, g x ≤ h x) : (l.map g).sum ≤ (l.map h).sum := by
  induction l with
  | nil => exact Nat.le_refl _
  | cons a r ih =>
    simp only [List.map_cons, List.sum_cons]
    have := hh a List.mem_cons_self
    have := ih fun x hx => hh x (List.mem_cons_of_mem _ hx)
    omega

theorem Ok.sum {s : St} (h : Ok s) : (s.pieces.map Pc.size).sum ≤ s.total := by
  rw [sum_waits s.names h.rising.nodup s.pieces h.named]
  unfold St.names St.total
  rw [List.map_map]
  refine sum_le_map _ _ _ fun f hf => ?_
  have := h.waits f hf
  show wait f.name s.pieces ≤ _
  omega

theorem len_le_sum (l : List Pc) (h : ∀ p ∈ l, 0 < p.size) : l.length ≤ (l.map Pc.size).sum := by
  induction l with
  | nil => exact Nat.le_refl _
  | cons a r ih =>
    simp only [List.length_cons, List.map_cons, List.sum_cons]
    have := h a List.mem_cons_self
    have := ih fun x hx => h x (List.mem_cons_of_mem _ hx)
    omega

theorem Ok.pieces {s : St} (h : Ok s) : s.pieces.length ≤ 60000 := by
  have := len_le_sum _ h.sizes
  have := h.sum
  have := h.used
  omega

theorem mem_le_sum {α : Type} (l : List α) (g : α → Nat) {x : α} (hx : x ∈ l) : g x ≤ (l.map g).sum := by
  induction l with
  | nil => cases hx
  | cons a r ih =>
    simp only [List.map_cons, List.sum_cons]
    rcases List.mem_cons.1 hx with rfl | hx
    · omega
    · have := ih hx
      omega

theorem Ok.bytes {s : St} (h : Ok s) {f : F} (hf : f ∈ s.files) : f.bytes.length ≤ 60000 := by
  have := mem_le_sum s.files (fun f => f.bytes.length) hf
  have := h.used
  unfold St.total at this
  omega
theorem Ok.sure {s : St} (h : Ok s) {f : F} (hf : f ∈ s.files) : f.sure ≤ f.bytes.length := by
  have := h.waits f hf
  omega

theorem Ok.spent {s : St} (h : Ok s) : Ok s.spent := by
  refine ⟨h.rising, h.few, h.room, ?_, h.used, h.sizes, h.waits, h.named⟩
  have := h.fuse
  unfold St.spent
  simp only
  split <;> omega

/-- The first k of a file's bytes stay, and are sure. -/
def St.settle (s : St) (i k : Nat) : St := match s.files[i]? with
  | some f => { s with files := s.files.set i ⟨f.name, f.bytes.take k, k⟩, pieces := keepOf f.name s.pieces }
  | none => s
/-- A file is gone. -/
def St.drop (s : St) (i : Nat) : St := match s.files[i]? with
  | some f => { s with files := s.files.eraseIdx i, pieces := keepOf f.name s.pieces }
  | none => s

def St.len (s : St) (n : ByteArray) : Nat := match s.files[place s.names n]? with
  | some f => f.bytes.length
  | none => 0

def opSync (s : St) (n : ByteArray) : Int × St :=
  if s.power then if has s.names n then (0, s.spent.settle (place s.names n) (s.len n)) else (6, s.spent) else (12, s.spent)
def opCut (s : St) (n : ByteArray) (k : Int) : Int × St :=
  if s.power then if has s.names n then (0, s.spent.settle (place s.names n) (min (max k 0) (s.len n : Int)).toNat) else (6, s.spent) else (12, s.spent)
def opRemove (s : St) (n : ByteArray) : Int × St :=
  if s.power then if has s.names n then (0, s.spent.drop (place s.names n)) else (6, s.spent) else (12, s.spent)

theorem has_get {s : St} (hr : Rising s.names) {n : ByteArray} (h : has s.names n = true) : ∃ f, s.files[place s.names n]? = some f ∧ f.name = n ∧ f ∈ s.files := by
  obtain ⟨h1, h2⟩ := (place_mem hr n).1 (has_iff.1 h)
  have hl : place s.names n < s.files.length := by simpa [St.names] using h1
  refine ⟨s.files[place s.names n], List.getElem?_eq_getElem hl, ?_, List.getElem_mem hl⟩
  rw [getElem!_pos s.names (place s.names n) h1] at h2
  refine Eq.trans ?_ h2
  simp [St.names]
end Go.Proofs.YtajjcfacbnicnaaGreatDoor.Dk

/-
  Sync and Cut.
-/
namespace Go.Proofs.YtajjcfacbnicnaaGreatDoor.Dk
open Go.RowKit
set_option maxRecDepth 100000

theorem dhas_get {d : Ds} (hr : Rising d.names) {n : ByteArray} (h : has d.names n = true) : ∃ f, d.files[place d.names n]? = some f ∧ f.name = n ∧ f ∈ d.files := by
  obtain ⟨h1, h2⟩ := (place_mem hr n).1 (has_iff.1 h)
  have hl : place d.names n < d.files.length := by simpa [Ds.names] using h1
  refine ⟨d.files[place d.names n], List.getElem?_eq_getElem hl, ?_, List.getElem_mem hl⟩
  rw [getElem!_pos d.names (place d.names n) h1] at h2
  refine Eq.trans ?_ h2
  simp [Ds.names]

theorem Ok.rise {d : Ds} (h : Ok d.pl) : Rising d.names := by rw [← names_pl]; exact h.rising
theorem Ok.dfew {d : Ds} (h : Ok d.pl) : d.files.length ≤ 16 := by simpa [Ds.pl] using h.few
theorem Ok.dbytes {d : Ds} (h : Ok d.pl) {f : Fv} (hf : f ∈ d.files) : f.bytes.length ≤ 60000 := h.bytes (f := f.pl) (List.mem_map.2 ⟨f, hf, rfl⟩)
theorem pl_get {d : Ds} {i : Nat} {f : Fv} (h : d.files[i]? = some f) : d.pl.files[i]? = some f.pl := by
  show (d.files.map Fv.pl)[i]? = _
  rw [List.getElem?_map, h]
  rfl

theorem pl_settle {d : Ds} {i k : Nat} {f : Fv} {v' : Value} (hf : d.files[i]? = some f) : Ds.pl { d.spent with files := d.files.set i (f.settled k), pieces := keepOf f.name d.pieces, vp := v' } = d.pl.spent.settle i k := by
  have h1 : d.pl.spent.files[i]? = some f.pl := pl_get hf
  unfold St.settle
  rw [h1]
  simp only [Ds.pl, List.map_set]
  rfl

theorem foot_settle {d : Ds} {b i k : Nat} {f : Fv} {v' : Value} {l : List Pc} (hf : d.files[i]? = some f) (hv : v'.ownBlock = d.vp.ownBlock) (hc : (cutV f.v k).ownBlock = f.v.ownBlock) : Ds.foot b { d.spent with files := d.files.set i (f.settled k), pieces := l, vp := v' } = d.foot b := by
  unfold Ds.foot
  simp only
  rw [flatMap_set_same (fun f => ob f.v) d.files i f (f.settled k) hf (by show ob (cutV f.v k) = ob f.v; unfold ob; rw [hc])]
  unfold ob
  rw [hv]
  rfl

set_option maxHeartbeats 800000 in
theorem sync_any {w : World} {B b : Nat} {d : Ds} (h : Rep w B b d) (ok : Ok d.pl) (n : ByteArray) :
    Calls Tryz.prog 49 #[.pointer (some ⟨b, 0, none⟩), .string n] w fun e w' => e = .returned (.int .i64 (opSync d.pl n).1) ∧ ∃ d', Rep w' B b d' ∧ d'.pl = (opSync d.pl n).2 ∧ Step (d.foot b) (d'.foot b) w w' := by
  have ko := open_any h ok.fuse ok.rise (by have := ok.dfew; omega) n
  unfold opSync
  rw [power_pl, names_pl]
  cases hp : d.power with
  | false =>
    rw [hp] at ko
    simp only [Bool.false_and, Bool.false_eq_true, if_false] at ko ⊢
    clear h
    go_enter Tryz.func49, Tryz.ntmps49
    go_wp2_with (go_at_call 88; refine ko.mono ?_; rintro e w1 ⟨rfl, h1, s1⟩)
    go_ret
    exact ⟨rfl, d.spent, h1, rfl, s1⟩
  | true =>
    cases hh : has d.names n with
    | false =>
      rw [hp, hh] at ko
      simp only [Bool.and_false, Bool.false_eq_true, if_false, if_true] at ko ⊢
      clear h
      go_enter Tryz.func49, Tryz.ntmps49
      go_wp2_with (go_at_call 88; refine ko.mono ?_; rintro e w1 ⟨rfl, h1, s1⟩)
      go_ret
      exact ⟨rfl, d.spent, h1, rfl, s1⟩
    | true =>
      rw [hp, hh] at ko
      simp only [Bool.and_true, if_true] at ko ⊢
      obtain ⟨f, hf, hfn, hfm⟩ := dhas_get ok.rise hh
      generalize hi : place d.names n = i at *
      have hlt : i < d.files.length := (List.getElem?_eq_some_iff.1 hf).1
      have hlen : d.pl.len n = f.bytes.length := by
        unfold St.len
        rw [names_pl, hi, pl_get hf]
        rfl
      rw [hlen]
      obtain ⟨g, cap, ev, hcap, hcm, hg⟩ := h.vf_form hf
      have hfew := ok.dfew
      have hby := ok.dbytes hfm
      have ks : Aside (∀ u : World, Rep u B b d.spent → _) := fun (u : World) hu => settle_any (d := d.spent) (n := f.bytes.length) hu (by have := ok.pieces; exact Nat.le_trans this (by omega)) (by show d.files.length ≤ _; omega) hf (Nat.le_refl _) (by omega)
      have hfc : Aside (∀ u : World, Rep u B b d.spent → u.cell? ⟨b, 0, none⟩ = some (.slice (some ⟨g, 0, none⟩) d.files.length cap) ∧ u.cell? ⟨g, i * 3 + 1, none⟩ = some f.v) := fun (u : World) hu => ⟨by rw [← ev]; exact hu.c0, (hu.fcells (d := d.spent) hf hg).2.1⟩
      obtain ⟨a, c, ea⟩ := own_any (h.rows f hfm)
      have hcb : Aside ((cutV f.v f.bytes.length).ownBlock = f.v.ownBlock) := (own_cutV (h.rows f hfm) f.bytes.length (Nat.le_refl _)).2
      have HF : Aside (d.files[i]? = some f) := hf
      clear h hfn hfm hf hi hlen ev
      rw [ea] at hfc
      go_enter Tryz.func49, Tryz.ntmps49
      go_wp2_with (first
        | (go_at_call 88; refine ko.mono ?_; rintro e w1 ⟨rfl, h1, s1⟩; obtain ⟨x1, x2⟩ := hfc.out w1 h1)
        | (go_at_call 89; refine (ks.out _ h1).mono ?_; rintro e w2 ⟨rfl, v', hv, h2, s2⟩))
      go_ret
      refine ⟨rfl, _, h2, pl_settle HF.out, ?_⟩
      have fo : Ds.foot b { d.spent with files := d.files.set i (f.settled f.bytes.length), pieces := keepOf f.name d.pieces, vp := v' } = d.foot b := foot_settle HF.out hv hcb.out
      exact (s1.trans s2).trans (fo ▸ Step.refl _ _)
end Go.Proofs.YtajjcfacbnicnaaGreatDoor.Dk

/-
  Cut.
-/
namespace Go.Proofs.YtajjcfacbnicnaaGreatDoor.Dk
open Go.RowKit
set_option maxRecDepth 100000

theorem min_max_cases (k : Int) (l : Nat) : ∃ m : Nat, (min (max k 0) (l : Int)).toNat = m ∧ m ≤ l ∧ (m : Int) = min (max k 0) (l : Int) := ⟨_, rfl, by omega, by omega⟩

set_option maxHeartbeats 1600000 in
theorem cut_any {w : World} {B b : Nat} {d : Ds} (h : Rep w B b d) (ok : Ok d.pl) (n : ByteArray) (k : Int) :
    Calls Tryz.prog 56 #[.pointer (some ⟨b, 0, none⟩), .string n, .int .i64 k] w fun e w' => e = .returned (.int .i64 (opCut d.pl n k).1) ∧ ∃ d', Rep w' B b d' ∧ d'.pl = (opCut d.pl n k).2 ∧ Step (d.foot b) (d'.foot b) w w' := by
  have ko := open_any h ok.fuse ok.rise (by have := ok.dfew; omega) n
  unfold opCut
  rw [power_pl, names_pl]
  cases hp : d.power with
  | false =>
    rw [hp] at ko
    simp only [Bool.false_and, Bool.false_eq_true, if_false] at ko ⊢
    clear h
    go_enter Tryz.func56, Tryz.ntmps56
    go_wp2_with (go_at_call 88; refine ko.mono ?_; rintro e w1 ⟨rfl, h1, s1⟩)
    go_ret
    exact ⟨rfl, d.spent, h1, rfl, s1⟩
  | true =>
    cases hh : has d.names n with
    | false =>
      rw [hp, hh] at ko
      simp only [Bool.and_false, Bool.false_eq_true, if_false, if_true] at ko ⊢
      clear h
      go_enter Tryz.func56, Tryz.ntmps56
      go_wp2_with (go_at_call 88; refine ko.mono ?_; rintro e w1 ⟨rfl, h1, s1⟩)
      go_ret
      exact ⟨rfl, d.spent, h1, rfl, s1⟩
    | true =>
      rw [hp, hh] at ko
      simp only [Bool.and_true, if_true] at ko ⊢
      obtain ⟨f, hf, hfn, hfm⟩ := dhas_get ok.rise hh
      generalize hi : place d.names n = i at *
      have hlt : i < d.files.length := (List.getElem?_eq_some_iff.1 hf).1
      have hlen : d.pl.len n = f.bytes.length := by
        unfold St.len
        rw [names_pl, hi, pl_get hf]
        rfl
      rw [hlen]
      obtain ⟨m, em, hml, hm⟩ := min_max_cases k f.bytes.length
      rw [em]
      clear em
      obtain ⟨g, cap, ev, hcap, hcm, hg⟩ := h.vf_form hf
      have hfew := ok.dfew
      have hby := ok.dbytes hfm
      have ks : Aside (∀ u : World, Rep u B b d.spent → _) := fun (u : World) hu => settle_any (d := d.spent) (n := m) hu (by have := ok.pieces; exact Nat.le_trans this (by omega)) (by show d.files.length ≤ _; omega) hf hml (by omega)
      have hfc : Aside (∀ u : World, Rep u B b d.spent → u.cell? ⟨b, 0, none⟩ = some (.slice (some ⟨g, 0, none⟩) d.files.length cap) ∧ u.cell? ⟨g, i * 3 + 1, none⟩ = some f.v) := fun (u : World) hu => ⟨by rw [← ev]; exact hu.c0, (hu.fcells (d := d.spent) hf hg).2.1⟩
      obtain ⟨a, c, ea⟩ := own_any (h.rows f hfm)
      have hcb : Aside ((cutV f.v m).ownBlock = f.v.ownBlock) := (own_cutV (h.rows f hfm) m hml).2
      have HF : Aside (d.files[i]? = some f) := hf
      have fo : Aside (∀ v' : Value, v'.ownBlock = d.vp.ownBlock → Ds.foot b { d.spent with files := d.files.set i (f.settled m), pieces := keepOf f.name d.pieces, vp := v' } = d.foot b) := fun v' hv => foot_settle hf hv hcb.out
      clear h hfn hfm hf hi hlen ev
      rw [ea] at hfc
      generalize f.bytes.length = L at *
      rw [hm] at ks
      go_enter Tryz.func56, Tryz.ntmps56
      go_wp2_with (first
        | (go_at_call 88; refine ko.mono ?_; rintro e w1 ⟨rfl, h1, s1⟩; obtain ⟨x1, x2⟩ := hfc.out w1 h1)
        | (go_at_call 89; refine (ks.out _ h1).mono ?_; rintro e w2 ⟨rfl, v', hv, h2, s2⟩))
      go_ret
      exact ⟨rfl, _, h2, pl_settle HF.out, (s1.trans s2).trans (fo.out v' hv ▸ Step.refl _ _)⟩
end Go.Proofs.YtajjcfacbnicnaaGreatDoor.Dk

/-
  What is asked of a disk: Used, Waits, Holes, Down, Free, Read, Sure.
-/
namespace Go.Proofs.YtajjcfacbnicnaaGreatDoor.Dk
open Go.RowKit
set_option maxRecDepth 100000

theorem Rep.row {w : World} {B b : Nat} {d : Ds} (h : Rep w B b d) : ∃ a cap, d.vf = .slice a d.files.length cap ∧ ∀ t, t < d.files.length → ∃ g a' c', a = some ⟨g, 0, none⟩ ∧ w.cell? ⟨g, t * 3, none⟩ = some (.string d.files[t]!.name) ∧ w.cell? ⟨g, t * 3 + 1, none⟩ = some (.slice a' d.files[t]!.bytes.length c') ∧ w.cell? ⟨g, t * 3 + 2, none⟩ = some (.int .i64 (d.files[t]!.sure : Int)) := by
  obtain ⟨a, cap, e⟩ := own_any h.tab
  refine ⟨a, cap, e, fun t ht => ?_⟩
  obtain ⟨g, c', e', _, _, hg⟩ := own_form h.tab (by omega)
  have hf := getbang d.files t ht
  obtain ⟨c0, c1, c2⟩ := flat_at hf
  obtain ⟨a', c'', e''⟩ := own_any (h.rows _ (List.mem_of_getElem? hf))
  rw [e''] at c1
  rw [e] at e'
  injection e' with e1 e2 e3
  exact ⟨g, a', c'', e1, own_cell h.tab hg c0, own_cell h.tab hg c1, own_cell h.tab hg c2⟩

theorem Rep.prow {w : World} {B b : Nat} {d : Ds} (h : Rep w B b d) : ∃ a cap, d.vp = .slice a d.pieces.length cap ∧ ∀ t, t < d.pieces.length → ∃ g, a = some ⟨g, 0, none⟩ ∧ w.cell? ⟨g, t * 2, none⟩ = some (.string d.pieces[t]!.name) ∧ w.cell? ⟨g, t * 2 + 1, none⟩ = some (.int .i64 (d.pieces[t]!.size : Int)) := by
  obtain ⟨a, cap, e⟩ := own_any h.pcs
  refine ⟨a, cap, e, fun t ht => ?_⟩
  have := h.pcs
  rw [e] at this
  exact row_cells this t ht

def usedL (l : List Fv) : Nat := (l.map fun f => f.bytes.length).sum
theorem used_pl (d : Ds) : d.pl.total = usedL d.files := by
  unfold St.total usedL Ds.pl
  simp only [List.map_map]
  rfl
theorem used_next (l : List Fv) (k : Nat) (h : k < l.length) : usedL (l.take (k + 1)) = usedL (l.take k) + l[k]!.bytes.length := by
  rw [take_next l k h]
  simp [usedL]
theorem used_take (l : List Fv) (k : Nat) : usedL (l.take k) ≤ usedL l := by
  have := congrArg usedL (List.take_append_drop k l)
  unfold usedL at this ⊢
  rw [List.map_append, List.sum_append] at this
  omega

def sizeL (l : List Pc) : Nat := (l.map Pc.size).sum
theorem size_next (l : List Pc) (k : Nat) (h : k < l.length) : sizeL (l.take (k + 1)) = sizeL (l.take k) + l[k]!.size := by
  rw [take_next l k h]
  simp [sizeL]
theorem size_take (l : List Pc) (k : Nat) : sizeL (l.take k) ≤ sizeL l := by
  have := congrArg sizeL (List.take_append_drop k l)
  unfold sizeL at this ⊢
  rw [List.map_append, List.sum_append] at this
  omega
def St.late (s : St) : Nat := sizeL s.pieces

set_option maxHeartbeats 800000 in
theorem used_any {w : World} {B b : Nat} {d : Ds} (h : Rep w B b d) (ok : Ok d.pl) :
    Calls Tryz.prog 66 #[.pointer (some ⟨b, 0, none⟩)] w fun e w' => e = .returned (.int .i64 (d.pl.total : Nat)) ∧ Below w.heap.size w w' := by
  have c0 := h.c0
  obtain ⟨a, cap, ev, hc'⟩ := h.row
  have hc : Aside (∀ t, t < d.files.length → ∃ g a' c', a = some ⟨g, 0, none⟩ ∧ w.cell? ⟨g, t * 3, none⟩ = some (.string d.files[t]!.name) ∧ w.cell? ⟨g, t * 3 + 1, none⟩ = some (.slice a' d.files[t]!.bytes.length c') ∧ w.cell? ⟨g, t * 3 + 2, none⟩ = some (.int .i64 (d.files[t]!.sure : Int))) := hc'
  rw [ev] at c0
  have hu : usedL d.files ≤ 60000 := by rw [← used_pl]; exact ok.used
  rw [used_pl]
  have hfew := ok.dfew
  clear hc' h ok ev
  generalize d.files = l at *
  go_enter Tryz.func66, Tryz.ntmps66
  go_wp2
  go_loopg [3, 5, 13] l.length (fun gh s3 _ s13 wr => ∃ k : Nat, l.length - k ≤ gh ∧ k ≤ l.length ∧ s3 = .int .i64 (usedL (l.take k) : Nat) ∧ s13 = .int .i64 (k : Int) ∧ Below w.heap.size w wr)
  case atStart => exact ⟨0, by omega, by omega, rfl, rfl, Below.refl _ _⟩
  case round =>
    obtain ⟨k, hgh, hk, rfl, rfl, hb⟩ := hrel
    have hsz := hb.size
    by_cases hlt : k < l.length
    · have d3 : decide (k < l.length) = true := by simpa using hlt
      obtain ⟨g, a', c', rfl, e0, e1, e2⟩ := hc.out k hlt
      replace e0 := cell_below e0 hb
      replace e1 := cell_below e1 hb
      replace e2 := cell_below e2 hb
      have hn := used_next l k hlt
      have hle := used_take l (k + 1)
      generalize l[k]! = y at *
      have HN : Aside (usedL (l.take (k + 1)) = usedL (l.take k) + y.bytes.length) := hn
      have hadd : usedL (l.take k) + y.bytes.length ≤ 60000 := by omega
      clear hn hle
      go_wp2
      go_roundg (l.length - (k + 1))
      case measure => omega
      case rel => exact ⟨k + 1, Nat.le_refl _, by omega, by rw [HN.out]; go_num, by go_num, hb.alloc hsz _⟩
    · obtain rfl : k = l.length := by omega
      have d3 : decide (l.length < l.length) = false := by simp
      rw [List.take_of_length_le (Nat.le_refl _)]
      go_wp2
      go_ret
      exact ⟨rfl, hb⟩

set_option maxHeartbeats 800000 in
theorem waits_any {w : World} {B b : Nat} {d : Ds} (h : Rep w B b d) (ok : Ok d.pl) :
    Calls Tryz.prog 67 #[.pointer (some ⟨b, 0, none⟩)] w fun e w' => e = .returned (.int .i64 (d.pl.late : Nat)) ∧ Below w.heap.size w w' := by
  have c1 := h.c1
  obtain ⟨a, cap, ev, hc'⟩ := h.prow
  have hc : Aside (∀ t, t < d.pieces.length → ∃ g, a = some ⟨g, 0, none⟩ ∧ w.cell? ⟨g, t * 2, none⟩ = some (.string d.pieces[t]!.name) ∧ w.cell? ⟨g, t * 2 + 1, none⟩ = some (.int .i64 (d.pieces[t]!.size : Int))) := hc'
  rw [ev] at c1
  have hu : sizeL d.pieces ≤ 60000 := Nat.le_trans ok.sum ok.used
  have hfew : d.pieces.length ≤ 60000 := ok.pieces
  show Calls Tryz.prog 67 _ w fun e w' => e = .returned (.int .i64 (sizeL d.pieces : Nat)) ∧ Below w.heap.size w w'
  clear hc' h ok ev
  generalize d.pieces = l at *
  go_enter Tryz.func67, Tryz.ntmps67
  go_wp2
  go_loopg [3, 5, 13] l.length (fun gh s3 _ s13 wr => ∃ k : Nat, l.length - k ≤ gh ∧ k ≤ l.length ∧ s3 = .int .i64 (sizeL (l.take k) : Nat) ∧ s13 = .int .i64 (k : Int) ∧ Below w.heap.size w wr)
  case atStart => exact ⟨0, by omega, by omega, rfl, rfl, Below.refl _ _⟩
  case round =>
    obtain ⟨k, hgh, hk, rfl, rfl, hb⟩ := hrel
    have hsz := hb.size
    by_cases hlt : k < l.length
    · have d3 : decide (k < l.length) = true := by simpa using hlt
      obtain ⟨g, rfl, e0, e1⟩ := hc.out k hlt
      replace e0 := cell_below e0 hb
      replace e1 := cell_below e1 hb
      have hn := size_next l k hlt
      have hle := size_take l (k + 1)
      generalize l[k]! = y at *
      have HN : Aside (sizeL (l.take (k + 1)) = sizeL (l.take k) + y.size) := hn
      have hadd : sizeL (l.take k) + y.size ≤ 60000 := by omega
      clear hn hle
      go_wp2
      go_roundg (l.length - (k + 1))
      case measure => omega
      case rel => exact ⟨k + 1, Nat.le_refl _, by omega, by rw [HN.out]; go_num, by go_num, hb.alloc hsz _⟩
    · obtain rfl : k = l.length := by omega
      have d3 : decide (l.length < l.length) = false := by simp
      rw [List.take_of_length_le (Nat.le_refl _)]
      go_wp2
      go_ret
      exact ⟨rfl, hb⟩

theorem holes_any {w : World} {B b : Nat} {d : Ds} (h : Rep w B b d) (ok : Ok d.pl) :
    Calls Tryz.prog 69 #[.pointer (some ⟨b, 0, none⟩)] w fun e w' => e = .returned (.int .i64 (16 - (d.pl.files.length : Int))) ∧ w' = w := by
  have c0 := h.c0
  obtain ⟨a, cap, ev⟩ := own_any h.tab
  rw [ev] at c0
  have hfew := ok.dfew
  have hl : d.pl.files.length = d.files.length := by simp [Ds.pl]
  rw [hl]
  clear h ok ev hl
  generalize d.files.length = n at *
  go_enter Tryz.func69, Tryz.ntmps69
  go_wp2
  go_ret
  exact ⟨rfl, rfl⟩

theorem down_any {w : World} {B b : Nat} {d : Ds} (h : Rep w B b d) :
    Calls Tryz.prog 31 #[.pointer (some ⟨b, 0, none⟩)] w fun e w' => e = .returned (.bool d.pl.down) ∧ w' = w := by
  have c5 := h.c5
  clear h
  show Calls Tryz.prog 31 _ w fun e w' => e = .returned (.bool d.down) ∧ w' = w
  go_enter Tryz.func31, Tryz.ntmps31
  go_wp2
  go_ret
  exact ⟨rfl, rfl⟩

def St.free (s : St) : Nat := s.room - s.total

theorem Rep.drew {w : World} {B b : Nat} {d : Ds} (h : Rep w B b d) : Rep w.drew B b d := h.frame fun _ _ => rfl
theorem below_drew {w w' : World} (h : Below w.drew.heap.size w.drew w') : Below w.heap.size w w' := ⟨h.os, h.tape, h.output, h.size, h.block⟩

theorem free_any {w : World} {B b : Nat} {d : Ds} (h : Rep w B b d) (ok : Ok d.pl) :
    Calls Tryz.prog 68 #[.pointer (some ⟨b, 0, none⟩)] w fun e w' => e = .returned (.int .i64 (d.pl.free : Nat)) ∧ Below w.heap.size w w' := by
  have c2 := h.c2
  have ku := used_any h.drew ok
  have hr : d.room ≤ 60000 := ok.room
  have hu := ok.used
  have F : Aside (d.pl.free = d.room - d.pl.total) := (rfl : d.pl.free = d.room - d.pl.total)
  clear h ok
  generalize d.pl.total = T at *
  generalize d.room = R at *
  rw [F.out]
  have hw : IntKind.i64.wrap ((R : Int) - (T : Int)) = (R : Int) - (T : Int) := by rw [IntKind.wrap_i64]; omega
  go_enter Tryz.func68, Tryz.ntmps68
  go_wp2
  go_region_with (go_at_call 66; refine ku.mono ?_; rintro e w1 ⟨rfl, hb'⟩; have hb := below_drew hb'; have c2' := cell_below c2 hb)
  all_goals
    go_wp2
    go_ret
    refine ⟨?_, hb⟩
    show Ending.returned (Value.int .i64 (max ((R : Int) - (T : Int)) 0)) = _
    congr 2
    omega

theorem conv_row {w : World} {base : Nat} {v : Value} {l : List UInt8} (h : w.ownsRow base 5 1 v l.length (bcells l)) : (convert 46 9 v).run Tryz.prog w = .ok (.string ⟨l.toArray⟩) w := by
  rcases h.2 with ⟨rfl, h0⟩ | ⟨g, cap, cur, rfl, hg, hh, _⟩
  · have : l = [] := List.eq_nil_of_length_eq_zero h0
    subst this
    exact run_convert_bytes_nil w 46 5 Tryz.underlying46 Tryz.underlying5 0 0 9 Tryz.underlying9
  · have := run_convert_bytes_arg w 46 5 Tryz.underlying46 Tryz.underlying5 g 0 l.length cap (l.map fun b => (b.toNat : Int)) (by simp) (fun i hi => by
      have hi' : i < l.length := by simpa using hi
      rw [Nat.zero_add, h.cellAt i (by omega)]
      simp [bcells, List.getElem?_eq_getElem hi']) 9 Tryz.underlying9
    rw [this]
    congr 2
    unfold strOfNums
    congr 1
    simp only [List.map_map]
    congr 1
    conv => rhs; rw [← List.map_id l]
    refine List.map_congr_left fun x _ => ?_
    show UInt8.ofNat ((x.toNat : Int)).toNat = x
    simp

def St.bytesOf (s : St) (n : ByteArray) : List UInt8 := match s.files[place s.names n]? with
  | some f => f.bytes
  | none => []
def St.sureOf (s : St) (n : ByteArray) : Nat := match s.files[place s.names n]? with
  | some f => f.sure
  | none => 0
def opRead (s : St) (n : ByteArray) : ByteArray × Int := if has s.names n then (⟨(s.bytesOf n).toArray⟩, 0) else (⟨#[]⟩, 6)
def opSure (s : St) (n : ByteArray) : Nat := if has s.names n then s.sureOf n else 0

set_option maxHeartbeats 800000 in
theorem read_any {w : World} {B b : Nat} {d : Ds} (h : Rep w B b d) (ok : Ok d.pl) (n : ByteArray) :
    Calls Tryz.prog 63 #[.pointer (some ⟨b, 0, none⟩), .string n] w fun e w' => e = .returned (.tuple #[.string (opRead d.pl n).1, .int .i64 (opRead d.pl n).2]) ∧ Below w.heap.size w w' := by
  have kf := find_any h ok.rise (by have := ok.dfew; omega) n
  unfold opRead St.bytesOf
  rw [names_pl]
  cases hh : has d.names n with
  | false =>
    rw [hh] at kf
    clear h ok
    simp only [Bool.false_eq_true, if_false]
    go_enter Tryz.func63, Tryz.ntmps63
    go_wp2_with (go_at_call 54; refine kf.mono ?_; rintro e w1 ⟨rfl, hb⟩)
    go_ret2
    exact ⟨rfl, hb⟩
  | true =>
    rw [hh] at kf
    obtain ⟨f, hf, hfn, hfm⟩ := dhas_get ok.rise hh
    have hfp := pl_get hf
    simp only [if_true]
    rw [hfp]
    generalize place d.names n = i at *
    have hlt : i < d.files.length := (List.getElem?_eq_some_iff.1 hf).1
    obtain ⟨g, cap, ev, hcap, hcm, hg⟩ := h.vf_form hf
    have hfew := ok.dfew
    have hfc : Aside (∀ u : World, Rep u B b d → u.cell? ⟨b, 0, none⟩ = some (.slice (some ⟨g, 0, none⟩) d.files.length cap) ∧ u.cell? ⟨g, i * 3 + 1, none⟩ = some f.v) := fun (u : World) hu => ⟨by rw [← ev]; exact hu.c0, (hu.fcells hf hg).2.1⟩
    have hcv : Aside (∀ u : World, Rep u B b d → (convert 46 9 f.v).run Tryz.prog u = .ok (.string ⟨f.bytes.toArray⟩) u) := fun (u : World) hu => conv_row (hu.rows f hfm)
    obtain ⟨a, c, ea⟩ := own_any (h.rows f hfm)
    have H : Aside (Rep w B b d) := h
    rw [ea] at hfc hcv
    clear h ok hf hfn hfm hfp ev ea
    show Calls Tryz.prog 63 _ w fun e w' => e = .returned (.tuple #[.string ⟨f.bytes.toArray⟩, .int .i64 0]) ∧ _
    go_enter Tryz.func63, Tryz.ntmps63
    go_wp2_with (go_at_call 54; refine kf.mono ?_; rintro e w1 ⟨rfl, hb⟩; obtain ⟨x1, x2⟩ := hfc.out w1 (H.out.below hb); have x3 := hcv.out w1 (H.out.below hb))
    go_ret2
    exact ⟨rfl, hb⟩

set_option maxHeartbeats 800000 in
theorem sure_any {w : World} {B b : Nat} {d : Ds} (h : Rep w B b d) (ok : Ok d.pl) (n : ByteArray) :
    Calls Tryz.prog 30 #[.pointer (some ⟨b, 0, none⟩), .string n] w fun e w' => e = .returned (.int .i64 (opSure d.pl n : Nat)) ∧ Below w.heap.size w w' := by
  have kf := find_any h ok.rise (by have := ok.dfew; omega) n
  unfold opSure St.sureOf
  rw [names_pl]
  cases hh : has d.names n with
  | false =>
    rw [hh] at kf
    clear h ok
    simp only [Bool.false_eq_true, if_false]
    go_enter Tryz.func30, Tryz.ntmps30
    go_wp2_with (go_at_call 54; refine kf.mono ?_; rintro e w1 ⟨rfl, hb⟩)
    go_ret
    exact ⟨rfl, hb⟩
  | true =>
    rw [hh] at kf
    obtain ⟨f, hf, hfn, hfm⟩ := dhas_get ok.rise hh
    have hfp := pl_get hf
    simp only [if_true]
    rw [hfp]
    generalize place d.names n = i at *
    have hlt : i < d.files.length := (List.getElem?_eq_some_iff.1 hf).1
    obtain ⟨g, cap, ev, hcap, hcm, hg⟩ := h.vf_form hf
    have hfew := ok.dfew
    have hfc : Aside (∀ u : World, Rep u B b d → u.cell? ⟨b, 0, none⟩ = some (.slice (some ⟨g, 0, none⟩) d.files.length cap) ∧ u.cell? ⟨g, i * 3 + 2, none⟩ = some (.int .i64 (f.sure : Int))) := fun (u : World) hu => ⟨by rw [← ev]; exact hu.c0, (hu.fcells hf hg).2.2⟩
    have H : Aside (Rep w B b d) := h
    clear h ok hf hfn hfm hfp ev
    show Calls Tryz.prog 30 _ w fun e w' => e = .returned (.int .i64 (f.sure : Nat)) ∧ _
    go_enter Tryz.func30, Tryz.ntmps30
    go_wp2_with (go_at_call 54; refine kf.mono ?_; rintro e w1 ⟨rfl, hb⟩; obtain ⟨x1, x2⟩ := hfc.out w1 (H.out.below hb))
    go_ret
    exact ⟨rfl, hb⟩
end Go.Proofs.YtajjcfacbnicnaaGreatDoor.Dk

/-
  Room, Fuse, New; nobody's disk.
-/
namespace Go.Proofs.YtajjcfacbnicnaaGreatDoor.Dk
open Go.RowKit
set_option maxRecDepth 100000

def opRoom (s : St) (n : Int) : St := { s with room := (min (max n 0) 60000).toNat }
def opFuse (s : St) (n : Int) : St := if s.down then s else { s with fused := decide (0 ≤ n), fuse := n.toNat }

theorem Ok.opRoom {s : St} (h : Ok s) (n : Int) : Ok (opRoom s n) := ⟨h.rising, h.few, by show (min (max n 0) 60000).toNat ≤ 60000; omega, h.fuse, h.used, h.sizes, h.waits, h.named⟩
theorem Ok.opFuse {s : St} (h : Ok s) {n : Int} (hn : n ≤ 9223372036854775807) : Ok (opFuse s n) := by
  unfold YtajjcfacbnicnaaGreatDoor.Dk.opFuse
  split
  · exact h
  · exact ⟨h.rising, h.few, h.room, by show n.toNat ≤ _; omega, h.used, h.sizes, h.waits, h.named⟩

theorem room_any {w : World} {B b : Nat} {d : Ds} (h : Rep w B b d) (n : Int) :
    Calls Tryz.prog 27 #[.pointer (some ⟨b, 0, none⟩), .int .i64 n] w fun e w' => e = .returned (.tuple #[]) ∧ ∃ d', Rep w' B b d' ∧ d'.pl = opRoom d.pl n ∧ Step (d.foot b) (d'.foot b) w w' := by
  have c2 := h.c2
  have f2 := h.fz 2
  have A : Aside (Rep w B b d) := h
  obtain ⟨m, hm⟩ : ∃ m : Nat, (m : Int) = min (max n 0) 60000 := ⟨(min (max n 0) 60000).toNat, by omega⟩
  have hm' : (min (max n 0) 60000).toNat = m := by omega
  unfold opRoom
  rw [hm']
  have HM : Aside ((m : Int) = min (max n 0) 60000) := hm
  clear h hm hm'
  go_enter Tryz.func27, Tryz.ntmps27
  go_wp2
  go_end0
  refine ⟨rfl, { d with room := m }, A.out.scal rfl rfl rfl rfl (set_same A.out.blk ?_) (fun k hk => Below.heap_setCell _ _ _ _ hk), rfl, Step.setb _ foot_b _ _⟩
  simp [Ds.cells, HM.out]

theorem fuse_any {w : World} {B b : Nat} {d : Ds} (h : Rep w B b d) (n : Int) :
    Calls Tryz.prog 26 #[.pointer (some ⟨b, 0, none⟩), .int .i64 n] w fun e w' => e = .returned (.tuple #[]) ∧ ∃ d', Rep w' B b d' ∧ d'.pl = opFuse d.pl n ∧ Step (d.foot b) (d'.foot b) w w' := by
  have c3 := h.c3
  have c4 := h.c4
  have c5 := h.c5
  have f3 := h.fz 3
  have f4 := h.fz 4
  have A : Aside (Rep w B b d) := h
  have e1 : (max n 0) = ((n.toNat : Nat) : Int) := by omega
  have E1 : Aside ((max n 0) = ((n.toNat : Nat) : Int)) := e1
  unfold opFuse
  show Calls Tryz.prog 26 _ w fun e w' => e = .returned (.tuple #[]) ∧ ∃ d', Rep w' B b d' ∧ d'.pl = (if d.down then d.pl else _) ∧ Step (d.foot b) (d'.foot b) w w'
  clear h e1
  cases hd : d.down with
  | true =>
    rw [hd] at c5
    go_enter Tryz.func26, Tryz.ntmps26
    go_wp2
    try simp only [Exit.inBlock, Exit.then]
    refine bodyPost_ret (results_none rfl _ _ _) rfl ?_
    exact ⟨rfl, d, A.out, by simp, Step.refl _ _⟩
  | false =>
    rw [hd] at c5
    go_enter Tryz.func26, Tryz.ntmps26
    go_wp2
    go_end0
    refine ⟨rfl, { d with fused := decide (0 ≤ n), fuse := n.toNat }, A.out.scal rfl rfl rfl rfl (set_same (set_same A.out.blk rfl) ?_) (fun k hk => (Below.heap_setCell _ _ _ _ hk).trans (Below.heap_setCell _ _ _ _ hk)), by simp [Ds.pl], (Step.setb _ foot_b _ _).trans (Step.setb _ foot_b _ _)⟩
    rw [E1.out]
    rfl

def emptySt : St := ⟨[], [], 0, false, 0, false⟩

theorem new_any (n : Int) (w : World) (B : Nat) (hB : B ≤ w.heap.size) :
    Calls Tryz.prog 9 #[.int .i64 n] w fun e w' => ∃ b d, e = .returned (.pointer (some ⟨b, 0, none⟩)) ∧ Rep w' B b d ∧ d.pl = opRoom emptySt n ∧ (∀ k ∈ d.foot b, w.heap.size ≤ k) ∧ Below w.heap.size w w' := by
  have kr : Aside (∀ u : World, Rep u B w.heap.size ⟨[], [], .slice none 0 0, .slice none 0 0, 0, false, 0, false⟩ → _) := fun (u : World) hu => room_any hu n
  have h0 : Aside (Rep (w.alloc (.cells #[.slice none 0 0, .slice none 0 0, .int .i64 0, .bool false, .int .i64 0, .bool false] 68)) B w.heap.size ⟨[], [], .slice none 0 0, .slice none 0 0, 0, false, 0, false⟩) :=
    ⟨hB, heap_alloc_new w _, World.ownsRow_nil _ _ _ _, World.ownsRow_nil _ _ _ _, fun f hf => by simp at hf, by simp [Ds.foot, ob, Value.ownBlock]⟩
  go_enter Tryz.func9, Tryz.ntmps9
  go_wp2_with (go_at_call 27; refine (kr.out _ h0.out).mono ?_; rintro e w1 ⟨rfl, d, hr, hp, hs⟩)
  go_ret
  refine ⟨w.heap.size, d, rfl, hr, hp, fun k hk => ?_, ?_⟩
  · rcases hs.sub k hk with h | h
    · simp [Ds.foot, ob, Value.ownBlock] at h
      omega
    · have : w.heap.size + 1 ≤ k := by simpa using h
      omega
  · exact ((Below.refl w.heap.size w).alloc (Nat.le_refl _) _).trans (hs.below (fun k hk => by simp [Ds.foot, ob, Value.ownBlock] at hk; omega) (by simp))
end Go.Proofs.YtajjcfacbnicnaaGreatDoor.Dk
