/-
  A disk as plain data, and what each call makes of it, as the program does it.
-/
import Derived.Test.YtblhkhgcaheplaaGreatDoorDW8
namespace Go.Proofs.YtblhkhgcaheplaaGreatDoor.Dk
open Go.RowKit
set_option maxRecDepth 100000

structure F where
  name : ByteArray
  bytes : List UInt8
  sure : Nat

structure St where
  files : List F
  pieces : List Pc
  room : Nat
  fused : Bool
  fuse : Nat
  down : Bool

def Fv.pl (f : Fv) : F := ⟨f.name, f.bytes, f.sure⟩
def Ds.pl (d : Ds) : St := ⟨d.files.map Fv.pl, d.pieces, d.room, d.fused, d.fuse, d.down⟩
def St.names (s : St) : List ByteArray := s.files.map F.name
def St.power (s : St) : Bool := !(s.down || (s.fused && s.fuse == 0))
def St.spent (s : St) : St := { s with down := !s.power, fuse := if s.power && s.fused then s.fuse - 1 else s.fuse }
theorem names_pl (d : Ds) : d.pl.names = d.names := by simp [St.names, Ds.pl, Ds.names, Fv.pl]
theorem power_pl (d : Ds) : d.pl.power = d.power := rfl
theorem spent_pl (d : Ds) : d.spent.pl = d.pl.spent := rfl

def wait (n : ByteArray) (l : List Pc) : Nat := ((l.filter (isOf n)).map Pc.size).sum
def St.total (s : St) : Nat := (s.files.map fun f => f.bytes.length).sum

structure Ok (s : St) : Prop where
  rising : Rising s.names
  few : s.files.length ≤ 16
  room : s.room ≤ 60000
  fuse : s.fuse ≤ 9223372036854775807
  used : s.total ≤ 60000
  sizes : ∀ p ∈ s.pieces, 0 < p.size
  waits : ∀ f ∈ s.files, f.sure + wait f.name s.pieces = f.bytes.length
  named : ∀ p ∈ s.pieces, p.name ∈ s.names

theorem wait_nil (n : ByteArray) : wait n [] = 0 := rfl
theorem wait_cons (n : ByteArray) (p : Pc) (l : List Pc) : wait n (p :: l) = (if cmp p.name n = 0 then p.size else 0) + wait n l := by
  unfold wait isOf
  by_cases h : cmp p.name n = 0 <;> simp [h]
theorem wait_app (n : ByteArray) (l m : List Pc) : wait n (l ++ m) = wait n l + wait n m := by simp [wait]

theorem sum_zero {α : Type} (l : List α) (g : α → Nat) (h : ∀ x ∈ l, g x = 0) : (l.map g).sum = 0 := by
  induction l with
  | nil => rfl
  | cons a r ih =>
    simp only [List.map_cons, List.sum_cons]
    rw [h a List.mem_cons_self, ih fun x hx => h x (List.mem_cons_of_mem _ hx)]

theorem sum_hit (l : List ByteArray) (hn : l.Nodup) (x : ByteArray) (k : Nat) (hx : x ∈ l) : (l.map fun n => if cmp x n = 0 then k else 0).sum = k := by
  induction l with
  | nil => cases hx
  | cons a r ih =>
    rw [List.nodup_cons] at hn
    simp only [List.map_cons, List.sum_cons]
    by_cases h : cmp x a = 0
    · have e := cmp_zero.1 h
      subst e
      have h0 : (r.map fun n => if cmp x n = 0 then k else 0).sum = 0 := by
        refine sum_zero _ _ fun n hn' => if_neg ?_
        intro e
        exact hn.1 (cmp_zero.1 e ▸ hn')
      rw [if_pos h, h0]
      omega
    · rw [if_neg h, Nat.zero_add]
      refine ih hn.2 ?_
      rcases List.mem_cons.1 hx with e | e
      · exact absurd (cmp_zero.2 e) h
      · exact e

theorem sum_add_map {α : Type} (l : List α) (g h : α → Nat) : (l.map fun x => g x + h x).sum = (l.map g).sum + (l.map h).sum := by
  induction l with
  | nil => rfl
  | cons a r ih => simp only [List.map_cons, List.sum_cons, ih]; omega

theorem sum_waits (l : List ByteArray) (hn : l.Nodup) : ∀ ps : List Pc, (∀ p ∈ ps, p.name ∈ l) → (ps.map Pc.size).sum = (l.map fun n => wait n ps).sum
  | [], _ => (sum_zero l _ fun _ _ => rfl).symm
  | p :: r, h => by
    have ih := sum_waits l hn r (fun q hq => h q (List.mem_cons_of_mem _ hq))
    simp only [wait_cons, sum_add_map, List.map_cons, List.sum_cons, ih]
    rw [sum_hit l hn p.name p.size (h p List.mem_cons_self)]

theorem sum_le_map {α : Type} (l : List α) (g h : α → Nat) (hh : ∀ x ∈ l, g x ≤ h x) : (l.map g).sum ≤ (l.map h).sum := by
  induction l with
  | nil => exact Nat.le_refl _
  | cons a r ih =>
    simp only [List.map_cons, List.sum_cons]
    have := hh a List.mem_cons_self
    have := ih fun x hx => hh x (List.mem_cons_of_mem _ hx)
    omega

theorem Ok.sum {s : St} (h : Ok s) : (s.pieces.map Pc.size).sum ≤ s.total := by
  rw [sum_waits s.names h.rising.nodup s.pieces h.named]
  unfold St.names St.total
  rw [List.map_map]
  refine sum_le_map _ _ _ fun f hf => ?_
  have := h.waits f hf
  show wait f.name s.pieces ≤ _
  omega

theorem len_le_sum (l : List Pc) (h : ∀ p ∈ l, 0 < p.size) : l.length ≤ (l.map Pc.size).sum := by
  induction l with
  | nil => exact Nat.le_refl _
  | cons a r ih =>
    simp only [List.length_cons, List.map_cons, List.sum_cons]
    have := h a List.mem_cons_self
    have := ih fun x hx => h x (List.mem_cons_of_mem _ hx)
    omega

theorem Ok.pieces {s : St} (h : Ok s) : s.pieces.length ≤ 60000 := by
  have := len_le_sum _ h.sizes
  have := h.sum
  have := h.used
  omega

theorem mem_le_sum {α : Type} (l : List α) (g : α → Nat) {x : α} (hx : x ∈ l) : g x ≤ (l.map g).sum := by
  induction l with
  | nil => cases hx
  | cons a r ih =>
    simp only [List.map_cons, List.sum_cons]
    rcases List.mem_cons.1 hx with rfl | hx
    · omega
    · have := ih hx
      omega

theorem Ok.bytes {s : St} (h : Ok s) {f : F} (hf : f ∈ s.files) : f.bytes.length ≤ 60000 := by
  have := mem_le_sum s.files (fun f => f.bytes.length) hf
  have := h.used
  unfold St.total at this
  omega
theorem Ok.sure {s : St} (h : Ok s) {f : F} (hf : f ∈ s.files) : f.sure ≤ f.bytes.length := by
  have := h.waits f hf
  omega

theorem Ok.spent {s : St} (h : Ok s) : Ok s.spent := by
  refine ⟨h.rising, h.few, h.room, ?_, h.used, h.sizes, h.waits, h.named⟩
  have := h.fuse
  unfold St.spent
  simp only
  split <;> omega

/-- The first k of a file's bytes stay, and are sure. -/
def St.settle (s : St) (i k : Nat) : St := match s.files[i]? with
  | some f => { s with files := s.files.set i ⟨f.name, f.bytes.take k, k⟩, pieces := keepOf f.name s.pieces }
  | none => s
/-- A file is gone. -/
def St.drop (s : St) (i : Nat) : St := match s.files[i]? with
  | some f => { s with files := s.files.eraseIdx i, pieces := keepOf f.name s.pieces }
  | none => s

def St.len (s : St) (n : ByteArray) : Nat := match s.files[place s.names n]? with
  | some f => f.bytes.length
  | none => 0

def opSync (s : St) (n : ByteArray) : Int × St :=
  if s.power then if has s.names n then (0, s.spent.settle (place s.names n) (s.len n)) else (6, s.spent) else (12, s.spent)
def opCut (s : St) (n : ByteArray) (k : Int) : Int × St :=
  if s.power then if has s.names n then (0, s.spent.settle (place s.names n) (min (max k 0) (s.len n : Int)).toNat) else (6, s.spent) else (12, s.spent)
def opRemove (s : St) (n : ByteArray) : Int × St :=
  if s.power then if has s.names n then (0, s.spent.drop (place s.names n)) else (6, s.spent) else (12, s.spent)

theorem has_get {s : St} (hr : Rising s.names) {n : ByteArray} (h : has s.names n = true) : ∃ f, s.files[place s.names n]? = some f ∧ f.name = n ∧ f ∈ s.files := by
  obtain ⟨h1, h2⟩ := (place_mem hr n).1 (has_iff.1 h)
  have hl : place s.names n < s.files.length := by simpa [St.names] using h1
  refine ⟨s.files[place s.names n], List.getElem?_eq_getElem hl, ?_, List.getElem_mem hl⟩
  rw [getElem!_pos s.names (place s.names n) h1] at h2
  refine Eq.trans ?_ h2
  simp [St.names]
end Go.Proofs.YtblhkhgcaheplaaGreatDoor.Dk
