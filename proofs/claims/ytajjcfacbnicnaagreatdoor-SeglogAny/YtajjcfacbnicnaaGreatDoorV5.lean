/-
  YtajjcfacbnicnaaGreatDoor: the texts DR1, DR2, DR3, one behind the other.
-/
import Derived.Test.YtajjcfacbnicnaaGreatDoorV4
/-
  A disk of the document in memory: its block, the table of its files, their bytes and places.
-/
namespace Go.Proofs.YtajjcfacbnicnaaGreatDoor.Dk
open Go.RowKit
set_option maxRecDepth 100000

structure Gv where
  name : ByteArray
  bytes : List UInt8
  late : List Nat
  vb : Value
  vl : Value
instance : Inhabited Gv := ⟨⟨⟨#[]⟩, [], [], .slice none 0 0, .slice none 0 0⟩⟩

def Gv.cells (f : Gv) : List Value := [.string f.name, f.vb, f.vl]
def lcells (l : List Nat) : List Value := l.map fun n : Nat => Value.int .i64 (n : Int)
def Gv.obs (f : Gv) : List Nat := ob f.vb ++ ob f.vl

structure Rs where
  files : List Gv
  vf : Value
  count : Nat
  most : Nat
  left : Int
  down : Bool
def Rs.cells (d : Rs) : Array Value := #[d.vf, .int .i64 (d.count : Int), .int .i64 (d.most : Int), .int .i64 d.left, .bool d.down]
def Rs.foot (b : Nat) (d : Rs) : List Nat := b :: (ob d.vf ++ d.files.flatMap Gv.obs)
def Rs.names (d : Rs) : List ByteArray := d.files.map Gv.name

structure RRep (w : World) (B b : Nat) (d : Rs) : Prop where
  ge : B ≤ b
  blk : w.heap[b]? = some (.cells d.cells 71 (0, 0))
  tab : w.ownsRow B 101 3 d.vf d.files.length (d.files.flatMap Gv.cells)
  rb : ∀ f ∈ d.files, w.ownsRow B 5 1 f.vb f.bytes.length (bcells f.bytes)
  rl : ∀ f ∈ d.files, w.ownsRow B 3 1 f.vl f.late.length (lcells f.late)
  nodup : (d.foot b).Nodup

theorem rfoot_b {b : Nat} {d : Rs} : b ∈ d.foot b := List.mem_cons_self
theorem rfoot_vf {b k : Nat} {d : Rs} (h : d.vf.ownBlock = some k) : k ∈ d.foot b := List.mem_cons_of_mem _ (List.mem_append_left _ (mem_ob.2 h))
theorem rfoot_f {b k : Nat} {d : Rs} {f : Gv} (hf : f ∈ d.files) (h : k ∈ f.obs) : k ∈ d.foot b := List.mem_cons_of_mem _ (List.mem_append_right _ (List.mem_flatMap.2 ⟨f, hf, h⟩))
theorem obs_b {f : Gv} {k : Nat} (h : f.vb.ownBlock = some k) : k ∈ f.obs := List.mem_append_left _ (mem_ob.2 h)
theorem obs_l {f : Gv} {k : Nat} (h : f.vl.ownBlock = some k) : k ∈ f.obs := List.mem_append_right _ (mem_ob.2 h)
theorem rfoot_cases {b k : Nat} {d : Rs} (h : k ∈ d.foot b) : k = b ∨ d.vf.ownBlock = some k ∨ ∃ f ∈ d.files, f.vb.ownBlock = some k ∨ f.vl.ownBlock = some k := by
  rcases List.mem_cons.1 h with h | h
  · exact .inl h
  · rcases List.mem_append.1 h with h | h
    · exact .inr (.inl (mem_ob.1 h))
    · obtain ⟨f, hf, hk⟩ := List.mem_flatMap.1 h
      rcases List.mem_append.1 hk with hk | hk
      · exact .inr (.inr ⟨f, hf, .inl (mem_ob.1 hk)⟩)
      · exact .inr (.inr ⟨f, hf, .inr (mem_ob.1 hk)⟩)

theorem RRep.frame {w w' : World} {B b : Nat} {d : Rs} (h : RRep w B b d) (hf : ∀ k ∈ d.foot b, w'.heap[k]? = w.heap[k]?) : RRep w' B b d where
  ge := h.ge
  blk := (hf b rfoot_b).trans h.blk
  tab := own_frame h.tab fun _ hk => hf _ (rfoot_vf hk)
  rb := fun f hm => own_frame (h.rb f hm) fun _ hk => hf _ (rfoot_f hm (obs_b hk))
  rl := fun f hm => own_frame (h.rl f hm) fun _ hk => hf _ (rfoot_f hm (obs_l hk))
  nodup := h.nodup
theorem RRep.lt {w : World} {B b : Nat} {d : Rs} (h : RRep w B b d) : ∀ k ∈ d.foot b, B ≤ k ∧ k < w.heap.size := by
  intro k hk
  rcases rfoot_cases hk with rfl | hk | ⟨f, hf, hk | hk⟩
  · exact ⟨h.ge, (Array.getElem?_eq_some_iff.1 h.blk).1⟩
  · exact h.tab.lt k hk
  · exact (h.rb f hf).lt k hk
  · exact (h.rl f hf).lt k hk
theorem RRep.below {w w' : World} {B b : Nat} {d : Rs} (h : RRep w B b d) (hb : Below w.heap.size w w') : RRep w' B b d := h.frame fun k hk => hb.block k (h.lt k hk).2
theorem RRep.drew {w : World} {B b : Nat} {d : Rs} (h : RRep w B b d) : RRep w.drew B b d := h.frame fun _ _ => rfl
theorem RRep.b_lt {w : World} {B b : Nat} {d : Rs} (h : RRep w B b d) : b < w.heap.size := (h.lt b rfoot_b).2
theorem RRep.c0 {w : World} {B b : Nat} {d : Rs} (h : RRep w B b d) : w.cell? ⟨b, 0, none⟩ = some d.vf := by rw [cell_of_row w b 0 _ _ _ h.blk]; rfl
theorem RRep.c1 {w : World} {B b : Nat} {d : Rs} (h : RRep w B b d) : w.cell? ⟨b, 1, none⟩ = some (.int .i64 (d.count : Int)) := by rw [cell_of_row w b 1 _ _ _ h.blk]; rfl
theorem RRep.c2 {w : World} {B b : Nat} {d : Rs} (h : RRep w B b d) : w.cell? ⟨b, 2, none⟩ = some (.int .i64 (d.most : Int)) := by rw [cell_of_row w b 2 _ _ _ h.blk]; rfl
theorem RRep.c3 {w : World} {B b : Nat} {d : Rs} (h : RRep w B b d) : w.cell? ⟨b, 3, none⟩ = some (.int .i64 d.left) := by rw [cell_of_row w b 3 _ _ _ h.blk]; rfl
theorem RRep.c4 {w : World} {B b : Nat} {d : Rs} (h : RRep w B b d) : w.cell? ⟨b, 4, none⟩ = some (.bool d.down) := by rw [cell_of_row w b 4 _ _ _ h.blk]; rfl
theorem RRep.fz {w : World} {B b : Nat} {d : Rs} (h : RRep w B b d) (j : Nat) : w.frozen? ⟨b, j, none⟩ = false := frozen_of_row w b j _ _ h.blk

theorem RRep.b_vf {w : World} {B b : Nat} {d : Rs} (h : RRep w B b d) {k : Nat} (hk : d.vf.ownBlock = some k) : k ≠ b := fun e =>
  (List.nodup_cons.1 h.nodup).1 (List.mem_append_left _ (mem_ob.2 (e ▸ hk)))
theorem RRep.b_f {w : World} {B b : Nat} {d : Rs} (h : RRep w B b d) {f : Gv} (hf : f ∈ d.files) {k : Nat} (hk : k ∈ f.obs) : k ≠ b := fun e =>
  (List.nodup_cons.1 h.nodup).1 (List.mem_append_right _ (List.mem_flatMap.2 ⟨f, hf, e ▸ hk⟩))
theorem RRep.vf_f {w : World} {B b : Nat} {d : Rs} (h : RRep w B b d) {f : Gv} (hf : f ∈ d.files) {k : Nat} (hk : d.vf.ownBlock = some k) : k ∉ f.obs := fun e =>
  app_ne (List.nodup_cons.1 h.nodup).2 (mem_ob.2 hk) (List.mem_flatMap.2 ⟨f, hf, e⟩)

theorem gflat_len (l : List Gv) : (l.flatMap Gv.cells).length = l.length * 3 := by
  induction l with
  | nil => rfl
  | cons a r ih => simp [List.flatMap_cons, ih, Gv.cells]; omega
theorem gflat_at : ∀ {l : List Gv} {i : Nat} {f : Gv}, l[i]? = some f → (l.flatMap Gv.cells)[i * 3]? = some (.string f.name) ∧ (l.flatMap Gv.cells)[i * 3 + 1]? = some f.vb ∧ (l.flatMap Gv.cells)[i * 3 + 2]? = some f.vl
  | [], i, f, h => by simp at h
  | a :: r, 0, f, h => by
    simp at h
    subst h
    simp [List.flatMap_cons, Gv.cells]
  | a :: r, i + 1, f, h => by
    have ih := gflat_at (l := r) (i := i) (f := f) (by simpa using h)
    simp only [List.flatMap_cons]
    rw [show (i + 1) * 3 = i * 3 + 3 by omega, show i * 3 + 3 + 1 = (i * 3 + 1) + 3 by omega, show i * 3 + 3 + 2 = (i * 3 + 2) + 3 by omega]
    have e : ∀ k, (a.cells ++ r.flatMap Gv.cells)[k + 3]? = (r.flatMap Gv.cells)[k]? := fun k => by
      rw [List.getElem?_append_right (by simp [Gv.cells])]
      congr 1
    rw [e, e, e]
    exact ih
theorem gflat_setb : ∀ (l : List Gv) (i : Nat) (f g : Gv), l[i]? = some f → g.name = f.name → g.vl = f.vl → (l.set i g).flatMap Gv.cells = (l.flatMap Gv.cells).set (i * 3 + 1) g.vb
  | [], i, f, g, h, _, _ => by simp at h
  | a :: r, 0, f, g, h, hn, hs => by
    simp at h
    subst h
    simp [List.flatMap_cons, Gv.cells, hn, hs]
  | a :: r, i + 1, f, g, h, hn, hs => by
    have ih := gflat_setb r i f g (by simpa using h) hn hs
    simp only [List.set_cons_succ, List.flatMap_cons, ih]
    rw [show (i + 1) * 3 + 1 = (i * 3 + 1) + 3 by omega]
    simp [Gv.cells]
theorem gflat_setl : ∀ (l : List Gv) (i : Nat) (f g : Gv), l[i]? = some f → g.name = f.name → g.vb = f.vb → (l.set i g).flatMap Gv.cells = (l.flatMap Gv.cells).set (i * 3 + 2) g.vl
  | [], i, f, g, h, _, _ => by simp at h
  | a :: r, 0, f, g, h, hn, hs => by
    simp at h
    subst h
    simp [List.flatMap_cons, Gv.cells, hn, hs]
  | a :: r, i + 1, f, g, h, hn, hs => by
    have ih := gflat_setl r i f g (by simpa using h) hn hs
    simp only [List.set_cons_succ, List.flatMap_cons, ih]
    rw [show (i + 1) * 3 + 2 = (i * 3 + 2) + 3 by omega]
    simp [Gv.cells]

theorem RRep.vf_form {w : World} {B b i : Nat} {d : Rs} {f : Gv} (h : RRep w B b d) (hf : d.files[i]? = some f) : ∃ g cap, d.vf = .slice (some ⟨g, 0, none⟩) d.files.length cap ∧ d.files.length ≤ cap ∧ cap ≤ maxLen ∧ d.vf.ownBlock = some g := by
  have := (List.getElem?_eq_some_iff.1 hf).1
  exact own_form h.tab (by omega)
theorem RRep.fcells {w : World} {B b i g : Nat} {d : Rs} {f : Gv} (h : RRep w B b d) (hf : d.files[i]? = some f) (hg : d.vf.ownBlock = some g) : w.cell? ⟨g, i * 3, none⟩ = some (.string f.name) ∧ w.cell? ⟨g, i * 3 + 1, none⟩ = some f.vb ∧ w.cell? ⟨g, i * 3 + 2, none⟩ = some f.vl := by
  obtain ⟨c0, c1, c2⟩ := gflat_at hf
  exact ⟨own_cell h.tab hg c0, own_cell h.tab hg c1, own_cell h.tab hg c2⟩

/-- Any file's cells, its slices as such. -/
theorem RRep.row {w : World} {B b : Nat} {d : Rs} (h : RRep w B b d) : ∃ a cap, d.vf = .slice a d.files.length cap ∧ ∀ t, t < d.files.length → ∃ g a' c' a'' c'', a = some ⟨g, 0, none⟩ ∧ w.cell? ⟨g, t * 3, none⟩ = some (.string d.files[t]!.name) ∧ w.cell? ⟨g, t * 3 + 1, none⟩ = some (.slice a' d.files[t]!.bytes.length c') ∧ w.cell? ⟨g, t * 3 + 2, none⟩ = some (.slice a'' d.files[t]!.late.length c'') ∧ ∀ k, k < d.files[t]!.late.length → ∃ gl, a'' = some ⟨gl, 0, none⟩ ∧ w.cell? ⟨gl, k, none⟩ = some (.int .i64 (d.files[t]!.late[k]! : Int)) := by
  obtain ⟨a, cap, e⟩ := own_any h.tab
  refine ⟨a, cap, e, fun t ht => ?_⟩
  obtain ⟨g, c', e', _, _, hg⟩ := own_form h.tab (by omega)
  have hf := getbang d.files t ht
  have hm := List.mem_of_getElem? hf
  obtain ⟨c0, c1, c2⟩ := gflat_at hf
  obtain ⟨a', c'', e''⟩ := own_any (h.rb _ hm)
  obtain ⟨a2, c2', e2'⟩ := own_any (h.rl _ hm)
  have c1' := own_cell h.tab hg c1
  have c2x := own_cell h.tab hg c2
  rw [e''] at c1'
  rw [e2'] at c2x
  rw [e] at e'
  injection e' with e1 e2 e3
  refine ⟨g, a', c'', a2, c2', e1, own_cell h.tab hg c0, c1', c2x, fun k hk => ?_⟩
  obtain ⟨gl, cl, el, _, _, hgl⟩ := own_form (h.rl _ hm) (by omega)
  rw [e2'] at el
  injection el with el1 el2 el3
  refine ⟨gl, el1, own_cell (h.rl _ hm) hgl ?_⟩
  unfold lcells
  rw [List.getElem?_map, getbang _ k hk]
  rfl

/-- Its plain data. -/
structure G where
  name : ByteArray
  bytes : List UInt8
  late : List Nat
structure RS where
  files : List G
  count : Nat
  most : Nat
  left : Int
  down : Bool
def Gv.pl (f : Gv) : G := ⟨f.name, f.bytes, f.late⟩
def Rs.pl (d : Rs) : RS := ⟨d.files.map Gv.pl, d.count, d.most, d.left, d.down⟩
def RS.names (s : RS) : List ByteArray := s.files.map G.name
theorem rnames_pl (d : Rs) : d.pl.names = d.names := by simp [RS.names, Rs.pl, Rs.names, Gv.pl]
theorem rpl_get {d : Rs} {i : Nat} {f : Gv} (h : d.files[i]? = some f) : d.pl.files[i]? = some f.pl := by
  show (d.files.map Gv.pl)[i]? = _
  rw [List.getElem?_map, h]
  rfl

theorem RRep.scal {w w' : World} {B b : Nat} {d d' : Rs} (h : RRep w B b d) (hf : d'.files = d.files) (hvf : d'.vf = d.vf)
    (hblk : w'.heap[b]? = some (.cells d'.cells 71 (0, 0))) (ho : ∀ k, k ≠ b → w'.heap[k]? = w.heap[k]?) : RRep w' B b d' := by
  have hfo : d'.foot b = d.foot b := by unfold Rs.foot; rw [hf, hvf]
  refine ⟨h.ge, hblk, ?_, ?_, ?_, by rw [hfo]; exact h.nodup⟩
  · rw [hf, hvf]
    exact own_frame h.tab fun k hk => ho k (h.b_vf hk)
  · rw [hf]
    exact fun f hm => own_frame (h.rb f hm) fun k hk => ho k (h.b_f hm (obs_b hk))
  · rw [hf]
    exact fun f hm => own_frame (h.rl f hm) fun k hk => ho k (h.b_f hm (obs_l hk))

/-! What is asked of it, and what is set. -/
def rRoom (s : RS) (n : Int) : RS := { s with most := (min (max n 0) 60000).toNat }
def rFuse (s : RS) (n : Int) : RS := if s.down then s else { s with left := if n < 0 then -1 else n }
def RS.power (s : RS) : Bool := !(s.down || decide (s.left = 0))
def RS.spent (s : RS) : RS := { s with down := !s.power, left := if 0 < s.left then s.left - 1 else s.left }

theorem rroom_any {w : World} {B b : Nat} {d : Rs} (h : RRep w B b d) (n : Int) :
    Calls Tryz.prog 35 #[.pointer (some ⟨b, 0, none⟩), .int .i64 n] w fun e w' => e = .returned (.tuple #[]) ∧ ∃ d', RRep w' B b d' ∧ d'.pl = rRoom d.pl n ∧ Step (d.foot b) (d'.foot b) w w' := by
  have c2 := h.c2
  have f2 := h.fz 2
  have A : Aside (RRep w B b d) := h
  unfold rRoom
  clear h
  have fin : Aside (∀ m : Nat, (m : Int) = min (max n 0) 60000 → RRep (w.setCell ⟨b, 2, none⟩ (.int .i64 (m : Int))) B b { d with most := m } ∧ Rs.pl { d with most := m } = { d.pl with most := (min (max n 0) 60000).toNat }) := fun m hm => ⟨A.out.scal rfl rfl (set_same A.out.blk rfl) (fun k hk => Below.heap_setCell _ _ _ _ hk), by rw [show (min (max n 0) 60000).toNat = m by omega]; rfl⟩
  by_cases h1 : n < 0
  · go_enter Tryz.func35, Tryz.ntmps35
    go_wp2
    go_end0
    exact ⟨rfl, { d with most := 0 }, (fin.out 0 (by omega)).1, (fin.out 0 (by omega)).2, Step.setb _ rfoot_b _ _⟩
  · by_cases h2 : 60000 < n
    · have d1 : decide (n < 0) = false := by simpa using h1
      go_enter Tryz.func35, Tryz.ntmps35
      go_wp2
      go_end0
      exact ⟨rfl, { d with most := 60000 }, (fin.out 60000 (by omega)).1, (fin.out 60000 (by omega)).2, Step.setb _ rfoot_b _ _⟩
    · have d1 : decide (n < 0) = false := by simpa using h1
      have d2 : decide (60000 < n) = false := by simpa using h2
      obtain ⟨m, hm⟩ : ∃ m : Nat, (m : Int) = n := ⟨n.toNat, by omega⟩
      have F2 : Aside _ := fin.out m (by omega)
      rw [hm] at F2
      clear hm fin
      go_enter Tryz.func35, Tryz.ntmps35
      go_wp2
      go_end0
      exact ⟨rfl, { d with most := m }, F2.out.1, F2.out.2, Step.setb _ rfoot_b _ _⟩

theorem rfuse_any {w : World} {B b : Nat} {d : Rs} (h : RRep w B b d) (n : Int) :
    Calls Tryz.prog 62 #[.pointer (some ⟨b, 0, none⟩), .int .i64 n] w fun e w' => e = .returned (.tuple #[]) ∧ ∃ d', RRep w' B b d' ∧ d'.pl = rFuse d.pl n ∧ Step (d.foot b) (d'.foot b) w w' := by
  have c3 := h.c3
  have c4 := h.c4
  have f3 := h.fz 3
  have A : Aside (RRep w B b d) := h
  unfold rFuse
  show Calls Tryz.prog 62 _ w fun e w' => e = .returned (.tuple #[]) ∧ ∃ d', RRep w' B b d' ∧ d'.pl = (if d.down then d.pl else _) ∧ Step (d.foot b) (d'.foot b) w w'
  clear h
  cases hd : d.down with
  | true =>
    rw [hd] at c4
    go_enter Tryz.func62, Tryz.ntmps62
    go_wp2
    try simp only [Exit.inBlock, Exit.then]
    refine bodyPost_ret (results_none rfl _ _ _) rfl ?_
    exact ⟨rfl, d, A.out, by simp, Step.refl _ _⟩
  | false =>
    rw [hd] at c4
    by_cases hn : n < 0
    · have d1 : decide (n < 0) = true := by simpa using hn
      go_enter Tryz.func62, Tryz.ntmps62
      go_wp2
      go_end0
      exact ⟨rfl, { d with left := -1 }, A.out.scal rfl rfl (set_same (set_same A.out.blk rfl) rfl) (fun k hk => (Below.heap_setCell _ _ _ _ hk).trans (Below.heap_setCell _ _ _ _ hk)), by simp [Rs.pl], (Step.setb _ rfoot_b _ _).trans (Step.setb _ rfoot_b _ _)⟩
    · have d1 : decide (n < 0) = false := by simpa using hn
      go_enter Tryz.func62, Tryz.ntmps62
      go_wp2
      go_end0
      exact ⟨rfl, { d with left := n }, A.out.scal rfl rfl (set_same A.out.blk rfl) (fun k hk => Below.heap_setCell _ _ _ _ hk), by simp [Rs.pl], Step.setb _ rfoot_b _ _⟩

theorem rpower_any {w : World} {B b : Nat} {d : Rs} (h : RRep w B b d) (hl : d.left ≤ 9223372036854775807) :
    Calls Tryz.prog 76 #[.pointer (some ⟨b, 0, none⟩)] w fun e w' => e = .returned (.bool d.pl.power) ∧ ∃ d', RRep w' B b d' ∧ d'.pl = d.pl.spent ∧ d'.files = d.files ∧ d'.foot b = d.foot b ∧ Step (d.foot b) (d.foot b) w w' := by
  have c3 := h.c3
  have c4 := h.c4
  have f3 := h.fz 3
  have f4 := h.fz 4
  have A : Aside (RRep w B b d) := h
  clear h
  obtain ⟨files, vf, count, most, left, down⟩ := d
  simp only at c3 c4 hl
  by_cases h0 : left = 0
  · subst h0
    go_enter Tryz.func76, Tryz.ntmps76
    go_wp2
    go_ret
    refine ⟨by simp [RS.power, Rs.pl], ⟨files, vf, count, most, 0, true⟩, A.out.scal rfl rfl (set_same A.out.blk rfl) (fun k hk => Below.heap_setCell _ _ _ _ hk), by simp [RS.spent, RS.power, Rs.pl], rfl, rfl, Step.setb _ rfoot_b _ _⟩
  · have d0 : (left == 0) = false := by simpa using h0
    by_cases hp : 0 < left
    · have d1 : decide (0 < left) = true := by simpa using hp
      have hw : IntKind.i64.wrap (left - 1) = left - 1 := by rw [IntKind.wrap_i64]; omega
      cases down <;> (go_enter Tryz.func76, Tryz.ntmps76; go_wp2; go_ret)
      · exact ⟨by simp [RS.power, Rs.pl, h0], ⟨files, vf, count, most, left - 1, false⟩, A.out.scal rfl rfl (set_same A.out.blk rfl) (fun k hk => Below.heap_setCell _ _ _ _ hk), by simp [RS.spent, RS.power, Rs.pl, h0, hp], rfl, rfl, Step.setb _ rfoot_b _ _⟩
      · exact ⟨by simp [RS.power, Rs.pl], ⟨files, vf, count, most, left - 1, true⟩, A.out.scal rfl rfl (set_same A.out.blk rfl) (fun k hk => Below.heap_setCell _ _ _ _ hk), by simp [RS.spent, RS.power, Rs.pl, hp], rfl, rfl, Step.setb _ rfoot_b _ _⟩
    · have d1 : decide (0 < left) = false := by simpa using hp
      cases down <;> (go_enter Tryz.func76, Tryz.ntmps76; go_wp2; go_ret)
      · exact ⟨by simp [RS.power, Rs.pl, h0], ⟨files, vf, count, most, left, false⟩, A.out, by unfold RS.spent RS.power Rs.pl; simp only [if_neg (Int.not_lt.2 hp)]; simp [h0], rfl, rfl, Step.refl _ _⟩
      · exact ⟨by simp [RS.power, Rs.pl], ⟨files, vf, count, most, left, true⟩, A.out, by unfold RS.spent RS.power Rs.pl; simp only [if_neg (Int.not_lt.2 hp)]; simp, rfl, rfl, Step.refl _ _⟩
end Go.Proofs.YtajjcfacbnicnaaGreatDoor.Dk

/-
  What is asked of the document's disk: At, Right, Used, Free, Sure; New.
-/
namespace Go.Proofs.YtajjcfacbnicnaaGreatDoor.Dk
open Go.RowKit
set_option maxRecDepth 100000

def atOf (l : List ByteArray) (n : ByteArray) : Int := if has l n then ((l.findIdx fun x => decide (cmp x n = 0) : Nat) : Int) else -1

theorem gnames_get (l : List Gv) (t : Nat) (h : t < l.length) : (l.map Gv.name)[t]! = l[t]!.name := by
  rw [getElem!_pos _ t (by simpa using h), getElem!_pos l t h]
  simp

set_option maxHeartbeats 800000 in
theorem at_any {w : World} {B b : Nat} {d : Rs} (h : RRep w B b d) (hl : d.files.length ≤ 1000) (n : ByteArray) :
    Calls Tryz.prog 78 #[.pointer (some ⟨b, 0, none⟩), .string n] w fun e w' => e = .returned (.int .i64 (atOf d.names n)) ∧ w' = w := by
  have c0 := h.c0
  obtain ⟨a, cap, ev, hc'⟩ := h.row
  have hc : Aside (∀ t, t < d.files.length → ∃ g a' c' a'' c'', a = some ⟨g, 0, none⟩ ∧ w.cell? ⟨g, t * 3, none⟩ = some (.string d.files[t]!.name) ∧ w.cell? ⟨g, t * 3 + 1, none⟩ = some (.slice a' d.files[t]!.bytes.length c') ∧ w.cell? ⟨g, t * 3 + 2, none⟩ = some (.slice a'' d.files[t]!.late.length c'') ∧ ∀ k, k < d.files[t]!.late.length → ∃ gl, a'' = some ⟨gl, 0, none⟩ ∧ w.cell? ⟨gl, k, none⟩ = some (.int .i64 (d.files[t]!.late[k]! : Int))) := hc'
  rw [ev] at c0
  unfold Rs.names
  clear hc' h ev
  generalize d.files = l at *
  go_enter Tryz.func78, Tryz.ntmps78
  go_wp2
  go_loopg [5] l.length (fun gh s5 wr => ∃ k : Nat, l.length - k ≤ gh ∧ k ≤ l.length ∧ s5 = .int .i64 (k : Int) ∧ w = wr ∧ Aside (∀ i, i < k → ¬ cmp l[i]!.name n = 0))
  case atStart => exact ⟨0, by omega, by omega, rfl, rfl, (fun i hi => absurd hi (Nat.not_lt_zero _) : ∀ i, i < 0 → ¬ cmp l[i]!.name n = 0)⟩
  case round =>
    obtain ⟨k, hgh, hk, rfl, rfl, I⟩ := hrel
    by_cases hlt : k < l.length
    · have d3 : decide (k < l.length) = true := by simpa using hlt
      obtain ⟨g, a', c', a'', c'', rfl, e0, _, _, _⟩ := hc.out k hlt
      by_cases hq : cmp l[k]!.name n = 0
      · have hqb := eq_bytes l[k]!.name n
        rw [decide_eq_true hq] at hqb
        have F : Aside (atOf (l.map Gv.name) n = (k : Int)) := by
          show atOf (l.map Gv.name) n = (k : Int)
          have hkl : k < (l.map Gv.name).length := by simpa using hlt
          have ha : has (l.map Gv.name) n = true := by
            unfold has
            rw [List.any_eq_true]
            exact ⟨l[k]!.name, List.mem_map.2 ⟨l[k]!, List.mem_of_getElem? (getbang l k hlt), rfl⟩, decide_eq_true hq⟩
          have hf : (l.map Gv.name).findIdx (fun x => decide (cmp x n = 0)) = k := by
            rw [List.findIdx_eq hkl]
            refine ⟨by rw [← getElem!_pos (l.map Gv.name) k hkl, gnames_get l k hlt]; exact decide_eq_true hq, fun j hj => ?_⟩
            have := I.out j hj
            rw [← getElem!_pos (l.map Gv.name) j (by omega), gnames_get l j (by omega)]
            exact decide_eq_false this
          rw [atOf, if_pos ha, hf]
        generalize l[k]! = y at *
        clear hq
        go_wp2
        go_ret
        exact ⟨by rw [F.out]; rfl, rfl⟩
      · have hqb := eq_bytes l[k]!.name n
        rw [decide_eq_false hq] at hqb
        have HQ : Aside (¬ cmp l[k]!.name n = 0) := hq
        clear hq
        generalize hy : l[k]! = y at e0 hqb
        clear hy
        go_wp2
        go_roundg (l.length - (k + 1))
        case measure => omega
        case rel =>
          have I2 : Aside (∀ i, i < k + 1 → ¬ cmp l[i]!.name n = 0) := fun i hi => by
            by_cases h : i = k
            · subst h; exact HQ.out
            · exact I.out i (by omega)
          exact ⟨k + 1, Nat.le_refl _, by omega, by go_num, rfl, I2⟩
    · obtain rfl : k = l.length := by omega
      have d3 : decide (l.length < l.length) = false := by simp
      have F : Aside (atOf (l.map Gv.name) n = -1) := by
        show atOf (l.map Gv.name) n = -1
        have ha : ¬ has (l.map Gv.name) n = true := by
          rw [has_iff]
          intro hm
          obtain ⟨x, hx, e⟩ := List.mem_map.1 hm
          obtain ⟨i, hi, rfl⟩ := List.getElem_of_mem hx
          have := I.out i hi
          rw [getElem!_pos l i hi] at this
          exact this (by rw [e]; exact cmp_self n)
        rw [atOf, if_neg ha]
      go_wp2
      go_ret
      exact ⟨by rw [F.out]; rfl, rfl⟩

/-- Where names rise, that is the place. -/
theorem at_place {l : List ByteArray} (hr : Rising l) (n : ByteArray) : atOf l n = if has l n then (place l n : Int) else -1 := by
  unfold atOf
  cases hh : has l n with
  | false => rfl
  | true =>
    simp only [if_true]
    obtain ⟨h1, h2⟩ := (place_mem hr n).1 (has_iff.1 hh)
    have : l.findIdx (fun x => decide (cmp x n = 0)) = place l n := by
      rw [List.findIdx_eq h1]
      refine ⟨by rw [← getElem!_pos l _ h1, h2]; exact decide_eq_true (cmp_self n), fun j hj => ?_⟩
      have hjl : j < l.length := by omega
      refine decide_eq_false fun e => ?_
      have e2 := cmp_zero.1 e
      have e3 := place_at hr j hjl
      rw [getElem!_pos l j hjl, e2] at e3
      omega
    rw [this]

set_option maxHeartbeats 1600000 in
theorem right_any (n : ByteArray) (hn : n.size ≤ 1000000) (w : World) :
    Calls Tryz.prog 77 #[.string n] w fun e w' => e = .returned (.bool (mayBe n)) ∧ w' = w := by
  unfold mayBe
  generalize hAB : n.data.toList.all (fun b => nb b.toNat) = AB
  have HAB : Aside (n.data.toList.all (fun b => nb b.toNat) = AB) := hAB
  clear hAB
  go_enter Tryz.func77, Tryz.ntmps77
  go_wp2
  go_loopg [3, 4] n.size (fun gh s _ wr => ∃ k : Nat, n.size - k ≤ gh ∧ k ≤ n.size ∧ s = .int .i64 (k : Int) ∧ w = wr ∧ Aside (∀ i, i < k → (hi : i < n.size) → nb n[i].toNat = true))
  case atStart => exact ⟨0, by omega, by omega, rfl, rfl, (fun i hi _ => absurd hi (Nat.not_lt_zero _) : ∀ i, i < 0 → (hi : i < n.size) → nb n[i].toNat = true)⟩
  case round =>
    obtain ⟨k, hgh, hk, rfl, rfl, I⟩ := hrel
    by_cases hlt : k < n.size
    · have d3 : decide (k < n.size) = true := by simpa using hlt
      obtain ⟨x, hx⟩ : ∃ x, n[k].toNat = x := ⟨_, rfl⟩
      cases hq : nb x with
      | true =>
        have I2 : Aside (∀ i, i < k + 1 → (hi : i < n.size) → nb n[i].toNat = true) := fun i hi hs => by
          by_cases h : i = k
          · subst h; rw [hx]; exact hq
          · exact I.out i (by omega) hs
        unfold nb at hq
        by_cases h1 : 97 ≤ x <;> by_cases h2 : x ≤ 122 <;> by_cases h3 : 48 ≤ x <;> by_cases h4 : x ≤ 57 <;> by_cases h5 : x = 46 <;> first
          | (exfalso; omega)
          | (exfalso; simp [h1, h2, h3, h4, h5] at hq; done)
          | (clear hq
             first | have q1 : decide ((97 : Int) ≤ (x : Int)) = true := (by simp; omega) | have q1 : decide ((97 : Int) ≤ (x : Int)) = false := (by simp; omega)
             first | have q2 : decide ((x : Int) ≤ 122) = true := (by simp; omega) | have q2 : decide ((x : Int) ≤ 122) = false := (by simp; omega)
             first | have q3 : decide ((48 : Int) ≤ (x : Int)) = true := (by simp; omega) | have q3 : decide ((48 : Int) ≤ (x : Int)) = false := (by simp; omega)
             first | have q4 : decide ((x : Int) ≤ 57) = true := (by simp; omega) | have q4 : decide ((x : Int) ≤ 57) = false := (by simp; omega)
             first | have q5 : ((x : Int) == 46) = true := (by simp; omega) | have q5 : ((x : Int) == 46) = false := (by simp; omega)
             clear h1 h2 h3 h4 h5
             go_wp2
             go_roundg (n.size - (k + 1))
             case measure => omega
             case rel => exact ⟨k + 1, Nat.le_refl _, by omega, by go_num, rfl, I2⟩)
      | false =>
        have F : Aside (AB = false) := HAB.out.symm.trans (all_not_get (fun b => nb b.toNat) k hlt (by rw [hx]; exact hq))
        unfold nb at hq
        by_cases h1 : 97 ≤ x <;> by_cases h2 : x ≤ 122 <;> by_cases h3 : 48 ≤ x <;> by_cases h4 : x ≤ 57 <;> by_cases h5 : x = 46 <;> first
          | (exfalso; omega)
          | (exfalso; simp [h1, h2, h3, h4, h5] at hq; done)
          | (clear hq
             first | have q1 : decide ((97 : Int) ≤ (x : Int)) = true := (by simp; omega) | have q1 : decide ((97 : Int) ≤ (x : Int)) = false := (by simp; omega)
             first | have q2 : decide ((x : Int) ≤ 122) = true := (by simp; omega) | have q2 : decide ((x : Int) ≤ 122) = false := (by simp; omega)
             first | have q3 : decide ((48 : Int) ≤ (x : Int)) = true := (by simp; omega) | have q3 : decide ((48 : Int) ≤ (x : Int)) = false := (by simp; omega)
             first | have q4 : decide ((x : Int) ≤ 57) = true := (by simp; omega) | have q4 : decide ((x : Int) ≤ 57) = false := (by simp; omega)
             first | have q5 : ((x : Int) == 46) = true := (by simp; omega) | have q5 : ((x : Int) == 46) = false := (by simp; omega)
             clear h1 h2 h3 h4 h5
             go_wp2
             go_ret
             exact ⟨by rw [F.out]; simp, rfl⟩)
    · obtain rfl : k = n.size := by omega
      have d3 : decide (n.size < n.size) = false := by simp
      have F : Aside (AB = true) := HAB.out.symm.trans (all_of_get (fun b => nb b.toNat) fun i hi => I.out i (by omega) hi)
      by_cases h1 : 1 ≤ n.size <;> by_cases h2 : n.size ≤ 12
      · have k1 : decide ((1 : Int) ≤ (n.size : Int)) = true := by simp; omega
        have k2 : decide ((n.size : Int) ≤ 12) = true := by simp; omega
        go_wp2
        go_ret
        exact ⟨by rw [F.out]; simp [h1, h2], rfl⟩
      · have k1 : decide ((1 : Int) ≤ (n.size : Int)) = true := by simp; omega
        have k2 : decide ((n.size : Int) ≤ 12) = false := by simp; omega
        go_wp2
        go_ret
        exact ⟨by rw [F.out]; simp [h1, h2], rfl⟩
      · have k1 : decide ((1 : Int) ≤ (n.size : Int)) = false := by simp; omega
        go_wp2
        go_ret
        exact ⟨by rw [F.out]; simp [h1], rfl⟩
      · exfalso; omega

def lateN (l : List Nat) : Nat := l.countP fun n => decide (0 < n)
def sureN (l : List Nat) : Nat := l.countP fun n => decide (n = 0)
def usedG (l : List Gv) : Nat := (l.map fun f => f.bytes.length).sum
def lateG (l : List Gv) : Nat := (l.map fun f => lateN f.late).sum
theorem usedG_next (l : List Gv) (k : Nat) (h : k < l.length) : usedG (l.take (k + 1)) = usedG (l.take k) + l[k]!.bytes.length := by
  rw [take_next l k h]
  simp [usedG]
theorem lateG_next (l : List Gv) (k : Nat) (h : k < l.length) : lateG (l.take (k + 1)) = lateG (l.take k) + lateN l[k]!.late := by
  rw [take_next l k h]
  simp [lateG]
theorem usedG_take (l : List Gv) (k : Nat) : usedG (l.take k) ≤ usedG l := by
  have := congrArg usedG (List.take_append_drop k l)
  unfold usedG at this ⊢
  rw [List.map_append, List.sum_append] at this
  omega
theorem lateG_take (l : List Gv) (k : Nat) : lateG (l.take k) ≤ lateG l := by
  have := congrArg lateG (List.take_append_drop k l)
  unfold lateG at this ⊢
  rw [List.map_append, List.sum_append] at this
  omega
theorem lateN_next (l : List Nat) (k : Nat) (h : k < l.length) : lateN (l.take (k + 1)) = lateN (l.take k) + if 0 < l[k]! then 1 else 0 := by
  rw [take_next l k h]
  unfold lateN
  rw [List.countP_append]
  simp [List.countP_cons]
theorem sureN_next (l : List Nat) (k : Nat) (h : k < l.length) : sureN (l.take (k + 1)) = sureN (l.take k) + if l[k]! = 0 then 1 else 0 := by
  rw [take_next l k h]
  unfold sureN
  rw [List.countP_append]
  simp [List.countP_cons]
theorem lateN_take (l : List Nat) (k : Nat) : lateN (l.take k) ≤ lateN l := (List.take_sublist _ _).countP_le
theorem sureN_take (l : List Nat) (k : Nat) : sureN (l.take k) ≤ l.length := Nat.le_trans List.countP_le_length (by rw [List.length_take]; omega)

/-- What a disk of the document may be. -/
structure ROk (s : RS) : Prop where
  few : s.files.length ≤ 16
  most : s.most ≤ 60000
  left : s.left ≤ 9223372036854775807
  used : (s.files.map fun f => f.bytes.length).sum ≤ 60000
  lates : ∀ f ∈ s.files, f.late.length = f.bytes.length
  count : s.count ≤ 1000000
  small : ∀ f ∈ s.files, ∀ n ∈ f.late, n ≤ s.count

def RS.used (s : RS) : Nat := (s.files.map fun f => f.bytes.length).sum
def RS.lates (s : RS) : Nat := (s.files.map fun f => lateN f.late).sum
theorem rused_pl (d : Rs) : d.pl.used = usedG d.files := by
  unfold RS.used usedG Rs.pl
  simp only [List.map_map]
  rfl
theorem rlates_pl (d : Rs) : d.pl.lates = lateG d.files := by
  unfold RS.lates lateG Rs.pl
  simp only [List.map_map]
  rfl
theorem ROk.late_le {s : RS} (h : ROk s) : s.lates ≤ 60000 := by
  refine Nat.le_trans (sum_le_map _ _ _ fun f hf => ?_) h.used
  rw [← h.lates f hf]
  exact List.countP_le_length

set_option maxHeartbeats 1600000 in
theorem rused_any {w : World} {B b : Nat} {d : Rs} (h : RRep w B b d) (ok : ROk d.pl) :
    Calls Tryz.prog 65 #[.pointer (some ⟨b, 0, none⟩)] w fun e w' => e = .returned (.tuple #[.int .i64 (d.pl.used : Nat), .int .i64 (d.pl.lates : Nat)]) ∧ w' = w := by
  have c0 := h.c0
  obtain ⟨a, cap, ev, hc'⟩ := h.row
  have hc : Aside (∀ t, t < d.files.length → ∃ g a' c' a'' c'', a = some ⟨g, 0, none⟩ ∧ w.cell? ⟨g, t * 3, none⟩ = some (.string d.files[t]!.name) ∧ w.cell? ⟨g, t * 3 + 1, none⟩ = some (.slice a' d.files[t]!.bytes.length c') ∧ w.cell? ⟨g, t * 3 + 2, none⟩ = some (.slice a'' d.files[t]!.late.length c'') ∧ ∀ k, k < d.files[t]!.late.length → ∃ gl, a'' = some ⟨gl, 0, none⟩ ∧ w.cell? ⟨gl, k, none⟩ = some (.int .i64 (d.files[t]!.late[k]! : Int))) := hc'
  rw [ev] at c0
  have hu : usedG d.files ≤ 60000 := by rw [← rused_pl]; exact ok.used
  have hla : lateG d.files ≤ 60000 := by rw [← rlates_pl]; exact ok.late_le
  have hfew : d.files.length ≤ 16 := by simpa [Rs.pl] using ok.few
  have hlen : Aside (∀ t, t < d.files.length → d.files[t]!.late.length ≤ 60000) := fun t ht => by
    have hm := List.mem_of_getElem? (getbang d.files t ht)
    have h1 := ok.lates (d.files[t]!).pl (List.mem_map.2 ⟨_, hm, rfl⟩)
    have h2 := mem_le_sum d.pl.files (fun f => f.bytes.length) (x := (d.files[t]!).pl) (List.mem_map.2 ⟨_, hm, rfl⟩)
    have h3 := ok.used
    simp only [Gv.pl] at h1 h2
    omega
  rw [rused_pl, rlates_pl]
  clear hc' h ok ev
  generalize d.files = l at *
  go_enter Tryz.func65, Tryz.ntmps65
  go_wp2
  go_loopg [4, 5, 6, 7] l.length (fun gh s4 s5 s6 _ wr => ∃ k : Nat, l.length - k ≤ gh ∧ k ≤ l.length ∧ s4 = .int .i64 (usedG (l.take k) : Nat) ∧ s5 = .int .i64 (lateG (l.take k) : Nat) ∧ s6 = .int .i64 (k : Int) ∧ w = wr)
  case atStart => exact ⟨0, by omega, by omega, rfl, rfl, rfl, rfl⟩
  case round =>
    obtain ⟨k, hgh, hk, rfl, rfl, rfl, rfl⟩ := hrel
    by_cases hlt : k < l.length
    · have d3 : decide (k < l.length) = true := by simpa using hlt
      obtain ⟨g, a', c', a'', c'', rfl, e0, e1, e2, e3⟩ := hc.out k hlt
      have E3 : Aside _ := e3
      have hle := hlen.out k hlt
      have hn := usedG_next l k hlt
      have hn2 := lateG_next l k hlt
      have hl1 := usedG_take l (k + 1)
      have hl2 := lateG_take l (k + 1)
      generalize hy : l[k]! = y at *
      clear hy e3
      have HN : Aside (usedG (l.take (k + 1)) = usedG (l.take k) + y.bytes.length) := hn
      have HN2 : Aside (lateG (l.take (k + 1)) = lateG (l.take k) + lateN y.late) := hn2
      have hadd : usedG (l.take k) + y.bytes.length ≤ 60000 := by omega
      have hadd2 : lateG (l.take k) + lateN y.late ≤ 60000 := by omega
      clear hn hn2 hl1 hl2
      go_wp2
      go_loopg [5, 7] y.late.length (fun gj s5 s7 wq => ∃ j : Nat, y.late.length - j ≤ gj ∧ j ≤ y.late.length ∧ s5 = .int .i64 ((lateG (l.take k) + lateN (y.late.take j) : Nat) : Int) ∧ s7 = .int .i64 (j : Int) ∧ w = wq)
      case atStart => exact ⟨0, by omega, by omega, by simp [lateN], rfl, rfl⟩
      case round =>
        obtain ⟨j, hgj, hj, rfl, rfl, rfl⟩ := hrel
        by_cases hjl : j < y.late.length
        · have d4 : decide (j < y.late.length) = true := by simpa using hjl
          obtain ⟨gl, rfl, e4⟩ := E3.out j hjl
          have hm := lateN_next y.late j hjl
          have hm2 := lateN_take y.late (j + 1)
          generalize y.late[j]! = v at *
          by_cases hv : 0 < v
          · have d5 : decide ((0 : Int) < (v : Int)) = true := by simp; omega
            have d5' : decide (0 < v) = true := by simpa using hv
            rw [if_pos hv] at hm
            have HM : Aside (lateN (y.late.take (j + 1)) = lateN (y.late.take j) + 1) := hm
            have hb : lateG (l.take k) + lateN (y.late.take j) + 1 ≤ 60000 := by omega
            clear hm hm2
            go_wp2
            go_roundg (y.late.length - (j + 1))
            case measure => omega
            case rel => exact ⟨j + 1, Nat.le_refl _, by omega, by rw [HM.out]; go_num, by go_num, rfl⟩
          · have d5 : decide ((0 : Int) < (v : Int)) = false := by simp; omega
            have d5' : decide (0 < v) = false := by simpa using hv
            rw [if_neg hv] at hm
            have HM : Aside (lateN (y.late.take (j + 1)) = lateN (y.late.take j) + 0) := hm
            clear hm hm2
            go_wp2
            go_roundg (y.late.length - (j + 1))
            case measure => omega
            case rel => exact ⟨j + 1, Nat.le_refl _, by omega, by rw [HM.out, Nat.add_zero], by go_num, rfl⟩
        · obtain rfl : j = y.late.length := by omega
          have d4 : decide (y.late.length < y.late.length) = false := by simp
          rw [List.take_of_length_le (Nat.le_refl y.late.length)]
          go_wp2
          go_roundg (l.length - (k + 1))
          case measure => omega
          case rel => exact ⟨k + 1, Nat.le_refl _, by omega, by rw [HN.out]; go_num, by rw [HN2.out], by go_num, rfl⟩
    · obtain rfl : k = l.length := by omega
      have d3 : decide (l.length < l.length) = false := by simp
      rw [List.take_of_length_le (Nat.le_refl _)]
      go_wp2
      go_ret2
      exact ⟨rfl, rfl⟩
end Go.Proofs.YtajjcfacbnicnaaGreatDoor.Dk

/-
  What is asked of the document's disk: Free, Sure; New.
-/
namespace Go.Proofs.YtajjcfacbnicnaaGreatDoor.Dk
open Go.RowKit
set_option maxRecDepth 100000

theorem ROk.dfew {d : Rs} (h : ROk d.pl) : d.files.length ≤ 16 := by simpa [Rs.pl] using h.few
theorem ROk.dlate {d : Rs} (ok : ROk d.pl) {f : Gv} (hm : f ∈ d.files) : f.late.length = f.bytes.length ∧ f.bytes.length ≤ 60000 := by
  have h1 := ok.lates f.pl (List.mem_map.2 ⟨_, hm, rfl⟩)
  have h2 := mem_le_sum d.pl.files (fun f => f.bytes.length) (x := f.pl) (List.mem_map.2 ⟨_, hm, rfl⟩)
  have h3 := ok.used
  simp only [Gv.pl] at h1 h2
  omega

theorem rfree_any {w : World} {B b : Nat} {d : Rs} (h : RRep w B b d) (ok : ROk d.pl) :
    Calls Tryz.prog 51 #[.pointer (some ⟨b, 0, none⟩)] w fun e w' => e = .returned (.tuple #[.int .i64 ((d.pl.most - d.pl.used : Nat) : Int), .int .i64 (16 - (d.pl.files.length : Int))]) ∧ Below w.heap.size w w' := by
  have c0 := h.c0
  have c2 := h.c2
  have ku := rused_any h ok
  obtain ⟨a, cap, ev⟩ := own_any h.tab
  rw [ev] at c0
  have hl : d.pl.files.length = d.files.length := by simp [Rs.pl]
  have hm : d.pl.most = d.most := rfl
  have hmost : d.most ≤ 60000 := ok.most
  have hu : d.pl.used ≤ 60000 := ok.used
  have hfew := ok.dfew
  rw [hl, hm]
  clear h ok ev hl hm
  generalize d.pl.used = U at *
  generalize d.pl.lates = LT at *
  generalize d.most = M at *
  generalize d.files.length = N at *
  have hw : IntKind.i64.wrap ((M : Int) - (U : Int)) = (M : Int) - (U : Int) := by rw [IntKind.wrap_i64]; omega
  by_cases hlt : (M : Int) - (U : Int) < 0
  · have d1 : decide ((M : Int) - (U : Int) < 0) = true := by simpa using hlt
    have E : Aside (((M - U : Nat) : Int) = 0) := (by omega : ((M - U : Nat) : Int) = 0)
    rw [E.out]
    clear hlt
    go_enter Tryz.func51, Tryz.ntmps51
    go_wp2_with (go_at_call 65; refine ku.mono ?_; rintro e w1 ⟨rfl, rfl⟩)
    go_region
    all_goals
      go_wp2
      go_ret2
      exact ⟨rfl, (Below.refl _ _).drew⟩
  · have d1 : decide ((M : Int) - (U : Int) < 0) = false := by simpa using hlt
    have E : Aside (((M - U : Nat) : Int) = (M : Int) - (U : Int)) := (by omega : ((M - U : Nat) : Int) = (M : Int) - (U : Int))
    rw [E.out]
    clear hlt
    go_enter Tryz.func51, Tryz.ntmps51
    go_wp2_with (go_at_call 65; refine ku.mono ?_; rintro e w1 ⟨rfl, rfl⟩)
    go_region
    all_goals
      go_wp2
      go_ret2
      exact ⟨rfl, (Below.refl _ _).drew⟩

theorem atOf_get {d : Rs} {n : ByteArray} (hh : has d.names n = true) : ∃ (i : Nat) (f : Gv), atOf d.names n = (i : Int) ∧ d.files[i]? = some f ∧ f.name = n ∧ f ∈ d.files := by
  have hi : d.names.findIdx (fun x => decide (cmp x n = 0)) < d.names.length := by
    rw [List.findIdx_lt_length]
    exact ⟨n, has_iff.1 hh, decide_eq_true (cmp_self n)⟩
  have hp := List.findIdx_getElem (w := hi)
  have hl : d.names.findIdx (fun x => decide (cmp x n = 0)) < d.files.length := by simpa [Rs.names] using hi
  refine ⟨_, d.files[d.names.findIdx (fun x => decide (cmp x n = 0))], by rw [atOf, if_pos hh], List.getElem?_eq_getElem hl, ?_, List.getElem_mem hl⟩
  have := cmp_zero.1 (of_decide_eq_true hp)
  refine Eq.trans ?_ this
  simp [Rs.names]

def rSure (s : RS) (n : ByteArray) : Nat := match s.files[(atOf s.names n).toNat]?, has s.names n with
  | some f, true => sureN f.late
  | _, _ => 0

set_option maxHeartbeats 1600000 in
theorem rsure_any {w : World} {B b : Nat} {d : Rs} (h : RRep w B b d) (ok : ROk d.pl) (n : ByteArray) :
    Calls Tryz.prog 64 #[.pointer (some ⟨b, 0, none⟩), .string n] w fun e w' => e = .returned (.int .i64 (rSure d.pl n : Nat)) ∧ w' = w := by
  have ka := at_any h (by have := ok.dfew; omega) n
  unfold rSure
  rw [rnames_pl]
  cases hh : has d.names n with
  | false =>
    have hat : atOf d.names n = -1 := by rw [atOf, if_neg (by rw [hh]; simp)]
    rw [hat] at ka ⊢
    have e0 : (match d.pl.files[((-1 : Int)).toNat]?, false with | some f, true => sureN f.late | _, _ => 0) = 0 := by cases d.pl.files[((-1 : Int)).toNat]? <;> rfl
    rw [e0]
    clear h ok hat e0 hh
    go_enter Tryz.func64, Tryz.ntmps64
    go_wp2_with (go_at_call 78; refine ka.mono ?_; rintro e w1 ⟨rfl, rfl⟩)
    go_loopg [6, 7] 1 (fun gh s6 s7 wr => s6 = .int .i64 0 ∧ s7 = .int .i64 0 ∧ w1 = wr)
    case atStart => exact ⟨rfl, rfl, rfl⟩
    case round =>
      obtain ⟨rfl, rfl, rfl⟩ := hrel
      go_wp2
      go_ret
      exact ⟨rfl, rfl⟩
  | true =>
    obtain ⟨i, f, hat, hf, hfn, hfm⟩ := atOf_get hh
    rw [hat] at ka ⊢
    rw [Int.toNat_natCast, rpl_get hf]
    show Calls Tryz.prog 64 _ w fun e w' => e = .returned (.int .i64 (sureN f.late : Nat)) ∧ w' = w
    obtain ⟨g, cap, ev, hcap, hcm, hg⟩ := h.vf_form hf
    have hfew := ok.dfew
    have hi : i < d.files.length := (List.getElem?_eq_some_iff.1 hf).1
    obtain ⟨hl1, hl2⟩ := ok.dlate hfm
    have c0 := h.c0
    obtain ⟨e0, e1, e2⟩ := h.fcells hf hg
    obtain ⟨al, cl, eal⟩ := own_any (h.rl f hfm)
    have E3 : Aside (∀ k, k < f.late.length → ∃ gl, al = some ⟨gl, 0, none⟩ ∧ w.cell? ⟨gl, k, none⟩ = some (.int .i64 (f.late[k]! : Int))) := fun k hk => by
      obtain ⟨gl, cl', el, _, _, hgl⟩ := own_form (h.rl f hfm) (by omega)
      rw [eal] at el
      injection el with el1 el2 el3
      refine ⟨gl, el1, own_cell (h.rl f hfm) hgl ?_⟩
      unfold lcells
      rw [List.getElem?_map, getbang _ k hk]
      rfl
    rw [ev] at c0
    rw [eal] at e2
    have hll : f.late.length ≤ 60000 := by omega
    clear h ok hat hh hf hfn hfm ev eal hg e1 hl1 hl2
    generalize f.late = L at *
    generalize d.files.length = N at *
    go_enter Tryz.func64, Tryz.ntmps64
    go_wp2_with (go_at_call 78; refine ka.mono ?_; rintro e w1 ⟨rfl, rfl⟩)
    go_loopg [6, 7] L.length (fun gh s6 s7 wr => ∃ k : Nat, L.length - k ≤ gh ∧ k ≤ L.length ∧ s6 = .int .i64 (sureN (L.take k) : Nat) ∧ s7 = .int .i64 (k : Int) ∧ w1 = wr)
    case atStart => exact ⟨0, by omega, by omega, rfl, rfl, rfl⟩
    case round =>
      obtain ⟨k, hgh, hk, rfl, rfl, rfl⟩ := hrel
      by_cases hlt : k < L.length
      · have d3 : decide (k < L.length) = true := by simpa using hlt
        obtain ⟨gl, rfl, e4⟩ := E3.out k hlt
        have hm := sureN_next L k hlt
        have hm2 := sureN_take L (k + 1)
        generalize L[k]! = v at *
        by_cases hv : v = 0
        · subst hv
          rw [if_pos rfl] at hm
          have HM : Aside (sureN (L.take (k + 1)) = sureN (L.take k) + 1) := hm
          have hb : sureN (L.take k) + 1 ≤ 60000 := by omega
          clear hm hm2
          go_wp2
          go_roundg (L.length - (k + 1))
          case measure => omega
          case rel => exact ⟨k + 1, Nat.le_refl _, by omega, by rw [HM.out]; go_num, by go_num, rfl⟩
        · have d5 : ((v : Int) == 0) = false := by simp; omega
          rw [if_neg hv] at hm
          have HM : Aside (sureN (L.take (k + 1)) = sureN (L.take k) + 0) := hm
          clear hm hm2
          go_wp2
          go_roundg (L.length - (k + 1))
          case measure => omega
          case rel => exact ⟨k + 1, Nat.le_refl _, by omega, by rw [HM.out, Nat.add_zero], by go_num, rfl⟩
      · obtain rfl : k = L.length := by omega
        have d3 : decide (L.length < L.length) = false := by simp
        rw [List.take_of_length_le (Nat.le_refl L.length)]
        go_wp2
        go_ret
        exact ⟨rfl, rfl⟩

def rEmpty : RS := ⟨[], 0, 0, -1, false⟩
theorem rnew_any (n : Int) (w : World) (B : Nat) (hB : B ≤ w.heap.size) :
    Calls Tryz.prog 10 #[.int .i64 n] w fun e w' => ∃ b d, e = .returned (.pointer (some ⟨b, 0, none⟩)) ∧ RRep w' B b d ∧ d.pl = rRoom rEmpty n ∧ (∀ k ∈ d.foot b, w.heap.size ≤ k) ∧ Below w.heap.size w w' := by
  have kr : Aside (∀ u : World, RRep u B w.heap.size ⟨[], .slice none 0 0, 0, 0, -1, false⟩ → _) := fun (u : World) hu => rroom_any hu n
  have h0 : Aside (RRep (w.alloc (.cells #[.slice none 0 0, .int .i64 0, .int .i64 0, .int .i64 (-1), .bool false] 71)) B w.heap.size ⟨[], .slice none 0 0, 0, 0, -1, false⟩) :=
    ⟨hB, heap_alloc_new w _, World.ownsRow_nil _ _ _ _, fun f hf => by simp at hf, fun f hf => by simp at hf, by simp [Rs.foot, ob, Value.ownBlock]⟩
  go_enter Tryz.func10, Tryz.ntmps10
  go_wp2_with (go_at_call 35; refine (kr.out _ h0.out).mono ?_; rintro e w1 ⟨rfl, d, hr, hp, hs⟩)
  go_ret
  refine ⟨w.heap.size, d, rfl, hr, hp, fun k hk => ?_, ?_⟩
  · rcases hs.sub k hk with h | h
    · simp [Rs.foot, ob, Value.ownBlock] at h
      omega
    · have : w.heap.size + 1 ≤ k := by simpa using h
      omega
  · exact ((Below.refl w.heap.size w).alloc (Nat.le_refl _) _).trans (hs.below (fun k hk => by simp [Rs.foot, ob, Value.ownBlock] at hk; omega) (by simp))
end Go.Proofs.YtajjcfacbnicnaaGreatDoor.Dk
