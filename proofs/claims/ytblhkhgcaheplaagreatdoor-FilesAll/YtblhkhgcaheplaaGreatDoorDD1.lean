/-
  A disk of the program in memory: its block, the table of its files, their bytes, its pieces.
-/
import Derived.Test.YtblhkhgcaheplaaGreatDoorDM
namespace Go.Proofs.YtblhkhgcaheplaaGreatDoor.Dk
open Go.RowKit
set_option maxRecDepth 100000

def ob (v : Value) : List Nat := v.ownBlock.toList

theorem mem_ob {v : Value} {k : Nat} : k ∈ ob v ↔ v.ownBlock = some k := by
  unfold ob
  cases v.ownBlock <;> simp [eq_comm]

def Fv.cells (f : Fv) : List Value := [.string f.name, f.v, .int .i64 (f.sure : Int)]
def Pc.cells (p : Pc) : List Value := [.string p.name, .int .i64 (p.size : Int)]
def bcells (l : List UInt8) : List Value := l.map fun b => Value.int .u8 (b.toNat : Int)

/-- What a disk is: its files, its pieces, where their tables lie, and the rest. -/
structure Ds where
  files : List Fv
  pieces : List Pc
  vf : Value
  vp : Value
  room : Nat
  fused : Bool
  fuse : Nat
  down : Bool

def Ds.cells (d : Ds) : Array Value := #[d.vf, d.vp, .int .i64 (d.room : Int), .bool d.fused, .int .i64 (d.fuse : Int), .bool d.down]
def Ds.names (d : Ds) : List ByteArray := d.files.map Fv.name
/-- The blocks that a disk takes. -/
def Ds.foot (b : Nat) (d : Ds) : List Nat := b :: (ob d.vf ++ (ob d.vp ++ d.files.flatMap fun f => ob f.v))

structure Rep (w : World) (B b : Nat) (d : Ds) : Prop where
  ge : B ≤ b
  blk : w.heap[b]? = some (.cells d.cells 44 (0, 0))
  tab : w.ownsRow B 52 3 d.vf d.files.length (d.files.flatMap Fv.cells)
  pcs : w.ownsRow B 54 2 d.vp d.pieces.length (d.pieces.flatMap Pc.cells)
  rows : ∀ f ∈ d.files, w.ownsRow B 5 1 f.v f.bytes.length (bcells f.bytes)
  nodup : (d.foot b).Nodup

theorem own_frame {w w' : World} {base : Nat} {e : TypeId} {size : Nat} {v : Value} {n : Nat} {xs : List Value} (h : w.ownsRow base e size v n xs) (hb : ∀ k, v.ownBlock = some k → w'.heap[k]? = w.heap[k]?) : w'.ownsRow base e size v n xs := by
  obtain ⟨h1, h2⟩ := h
  refine ⟨h1, ?_⟩
  rcases h2 with h2 | ⟨g, cap, cur, hv, hg, hh, r⟩
  · exact .inl h2
  · exact .inr ⟨g, cap, cur, hv, hg, (hb g (by rw [hv]; rfl)).trans hh, r⟩

theorem foot_b {b : Nat} {d : Ds} : b ∈ d.foot b := List.mem_cons_self
theorem foot_vf {b k : Nat} {d : Ds} (h : d.vf.ownBlock = some k) : k ∈ d.foot b := List.mem_cons_of_mem _ (List.mem_append_left _ (mem_ob.2 h))
theorem foot_vp {b k : Nat} {d : Ds} (h : d.vp.ownBlock = some k) : k ∈ d.foot b := List.mem_cons_of_mem _ (List.mem_append_right _ (List.mem_append_left _ (mem_ob.2 h)))
theorem foot_f {b k : Nat} {d : Ds} {f : Fv} (hf : f ∈ d.files) (h : f.v.ownBlock = some k) : k ∈ d.foot b :=
  List.mem_cons_of_mem _ (List.mem_append_right _ (List.mem_append_right _ (List.mem_flatMap.2 ⟨f, hf, mem_ob.2 h⟩)))
theorem foot_cases {b k : Nat} {d : Ds} (h : k ∈ d.foot b) : k = b ∨ d.vf.ownBlock = some k ∨ d.vp.ownBlock = some k ∨ ∃ f ∈ d.files, f.v.ownBlock = some k := by
  rcases List.mem_cons.1 h with h | h
  · exact .inl h
  · rcases List.mem_append.1 h with h | h
    · exact .inr (.inl (mem_ob.1 h))
    · rcases List.mem_append.1 h with h | h
      · exact .inr (.inr (.inl (mem_ob.1 h)))
      · obtain ⟨f, hf, hk⟩ := List.mem_flatMap.1 h
        exact .inr (.inr (.inr ⟨f, hf, mem_ob.1 hk⟩))

theorem Rep.frame {w w' : World} {B b : Nat} {d : Ds} (h : Rep w B b d) (hf : ∀ k ∈ d.foot b, w'.heap[k]? = w.heap[k]?) : Rep w' B b d where
  ge := h.ge
  blk := (hf b foot_b).trans h.blk
  tab := own_frame h.tab fun _ hk => hf _ (foot_vf hk)
  pcs := own_frame h.pcs fun _ hk => hf _ (foot_vp hk)
  rows := fun f hm => own_frame (h.rows f hm) fun _ hk => hf _ (foot_f hm hk)
  nodup := h.nodup

theorem Rep.lt {w : World} {B b : Nat} {d : Ds} (h : Rep w B b d) : ∀ k ∈ d.foot b, B ≤ k ∧ k < w.heap.size := by
  intro k hk
  rcases foot_cases hk with rfl | hk | hk | ⟨f, hf, hk⟩
  · exact ⟨h.ge, (Array.getElem?_eq_some_iff.1 h.blk).1⟩
  · exact h.tab.lt k hk
  · exact h.pcs.lt k hk
  · exact (h.rows f hf).lt k hk

theorem Rep.below {w w' : World} {B b : Nat} {d : Ds} (h : Rep w B b d) (hb : Below w.heap.size w w') : Rep w' B b d :=
  h.frame fun k hk => hb.block k (h.lt k hk).2

/-- From one footprint to another: blocks beside the first are as they were, what the second has is in the first, or new. -/
structure Step (fo fo' : List Nat) (w w' : World) : Prop where
  os : w'.os = w.os
  tape : w'.tape = w.tape
  output : w'.output = w.output
  size : w.heap.size ≤ w'.heap.size
  block : ∀ k, k < w.heap.size → k ∉ fo → w'.heap[k]? = w.heap[k]?
  sub : ∀ k ∈ fo', k ∈ fo ∨ w.heap.size ≤ k

theorem Step.trans {a b c : List Nat} {u v w : World} (h : Step a b u v) (k : Step b c v w) : Step a c u w where
  os := k.os.trans h.os
  tape := k.tape.trans h.tape
  output := k.output.trans h.output
  size := Nat.le_trans h.size k.size
  block := fun j hj hn => (k.block j (Nat.lt_of_lt_of_le hj h.size) (fun hb => by
    rcases h.sub j hb with h1 | h1
    · exact hn h1
    · omega)).trans (h.block j hj hn)
  sub := fun j hj => by
    rcases k.sub j hj with h1 | h1
    · exact h.sub j h1
    · exact .inr (Nat.le_trans h.size h1)

theorem Step.ofBelow {fo : List Nat} {w w' : World} (h : Below w.heap.size w w') : Step fo fo w w' :=
  ⟨h.os, h.tape, h.output, h.size, fun k hk _ => h.block k hk, fun _ hk => .inl hk⟩
theorem Step.refl (fo : List Nat) (w : World) : Step fo fo w w := Step.ofBelow (Below.refl _ _)

theorem Step.set {fo : List Nat} (w : World) {a : Addr} (h : a.block ∈ fo) (v : Value) : Step fo fo w (w.setCell a v) :=
  ⟨rfl, rfl, rfl, by simp, fun k _ hn => Below.heap_setCell w a v k (fun e => hn (e ▸ h)), fun _ hk => .inl hk⟩

theorem Step.setb {fo : List Nat} (w : World) {g : Nat} (h : g ∈ fo) (j : Nat) (v : Value) : Step fo fo w (w.setCell ⟨g, j, none⟩ v) := Step.set w (a := ⟨g, j, none⟩) h v

/-- Below B, if the footprint is above. -/
theorem Step.below {fo fo' : List Nat} {w w' : World} {B : Nat} (h : Step fo fo' w w') (hf : ∀ k ∈ fo, B ≤ k) (hB : B ≤ w.heap.size) : Below B w w' :=
  ⟨h.os, h.tape, h.output, h.size, fun k hk => h.block k (by omega) (fun hm => by have := hf k hm; omega)⟩

/-- A cell of an own row is set. -/
theorem own_set {w : World} {base g : Nat} {e : TypeId} {size : Nat} {v : Value} {n : Nat} {xs : List Value} (h : w.ownsRow base e size v n xs) (hg : v.ownBlock = some g) (j : Nat) (_ : j < n * size) (u : Value) : (w.setCell ⟨g, j, none⟩ u).ownsRow base e size v n (xs.set j u) := by
  obtain ⟨h1, h2⟩ := h
  refine ⟨by simpa using h1, ?_⟩
  rcases h2 with ⟨rfl, _⟩ | ⟨g', cap, cur, rfl, hb, hh, h3, h4, h5, h6⟩
  · simp [Value.ownBlock] at hg
  · simp [Value.ownBlock] at hg
    subst hg
    refine .inr ⟨g', cap, cur.setIfInBounds j u, rfl, hb, heap_setCell_same w g' j cur e u hh, h3, h4, by simpa using h5, ?_⟩
    rw [← h6, Array.toList_setIfInBounds, List.take_set]

theorem own_form {w : World} {base : Nat} {e : TypeId} {size : Nat} {v : Value} {n : Nat} {xs : List Value} (h : w.ownsRow base e size v n xs) (hn : 0 < n) : ∃ g cap, v = .slice (some ⟨g, 0, none⟩) n cap ∧ n ≤ cap ∧ cap ≤ maxLen ∧ v.ownBlock = some g := by
  rcases h.2 with ⟨_, h0⟩ | ⟨g, cap, cur, rfl, hb, hh, h3, h4, h5, h6⟩
  · omega
  · exact ⟨g, cap, rfl, h3, h4, rfl⟩

theorem own_one {w : World} {base : Nat} {e : TypeId} {size : Nat} {v : Value} {n : Nat} {xs : List Value} (h : w.ownsRow base e size v n xs) : v.oneCell' = true := by
  rcases h.2 with ⟨rfl, h0⟩ | ⟨g, cap, cur, rfl, hb, hh, h3, h4, h5, h6⟩ <;> rfl

theorem own_any {w : World} {base : Nat} {e : TypeId} {size : Nat} {v : Value} {n : Nat} {xs : List Value} (h : w.ownsRow base e size v n xs) : ∃ a cap, v = .slice a n cap := by
  rcases h.2 with ⟨rfl, rfl⟩ | ⟨g, cap, cur, rfl, hb, hh, h3, h4, h5, h6⟩
  · exact ⟨none, 0, rfl⟩
  · exact ⟨_, cap, rfl⟩

theorem own_cell {w : World} {base g : Nat} {e : TypeId} {size : Nat} {v : Value} {n : Nat} {xs : List Value} (h : w.ownsRow base e size v n xs) (hg : v.ownBlock = some g) {j : Nat} {u : Value} (hu : xs[j]? = some u) : w.cell? ⟨g, j, none⟩ = some u := by
  have := h.cells hg j u hu
  rwa [Addr.add_lit, Nat.zero_add] at this

theorem own_frozen {w : World} {base g : Nat} {e : TypeId} {size : Nat} {v : Value} {n : Nat} {xs : List Value} (h : w.ownsRow base e size v n xs) (hg : v.ownBlock = some g) (j : Nat) : w.frozen? ⟨g, j, none⟩ = false := by
  rcases h.2 with ⟨rfl, _⟩ | ⟨g', cap, cur, rfl, hb, hh, h3, h4, h5, h6⟩
  · simp [Value.ownBlock] at hg
  · simp [Value.ownBlock] at hg
    subst hg
    exact frozen_of_row w g' j cur e hh

/-- Three cells a file. -/
theorem flat_at : ∀ {l : List Fv} {i : Nat} {f : Fv}, l[i]? = some f → (l.flatMap Fv.cells)[i * 3]? = some (.string f.name) ∧ (l.flatMap Fv.cells)[i * 3 + 1]? = some f.v ∧ (l.flatMap Fv.cells)[i * 3 + 2]? = some (.int .i64 (f.sure : Int))
  | [], i, f, h => by simp at h
  | a :: r, 0, f, h => by
    simp at h
    subst h
    simp [List.flatMap_cons, Fv.cells]
  | a :: r, i + 1, f, h => by
    have ih := flat_at (l := r) (i := i) (f := f) (by simpa using h)
    simp only [List.flatMap_cons]
    rw [show (i + 1) * 3 = i * 3 + 3 by omega, show i * 3 + 3 + 1 = (i * 3 + 1) + 3 by omega, show i * 3 + 3 + 2 = (i * 3 + 2) + 3 by omega]
    have e : ∀ k, (a.cells ++ r.flatMap Fv.cells)[k + 3]? = (r.flatMap Fv.cells)[k]? := fun k => by
      rw [List.getElem?_append_right (by simp [Fv.cells])]
      congr 1
    rw [e, e, e]
    exact ih

theorem flat_at2 : ∀ {l : List Pc} {i : Nat} {f : Pc}, l[i]? = some f → (l.flatMap Pc.cells)[i * 2]? = some (.string f.name) ∧ (l.flatMap Pc.cells)[i * 2 + 1]? = some (.int .i64 (f.size : Int))
  | [], i, f, h => by simp at h
  | a :: r, 0, f, h => by
    simp at h
    subst h
    simp [List.flatMap_cons, Pc.cells]
  | a :: r, i + 1, f, h => by
    have ih := flat_at2 (l := r) (i := i) (f := f) (by simpa using h)
    simp only [List.flatMap_cons]
    rw [show (i + 1) * 2 = i * 2 + 2 by omega, show i * 2 + 2 + 1 = (i * 2 + 1) + 2 by omega]
    have e : ∀ k, (a.cells ++ r.flatMap Pc.cells)[k + 2]? = (r.flatMap Pc.cells)[k]? := fun k => by
      rw [List.getElem?_append_right (by simp [Pc.cells])]
      congr 1
    rw [e, e]
    exact ih

theorem flat_set : ∀ (l : List Fv) (i : Nat) (f g : Fv), l[i]? = some f → g.name = f.name → (l.set i g).flatMap Fv.cells = ((l.flatMap Fv.cells).set (i * 3 + 1) g.v).set (i * 3 + 2) (.int .i64 (g.sure : Int))
  | [], i, f, g, h, _ => by simp at h
  | a :: r, 0, f, g, h, hn => by
    simp at h
    subst h
    simp [List.flatMap_cons, Fv.cells, hn]
  | a :: r, i + 1, f, g, h, hn => by
    have ih := flat_set r i f g (by simpa using h) hn
    simp only [List.set_cons_succ, List.flatMap_cons, ih]
    rw [show (i + 1) * 3 + 1 = (i * 3 + 1) + 3 by omega, show (i + 1) * 3 + 2 = (i * 3 + 2) + 3 by omega]
    simp [Fv.cells]

theorem flat_len (l : List Fv) : (l.flatMap Fv.cells).length = l.length * 3 := by
  induction l with
  | nil => rfl
  | cons a r ih => simp [List.flatMap_cons, ih, Fv.cells]; omega
theorem flat_len2 (l : List Pc) : (l.flatMap Pc.cells).length = l.length * 2 := by
  induction l with
  | nil => rfl
  | cons a r ih => simp [List.flatMap_cons, ih, Pc.cells]; omega
end Go.Proofs.YtblhkhgcaheplaaGreatDoor.Dk
