/-
  Ytnmamaeoghgegaa: the texts DW1, DM, DD1, DW2, DW3, DW4, DW5, one behind the other.
-/
import Derived.Test.YtnmamaeoghgegaaRows
import Derived.WalkKit
import Derived.WalkSpells
import Derived.WalkLawsBesides
import Derived.Deep.LoopGhost
import Derived.Lib.Bytealg
import Derived.Laws.Externs
import Derived.Maps.AppendAt
import Derived.Below
import Derived.Lib.Walk
import Derived.Lib.SliceRun
/-
  Contracts of the comparison of names, and of what may be a name.
-/
namespace Go.Proofs.Ytnmamaeoghgegaa.Dk
open Go.RowKit
set_option maxRecDepth 100000

/-- The order of names. -/
def cmp (a b : ByteArray) : Int := Lib.compareBytes a.data.toList b.data.toList

theorem compareString_any (a b : ByteArray) (w : World) :
    Calls Try.prog 99 #[.string a, .string b] w fun e w' => e = .returned (.int .i64 (cmp a b)) ∧ w' = w := by
  go_enter Try.func99, Try.ntmps99
  go_wp2
  rw [run_callFunc_extern Try.func105 (by kernel_rfl) (by kernel_rfl) (by kernel_rfl) (e := Extern.BytealgCompare.compare) (by kernel_rfl), Lib.run_compareString]
  simp only [Result.andThen]
  rw [Oper.upon_value]
  go_wp2
  go_ret
  exact ⟨rfl, rfl⟩

theorem compare_any (a b : ByteArray) (w : World) :
    Calls Try.prog 81 #[.string a, .string b] w fun e w' => e = .returned (.int .i64 (cmp a b)) ∧ w' = w := by
  go_enter Try.func81, Try.ntmps81
  go_wp2_with (go_at_call 99; refine (compareString_any _ _ _).mono ?_; rintro e w' ⟨rfl, rfl⟩)
  go_ret
  exact ⟨rfl, rfl⟩

/-- The comparison that find hands on: of a file with a name. -/
theorem findCmp_any (a n : ByteArray) (v s : Value) (w : World) :
    Calls Try.prog 80 #[.agg #[.string a, v, s], .string n] w fun e w' => e = .returned (.int .i64 (cmp a n)) ∧ w' = w.alloc (.cells #[.string a, v, s] 70) := by
  go_enter Try.func80, Try.ntmps80
  go_wp2_with (go_at_call 81; refine (compare_any _ _ _).mono ?_; rintro e w' ⟨rfl, rfl⟩)
  go_ret
  exact ⟨rfl, rfl⟩
end Go.Proofs.Ytnmamaeoghgegaa.Dk

/-
  Plain mathematics: the order of names, files and pieces as lists.
-/
namespace Go.Proofs.Ytnmamaeoghgegaa.Dk
open Go.RowKit
set_option maxRecDepth 100000

theorem cb_self : ∀ a : List UInt8, Lib.compareBytes a a = 0
  | [] => rfl
  | x :: a => by
    have h : ¬ x < x := UInt8.lt_irrefl x
    simp [Lib.compareBytes, h, cb_self a]

theorem cb_zero : ∀ a b : List UInt8, Lib.compareBytes a b = 0 → a = b
  | [], [], _ => rfl
  | [], _ :: _, h => by simp [Lib.compareBytes] at h
  | _ :: _, [], h => by simp [Lib.compareBytes] at h
  | x :: a, y :: b, h => by
    unfold Lib.compareBytes at h
    by_cases h1 : x < y
    · simp [h1] at h
    · by_cases h2 : y < x
      · simp [h1, h2] at h
      · have e : x = y := UInt8.le_antisymm (UInt8.not_lt.1 h2) (UInt8.not_lt.1 h1)
        simp [h1, h2] at h
        rw [e, cb_zero a b h]

theorem cb_swap : ∀ a b : List UInt8, Lib.compareBytes b a = - Lib.compareBytes a b
  | [], [] => rfl
  | [], _ :: _ => rfl
  | _ :: _, [] => rfl
  | x :: a, y :: b => by
    unfold Lib.compareBytes
    by_cases h1 : x < y
    · have h2 : ¬ y < x := fun h => UInt8.lt_irrefl _ (UInt8.lt_trans h1 h)
      simp [h1, h2]
    · by_cases h2 : y < x
      · simp [h1, h2]
      · simp [h1, h2, cb_swap a b]

theorem cb_trans : ∀ a b c : List UInt8, Lib.compareBytes a b < 0 → Lib.compareBytes b c < 0 → Lib.compareBytes a c < 0
  | [], [], _, h, _ => by simp [Lib.compareBytes] at h
  | [], _ :: _, [], _, h => by simp [Lib.compareBytes] at h
  | [], _ :: _, _ :: _, _, _ => by simp [Lib.compareBytes]
  | _ :: _, [], _, h, _ => by simp [Lib.compareBytes] at h
  | _ :: _, _ :: _, [], _, h => by simp [Lib.compareBytes] at h
  | x :: a, y :: b, z :: c, h1, h2 => by
    unfold Lib.compareBytes at h1 h2 ⊢
    by_cases hxy : x < y
    · by_cases hyz : y < z
      · simp [UInt8.lt_trans hxy hyz]
      · by_cases hzy : z < y
        · simp [hyz, hzy] at h2
        · have e : y = z := UInt8.le_antisymm (UInt8.not_lt.1 hzy) (UInt8.not_lt.1 hyz)
          subst e
          simp [hxy]
    · by_cases hyx : y < x
      · simp [hxy, hyx] at h1
      · have e : x = y := UInt8.le_antisymm (UInt8.not_lt.1 hyx) (UInt8.not_lt.1 hxy)
        subst e
        simp only [hxy, if_false] at h1
        by_cases hyz : x < z
        · simp [hyz]
        · by_cases hzy : z < x
          · simp [hyz, hzy] at h2
          · simp only [hyz, hzy, if_false] at h2 ⊢
            exact cb_trans a b c h1 h2

theorem ba_ext {a b : ByteArray} (h : a.data.toList = b.data.toList) : a = b := by
  obtain ⟨⟨x⟩⟩ := a
  obtain ⟨⟨y⟩⟩ := b
  simp at h
  rw [h]

theorem cmp_self (a : ByteArray) : cmp a a = 0 := cb_self _
theorem cmp_zero {a b : ByteArray} : cmp a b = 0 ↔ a = b := ⟨fun h => ba_ext (cb_zero _ _ h), fun h => h ▸ cmp_self a⟩
theorem cmp_swap (a b : ByteArray) : cmp b a = - cmp a b := cb_swap _ _
theorem cmp_trans {a b c : ByteArray} (h : cmp a b < 0) (k : cmp b c < 0) : cmp a c < 0 := cb_trans _ _ _ h k

theorem less_cmp : ∀ a b : List UInt8, Op.bytesLess a b = decide (Lib.compareBytes a b < 0)
  | [], [] => rfl
  | [], _ :: _ => rfl
  | _ :: _, [] => by simp [Op.bytesLess, Lib.compareBytes]
  | x :: a, y :: b => by
    unfold Op.bytesLess Lib.compareBytes
    by_cases h1 : x < y
    · simp [h1]
    · by_cases h2 : y < x
      · have h3 : ¬ x = y := fun e => UInt8.lt_irrefl y (e ▸ h2)
        simp [h1, h2, h3]
      · have e : x = y := UInt8.le_antisymm (UInt8.not_lt.1 h2) (UInt8.not_lt.1 h1)
        subst e
        simp [h1, less_cmp a b]

theorem less_any (a b : ByteArray) : Op.bytesLess a.toList b.toList = decide (cmp a b < 0) := by
  rw [ByteArray.toList_eq, ByteArray.toList_eq]
  exact less_cmp _ _

/-- A file as it lies in a table: its bytes' slice is v. -/
structure Fv where
  name : ByteArray
  bytes : List UInt8
  sure : Nat
  v : Value

/-- What isn't sure, piece by piece. -/
structure Pc where
  name : ByteArray
  size : Nat

instance : Inhabited Fv := ⟨⟨⟨#[]⟩, [], 0, .slice none 0 0⟩⟩
instance : Inhabited Pc := ⟨⟨⟨#[]⟩, 0⟩⟩

/-- The files' names rise. -/
def Rising : List ByteArray → Prop
  | [] => True
  | a :: r => (∀ x ∈ r, cmp a x < 0) ∧ Rising r

/-- How many names are ahead of a name. -/
def place (l : List ByteArray) (n : ByteArray) : Nat := l.countP fun x => decide (cmp x n < 0)

theorem place_le (l : List ByteArray) (n : ByteArray) : place l n ≤ l.length := List.countP_le_length

theorem place_cons_lt {a n : ByteArray} (l : List ByteArray) (h : cmp a n < 0) : place (a :: l) n = place l n + 1 := by simp [place, h]
theorem place_cons_ge {a n : ByteArray} (l : List ByteArray) (h : ¬ cmp a n < 0) : place (a :: l) n = place l n := by simp [place, h]
theorem place_zero {a n : ByteArray} {l : List ByteArray} (hr : Rising (a :: l)) (h : ¬ cmp a n < 0) : place (a :: l) n = 0 := by
  unfold place
  rw [List.countP_eq_zero]
  intro x hx hc
  rcases List.mem_cons.1 hx with rfl | hx
  · exact h (by simpa using hc)
  · have hc' : cmp x n < 0 := by simpa using hc
    exact h (cmp_trans (hr.1 x hx) hc')

theorem Rising.mono {l : List ByteArray} (hr : Rising l) (n : ByteArray) : ∀ a b, a ≤ b → b < l.length → cmp l[b]! n < 0 → cmp l[a]! n < 0 := by
  induction l with
  | nil => intro a b _ hb; simp at hb
  | cons x r ih =>
    intro a b hab hb hc
    cases b with
    | zero =>
      obtain rfl : a = 0 := by omega
      exact hc
    | succ b =>
      have hb' : b < r.length := by simpa using hb
      have hc' : cmp r[b]! n < 0 := by simpa using hc
      cases a with
      | zero =>
        have hm : r[b]! ∈ r := by rw [getElem!_pos r b hb']; exact List.getElem_mem hb'
        simpa using cmp_trans (hr.1 _ hm) hc'
      | succ a => simpa using ih hr.2 a b (by omega) hb' hc'

/-- Where a name that is there stands. -/
theorem place_at : ∀ {l : List ByteArray}, Rising l → ∀ i, i < l.length → place l l[i]! = i
  | [], _, i, h => by simp at h
  | a :: r, hr, 0, _ => by
    have := place_zero hr (n := a) (by rw [cmp_self]; omega)
    simpa using this
  | a :: r, hr, i + 1, h => by
    have hi : i < r.length := by simpa using h
    have hm : r[i]! ∈ r := by rw [getElem!_pos r i hi]; exact List.getElem_mem hi
    have := place_cons_lt r (hr.1 _ hm)
    rw [place_at hr.2 i hi] at this
    simpa using this

/-- A name that isn't at its place isn't there at all. -/
theorem place_mem {l : List ByteArray} (hr : Rising l) (n : ByteArray) : n ∈ l ↔ place l n < l.length ∧ l[place l n]! = n := by
  constructor
  · intro h
    obtain ⟨i, hi, rfl⟩ := List.getElem_of_mem h
    have := place_at hr i hi
    rw [getElem!_pos l i hi] at this
    rw [this]
    exact ⟨hi, getElem!_pos l i hi⟩
  · rintro ⟨h, e⟩
    rw [← e, getElem!_pos l _ h]
    exact List.getElem_mem h

theorem Rising.nodup : ∀ {l : List ByteArray}, Rising l → l.Nodup
  | [], _ => List.nodup_nil
  | a :: r, h => List.nodup_cons.2 ⟨fun hm => by have := h.1 a hm; rw [cmp_self] at this; omega, Rising.nodup h.2⟩

theorem Rising.sub : ∀ {l l' : List ByteArray}, l'.Sublist l → Rising l → Rising l'
  | _, _, .slnil, _ => trivial
  | _, _, .cons _ h, hr => Rising.sub h hr.2
  | _, _, .cons_cons _ h, hr => ⟨fun x hx => hr.1 x (h.subset hx), Rising.sub h hr.2⟩

/-- A name put at its place, where it isn't there. -/
theorem Rising.insert : ∀ {l : List ByteArray}, Rising l → ∀ n, n ∉ l → Rising (l.take (place l n) ++ n :: l.drop (place l n))
  | [], _, n, _ => by simp [place, Rising]
  | a :: r, hr, n, hn => by
    by_cases h : cmp a n < 0
    · rw [place_cons_lt r h]
      have ih := Rising.insert hr.2 n (fun hm => hn (List.mem_cons_of_mem _ hm))
      refine ⟨?_, ih⟩
      intro x hx
      rcases List.mem_append.1 hx with hx | hx
      · exact hr.1 x (List.mem_of_mem_take hx)
      · rcases List.mem_cons.1 hx with rfl | hx
        · exact h
        · exact hr.1 x (List.mem_of_mem_drop hx)
    · rw [place_zero hr h]
      have hne : cmp a n ≠ 0 := fun e => hn (by rw [cmp_zero.1 e]; exact List.mem_cons_self)
      have hlt : cmp n a < 0 := by rw [cmp_swap]; omega
      refine ⟨?_, hr⟩
      intro x hx
      rcases List.mem_cons.1 hx with rfl | hx
      · exact hlt
      · exact cmp_trans hlt (hr.1 x hx)
end Go.Proofs.Ytnmamaeoghgegaa.Dk

/-
  A disk of the program in memory: its block, the table of its files, their bytes, its pieces.
-/
namespace Go.Proofs.Ytnmamaeoghgegaa.Dk
open Go.RowKit
set_option maxRecDepth 100000

def ob (v : Value) : List Nat := v.ownBlock.toList

theorem mem_ob {v : Value} {k : Nat} : k ∈ ob v ↔ v.ownBlock = some k := by
  unfold ob
  cases v.ownBlock <;> simp [eq_comm]

def Fv.cells (f : Fv) : List Value := [.string f.name, f.v, .int .i64 (f.sure : Int)]
def Pc.cells (p : Pc) : List Value := [.string p.name, .int .i64 (p.size : Int)]
def bcells (l : List UInt8) : List Value := l.map fun b => Value.int .u8 (b.toNat : Int)

/-- What a disk is: its files, its pieces, where their tables lie, and the rest. -/
structure Ds where
  files : List Fv
  pieces : List Pc
  vf : Value
  vp : Value
  room : Nat
  fused : Bool
  fuse : Nat
  down : Bool

def Ds.cells (d : Ds) : Array Value := #[d.vf, d.vp, .int .i64 (d.room : Int), .bool d.fused, .int .i64 (d.fuse : Int), .bool d.down]
def Ds.names (d : Ds) : List ByteArray := d.files.map Fv.name
/-- The blocks that a disk takes. -/
def Ds.foot (b : Nat) (d : Ds) : List Nat := b :: (ob d.vf ++ (ob d.vp ++ d.files.flatMap fun f => ob f.v))

structure Rep (w : World) (B b : Nat) (d : Ds) : Prop where
  ge : B ≤ b
  blk : w.heap[b]? = some (.cells d.cells 63 (0, 0))
  tab : w.ownsRow B 70 3 d.vf d.files.length (d.files.flatMap Fv.cells)
  pcs : w.ownsRow B 75 2 d.vp d.pieces.length (d.pieces.flatMap Pc.cells)
  rows : ∀ f ∈ d.files, w.ownsRow B 5 1 f.v f.bytes.length (bcells f.bytes)
  nodup : (d.foot b).Nodup

theorem own_frame {w w' : World} {base : Nat} {e : TypeId} {size : Nat} {v : Value} {n : Nat} {xs : List Value} (h : w.ownsRow base e size v n xs) (hb : ∀ k, v.ownBlock = some k → w'.heap[k]? = w.heap[k]?) : w'.ownsRow base e size v n xs := by
  obtain ⟨h1, h2⟩ := h
  refine ⟨h1, ?_⟩
  rcases h2 with h2 | ⟨g, cap, cur, hv, hg, hh, r⟩
  · exact .inl h2
  · exact .inr ⟨g, cap, cur, hv, hg, (hb g (by rw [hv]; rfl)).trans hh, r⟩

theorem foot_b {b : Nat} {d : Ds} : b ∈ d.foot b := List.mem_cons_self
theorem foot_vf {b k : Nat} {d : Ds} (h : d.vf.ownBlock = some k) : k ∈ d.foot b := List.mem_cons_of_mem _ (List.mem_append_left _ (mem_ob.2 h))
theorem foot_vp {b k : Nat} {d : Ds} (h : d.vp.ownBlock = some k) : k ∈ d.foot b := List.mem_cons_of_mem _ (List.mem_append_right _ (List.mem_append_left _ (mem_ob.2 h)))
theorem foot_f {b k : Nat} {d : Ds} {f : Fv} (hf : f ∈ d.files) (h : f.v.ownBlock = some k) : k ∈ d.foot b :=
  List.mem_cons_of_mem _ (List.mem_append_right _ (List.mem_append_right _ (List.mem_flatMap.2 ⟨f, hf, mem_ob.2 h⟩)))
theorem foot_cases {b k : Nat} {d : Ds} (h : k ∈ d.foot b) : k = b ∨ d.vf.ownBlock = some k ∨ d.vp.ownBlock = some k ∨ ∃ f ∈ d.files, f.v.ownBlock = some k := by
  rcases List.mem_cons.1 h with h | h
  · exact .inl h
  · rcases List.mem_append.1 h with h | h
    · exact .inr (.inl (mem_ob.1 h))
    · rcases List.mem_append.1 h with h | h
      · exact .inr (.inr (.inl (mem_ob.1 h)))
      · obtain ⟨f, hf, hk⟩ := List.mem_flatMap.1 h
        exact .inr (.inr (.inr ⟨f, hf, mem_ob.1 hk⟩))

theorem Rep.frame {w w' : World} {B b : Nat} {d : Ds} (h : Rep w B b d) (hf : ∀ k ∈ d.foot b, w'.heap[k]? = w.heap[k]?) : Rep w' B b d where
  ge := h.ge
  blk := (hf b foot_b).trans h.blk
  tab := own_frame h.tab fun _ hk => hf _ (foot_vf hk)
  pcs := own_frame h.pcs fun _ hk => hf _ (foot_vp hk)
  rows := fun f hm => own_frame (h.rows f hm) fun _ hk => hf _ (foot_f hm hk)
  nodup := h.nodup

theorem Rep.lt {w : World} {B b : Nat} {d : Ds} (h : Rep w B b d) : ∀ k ∈ d.foot b, B ≤ k ∧ k < w.heap.size := by
  intro k hk
  rcases foot_cases hk with rfl | hk | hk | ⟨f, hf, hk⟩
  · exact ⟨h.ge, (Array.getElem?_eq_some_iff.1 h.blk).1⟩
  · exact h.tab.lt k hk
  · exact h.pcs.lt k hk
  · exact (h.rows f hf).lt k hk

theorem Rep.below {w w' : World} {B b : Nat} {d : Ds} (h : Rep w B b d) (hb : Below w.heap.size w w') : Rep w' B b d :=
  h.frame fun k hk => hb.block k (h.lt k hk).2

/-- From one footprint to another: blocks beside the first are as they were, what the second has is in the first, or new. -/
structure Step (fo fo' : List Nat) (w w' : World) : Prop where
  os : w'.os = w.os
  tape : w'.tape = w.tape
  output : w'.output = w.output
  size : w.heap.size ≤ w'.heap.size
  block : ∀ k, k < w.heap.size → k ∉ fo → w'.heap[k]? = w.heap[k]?
  sub : ∀ k ∈ fo', k ∈ fo ∨ w.heap.size ≤ k

theorem Step.trans {a b c : List Nat} {u v w : World} (h : Step a b u v) (k : Step b c v w) : Step a c u w where
  os := k.os.trans h.os
  tape := k.tape.trans h.tape
  output := k.output.trans h.output
  size := Nat.le_trans h.size k.size
  block := fun j hj hn => (k.block j (Nat.lt_of_lt_of_le hj h.size) (fun hb => by
    rcases h.sub j hb with h1 | h1
    · exact hn h1
    · omega)).trans (h.block j hj hn)
  sub := fun j hj => by
    rcases k.sub j hj with h1 | h1
    · exact h.sub j h1
    · exact .inr (Nat.le_trans h.size h1)

theorem Step.ofBelow {fo : List Nat} {w w' : World} (h : Below w.heap.size w w') : Step fo fo w w' :=
  ⟨h.os, h.tape, h.output, h.size, fun k hk _ => h.block k hk, fun _ hk => .inl hk⟩
theorem Step.refl (fo : List Nat) (w : World) : Step fo fo w w := Step.ofBelow (Below.refl _ _)

theorem Step.set {fo : List Nat} (w : World) {a : Addr} (h : a.block ∈ fo) (v : Value) : Step fo fo w (w.setCell a v) :=
  ⟨rfl, rfl, rfl, by simp, fun k _ hn => Below.heap_setCell w a v k (fun e => hn (e ▸ h)), fun _ hk => .inl hk⟩

theorem Step.setb {fo : List Nat} (w : World) {g : Nat} (h : g ∈ fo) (j : Nat) (v : Value) : Step fo fo w (w.setCell ⟨g, j, none⟩ v) := Step.set w (a := ⟨g, j, none⟩) h v

/-- Below B, if the footprint is above. -/
theorem Step.below {fo fo' : List Nat} {w w' : World} {B : Nat} (h : Step fo fo' w w') (hf : ∀ k ∈ fo, B ≤ k) (hB : B ≤ w.heap.size) : Below B w w' :=
  ⟨h.os, h.tape, h.output, h.size, fun k hk => h.block k (by omega) (fun hm => by have := hf k hm; omega)⟩

/-- A cell of an own row is set. -/
theorem own_set {w : World} {base g : Nat} {e : TypeId} {size : Nat} {v : Value} {n : Nat} {xs : List Value} (h : w.ownsRow base e size v n xs) (hg : v.ownBlock = some g) (j : Nat) (_ : j < n * size) (u : Value) : (w.setCell ⟨g, j, none⟩ u).ownsRow base e size v n (xs.set j u) := by
  obtain ⟨h1, h2⟩ := h
  refine ⟨by simpa using h1, ?_⟩
  rcases h2 with ⟨rfl, _⟩ | ⟨g', cap, cur, rfl, hb, hh, h3, h4, h5, h6⟩
  · simp [Value.ownBlock] at hg
  · simp [Value.ownBlock] at hg
    subst hg
    refine .inr ⟨g', cap, cur.setIfInBounds j u, rfl, hb, heap_setCell_same w g' j cur e u hh, h3, h4, by simpa using h5, ?_⟩
    rw [← h6, Array.toList_setIfInBounds, List.take_set]

theorem own_form {w : World} {base : Nat} {e : TypeId} {size : Nat} {v : Value} {n : Nat} {xs : List Value} (h : w.ownsRow base e size v n xs) (hn : 0 < n) : ∃ g cap, v = .slice (some ⟨g, 0, none⟩) n cap ∧ n ≤ cap ∧ cap ≤ maxLen ∧ v.ownBlock = some g := by
  rcases h.2 with ⟨_, h0⟩ | ⟨g, cap, cur, rfl, hb, hh, h3, h4, h5, h6⟩
  · omega
  · exact ⟨g, cap, rfl, h3, h4, rfl⟩

theorem own_one {w : World} {base : Nat} {e : TypeId} {size : Nat} {v : Value} {n : Nat} {xs : List Value} (h : w.ownsRow base e size v n xs) : v.oneCell' = true := by
  rcases h.2 with ⟨rfl, h0⟩ | ⟨g, cap, cur, rfl, hb, hh, h3, h4, h5, h6⟩ <;> rfl

theorem own_any {w : World} {base : Nat} {e : TypeId} {size : Nat} {v : Value} {n : Nat} {xs : List Value} (h : w.ownsRow base e size v n xs) : ∃ a cap, v = .slice a n cap := by
  rcases h.2 with ⟨rfl, rfl⟩ | ⟨g, cap, cur, rfl, hb, hh, h3, h4, h5, h6⟩
  · exact ⟨none, 0, rfl⟩
  · exact ⟨_, cap, rfl⟩

theorem own_cell {w : World} {base g : Nat} {e : TypeId} {size : Nat} {v : Value} {n : Nat} {xs : List Value} (h : w.ownsRow base e size v n xs) (hg : v.ownBlock = some g) {j : Nat} {u : Value} (hu : xs[j]? = some u) : w.cell? ⟨g, j, none⟩ = some u := by
  have := h.cells hg j u hu
  rwa [Addr.add_lit, Nat.zero_add] at this

theorem own_frozen {w : World} {base g : Nat} {e : TypeId} {size : Nat} {v : Value} {n : Nat} {xs : List Value} (h : w.ownsRow base e size v n xs) (hg : v.ownBlock = some g) (j : Nat) : w.frozen? ⟨g, j, none⟩ = false := by
  rcases h.2 with ⟨rfl, _⟩ | ⟨g', cap, cur, rfl, hb, hh, h3, h4, h5, h6⟩
  · simp [Value.ownBlock] at hg
  · simp [Value.ownBlock] at hg
    subst hg
    exact frozen_of_row w g' j cur e hh

/-- Three cells a file. -/
theorem flat_at : ∀ {l : List Fv} {i : Nat} {f : Fv}, l[i]? = some f → (l.flatMap Fv.cells)[i * 3]? = some (.string f.name) ∧ (l.flatMap Fv.cells)[i * 3 + 1]? = some f.v ∧ (l.flatMap Fv.cells)[i * 3 + 2]? = some (.int .i64 (f.sure : Int))
  | [], i, f, h => by simp at h
  | a :: r, 0, f, h => by
    simp at h
    subst h
    simp [List.flatMap_cons, Fv.cells]
  | a :: r, i + 1, f, h => by
    have ih := flat_at (l := r) (i := i) (f := f) (by simpa using h)
    simp only [List.flatMap_cons]
    rw [show (i + 1) * 3 = i * 3 + 3 by omega, show i * 3 + 3 + 1 = (i * 3 + 1) + 3 by omega, show i * 3 + 3 + 2 = (i * 3 + 2) + 3 by omega]
    have e : ∀ k, (a.cells ++ r.flatMap Fv.cells)[k + 3]? = (r.flatMap Fv.cells)[k]? := fun k => by
      rw [List.getElem?_append_right (by simp [Fv.cells])]
      congr 1
    rw [e, e, e]
    exact ih

theorem flat_at2 : ∀ {l : List Pc} {i : Nat} {f : Pc}, l[i]? = some f → (l.flatMap Pc.cells)[i * 2]? = some (.string f.name) ∧ (l.flatMap Pc.cells)[i * 2 + 1]? = some (.int .i64 (f.size : Int))
  | [], i, f, h => by simp at h
  | a :: r, 0, f, h => by
    simp at h
    subst h
    simp [List.flatMap_cons, Pc.cells]
  | a :: r, i + 1, f, h => by
    have ih := flat_at2 (l := r) (i := i) (f := f) (by simpa using h)
    simp only [List.flatMap_cons]
    rw [show (i + 1) * 2 = i * 2 + 2 by omega, show i * 2 + 2 + 1 = (i * 2 + 1) + 2 by omega]
    have e : ∀ k, (a.cells ++ r.flatMap Pc.cells)[k + 2]? = (r.flatMap Pc.cells)[k]? := fun k => by
      rw [List.getElem?_append_right (by simp [Pc.cells])]
      congr 1
    rw [e, e]
    exact ih

theorem flat_set : ∀ (l : List Fv) (i : Nat) (f g : Fv), l[i]? = some f → g.name = f.name → (l.set i g).flatMap Fv.cells = ((l.flatMap Fv.cells).set (i * 3 + 1) g.v).set (i * 3 + 2) (.int .i64 (g.sure : Int))
  | [], i, f, g, h, _ => by simp at h
  | a :: r, 0, f, g, h, hn => by
    simp at h
    subst h
    simp [List.flatMap_cons, Fv.cells, hn]
  | a :: r, i + 1, f, g, h, hn => by
    have ih := flat_set r i f g (by simpa using h) hn
    simp only [List.set_cons_succ, List.flatMap_cons, ih]
    rw [show (i + 1) * 3 + 1 = (i * 3 + 1) + 3 by omega, show (i + 1) * 3 + 2 = (i * 3 + 2) + 3 by omega]
    simp [Fv.cells]

theorem flat_len (l : List Fv) : (l.flatMap Fv.cells).length = l.length * 3 := by
  induction l with
  | nil => rfl
  | cons a r ih => simp [List.flatMap_cons, ih, Fv.cells]; omega
theorem flat_len2 (l : List Pc) : (l.flatMap Pc.cells).length = l.length * 2 := by
  induction l with
  | nil => rfl
  | cons a r ih => simp [List.flatMap_cons, ih, Pc.cells]; omega
end Go.Proofs.Ytnmamaeoghgegaa.Dk

/-
  A file is looked for by its name.
-/
namespace Go.Proofs.Ytnmamaeoghgegaa.Dk
open Go.RowKit
set_option maxRecDepth 100000

theorem cell_below {w w' : World} {a : Addr} {v : Value} (h : w.cell? a = some v) (hb : Below w.heap.size w w') : w'.cell? a = some v := by
  rw [hb.cell (World.block_lt_of_cell? w a h)]
  exact h

theorem names_get (l : List Fv) (t : Nat) (h : t < l.length) : (l.map Fv.name)[t]! = l[t]!.name := by
  rw [getElem!_pos _ t (by simpa using h), getElem!_pos l t h]
  simp

/-- Is a name there? -/
def has (l : List ByteArray) (n : ByteArray) : Bool := l.any fun x => decide (cmp x n = 0)
theorem has_iff {l : List ByteArray} {n : ByteArray} : has l n = true ↔ n ∈ l := by
  unfold has
  rw [List.any_eq_true]
  constructor
  · rintro ⟨x, hx, hc⟩
    rw [← cmp_zero.1 (of_decide_eq_true hc)]
    exact hx
  · intro h
    exact ⟨n, h, decide_eq_true (cmp_self n)⟩
theorem has_not {l : List ByteArray} {n : ByteArray} : has l n = false ↔ n ∉ l := by
  rw [← has_iff]
  simp

theorem mem_decide {l : List ByteArray} (hr : Rising l) (n : ByteArray) : has l n = (decide (place l n < l.length) && decide (cmp l[place l n]! n = 0)) := by
  have := place_mem hr n
  by_cases h : n ∈ l
  · obtain ⟨h1, h2⟩ := this.1 h
    rw [has_iff.2 h, h2, cmp_self]
    simp [h1]
  · rw [has_not.2 h]
    by_cases h1 : place l n < l.length
    · have h2 : ¬ cmp l[place l n]! n = 0 := fun e => h (this.2 ⟨h1, cmp_zero.1 e⟩)
      rw [decide_eq_false h2]
      simp
    · simp [h1]

theorem place_boundary {l : List ByteArray} {n : ByteArray} {i : Nat} (hi : i ≤ l.length) (h1 : ∀ t, t < i → cmp l[t]! n < 0) (h2 : ∀ t, i ≤ t → t < l.length → 0 ≤ cmp l[t]! n) : place l n = i := by
  induction l generalizing i with
  | nil => simp at hi; simp [hi, place]
  | cons a r ih =>
    cases i with
    | zero =>
      unfold place
      rw [List.countP_eq_zero]
      intro x hx
      obtain ⟨t, ht, rfl⟩ := List.getElem_of_mem hx
      have := h2 t (Nat.zero_le _) ht
      rw [getElem!_pos (a :: r) t ht] at this
      simp; omega
    | succ i =>
      have ha : cmp a n < 0 := by simpa using h1 0 (Nat.succ_pos _)
      rw [place_cons_lt r ha, ih (by simpa using hi) (fun t ht => by simpa using h1 (t + 1) (by omega)) (fun t h3 h4 => by simpa using h2 (t + 1) (by omega) (by simpa using h4))]

set_option maxHeartbeats 1600000 in
theorem search_any (B : Nat) (v : Value) (l : List Fv) (n : ByteArray) (w : World) (h : w.ownsRow B 70 3 v l.length (l.flatMap Fv.cells)) (hr : Rising (l.map Fv.name)) (hl : l.length ≤ 1000) :
    Calls Try.prog 79 #[v, .string n, .func (.func 80) #[] #[]] w fun e w' =>
      e = .returned (.tuple #[.int .i64 (place (l.map Fv.name) n : Nat), .bool (has (l.map Fv.name) n)]) ∧ Below w.heap.size w w' := by
  rw [mem_decide hr]
  have M : Aside _ := hr.mono n
  obtain ⟨a, cap, rfl⟩ := own_any h
  have hc : Aside (∀ t, t < l.length → ∃ g, a = some ⟨g, 0, none⟩ ∧ w.cell? ⟨g, t * 3, none⟩ = some (.string l[t]!.name) ∧ w.cell? ⟨g, t * 3 + 1, none⟩ = some l[t]!.v ∧ w.cell? ⟨g, t * 3 + 2, none⟩ = some (.int .i64 (l[t]!.sure : Int))) := by
    intro t ht
    obtain ⟨g, c', e, _, _, hg⟩ := own_form h (by omega)
    have hf : l[t]? = some l[t]! := by rw [getElem!_pos l t ht]; exact List.getElem?_eq_getElem ht
    obtain ⟨c0, c1, c2⟩ := flat_at hf
    injection e with e1 e2 e3
    exact ⟨g, e1, own_cell h hg c0, own_cell h hg c1, own_cell h hg c2⟩
  clear h hr
  generalize hcnt : place (l.map Fv.name) n = cnt
  have CN : Aside (place (l.map Fv.name) n = cnt) := hcnt
  clear hcnt
  generalize hfin : (decide (cnt < (l.map Fv.name).length) && decide (cmp (l.map Fv.name)[cnt]! n = 0)) = fin
  have FIN : Aside ((decide (cnt < (l.map Fv.name).length) && decide (cmp (l.map Fv.name)[cnt]! n = 0)) = fin) := hfin
  clear hfin
  go_enter Try.func79, Try.ntmps79
  go_wp2
  go_loopg [9, 10] l.length (fun kx s9 s10 wr => ∃ lo hi : Nat, s9 = .int .i64 lo ∧ s10 = .int .i64 hi ∧ lo ≤ hi ∧ hi ≤ l.length ∧ hi - lo ≤ kx ∧ Below w.heap.size w wr ∧
    Aside ((∀ t, t < lo → cmp l[t]!.name n < 0) ∧ (∀ t, hi ≤ t → t < l.length → 0 ≤ cmp l[t]!.name n)))
  case atStart => exact ⟨0, l.length, rfl, rfl, Nat.zero_le _, Nat.le_refl _, by omega, Below.refl _ _, (⟨fun t ht => absurd ht (Nat.not_lt_zero _), fun t h1 h2 => by omega⟩ : (∀ t, t < 0 → cmp l[t]!.name n < 0) ∧ (∀ t, l.length ≤ t → t < l.length → 0 ≤ cmp l[t]!.name n))⟩
  case round =>
    obtain ⟨lo, hi, rfl, rfl, hlh, hin, hg2, hb, I⟩ := hrel
    by_cases hlt : lo < hi
    · obtain ⟨g, rfl, e0, e1, e2⟩ := hc.out ((lo + hi) / 2) (by omega)
      replace e0 := cell_below e0 hb
      replace e1 := cell_below e1 hb
      replace e2 := cell_below e2 hb
      generalize hy : l[(lo + hi) / 2]! = y at e0 e1 e2
      have Y : Aside (l[(lo + hi) / 2]! = y) := hy
      clear hy
      have hk := findCmp_any y.name n y.v (.int .i64 y.sure)
      have hsz := hb.size
      by_cases hyx : cmp y.name n < 0
      · go_wp2_with (go_at_call 80; refine (hk _).mono ?_; rintro e w' ⟨rfl, rfl⟩)
        go_roundg (hi - ((lo + hi) / 2 + 1))
        case measure => omega
        case rel =>
          have I2 : Aside ((∀ t, t < (lo + hi) / 2 + 1 → cmp l[t]!.name n < 0) ∧ (∀ t, hi ≤ t → t < l.length → 0 ≤ cmp l[t]!.name n)) := ⟨fun t ht => by
            have := M.out t ((lo + hi) / 2) (by omega) (by simp; omega)
            rw [names_get l _ (by omega), names_get l _ (by omega), Y.out] at this
            exact this hyx, I.out.2⟩
          exact ⟨(lo + hi) / 2 + 1, hi, by rw [show ((lo : Int) + (hi : Int)) / 2 + 1 = (((lo + hi) / 2 + 1 : Nat) : Int) by omega], rfl, by omega, hin, Nat.le_refl _, hb.alloc hsz _, I2⟩
      · go_wp2_with (go_at_call 80; refine (hk _).mono ?_; rintro e w' ⟨rfl, rfl⟩)
        go_roundg ((lo + hi) / 2 - lo)
        case measure => omega
        case rel =>
          have I2 : Aside ((∀ t, t < lo → cmp l[t]!.name n < 0) ∧ (∀ t, (lo + hi) / 2 ≤ t → t < l.length → 0 ≤ cmp l[t]!.name n)) := ⟨I.out.1, fun t ht htn => Int.not_lt.1 fun hh => by
            have := M.out ((lo + hi) / 2) t ht (by simpa using htn)
            rw [names_get l _ (by omega), names_get l _ (by omega), Y.out] at this
            have := this hh
            omega⟩
          exact ⟨lo, (lo + hi) / 2, rfl, by rw [show ((lo : Int) + (hi : Int)) / 2 = (((lo + hi) / 2 : Nat) : Int) by omega], by omega, by omega, Nat.le_refl _, hb.alloc hsz _, I2⟩
    · obtain rfl : hi = lo := by omega
      have ecnt : cnt = hi := by
        rw [← CN.out]
        exact place_boundary (by simpa using hin) (fun t ht => by rw [names_get l t (by omega)]; exact I.out.1 t ht) (fun t h3 h4 => by
          have h4' : t < l.length := by simpa using h4
          rw [names_get l t h4']; exact I.out.2 t h3 h4')
      subst ecnt
      have hsz := hb.size
      by_cases hn : cnt < l.length
      · obtain ⟨g, rfl, e0, e1, e2⟩ := hc.out cnt hn
        replace e0 := cell_below e0 hb
        replace e1 := cell_below e1 hb
        replace e2 := cell_below e2 hb
        have en := names_get l cnt hn
        generalize hy : l[cnt]! = y at e0 e1 e2 en
        have EN : Aside ((l.map Fv.name)[cnt]! = y.name) := en
        clear hy en
        have hk := findCmp_any y.name n y.v (.int .i64 y.sure)
        by_cases hyx : cmp y.name n = 0
        · go_wp2_with (go_at_call 80; refine (hk _).mono ?_; rintro e w' ⟨rfl, rfl⟩)
          go_ret2
          exact ⟨by rw [← FIN.out, EN.out]; simp [hn, hyx], hb.alloc hsz _⟩
        · go_wp2_with (go_at_call 80; refine (hk _).mono ?_; rintro e w' ⟨rfl, rfl⟩)
          go_ret2
          exact ⟨by rw [← FIN.out, EN.out]; simp [hn, hyx], hb.alloc hsz _⟩
      · go_wp2
        go_ret2
        exact ⟨by rw [← FIN.out]; simp [hn], hb⟩

theorem Rep.c0 {w : World} {B b : Nat} {d : Ds} (h : Rep w B b d) : w.cell? ⟨b, 0, none⟩ = some d.vf := by rw [cell_of_row w b 0 _ _ _ h.blk]; rfl
theorem Rep.c1 {w : World} {B b : Nat} {d : Ds} (h : Rep w B b d) : w.cell? ⟨b, 1, none⟩ = some d.vp := by rw [cell_of_row w b 1 _ _ _ h.blk]; rfl
theorem Rep.c2 {w : World} {B b : Nat} {d : Ds} (h : Rep w B b d) : w.cell? ⟨b, 2, none⟩ = some (.int .i64 (d.room : Int)) := by rw [cell_of_row w b 2 _ _ _ h.blk]; rfl
theorem Rep.c3 {w : World} {B b : Nat} {d : Ds} (h : Rep w B b d) : w.cell? ⟨b, 3, none⟩ = some (.bool d.fused) := by rw [cell_of_row w b 3 _ _ _ h.blk]; rfl
theorem Rep.c4 {w : World} {B b : Nat} {d : Ds} (h : Rep w B b d) : w.cell? ⟨b, 4, none⟩ = some (.int .i64 (d.fuse : Int)) := by rw [cell_of_row w b 4 _ _ _ h.blk]; rfl
theorem Rep.c5 {w : World} {B b : Nat} {d : Ds} (h : Rep w B b d) : w.cell? ⟨b, 5, none⟩ = some (.bool d.down) := by rw [cell_of_row w b 5 _ _ _ h.blk]; rfl
theorem Rep.fz {w : World} {B b : Nat} {d : Ds} (h : Rep w B b d) (j : Nat) : w.frozen? ⟨b, j, none⟩ = false := frozen_of_row w b j _ _ h.blk

theorem find_any {w : World} {B b : Nat} {d : Ds} (h : Rep w B b d) (hr : Rising d.names) (hl : d.files.length ≤ 1000) (n : ByteArray) :
    Calls Try.prog 33 #[.pointer (some ⟨b, 0, none⟩), .string n] w fun e w' =>
      e = .returned (.tuple #[.int .i64 (place d.names n : Nat), .bool (has d.names n)]) ∧ Below w.heap.size w w' := by
  have c0 := h.c0
  have hs := search_any B d.vf d.files n w h.tab hr hl
  clear h hr
  go_enter Try.func33, Try.ntmps33
  go_wp2_with (go_at_call 79; refine hs.mono ?_; rintro e w' ⟨rfl, hb⟩)
  go_ret2
  exact ⟨rfl, hb⟩
end Go.Proofs.Ytnmamaeoghgegaa.Dk

/-
  What may be a name; an operation begins; a file is opened.
-/
namespace Go.Proofs.Ytnmamaeoghgegaa.Dk
open Go.RowKit
set_option maxRecDepth 100000

def nb (x : Nat) : Bool := (decide (97 ≤ x) && decide (x ≤ 122)) || (decide (48 ≤ x) && decide (x ≤ 57)) || decide (x = 46)

theorem nameByte_any (x : Nat) (w : World) :
    Calls Try.prog 83 #[.int .u8 (x : Int)] w fun e w' => e = .returned (.bool (nb x)) ∧ w' = w := by
  unfold nb
  by_cases h1 : 97 ≤ x <;> by_cases h2 : x ≤ 122 <;> by_cases h3 : 48 ≤ x <;> by_cases h4 : x ≤ 57 <;> by_cases h5 : x = 46 <;> first
    | (exfalso; omega)
    | (have k1 := h1
       have k2 := h2
       have k3 := h3
       have k4 := h4
       have k5 := h5
       go_enter Try.func83, Try.ntmps83
       go_wp2
       go_ret
       refine ⟨congrArg (fun t => Ending.returned (Value.bool t)) ?_, rfl⟩
       first | rfl | (rw [Bool.eq_iff_iff]; simp; omega) | (rw [Bool.eq_iff_iff]; simp))

/-- May it be a name? -/
def mayBe (n : ByteArray) : Bool := decide (1 ≤ n.size) && decide (n.size ≤ 12) && n.data.toList.all fun b => nb b.toNat

theorem ba_get (n : ByteArray) (i : Nat) (h : i < n.size) : n.data.toList[i]? = some n[i] := by
  show n.data.toList[i]? = some n.data[i]
  rw [Array.getElem?_toList]
  exact Array.getElem?_eq_getElem h

theorem all_of_get {n : ByteArray} (p : UInt8 → Bool) (h : ∀ i, (hi : i < n.size) → p n[i] = true) : n.data.toList.all p = true := by
  rw [List.all_eq_true]
  intro x hx
  obtain ⟨i, hi, rfl⟩ := List.getElem_of_mem hx
  exact h i (by simpa using hi)
theorem all_not_get {n : ByteArray} (p : UInt8 → Bool) (i : Nat) (hi : i < n.size) (h : p n[i] = false) : n.data.toList.all p = false := by
  rw [List.all_eq_false]
  exact ⟨n[i], List.mem_of_getElem? (ba_get n i hi), by simp [h]⟩

theorem mayBe_any (n : ByteArray) (w : World) :
    Calls Try.prog 37 #[.string n] w fun e w' => e = .returned (.bool (mayBe n)) ∧ w' = w := by
  unfold mayBe
  by_cases h1 : n.size < 1
  · go_enter Try.func37, Try.ntmps37
    go_wp2
    go_ret
    exact ⟨by simp; omega, rfl⟩
  · by_cases h2 : 12 < n.size
    · have d1 : decide ((n.size : Int) < 1) = false := by simp; omega
      go_enter Try.func37, Try.ntmps37
      go_wp2
      go_ret
      exact ⟨by simp; omega, rfl⟩
    · have d1 : decide ((n.size : Int) < 1) = false := by simp; omega
      have d2 : decide (12 < (n.size : Int)) = false := by simp; omega
      have e1 : (decide (1 ≤ n.size) && decide (n.size ≤ 12)) = true := by simp; omega
      rw [e1, Bool.true_and]
      clear e1
      go_enter Try.func37, Try.ntmps37
      go_wp2
      go_loopg [14] n.size (fun gh s wr => ∃ k : Nat, n.size - k ≤ gh ∧ k ≤ n.size ∧ s = .int .i64 (k : Int) ∧ wr = w ∧ Aside (∀ i, i < k → (hi : i < n.size) → nb n[i].toNat = true))
      case atStart => exact ⟨0, by omega, by omega, rfl, rfl, (fun i hi _ => absurd hi (Nat.not_lt_zero _) : ∀ i, i < 0 → (hi : i < n.size) → nb n[i].toNat = true)⟩
      case round =>
        obtain ⟨k, hgh, hk, rfl, rfl, I⟩ := hrel
        by_cases hlt : k < n.size
        · have d3 : decide (k < n.size) = true := by simpa using hlt
          have hk := nameByte_any n[k].toNat wr
          cases hq : nb n[k].toNat with
          | true =>
            rw [hq] at hk
            go_wp2_with (go_at_call 83; refine hk.mono ?_; rintro e w' ⟨rfl, rfl⟩)
            go_roundg (n.size - (k + 1))
            case measure => omega
            case rel =>
              have I2 : Aside (∀ i, i < k + 1 → (hi : i < n.size) → nb n[i].toNat = true) := fun i hi hs => by
                by_cases h : i = k
                · subst h; exact hq
                · exact I.out i (by omega) hs
              exact ⟨k + 1, Nat.le_refl _, by omega, by go_num, rfl, I2⟩
          | false =>
            rw [hq] at hk
            have F : Aside (n.data.toList.all (fun b => nb b.toNat) = false) := all_not_get (fun b => nb b.toNat) k hlt hq
            go_wp2_with (go_at_call 83; refine hk.mono ?_; rintro e w' ⟨rfl, rfl⟩)
            go_ret
            exact ⟨by rw [F.out]; rfl, rfl⟩
        · have d3 : decide (k < n.size) = false := by simpa using hlt
          have F : Aside (n.data.toList.all (fun b => nb b.toNat) = true) := all_of_get (fun b => nb b.toNat) fun i hi => I.out i (by omega) hi
          go_wp2
          go_ret
          exact ⟨by rw [F.out]; rfl, rfl⟩

theorem Rep.scal {w w' : World} {B b : Nat} {d d' : Ds} (h : Rep w B b d) (hf : d'.files = d.files) (hp : d'.pieces = d.pieces) (hvf : d'.vf = d.vf) (hvp : d'.vp = d.vp)
    (hblk : w'.heap[b]? = some (.cells d'.cells 63 (0, 0))) (ho : ∀ k, k ≠ b → w'.heap[k]? = w.heap[k]?) : Rep w' B b d' := by
  have hfo : d'.foot b = d.foot b := by unfold Ds.foot; rw [hf, hvf, hvp]
  have hnd := h.nodup
  have hne : ∀ k, k ∈ ob d.vf ++ (ob d.vp ++ d.files.flatMap fun f => ob f.v) → k ≠ b := fun k hk e => (List.nodup_cons.1 hnd).1 (e ▸ hk)
  refine ⟨h.ge, hblk, ?_, ?_, ?_, by rw [hfo]; exact hnd⟩
  · rw [hf, hvf]
    exact own_frame h.tab fun k hk => ho k (hne k (List.mem_append_left _ (mem_ob.2 hk)))
  · rw [hp, hvp]
    exact own_frame h.pcs fun k hk => ho k (hne k (List.mem_append_right _ (List.mem_append_left _ (mem_ob.2 hk))))
  · rw [hf]
    exact fun f hm => own_frame (h.rows f hm) fun k hk => ho k (hne k (List.mem_append_right _ (List.mem_append_right _ (List.mem_flatMap.2 ⟨f, hm, mem_ob.2 hk⟩))))

/-- Is there power for one more operation? -/
def Ds.power (d : Ds) : Bool := !(d.down || (d.fused && d.fuse == 0))
/-- What is left behind it. -/
def Ds.spent (d : Ds) : Ds := { d with down := !d.power, fuse := if d.power && d.fused then d.fuse - 1 else d.fuse }

theorem spent_foot (b : Nat) (d : Ds) : d.spent.foot b = d.foot b := rfl

theorem set_same {w : World} {b j : Nat} {cs : Array Value} {t : TypeId} {v : Value} {cs' : Array Value} (h : w.heap[b]? = some (.cells cs t (0, 0))) (e : cs.setIfInBounds j v = cs') : (w.setCell ⟨b, j, none⟩ v).heap[b]? = some (.cells cs' t (0, 0)) := by
  rw [heap_setCell_same w b j cs t v h, e]

set_option maxHeartbeats 800000 in
theorem begin_any {w : World} {B b : Nat} {d : Ds} (h : Rep w B b d) (hfu : d.fuse ≤ 9223372036854775807) :
    Calls Try.prog 36 #[.pointer (some ⟨b, 0, none⟩)] w fun e w' => e = .returned (.int .i64 (if d.power then 0 else 12)) ∧ Rep w' B b d.spent ∧ Step (d.foot b) (d.foot b) w w' := by
  have c3 := h.c3
  have c4 := h.c4
  have c5 := h.c5
  have f4 := h.fz 4
  have f5 := h.fz 5
  have A : Aside (Rep w B b d) := h
  clear h
  obtain ⟨files, pieces, vf, vp, room, fused, fuse, down⟩ := d
  simp only at c3 c4 c5 hfu
  by_cases hz : fuse = 0
  · subst hz
    cases fused <;> cases down <;> (go_enter Try.func36, Try.ntmps36; go_wp2; go_ret)
    · exact ⟨rfl, A.out, Step.refl _ _⟩
    · exact ⟨rfl, A.out, Step.refl _ _⟩
    · exact ⟨rfl, A.out.scal rfl rfl rfl rfl (set_same A.out.blk rfl) (fun k hk => Below.heap_setCell _ _ _ _ hk), Step.setb _ foot_b _ _⟩
    · exact ⟨rfl, A.out.scal rfl rfl rfl rfl (set_same A.out.blk rfl) (fun k hk => Below.heap_setCell _ _ _ _ hk), Step.setb _ foot_b _ _⟩
  · have d1 : ((fuse : Int) == 0) = false := by simp; omega
    have d2 : (fuse == 0) = false := by simpa using hz
    cases fused with
    | false =>
      cases down <;> (go_enter Try.func36, Try.ntmps36; go_wp2; go_ret)
      · refine ⟨rfl, ?_, Step.refl _ _⟩
        simpa [Ds.spent, Ds.power] using A.out
      · refine ⟨rfl, ?_, Step.refl _ _⟩
        simpa [Ds.spent, Ds.power] using A.out
    | true =>
      cases down with
      | true =>
        go_enter Try.func36, Try.ntmps36
        go_wp2
        go_ret
        refine ⟨by simp, ?_, Step.refl _ _⟩
        simpa [Ds.spent, Ds.power] using A.out
      | false =>
        have hp : Ds.power ⟨files, pieces, vf, vp, room, true, fuse, false⟩ = true := by simp [Ds.power, d2]
        rw [hp, if_pos rfl]
        clear hp
        go_enter Try.func36, Try.ntmps36
        go_wp2
        go_ret
        refine ⟨rfl, A.out.scal rfl rfl rfl rfl (set_same A.out.blk ?_) (fun k hk => Below.heap_setCell _ _ _ _ hk), Step.setb _ foot_b _ _⟩
        have e : ((fuse - 1 : Nat) : Int) = (fuse : Int) - 1 := by omega
        simp [Ds.spent, Ds.power, Ds.cells, d2, e]

theorem open_any {w : World} {B b : Nat} {d : Ds} (h : Rep w B b d) (hfu : d.fuse ≤ 9223372036854775807) (hr : Rising d.names) (hl : d.files.length ≤ 1000) (n : ByteArray) :
    Calls Try.prog 69 #[.pointer (some ⟨b, 0, none⟩), .string n] w fun e w' => e = .returned (.tuple #[.int .i64 (if d.power && has d.names n then place d.names n else 0 : Nat), .int .i64 (if d.power then if has d.names n then 0 else 6 else 12)]) ∧ Rep w' B b d.spent ∧ Step (d.foot b) (d.foot b) w w' := by
  have kb := begin_any h hfu
  clear h
  have hr' : Aside (Rising d.spent.names) := hr
  cases hp : d.power with
  | false =>
    rw [hp] at kb
    go_enter Try.func69, Try.ntmps69
    go_wp2_with (go_at_call 36; refine kb.mono ?_; rintro e w1 ⟨rfl, h1, s1⟩)
    go_ret2
    exact ⟨rfl, h1, s1⟩
  | true =>
    rw [hp] at kb
    have kf : Aside (∀ u : World, Rep u B b d.spent → _) := fun (u : World) (hu : Rep u B b d.spent) => find_any hu hr'.out hl n
    have en : d.spent.names = d.names := rfl
    cases hh : has d.names n with
    | false =>
      rw [en, hh] at kf
      go_enter Try.func69, Try.ntmps69
      go_wp2_with (first
        | (go_at_call 36; refine kb.mono ?_; rintro e w1 ⟨rfl, h1, s1⟩)
        | (go_at_call 33; refine (kf.out _ h1).mono ?_; rintro e w2 ⟨rfl, hb2⟩))
      go_ret2
      exact ⟨rfl, h1.below hb2, s1.trans (Step.ofBelow hb2)⟩
    | true =>
      rw [en, hh] at kf
      go_enter Try.func69, Try.ntmps69
      go_wp2_with (first
        | (go_at_call 36; refine kb.mono ?_; rintro e w1 ⟨rfl, h1, s1⟩)
        | (go_at_call 33; refine (kf.out _ h1).mono ?_; rintro e w2 ⟨rfl, hb2⟩))
      go_ret2
      exact ⟨rfl, h1.below hb2, s1.trans (Step.ofBelow hb2)⟩
end Go.Proofs.Ytnmamaeoghgegaa.Dk

/-
  The pieces of a file are forgotten.
-/
namespace Go.Proofs.Ytnmamaeoghgegaa.Dk
open Go.RowKit
set_option maxRecDepth 100000

theorem eq_bytes (a b : ByteArray) : (a.toList == b.toList) = decide (cmp a b = 0) := by
  rw [ByteArray.toList_eq, ByteArray.toList_eq, Bool.eq_iff_iff, beq_iff_eq, decide_eq_true_iff, cmp_zero]
  exact ⟨ba_ext, fun h => by rw [h]⟩

/-- Is a piece of that name? -/
def isOf (n : ByteArray) (p : Pc) : Bool := decide (cmp p.name n = 0)

theorem forgetIs_any (p : Pc) (n : ByteArray) (bx : Nat) (w : World) (hc : w.cell? ⟨bx, 0, none⟩ = some (.string n)) :
    Calls Try.prog 104 #[.agg #[.string p.name, .int .i64 (p.size : Int)], .pointer (some ⟨bx, 0, none⟩)] w fun e w' => e = .returned (.bool (isOf n p)) ∧ w' = w.alloc (.cells #[.string p.name, .int .i64 (p.size : Int)] 75) := by
  have hb := eq_bytes p.name n
  have hlt := World.block_lt_of_cell? w _ hc
  have hc' : (w.alloc (.cells #[.string p.name, .int .i64 (p.size : Int)] 75)).cell? ⟨bx, 0, none⟩ = some (.string n) := cell_below hc ((Below.refl _ _).alloc (Nat.le_refl _) _)
  have F : Aside (isOf n p = (p.name.toList == n.toList)) := by
    show isOf n p = _
    rw [hb]; rfl
  clear hb
  go_enter Try.func104, Try.ntmps104
  go_wp2
  go_ret
  exact ⟨by rw [F.out]; rfl, rfl⟩

/-- The place of the first piece of that name, or one below 0. -/
def firstOf (n : ByteArray) (l : List Pc) : Int := if (l.any (isOf n)) then ((l.findIdx (isOf n) : Nat) : Int) else -1

theorem getbang {α : Type} [Inhabited α] (l : List α) (i : Nat) (h : i < l.length) : l[i]? = some l[i]! := by
  rw [getElem!_pos l i h]
  exact List.getElem?_eq_getElem h

theorem row_cells {w : World} {B : Nat} {a : Option Addr} {m cap : Nat} {l : List Pc} (h : w.ownsRow B 75 2 (.slice a m cap) l.length (l.flatMap Pc.cells)) : ∀ t, t < l.length → ∃ g, a = some ⟨g, 0, none⟩ ∧ w.cell? ⟨g, t * 2, none⟩ = some (.string l[t]!.name) ∧ w.cell? ⟨g, t * 2 + 1, none⟩ = some (.int .i64 (l[t]!.size : Int)) := by
  intro t ht
  obtain ⟨g, c', e, _, _, hg⟩ := own_form h (by omega)
  obtain ⟨c0, c1⟩ := flat_at2 (getbang l t ht)
  injection e with e1 e2 e3
  exact ⟨g, e1, own_cell h hg c0, own_cell h hg c1⟩

set_option maxHeartbeats 1600000 in
theorem indexFunc_any (B bx : Nat) (v : Value) (l : List Pc) (n : ByteArray) (w : World) (h : w.ownsRow B 75 2 v l.length (l.flatMap Pc.cells)) (hl : l.length ≤ 100000) (hx : w.cell? ⟨bx, 0, none⟩ = some (.string n)) :
    Calls Try.prog 108 #[v, .func (.func 104) #[] #[.pointer (some ⟨bx, 0, none⟩)]] w fun e w' => e = .returned (.int .i64 (firstOf n l)) ∧ Below w.heap.size w w' := by
  obtain ⟨a, cap, rfl⟩ := own_any h
  have hc : Aside (∀ t, t < l.length → ∃ g, a = some ⟨g, 0, none⟩ ∧ w.cell? ⟨g, t * 2, none⟩ = some (.string l[t]!.name) ∧ w.cell? ⟨g, t * 2 + 1, none⟩ = some (.int .i64 (l[t]!.size : Int))) := row_cells h
  clear h
  go_enter Try.func108, Try.ntmps108
  go_wp2
  go_loopg [8] l.length (fun gh s wr => ∃ k : Nat, l.length - k ≤ gh ∧ k ≤ l.length ∧ s = .int .i64 (k : Int) ∧ Below w.heap.size w wr ∧ Aside (∀ i, i < k → isOf n l[i]! = false))
  case atStart => exact ⟨0, by omega, by omega, rfl, Below.refl _ _, (fun i hi => absurd hi (Nat.not_lt_zero _) : ∀ i, i < 0 → isOf n l[i]! = false)⟩
  case round =>
    obtain ⟨k, hgh, hk, rfl, hb, I⟩ := hrel
    have hsz := hb.size
    by_cases hlt : k < l.length
    · have d3 : decide (k < l.length) = true := by simpa using hlt
      obtain ⟨g, rfl, e0, e1⟩ := hc.out k hlt
      replace e0 := cell_below e0 hb
      replace e1 := cell_below e1 hb
      have hx' := cell_below hx hb
      have hk := forgetIs_any l[k]! n bx wr hx'
      cases hq : isOf n l[k]! with
      | true =>
        rw [hq] at hk
        have F : Aside (firstOf n l = (k : Int)) := by
          show firstOf n l = (k : Int)
          have ha : l.any (isOf n) = true := List.any_eq_true.2 ⟨l[k]!, List.mem_of_getElem? (getbang l k hlt), hq⟩
          have hf : l.findIdx (isOf n) = k := by
            rw [List.findIdx_eq hlt]
            refine ⟨by rw [← getElem!_pos l k hlt]; exact hq, fun j hj => ?_⟩
            have := I.out j hj
            rwa [getElem!_pos l j (by omega)] at this
          rw [firstOf, if_pos ha, hf]
        generalize l[k]! = y at *
        go_wp2_with (go_at_call 104; refine hk.mono ?_; rintro e w' ⟨rfl, rfl⟩)
        go_ret
        exact ⟨by rw [F.out]; rfl, hb.alloc hsz _⟩
      | false =>
        rw [hq] at hk
        have HQ : Aside (isOf n l[k]! = false) := hq
        clear hq
        generalize hy : l[k]! = y at e0 e1 hk
        clear hy
        go_wp2_with (go_at_call 104; refine hk.mono ?_; rintro e w' ⟨rfl, rfl⟩)
        go_roundg (l.length - (k + 1))
        case measure => omega
        case rel =>
          have I2 : Aside (∀ i, i < k + 1 → isOf n l[i]! = false) := fun i hi => by
            by_cases h : i = k
            · subst h; exact HQ.out
            · exact I.out i (by omega)
          exact ⟨k + 1, Nat.le_refl _, by omega, by go_num, hb.alloc hsz _, I2⟩
    · have d3 : decide (k < l.length) = false := by simpa using hlt
      have F : Aside (firstOf n l = -1) := by
        show firstOf n l = -1
        have ha : ¬ l.any (isOf n) = true := by
          rw [List.any_eq_true]
          rintro ⟨x, hx, hp⟩
          obtain ⟨i, hi, rfl⟩ := List.getElem_of_mem hx
          have := I.out i (by omega)
          rw [getElem!_pos l i hi] at this
          rw [this] at hp
          cases hp
        rw [firstOf, if_neg ha]
      go_wp2
      go_ret
      exact ⟨by rw [F.out]; rfl, hb⟩
end Go.Proofs.Ytnmamaeoghgegaa.Dk

/-
  The pieces of a file are forgotten: what is kept goes to the front, the rest is cleared.
-/
namespace Go.Proofs.Ytnmamaeoghgegaa.Dk
open Go.RowKit
set_option maxRecDepth 100000

theorem flat_set2 : ∀ (l : List Pc) (i : Nat) (g : Pc), i < l.length → (l.set i g).flatMap Pc.cells = ((l.flatMap Pc.cells).set (i * 2) (.string g.name)).set (i * 2 + 1) (.int .i64 (g.size : Int))
  | [], i, g, h => by simp at h
  | a :: r, 0, g, h => by simp [List.flatMap_cons, Pc.cells]
  | a :: r, i + 1, g, h => by
    have ih := flat_set2 r i g (by simpa using h)
    simp only [List.set_cons_succ, List.flatMap_cons, ih]
    rw [show (i + 1) * 2 = i * 2 + 2 by omega, show i * 2 + 2 + 1 = (i * 2 + 1) + 2 by omega]
    simp [Pc.cells]

theorem flat_take2 (l : List Pc) (i : Nat) : (l.flatMap Pc.cells).take (i * 2) = (l.take i).flatMap Pc.cells := by
  induction l generalizing i with
  | nil => simp
  | cons a r ih =>
    cases i with
    | zero => simp
    | succ i =>
      rw [List.take_succ_cons, List.flatMap_cons, List.flatMap_cons, ← ih i, show (i + 1) * 2 = i * 2 + 2 by omega, show i * 2 + 2 = a.cells.length + i * 2 by simp [Pc.cells]; omega, List.take_length_add_append]

/-- A row, cut to its first elements. -/
theorem own_cut {w : World} {base : Nat} {e : TypeId} {size g n cap : Nat} {xs : List Value} (h : w.ownsRow base e size (.slice (some ⟨g, 0, none⟩) n cap) n xs) (i : Nat) (hi : i ≤ n) : w.ownsRow base e size (.slice (some ⟨g, 0, none⟩) i cap) i (xs.take (i * size)) := by
  obtain ⟨h1, h2⟩ := h
  have hm : i * size ≤ n * size := Nat.mul_le_mul_right _ hi
  refine ⟨by rw [List.length_take, h1]; omega, .inr ?_⟩
  rcases h2 with ⟨h2, _⟩ | ⟨g', cap', cur, hv, hb, hh, h3, h4, h5, h6⟩
  · cases h2
  · injection hv with e1 e2 e3
    injection e1 with e1
    injection e1 with e1
    subst e1 e3
    refine ⟨g, cap, cur, rfl, hb, hh, by omega, h4, h5, ?_⟩
    rw [← h6, List.take_take, Nat.min_eq_left hm]

/-- Cells of an own row are written over. -/
theorem own_setRow {w : World} {base g : Nat} {e : TypeId} {size : Nat} {n cap : Nat} {xs : List Value} (h : w.ownsRow base e size (.slice (some ⟨g, 0, none⟩) n cap) n xs) : ∃ cur, w.heap[g]? = some (.cells cur e (0, 0)) ∧ cur.size = cap * size ∧ n ≤ cap ∧ cap ≤ maxLen ∧ base ≤ g ∧ cur.toList.take (n * size) = xs := by
  rcases h.2 with ⟨h2, _⟩ | ⟨g', cap', cur, hv, hb, hh, h3, h4, h5, h6⟩
  · cases h2
  · injection hv with e1 e2 e3
    injection e1 with e1
    injection e1 with e1
    subst e1 e3
    exact ⟨cur, hh, h5, h3, h4, hb, h6⟩

theorem zero66 (w : World) : (zeroValue 75).run Try.prog w = .ok (.agg #[.string ⟨#[]⟩, .int .i64 0]) w := by kernel_rfl
theorem zero64 (w : World) : (zeroValue 70).run Try.prog w = .ok (.agg #[.string ⟨#[]⟩, .slice none 0 0, .int .i64 0]) w := by kernel_rfl

theorem zeroCells_one (z : Array Value) (n : Nat) (h : ∀ v ∈ z.toList, v.oneCell' = true) (hz : 0 < z.size) : ∀ u ∈ (Builtin.zeroCells z n).toList, u.oneCell' = true := by
  intro u hu
  simp only [Builtin.zeroCells, Array.toList_map, List.mem_map] at hu
  obtain ⟨i, _, rfl⟩ := hu
  have hlt : i % z.size < z.size := Nat.mod_lt _ hz
  rw [getElem!_pos z _ hlt]
  exact h _ (by simp)

/-- 'clear' of the last elements of a row. -/
theorem run_clear_row (w : World) (t e ty : TypeId) (zs : Array Value) (ht : Try.prog.underlying t = some (.slice e)) (hv : ∀ w, (zeroValue e).run Try.prog w = .ok (.agg zs) w) (h1 : ∀ v ∈ zs.toList, v.oneCell' = true) (hz : 0 < zs.size)
    (g i k c : Nat) (cur : Array Value) (hg : w.heap[g]? = some (.cells cur e (0, 0))) (hk : 0 < k) (hs : (i + k) * zs.size ≤ cur.size) :
    (Builtin.clear_ #[t] ty #[.slice (some ⟨g, i * zs.size, none⟩) k c]).run Try.prog w = .ok (.tuple #[]) (w.setRow g (cur.toList.take (i * zs.size) ++ (Builtin.zeroCells zs k).toList ++ cur.toList.drop (i * zs.size + (Builtin.zeroCells zs k).toList.length)).toArray) := by
  have hl : (Builtin.zeroCells zs k).toList.length = k * zs.size := by rw [Array.length_toList, size_zeroCells]
  have hst := run_storeCells_at Try.prog g (i * zs.size) e (Builtin.zeroCells zs k).toList 0 cur w hg (by rw [hl, Nat.add_zero, ← Nat.add_mul]; exact hs) (zeroCells_one zs k h1 hz)
  simp only [Nat.add_zero] at hst
  obtain ⟨m, rfl⟩ : ∃ m, k = m + 1 := ⟨k - 1, by omega⟩
  have hc : (Value.agg zs).cells = zs := rfl
  simp [Builtin.clear_, run_underlying ht, hv, hc, hst]
end Go.Proofs.Ytnmamaeoghgegaa.Dk
