/-
  YtajjcfacbnicnaaGreatDoor: the texts MC1, MC2, MD1, one behind the other.
-/
import Derived.Test.YtajjcfacbnicnaaGreatDoorV26
import Derived.ProofKit
import Derived.OpenShut
import Derived.SliceStrings
import Derived.Laws.Slices
/-
  The frames of a list of contents, and where each ends, as the laws reckon them.
-/
namespace Go.Proofs.YtajjcfacbnicnaaGreatDoor.Fm
open Go.RowKit
set_option maxRecDepth 100000
theorem info3 : (Tryz.prog.info? 3).map (fun i => (i.zero, i.size, i.bytes)) = some (some (.int .i64 0), 1, 8) := by kernel_rfl
def cellsI (l : List Nat) : List Value := l.map fun n : Nat => Value.int .i64 (n : Int)
theorem cellsI_snoc (l : List Nat) (x : Nat) : cellsI l ++ [.int .i64 (x : Int)] = cellsI (l ++ [x]) := by simp [cellsI]
def lists (L : List ByteArray) : List (List UInt8) := L.map fun s => s.data.toList
/-- Where the first k frames end, one by one. -/
def ends (l : List (List UInt8)) (k : Nat) : List Nat := (List.range k).map fun i => Fr.en l (i + 1)
theorem ends_len (l : List (List UInt8)) (k : Nat) : (ends l k).length = k := by simp [ends]
theorem ends_succ (l : List (List UInt8)) (k : Nat) : ends l (k + 1) = ends l k ++ [Fr.en l (k + 1)] := by simp [ends, List.range_succ]
theorem ends_at (l : List (List UInt8)) (k j : Nat) (h : j < k) : (ends l k)[j]? = some (Fr.en l (j + 1)) := by simp [ends, h]

def okL (L : List ByteArray) : Prop := L.length ≤ 20 ∧ ∀ s ∈ L, s.size ≤ 200
theorem okL_lists {L : List ByteArray} (h : okL L) : ∀ s ∈ lists L, s.length ≤ 2000 := by
  intro s hs
  simp only [lists, List.mem_map] at hs
  obtain ⟨t, ht, rfl⟩ := hs
  have := h.2 t ht
  rw [list_len]
  omega
theorem en_le (l : List (List UInt8)) (m : Nat) (h : ∀ s ∈ l, s.length ≤ m) : ∀ k, k ≤ l.length → Fr.en l k ≤ k * (m + 10)
  | 0, _ => by simp [Fr.en_zero]
  | k + 1, hk => by
    have h1 := en_le l m h k (by omega)
    rw [Fr.en_succ l k (by omega)]
    have h2 := h l[k] (List.getElem_mem _)
    rw [Nat.add_mul, Nat.one_mul]
    omega

/-- What whole answers. -/
def Wh (w w' : World) (e : Ending) (L : List ByteArray) : Prop :=
  Below w.heap.size w w' ∧ ((okL L ∧ ∃ v, e = .returned (.tuple #[.string (bs (Fr.mks (lists L))), v, .bool true]) ∧ w'.ownsRow w.heap.size 3 1 v L.length (cellsI (ends (lists L) L.length))) ∨
    (¬ okL L ∧ e = .returned (.tuple #[.string ⟨#[]⟩, .slice none 0 0, .bool false])))

def WRel (L : List ByteArray) (w : World) (s5 v6 s14 : Value) (wr : World) (k : Nat) : Prop :=
  s14 = .int .i64 (k : Int) ∧ s5 = .string (bs (Fr.mks ((lists L).take k))) ∧ wr.ownsRow w.heap.size 3 1 v6 k (cellsI (ends (lists L) k)) ∧ Below w.heap.size w wr ∧ (∀ j (h : j < L.length), j < k → L[j].size ≤ 200) ∧ k ≤ L.length

theorem whole_step (L : List ByteArray) (k : Nat) (h : k < L.length) : bs (Fr.mks ((lists L).take k)) ++ bs (Fr.mk L[k].data.toList) = bs (Fr.mks ((lists L).take (k + 1))) := by
  rw [bs_app, List.take_succ_eq_append_getElem (by simpa [lists] using h), Fr.mks_app, Fr.mks_one]
  simp [lists]

end Go.Proofs.YtajjcfacbnicnaaGreatDoor.Fm

/-
  FrameBack's walk; lists of texts that came in.
-/
namespace Go.Proofs.YtajjcfacbnicnaaGreatDoor.Fm
open Go.ChangeShapes Go.WideShapes Go.ChangeAt Go.RowKit
open Go.ChangeMaps (open_string shut_string)
set_option maxRecDepth 100000
theorem cells9 : Tryz.prog.cellsOf 9 = 1 := by kernel_rfl
theorem laidOut : laidOutB Tryz.prog = true := by kernel_rfl

theorem open_names {H : Type} {enc : TypeId × Value → H} {W : World} {ad : Option Addr} {n cap : Nat} {d : DataW H} {p : List MemPlace} (h : DataW.Trod enc Tryz.prog W 0 (fun _ => true) true 30 (.slice ad n cap) d p) : ∃ L : List ByteArray, Strs W.heap.size (.slice ad n cap) L W := by
  obtain ⟨fuel, hf⟩ := h
  rcases open_strings Tryz.underlying30 Tryz.underlying9 cells9 hf with ⟨hcs, _⟩ | ⟨a, len, cap', ss, hcs, _, hl, _, hm, _, hx, _⟩
  · simp [Value.cells] at hcs
    obtain ⟨rfl, rfl, rfl⟩ := hcs
    exact ⟨[], _, _, rfl, fun j hj => absurd hj (by simp)⟩
  · simp [Value.cells] at hcs
    obtain ⟨rfl, rfl, rfl⟩ := hcs
    have hm' : ss.length = cap := by simpa using hm
    have hlen : (ss.take n).length = n := by rw [List.length_take]; omega
    refine ⟨ss.take n, some a, cap, by rw [hlen], fun j hj => ?_⟩
    rw [hlen] at hj
    obtain ⟨g, o, spot⟩ := a
    have h00 := hx 0 (by omega)
    have hspot : spot = none := by simpa [Addr.add] using World.cell?_spot h00
    subst hspot
    have hadd : ∀ k, (⟨g, o, none⟩ : Addr).add k = ⟨g, o + k, none⟩ := fun k => by
      unfold Addr.add
      split
      · simp_all
      · rfl
    have := hx j (by omega)
    rw [hadd] at this
    refine ⟨g, o, rfl, World.block_lt_of_cell? W _ this, ?_⟩
    rw [this]
    congr 2
    rw [List.getD_eq_getElem?_getD, List.getD_eq_getElem?_getD, List.getElem?_take, if_pos hj]
    rfl

theorem bs_lists (L : List ByteArray) : (lists L).map bs = L := by
  simp only [lists, List.map_map]
  conv => rhs; rw [← List.map_id L]
  refine List.map_congr_left fun s _ => ?_
  exact bs_data s

end Go.Proofs.YtajjcfacbnicnaaGreatDoor.Fm

/-
  FrameCut's walk; the first texts of a list; numbers.
-/
namespace Go.Proofs.YtajjcfacbnicnaaGreatDoor.Fm
open Go.ChangeShapes Go.WideShapes Go.ChangeAt Go.RowKit
open Go.ChangeMaps (open_string shut_string)
set_option maxRecDepth 100000
theorem open_cap {H : Type} {enc : TypeId × Value → H} {W : World} {ad : Option Addr} {n cap : Nat} {d : DataW H} {p : List MemPlace} (h : DataW.Trod enc Tryz.prog W 0 (fun _ => true) true 30 (.slice ad n cap) d p) : n ≤ cap := by
  obtain ⟨fuel, hf⟩ := h
  rcases open_strings Tryz.underlying30 Tryz.underlying9 cells9 hf with ⟨hcs, _⟩ | ⟨a, len, cap', ss, hcs, _, hl, _, hm, _, hx, _⟩
  · simp [Value.cells] at hcs
    omega
  · simp [Value.cells] at hcs
    omega

/-- The first k texts of a list, as a slice. -/
theorem Strs.cut {B : Nat} {a : Option Addr} {c : Nat} {L : List ByteArray} {w : World} (h : Strs B (.slice a L.length c) L w) (k : Nat) (hk : k ≤ L.length) (hc : L.length ≤ c) :
    ∃ a', (∀ u : World, (Instr.slice 30 (.slice a L.length c) none (some (.int .i64 (k : Int))) none).run Tryz.prog u = .ok (.slice a' k c) u) ∧ Strs B (.slice a' k c) (L.take k) w := by
  obtain ⟨a0, c0, e0, h0⟩ := h
  simp only [Value.slice.injEq, true_and] at e0
  obtain ⟨rfl, rfl⟩ := e0
  have hz : ∀ u : World, (sizeOf (Tryz.prog.elem 30)).run Tryz.prog u = .ok 1 u := fun u => by kernel_rfl
  refine ⟨if c = 0 then a else a.map (·.add (0 * 1)), fun u => ?_, ?_⟩
  · rw [run_slice_h u 30 a L.length c (by kernel_rfl) .i64 (k : Int) (by omega) (by omega), hz u]
    simp [Result.andThen, sliced]
  · have hlen : (L.take k).length = k := by rw [List.length_take]; omega
    refine ⟨_, c, by rw [hlen], fun j hj => ?_⟩
    rw [hlen] at hj
    obtain ⟨g, o, h1, h2, h3⟩ := h0 j (by omega)
    subst h1
    refine ⟨g, o, ?_, h2, ?_⟩
    · rw [if_neg (by omega)]
      simp [Go.WideShapes.add_plain]
    · rw [h3]
      congr 2
      rw [List.getD_eq_getElem?_getD, List.getD_eq_getElem?_getD, List.getElem?_take, if_pos hj]

/-- What a slice of numbers holds. -/
theorem ints_of {w : World} {base n : Nat} {v : Value} {l : List Nat} (h : w.ownsRow base 3 1 v n (cellsI l)) (hn : l.length = n) : ∃ a c, v = .slice a n c ∧ ∀ j (_hj : j < n), ∃ g, a = some ⟨g, 0, none⟩ ∧ g < w.heap.size ∧ w.cell? ⟨g, j, none⟩ = some (.int .i64 ((l.getD j 0 : Nat) : Int)) := by
  subst hn
  rcases h.2 with ⟨rfl, h0⟩ | ⟨g, cap, cur, rfl, hg, hh, _⟩
  · exact ⟨none, 0, by rw [h0], fun j hj => absurd hj (by omega)⟩
  · refine ⟨_, cap, rfl, fun j hj => ⟨g, rfl, (Array.getElem?_eq_some_iff.1 hh).1, ?_⟩⟩
    rw [h.cellAt j (by omega)]
    simp [cellsI, List.getD, List.getElem?_eq_getElem hj]

/-- So many whole frames, and no more, lie ahead of left. -/
structure CutAt (L : List ByteArray) (left k : Nat) : Prop where
  le : k ≤ L.length
  at_ : Fr.en (lists L) k ≤ left
theorem cut_facts (L : List ByteArray) (h : okL L) (left k : Nat) (hle : left ≤ (Fr.mks (lists L)).length) (c : CutAt L left k) (hn : ∀ _ : k < L.length, left < Fr.en (lists L) (k + 1)) :
    Fr.spx ((bs (Fr.mks (lists L))).extract 0 left).data.toList [] 0 = ((lists L).take k, Fr.en (lists L) k, if Fr.en (lists L) k = left then 0 else 3) := by
  have hll : (lists L).length = L.length := by simp [lists]
  have e : ((bs (Fr.mks (lists L))).extract 0 left).data.toList = (Fr.mks (lists L)).take left := by
    rw [list_cut, bs_list, List.drop_zero]
  rw [e]
  exact Fr.split_cut (lists L) (okL_lists h) left k (by rw [hll]; exact c.le) c.at_ (fun hk => hn (by rw [← hll]; exact hk)) hle

end Go.Proofs.YtajjcfacbnicnaaGreatDoor.Fm
