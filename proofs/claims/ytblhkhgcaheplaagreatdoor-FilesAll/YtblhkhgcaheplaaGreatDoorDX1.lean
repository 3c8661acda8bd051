/-
  What is asked of a disk: Used, Waits, Holes, Down, Free, Read, Sure.
-/
import Derived.Test.YtblhkhgcaheplaaGreatDoorDW10
import Derived.Deep.RegionWith
namespace Go.Proofs.YtblhkhgcaheplaaGreatDoor.Dk
open Go.RowKit
set_option maxRecDepth 100000

theorem Rep.row {w : World} {B b : Nat} {d : Ds} (h : Rep w B b d) : ∃ a cap, d.vf = .slice a d.files.length cap ∧ ∀ t, t < d.files.length → ∃ g a' c', a = some ⟨g, 0, none⟩ ∧ w.cell? ⟨g, t * 3, none⟩ = some (.string d.files[t]!.name) ∧ w.cell? ⟨g, t * 3 + 1, none⟩ = some (.slice a' d.files[t]!.bytes.length c') ∧ w.cell? ⟨g, t * 3 + 2, none⟩ = some (.int .i64 (d.files[t]!.sure : Int)) := by
  obtain ⟨a, cap, e⟩ := own_any h.tab
  refine ⟨a, cap, e, fun t ht => ?_⟩
  obtain ⟨g, c', e', _, _, hg⟩ := own_form h.tab (by omega)
  have hf := getbang d.files t ht
  obtain ⟨c0, c1, c2⟩ := flat_at hf
  obtain ⟨a', c'', e''⟩ := own_any (h.rows _ (List.mem_of_getElem? hf))
  rw [e''] at c1
  rw [e] at e'
  injection e' with e1 e2 e3
  exact ⟨g, a', c'', e1, own_cell h.tab hg c0, own_cell h.tab hg c1, own_cell h.tab hg c2⟩

theorem Rep.prow {w : World} {B b : Nat} {d : Ds} (h : Rep w B b d) : ∃ a cap, d.vp = .slice a d.pieces.length cap ∧ ∀ t, t < d.pieces.length → ∃ g, a = some ⟨g, 0, none⟩ ∧ w.cell? ⟨g, t * 2, none⟩ = some (.string d.pieces[t]!.name) ∧ w.cell? ⟨g, t * 2 + 1, none⟩ = some (.int .i64 (d.pieces[t]!.size : Int)) := by
  obtain ⟨a, cap, e⟩ := own_any h.pcs
  refine ⟨a, cap, e, fun t ht => ?_⟩
  have := h.pcs
  rw [e] at this
  exact row_cells this t ht

def usedL (l : List Fv) : Nat := (l.map fun f => f.bytes.length).sum
theorem used_pl (d : Ds) : d.pl.total = usedL d.files := by
  unfold St.total usedL Ds.pl
  simp only [List.map_map]
  rfl
theorem used_next (l : List Fv) (k : Nat) (h : k < l.length) : usedL (l.take (k + 1)) = usedL (l.take k) + l[k]!.bytes.length := by
  rw [take_next l k h]
  simp [usedL]
theorem used_take (l : List Fv) (k : Nat) : usedL (l.take k) ≤ usedL l := by
  have := congrArg usedL (List.take_append_drop k l)
  unfold usedL at this ⊢
  rw [List.map_append, List.sum_append] at this
  omega

def sizeL (l : List Pc) : Nat := (l.map Pc.size).sum
theorem size_next (l : List Pc) (k : Nat) (h : k < l.length) : sizeL (l.take (k + 1)) = sizeL (l.take k) + l[k]!.size := by
  rw [take_next l k h]
  simp [sizeL]
theorem size_take (l : List Pc) (k : Nat) : sizeL (l.take k) ≤ sizeL l := by
  have := congrArg sizeL (List.take_append_drop k l)
  unfold sizeL at this ⊢
  rw [List.map_append, List.sum_append] at this
  omega
def St.late (s : St) : Nat := sizeL s.pieces

set_option maxHeartbeats 800000 in
theorem used_any {w : World} {B b : Nat} {d : Ds} (h : Rep w B b d) (ok : Ok d.pl) :
    Calls Tryz.prog 20 #[.pointer (some ⟨b, 0, none⟩)] w fun e w' => e = .returned (.int .i64 (d.pl.total : Nat)) ∧ Below w.heap.size w w' := by
  have c0 := h.c0
  obtain ⟨a, cap, ev, hc'⟩ := h.row
  have hc : Aside (∀ t, t < d.files.length → ∃ g a' c', a = some ⟨g, 0, none⟩ ∧ w.cell? ⟨g, t * 3, none⟩ = some (.string d.files[t]!.name) ∧ w.cell? ⟨g, t * 3 + 1, none⟩ = some (.slice a' d.files[t]!.bytes.length c') ∧ w.cell? ⟨g, t * 3 + 2, none⟩ = some (.int .i64 (d.files[t]!.sure : Int))) := hc'
  rw [ev] at c0
  have hu : usedL d.files ≤ 60000 := by rw [← used_pl]; exact ok.used
  rw [used_pl]
  have hfew := ok.dfew
  clear hc' h ok ev
  generalize d.files = l at *
  go_enter Tryz.func20, Tryz.ntmps20
  go_wp2
  go_loopg [3, 5, 13] l.length (fun gh s3 _ s13 wr => ∃ k : Nat, l.length - k ≤ gh ∧ k ≤ l.length ∧ s3 = .int .i64 (usedL (l.take k) : Nat) ∧ s13 = .int .i64 (k : Int) ∧ Below w.heap.size w wr)
  case atStart => exact ⟨0, by omega, by omega, rfl, rfl, Below.refl _ _⟩
  case round =>
    obtain ⟨k, hgh, hk, rfl, rfl, hb⟩ := hrel
    have hsz := hb.size
    by_cases hlt : k < l.length
    · have d3 : decide (k < l.length) = true := by simpa using hlt
      obtain ⟨g, a', c', rfl, e0, e1, e2⟩ := hc.out k hlt
      replace e0 := cell_below e0 hb
      replace e1 := cell_below e1 hb
      replace e2 := cell_below e2 hb
      have hn := used_next l k hlt
      have hle := used_take l (k + 1)
      generalize l[k]! = y at *
      have HN : Aside (usedL (l.take (k + 1)) = usedL (l.take k) + y.bytes.length) := hn
      have hadd : usedL (l.take k) + y.bytes.length ≤ 60000 := by omega
      clear hn hle
      go_wp2
      go_roundg (l.length - (k + 1))
      case measure => omega
      case rel => exact ⟨k + 1, Nat.le_refl _, by omega, by rw [HN.out]; go_num, by go_num, hb.alloc hsz _⟩
    · obtain rfl : k = l.length := by omega
      have d3 : decide (l.length < l.length) = false := by simp
      rw [List.take_of_length_le (Nat.le_refl _)]
      go_wp2
      go_ret
      exact ⟨rfl, hb⟩

theorem holes_any {w : World} {B b : Nat} {d : Ds} (h : Rep w B b d) (ok : Ok d.pl) :
    Calls Tryz.prog 19 #[.pointer (some ⟨b, 0, none⟩)] w fun e w' => e = .returned (.int .i64 (16 - (d.pl.files.length : Int))) ∧ w' = w := by
  have c0 := h.c0
  obtain ⟨a, cap, ev⟩ := own_any h.tab
  rw [ev] at c0
  have hfew := ok.dfew
  have hl : d.pl.files.length = d.files.length := by simp [Ds.pl]
  rw [hl]
  clear h ok ev hl
  generalize d.files.length = n at *
  go_enter Tryz.func19, Tryz.ntmps19
  go_wp2
  go_ret
  exact ⟨rfl, rfl⟩

def St.free (s : St) : Nat := s.room - s.total

theorem Rep.drew {w : World} {B b : Nat} {d : Ds} (h : Rep w B b d) : Rep w.drew B b d := h.frame fun _ _ => rfl
theorem below_drew {w w' : World} (h : Below w.drew.heap.size w.drew w') : Below w.heap.size w w' := ⟨h.os, h.tape, h.output, h.size, h.block⟩

theorem conv_row {w : World} {base : Nat} {v : Value} {l : List UInt8} (h : w.ownsRow base 5 1 v l.length (bcells l)) : (convert 30 9 v).run Tryz.prog w = .ok (.string ⟨l.toArray⟩) w := by
  rcases h.2 with ⟨rfl, h0⟩ | ⟨g, cap, cur, rfl, hg, hh, _⟩
  · have : l = [] := List.eq_nil_of_length_eq_zero h0
    subst this
    exact run_convert_bytes_nil w 30 5 Tryz.underlying30 Tryz.underlying5 0 0 9 Tryz.underlying9
  · have := run_convert_bytes_arg w 30 5 Tryz.underlying30 Tryz.underlying5 g 0 l.length cap (l.map fun b => (b.toNat : Int)) (by simp) (fun i hi => by
      have hi' : i < l.length := by simpa using hi
      rw [Nat.zero_add, h.cellAt i (by omega)]
      simp [bcells, List.getElem?_eq_getElem hi']) 9 Tryz.underlying9
    rw [this]
    congr 2
    unfold strOfNums
    congr 1
    simp only [List.map_map]
    congr 1
    conv => rhs; rw [← List.map_id l]
    refine List.map_congr_left fun x _ => ?_
    show UInt8.ofNat ((x.toNat : Int)).toNat = x
    simp

def St.bytesOf (s : St) (n : ByteArray) : List UInt8 := match s.files[place s.names n]? with
  | some f => f.bytes
  | none => []
def St.sureOf (s : St) (n : ByteArray) : Nat := match s.files[place s.names n]? with
  | some f => f.sure
  | none => 0
def opRead (s : St) (n : ByteArray) : ByteArray × Int := if has s.names n then (⟨(s.bytesOf n).toArray⟩, 0) else (⟨#[]⟩, 6)
def opSure (s : St) (n : ByteArray) : Nat := if has s.names n then s.sureOf n else 0

set_option maxHeartbeats 800000 in
theorem read_any {w : World} {B b : Nat} {d : Ds} (h : Rep w B b d) (ok : Ok d.pl) (n : ByteArray) :
    Calls Tryz.prog 24 #[.pointer (some ⟨b, 0, none⟩), .string n] w fun e w' => e = .returned (.tuple #[.string (opRead d.pl n).1, .int .i64 (opRead d.pl n).2]) ∧ Below w.heap.size w w' := by
  have kf := find_any h ok.rise (by have := ok.dfew; omega) n
  unfold opRead St.bytesOf
  rw [names_pl]
  cases hh : has d.names n with
  | false =>
    rw [hh] at kf
    clear h ok
    simp only [Bool.false_eq_true, if_false]
    go_enter Tryz.func24, Tryz.ntmps24
    go_wp2_with (go_at_call 18; refine kf.mono ?_; rintro e w1 ⟨rfl, hb⟩)
    go_ret2
    exact ⟨rfl, hb⟩
  | true =>
    rw [hh] at kf
    obtain ⟨f, hf, hfn, hfm⟩ := dhas_get ok.rise hh
    have hfp := pl_get hf
    simp only [if_true]
    rw [hfp]
    generalize place d.names n = i at *
    have hlt : i < d.files.length := (List.getElem?_eq_some_iff.1 hf).1
    obtain ⟨g, cap, ev, hcap, hcm, hg⟩ := h.vf_form hf
    have hfew := ok.dfew
    have hfc : Aside (∀ u : World, Rep u B b d → u.cell? ⟨b, 0, none⟩ = some (.slice (some ⟨g, 0, none⟩) d.files.length cap) ∧ u.cell? ⟨g, i * 3 + 1, none⟩ = some f.v) := fun (u : World) hu => ⟨by rw [← ev]; exact hu.c0, (hu.fcells hf hg).2.1⟩
    have hcv : Aside (∀ u : World, Rep u B b d → (convert 30 9 f.v).run Tryz.prog u = .ok (.string ⟨f.bytes.toArray⟩) u) := fun (u : World) hu => conv_row (hu.rows f hfm)
    obtain ⟨a, c, ea⟩ := own_any (h.rows f hfm)
    have H : Aside (Rep w B b d) := h
    rw [ea] at hfc hcv
    clear h ok hf hfn hfm hfp ev ea
    show Calls Tryz.prog 24 _ w fun e w' => e = .returned (.tuple #[.string ⟨f.bytes.toArray⟩, .int .i64 0]) ∧ _
    go_enter Tryz.func24, Tryz.ntmps24
    go_wp2_with (go_at_call 18; refine kf.mono ?_; rintro e w1 ⟨rfl, hb⟩; obtain ⟨x1, x2⟩ := hfc.out w1 (H.out.below hb); have x3 := hcv.out w1 (H.out.below hb))
    go_ret2
    exact ⟨rfl, hb⟩

end Go.Proofs.YtblhkhgcaheplaaGreatDoor.Dk
