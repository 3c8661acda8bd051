/-
  YtajjcfacbnicnaaGreatDoor: the texts DX1, DX2, DX4, one behind the other.
-/
import Derived.Test.YtajjcfacbnicnaaGreatDoorV2
import Derived.Deep.RegionWith
import Derived.Shelf.Spec.SlicesInsertGrow
import Derived.Deep.RegionLawGrows
/-
  What is asked of a disk: Used, Waits, Holes, Down, Free, Read, Sure.
-/
namespace Go.Proofs.YtajjcfacbnicnaaGreatDoor.Dk
open Go.RowKit
set_option maxRecDepth 100000

theorem Rep.row {w : World} {B b : Nat} {d : Ds} (h : Rep w B b d) : ∃ a cap, d.vf = .slice a d.files.length cap ∧ ∀ t, t < d.files.length → ∃ g a' c', a = some ⟨g, 0, none⟩ ∧ w.cell? ⟨g, t * 3, none⟩ = some (.string d.files[t]!.name) ∧ w.cell? ⟨g, t * 3 + 1, none⟩ = some (.slice a' d.files[t]!.bytes.length c') ∧ w.cell? ⟨g, t * 3 + 2, none⟩ = some (.int .i64 (d.files[t]!.sure : Int)) := by
  obtain ⟨a, cap, e⟩ := own_any h.tab
  refine ⟨a, cap, e, fun t ht => ?_⟩
  obtain ⟨g, c', e', _, _, hg⟩ := own_form h.tab (by omega)
  have hf := getbang d.files t ht
  obtain ⟨c0, c1, c2⟩ := flat_at hf
  obtain ⟨a', c'', e''⟩ := own_any (h.rows _ (List.mem_of_getElem? hf))
  rw [e''] at c1
  rw [e] at e'
  injection e' with e1 e2 e3
  exact ⟨g, a', c'', e1, own_cell h.tab hg c0, own_cell h.tab hg c1, own_cell h.tab hg c2⟩

theorem Rep.prow {w : World} {B b : Nat} {d : Ds} (h : Rep w B b d) : ∃ a cap, d.vp = .slice a d.pieces.length cap ∧ ∀ t, t < d.pieces.length → ∃ g, a = some ⟨g, 0, none⟩ ∧ w.cell? ⟨g, t * 2, none⟩ = some (.string d.pieces[t]!.name) ∧ w.cell? ⟨g, t * 2 + 1, none⟩ = some (.int .i64 (d.pieces[t]!.size : Int)) := by
  obtain ⟨a, cap, e⟩ := own_any h.pcs
  refine ⟨a, cap, e, fun t ht => ?_⟩
  have := h.pcs
  rw [e] at this
  exact row_cells this t ht

def usedL (l : List Fv) : Nat := (l.map fun f => f.bytes.length).sum
theorem used_pl (d : Ds) : d.pl.total = usedL d.files := by
  unfold St.total usedL Ds.pl
  simp only [List.map_map]
  rfl
theorem used_next (l : List Fv) (k : Nat) (h : k < l.length) : usedL (l.take (k + 1)) = usedL (l.take k) + l[k]!.bytes.length := by
  rw [take_next l k h]
  simp [usedL]
theorem used_take (l : List Fv) (k : Nat) : usedL (l.take k) ≤ usedL l := by
  have := congrArg usedL (List.take_append_drop k l)
  unfold usedL at this ⊢
  rw [List.map_append, List.sum_append] at this
  omega

def sizeL (l : List Pc) : Nat := (l.map Pc.size).sum
theorem size_next (l : List Pc) (k : Nat) (h : k < l.length) : sizeL (l.take (k + 1)) = sizeL (l.take k) + l[k]!.size := by
  rw [take_next l k h]
  simp [sizeL]
theorem size_take (l : List Pc) (k : Nat) : sizeL (l.take k) ≤ sizeL l := by
  have := congrArg sizeL (List.take_append_drop k l)
  unfold sizeL at this ⊢
  rw [List.map_append, List.sum_append] at this
  omega
def St.late (s : St) : Nat := sizeL s.pieces

set_option maxHeartbeats 800000 in
theorem used_any {w : World} {B b : Nat} {d : Ds} (h : Rep w B b d) (ok : Ok d.pl) :
    Calls Tryz.prog 66 #[.pointer (some ⟨b, 0, none⟩)] w fun e w' => e = .returned (.int .i64 (d.pl.total : Nat)) ∧ Below w.heap.size w w' := by
  have c0 := h.c0
  obtain ⟨a, cap, ev, hc'⟩ := h.row
  have hc : Aside (∀ t, t < d.files.length → ∃ g a' c', a = some ⟨g, 0, none⟩ ∧ w.cell? ⟨g, t * 3, none⟩ = some (.string d.files[t]!.name) ∧ w.cell? ⟨g, t * 3 + 1, none⟩ = some (.slice a' d.files[t]!.bytes.length c') ∧ w.cell? ⟨g, t * 3 + 2, none⟩ = some (.int .i64 (d.files[t]!.sure : Int))) := hc'
  rw [ev] at c0
  have hu : usedL d.files ≤ 60000 := by rw [← used_pl]; exact ok.used
  rw [used_pl]
  have hfew := ok.dfew
  clear hc' h ok ev
  generalize d.files = l at *
  go_enter Tryz.func66, Tryz.ntmps66
  go_wp2
  go_loopg [3, 5, 13] l.length (fun gh s3 _ s13 wr => ∃ k : Nat, l.length - k ≤ gh ∧ k ≤ l.length ∧ s3 = .int .i64 (usedL (l.take k) : Nat) ∧ s13 = .int .i64 (k : Int) ∧ Below w.heap.size w wr)
  case atStart => exact ⟨0, by omega, by omega, rfl, rfl, Below.refl _ _⟩
  case round =>
    obtain ⟨k, hgh, hk, rfl, rfl, hb⟩ := hrel
    have hsz := hb.size
    by_cases hlt : k < l.length
    · have d3 : decide (k < l.length) = true := by simpa using hlt
      obtain ⟨g, a', c', rfl, e0, e1, e2⟩ := hc.out k hlt
      replace e0 := cell_below e0 hb
      replace e1 := cell_below e1 hb
      replace e2 := cell_below e2 hb
      have hn := used_next l k hlt
      have hle := used_take l (k + 1)
      generalize l[k]! = y at *
      have HN : Aside (usedL (l.take (k + 1)) = usedL (l.take k) + y.bytes.length) := hn
      have hadd : usedL (l.take k) + y.bytes.length ≤ 60000 := by omega
      clear hn hle
      go_wp2
      go_roundg (l.length - (k + 1))
      case measure => omega
      case rel => exact ⟨k + 1, Nat.le_refl _, by omega, by rw [HN.out]; go_num, by go_num, hb.alloc hsz _⟩
    · obtain rfl : k = l.length := by omega
      have d3 : decide (l.length < l.length) = false := by simp
      rw [List.take_of_length_le (Nat.le_refl _)]
      go_wp2
      go_ret
      exact ⟨rfl, hb⟩

set_option maxHeartbeats 800000 in
theorem waits_any {w : World} {B b : Nat} {d : Ds} (h : Rep w B b d) (ok : Ok d.pl) :
    Calls Tryz.prog 67 #[.pointer (some ⟨b, 0, none⟩)] w fun e w' => e = .returned (.int .i64 (d.pl.late : Nat)) ∧ Below w.heap.size w w' := by
  have c1 := h.c1
  obtain ⟨a, cap, ev, hc'⟩ := h.prow
  have hc : Aside (∀ t, t < d.pieces.length → ∃ g, a = some ⟨g, 0, none⟩ ∧ w.cell? ⟨g, t * 2, none⟩ = some (.string d.pieces[t]!.name) ∧ w.cell? ⟨g, t * 2 + 1, none⟩ = some (.int .i64 (d.pieces[t]!.size : Int))) := hc'
  rw [ev] at c1
  have hu : sizeL d.pieces ≤ 60000 := Nat.le_trans ok.sum ok.used
  have hfew : d.pieces.length ≤ 60000 := ok.pieces
  show Calls Tryz.prog 67 _ w fun e w' => e = .returned (.int .i64 (sizeL d.pieces : Nat)) ∧ Below w.heap.size w w'
  clear hc' h ok ev
  generalize d.pieces = l at *
  go_enter Tryz.func67, Tryz.ntmps67
  go_wp2
  go_loopg [3, 5, 13] l.length (fun gh s3 _ s13 wr => ∃ k : Nat, l.length - k ≤ gh ∧ k ≤ l.length ∧ s3 = .int .i64 (sizeL (l.take k) : Nat) ∧ s13 = .int .i64 (k : Int) ∧ Below w.heap.size w wr)
  case atStart => exact ⟨0, by omega, by omega, rfl, rfl, Below.refl _ _⟩
  case round =>
    obtain ⟨k, hgh, hk, rfl, rfl, hb⟩ := hrel
    have hsz := hb.size
    by_cases hlt : k < l.length
    · have d3 : decide (k < l.length) = true := by simpa using hlt
      obtain ⟨g, rfl, e0, e1⟩ := hc.out k hlt
      replace e0 := cell_below e0 hb
      replace e1 := cell_below e1 hb
      have hn := size_next l k hlt
      have hle := size_take l (k + 1)
      generalize l[k]! = y at *
      have HN : Aside (sizeL (l.take (k + 1)) = sizeL (l.take k) + y.size) := hn
      have hadd : sizeL (l.take k) + y.size ≤ 60000 := by omega
      clear hn hle
      go_wp2
      go_roundg (l.length - (k + 1))
      case measure => omega
      case rel => exact ⟨k + 1, Nat.le_refl _, by omega, by rw [HN.out]; go_num, by go_num, hb.alloc hsz _⟩
    · obtain rfl : k = l.length := by omega
      have d3 : decide (l.length < l.length) = false := by simp
      rw [List.take_of_length_le (Nat.le_refl _)]
      go_wp2
      go_ret
      exact ⟨rfl, hb⟩

theorem holes_any {w : World} {B b : Nat} {d : Ds} (h : Rep w B b d) (ok : Ok d.pl) :
    Calls Tryz.prog 69 #[.pointer (some ⟨b, 0, none⟩)] w fun e w' => e = .returned (.int .i64 (16 - (d.pl.files.length : Int))) ∧ w' = w := by
  have c0 := h.c0
  obtain ⟨a, cap, ev⟩ := own_any h.tab
  rw [ev] at c0
  have hfew := ok.dfew
  have hl : d.pl.files.length = d.files.length := by simp [Ds.pl]
  rw [hl]
  clear h ok ev hl
  generalize d.files.length = n at *
  go_enter Tryz.func69, Tryz.ntmps69
  go_wp2
  go_ret
  exact ⟨rfl, rfl⟩

theorem down_any {w : World} {B b : Nat} {d : Ds} (h : Rep w B b d) :
    Calls Tryz.prog 31 #[.pointer (some ⟨b, 0, none⟩)] w fun e w' => e = .returned (.bool d.pl.down) ∧ w' = w := by
  have c5 := h.c5
  clear h
  show Calls Tryz.prog 31 _ w fun e w' => e = .returned (.bool d.down) ∧ w' = w
  go_enter Tryz.func31, Tryz.ntmps31
  go_wp2
  go_ret
  exact ⟨rfl, rfl⟩

def St.free (s : St) : Nat := s.room - s.total

theorem Rep.drew {w : World} {B b : Nat} {d : Ds} (h : Rep w B b d) : Rep w.drew B b d := h.frame fun _ _ => rfl
theorem below_drew {w w' : World} (h : Below w.drew.heap.size w.drew w') : Below w.heap.size w w' := ⟨h.os, h.tape, h.output, h.size, h.block⟩

theorem free_any {w : World} {B b : Nat} {d : Ds} (h : Rep w B b d) (ok : Ok d.pl) :
    Calls Tryz.prog 68 #[.pointer (some ⟨b, 0, none⟩)] w fun e w' => e = .returned (.int .i64 (d.pl.free : Nat)) ∧ Below w.heap.size w w' := by
  have c2 := h.c2
  have ku := used_any h.drew ok
  have hr : d.room ≤ 60000 := ok.room
  have hu := ok.used
  have F : Aside (d.pl.free = d.room - d.pl.total) := (rfl : d.pl.free = d.room - d.pl.total)
  clear h ok
  generalize d.pl.total = T at *
  generalize d.room = R at *
  rw [F.out]
  have hw : IntKind.i64.wrap ((R : Int) - (T : Int)) = (R : Int) - (T : Int) := by rw [IntKind.wrap_i64]; omega
  go_enter Tryz.func68, Tryz.ntmps68
  go_wp2
  go_region_with (go_at_call 66; refine ku.mono ?_; rintro e w1 ⟨rfl, hb'⟩; have hb := below_drew hb'; have c2' := cell_below c2 hb)
  all_goals
    go_wp2
    go_ret
    refine ⟨?_, hb⟩
    show Ending.returned (Value.int .i64 (max ((R : Int) - (T : Int)) 0)) = _
    congr 2
    omega

theorem conv_row {w : World} {base : Nat} {v : Value} {l : List UInt8} (h : w.ownsRow base 5 1 v l.length (bcells l)) : (convert 46 9 v).run Tryz.prog w = .ok (.string ⟨l.toArray⟩) w := by
  rcases h.2 with ⟨rfl, h0⟩ | ⟨g, cap, cur, rfl, hg, hh, _⟩
  · have : l = [] := List.eq_nil_of_length_eq_zero h0
    subst this
    exact run_convert_bytes_nil w 46 5 Tryz.underlying46 Tryz.underlying5 0 0 9 Tryz.underlying9
  · have := run_convert_bytes_arg w 46 5 Tryz.underlying46 Tryz.underlying5 g 0 l.length cap (l.map fun b => (b.toNat : Int)) (by simp) (fun i hi => by
      have hi' : i < l.length := by simpa using hi
      rw [Nat.zero_add, h.cellAt i (by omega)]
      simp [bcells, List.getElem?_eq_getElem hi']) 9 Tryz.underlying9
    rw [this]
    congr 2
    unfold strOfNums
    congr 1
    simp only [List.map_map]
    congr 1
    conv => rhs; rw [← List.map_id l]
    refine List.map_congr_left fun x _ => ?_
    show UInt8.ofNat ((x.toNat : Int)).toNat = x
    simp

def St.bytesOf (s : St) (n : ByteArray) : List UInt8 := match s.files[place s.names n]? with
  | some f => f.bytes
  | none => []
def St.sureOf (s : St) (n : ByteArray) : Nat := match s.files[place s.names n]? with
  | some f => f.sure
  | none => 0
def opRead (s : St) (n : ByteArray) : ByteArray × Int := if has s.names n then (⟨(s.bytesOf n).toArray⟩, 0) else (⟨#[]⟩, 6)
def opSure (s : St) (n : ByteArray) : Nat := if has s.names n then s.sureOf n else 0

set_option maxHeartbeats 800000 in
theorem read_any {w : World} {B b : Nat} {d : Ds} (h : Rep w B b d) (ok : Ok d.pl) (n : ByteArray) :
    Calls Tryz.prog 63 #[.pointer (some ⟨b, 0, none⟩), .string n] w fun e w' => e = .returned (.tuple #[.string (opRead d.pl n).1, .int .i64 (opRead d.pl n).2]) ∧ Below w.heap.size w w' := by
  have kf := find_any h ok.rise (by have := ok.dfew; omega) n
  unfold opRead St.bytesOf
  rw [names_pl]
  cases hh : has d.names n with
  | false =>
    rw [hh] at kf
    clear h ok
    simp only [Bool.false_eq_true, if_false]
    go_enter Tryz.func63, Tryz.ntmps63
    go_wp2_with (go_at_call 54; refine kf.mono ?_; rintro e w1 ⟨rfl, hb⟩)
    go_ret2
    exact ⟨rfl, hb⟩
  | true =>
    rw [hh] at kf
    obtain ⟨f, hf, hfn, hfm⟩ := dhas_get ok.rise hh
    have hfp := pl_get hf
    simp only [if_true]
    rw [hfp]
    generalize place d.names n = i at *
    have hlt : i < d.files.length := (List.getElem?_eq_some_iff.1 hf).1
    obtain ⟨g, cap, ev, hcap, hcm, hg⟩ := h.vf_form hf
    have hfew := ok.dfew
    have hfc : Aside (∀ u : World, Rep u B b d → u.cell? ⟨b, 0, none⟩ = some (.slice (some ⟨g, 0, none⟩) d.files.length cap) ∧ u.cell? ⟨g, i * 3 + 1, none⟩ = some f.v) := fun (u : World) hu => ⟨by rw [← ev]; exact hu.c0, (hu.fcells hf hg).2.1⟩
    have hcv : Aside (∀ u : World, Rep u B b d → (convert 46 9 f.v).run Tryz.prog u = .ok (.string ⟨f.bytes.toArray⟩) u) := fun (u : World) hu => conv_row (hu.rows f hfm)
    obtain ⟨a, c, ea⟩ := own_any (h.rows f hfm)
    have H : Aside (Rep w B b d) := h
    rw [ea] at hfc hcv
    clear h ok hf hfn hfm hfp ev ea
    show Calls Tryz.prog 63 _ w fun e w' => e = .returned (.tuple #[.string ⟨f.bytes.toArray⟩, .int .i64 0]) ∧ _
    go_enter Tryz.func63, Tryz.ntmps63
    go_wp2_with (go_at_call 54; refine kf.mono ?_; rintro e w1 ⟨rfl, hb⟩; obtain ⟨x1, x2⟩ := hfc.out w1 (H.out.below hb); have x3 := hcv.out w1 (H.out.below hb))
    go_ret2
    exact ⟨rfl, hb⟩

set_option maxHeartbeats 800000 in
theorem sure_any {w : World} {B b : Nat} {d : Ds} (h : Rep w B b d) (ok : Ok d.pl) (n : ByteArray) :
    Calls Tryz.prog 30 #[.pointer (some ⟨b, 0, none⟩), .string n] w fun e w' => e = .returned (.int .i64 (opSure d.pl n : Nat)) ∧ Below w.heap.size w w' := by
  have kf := find_any h ok.rise (by have := ok.dfew; omega) n
  unfold opSure St.sureOf
  rw [names_pl]
  cases hh : has d.names n with
  | false =>
    rw [hh] at kf
    clear h ok
    simp only [Bool.false_eq_true, if_false]
    go_enter Tryz.func30, Tryz.ntmps30
    go_wp2_with (go_at_call 54; refine kf.mono ?_; rintro e w1 ⟨rfl, hb⟩)
    go_ret
    exact ⟨rfl, hb⟩
  | true =>
    rw [hh] at kf
    obtain ⟨f, hf, hfn, hfm⟩ := dhas_get ok.rise hh
    have hfp := pl_get hf
    simp only [if_true]
    rw [hfp]
    generalize place d.names n = i at *
    have hlt : i < d.files.length := (List.getElem?_eq_some_iff.1 hf).1
    obtain ⟨g, cap, ev, hcap, hcm, hg⟩ := h.vf_form hf
    have hfew := ok.dfew
    have hfc : Aside (∀ u : World, Rep u B b d → u.cell? ⟨b, 0, none⟩ = some (.slice (some ⟨g, 0, none⟩) d.files.length cap) ∧ u.cell? ⟨g, i * 3 + 2, none⟩ = some (.int .i64 (f.sure : Int))) := fun (u : World) hu => ⟨by rw [← ev]; exact hu.c0, (hu.fcells hf hg).2.2⟩
    have H : Aside (Rep w B b d) := h
    clear h ok hf hfn hfm hfp ev
    show Calls Tryz.prog 30 _ w fun e w' => e = .returned (.int .i64 (f.sure : Nat)) ∧ _
    go_enter Tryz.func30, Tryz.ntmps30
    go_wp2_with (go_at_call 54; refine kf.mono ?_; rintro e w1 ⟨rfl, hb⟩; obtain ⟨x1, x2⟩ := hfc.out w1 (H.out.below hb))
    go_ret
    exact ⟨rfl, hb⟩
end Go.Proofs.YtajjcfacbnicnaaGreatDoor.Dk

/-
  Room, Fuse, New; nobody's disk.
-/
namespace Go.Proofs.YtajjcfacbnicnaaGreatDoor.Dk
open Go.RowKit
set_option maxRecDepth 100000

def opRoom (s : St) (n : Int) : St := { s with room := (min (max n 0) 60000).toNat }
def opFuse (s : St) (n : Int) : St := if s.down then s else { s with fused := decide (0 ≤ n), fuse := n.toNat }

theorem Ok.opRoom {s : St} (h : Ok s) (n : Int) : Ok (opRoom s n) := ⟨h.rising, h.few, by show (min (max n 0) 60000).toNat ≤ 60000; omega, h.fuse, h.used, h.sizes, h.waits, h.named⟩
theorem Ok.opFuse {s : St} (h : Ok s) {n : Int} (hn : n ≤ 9223372036854775807) : Ok (opFuse s n) := by
  unfold YtajjcfacbnicnaaGreatDoor.Dk.opFuse
  split
  · exact h
  · exact ⟨h.rising, h.few, h.room, by show n.toNat ≤ _; omega, h.used, h.sizes, h.waits, h.named⟩

theorem room_any {w : World} {B b : Nat} {d : Ds} (h : Rep w B b d) (n : Int) :
    Calls Tryz.prog 27 #[.pointer (some ⟨b, 0, none⟩), .int .i64 n] w fun e w' => e = .returned (.tuple #[]) ∧ ∃ d', Rep w' B b d' ∧ d'.pl = opRoom d.pl n ∧ Step (d.foot b) (d'.foot b) w w' := by
  have c2 := h.c2
  have f2 := h.fz 2
  have A : Aside (Rep w B b d) := h
  obtain ⟨m, hm⟩ : ∃ m : Nat, (m : Int) = min (max n 0) 60000 := ⟨(min (max n 0) 60000).toNat, by omega⟩
  have hm' : (min (max n 0) 60000).toNat = m := by omega
  unfold opRoom
  rw [hm']
  have HM : Aside ((m : Int) = min (max n 0) 60000) := hm
  clear h hm hm'
  go_enter Tryz.func27, Tryz.ntmps27
  go_wp2
  go_end0
  refine ⟨rfl, { d with room := m }, A.out.scal rfl rfl rfl rfl (set_same A.out.blk ?_) (fun k hk => Below.heap_setCell _ _ _ _ hk), rfl, Step.setb _ foot_b _ _⟩
  simp [Ds.cells, HM.out]

theorem fuse_any {w : World} {B b : Nat} {d : Ds} (h : Rep w B b d) (n : Int) :
    Calls Tryz.prog 26 #[.pointer (some ⟨b, 0, none⟩), .int .i64 n] w fun e w' => e = .returned (.tuple #[]) ∧ ∃ d', Rep w' B b d' ∧ d'.pl = opFuse d.pl n ∧ Step (d.foot b) (d'.foot b) w w' := by
  have c3 := h.c3
  have c4 := h.c4
  have c5 := h.c5
  have f3 := h.fz 3
  have f4 := h.fz 4
  have A : Aside (Rep w B b d) := h
  have e1 : (max n 0) = ((n.toNat : Nat) : Int) := by omega
  have E1 : Aside ((max n 0) = ((n.toNat : Nat) : Int)) := e1
  unfold opFuse
  show Calls Tryz.prog 26 _ w fun e w' => e = .returned (.tuple #[]) ∧ ∃ d', Rep w' B b d' ∧ d'.pl = (if d.down then d.pl else _) ∧ Step (d.foot b) (d'.foot b) w w'
  clear h e1
  cases hd : d.down with
  | true =>
    rw [hd] at c5
    go_enter Tryz.func26, Tryz.ntmps26
    go_wp2
    try simp only [Exit.inBlock, Exit.then]
    refine bodyPost_ret (results_none rfl _ _ _) rfl ?_
    exact ⟨rfl, d, A.out, by simp, Step.refl _ _⟩
  | false =>
    rw [hd] at c5
    go_enter Tryz.func26, Tryz.ntmps26
    go_wp2
    go_end0
    refine ⟨rfl, { d with fused := decide (0 ≤ n), fuse := n.toNat }, A.out.scal rfl rfl rfl rfl (set_same (set_same A.out.blk rfl) ?_) (fun k hk => (Below.heap_setCell _ _ _ _ hk).trans (Below.heap_setCell _ _ _ _ hk)), by simp [Ds.pl], (Step.setb _ foot_b _ _).trans (Step.setb _ foot_b _ _)⟩
    rw [E1.out]
    rfl

def emptySt : St := ⟨[], [], 0, false, 0, false⟩

theorem new_any (n : Int) (w : World) (B : Nat) (hB : B ≤ w.heap.size) :
    Calls Tryz.prog 9 #[.int .i64 n] w fun e w' => ∃ b d, e = .returned (.pointer (some ⟨b, 0, none⟩)) ∧ Rep w' B b d ∧ d.pl = opRoom emptySt n ∧ (∀ k ∈ d.foot b, w.heap.size ≤ k) ∧ Below w.heap.size w w' := by
  have kr : Aside (∀ u : World, Rep u B w.heap.size ⟨[], [], .slice none 0 0, .slice none 0 0, 0, false, 0, false⟩ → _) := fun (u : World) hu => room_any hu n
  have h0 : Aside (Rep (w.alloc (.cells #[.slice none 0 0, .slice none 0 0, .int .i64 0, .bool false, .int .i64 0, .bool false] 68)) B w.heap.size ⟨[], [], .slice none 0 0, .slice none 0 0, 0, false, 0, false⟩) :=
    ⟨hB, heap_alloc_new w _, World.ownsRow_nil _ _ _ _, World.ownsRow_nil _ _ _ _, fun f hf => by simp at hf, by simp [Ds.foot, ob, Value.ownBlock]⟩
  go_enter Tryz.func9, Tryz.ntmps9
  go_wp2_with (go_at_call 27; refine (kr.out _ h0.out).mono ?_; rintro e w1 ⟨rfl, d, hr, hp, hs⟩)
  go_ret
  refine ⟨w.heap.size, d, rfl, hr, hp, fun k hk => ?_, ?_⟩
  · rcases hs.sub k hk with h | h
    · simp [Ds.foot, ob, Value.ownBlock] at h
      omega
    · have : w.heap.size + 1 ≤ k := by simpa using h
      omega
  · exact ((Below.refl w.heap.size w).alloc (Nat.le_refl _) _).trans (hs.below (fun k hk => by simp [Ds.foot, ob, Value.ownBlock] at hk; omega) (by simp))
end Go.Proofs.YtajjcfacbnicnaaGreatDoor.Dk

/-
  slices.Insert at files: one file is put at its place.
-/
namespace Go.Proofs.YtajjcfacbnicnaaGreatDoor.Dk
open Go.RowKit
set_option maxRecDepth 100000

theorem run_copy_rowk {P : Program} (w : World) (dT sT ty elem : TypeId) (g o dLen dCap : Nat) (a : Addr) (sLen sCap k m : Nat) (cur : Array Value) (t : TypeId) (cs : List Value)
    (hu : P.underlying dT = some (.slice elem)) (hs : (P.info? elem).map (·.size) = some k)
    (hg : w.heap[g]? = some (.cells cur t (0, 0))) (hm : Nat.min sLen dLen = m) (hn : cs.length = m * k)
    (hsrc : ∀ j v, cs[j]? = some v → w.cell? (a.add j) = some v) (hfit : o + cs.length ≤ cur.size) (h1 : ∀ v ∈ cs, v.oneCell' = true) :
    (Builtin.copy_ #[dT, sT] ty #[.slice (some ⟨g, o, none⟩) dLen dCap, .slice (some a) sLen sCap]).run P w =
      .ok (goInt m) (w.setRow g (cur.toList.take o ++ cs ++ cur.toList.drop (o + cs.length)).toArray) := by
  have hl := run_loadCells_list (P := P) w a cs hsrc
  have hst := run_storeCells_at P g o t cs 0 cur w hg (by simpa using hfit) h1
  cases hq : P.info? elem with
  | none => simp [hq] at hs
  | some i =>
    have hi : i.size = k := by simpa [hq] using hs
    simp [Builtin.copy_, run_underlying hu, Builtin.lenOf, Builtin.firstCells, sizeOf, typeInfo, hq, hi, hm, ← hn, hl, hst]

theorem ins_shift (X C F : List Value) (p q N : Nat) (hC : X.take N = C) (hN : C.length = N) (hF : F.length = q) (hp : p ≤ N) (hX : N + q ≤ X.length) :
    ((X.take (p + q) ++ C.drop p ++ X.drop (p + q + (C.drop p).length)).take p ++ F ++ (X.take (p + q) ++ C.drop p ++ X.drop (p + q + (C.drop p).length)).drop (p + F.length)).take (N + q) = C.take p ++ F ++ C.drop p := by
  have e1 : (X.take (p + q)).length = p + q := by rw [List.length_take]; omega
  have e2 : (X.take (p + q) ++ C.drop p ++ X.drop (p + q + (C.drop p).length)).take p = C.take p := by
    rw [List.append_assoc, List.take_append_of_le_length (by omega), List.take_take, Nat.min_eq_left (by omega), ← hC, List.take_take, Nat.min_eq_left hp]
  have e3 : (X.take (p + q) ++ C.drop p ++ X.drop (p + q + (C.drop p).length)).drop (p + F.length) = C.drop p ++ X.drop (p + q + (C.drop p).length) := by
    rw [hF, List.append_assoc]
    exact List.drop_left' e1
  rw [e2, e3, ← List.append_assoc, List.take_append_of_le_length (by simp; omega), List.take_of_length_le (by simp; omega)]

theorem ins_grow (Z C F : List Value) (p q N : Nat) (hN : C.length = N) (hF : F.length = q) (hp : p ≤ N) (_hZ : N + q ≤ p + Z.length) :
    ((((C.take p ++ Z).take p ++ F ++ (C.take p ++ Z).drop (p + F.length)).take (p + q) ++ C.drop p ++ ((C.take p ++ Z).take p ++ F ++ (C.take p ++ Z).drop (p + F.length)).drop (p + q + (C.drop p).length))).take (N + q) = C.take p ++ F ++ C.drop p := by
  have e1 : (C.take p).length = p := by rw [List.length_take]; omega
  have e2 : (C.take p ++ Z).take p = C.take p := List.take_left' e1
  have e3 : ((C.take p ++ Z).take p ++ F ++ (C.take p ++ Z).drop (p + F.length)).take (p + q) = C.take p ++ F := by
    rw [e2]
    exact List.take_left' (by rw [List.length_append, e1, hF])
  rw [e3, List.take_append_of_le_length (by simp; omega), List.take_of_length_le (by simp; omega)]

theorem flat_take (l : List Fv) (i : Nat) : (l.flatMap Fv.cells).take (i * 3) = (l.take i).flatMap Fv.cells := by
  induction l generalizing i with
  | nil => simp
  | cons a r ih =>
    cases i with
    | zero => simp
    | succ i =>
      rw [List.take_succ_cons, List.flatMap_cons, List.flatMap_cons, ← ih i, show (i + 1) * 3 = a.cells.length + i * 3 by simp [Fv.cells]; omega, List.take_length_add_append]
theorem flat_drop (l : List Fv) (i : Nat) : (l.flatMap Fv.cells).drop (i * 3) = (l.drop i).flatMap Fv.cells := by
  induction l generalizing i with
  | nil => simp
  | cons a r ih =>
    cases i with
    | zero => simp
    | succ i =>
      rw [List.drop_succ_cons, List.flatMap_cons, ← ih i, show (i + 1) * 3 = a.cells.length + i * 3 by simp [Fv.cells]; omega, List.drop_length_add_append]

theorem flat_ins (l : List Fv) (i : Nat) (f : Fv) : (l.flatMap Fv.cells).take (i * 3) ++ f.cells ++ (l.flatMap Fv.cells).drop (i * 3) = (l.take i ++ f :: l.drop i).flatMap Fv.cells := by
  rw [flat_take, flat_drop, List.flatMap_append, List.flatMap_cons, List.append_assoc]

theorem sizeOf64 (w : World) : (Go.sizeOf 99).run Tryz.prog w = .ok 3 w := by kernel_rfl

theorem cells_one {l : List Fv} (h : ∀ x ∈ l, x.v.oneCell' = true) : ∀ v ∈ l.flatMap Fv.cells, v.oneCell' = true := by
  intro v hv
  obtain ⟨x, hx, hv⟩ := List.mem_flatMap.1 hv
  simp only [Fv.cells, List.mem_cons, List.not_mem_nil, or_false] at hv
  rcases hv with rfl | rfl | rfl
  · rfl
  · exact h x hx
  · rfl

theorem grown_refl (w : World) (r : Option Nat) : w.grownBy w r := ⟨rfl, rfl, rfl, Nat.le_refl _, fun _ _ _ => rfl⟩

set_option maxHeartbeats 4000000 in
theorem insert_shift (B g cap i vb : Nat) (l : List Fv) (f : Fv) (w : World) (h : w.ownsRow B 99 3 (.slice (some ⟨g, 0, none⟩) l.length cap) l.length (l.flatMap Fv.cells)) (hi : i < l.length) (hroom : l.length + 1 ≤ cap)
    (hv : w.heap[vb]? = some (.cells #[.string f.name, f.v, .int .i64 (f.sure : Int)] 99 (0, 0))) (hne : vb ≠ g) (hone : f.v.oneCell' = true) (h1 : ∀ x ∈ l, x.v.oneCell' = true) :
    Calls Tryz.prog 75 #[.slice (some ⟨g, 0, none⟩) l.length cap, .int .i64 (i : Int), .slice (some ⟨vb, 0, none⟩) 1 1] w fun e w' => ∃ v', e = .returned v' ∧ w'.ownsRow B 99 3 v' (l.length + 1) ((l.take i ++ f :: l.drop i).flatMap Fv.cells) ∧ v'.ownBlock = some g ∧ w.grownBy w' (some g) := by
  obtain ⟨cur, hcur, hcs, hnc, hcm, hBg, htk⟩ := own_setRow h
  have hlen : (l.flatMap Fv.cells).length = l.length * 3 := flat_len l
  have hcell : ∀ j v, (l.flatMap Fv.cells)[j]? = some v → w.cell? ⟨g, j, none⟩ = some v := fun j v hj => own_cell h rfl hj
  have hc63 : cap ≤ 9223372036854775807 := by unfold maxLen at hcm; omega
  have hov : ∀ lb cb, (callFunc 97 #[.slice (some ⟨vb, 0, none⟩) 1 1, .slice (some ⟨g, (i + 1) * 3, none⟩) lb cb]).run Tryz.prog w = .ok (.value (.bool false)) w := fun lb cb => by
    rw [run_callFunc_extern Tryz.func97 (by kernel_rfl) (by kernel_rfl) (by kernel_rfl) (e := Extern.SlicesOverlaps.overlaps #[65, 65] #[4]) (by kernel_rfl),
      Lib.run_overlaps_apart w 65 4 99 Tryz.underlying65 3 sizeOf64 ⟨vb, 0, none⟩ ⟨g, (i + 1) * 3, none⟩ 1 1 lb cb hne 99 99 3 cur.size (by simp [World.shape?, hv]) (by simp [World.shape?, hcur]) (by omega) (frozen_of_row w vb 0 _ _ hv) (frozen_of_row w vb 3 _ _ hv)]
    rfl
  have hdl : ((l.flatMap Fv.cells).drop (i * 3)).length = (l.length - i) * 3 := by rw [List.length_drop, hlen]; omega
  have hcp1 : ∀ ty dc sc, (Builtin.copy_ #[65, 65] ty #[.slice (some ⟨g, (i + 1) * 3, none⟩) (l.length - i) dc, .slice (some ⟨g, i * 3, none⟩) (l.length + 1 - i) sc]).run Tryz.prog w.drew = .ok (goInt ((l.length - i : Nat) : Int)) (w.drew.setRow g (cur.toList.take ((i + 1) * 3) ++ (l.flatMap Fv.cells).drop (i * 3) ++ cur.toList.drop ((i + 1) * 3 + ((l.flatMap Fv.cells).drop (i * 3)).length)).toArray) := fun ty dc sc =>
    run_copy_rowk w.drew 65 65 ty 99 g ((i + 1) * 3) (l.length - i) dc ⟨g, i * 3, none⟩ (l.length + 1 - i) sc 3 (l.length - i) cur 99 ((l.flatMap Fv.cells).drop (i * 3)) Tryz.underlying65 size64 hcur (by simp only [Nat.min_def]; split <;> omega) hdl
      (fun j v hj => by rw [Addr.add_lit]; exact hcell (i * 3 + j) v (by rwa [List.getElem?_drop] at hj)) (by rw [hdl, hcs]; omega) (fun v hv => cells_one h1 v (List.mem_of_mem_drop hv))
  generalize hX1 : (cur.toList.take ((i + 1) * 3) ++ (l.flatMap Fv.cells).drop (i * 3) ++ cur.toList.drop ((i + 1) * 3 + ((l.flatMap Fv.cells).drop (i * 3)).length)).toArray = X1 at hcp1
  have hX1s : X1.size = cap * 3 := by rw [← hX1]; simp only [List.size_toArray, List.length_append, List.length_take, List.length_drop, Array.length_toList, hcs, hlen]; omega
  have hX1h : (w.drew.setRow g X1).heap[g]? = some (.cells X1 99 (0, 0)) := setRow_heap w.drew g cur X1 99 _ hcur
  have hcp2 : ∀ ty dc, (Builtin.copy_ #[65, 65] ty #[.slice (some ⟨g, i * 3, none⟩) (l.length + 1 - i) dc, .slice (some ⟨vb, 0, none⟩) 1 1]).run Tryz.prog (w.drew.setRow g X1) = .ok (goInt ((1 : Nat) : Int)) ((w.drew.setRow g X1).setRow g (X1.toList.take (i * 3) ++ f.cells ++ X1.toList.drop (i * 3 + f.cells.length)).toArray) := fun ty dc =>
    run_copy_rowk (w.drew.setRow g X1) 65 65 ty 99 g (i * 3) (l.length + 1 - i) dc ⟨vb, 0, none⟩ 1 1 3 1 X1 99 f.cells Tryz.underlying65 size64 hX1h (by simp only [Nat.min_def]; split <;> omega) rfl
      (fun j v hj => by
        rw [Addr.add_lit, Nat.zero_add, cell_of_row _ vb j _ _ _ ((setRow_other w.drew g vb X1 hne).trans hv)]
        rw [← hj, ← Array.getElem?_toList]
        rfl) (by simp [Fv.cells]; omega) (by simpa using cells_one (l := [f]) (by simpa using hone))
  generalize hX2 : (X1.toList.take (i * 3) ++ f.cells ++ X1.toList.drop (i * 3 + f.cells.length)).toArray = X2 at hcp2
  have F : Aside ((w.drew.setRow g X1 |>.setRow g X2).ownsRow B 99 3 (.slice (some ⟨g, 0, none⟩) (l.length + 1) cap) (l.length + 1) ((l.take i ++ f :: l.drop i).flatMap Fv.cells)) := by
    have hX2s : X2.size = cap * 3 := by rw [← hX2]; simp only [List.size_toArray, List.length_append, List.length_take, List.length_drop, Array.length_toList, hX1s, Fv.cells, List.length_cons, List.length_nil]; omega
    refine ⟨?_, .inr ⟨g, cap, X2, rfl, hBg, setRow_heap _ g X1 X2 99 _ hX1h, hroom, hcm, hX2s, ?_⟩⟩
    · rw [flat_len, List.length_append, List.length_cons, List.length_take, List.length_drop]; omega
    · rw [← flat_ins, ← hX2, ← hX1]
      have := ins_shift cur.toList (l.flatMap Fv.cells) f.cells (i * 3) 3 (l.length * 3) htk hlen rfl (by omega) (by have := Array.length_toList (xs := cur); omega)
      rw [show i * 3 + 3 = (i + 1) * 3 by omega] at this
      rw [show (l.length + 1) * 3 = l.length * 3 + 3 by omega]
      exact this
  have G : Aside (w.grownBy (w.drew.setRow g X1 |>.setRow g X2) (some g)) := grown_setRow (grown_setRow (⟨rfl, rfl, rfl, Nat.le_refl _, fun _ _ _ => rfl⟩ : w.grownBy w.drew (some g)) X1) X2
  generalize (w.drew.setRow g X1).setRow g X2 = W2 at hcp2 F G
  have hW1 : Hid (X1 = X1) := rfl
  generalize hW : w.drew.setRow g X1 = W1 at hcp1 hcp2
  clear hX1 hX2 hX1s hX1h hcur hcell htk hcs hdl hlen hv h hW hone h1
  generalize l.length = n at *
  have hz2 : ¬ ((i : Int) = (n : Int)) := by omega
  have hin : i ≤ n := by omega
  have hb2 : ¬ (cap = i + 1) := by omega
  have hb3 : (i : Int) ≤ (n : Int) + 1 := by omega
  have hb4 : ¬ (cap = i) := by omega
  have hw1 : IntKind.i64.wrap ((i : Int) + 1) = (i : Int) + 1 := by rw [IntKind.wrap_i64]; omega
  have htn : ((i : Int) + 1).toNat = i + 1 := by omega
  have hb1 : (0 : Int) ≤ (i : Int) + 1 := by omega
  go_enter Tryz.func75, Tryz.ntmps75
  go_wp2_with (simp only [hov])
  go_region_law (refine step_copy_runI rfl _ _ 65 65 rfl _ _ (by simp [Act.eval, Act.put]) (by simp [Act.eval, Act.put]) (hcp1 _ _ _) ?_)
  go_wp2_with (at_builtin; refine wpList_copy_runI _ rfl _ _ 65 65 rfl _ _ rfl rfl (hcp2 _ _) ?_)
  go_ret
  exact ⟨_, rfl, F.out, rfl, G.out⟩

def zf : Value := .agg #[.string ⟨#[]⟩, .slice none 0 0, .int .i64 0]
theorem info64 : (Tryz.prog.info? 99).map (fun i => (i.zero, i.size, i.bytes)) = some (some zf, 3, 48) := by kernel_rfl

theorem alloc_old (w : World) (o : Obj) (k : Nat) (hk : k < w.heap.size) : (w.alloc o).heap[k]? = w.heap[k]? := ((Below.refl w.heap.size w).alloc (Nat.le_refl _) o).block k hk

theorem own_heap {w w' : World} {base : Nat} {e : TypeId} {size : Nat} {v : Value} {n : Nat} {xs : List Value} (h : w.ownsRow base e size v n xs) (hh : w'.heap = w.heap) : w'.ownsRow base e size v n xs := own_frame h fun k _ => by rw [hh]

set_option maxHeartbeats 4000000 in
theorem insert_grow (B g cap i vb : Nat) (l : List Fv) (f : Fv) (w : World) (h : w.ownsRow B 99 3 (.slice (some ⟨g, 0, none⟩) l.length cap) l.length (l.flatMap Fv.cells)) (hi : i < l.length) (hroom : cap < l.length + 1) (hl : l.length ≤ 1000) (hBw : B ≤ w.heap.size)
    (hv : w.heap[vb]? = some (.cells #[.string f.name, f.v, .int .i64 (f.sure : Int)] 99 (0, 0))) (hone : f.v.oneCell' = true) (h1 : ∀ x ∈ l, x.v.oneCell' = true) :
    Calls Tryz.prog 75 #[.slice (some ⟨g, 0, none⟩) l.length cap, .int .i64 (i : Int), .slice (some ⟨vb, 0, none⟩) 1 1] w fun e w' => ∃ v', e = .returned v' ∧ w'.ownsRow B 99 3 v' (l.length + 1) ((l.take i ++ f :: l.drop i).flatMap Fv.cells) ∧ v'.ownBlock = some w.heap.size ∧ w.grownBy w' none := by
  obtain ⟨cur, hcur, hcs, hnc, hcm, hBg, htk⟩ := own_setRow h
  obtain ⟨i0, hi0, hz0, hzs, hzb⟩ := info_parts info64
  have hlen : (l.flatMap Fv.cells).length = l.length * 3 := flat_len l
  have hcell : ∀ j v, (l.flatMap Fv.cells)[j]? = some v → w.cell? ⟨g, j, none⟩ = some v := fun j v hj => own_cell h rfl hj
  have hglt : g < w.heap.size := (Array.getElem?_eq_some_iff.1 hcur).1
  have hvlt : vb < w.heap.size := (Array.getElem?_eq_some_iff.1 hv).1
  have hold : (Builtin.firstCells i0.size i (.slice (some ⟨g, 0, none⟩) i cap)).run Tryz.prog w.drew = .ok ((l.flatMap Fv.cells).take (i * 3)).toArray w.drew := by
    rw [hzs]
    exact run_firstCells_some w.drew 3 i ⟨g, 0, none⟩ i cap ((l.flatMap Fv.cells).take (i * 3)) (by rw [List.length_take, hlen]; omega) (fun j v hj => by
      rw [Addr.add_lit, Nat.zero_add]
      rw [List.getElem?_take] at hj
      split at hj
      · exact hcell j v hj
      · cases hj)
  have hik : i + (l.length + 1 - i) = l.length + 1 := by omega
  have hrz : ∀ ty, (Builtin.append_ #[65, 3] ty #[.slice (some ⟨g, 0, none⟩) i cap, .int .i64 ((l.length : Int) + 1 - (i : Int))]).run Tryz.prog w =
      .ok (.slice (some ⟨w.heap.size, 0, none⟩) (l.length + 1) (grownCap w (l.length + 1) cap 99)) (w.drew.alloc (.cells (((l.flatMap Fv.cells).take (i * 3)).toArray ++ Builtin.zeroCells zf.cells (l.length + 1 - i) ++ Builtin.zeroCells zf.cells (grownCap w (l.length + 1) cap 99 - (l.length + 1))) 99)) := fun ty => by
    have h := Lib.run_append_grow_zeros w 65 3 ty 99 i0 zf .i64 .i64 Tryz.underlying65 Tryz.underlying3 hi0 hz0 (some ⟨g, 0, none⟩) i cap ((l.flatMap Fv.cells).take (i * 3)) hold (l.length + 1 - i) (by omega) (by omega) (by omega) (by omega) (by rw [hzb]; omega) (by rw [hzb, hik]; exact growslice_fits hroom (by omega))
    rw [hik] at h
    rw [show (l.length : Int) + 1 - (i : Int) = ((l.length + 1 - i : Nat) : Int) by omega]
    exact h
  have hGn : l.length + 1 ≤ grownCap w (l.length + 1) cap 99 := grownCap_ge w _ _ _
  have hG63 : grownCap w (l.length + 1) cap 99 ≤ maxLen := grownCap_le_maxLen w _ _ _ (by unfold maxLen; omega)
  generalize grownCap w (l.length + 1) cap 99 = G at *
  generalize hZ : Builtin.zeroCells zf.cells (l.length + 1 - i) ++ Builtin.zeroCells zf.cells (G - (l.length + 1)) = Z
  have hZs : Z.size = (G - i) * 3 := by
    rw [← hZ, Array.size_append, size_zeroCells, size_zeroCells]
    show (l.length + 1 - i) * 3 + (G - (l.length + 1)) * 3 = _
    omega
  generalize hROW : ((l.flatMap Fv.cells).take (i * 3)).toArray ++ Builtin.zeroCells zf.cells (l.length + 1 - i) ++ Builtin.zeroCells zf.cells (G - (l.length + 1)) = ROW at hrz
  have hRL : ROW.toList = (l.flatMap Fv.cells).take (i * 3) ++ Z.toList := by
    rw [← hROW, Array.append_assoc, hZ]
    simp
  have hRs : ROW.size = G * 3 := by
    have e := congrArg List.length hRL
    have e2 := Array.length_toList (xs := Z)
    have e3 := Array.length_toList (xs := ROW)
    rw [List.length_append, List.length_take, hlen] at e
    omega
  have hW1 : (w.drew.alloc (.cells ROW 99)).heap[w.heap.size]? = some (.cells ROW 99 (0, 0)) := heap_alloc_new w.drew _
  have hcpA : ∀ W : World, W.heap = (w.drew.alloc (.cells ROW 99)).heap → ∀ ty dc, (Builtin.copy_ #[65, 65] ty #[.slice (some ⟨w.heap.size, i * 3, none⟩) (l.length + 1 - i) dc, .slice (some ⟨vb, 0, none⟩) 1 1]).run Tryz.prog W = .ok (goInt ((1 : Nat) : Int)) (W.setRow w.heap.size (ROW.toList.take (i * 3) ++ f.cells ++ ROW.toList.drop (i * 3 + f.cells.length)).toArray) := fun W hW ty dc =>
    run_copy_rowk W 65 65 ty 99 w.heap.size (i * 3) (l.length + 1 - i) dc ⟨vb, 0, none⟩ 1 1 3 1 ROW 99 f.cells Tryz.underlying65 size64 (by rw [hW]; exact hW1) (by simp only [Nat.min_def]; split <;> omega) rfl
      (fun j v hj => by
        rw [Addr.add_lit, Nat.zero_add, cell_of_row W vb j _ _ _ (by rw [hW]; exact (alloc_old w.drew _ vb hvlt).trans hv)]
        rw [← hj, ← Array.getElem?_toList]
        rfl) (by simp [Fv.cells]; omega) (by simpa using cells_one (l := [f]) (by simpa using hone))
  generalize hXA : (ROW.toList.take (i * 3) ++ f.cells ++ ROW.toList.drop (i * 3 + f.cells.length)).toArray = XA at hcpA
  have hXAs : XA.size = G * 3 := by rw [← hXA]; simp only [List.size_toArray, List.length_append, List.length_take, List.length_drop, Array.length_toList, hRs, Fv.cells, List.length_cons, List.length_nil]; omega
  have hXAh : ((w.drew.alloc (.cells ROW 99)).setRow w.heap.size XA).heap[w.heap.size]? = some (.cells XA 99 (0, 0)) := setRow_heap _ _ ROW XA 99 _ hW1
  have hdl : ((l.flatMap Fv.cells).drop (i * 3)).length = (l.length - i) * 3 := by rw [List.length_drop, hlen]; omega
  have hcpB : ∀ W : World, W.heap = ((w.drew.alloc (.cells ROW 99)).setRow w.heap.size XA).heap → ∀ ty dc sc, (Builtin.copy_ #[65, 65] ty #[.slice (some ⟨w.heap.size, (i + 1) * 3, none⟩) (l.length - i) dc, .slice (some ⟨g, i * 3, none⟩) (l.length - i) sc]).run Tryz.prog W = .ok (goInt ((l.length - i : Nat) : Int)) (W.setRow w.heap.size (XA.toList.take ((i + 1) * 3) ++ (l.flatMap Fv.cells).drop (i * 3) ++ XA.toList.drop ((i + 1) * 3 + ((l.flatMap Fv.cells).drop (i * 3)).length)).toArray) := fun W hW ty dc sc =>
    run_copy_rowk W 65 65 ty 99 w.heap.size ((i + 1) * 3) (l.length - i) dc ⟨g, i * 3, none⟩ (l.length - i) sc 3 (l.length - i) XA 99 ((l.flatMap Fv.cells).drop (i * 3)) Tryz.underlying65 size64 (by rw [hW]; exact hXAh) (by simp only [Nat.min_def]; split <;> omega) hdl
      (fun j v hj => by
        rw [Addr.add_lit]
        have := hcell (i * 3 + j) v (by rwa [List.getElem?_drop] at hj)
        rw [← this]
        refine World.cell?_of_block ?_
        show W.heap[g]? = w.heap[g]?
        rw [hW]
        exact (setRow_other _ _ g XA (by omega)).trans (alloc_old w.drew _ g hglt)) (by rw [hdl, hXAs]; omega) (fun v hv => cells_one h1 v (List.mem_of_mem_drop hv))
  generalize hXB : (XA.toList.take ((i + 1) * 3) ++ (l.flatMap Fv.cells).drop (i * 3) ++ XA.toList.drop ((i + 1) * 3 + ((l.flatMap Fv.cells).drop (i * 3)).length)).toArray = XB at hcpB
  have F : Aside (((w.drew.alloc (.cells ROW 99)).setRow w.heap.size XA |>.setRow w.heap.size XB).ownsRow B 99 3 (.slice (some ⟨w.heap.size, 0, none⟩) (l.length + 1) G) (l.length + 1) ((l.take i ++ f :: l.drop i).flatMap Fv.cells)) := by
    have hXBs : XB.size = G * 3 := by rw [← hXB]; simp only [List.size_toArray, List.length_append, List.length_take, List.length_drop, Array.length_toList, hXAs, hlen]; omega
    refine ⟨?_, .inr ⟨w.heap.size, G, XB, rfl, hBw, setRow_heap _ _ XA XB 99 _ hXAh, hGn, hG63, hXBs, ?_⟩⟩
    · rw [flat_len, List.length_append, List.length_cons, List.length_take, List.length_drop]; omega
    · rw [← flat_ins, ← hXB, ← hXA, hRL]
      have := ins_grow Z.toList (l.flatMap Fv.cells) f.cells (i * 3) 3 (l.length * 3) hlen rfl (by omega) (by have := Array.length_toList (xs := Z); omega)
      rw [show i * 3 + 3 = (i + 1) * 3 by omega] at this
      rw [show (l.length + 1) * 3 = l.length * 3 + 3 by omega]
      exact this
  have GB : Aside (∀ W : World, W.heap = ((w.drew.alloc (.cells ROW 99)).setRow w.heap.size XA |>.setRow w.heap.size XB).heap → W.os = w.os → W.tape = w.tape → W.output = w.output → w.grownBy W none) := fun W hW a b c =>
    ⟨a, b, c, by rw [hW]; simp, fun k hk _ => by rw [hW]; exact (setRow_other _ _ k XB (by omega)).trans ((setRow_other _ _ k XA (by omega)).trans (alloc_old w.drew _ k hk))⟩
  clear hXB hXA hXAs hXAh hROW hRL hRs hW1 hZ hZs hold hcell htk hcs hcur hdl hlen hv h hone h1
  have hcn : cap = l.length := by omega
  subst hcn
  generalize hn : l.length = n at *
  have hz2 : ¬ ((i : Int) = (n : Int)) := by omega
  have hz3 : (n : Int) < (n : Int) + 1 := by omega
  have hin : i ≤ n := by omega
  have hGi : ¬ (G = i) := by omega
  have hGim : ¬ (G = i + 1) := by omega
  have hci : ¬ (n = i) := by omega
  have hw1 : IntKind.i64.wrap ((i : Int) + 1) = (i : Int) + 1 := by rw [IntKind.wrap_i64]; omega
  have htn : ((i : Int) + 1).toNat = i + 1 := by omega
  have hb1 : (0 : Int) ≤ (i : Int) + 1 := by omega
  have hb3 : (i : Int) ≤ (n : Int) := by omega
  have hG' : G ≤ 9223372036854775807 := by unfold maxLen at hG63; omega
  have hA := hcpA (w.alloc (.cells ROW 99)).drew rfl
  have hB := hcpB (((w.alloc (.cells ROW 99)).drew.setRow w.heap.size XA).drew) rfl
  clear hcpA hcpB
  go_enter Tryz.func75, Tryz.ntmps75
  go_wp2_with (at_builtin; refine Lib.wpList_append_run _ rfl _ _ _ _ rfl _ _ rfl rfl _ _ (hrz _) ?_)
  go_region
  go_wp2
  go_ret
  exact ⟨_, rfl, own_heap F.out rfl, rfl, GB.out _ rfl rfl rfl rfl⟩

set_option maxHeartbeats 4000000 in
theorem insert_end (B vb : Nat) (v : Value) (l : List Fv) (f : Fv) (w : World) (h : w.ownsRow B 99 3 v l.length (l.flatMap Fv.cells)) (hl : l.length ≤ 1000) (hBw : B ≤ w.heap.size)
    (hv : w.heap[vb]? = some (.cells #[.string f.name, f.v, .int .i64 (f.sure : Int)] 99 (0, 0))) (hone : f.v.oneCell' = true) :
    Calls Tryz.prog 75 #[v, .int .i64 (l.length : Int), .slice (some ⟨vb, 0, none⟩) 1 1] w fun e w' => ∃ v', e = .returned v' ∧ w'.ownsRow B 99 3 v' (l.length + 1) (l.flatMap Fv.cells ++ f.cells) ∧ (v'.ownBlock = v.ownBlock ∨ v'.ownBlock = some w.heap.size) ∧ w.grownBy w' v.ownBlock := by
  obtain ⟨i0, hi0, hz0, hzs, hzb⟩ := info_parts info64
  obtain ⟨a, cap, ev⟩ := own_any h
  have hcap : l.length ≤ cap ∧ cap ≤ 9223372036854775807 ∧ (a = none → cap = 0) := by
    rcases h.2 with ⟨e, e'⟩ | ⟨g', cap', cur, e, _, _, h3, h4, _⟩
    · rw [ev] at e
      injection e with e1 e2 e3
      omega
    · rw [ev] at e
      injection e with e1 e2 e3
      subst e3
      refine ⟨h3, by unfold maxLen at h4; omega, fun e => ?_⟩
      rw [e] at e1
      cases e1
  obtain ⟨hc1, hc2, hc3⟩ := hcap
  have hc4 : ∀ ad, a = some ad → ∃ g, ad = ⟨g, 0, none⟩ := by
    intro ad ha
    rcases h.2 with ⟨e, e'⟩ | ⟨g', cap', cur, e, _⟩
    · rw [ev] at e
      injection e with e1 e2 e3
      rw [ha] at e1
      cases e1
    · rw [ev] at e
      injection e with e1 e2 e3
      rw [ha] at e1
      injection e1 with e1
      exact ⟨g', e1⟩
  have hap : ∀ ty, ∃ v' w', (Builtin.append_ #[65, 65] ty #[v, .slice (some ⟨vb, 0, none⟩) 1 1]).run Tryz.prog w = .ok v' w' ∧ w'.ownsRow B 99 3 v' (l.length + 1) (l.flatMap Fv.cells ++ f.cells) ∧ w.grownBy w' v.ownBlock ∧ (v' = .slice none 0 0 ↔ v = .slice none 0 0 ∧ 1 = 0) ∧ (v'.ownBlock = v.ownBlock ∨ v'.ownBlock = some w.heap.size) := fun ty =>
    run_append_own_at w B 65 ty 99 i0 zf 3 48 Tryz.underlying65 hi0 hz0 hzs hzb rfl (by omega) v l.length (l.flatMap Fv.cells) h ⟨vb, 0, none⟩ 1 1 f.cells rfl (fun j u hj => by
      rw [Addr.add_lit, Nat.zero_add, cell_of_row w vb j _ _ _ hv, ← hj, ← Array.getElem?_toList]
      rfl) (by simpa using cells_one (l := [f]) (by simpa using hone)) (by unfold maxLen; omega) (by omega) hBw
  have HAP : Aside _ := hap
  clear hap h hv hi0 hz0 hzs hzb
  subst ev
  generalize l.length = n at *
  obtain ⟨v', w', hrun, r1, r2, r3, r4⟩ := HAP.out 65
  have R : Aside _ := And.intro r1 (And.intro r2 r4)
  clear r1 r2 r3 r4 HAP
  cases a with
  | none =>
    obtain rfl := hc3 rfl
    obtain rfl : n = 0 := by omega
    go_enter Tryz.func75, Tryz.ntmps75
    go_wp2_with (at_builtin; refine Lib.wpList_append_run _ rfl _ _ _ _ rfl _ _ rfl rfl _ _ hrun ?_)
    go_ret
    exact ⟨_, rfl, R.out.1, R.out.2.2, R.out.2.1⟩
  | some ad =>
    obtain ⟨g, rfl⟩ := hc4 ad rfl
    by_cases hce : cap = n
    · subst hce
      go_enter Tryz.func75, Tryz.ntmps75
      go_wp2_with (at_builtin; refine Lib.wpList_append_run _ rfl _ _ _ _ rfl _ _ rfl rfl _ _ hrun ?_)
      go_ret
      exact ⟨_, rfl, R.out.1, R.out.2.2, R.out.2.1⟩
    · go_enter Tryz.func75, Tryz.ntmps75
      go_wp2_with (at_builtin; refine Lib.wpList_append_run _ rfl _ _ _ _ rfl _ _ rfl rfl _ _ hrun ?_)
      go_ret
      exact ⟨_, rfl, R.out.1, R.out.2.2, R.out.2.1⟩

theorem insert_any (B vb i : Nat) (v : Value) (l : List Fv) (f : Fv) (w : World) (h : w.ownsRow B 99 3 v l.length (l.flatMap Fv.cells)) (hi : i ≤ l.length) (hl : l.length ≤ 1000) (hBw : B ≤ w.heap.size)
    (hv : w.heap[vb]? = some (.cells #[.string f.name, f.v, .int .i64 (f.sure : Int)] 99 (0, 0))) (hne : v.ownBlock ≠ some vb) (hone : f.v.oneCell' = true) (h1 : ∀ x ∈ l, x.v.oneCell' = true) :
    Calls Tryz.prog 75 #[v, .int .i64 (i : Int), .slice (some ⟨vb, 0, none⟩) 1 1] w fun e w' => ∃ v', e = .returned v' ∧ w'.ownsRow B 99 3 v' (l.length + 1) ((l.take i ++ f :: l.drop i).flatMap Fv.cells) ∧ (v'.ownBlock = v.ownBlock ∨ v'.ownBlock = some w.heap.size) ∧ w.grownBy w' v.ownBlock := by
  by_cases hlt : i < l.length
  · obtain ⟨g, cap, rfl, h2, h3, _⟩ := own_form h (by omega)
    by_cases hr : l.length + 1 ≤ cap
    · refine (insert_shift B g cap i vb l f w h hlt hr hv (fun e => hne (by rw [e]; rfl)) hone h1).mono ?_
      rintro e w' ⟨v', rfl, a, b, c⟩
      exact ⟨v', rfl, a, .inl b, c⟩
    · refine (insert_grow B g cap i vb l f w h hlt (by omega) hl hBw hv hone h1).mono ?_
      rintro e w' ⟨v', rfl, a, b, c⟩
      exact ⟨v', rfl, a, .inr b, ⟨c.os, c.tape, c.output, c.size, fun k hk _ => c.block k hk (by simp)⟩⟩
  · obtain rfl : i = l.length := by omega
    refine (insert_end B vb v l f w h hl hBw hv hone).mono ?_
    rintro e w' ⟨v', rfl, a, b, c⟩
    refine ⟨v', rfl, ?_, b, c⟩
    rw [List.take_of_length_le (Nat.le_refl _), List.drop_of_length_le (Nat.le_refl _), List.flatMap_append, List.flatMap_cons, List.flatMap_nil, List.append_nil]
    exact a
end Go.Proofs.YtajjcfacbnicnaaGreatDoor.Dk
