/-
  Ytcapgcdflahbkaa: the texts E4, X19, E5, A1, one behind the other.
-/
import Derived.Test.YtcapgcdflahbkaaG14
import Derived.Test.YtcapgcdflahbkaaG12
import Derived.Test.YtcapgcdflahbkaaG11
import Derived.Deep.RegionHeld3
import Derived.Test.YtcapgcdflahbkaaG5
import Derived.Laws.MakeOwn
import Derived.Lib.AppendZeros
import Derived.Test.YtcapgcdflahbkaaG13
/-
  One deed, done to both.
-/
namespace Go.Proofs.Ytcapgcdflahbkaa
open Go.RowKit

/-- A disk of each, alike, in one memory. -/
structure Both (w : World) (B b c : Nat) (d : Ds) (r : Rs) : Prop where
  rep : Rep w B b d
  rrep : RRep w B c r
  ok : Ok d.pl
  rel : ∃ T, Rel d.pl r.pl T
  apart : ∀ k ∈ d.foot b, k ∉ r.foot c

theorem Both.below {w w' : World} {B b c : Nat} {d : Ds} {r : Rs} (h : Both w B b c d r) (hb : Below w.heap.size w w') : Both w' B b c d r := ⟨h.rep.below hb, h.rrep.below hb, h.ok, h.rel, h.apart⟩
theorem Both.rok {w : World} {B b c : Nat} {d : Ds} {r : Rs} (h : Both w B b c d r) (hc : r.count ≤ 1000000) : ROk r.pl := by
  obtain ⟨T, hT⟩ := h.rel
  exact hT.ok h.ok hc
theorem Both.rise {w : World} {B b c : Nat} {d : Ds} {r : Rs} (h : Both w B b c d r) : Rising r.names := by
  obtain ⟨T, hT⟩ := h.rel
  rw [← rnames_pl, hT.nm]
  exact h.ok.rising

/-- The program's disk has gone a step: the document's stays. -/
theorem rrep_kept {w w1 : World} {B b c : Nat} {d d' : Ds} {r : Rs} (hr : RRep w B c r) (ha : ∀ k ∈ d.foot b, k ∉ r.foot c) (hs : Step (d.foot b) (d'.foot b) w w1) : RRep w1 B c r ∧ ∀ k ∈ d'.foot b, k ∉ r.foot c := by
  refine ⟨hr.frame fun k hk => hs.block k (hr.lt k hk).2 (fun hm => ha k hm hk), fun k hk hm => ?_⟩
  rcases hs.sub k hk with e | e
  · exact ha k e hm
  · have := (hr.lt k hm).2
    omega
theorem rep_kept {w w1 : World} {B b c : Nat} {d : Ds} {r r' : Rs} (hr : Rep w B b d) (ha : ∀ k ∈ d.foot b, k ∉ r.foot c) (hs : Step (r.foot c) (r'.foot c) w w1) : Rep w1 B b d ∧ ∀ k ∈ d.foot b, k ∉ r'.foot c := by
  refine ⟨hr.frame fun k hk => hs.block k (hr.lt k hk).2 (fun hm => ha k hk hm), fun k hk hm => ?_⟩
  rcases hs.sub k hm with e | e
  · exact ha k hk e
  · have := (hr.lt k hk).2
    omega
theorem Step.frameL {a c : List Nat} {u w : World} (h : Step a c u w) (e : List Nat) : Step (e ++ a) (e ++ c) u w where
  os := h.os
  tape := h.tape
  output := h.output
  size := h.size
  block := fun k hk hn => h.block k hk (fun hm => hn (List.mem_append_right _ hm))
  sub := fun k hk => by
    rcases List.mem_append.1 hk with hk | hk
    · exact .inl (List.mem_append_left _ hk)
    · rcases h.sub k hk with e | e
      · exact .inl (List.mem_append_right _ e)
      · exact .inr e

/-- What is behind a deed. -/
def Done (w : World) (B b c : Nat) (d : Ds) (r : Rs) (w' : World) : Prop := ∃ d' r', Both w' B b c d' r' ∧ r'.count ≤ r.count + 60 ∧ Step (d.foot b ++ r.foot c) (d'.foot b ++ r'.foot c) w w'

theorem done_of {w w1 w2 : World} {B b c : Nat} {d d' : Ds} {r r' : Rs} (h : Both w B b c d r) (h1 : Rep w1 B b d') (s1 : Step (d.foot b) (d'.foot b) w w1) (h2 : RRep w2 B c r') (s2 : Step (r.foot c) (r'.foot c) w1 w2) (ok : Ok d'.pl) (rel : ∃ T, Rel d'.pl r'.pl T) (hc : r'.count ≤ r.count + 60) : Done w B b c d r w2 := by
  obtain ⟨_, a1⟩ := rrep_kept h.rrep h.apart s1
  obtain ⟨h3, a2⟩ := rep_kept h1 a1 s2
  exact ⟨d', r', ⟨h3, h2, ok, rel, a2⟩, hc, (s1.frame (r.foot c)).trans (s2.frameL (d'.foot b))⟩

theorem Done.from {w w1 w' : World} {B b c : Nat} {d : Ds} {r : Rs} (hb : Below w.heap.size w w1) (h : Done w1 B b c d r w') : Done w B b c d r w' := by
  obtain ⟨d', r', a, b', s⟩ := h
  exact ⟨d', r', a, b', (Step.ofBelow hb).trans s⟩

/-- A deed, as its six cells. -/
structure Dd where
  kind : Int
  name : ByteArray
  s : ByteArray
  n : Int
  m : Int
  by_ : Int
def Dd.cells (x : Dd) : Array Value := #[.int .u8 x.kind, .string x.name, .string x.s, .int .i64 x.n, .int .i64 x.m, .int .i64 x.by_]

theorem dd_cells {w : World} {X : Nat} {x : Dd} (h : w.heap[X]? = some (.cells x.cells 30 (0, 0))) : w.cell? ⟨X, 0, none⟩ = some (.int .u8 x.kind) ∧ w.cell? ⟨X, 1, none⟩ = some (.string x.name) ∧ w.cell? ⟨X, 2, none⟩ = some (.string x.s) ∧ w.cell? ⟨X, 3, none⟩ = some (.int .i64 x.n) ∧ w.cell? ⟨X, 4, none⟩ = some (.int .i64 x.m) ∧ w.cell? ⟨X, 5, none⟩ = some (.int .i64 x.by_) :=
  ⟨by rw [cell_of_row w X 0 _ _ _ h]; rfl, by rw [cell_of_row w X 1 _ _ _ h]; rfl, by rw [cell_of_row w X 2 _ _ _ h]; rfl, by rw [cell_of_row w X 3 _ _ _ h]; rfl, by rw [cell_of_row w X 4 _ _ _ h]; rfl, by rw [cell_of_row w X 5 _ _ _ h]; rfl⟩

/-- The calls' contracts, told of any memory in which the disk lies; the deed's block stays. -/
def KL (B b X : Nat) (d : Ds) (f : Nat) (args : Array Value) (a : Value) (s : St) (c : Array Value) : Prop := ∀ u : World, Rep u B b d → u.heap[X]? = some (.cells c 30 (0, 0)) → X ∉ d.foot b → Calls Try.prog f args u fun e w' => e = .returned a ∧ w'.heap[X]? = some (.cells c 30 (0, 0)) ∧ ∃ d', Rep w' B b d' ∧ d'.pl = s ∧ Step (d.foot b) (d'.foot b) u w'
theorem KL.of {B b X : Nat} {d : Ds} {f : Nat} {args : Array Value} {a : Value} {s : St} {c : Array Value} (h : ∀ u : World, Rep u B b d → Calls Try.prog f args u fun e w' => e = .returned a ∧ ∃ d', Rep w' B b d' ∧ d'.pl = s ∧ Step (d.foot b) (d'.foot b) u w') : KL B b X d f args a s c := fun u hu hX hn => (h u hu).mono fun _ _ ⟨he, d', h1, h2, h3⟩ =>
  ⟨he, (h3.block X (Array.getElem?_eq_some_iff.1 hX).1 hn).trans hX, d', h1, h2, h3⟩
def KR (B b X : Nat) (d : Rs) (f : Nat) (args : Array Value) (a : Value) (s : RS) (c : Array Value) : Prop := ∀ u : World, RRep u B b d → u.heap[X]? = some (.cells c 30 (0, 0)) → X ∉ d.foot b → Calls Try.prog f args u fun e w' => e = .returned a ∧ w'.heap[X]? = some (.cells c 30 (0, 0)) ∧ ∃ d', RRep w' B b d' ∧ d'.pl = s ∧ Step (d.foot b) (d'.foot b) u w'
theorem KR.of {B b X : Nat} {d : Rs} {f : Nat} {args : Array Value} {a : Value} {s : RS} {c : Array Value} (h : ∀ u : World, RRep u B b d → Calls Try.prog f args u fun e w' => e = .returned a ∧ ∃ d', RRep w' B b d' ∧ d'.pl = s ∧ Step (d.foot b) (d'.foot b) u w') : KR B b X d f args a s c := fun u hu hX hn => (h u hu).mono fun _ _ ⟨he, d', h1, h2, h3⟩ =>
  ⟨he, (h3.block X (Array.getElem?_eq_some_iff.1 hX).1 hn).trans hX, d', h1, h2, h3⟩

theorem count_pl (r : Rs) : r.pl.count = r.count := rfl

/-- What both calls of a deed need, and give. -/
structure Pair (w : World) (B b c : Nat) (d : Ds) (r : Rs) (x : Dd) (f g : Nat) (af ag : Array Value) (a : Value) (s : St) (q : RS) : Prop where
  both : Both (w.alloc (.cells x.cells 30)) B b c d r
  kl : KL B b w.heap.size d f af a s x.cells
  kr : KR B c w.heap.size r g ag a q x.cells
  ok : Ok s
  rel : ∃ T, Rel s q T
  cnt : q.count ≤ r.count + 60
  nl : w.heap.size ∉ d.foot b
  nr : w.heap.size ∉ r.foot c

theorem Pair.done {w w1 w2 : World} {B b c : Nat} {d d' : Ds} {r r' : Rs} {x : Dd} {f g : Nat} {af ag : Array Value} {a : Value} {s : St} {q : RS} (p : Pair w B b c d r x f g af ag a s q) (h1 : Rep w1 B b d') (e1 : d'.pl = s) (s1 : Step (d.foot b) (d'.foot b) (w.alloc (.cells x.cells 30)) w1) (h2 : RRep w2 B c r') (e2 : r'.pl = q) (s2 : Step (r.foot c) (r'.foot c) w1 w2) : Done w B b c d r w2 :=
  Done.from ((Below.refl _ _).alloc (Nat.le_refl _) _) (done_of p.both h1 s1 h2 s2 (e1 ▸ p.ok) (e1 ▸ e2 ▸ p.rel) (by rw [← count_pl, e2]; exact p.cnt))

theorem pair_of {w : World} {B b c : Nat} {d : Ds} {r : Rs} (h : Both w B b c d r) (x : Dd) {f g : Nat} {af ag : Array Value} {a : Value} {s : St} {q : RS}
    (hl : ∀ u : World, Rep u B b d → Calls Try.prog f af u fun e w' => e = .returned a ∧ ∃ d', Rep w' B b d' ∧ d'.pl = s ∧ Step (d.foot b) (d'.foot b) u w')
    (hr : ∀ u : World, RRep u B c r → Calls Try.prog g ag u fun e w' => e = .returned a ∧ ∃ d', RRep w' B c d' ∧ d'.pl = q ∧ Step (r.foot c) (d'.foot c) u w')
    (ok : Ok s) (rel : ∃ T, Rel s q T) (cnt : q.count ≤ r.count + 60) : Pair w B b c d r x f g af ag a s q :=
  ⟨h.below ((Below.refl _ _).alloc (Nat.le_refl _) _), KL.of hl, KR.of hr, ok, rel, cnt, fun hm => by have := (h.rep.lt _ hm).2; omega, fun hm => by have := (h.rrep.lt _ hm).2; omega⟩

theorem pair_append {w : World} {B b c : Nat} {d : Ds} {r : Rs} (h : Both w B b c d r) (x : Dd) (hc : r.count ≤ 100000) (hn : x.name.size ≤ 60) (hs : x.s.size ≤ 60) (_hN : x.n ≤ 9223372036854775807) :
    Pair w B b c d r x 21 30 #[.pointer (some ⟨b, 0, none⟩), .string x.name, .string x.s] #[.pointer (some ⟨c, 0, none⟩), .string x.name, .string x.s] (.int .i64 (opAppend d.pl x.name x.s).1) (opAppend d.pl x.name x.s).2 (rAppend r.pl x.name x.s).2 := by
  obtain ⟨T, hT⟩ := h.rel
  obtain ⟨e, T', h1, h2⟩ := hT.append h.ok x.name x.s
  refine pair_of h x (fun u hu => append_any hu h.ok _ _) (fun u hu => ?_) (h.ok.opAppend _ _) ⟨T', h1⟩ (by rw [count_pl] at h2; omega)
  have := rappend_any hu (h.rok (by omega)) h.rise x.name x.s (by omega) (by omega) (by omega)
  rw [e] at this
  exact this

theorem pair_sync {w : World} {B b c : Nat} {d : Ds} {r : Rs} (h : Both w B b c d r) (x : Dd) (hc : r.count ≤ 100000) (_hn : x.name.size ≤ 60) (_hs : x.s.size ≤ 60) (_hN : x.n ≤ 9223372036854775807) :
    Pair w B b c d r x 22 31 #[.pointer (some ⟨b, 0, none⟩), .string x.name] #[.pointer (some ⟨c, 0, none⟩), .string x.name] (.int .i64 (opSync d.pl x.name).1) (opSync d.pl x.name).2 (rSync r.pl x.name).2 := by
  obtain ⟨T, hT⟩ := h.rel
  obtain ⟨e, T', h1, h2⟩ := hT.sync h.ok x.name
  refine pair_of h x (fun u hu => sync_any hu h.ok _) (fun u hu => ?_) (h.ok.opSync _) ⟨T', h1⟩ (by rw [h2, count_pl]; omega)
  have := rsync_any hu (h.rok (by omega)) x.name
  rw [e] at this
  exact this

theorem pair_cut {w : World} {B b c : Nat} {d : Ds} {r : Rs} (h : Both w B b c d r) (x : Dd) (hc : r.count ≤ 100000) (_hn : x.name.size ≤ 60) (_hs : x.s.size ≤ 60) (_hN : x.n ≤ 9223372036854775807) :
    Pair w B b c d r x 23 32 #[.pointer (some ⟨b, 0, none⟩), .string x.name, .int .i64 x.n] #[.pointer (some ⟨c, 0, none⟩), .string x.name, .int .i64 x.n] (.int .i64 (opCut d.pl x.name x.n).1) (opCut d.pl x.name x.n).2 (rCut r.pl x.name x.n).2 := by
  obtain ⟨T, hT⟩ := h.rel
  obtain ⟨e, T', h1, h2⟩ := hT.cut h.ok x.name x.n
  refine pair_of h x (fun u hu => cut_any hu h.ok _ _) (fun u hu => ?_) (h.ok.opCut _ _) ⟨T', h1⟩ (by rw [h2, count_pl]; omega)
  have := rcut_any hu (h.rok (by omega)) x.name x.n
  rw [e] at this
  exact this

theorem pair_rename {w : World} {B b c : Nat} {d : Ds} {r : Rs} (h : Both w B b c d r) (x : Dd) (hc : r.count ≤ 100000) (_hn : x.name.size ≤ 60) (hs : x.s.size ≤ 60) (_hN : x.n ≤ 9223372036854775807) :
    Pair w B b c d r x 24 33 #[.pointer (some ⟨b, 0, none⟩), .string x.name, .string x.s] #[.pointer (some ⟨c, 0, none⟩), .string x.name, .string x.s] (.int .i64 (opRename d.pl x.name x.s).1) (opRename d.pl x.name x.s).2 (rRename r.pl x.name x.s).2 := by
  obtain ⟨T, hT⟩ := h.rel
  obtain ⟨e, T', h1, h2⟩ := hT.rename h.ok x.name x.s
  refine pair_of h x (fun u hu => rename_any hu h.ok _ _) (fun u hu => ?_) (h.ok.opRename _ _) ⟨T', h1⟩ (by rw [h2, count_pl]; omega)
  have := rrename_any hu (h.rok (by omega)) h.rise x.name x.s (by omega)
  rw [e] at this
  exact this

theorem pair_remove {w : World} {B b c : Nat} {d : Ds} {r : Rs} (h : Both w B b c d r) (x : Dd) (hc : r.count ≤ 100000) (_hn : x.name.size ≤ 60) (_hs : x.s.size ≤ 60) (_hN : x.n ≤ 9223372036854775807) :
    Pair w B b c d r x 25 34 #[.pointer (some ⟨b, 0, none⟩), .string x.name] #[.pointer (some ⟨c, 0, none⟩), .string x.name] (.int .i64 (opRemove d.pl x.name).1) (opRemove d.pl x.name).2 (rRemove r.pl x.name).2 := by
  obtain ⟨T, hT⟩ := h.rel
  obtain ⟨e, T', h1, h2⟩ := hT.remove h.ok x.name
  refine pair_of h x (fun u hu => remove_any hu h.ok _) (fun u hu => ?_) (h.ok.opRemove _) ⟨T', h1⟩ (by rw [h2, count_pl]; omega)
  have := rremove_any hu (h.rok (by omega)) x.name
  rw [e] at this
  exact this

theorem pair_rot {w : World} {B b c : Nat} {d : Ds} {r : Rs} (h : Both w B b c d r) (x : Dd) (hc : r.count ≤ 100000) (_hn : x.name.size ≤ 60) (_hs : x.s.size ≤ 60) (_hN : x.n ≤ 9223372036854775807) :
    Pair w B b c d r x 28 36 #[.pointer (some ⟨b, 0, none⟩), .int .i64 x.n, .int .i64 x.m, .int .i64 x.by_] #[.pointer (some ⟨c, 0, none⟩), .int .i64 x.n, .int .i64 x.m, .int .i64 x.by_] (.bool (opRot d.pl x.n x.m x.by_).1) (opRot d.pl x.n x.m x.by_).2 (rRot r.pl x.n x.m x.by_).2 := by
  obtain ⟨T, hT⟩ := h.rel
  obtain ⟨e, h1, h2⟩ := hT.rot h.ok x.n x.m x.by_
  refine pair_of h x (fun u hu => rot_any hu h.ok _ _ _) (fun u hu => ?_) (h.ok.opRot _ _ _) ⟨T, h1⟩ (by rw [h2, count_pl]; omega)
  have := rrot_any hu (h.rok (by omega)) h.rise x.n x.m x.by_
  rw [e] at this
  exact this

theorem pair_crash {w : World} {B b c : Nat} {d : Ds} {r : Rs} (h : Both w B b c d r) (x : Dd) (hc : r.count ≤ 100000) (_hn : x.name.size ≤ 60) (_hs : x.s.size ≤ 60) (hN : x.n ≤ 9223372036854775807) :
    Pair w B b c d r x 16 35 #[.pointer (some ⟨b, 0, none⟩), .int .i64 x.n] #[.pointer (some ⟨c, 0, none⟩), .int .i64 x.n] (.tuple #[]) (opCrash d.pl x.n) (rCrash r.pl x.n) := by
  obtain ⟨T, hT⟩ := h.rel
  have h1 := hT.crash h.ok x.n
  refine pair_of h x (fun u hu => crash_any hu h.ok _ hN) (fun u hu => ?_) (h.ok.opCrash _) ⟨[], h1⟩ (Nat.le_add_right _ _)
  exact rcrash_any hu (h.rok (by omega)) x.n

theorem pair_room {w : World} {B b c : Nat} {d : Ds} {r : Rs} (h : Both w B b c d r) (x : Dd) (_hc : r.count ≤ 100000) (_hn : x.name.size ≤ 60) (_hs : x.s.size ≤ 60) (_hN : x.n ≤ 9223372036854775807) :
    Pair w B b c d r x 19 29 #[.pointer (some ⟨b, 0, none⟩), .int .i64 x.n] #[.pointer (some ⟨c, 0, none⟩), .int .i64 x.n] (.tuple #[]) (opRoom d.pl x.n) (rRoom r.pl x.n) := by
  obtain ⟨T, hT⟩ := h.rel
  have h1 := hT.room x.n
  refine pair_of h x (fun u hu => room_any hu _) (fun u hu => ?_) (h.ok.opRoom _) ⟨T, h1⟩ (Nat.le_add_right _ _)
  exact rroom_any hu x.n

theorem pair_fuse {w : World} {B b c : Nat} {d : Ds} {r : Rs} (h : Both w B b c d r) (x : Dd) (_hc : r.count ≤ 100000) (_hn : x.name.size ≤ 60) (_hs : x.s.size ≤ 60) (hN : x.n ≤ 9223372036854775807) :
    Pair w B b c d r x 20 37 #[.pointer (some ⟨b, 0, none⟩), .int .i64 x.n] #[.pointer (some ⟨c, 0, none⟩), .int .i64 x.n] (.tuple #[]) (opFuse d.pl x.n) (rFuse r.pl x.n) := by
  obtain ⟨T, hT⟩ := h.rel
  have h1 := hT.fuse x.n
  refine pair_of h x (fun u hu => fuse_any hu _) (fun u hu => ?_) (h.ok.opFuse hN) ⟨T, h1⟩ (by unfold rFuse; split <;> exact Nat.le_add_right _ _)
  exact rfuse_any hu x.n

set_option maxHeartbeats 1000000 in
theorem do_append0 {w : World} {B b c : Nat} {d : Ds} {r : Rs} (h : Both w B b c d r) (x : Dd) (hk : x.kind % 10 = 0) (hk0 : 0 ≤ x.kind) (hk1 : x.kind ≤ 255) (hc : r.count ≤ 100000) (hn : x.name.size ≤ 60) (hs : x.s.size ≤ 60) (hN : x.n ≤ 9223372036854775807) :
    Calls Try.prog 10 #[.pointer (some ⟨b, 0, none⟩), .pointer (some ⟨c, 0, none⟩), .agg x.cells] w fun e w' => e = .returned (.bool true) ∧ Done w B b c d r w' := by
  have P := pair_append h x hc hn hs hN
  have qA : ((opAppend d.pl x.name x.s).1 == (opAppend d.pl x.name x.s).1) = true := beq_self_eq_true _
  generalize (opAppend d.pl x.name x.s).1 = A at *
  have P' : Aside _ := P
  clear h hc P
  unfold Dd.cells
  go_enter Try.func10, Try.ntmps10
  go_wp2
  go_region_held3 (fun u => u.cell? ⟨w.heap.size, 1, none⟩ = some (.string x.name) ∧ u.cell? ⟨w.heap.size, 2, none⟩ = some (.string x.s)) (go_keep) ((first
    | (go_at_call 21; refine (P'.out.kl (w.alloc (.cells x.cells 30)).drew (P'.out.both.rep.frame fun _ _ => rfl) (heap_alloc_new w _) P'.out.nl).mono ?_; rintro e w1 ⟨rfl, hX1, d', h1, e1, s1⟩; obtain ⟨_, z1, z2, z3, z4, z5⟩ := dd_cells hX1)
    | (go_at_call 30; refine (P'.out.kr _ (rrep_kept P'.out.both.rrep P'.out.both.apart s1.undrew).1 hX1 P'.out.nr).mono ?_; rintro e w2 ⟨rfl, hX2, r', h2, e2, s2⟩; obtain ⟨_, y1, y2, y3, y4, y5⟩ := dd_cells hX2)))
  go_wp2
  go_ret
  exact ⟨rfl, P'.out.done h1 e1 s1.undrew h2 e2 s2⟩

set_option maxHeartbeats 1000000 in
theorem do_append1 {w : World} {B b c : Nat} {d : Ds} {r : Rs} (h : Both w B b c d r) (x : Dd) (hk : x.kind % 10 = 1) (hk0 : 0 ≤ x.kind) (hk1 : x.kind ≤ 255) (hc : r.count ≤ 100000) (hn : x.name.size ≤ 60) (hs : x.s.size ≤ 60) (hN : x.n ≤ 9223372036854775807) :
    Calls Try.prog 10 #[.pointer (some ⟨b, 0, none⟩), .pointer (some ⟨c, 0, none⟩), .agg x.cells] w fun e w' => e = .returned (.bool true) ∧ Done w B b c d r w' := by
  have P := pair_append h x hc hn hs hN
  have qA : ((opAppend d.pl x.name x.s).1 == (opAppend d.pl x.name x.s).1) = true := beq_self_eq_true _
  generalize (opAppend d.pl x.name x.s).1 = A at *
  have P' : Aside _ := P
  clear h hc P
  unfold Dd.cells
  go_enter Try.func10, Try.ntmps10
  go_wp2
  go_region_held3 (fun u => u.cell? ⟨w.heap.size, 1, none⟩ = some (.string x.name) ∧ u.cell? ⟨w.heap.size, 2, none⟩ = some (.string x.s)) (go_keep) ((first
    | (go_at_call 21; refine (P'.out.kl (w.alloc (.cells x.cells 30)).drew (P'.out.both.rep.frame fun _ _ => rfl) (heap_alloc_new w _) P'.out.nl).mono ?_; rintro e w1 ⟨rfl, hX1, d', h1, e1, s1⟩; obtain ⟨_, z1, z2, z3, z4, z5⟩ := dd_cells hX1)
    | (go_at_call 30; refine (P'.out.kr _ (rrep_kept P'.out.both.rrep P'.out.both.apart s1.undrew).1 hX1 P'.out.nr).mono ?_; rintro e w2 ⟨rfl, hX2, r', h2, e2, s2⟩; obtain ⟨_, y1, y2, y3, y4, y5⟩ := dd_cells hX2)))
  go_wp2
  go_ret
  exact ⟨rfl, P'.out.done h1 e1 s1.undrew h2 e2 s2⟩

set_option maxHeartbeats 1000000 in
theorem do_sync {w : World} {B b c : Nat} {d : Ds} {r : Rs} (h : Both w B b c d r) (x : Dd) (hk : x.kind % 10 = 2) (hk0 : 0 ≤ x.kind) (hk1 : x.kind ≤ 255) (hc : r.count ≤ 100000) (hn : x.name.size ≤ 60) (hs : x.s.size ≤ 60) (hN : x.n ≤ 9223372036854775807) :
    Calls Try.prog 10 #[.pointer (some ⟨b, 0, none⟩), .pointer (some ⟨c, 0, none⟩), .agg x.cells] w fun e w' => e = .returned (.bool true) ∧ Done w B b c d r w' := by
  have P := pair_sync h x hc hn hs hN
  have qA : ((opSync d.pl x.name).1 == (opSync d.pl x.name).1) = true := beq_self_eq_true _
  generalize (opSync d.pl x.name).1 = A at *
  have P' : Aside _ := P
  clear h hc P
  unfold Dd.cells
  go_enter Try.func10, Try.ntmps10
  go_wp2
  go_region_held3 (fun u => u.cell? ⟨w.heap.size, 1, none⟩ = some (.string x.name)) (go_keep) ((first
    | (go_at_call 22; refine (P'.out.kl (w.alloc (.cells x.cells 30)).drew (P'.out.both.rep.frame fun _ _ => rfl) (heap_alloc_new w _) P'.out.nl).mono ?_; rintro e w1 ⟨rfl, hX1, d', h1, e1, s1⟩; obtain ⟨_, z1, z2, z3, z4, z5⟩ := dd_cells hX1)
    | (go_at_call 31; refine (P'.out.kr _ (rrep_kept P'.out.both.rrep P'.out.both.apart s1.undrew).1 hX1 P'.out.nr).mono ?_; rintro e w2 ⟨rfl, hX2, r', h2, e2, s2⟩; obtain ⟨_, y1, y2, y3, y4, y5⟩ := dd_cells hX2)))
  go_wp2
  go_ret
  exact ⟨rfl, P'.out.done h1 e1 s1.undrew h2 e2 s2⟩

set_option maxHeartbeats 1000000 in
theorem do_cut {w : World} {B b c : Nat} {d : Ds} {r : Rs} (h : Both w B b c d r) (x : Dd) (hk : x.kind % 10 = 3) (hk0 : 0 ≤ x.kind) (hk1 : x.kind ≤ 255) (hc : r.count ≤ 100000) (hn : x.name.size ≤ 60) (hs : x.s.size ≤ 60) (hN : x.n ≤ 9223372036854775807) :
    Calls Try.prog 10 #[.pointer (some ⟨b, 0, none⟩), .pointer (some ⟨c, 0, none⟩), .agg x.cells] w fun e w' => e = .returned (.bool true) ∧ Done w B b c d r w' := by
  have P := pair_cut h x hc hn hs hN
  have qA : ((opCut d.pl x.name x.n).1 == (opCut d.pl x.name x.n).1) = true := beq_self_eq_true _
  generalize (opCut d.pl x.name x.n).1 = A at *
  have P' : Aside _ := P
  clear h hc P
  unfold Dd.cells
  go_enter Try.func10, Try.ntmps10
  go_wp2
  go_region_held3 (fun u => u.cell? ⟨w.heap.size, 1, none⟩ = some (.string x.name) ∧ u.cell? ⟨w.heap.size, 3, none⟩ = some (.int .i64 x.n)) (go_keep) ((first
    | (go_at_call 23; refine (P'.out.kl (w.alloc (.cells x.cells 30)).drew (P'.out.both.rep.frame fun _ _ => rfl) (heap_alloc_new w _) P'.out.nl).mono ?_; rintro e w1 ⟨rfl, hX1, d', h1, e1, s1⟩; obtain ⟨_, z1, z2, z3, z4, z5⟩ := dd_cells hX1)
    | (go_at_call 32; refine (P'.out.kr _ (rrep_kept P'.out.both.rrep P'.out.both.apart s1.undrew).1 hX1 P'.out.nr).mono ?_; rintro e w2 ⟨rfl, hX2, r', h2, e2, s2⟩; obtain ⟨_, y1, y2, y3, y4, y5⟩ := dd_cells hX2)))
  go_wp2
  go_ret
  exact ⟨rfl, P'.out.done h1 e1 s1.undrew h2 e2 s2⟩

set_option maxHeartbeats 1000000 in
theorem do_rename {w : World} {B b c : Nat} {d : Ds} {r : Rs} (h : Both w B b c d r) (x : Dd) (hk : x.kind % 10 = 4) (hk0 : 0 ≤ x.kind) (hk1 : x.kind ≤ 255) (hc : r.count ≤ 100000) (hn : x.name.size ≤ 60) (hs : x.s.size ≤ 60) (hN : x.n ≤ 9223372036854775807) :
    Calls Try.prog 10 #[.pointer (some ⟨b, 0, none⟩), .pointer (some ⟨c, 0, none⟩), .agg x.cells] w fun e w' => e = .returned (.bool true) ∧ Done w B b c d r w' := by
  have P := pair_rename h x hc hn hs hN
  have qA : ((opRename d.pl x.name x.s).1 == (opRename d.pl x.name x.s).1) = true := beq_self_eq_true _
  generalize (opRename d.pl x.name x.s).1 = A at *
  have P' : Aside _ := P
  clear h hc P
  unfold Dd.cells
  go_enter Try.func10, Try.ntmps10
  go_wp2
  go_region_held3 (fun u => u.cell? ⟨w.heap.size, 1, none⟩ = some (.string x.name) ∧ u.cell? ⟨w.heap.size, 2, none⟩ = some (.string x.s)) (go_keep) ((first
    | (go_at_call 24; refine (P'.out.kl (w.alloc (.cells x.cells 30)).drew (P'.out.both.rep.frame fun _ _ => rfl) (heap_alloc_new w _) P'.out.nl).mono ?_; rintro e w1 ⟨rfl, hX1, d', h1, e1, s1⟩; obtain ⟨_, z1, z2, z3, z4, z5⟩ := dd_cells hX1)
    | (go_at_call 33; refine (P'.out.kr _ (rrep_kept P'.out.both.rrep P'.out.both.apart s1.undrew).1 hX1 P'.out.nr).mono ?_; rintro e w2 ⟨rfl, hX2, r', h2, e2, s2⟩; obtain ⟨_, y1, y2, y3, y4, y5⟩ := dd_cells hX2)))
  go_wp2
  go_ret
  exact ⟨rfl, P'.out.done h1 e1 s1.undrew h2 e2 s2⟩

set_option maxHeartbeats 1000000 in
theorem do_remove {w : World} {B b c : Nat} {d : Ds} {r : Rs} (h : Both w B b c d r) (x : Dd) (hk : x.kind % 10 = 5) (hk0 : 0 ≤ x.kind) (hk1 : x.kind ≤ 255) (hc : r.count ≤ 100000) (hn : x.name.size ≤ 60) (hs : x.s.size ≤ 60) (hN : x.n ≤ 9223372036854775807) :
    Calls Try.prog 10 #[.pointer (some ⟨b, 0, none⟩), .pointer (some ⟨c, 0, none⟩), .agg x.cells] w fun e w' => e = .returned (.bool true) ∧ Done w B b c d r w' := by
  have P := pair_remove h x hc hn hs hN
  have qA : ((opRemove d.pl x.name).1 == (opRemove d.pl x.name).1) = true := beq_self_eq_true _
  generalize (opRemove d.pl x.name).1 = A at *
  have P' : Aside _ := P
  clear h hc P
  unfold Dd.cells
  go_enter Try.func10, Try.ntmps10
  go_wp2
  go_region_held3 (fun u => u.cell? ⟨w.heap.size, 1, none⟩ = some (.string x.name)) (go_keep) ((first
    | (go_at_call 25; refine (P'.out.kl (w.alloc (.cells x.cells 30)).drew (P'.out.both.rep.frame fun _ _ => rfl) (heap_alloc_new w _) P'.out.nl).mono ?_; rintro e w1 ⟨rfl, hX1, d', h1, e1, s1⟩; obtain ⟨_, z1, z2, z3, z4, z5⟩ := dd_cells hX1)
    | (go_at_call 34; refine (P'.out.kr _ (rrep_kept P'.out.both.rrep P'.out.both.apart s1.undrew).1 hX1 P'.out.nr).mono ?_; rintro e w2 ⟨rfl, hX2, r', h2, e2, s2⟩; obtain ⟨_, y1, y2, y3, y4, y5⟩ := dd_cells hX2)))
  go_wp2
  go_ret
  exact ⟨rfl, P'.out.done h1 e1 s1.undrew h2 e2 s2⟩

set_option maxHeartbeats 1000000 in
theorem do_rot {w : World} {B b c : Nat} {d : Ds} {r : Rs} (h : Both w B b c d r) (x : Dd) (hk : x.kind % 10 = 8) (hk0 : 0 ≤ x.kind) (hk1 : x.kind ≤ 255) (hc : r.count ≤ 100000) (hn : x.name.size ≤ 60) (hs : x.s.size ≤ 60) (hN : x.n ≤ 9223372036854775807) :
    Calls Try.prog 10 #[.pointer (some ⟨b, 0, none⟩), .pointer (some ⟨c, 0, none⟩), .agg x.cells] w fun e w' => e = .returned (.bool true) ∧ Done w B b c d r w' := by
  have P := pair_rot h x hc hn hs hN
  have qA : ((opRot d.pl x.n x.m x.by_).1 == (opRot d.pl x.n x.m x.by_).1) = true := beq_self_eq_true _
  generalize (opRot d.pl x.n x.m x.by_).1 = A at *
  have P' : Aside _ := P
  clear h hc P
  unfold Dd.cells
  go_enter Try.func10, Try.ntmps10
  go_wp2
  go_region_held3 (fun u => u.cell? ⟨w.heap.size, 3, none⟩ = some (.int .i64 x.n) ∧ u.cell? ⟨w.heap.size, 4, none⟩ = some (.int .i64 x.m) ∧ u.cell? ⟨w.heap.size, 5, none⟩ = some (.int .i64 x.by_)) (go_keep) ((first
    | (go_at_call 28; refine (P'.out.kl (w.alloc (.cells x.cells 30)).drew (P'.out.both.rep.frame fun _ _ => rfl) (heap_alloc_new w _) P'.out.nl).mono ?_; rintro e w1 ⟨rfl, hX1, d', h1, e1, s1⟩; obtain ⟨_, z1, z2, z3, z4, z5⟩ := dd_cells hX1)
    | (go_at_call 36; refine (P'.out.kr _ (rrep_kept P'.out.both.rrep P'.out.both.apart s1.undrew).1 hX1 P'.out.nr).mono ?_; rintro e w2 ⟨rfl, hX2, r', h2, e2, s2⟩; obtain ⟨_, y1, y2, y3, y4, y5⟩ := dd_cells hX2)))
  go_wp2
  go_ret
  exact ⟨rfl, P'.out.done h1 e1 s1.undrew h2 e2 s2⟩

set_option maxHeartbeats 1000000 in
theorem do_crash {w : World} {B b c : Nat} {d : Ds} {r : Rs} (h : Both w B b c d r) (x : Dd) (hk : x.kind % 10 = 6) (hk0 : 0 ≤ x.kind) (hk1 : x.kind ≤ 255) (hc : r.count ≤ 100000) (hn : x.name.size ≤ 60) (hs : x.s.size ≤ 60) (hN : x.n ≤ 9223372036854775807) :
    Calls Try.prog 10 #[.pointer (some ⟨b, 0, none⟩), .pointer (some ⟨c, 0, none⟩), .agg x.cells] w fun e w' => e = .returned (.bool true) ∧ Done w B b c d r w' := by
  have P := pair_crash h x hc hn hs hN
  have P' : Aside _ := P
  clear h hc P
  unfold Dd.cells
  go_enter Try.func10, Try.ntmps10
  go_wp2_with (first
    | (go_at_call 16; refine (P'.out.kl (w.alloc (.cells x.cells 30)) P'.out.both.rep (heap_alloc_new w _) P'.out.nl).mono ?_; rintro e w1 ⟨rfl, hX1, d', h1, e1, s1⟩; obtain ⟨_, z1, z2, z3, z4, z5⟩ := dd_cells hX1)
    | (go_at_call 35; refine (P'.out.kr _ (rrep_kept P'.out.both.rrep P'.out.both.apart s1).1 hX1 P'.out.nr).mono ?_; rintro e w2 ⟨rfl, hX2, r', h2, e2, s2⟩; obtain ⟨_, y1, y2, y3, y4, y5⟩ := dd_cells hX2))
  go_ret
  exact ⟨rfl, P'.out.done h1 e1 s1 h2 e2 s2⟩

set_option maxHeartbeats 1000000 in
theorem do_room {w : World} {B b c : Nat} {d : Ds} {r : Rs} (h : Both w B b c d r) (x : Dd) (hk : x.kind % 10 = 7) (hk0 : 0 ≤ x.kind) (hk1 : x.kind ≤ 255) (hc : r.count ≤ 100000) (hn : x.name.size ≤ 60) (hs : x.s.size ≤ 60) (hN : x.n ≤ 9223372036854775807) :
    Calls Try.prog 10 #[.pointer (some ⟨b, 0, none⟩), .pointer (some ⟨c, 0, none⟩), .agg x.cells] w fun e w' => e = .returned (.bool true) ∧ Done w B b c d r w' := by
  have P := pair_room h x hc hn hs hN
  have P' : Aside _ := P
  clear h hc P
  unfold Dd.cells
  go_enter Try.func10, Try.ntmps10
  go_wp2_with (first
    | (go_at_call 19; refine (P'.out.kl (w.alloc (.cells x.cells 30)) P'.out.both.rep (heap_alloc_new w _) P'.out.nl).mono ?_; rintro e w1 ⟨rfl, hX1, d', h1, e1, s1⟩; obtain ⟨_, z1, z2, z3, z4, z5⟩ := dd_cells hX1)
    | (go_at_call 29; refine (P'.out.kr _ (rrep_kept P'.out.both.rrep P'.out.both.apart s1).1 hX1 P'.out.nr).mono ?_; rintro e w2 ⟨rfl, hX2, r', h2, e2, s2⟩; obtain ⟨_, y1, y2, y3, y4, y5⟩ := dd_cells hX2))
  go_ret
  exact ⟨rfl, P'.out.done h1 e1 s1 h2 e2 s2⟩

set_option maxHeartbeats 1000000 in
theorem do_fuse {w : World} {B b c : Nat} {d : Ds} {r : Rs} (h : Both w B b c d r) (x : Dd) (hk : x.kind % 10 = 9) (hk0 : 0 ≤ x.kind) (hk1 : x.kind ≤ 255) (hc : r.count ≤ 100000) (hn : x.name.size ≤ 60) (hs : x.s.size ≤ 60) (hN : x.n ≤ 9223372036854775807) :
    Calls Try.prog 10 #[.pointer (some ⟨b, 0, none⟩), .pointer (some ⟨c, 0, none⟩), .agg x.cells] w fun e w' => e = .returned (.bool true) ∧ Done w B b c d r w' := by
  have P := pair_fuse h x hc hn hs hN
  have P' : Aside _ := P
  clear h hc P
  unfold Dd.cells
  go_enter Try.func10, Try.ntmps10
  go_wp2_with (first
    | (go_at_call 20; refine (P'.out.kl (w.alloc (.cells x.cells 30)) P'.out.both.rep (heap_alloc_new w _) P'.out.nl).mono ?_; rintro e w1 ⟨rfl, hX1, d', h1, e1, s1⟩; obtain ⟨_, z1, z2, z3, z4, z5⟩ := dd_cells hX1)
    | (go_at_call 37; refine (P'.out.kr _ (rrep_kept P'.out.both.rrep P'.out.both.apart s1).1 hX1 P'.out.nr).mono ?_; rintro e w2 ⟨rfl, hX2, r', h2, e2, s2⟩; obtain ⟨_, y1, y2, y3, y4, y5⟩ := dd_cells hX2))
  go_ret
  exact ⟨rfl, P'.out.done h1 e1 s1 h2 e2 s2⟩

theorem do_any {w : World} {B b c : Nat} {d : Ds} {r : Rs} (h : Both w B b c d r) (x : Dd) (hk0 : 0 ≤ x.kind) (hk1 : x.kind ≤ 255) (hc : r.count ≤ 100000) (hn : x.name.size ≤ 60) (hs : x.s.size ≤ 60) (hN : x.n ≤ 9223372036854775807) :
    Calls Try.prog 10 #[.pointer (some ⟨b, 0, none⟩), .pointer (some ⟨c, 0, none⟩), .agg x.cells] w fun e w' => e = .returned (.bool true) ∧ Done w B b c d r w' := by
  have hk : x.kind % 10 = 0 ∨ x.kind % 10 = 1 ∨ x.kind % 10 = 2 ∨ x.kind % 10 = 3 ∨ x.kind % 10 = 4 ∨ x.kind % 10 = 5 ∨ x.kind % 10 = 6 ∨ x.kind % 10 = 7 ∨ x.kind % 10 = 8 ∨ x.kind % 10 = 9 := by omega
  rcases hk with hk | hk | hk | hk | hk | hk | hk | hk | hk | hk
  · exact do_append0 h x hk hk0 hk1 hc hn hs hN
  · exact do_append1 h x hk hk0 hk1 hc hn hs hN
  · exact do_sync h x hk hk0 hk1 hc hn hs hN
  · exact do_cut h x hk hk0 hk1 hc hn hs hN
  · exact do_rename h x hk hk0 hk1 hc hn hs hN
  · exact do_remove h x hk hk0 hk1 hc hn hs hN
  · exact do_crash h x hk hk0 hk1 hc hn hs hN
  · exact do_room h x hk hk0 hk1 hc hn hs hN
  · exact do_rot h x hk hk0 hk1 hc hn hs hN
  · exact do_fuse h x hk hk0 hk1 hc hn hs hN
end Go.Proofs.Ytcapgcdflahbkaa

/-
  Names.
-/
namespace Go.Proofs.Ytcapgcdflahbkaa
open Go.RowKit

theorem info9 : (Try.prog.info? 9).map (fun i => (i.zero, i.size, i.bytes)) = some (some (.string ⟨#[]⟩), 1, 16) := by kernel_rfl
def scells (l : List ByteArray) : List Value := l.map Value.string

theorem scells_next (l : List Fv) (k : Nat) (h : k < l.length) : scells ((l.take (k + 1)).map Fv.name) = scells ((l.take k).map Fv.name) ++ [.string l[k]!.name] := by
  rw [take_next l k h]
  simp [scells]

set_option maxHeartbeats 2000000 in
theorem names_any {w : World} {B b : Nat} {d : Ds} (h : Rep w B b d) (ok : Ok d.pl) :
    Calls Try.prog 12 #[.pointer (some ⟨b, 0, none⟩)] w fun e w' => ∃ v, e = .returned v ∧ w'.ownsRow w.heap.size 9 1 v d.names.length (scells d.names) ∧ Below w.heap.size w w' := by
  obtain ⟨i0, hi0, hz0, hzs, hzb⟩ := info_parts info9
  have c0 := h.c0
  obtain ⟨a, cap, ev, hc'⟩ := h.row
  have hc : Aside (∀ t, t < d.files.length → ∃ g a' c', a = some ⟨g, 0, none⟩ ∧ w.cell? ⟨g, t * 3, none⟩ = some (.string d.files[t]!.name) ∧ w.cell? ⟨g, t * 3 + 1, none⟩ = some (.slice a' d.files[t]!.bytes.length c') ∧ w.cell? ⟨g, t * 3 + 2, none⟩ = some (.int .i64 (d.files[t]!.sure : Int))) := hc'
  rw [ev] at c0
  have hfew := ok.dfew
  obtain ⟨w1, hmk, hown, hgr⟩ := run_make_own (P := Try.prog) w w.heap.size 34 9 i0 (.string ⟨#[]⟩) 1 Try.underlying34 hi0 hz0 hzs .i64 .i64 d.files.length (by rw [hzb]; omega) (by unfold maxLen; omega) (Nat.le_refl _)
  have hb1 : Below w.heap.size w w1 := ⟨hgr.os, hgr.tape, hgr.output, hgr.size, fun k hk => hgr.block k hk (by simp)⟩
  have c01 := cell_below c0 hb1
  have OWN : Aside (w1.ownsRow w.heap.size 9 1 (.slice (some ⟨w.heap.size, 0, none⟩) 0 d.files.length) 0 []) := hown
  unfold Ds.names
  clear hc' h ok ev hgr hown
  generalize d.files = l at *
  go_enter Try.func12, Try.ntmps12
  go_wp2
  go_loopg [3, 5, 19] l.length (fun gh s3 _ s19 wr => ∃ k : Nat, l.length - k ≤ gh ∧ k ≤ l.length ∧ s19 = .int .i64 (k : Int) ∧ Below w.heap.size w wr ∧ Aside (wr.ownsRow w.heap.size 9 1 s3 k (scells ((l.take k).map Fv.name))))
  case atStart => exact ⟨0, by omega, by omega, rfl, hb1, OWN⟩
  case round =>
    obtain ⟨k, hgh, hk, rfl, hb, R⟩ := hrel
    have hsz := hb.size
    by_cases hlt : k < l.length
    · have d3 : decide (k < l.length) = true := by simpa using hlt
      obtain ⟨g, a', c', rfl, e0, e1, e2⟩ := hc.out k hlt
      replace e0 := cell_below e0 hb
      replace e1 := cell_below e1 hb
      replace e2 := cell_below e2 hb
      have hn : Aside _ := scells_next l k hlt
      generalize l[k]! = y at *
      obtain ⟨a3, c3, rfl⟩ := own_any R.out
      have hb2 : Below wr.heap.size wr ((wr.alloc (.cells #[.string y.name, .slice a' y.bytes.length c', .int .i64 (y.sure : Int)] 64)).alloc (.cells #[.string y.name] 9)) := (((Below.refl _ _).alloc (Nat.le_refl _) _)).alloc (by simp) _
      obtain ⟨v4, w4, hr4, ho4, hg4, _, _⟩ := run_append_own_at (P := Try.prog) ((wr.alloc (.cells #[.string y.name, .slice a' y.bytes.length c', .int .i64 (y.sure : Int)] 64)).alloc (.cells #[.string y.name] 9)) w.heap.size 34 34 9 i0 (.string ⟨#[]⟩) 1 16 Try.underlying34 hi0 hz0 hzs hzb rfl (by omega) _ k _ ((R.out.alloc _).alloc _) ⟨wr.heap.size + 1, 0, none⟩ 1 1 [.string y.name] rfl (fun j u hj => by
        match j, hj with
        | 0, hj =>
          simp at hj
          rw [← hj, Addr.add_lit]
          simp
        | j + 1, hj => simp at hj) (by simp [Value.oneCell']) (by unfold maxLen; omega) (by omega) (by simp; omega)
      have R4 : Aside (w4.ownsRow w.heap.size 9 1 v4 (k + 1) (scells ((l.take (k + 1)).map Fv.name)) ∧ Below w.heap.size w w4) := by
        refine ⟨by rw [hn.out]; exact ho4, ?_⟩
        have hbb := hb.trans (hb2.mono hsz)
        refine ⟨hg4.os.trans hbb.os, hg4.tape.trans hbb.tape, hg4.output.trans hbb.output, Nat.le_trans hbb.size hg4.size, fun j hj => (hg4.block j (by have := hbb.size; omega) (fun e => ?_)).trans (hbb.block j hj)⟩
        have := (R.out.lt j e.symm).1
        omega
      clear R ho4 hg4 hb2 hi0 hz0 hzs hzb OWN hmk c01
      go_wp2_with (at_builtin; refine Lib.wpList_append_run _ rfl _ _ _ _ rfl _ _ rfl rfl _ _ hr4 ?_)
      go_roundg (l.length - (k + 1))
      case measure => omega
      case rel => exact ⟨k + 1, Nat.le_refl _, by omega, by go_num, R4.out.2, R4.out.1⟩
    · obtain rfl : k = l.length := by omega
      have d3 : decide (l.length < l.length) = false := by simp
      rw [List.take_of_length_le (Nat.le_refl l.length)] at R
      go_wp2
      go_ret
      refine ⟨_, rfl, ?_, hb⟩
      rw [List.length_map]
      exact R.out
end Go.Proofs.Ytcapgcdflahbkaa

/-
  Both disks are found to be the same.
-/
namespace Go.Proofs.Ytcapgcdflahbkaa
open Go.RowKit

theorem Both.get {w : World} {B b c t : Nat} {d : Ds} {r : Rs} {f : Gv} (h : Both w B b c d r) (hf : r.files[t]? = some f) : d.names[t]? = some f.name ∧ opRead d.pl f.name = (⟨f.bytes.toArray⟩, 0) ∧ rSure r.pl f.name = opSure d.pl f.name := by
  obtain ⟨T, hT⟩ := h.rel
  have h1 := rpl_get hf
  rw [hT.files, List.getElem?_map] at h1
  obtain ⟨F, hF, hFe⟩ := Option.map_eq_some_iff.1 h1
  have hn : F.name = f.name := congrArg G.name hFe
  have hby : F.bytes = f.bytes := congrArg G.bytes hFe
  have hl : t < d.pl.files.length := (List.getElem?_eq_some_iff.1 hF).1
  have hnt : d.pl.names[t]? = some f.name := by
    show (d.pl.files.map Ytcapgcdflahbkaa.F.name)[t]? = _
    rw [List.getElem?_map, hF, ← hn]
    rfl
  have hl2 : t < d.pl.names.length := (List.getElem?_eq_some_iff.1 hnt).1
  have hnt' : d.pl.names[t]! = f.name := by
    rw [getElem!_pos d.pl.names t hl2]
    rw [List.getElem?_eq_getElem hl2] at hnt
    exact Option.some.inj hnt
  have hpl : place d.pl.names f.name = t := by
    have := place_at h.ok.rising t hl2
    rwa [hnt'] at this
  have hh : has d.pl.names f.name = true := has_iff.2 (List.mem_of_getElem? hnt)
  refine ⟨by rw [← names_pl]; exact hnt, ?_, ?_⟩
  · unfold opRead St.bytesOf
    rw [hh, hpl, hF]
    simp only [if_true]
    rw [hby]
  · rw [hT.sure h.ok (n := f.name) (by rw [hpl]; exact hF) hh]
    unfold opSure St.sureOf
    rw [hh, hpl, hF]
    rfl

theorem Both.sums {w : World} {B b c : Nat} {d : Ds} {r : Rs} (h : Both w B b c d r) : r.pl.used = d.pl.total ∧ r.pl.lates = d.pl.late ∧ r.pl.most - r.pl.used = d.pl.free ∧ r.pl.files.length = d.pl.files.length ∧ r.down = d.pl.down := by
  obtain ⟨T, hT⟩ := h.rel
  exact ⟨hT.used, (hT.lates h.ok).trans rfl, by rw [hT.used, hT.most]; rfl, by rw [hT.files, List.length_map], hT.down⟩

set_option maxHeartbeats 4000000 in
theorem same_any {w : World} {B b c : Nat} {d : Ds} {r : Rs} (h : Both w B b c d r) (hc : r.count ≤ 100000) :
    Calls Try.prog 11 #[.pointer (some ⟨b, 0, none⟩), .pointer (some ⟨c, 0, none⟩)] w fun e w' => e = .returned (.bool true) ∧ Below w.heap.size w w' := by
  have H : Aside (Both w B b c d r) := h
  have kn := names_any h.rep h.ok
  obtain ⟨g1, g2, g3, g4, g5⟩ := h.sums
  have hrl : r.files.length = d.names.length := by
    have e1 : r.pl.files.length = r.files.length := by simp [Rs.pl]
    have e2 : d.pl.files.length = d.names.length := by simp [Ds.pl, Ds.names]
    omega
  have hfew : d.names.length ≤ 16 := by
    have := h.ok.few
    simpa [Ds.pl, Ds.names] using this
  have hrok := h.rok (by omega)
  have K14 : Aside (∀ (n : ByteArray) (u : World), Both u B b c d r → Calls Try.prog 14 #[.pointer (some ⟨b, 0, none⟩), .string n] u fun e w' => e = .returned (.tuple #[.string (opRead d.pl n).1, .int .i64 (opRead d.pl n).2]) ∧ Below u.heap.size u w') := fun n u hu => read_any hu.rep hu.ok n
  have K15 : Aside (∀ (n : ByteArray) (u : World), Both u B b c d r → Calls Try.prog 15 #[.pointer (some ⟨b, 0, none⟩), .string n] u fun e w' => e = .returned (.int .i64 (opSure d.pl n : Nat)) ∧ Below u.heap.size u w') := fun n u hu => sure_any hu.rep hu.ok n
  have K38 : Aside (∀ (n : ByteArray) (u : World), Both u B b c d r → Calls Try.prog 38 #[.pointer (some ⟨c, 0, none⟩), .string n] u fun e w' => e = .returned (.int .i64 (rSure r.pl n : Nat)) ∧ Below u.heap.size u w') := fun n u hu => (rsure_any hu.rrep hrok n).mono fun e w' ⟨a, b⟩ => ⟨a, b ▸ Below.refl _ _⟩
  have K39 : Aside (∀ u : World, Both u B b c d r → Calls Try.prog 39 #[.pointer (some ⟨c, 0, none⟩)] u fun e w' => e = .returned (.tuple #[.int .i64 (d.pl.total : Nat), .int .i64 (d.pl.late : Nat)]) ∧ w' = u) := fun u hu => by
    have := rused_any hu.rrep hrok
    rwa [g1, g2] at this
  have K40 : Aside (∀ u : World, Both u B b c d r → Calls Try.prog 40 #[.pointer (some ⟨c, 0, none⟩)] u fun e w' => e = .returned (.tuple #[.int .i64 (d.pl.free : Nat), .int .i64 (16 - (d.pl.files.length : Int))]) ∧ Below u.heap.size u w') := fun u hu => by
    have := rfree_any hu.rrep hrok
    rwa [g3, g4] at this
  have c0 := h.rrep.c0
  have c4 := h.rrep.c4
  rw [g5] at c4
  obtain ⟨a, cap, ev⟩ := own_any h.rrep.tab
  have HR : Aside (∀ t, t < d.names.length → ∃ (f : Gv) (g : Nat) (a' : Option Addr) (c' : Nat) (a'' : Option Addr) (c'' : Nat), a = some ⟨g, 0, none⟩ ∧ w.cell? ⟨g, t * 3, none⟩ = some (.string f.name) ∧ w.cell? ⟨g, t * 3 + 1, none⟩ = some (.slice a' f.bytes.length c') ∧ w.cell? ⟨g, t * 3 + 2, none⟩ = some (.slice a'' f.late.length c'') ∧ (∀ u : World, Both u B b c d r → (convert 58 9 (.slice a' f.bytes.length c')).run Try.prog u = .ok (.string ⟨f.bytes.toArray⟩) u) ∧ d.names[t]? = some f.name ∧ opRead d.pl f.name = (⟨f.bytes.toArray⟩, 0) ∧ rSure r.pl f.name = opSure d.pl f.name) := fun t ht => by
    have hf : r.files[t]? = some r.files[t]! := getbang r.files t (by omega)
    obtain ⟨n1, n2, n3⟩ := h.get hf
    obtain ⟨g, cap', ev', _, _, hg⟩ := h.rrep.vf_form hf
    obtain ⟨a', c', e'⟩ := own_any (h.rrep.rb _ (List.mem_of_getElem? hf))
    obtain ⟨a'', c'', e''⟩ := own_any (h.rrep.rl _ (List.mem_of_getElem? hf))
    obtain ⟨y0, y1, y2⟩ := h.rrep.fcells hf hg
    rw [ev] at ev'
    injection ev' with q1 q2 q3
    rw [e'] at y1
    rw [e''] at y2
    refine ⟨r.files[t]!, g, a', c', a'', c'', q1, y0, y1, y2, fun u hu => ?_, n1, n2, n3⟩
    have := conv_row (hu.rrep.rb _ (List.mem_of_getElem? hf))
    rwa [e'] at this
  rw [ev, hrl] at c0
  have K17 : Aside (∀ u : World, Both u B b c d r → Calls Try.prog 17 #[.pointer (some ⟨b, 0, none⟩)] u fun e w' => e = .returned (.int .i64 (d.pl.total : Nat)) ∧ Below u.heap.size u w') := fun u hu => used_any hu.rep hu.ok
  have K13 : Aside (∀ u : World, Both u B b c d r → Calls Try.prog 13 #[.pointer (some ⟨b, 0, none⟩)] u fun e w' => e = .returned (.int .i64 (d.pl.late : Nat)) ∧ Below u.heap.size u w') := fun u hu => waits_any hu.rep hu.ok
  have K26 : Aside (∀ u : World, Both u B b c d r → Calls Try.prog 26 #[.pointer (some ⟨b, 0, none⟩)] u fun e w' => e = .returned (.int .i64 (d.pl.free : Nat)) ∧ Below u.heap.size u w') := fun u hu => free_any hu.rep hu.ok
  have K27 : Aside (∀ u : World, Both u B b c d r → Calls Try.prog 27 #[.pointer (some ⟨b, 0, none⟩)] u fun e w' => e = .returned (.int .i64 (16 - (d.pl.files.length : Int))) ∧ Below u.heap.size u w') := fun u hu => (holes_any hu.rep hu.ok).mono fun e w' ⟨a, b⟩ => ⟨a, b ▸ Below.refl _ _⟩
  have K18 : Aside (∀ u : World, Both u B b c d r → Calls Try.prog 18 #[.pointer (some ⟨b, 0, none⟩)] u fun e w' => e = .returned (.bool d.pl.down) ∧ Below u.heap.size u w') := fun u hu => (down_any hu.rep).mono fun e w' ⟨a, b⟩ => ⟨a, b ▸ Below.refl _ _⟩
  clear h hrok ev hc hrl
  generalize d.pl.total = TO at *
  generalize d.pl.late = LA at *
  generalize d.pl.free = FR at *
  generalize 16 - (d.pl.files.length : Int) = HO at *
  generalize d.pl.down = DO at *
  clear g1 g2 g3 g4 g5
  go_enter Try.func11, Try.ntmps11
  go_wp2_with (go_at_call 12; refine kn.mono ?_; rintro e w1 ⟨v, rfl, ho, hb1⟩; obtain ⟨av, cv, ev⟩ := own_any ho; subst ev; have b0 := cell_below c0 hb1)
  have HO1 : Aside _ := ho
  clear ho
  go_loopg [29, 6, 7, 8, 9] d.names.length (fun gh s29 _ _ _ _ wr => ∃ k : Nat, d.names.length - k ≤ gh ∧ k ≤ d.names.length ∧ s29 = .int .i64 (k : Int) ∧ Below w.heap.size w wr ∧ Below w1.heap.size w1 wr)
  case atStart => exact ⟨0, by omega, by omega, rfl, hb1, Below.refl _ _⟩
  case round =>
    obtain ⟨k, hgh, hk, rfl, hbr, hb2⟩ := hrel
    by_cases hlt : k < d.names.length
    · have q3 : decide (k < d.names.length) = true := by simpa using hlt
      obtain ⟨f, g, a', c', a'', c'', rfl, y0, y1, y2, hcv, n1, n2, n3⟩ := HR.out k hlt
      obtain ⟨ln, cvv, e1, _, _, hln⟩ := own_form HO1.out (by omega)
      injection e1 with e1 e2 e3
      subst e1 e3
      clear e2
      have hkl : (scells d.names)[k]? = some (.string f.name) := by unfold scells; rw [List.getElem?_map, n1]; rfl
      have z0 := cell_below y0 hbr
      have z1 := cell_below y1 hbr
      have z2 := cell_below y2 hbr
      have zl := cell_below (own_cell HO1.out hln hkl) hb2
      have k14 := K14.out f.name
      have k15 := K15.out f.name
      have k38 := K38.out f.name
      rw [n2] at k14
      rw [n3] at k38
      generalize opSure d.pl f.name = SU at *
      generalize (ByteArray.mk f.bytes.toArray) = S at *
      have p1 : (f.name.toList == f.name.toList) = true := beq_self_eq_true _
      have p1' : (f.name.toList != f.name.toList) = false := by unfold bne; rw [p1]; rfl
      have p2 : (S.toList == S.toList) = true := beq_self_eq_true _
      have p2' : (S.toList != S.toList) = false := by unfold bne; rw [p2]; rfl
      have p3 : ((SU : Int) == (SU : Int)) = true := beq_self_eq_true _
      have p3' : ((SU : Int) != (SU : Int)) = false := by unfold bne; rw [p3]; rfl
      have p4 : (SU == SU) = true := beq_self_eq_true _
      have p4' : (SU != SU) = false := by unfold bne; rw [p4]; rfl
      have k14' : Aside _ := k14
      have k15' : Aside _ := k15
      have k38' : Aside _ := k38
      have hcv' : Aside _ := hcv
      clear hkl hln n1 n2 n3 y0 y1 y2 k14 k15 k38 hcv
      go_wp2_with (go_at_call 14; refine (k14'.out _ (H.out.below (hbr.alloc hbr.size _))).mono ?_; rintro e w4 ⟨rfl, hb4⟩)
      have hbw4 : Below w.heap.size w w4 := (hbr.alloc hbr.size _).trans (hb4.mono (hbr.alloc hbr.size _).size)
      have hbw14 : Below w1.heap.size w1 w4 := (hb2.alloc hb2.size _).trans (hb4.mono (hb2.alloc hb2.size _).size)
      obtain ⟨x0, x1, x2⟩ : w4.cell? ⟨wr.heap.size, 0, none⟩ = some (.string f.name) ∧ w4.cell? ⟨wr.heap.size, 1, none⟩ = some (.slice a' f.bytes.length c') ∧ w4.cell? ⟨wr.heap.size, 2, none⟩ = some (.slice a'' f.late.length c'') := by
        have hX : w4.heap[wr.heap.size]? = some (.cells #[.string f.name, .slice a' f.bytes.length c', .slice a'' f.late.length c''] 60 (0, 0)) := (hb4.block _ (by simp)).trans (heap_alloc_new wr _)
        exact ⟨by rw [cell_of_row _ _ 0 _ _ _ hX]; rfl, by rw [cell_of_row _ _ 1 _ _ _ hX]; rfl, by rw [cell_of_row _ _ 2 _ _ _ hX]; rfl⟩
      have zl4 := cell_below zl ((((Below.refl _ _).alloc (Nat.le_refl _) _)).trans (hb4.mono (by simp)))
      have x0q : ∀ q : Later w4, q.u.cell? ⟨wr.heap.size, 0, none⟩ = some (.string f.name) := fun q => cell_below x0 q.bel
      have x1q : ∀ q : Later w4, q.u.cell? ⟨wr.heap.size, 1, none⟩ = some (.slice a' f.bytes.length c') := fun q => cell_below x1 q.bel
      have zlq : ∀ q : Later w4, q.u.cell? ⟨ln, k, none⟩ = some (.string f.name) := fun q => cell_below zl4 q.bel
      have hB : Aside (∀ q : Later w4, Both q.u B b c d r) := fun q => (H.out.below hbw4).below q.bel
      have cvq : ∀ q : Later w4, (convert 58 9 (.slice a' f.bytes.length c')).run Try.prog q.u = .ok (.string S) q.u := fun q => hcv'.out _ (hB.out q)
      have K15q : Aside (∀ q : Later w4, Calls Try.prog 15 #[.pointer (some ⟨b, 0, none⟩), .string f.name] q.u fun e w' => e = .returned (.int .i64 (SU : Nat)) ∧ Below q.u.heap.size q.u w') := fun q => k15'.out _ (hB.out q)
      have K38q : Aside (∀ q : Later w4, Calls Try.prog 38 #[.pointer (some ⟨c, 0, none⟩), .string f.name] q.u fun e w' => e = .returned (.int .i64 (SU : Nat)) ∧ Below q.u.heap.size q.u w') := fun q => k38'.out _ (hB.out q)
      have HB : Aside _ := And.intro hbw4 hbw14
      clear x0 x1 x2 zl zl4 z0 z1 z2 hb4 hbw4 hbw14 hb2 hbr k14' k15' k38' hcv'
      have hne := later_some w4
      refine wp_region_later (by kernel_rfl) (by kernel_rfl) ?_
      repeat (go_big_quiet_step ((first | (go_at_call 15; exact calls_later (K15q.out _)) | (go_at_call 38; exact calls_later (K38q.out _)))))
      refine wpQuiet_nil ?_
      rintro _ ⟨q, rfl⟩
      obtain ⟨e1, e2⟩ := HB.out
      have f1 : Below w.heap.size w q.u := e1.trans (q.bel.mono e1.size)
      have f2 : Below w1.heap.size w1 q.u := e2.trans (q.bel.mono e2.size)
      clear hne x0q x1q zlq cvq K15q K38q hB HB e1 e2
      go_wp2
      go_roundg (d.names.length - (k + 1))
      case measure => omega
      case rel => exact ⟨k + 1, Nat.le_refl _, by omega, by go_num, f1, f2⟩
    · obtain rfl : k = d.names.length := by omega
      have q3 : decide (d.names.length < d.names.length) = false := by simp
      have hBr := H.out.below hbr
      go_wp2_with (first
        | (go_at_call 39; refine (K39.out _ hBr).mono ?_; rintro e w5 ⟨rfl, rfl⟩)
        | (go_at_call 40; refine (K40.out _ hBr).mono ?_; rintro e w6 ⟨rfl, hb6⟩))
      have hB6 := hBr.below hb6
      have hb7 : Below w.heap.size w w6 := hbr.trans (hb6.mono hbr.size)
      have c4' := cell_below c4 hb7
      have c4q : ∀ q : Later w6, q.u.cell? ⟨c, 4, none⟩ = some (.bool DO) := fun q => cell_below c4' q.bel
      have hB : Aside (∀ q : Later w6, Both q.u B b c d r) := fun q => hB6.below q.bel
      have Q17 : Aside (∀ q : Later w6, Calls Try.prog 17 #[.pointer (some ⟨b, 0, none⟩)] q.u fun e w' => e = .returned (.int .i64 (TO : Nat)) ∧ Below q.u.heap.size q.u w') := fun q => K17.out _ (hB.out q)
      have Q13 : Aside (∀ q : Later w6, Calls Try.prog 13 #[.pointer (some ⟨b, 0, none⟩)] q.u fun e w' => e = .returned (.int .i64 (LA : Nat)) ∧ Below q.u.heap.size q.u w') := fun q => K13.out _ (hB.out q)
      have Q26 : Aside (∀ q : Later w6, Calls Try.prog 26 #[.pointer (some ⟨b, 0, none⟩)] q.u fun e w' => e = .returned (.int .i64 (FR : Nat)) ∧ Below q.u.heap.size q.u w') := fun q => K26.out _ (hB.out q)
      have Q27 : Aside (∀ q : Later w6, Calls Try.prog 27 #[.pointer (some ⟨b, 0, none⟩)] q.u fun e w' => e = .returned (.int .i64 HO) ∧ Below q.u.heap.size q.u w') := fun q => K27.out _ (hB.out q)
      have Q18 : Aside (∀ q : Later w6, Calls Try.prog 18 #[.pointer (some ⟨b, 0, none⟩)] q.u fun e w' => e = .returned (.bool DO) ∧ Below q.u.heap.size q.u w') := fun q => K18.out _ (hB.out q)
      have t1 : ((TO : Int) == (TO : Int)) = true := beq_self_eq_true _
      have t2 : ((LA : Int) == (LA : Int)) = true := beq_self_eq_true _
      have t3 : ((FR : Int) == (FR : Int)) = true := beq_self_eq_true _
      have t4 : (HO == HO) = true := beq_self_eq_true _
      have t5 : (DO == DO) = true := beq_self_eq_true _
      have HB : Aside _ := hb7
      clear hBr hB6 hb7 hb6 c4' hbr hb2
      have hne := later_some w6
      refine wp_region_later (by kernel_rfl) (by kernel_rfl) ?_
      repeat (go_big_quiet_step ((first | (go_at_call 17; exact calls_later (Q17.out _)) | (go_at_call 13; exact calls_later (Q13.out _)) | (go_at_call 26; exact calls_later (Q26.out _)) | (go_at_call 27; exact calls_later (Q27.out _)) | (go_at_call 18; exact calls_later (Q18.out _)))))
      refine wpQuiet_nil ?_
      rintro _ ⟨q, rfl⟩
      have f1 : Below w.heap.size w q.u := HB.out.trans (q.bel.mono HB.out.size)
      clear hne c4q Q17 Q13 Q26 Q27 Q18 hB HB
      go_wp2
      go_ret
      exact ⟨rfl, f1⟩
end Go.Proofs.Ytcapgcdflahbkaa

/-
  awake.
-/
namespace Go.Proofs.Ytcapgcdflahbkaa
open Go.RowKit

def nF : ByteArray := ⟨#[102]⟩
def a1 : St := opRoom emptySt 99
def a2 : Int × St := opAppend a1 nF ⟨#[97, 98]⟩
def a3 : Int × St := opSync a2.2 nF
def a4 : Int × St := opAppend a3.2 nF ⟨#[99, 100]⟩
def a5 : St := opCrash a4.2 1

theorem ok_empty : Ok emptySt := ⟨trivial, by simp [emptySt], by simp [emptySt], by simp [emptySt], by simp [emptySt, St.total], by simp [emptySt], by simp [emptySt], by simp [emptySt]⟩
theorem ok1 : Ok a1 := ok_empty.opRoom 99
theorem ok2 : Ok a2.2 := ok1.opAppend _ _
theorem ok3 : Ok a3.2 := ok2.opSync _
theorem ok4 : Ok a4.2 := ok3.opAppend _ _
theorem ok5 : Ok a5 := ok4.opCrash _
theorem v2 : a2.1 = 0 := by decide +kernel
theorem v3 : a3.1 = 0 := by decide +kernel
theorem v5r : opRead a5 nF = (⟨#[97, 98, 99]⟩, 0) := by
  have e1 : (opRead a5 nF).1.data.toList = [97, 98, 99] := by decide +kernel
  have e2 : (opRead a5 nF).2 = 0 := by decide +kernel
  exact Prod.ext (ba_ext e1) e2
theorem v5s : opSure a5 nF = 3 := by decide +kernel

theorem of_pl {d : Ds} {s : St} (h : d.pl = s) (ok : Ok s) : Ok d.pl := h ▸ ok

set_option maxHeartbeats 1600000 in
theorem awake_any (w : World) : Calls Try.prog 6 #[] w fun e w' => e = .returned (.bool true) ∧ Below w.heap.size w w' := by
  have kn := new_any 99 w w.heap.size (Nat.le_refl _)
  have kA : Aside (∀ (b : Nat) (d : Ds) (u : World), Rep u w.heap.size b d → d.pl = a1 → Calls Try.prog 21 #[.pointer (some ⟨b, 0, none⟩), .string ⟨#[102]⟩, .string ⟨#[97, 98]⟩] u fun e w' => e = .returned (.int .i64 0) ∧ ∃ d', Rep w' w.heap.size b d' ∧ d'.pl = a2.2 ∧ Step (d.foot b) (d'.foot b) u w') := fun b d u hr hp => by
    have := append_any hr (of_pl hp ok1) nF ⟨#[97, 98]⟩
    rw [hp] at this
    rw [← v2]
    exact this
  have kS : Aside (∀ (b : Nat) (d : Ds) (u : World), Rep u w.heap.size b d → d.pl = a2.2 → Calls Try.prog 22 #[.pointer (some ⟨b, 0, none⟩), .string ⟨#[102]⟩] u fun e w' => e = .returned (.int .i64 0) ∧ ∃ d', Rep w' w.heap.size b d' ∧ d'.pl = a3.2 ∧ Step (d.foot b) (d'.foot b) u w') := fun b d u hr hp => by
    have := sync_any hr (of_pl hp ok2) nF
    rw [hp] at this
    rw [← v3]
    exact this
  have kB : Aside (∀ (b : Nat) (d : Ds) (u : World), Rep u w.heap.size b d → d.pl = a3.2 → Calls Try.prog 21 #[.pointer (some ⟨b, 0, none⟩), .string ⟨#[102]⟩, .string ⟨#[99, 100]⟩] u fun e w' => e = .returned (.int .i64 a4.1) ∧ ∃ d', Rep w' w.heap.size b d' ∧ d'.pl = a4.2 ∧ Step (d.foot b) (d'.foot b) u w') := fun b d u hr hp => by
    have := append_any hr (of_pl hp ok3) nF ⟨#[99, 100]⟩
    rw [hp] at this
    exact this
  have kC : Aside (∀ (b : Nat) (d : Ds) (u : World), Rep u w.heap.size b d → d.pl = a4.2 → Calls Try.prog 16 #[.pointer (some ⟨b, 0, none⟩), .int .i64 1] u fun e w' => e = .returned (.tuple #[]) ∧ ∃ d', Rep w' w.heap.size b d' ∧ d'.pl = a5 ∧ Step (d.foot b) (d'.foot b) u w') := fun b d u hr hp => by
    have := crash_any hr (of_pl hp ok4) 1 (by omega)
    rw [hp] at this
    exact this
  have kR : Aside (∀ (b : Nat) (d : Ds) (u : World), Rep u w.heap.size b d → d.pl = a5 → Calls Try.prog 14 #[.pointer (some ⟨b, 0, none⟩), .string ⟨#[102]⟩] u fun e w' => e = .returned (.tuple #[.string ⟨#[97, 98, 99]⟩, .int .i64 0]) ∧ Below u.heap.size u w') := fun b d u hr hp => by
    have := read_any hr (of_pl hp ok5) nF
    rw [hp, v5r] at this
    exact this
  have kU : Aside (∀ (b : Nat) (d : Ds) (u : World), Rep u w.heap.size b d → d.pl = a5 → Calls Try.prog 15 #[.pointer (some ⟨b, 0, none⟩), .string ⟨#[102]⟩] u fun e w' => e = .returned (.int .i64 3) ∧ Below u.heap.size u w') := fun b d u hr hp => by
    have := sure_any hr (of_pl hp ok5) nF
    rw [hp, v5s] at this
    exact this
  generalize a4.1 = A4 at *
  go_enter Try.func6, Try.ntmps6
  go_wp2_with (first
    | (go_at_call 8; refine kn.mono ?_; rintro e w1 ⟨b, d1, rfl, h1, p1, f1, b1⟩; clear kn)
    | (go_at_call 21; refine (kA.out _ _ _ h1 p1).mono ?_; rintro e w2 ⟨rfl, d2, h2, p2, s2⟩; clear kA)
    | (go_at_call 22; refine (kS.out _ _ _ h2 p2).mono ?_; rintro e w3 ⟨rfl, d3, h3, p3, s3⟩; clear kS)
    | (go_at_call 21; refine (kB.out _ _ _ h3 p3).mono ?_; rintro e w4 ⟨rfl, d4, h4, p4, s4⟩; clear kB)
    | (go_at_call 16; refine (kC.out _ _ _ h4 p4).mono ?_; rintro e w5 ⟨rfl, d5, h5, p5, s5⟩; clear kC)
    | (go_at_call 14; refine (kR.out _ _ _ h5 p5).mono ?_; rintro e w6 ⟨rfl, b6⟩; clear kR)
    | (go_at_call 15; refine (kU.out _ _ _ (h5.below b6) p5).mono ?_; rintro e w7 ⟨rfl, b7⟩; clear kU))
  go_ret
  have S := ((((s2.trans s3).trans s4).trans s5).trans (Step.ofBelow b6)).trans (Step.ofBelow b7)
  exact ⟨rfl, b1.trans (S.below f1 b1.size)⟩
end Go.Proofs.Ytcapgcdflahbkaa
