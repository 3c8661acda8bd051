/-
  Ytnmamaeoghgegaa: the texts DE4, one behind the other.
-/
import Derived.Test.YtnmamaeoghgegaaG21
import Derived.Test.YtnmamaeoghgegaaG19
import Derived.Test.YtnmamaeoghgegaaG18
import Derived.Deep.RegionHeld3
/-
  One deed, done to both.
-/
namespace Go.Proofs.Ytnmamaeoghgegaa.Dk
open Go.RowKit
set_option maxRecDepth 100000

/-- A disk of each, alike, in one memory. -/
structure Both (w : World) (B b c : Nat) (d : Ds) (r : Rs) : Prop where
  rep : Rep w B b d
  rrep : RRep w B c r
  ok : Ok d.pl
  rel : ∃ T, Rel d.pl r.pl T
  apart : ∀ k ∈ d.foot b, k ∉ r.foot c

theorem Both.below {w w' : World} {B b c : Nat} {d : Ds} {r : Rs} (h : Both w B b c d r) (hb : Below w.heap.size w w') : Both w' B b c d r := ⟨h.rep.below hb, h.rrep.below hb, h.ok, h.rel, h.apart⟩
theorem Both.rok {w : World} {B b c : Nat} {d : Ds} {r : Rs} (h : Both w B b c d r) (hc : r.count ≤ 1000000) : ROk r.pl := by
  obtain ⟨T, hT⟩ := h.rel
  exact hT.ok h.ok hc
theorem Both.rise {w : World} {B b c : Nat} {d : Ds} {r : Rs} (h : Both w B b c d r) : Rising r.names := by
  obtain ⟨T, hT⟩ := h.rel
  rw [← rnames_pl, hT.nm]
  exact h.ok.rising

/-- The program's disk has gone a step: the document's stays. -/
theorem rrep_kept {w w1 : World} {B b c : Nat} {d d' : Ds} {r : Rs} (hr : RRep w B c r) (ha : ∀ k ∈ d.foot b, k ∉ r.foot c) (hs : Step (d.foot b) (d'.foot b) w w1) : RRep w1 B c r ∧ ∀ k ∈ d'.foot b, k ∉ r.foot c := by
  refine ⟨hr.frame fun k hk => hs.block k (hr.lt k hk).2 (fun hm => ha k hm hk), fun k hk hm => ?_⟩
  rcases hs.sub k hk with e | e
  · exact ha k e hm
  · have := (hr.lt k hm).2
    omega
theorem rep_kept {w w1 : World} {B b c : Nat} {d : Ds} {r r' : Rs} (hr : Rep w B b d) (ha : ∀ k ∈ d.foot b, k ∉ r.foot c) (hs : Step (r.foot c) (r'.foot c) w w1) : Rep w1 B b d ∧ ∀ k ∈ d.foot b, k ∉ r'.foot c := by
  refine ⟨hr.frame fun k hk => hs.block k (hr.lt k hk).2 (fun hm => ha k hk hm), fun k hk hm => ?_⟩
  rcases hs.sub k hm with e | e
  · exact ha k hk e
  · have := (hr.lt k hk).2
    omega
theorem Step.frameL {a c : List Nat} {u w : World} (h : Step a c u w) (e : List Nat) : Step (e ++ a) (e ++ c) u w where
  os := h.os
  tape := h.tape
  output := h.output
  size := h.size
  block := fun k hk hn => h.block k hk (fun hm => hn (List.mem_append_right _ hm))
  sub := fun k hk => by
    rcases List.mem_append.1 hk with hk | hk
    · exact .inl (List.mem_append_left _ hk)
    · rcases h.sub k hk with e | e
      · exact .inl (List.mem_append_right _ e)
      · exact .inr e

/-- What is behind a deed. -/
def Done (w : World) (B b c : Nat) (d : Ds) (r : Rs) (w' : World) : Prop := ∃ d' r', Both w' B b c d' r' ∧ r'.count ≤ r.count + 101 ∧ Step (d.foot b ++ r.foot c) (d'.foot b ++ r'.foot c) w w'

theorem done_of {w w1 w2 : World} {B b c : Nat} {d d' : Ds} {r r' : Rs} (h : Both w B b c d r) (h1 : Rep w1 B b d') (s1 : Step (d.foot b) (d'.foot b) w w1) (h2 : RRep w2 B c r') (s2 : Step (r.foot c) (r'.foot c) w1 w2) (ok : Ok d'.pl) (rel : ∃ T, Rel d'.pl r'.pl T) (hc : r'.count ≤ r.count + 101) : Done w B b c d r w2 := by
  obtain ⟨_, a1⟩ := rrep_kept h.rrep h.apart s1
  obtain ⟨h3, a2⟩ := rep_kept h1 a1 s2
  exact ⟨d', r', ⟨h3, h2, ok, rel, a2⟩, hc, (s1.frame (r.foot c)).trans (s2.frameL (d'.foot b))⟩

theorem Done.from {w w1 w' : World} {B b c : Nat} {d : Ds} {r : Rs} (hb : Below w.heap.size w w1) (h : Done w1 B b c d r w') : Done w B b c d r w' := by
  obtain ⟨d', r', a, b', s⟩ := h
  exact ⟨d', r', a, b', (Step.ofBelow hb).trans s⟩

/-- A deed, as its six cells. -/
structure Dd where
  kind : Int
  name : ByteArray
  s : ByteArray
  n : Int
  m : Int
  by_ : Int
def Dd.cells (x : Dd) : Array Value := #[.int .u8 x.kind, .string x.name, .string x.s, .int .i64 x.n, .int .i64 x.m, .int .i64 x.by_]

theorem dd_cells {w : World} {X : Nat} {x : Dd} (h : w.heap[X]? = some (.cells x.cells 51 (0, 0))) : w.cell? ⟨X, 0, none⟩ = some (.int .u8 x.kind) ∧ w.cell? ⟨X, 1, none⟩ = some (.string x.name) ∧ w.cell? ⟨X, 2, none⟩ = some (.string x.s) ∧ w.cell? ⟨X, 3, none⟩ = some (.int .i64 x.n) ∧ w.cell? ⟨X, 4, none⟩ = some (.int .i64 x.m) ∧ w.cell? ⟨X, 5, none⟩ = some (.int .i64 x.by_) :=
  ⟨by rw [cell_of_row w X 0 _ _ _ h]; rfl, by rw [cell_of_row w X 1 _ _ _ h]; rfl, by rw [cell_of_row w X 2 _ _ _ h]; rfl, by rw [cell_of_row w X 3 _ _ _ h]; rfl, by rw [cell_of_row w X 4 _ _ _ h]; rfl, by rw [cell_of_row w X 5 _ _ _ h]; rfl⟩

/-- The calls' contracts, told of any memory in which the disk lies; the deed's block stays. -/
def KL (B b X : Nat) (d : Ds) (f : Nat) (args : Array Value) (a : Value) (s : St) (c : Array Value) : Prop := ∀ u : World, Rep u B b d → u.heap[X]? = some (.cells c 51 (0, 0)) → X ∉ d.foot b → Calls Try.prog f args u fun e w' => e = .returned a ∧ w'.heap[X]? = some (.cells c 51 (0, 0)) ∧ ∃ d', Rep w' B b d' ∧ d'.pl = s ∧ Step (d.foot b) (d'.foot b) u w'
theorem KL.of {B b X : Nat} {d : Ds} {f : Nat} {args : Array Value} {a : Value} {s : St} {c : Array Value} (h : ∀ u : World, Rep u B b d → Calls Try.prog f args u fun e w' => e = .returned a ∧ ∃ d', Rep w' B b d' ∧ d'.pl = s ∧ Step (d.foot b) (d'.foot b) u w') : KL B b X d f args a s c := fun u hu hX hn => (h u hu).mono fun _ _ ⟨he, d', h1, h2, h3⟩ =>
  ⟨he, (h3.block X (Array.getElem?_eq_some_iff.1 hX).1 hn).trans hX, d', h1, h2, h3⟩
def KR (B b X : Nat) (d : Rs) (f : Nat) (args : Array Value) (a : Value) (s : RS) (c : Array Value) : Prop := ∀ u : World, RRep u B b d → u.heap[X]? = some (.cells c 51 (0, 0)) → X ∉ d.foot b → Calls Try.prog f args u fun e w' => e = .returned a ∧ w'.heap[X]? = some (.cells c 51 (0, 0)) ∧ ∃ d', RRep w' B b d' ∧ d'.pl = s ∧ Step (d.foot b) (d'.foot b) u w'
theorem KR.of {B b X : Nat} {d : Rs} {f : Nat} {args : Array Value} {a : Value} {s : RS} {c : Array Value} (h : ∀ u : World, RRep u B b d → Calls Try.prog f args u fun e w' => e = .returned a ∧ ∃ d', RRep w' B b d' ∧ d'.pl = s ∧ Step (d.foot b) (d'.foot b) u w') : KR B b X d f args a s c := fun u hu hX hn => (h u hu).mono fun _ _ ⟨he, d', h1, h2, h3⟩ =>
  ⟨he, (h3.block X (Array.getElem?_eq_some_iff.1 hX).1 hn).trans hX, d', h1, h2, h3⟩

theorem count_pl (r : Rs) : r.pl.count = r.count := rfl

/-- What both calls of a deed need, and give. -/
structure Pair (w : World) (B b c : Nat) (d : Ds) (r : Rs) (x : Dd) (f g : Nat) (af ag : Array Value) (a : Value) (s : St) (q : RS) : Prop where
  both : Both (w.alloc (.cells x.cells 51)) B b c d r
  kl : KL B b w.heap.size d f af a s x.cells
  kr : KR B c w.heap.size r g ag a q x.cells
  ok : Ok s
  rel : ∃ T, Rel s q T
  cnt : q.count ≤ r.count + 101
  nl : w.heap.size ∉ d.foot b
  nr : w.heap.size ∉ r.foot c

theorem Pair.done {w w1 w2 : World} {B b c : Nat} {d d' : Ds} {r r' : Rs} {x : Dd} {f g : Nat} {af ag : Array Value} {a : Value} {s : St} {q : RS} (p : Pair w B b c d r x f g af ag a s q) (h1 : Rep w1 B b d') (e1 : d'.pl = s) (s1 : Step (d.foot b) (d'.foot b) (w.alloc (.cells x.cells 51)) w1) (h2 : RRep w2 B c r') (e2 : r'.pl = q) (s2 : Step (r.foot c) (r'.foot c) w1 w2) : Done w B b c d r w2 :=
  Done.from ((Below.refl _ _).alloc (Nat.le_refl _) _) (done_of p.both h1 s1 h2 s2 (e1 ▸ p.ok) (e1 ▸ e2 ▸ p.rel) (by rw [← count_pl, e2]; exact p.cnt))

theorem pair_of {w : World} {B b c : Nat} {d : Ds} {r : Rs} (h : Both w B b c d r) (x : Dd) {f g : Nat} {af ag : Array Value} {a : Value} {s : St} {q : RS}
    (hl : ∀ u : World, Rep u B b d → Calls Try.prog f af u fun e w' => e = .returned a ∧ ∃ d', Rep w' B b d' ∧ d'.pl = s ∧ Step (d.foot b) (d'.foot b) u w')
    (hr : ∀ u : World, RRep u B c r → Calls Try.prog g ag u fun e w' => e = .returned a ∧ ∃ d', RRep w' B c d' ∧ d'.pl = q ∧ Step (r.foot c) (d'.foot c) u w')
    (ok : Ok s) (rel : ∃ T, Rel s q T) (cnt : q.count ≤ r.count + 101) : Pair w B b c d r x f g af ag a s q :=
  ⟨h.below ((Below.refl _ _).alloc (Nat.le_refl _) _), KL.of hl, KR.of hr, ok, rel, cnt, fun hm => by have := (h.rep.lt _ hm).2; omega, fun hm => by have := (h.rrep.lt _ hm).2; omega⟩

theorem pair_append {w : World} {B b c : Nat} {d : Ds} {r : Rs} (h : Both w B b c d r) (x : Dd) (hc : r.count ≤ 100000) (hn : x.name.size ≤ 101) (hs : x.s.size ≤ 101) (_hN : x.n ≤ 9223372036854775807) :
    Pair w B b c d r x 15 44 #[.pointer (some ⟨b, 0, none⟩), .string x.name, .string x.s] #[.pointer (some ⟨c, 0, none⟩), .string x.name, .string x.s] (.int .i64 (opAppend d.pl x.name x.s).1) (opAppend d.pl x.name x.s).2 (rAppend r.pl x.name x.s).2 := by
  obtain ⟨T, hT⟩ := h.rel
  obtain ⟨e, T', h1, h2⟩ := hT.append h.ok x.name x.s
  refine pair_of h x (fun u hu => append_any hu h.ok _ _) (fun u hu => ?_) (h.ok.opAppend _ _) ⟨T', h1⟩ (by rw [count_pl] at h2; omega)
  have := rappend_any hu (h.rok (by omega)) h.rise x.name x.s (by omega) (by omega) (by omega)
  rw [e] at this
  exact this

theorem pair_sync {w : World} {B b c : Nat} {d : Ds} {r : Rs} (h : Both w B b c d r) (x : Dd) (hc : r.count ≤ 100000) (_hn : x.name.size ≤ 101) (_hs : x.s.size ≤ 101) (_hN : x.n ≤ 9223372036854775807) :
    Pair w B b c d r x 29 45 #[.pointer (some ⟨b, 0, none⟩), .string x.name] #[.pointer (some ⟨c, 0, none⟩), .string x.name] (.int .i64 (opSync d.pl x.name).1) (opSync d.pl x.name).2 (rSync r.pl x.name).2 := by
  obtain ⟨T, hT⟩ := h.rel
  obtain ⟨e, T', h1, h2⟩ := hT.sync h.ok x.name
  refine pair_of h x (fun u hu => sync_any hu h.ok _) (fun u hu => ?_) (h.ok.opSync _) ⟨T', h1⟩ (by rw [h2, count_pl]; omega)
  have := rsync_any hu (h.rok (by omega)) x.name
  rw [e] at this
  exact this

theorem pair_cut {w : World} {B b c : Nat} {d : Ds} {r : Rs} (h : Both w B b c d r) (x : Dd) (hc : r.count ≤ 100000) (_hn : x.name.size ≤ 101) (_hs : x.s.size ≤ 101) (_hN : x.n ≤ 9223372036854775807) :
    Pair w B b c d r x 50 51 #[.pointer (some ⟨b, 0, none⟩), .string x.name, .int .i64 x.n] #[.pointer (some ⟨c, 0, none⟩), .string x.name, .int .i64 x.n] (.int .i64 (opCut d.pl x.name x.n).1) (opCut d.pl x.name x.n).2 (rCut r.pl x.name x.n).2 := by
  obtain ⟨T, hT⟩ := h.rel
  obtain ⟨e, T', h1, h2⟩ := hT.cut h.ok x.name x.n
  refine pair_of h x (fun u hu => cut_any hu h.ok _ _) (fun u hu => ?_) (h.ok.opCut _ _) ⟨T', h1⟩ (by rw [h2, count_pl]; omega)
  have := rcut_any hu (h.rok (by omega)) x.name x.n
  rw [e] at this
  exact this

theorem pair_rename {w : World} {B b c : Nat} {d : Ds} {r : Rs} (h : Both w B b c d r) (x : Dd) (hc : r.count ≤ 100000) (_hn : x.name.size ≤ 101) (hs : x.s.size ≤ 101) (_hN : x.n ≤ 9223372036854775807) :
    Pair w B b c d r x 30 46 #[.pointer (some ⟨b, 0, none⟩), .string x.name, .string x.s] #[.pointer (some ⟨c, 0, none⟩), .string x.name, .string x.s] (.int .i64 (opRename d.pl x.name x.s).1) (opRename d.pl x.name x.s).2 (rRename r.pl x.name x.s).2 := by
  obtain ⟨T, hT⟩ := h.rel
  obtain ⟨e, T', h1, h2⟩ := hT.rename h.ok x.name x.s
  refine pair_of h x (fun u hu => rename_any hu h.ok _ _) (fun u hu => ?_) (h.ok.opRename _ _) ⟨T', h1⟩ (by rw [h2, count_pl]; omega)
  have := rrename_any hu (h.rok (by omega)) h.rise x.name x.s (by omega)
  rw [e] at this
  exact this

theorem pair_remove {w : World} {B b c : Nat} {d : Ds} {r : Rs} (h : Both w B b c d r) (x : Dd) (hc : r.count ≤ 100000) (_hn : x.name.size ≤ 101) (_hs : x.s.size ≤ 101) (_hN : x.n ≤ 9223372036854775807) :
    Pair w B b c d r x 47 49 #[.pointer (some ⟨b, 0, none⟩), .string x.name] #[.pointer (some ⟨c, 0, none⟩), .string x.name] (.int .i64 (opRemove d.pl x.name).1) (opRemove d.pl x.name).2 (rRemove r.pl x.name).2 := by
  obtain ⟨T, hT⟩ := h.rel
  obtain ⟨e, T', h1, h2⟩ := hT.remove h.ok x.name
  refine pair_of h x (fun u hu => remove_any hu h.ok _) (fun u hu => ?_) (h.ok.opRemove _) ⟨T', h1⟩ (by rw [h2, count_pl]; omega)
  have := rremove_any hu (h.rok (by omega)) x.name
  rw [e] at this
  exact this

theorem pair_rot {w : World} {B b c : Nat} {d : Ds} {r : Rs} (h : Both w B b c d r) (x : Dd) (hc : r.count ≤ 100000) (_hn : x.name.size ≤ 101) (_hs : x.s.size ≤ 101) (_hN : x.n ≤ 9223372036854775807) :
    Pair w B b c d r x 54 55 #[.pointer (some ⟨b, 0, none⟩), .int .i64 x.n, .int .i64 x.m, .int .i64 x.by_] #[.pointer (some ⟨c, 0, none⟩), .int .i64 x.n, .int .i64 x.m, .int .i64 x.by_] (.bool (opRot d.pl x.n x.m x.by_).1) (opRot d.pl x.n x.m x.by_).2 (rRot r.pl x.n x.m x.by_).2 := by
  obtain ⟨T, hT⟩ := h.rel
  obtain ⟨e, h1, h2⟩ := hT.rot h.ok x.n x.m x.by_
  refine pair_of h x (fun u hu => rot_any hu h.ok _ _ _) (fun u hu => ?_) (h.ok.opRot _ _ _) ⟨T, h1⟩ (by rw [h2, count_pl]; omega)
  have := rrot_any hu (h.rok (by omega)) h.rise x.n x.m x.by_
  rw [e] at this
  exact this

theorem pair_crash {w : World} {B b c : Nat} {d : Ds} {r : Rs} (h : Both w B b c d r) (x : Dd) (hc : r.count ≤ 100000) (_hn : x.name.size ≤ 101) (_hs : x.s.size ≤ 101) (hN : x.n ≤ 9223372036854775807) :
    Pair w B b c d r x 52 53 #[.pointer (some ⟨b, 0, none⟩), .int .i64 x.n] #[.pointer (some ⟨c, 0, none⟩), .int .i64 x.n] (.tuple #[]) (opCrash d.pl x.n) (rCrash r.pl x.n) := by
  obtain ⟨T, hT⟩ := h.rel
  have h1 := hT.crash h.ok x.n
  refine pair_of h x (fun u hu => crash_any hu h.ok _ hN) (fun u hu => ?_) (h.ok.opCrash _) ⟨[], h1⟩ (Nat.le_add_right _ _)
  exact rcrash_any hu (h.rok (by omega)) x.n

theorem pair_room {w : World} {B b c : Nat} {d : Ds} {r : Rs} (h : Both w B b c d r) (x : Dd) (_hc : r.count ≤ 100000) (_hn : x.name.size ≤ 101) (_hs : x.s.size ≤ 101) (_hN : x.n ≤ 9223372036854775807) :
    Pair w B b c d r x 28 43 #[.pointer (some ⟨b, 0, none⟩), .int .i64 x.n] #[.pointer (some ⟨c, 0, none⟩), .int .i64 x.n] (.tuple #[]) (opRoom d.pl x.n) (rRoom r.pl x.n) := by
  obtain ⟨T, hT⟩ := h.rel
  have h1 := hT.room x.n
  refine pair_of h x (fun u hu => room_any hu _) (fun u hu => ?_) (h.ok.opRoom _) ⟨T, h1⟩ (Nat.le_add_right _ _)
  exact rroom_any hu x.n

theorem pair_fuse {w : World} {B b c : Nat} {d : Ds} {r : Rs} (h : Both w B b c d r) (x : Dd) (_hc : r.count ≤ 100000) (_hn : x.name.size ≤ 101) (_hs : x.s.size ≤ 101) (hN : x.n ≤ 9223372036854775807) :
    Pair w B b c d r x 56 57 #[.pointer (some ⟨b, 0, none⟩), .int .i64 x.n] #[.pointer (some ⟨c, 0, none⟩), .int .i64 x.n] (.tuple #[]) (opFuse d.pl x.n) (rFuse r.pl x.n) := by
  obtain ⟨T, hT⟩ := h.rel
  have h1 := hT.fuse x.n
  refine pair_of h x (fun u hu => fuse_any hu _) (fun u hu => ?_) (h.ok.opFuse hN) ⟨T, h1⟩ (by unfold rFuse; split <;> exact Nat.le_add_right _ _)
  exact rfuse_any hu x.n

set_option maxHeartbeats 1000000 in
theorem do_append0 {w : World} {B b c : Nat} {d : Ds} {r : Rs} (h : Both w B b c d r) (x : Dd) (hk : x.kind % 10 = 0) (hk0 : 0 ≤ x.kind) (hk1 : x.kind ≤ 255) (hc : r.count ≤ 100000) (hn : x.name.size ≤ 101) (hs : x.s.size ≤ 101) (hN : x.n ≤ 9223372036854775807) :
    Calls Try.prog 21 #[.pointer (some ⟨b, 0, none⟩), .pointer (some ⟨c, 0, none⟩), .agg x.cells] w fun e w' => e = .returned (.bool true) ∧ Done w B b c d r w' := by
  have P := pair_append h x hc hn hs hN
  have qA : ((opAppend d.pl x.name x.s).1 == (opAppend d.pl x.name x.s).1) = true := beq_self_eq_true _
  generalize (opAppend d.pl x.name x.s).1 = A at *
  have P' : Aside _ := P
  clear h hc P
  unfold Dd.cells
  go_enter Try.func21, Try.ntmps21
  go_wp2
  go_region_held3 (fun u => u.cell? ⟨w.heap.size, 1, none⟩ = some (.string x.name) ∧ u.cell? ⟨w.heap.size, 2, none⟩ = some (.string x.s)) (go_keep) ((first
    | (go_at_call 15; refine (P'.out.kl (w.alloc (.cells x.cells 51)).drew (P'.out.both.rep.frame fun _ _ => rfl) (heap_alloc_new w _) P'.out.nl).mono ?_; rintro e w1 ⟨rfl, hX1, d', h1, e1, s1⟩; obtain ⟨_, z1, z2, z3, z4, z5⟩ := dd_cells hX1)
    | (go_at_call 44; refine (P'.out.kr _ (rrep_kept P'.out.both.rrep P'.out.both.apart s1.undrew).1 hX1 P'.out.nr).mono ?_; rintro e w2 ⟨rfl, hX2, r', h2, e2, s2⟩; obtain ⟨_, y1, y2, y3, y4, y5⟩ := dd_cells hX2)))
  go_wp2
  go_ret
  exact ⟨rfl, P'.out.done h1 e1 s1.undrew h2 e2 s2⟩

set_option maxHeartbeats 1000000 in
theorem do_append1 {w : World} {B b c : Nat} {d : Ds} {r : Rs} (h : Both w B b c d r) (x : Dd) (hk : x.kind % 10 = 1) (hk0 : 0 ≤ x.kind) (hk1 : x.kind ≤ 255) (hc : r.count ≤ 100000) (hn : x.name.size ≤ 101) (hs : x.s.size ≤ 101) (hN : x.n ≤ 9223372036854775807) :
    Calls Try.prog 21 #[.pointer (some ⟨b, 0, none⟩), .pointer (some ⟨c, 0, none⟩), .agg x.cells] w fun e w' => e = .returned (.bool true) ∧ Done w B b c d r w' := by
  have P := pair_append h x hc hn hs hN
  have qA : ((opAppend d.pl x.name x.s).1 == (opAppend d.pl x.name x.s).1) = true := beq_self_eq_true _
  generalize (opAppend d.pl x.name x.s).1 = A at *
  have P' : Aside _ := P
  clear h hc P
  unfold Dd.cells
  go_enter Try.func21, Try.ntmps21
  go_wp2
  go_region_held3 (fun u => u.cell? ⟨w.heap.size, 1, none⟩ = some (.string x.name) ∧ u.cell? ⟨w.heap.size, 2, none⟩ = some (.string x.s)) (go_keep) ((first
    | (go_at_call 15; refine (P'.out.kl (w.alloc (.cells x.cells 51)).drew (P'.out.both.rep.frame fun _ _ => rfl) (heap_alloc_new w _) P'.out.nl).mono ?_; rintro e w1 ⟨rfl, hX1, d', h1, e1, s1⟩; obtain ⟨_, z1, z2, z3, z4, z5⟩ := dd_cells hX1)
    | (go_at_call 44; refine (P'.out.kr _ (rrep_kept P'.out.both.rrep P'.out.both.apart s1.undrew).1 hX1 P'.out.nr).mono ?_; rintro e w2 ⟨rfl, hX2, r', h2, e2, s2⟩; obtain ⟨_, y1, y2, y3, y4, y5⟩ := dd_cells hX2)))
  go_wp2
  go_ret
  exact ⟨rfl, P'.out.done h1 e1 s1.undrew h2 e2 s2⟩

set_option maxHeartbeats 1000000 in
theorem do_sync {w : World} {B b c : Nat} {d : Ds} {r : Rs} (h : Both w B b c d r) (x : Dd) (hk : x.kind % 10 = 2) (hk0 : 0 ≤ x.kind) (hk1 : x.kind ≤ 255) (hc : r.count ≤ 100000) (hn : x.name.size ≤ 101) (hs : x.s.size ≤ 101) (hN : x.n ≤ 9223372036854775807) :
    Calls Try.prog 21 #[.pointer (some ⟨b, 0, none⟩), .pointer (some ⟨c, 0, none⟩), .agg x.cells] w fun e w' => e = .returned (.bool true) ∧ Done w B b c d r w' := by
  have P := pair_sync h x hc hn hs hN
  have qA : ((opSync d.pl x.name).1 == (opSync d.pl x.name).1) = true := beq_self_eq_true _
  generalize (opSync d.pl x.name).1 = A at *
  have P' : Aside _ := P
  clear h hc P
  unfold Dd.cells
  go_enter Try.func21, Try.ntmps21
  go_wp2
  go_region_held3 (fun u => u.cell? ⟨w.heap.size, 1, none⟩ = some (.string x.name)) (go_keep) ((first
    | (go_at_call 29; refine (P'.out.kl (w.alloc (.cells x.cells 51)).drew (P'.out.both.rep.frame fun _ _ => rfl) (heap_alloc_new w _) P'.out.nl).mono ?_; rintro e w1 ⟨rfl, hX1, d', h1, e1, s1⟩; obtain ⟨_, z1, z2, z3, z4, z5⟩ := dd_cells hX1)
    | (go_at_call 45; refine (P'.out.kr _ (rrep_kept P'.out.both.rrep P'.out.both.apart s1.undrew).1 hX1 P'.out.nr).mono ?_; rintro e w2 ⟨rfl, hX2, r', h2, e2, s2⟩; obtain ⟨_, y1, y2, y3, y4, y5⟩ := dd_cells hX2)))
  go_wp2
  go_ret
  exact ⟨rfl, P'.out.done h1 e1 s1.undrew h2 e2 s2⟩

set_option maxHeartbeats 1000000 in
theorem do_cut {w : World} {B b c : Nat} {d : Ds} {r : Rs} (h : Both w B b c d r) (x : Dd) (hk : x.kind % 10 = 3) (hk0 : 0 ≤ x.kind) (hk1 : x.kind ≤ 255) (hc : r.count ≤ 100000) (hn : x.name.size ≤ 101) (hs : x.s.size ≤ 101) (hN : x.n ≤ 9223372036854775807) :
    Calls Try.prog 21 #[.pointer (some ⟨b, 0, none⟩), .pointer (some ⟨c, 0, none⟩), .agg x.cells] w fun e w' => e = .returned (.bool true) ∧ Done w B b c d r w' := by
  have P := pair_cut h x hc hn hs hN
  have qA : ((opCut d.pl x.name x.n).1 == (opCut d.pl x.name x.n).1) = true := beq_self_eq_true _
  generalize (opCut d.pl x.name x.n).1 = A at *
  have P' : Aside _ := P
  clear h hc P
  unfold Dd.cells
  go_enter Try.func21, Try.ntmps21
  go_wp2
  go_region_held3 (fun u => u.cell? ⟨w.heap.size, 1, none⟩ = some (.string x.name) ∧ u.cell? ⟨w.heap.size, 3, none⟩ = some (.int .i64 x.n)) (go_keep) ((first
    | (go_at_call 50; refine (P'.out.kl (w.alloc (.cells x.cells 51)).drew (P'.out.both.rep.frame fun _ _ => rfl) (heap_alloc_new w _) P'.out.nl).mono ?_; rintro e w1 ⟨rfl, hX1, d', h1, e1, s1⟩; obtain ⟨_, z1, z2, z3, z4, z5⟩ := dd_cells hX1)
    | (go_at_call 51; refine (P'.out.kr _ (rrep_kept P'.out.both.rrep P'.out.both.apart s1.undrew).1 hX1 P'.out.nr).mono ?_; rintro e w2 ⟨rfl, hX2, r', h2, e2, s2⟩; obtain ⟨_, y1, y2, y3, y4, y5⟩ := dd_cells hX2)))
  go_wp2
  go_ret
  exact ⟨rfl, P'.out.done h1 e1 s1.undrew h2 e2 s2⟩

set_option maxHeartbeats 1000000 in
theorem do_rename {w : World} {B b c : Nat} {d : Ds} {r : Rs} (h : Both w B b c d r) (x : Dd) (hk : x.kind % 10 = 4) (hk0 : 0 ≤ x.kind) (hk1 : x.kind ≤ 255) (hc : r.count ≤ 100000) (hn : x.name.size ≤ 101) (hs : x.s.size ≤ 101) (hN : x.n ≤ 9223372036854775807) :
    Calls Try.prog 21 #[.pointer (some ⟨b, 0, none⟩), .pointer (some ⟨c, 0, none⟩), .agg x.cells] w fun e w' => e = .returned (.bool true) ∧ Done w B b c d r w' := by
  have P := pair_rename h x hc hn hs hN
  have qA : ((opRename d.pl x.name x.s).1 == (opRename d.pl x.name x.s).1) = true := beq_self_eq_true _
  generalize (opRename d.pl x.name x.s).1 = A at *
  have P' : Aside _ := P
  clear h hc P
  unfold Dd.cells
  go_enter Try.func21, Try.ntmps21
  go_wp2
  go_region_held3 (fun u => u.cell? ⟨w.heap.size, 1, none⟩ = some (.string x.name) ∧ u.cell? ⟨w.heap.size, 2, none⟩ = some (.string x.s)) (go_keep) ((first
    | (go_at_call 30; refine (P'.out.kl (w.alloc (.cells x.cells 51)).drew (P'.out.both.rep.frame fun _ _ => rfl) (heap_alloc_new w _) P'.out.nl).mono ?_; rintro e w1 ⟨rfl, hX1, d', h1, e1, s1⟩; obtain ⟨_, z1, z2, z3, z4, z5⟩ := dd_cells hX1)
    | (go_at_call 46; refine (P'.out.kr _ (rrep_kept P'.out.both.rrep P'.out.both.apart s1.undrew).1 hX1 P'.out.nr).mono ?_; rintro e w2 ⟨rfl, hX2, r', h2, e2, s2⟩; obtain ⟨_, y1, y2, y3, y4, y5⟩ := dd_cells hX2)))
  go_wp2
  go_ret
  exact ⟨rfl, P'.out.done h1 e1 s1.undrew h2 e2 s2⟩

set_option maxHeartbeats 1000000 in
theorem do_remove {w : World} {B b c : Nat} {d : Ds} {r : Rs} (h : Both w B b c d r) (x : Dd) (hk : x.kind % 10 = 5) (hk0 : 0 ≤ x.kind) (hk1 : x.kind ≤ 255) (hc : r.count ≤ 100000) (hn : x.name.size ≤ 101) (hs : x.s.size ≤ 101) (hN : x.n ≤ 9223372036854775807) :
    Calls Try.prog 21 #[.pointer (some ⟨b, 0, none⟩), .pointer (some ⟨c, 0, none⟩), .agg x.cells] w fun e w' => e = .returned (.bool true) ∧ Done w B b c d r w' := by
  have P := pair_remove h x hc hn hs hN
  have qA : ((opRemove d.pl x.name).1 == (opRemove d.pl x.name).1) = true := beq_self_eq_true _
  generalize (opRemove d.pl x.name).1 = A at *
  have P' : Aside _ := P
  clear h hc P
  unfold Dd.cells
  go_enter Try.func21, Try.ntmps21
  go_wp2
  go_region_held3 (fun u => u.cell? ⟨w.heap.size, 1, none⟩ = some (.string x.name)) (go_keep) ((first
    | (go_at_call 47; refine (P'.out.kl (w.alloc (.cells x.cells 51)).drew (P'.out.both.rep.frame fun _ _ => rfl) (heap_alloc_new w _) P'.out.nl).mono ?_; rintro e w1 ⟨rfl, hX1, d', h1, e1, s1⟩; obtain ⟨_, z1, z2, z3, z4, z5⟩ := dd_cells hX1)
    | (go_at_call 49; refine (P'.out.kr _ (rrep_kept P'.out.both.rrep P'.out.both.apart s1.undrew).1 hX1 P'.out.nr).mono ?_; rintro e w2 ⟨rfl, hX2, r', h2, e2, s2⟩; obtain ⟨_, y1, y2, y3, y4, y5⟩ := dd_cells hX2)))
  go_wp2
  go_ret
  exact ⟨rfl, P'.out.done h1 e1 s1.undrew h2 e2 s2⟩

set_option maxHeartbeats 1000000 in
theorem do_rot {w : World} {B b c : Nat} {d : Ds} {r : Rs} (h : Both w B b c d r) (x : Dd) (hk : x.kind % 10 = 8) (hk0 : 0 ≤ x.kind) (hk1 : x.kind ≤ 255) (hc : r.count ≤ 100000) (hn : x.name.size ≤ 101) (hs : x.s.size ≤ 101) (hN : x.n ≤ 9223372036854775807) :
    Calls Try.prog 21 #[.pointer (some ⟨b, 0, none⟩), .pointer (some ⟨c, 0, none⟩), .agg x.cells] w fun e w' => e = .returned (.bool true) ∧ Done w B b c d r w' := by
  have P := pair_rot h x hc hn hs hN
  have qA : ((opRot d.pl x.n x.m x.by_).1 == (opRot d.pl x.n x.m x.by_).1) = true := beq_self_eq_true _
  generalize (opRot d.pl x.n x.m x.by_).1 = A at *
  have P' : Aside _ := P
  clear h hc P
  unfold Dd.cells
  go_enter Try.func21, Try.ntmps21
  go_wp2
  go_region_held3 (fun u => u.cell? ⟨w.heap.size, 3, none⟩ = some (.int .i64 x.n) ∧ u.cell? ⟨w.heap.size, 4, none⟩ = some (.int .i64 x.m) ∧ u.cell? ⟨w.heap.size, 5, none⟩ = some (.int .i64 x.by_)) (go_keep) ((first
    | (go_at_call 54; refine (P'.out.kl (w.alloc (.cells x.cells 51)).drew (P'.out.both.rep.frame fun _ _ => rfl) (heap_alloc_new w _) P'.out.nl).mono ?_; rintro e w1 ⟨rfl, hX1, d', h1, e1, s1⟩; obtain ⟨_, z1, z2, z3, z4, z5⟩ := dd_cells hX1)
    | (go_at_call 55; refine (P'.out.kr _ (rrep_kept P'.out.both.rrep P'.out.both.apart s1.undrew).1 hX1 P'.out.nr).mono ?_; rintro e w2 ⟨rfl, hX2, r', h2, e2, s2⟩; obtain ⟨_, y1, y2, y3, y4, y5⟩ := dd_cells hX2)))
  go_wp2
  go_ret
  exact ⟨rfl, P'.out.done h1 e1 s1.undrew h2 e2 s2⟩

set_option maxHeartbeats 1000000 in
theorem do_crash {w : World} {B b c : Nat} {d : Ds} {r : Rs} (h : Both w B b c d r) (x : Dd) (hk : x.kind % 10 = 6) (hk0 : 0 ≤ x.kind) (hk1 : x.kind ≤ 255) (hc : r.count ≤ 100000) (hn : x.name.size ≤ 101) (hs : x.s.size ≤ 101) (hN : x.n ≤ 9223372036854775807) :
    Calls Try.prog 21 #[.pointer (some ⟨b, 0, none⟩), .pointer (some ⟨c, 0, none⟩), .agg x.cells] w fun e w' => e = .returned (.bool true) ∧ Done w B b c d r w' := by
  have P := pair_crash h x hc hn hs hN
  have P' : Aside _ := P
  clear h hc P
  unfold Dd.cells
  go_enter Try.func21, Try.ntmps21
  go_wp2_with (first
    | (go_at_call 52; refine (P'.out.kl (w.alloc (.cells x.cells 51)) P'.out.both.rep (heap_alloc_new w _) P'.out.nl).mono ?_; rintro e w1 ⟨rfl, hX1, d', h1, e1, s1⟩; obtain ⟨_, z1, z2, z3, z4, z5⟩ := dd_cells hX1)
    | (go_at_call 53; refine (P'.out.kr _ (rrep_kept P'.out.both.rrep P'.out.both.apart s1).1 hX1 P'.out.nr).mono ?_; rintro e w2 ⟨rfl, hX2, r', h2, e2, s2⟩; obtain ⟨_, y1, y2, y3, y4, y5⟩ := dd_cells hX2))
  go_ret
  exact ⟨rfl, P'.out.done h1 e1 s1 h2 e2 s2⟩

set_option maxHeartbeats 1000000 in
theorem do_room {w : World} {B b c : Nat} {d : Ds} {r : Rs} (h : Both w B b c d r) (x : Dd) (hk : x.kind % 10 = 7) (hk0 : 0 ≤ x.kind) (hk1 : x.kind ≤ 255) (hc : r.count ≤ 100000) (hn : x.name.size ≤ 101) (hs : x.s.size ≤ 101) (hN : x.n ≤ 9223372036854775807) :
    Calls Try.prog 21 #[.pointer (some ⟨b, 0, none⟩), .pointer (some ⟨c, 0, none⟩), .agg x.cells] w fun e w' => e = .returned (.bool true) ∧ Done w B b c d r w' := by
  have P := pair_room h x hc hn hs hN
  have P' : Aside _ := P
  clear h hc P
  unfold Dd.cells
  go_enter Try.func21, Try.ntmps21
  go_wp2_with (first
    | (go_at_call 28; refine (P'.out.kl (w.alloc (.cells x.cells 51)) P'.out.both.rep (heap_alloc_new w _) P'.out.nl).mono ?_; rintro e w1 ⟨rfl, hX1, d', h1, e1, s1⟩; obtain ⟨_, z1, z2, z3, z4, z5⟩ := dd_cells hX1)
    | (go_at_call 43; refine (P'.out.kr _ (rrep_kept P'.out.both.rrep P'.out.both.apart s1).1 hX1 P'.out.nr).mono ?_; rintro e w2 ⟨rfl, hX2, r', h2, e2, s2⟩; obtain ⟨_, y1, y2, y3, y4, y5⟩ := dd_cells hX2))
  go_ret
  exact ⟨rfl, P'.out.done h1 e1 s1 h2 e2 s2⟩

set_option maxHeartbeats 1000000 in
theorem do_fuse {w : World} {B b c : Nat} {d : Ds} {r : Rs} (h : Both w B b c d r) (x : Dd) (hk : x.kind % 10 = 9) (hk0 : 0 ≤ x.kind) (hk1 : x.kind ≤ 255) (hc : r.count ≤ 100000) (hn : x.name.size ≤ 101) (hs : x.s.size ≤ 101) (hN : x.n ≤ 9223372036854775807) :
    Calls Try.prog 21 #[.pointer (some ⟨b, 0, none⟩), .pointer (some ⟨c, 0, none⟩), .agg x.cells] w fun e w' => e = .returned (.bool true) ∧ Done w B b c d r w' := by
  have P := pair_fuse h x hc hn hs hN
  have P' : Aside _ := P
  clear h hc P
  unfold Dd.cells
  go_enter Try.func21, Try.ntmps21
  go_wp2_with (first
    | (go_at_call 56; refine (P'.out.kl (w.alloc (.cells x.cells 51)) P'.out.both.rep (heap_alloc_new w _) P'.out.nl).mono ?_; rintro e w1 ⟨rfl, hX1, d', h1, e1, s1⟩; obtain ⟨_, z1, z2, z3, z4, z5⟩ := dd_cells hX1)
    | (go_at_call 57; refine (P'.out.kr _ (rrep_kept P'.out.both.rrep P'.out.both.apart s1).1 hX1 P'.out.nr).mono ?_; rintro e w2 ⟨rfl, hX2, r', h2, e2, s2⟩; obtain ⟨_, y1, y2, y3, y4, y5⟩ := dd_cells hX2))
  go_ret
  exact ⟨rfl, P'.out.done h1 e1 s1 h2 e2 s2⟩

theorem do_any {w : World} {B b c : Nat} {d : Ds} {r : Rs} (h : Both w B b c d r) (x : Dd) (hk0 : 0 ≤ x.kind) (hk1 : x.kind ≤ 255) (hc : r.count ≤ 100000) (hn : x.name.size ≤ 101) (hs : x.s.size ≤ 101) (hN : x.n ≤ 9223372036854775807) :
    Calls Try.prog 21 #[.pointer (some ⟨b, 0, none⟩), .pointer (some ⟨c, 0, none⟩), .agg x.cells] w fun e w' => e = .returned (.bool true) ∧ Done w B b c d r w' := by
  have hk : x.kind % 10 = 0 ∨ x.kind % 10 = 1 ∨ x.kind % 10 = 2 ∨ x.kind % 10 = 3 ∨ x.kind % 10 = 4 ∨ x.kind % 10 = 5 ∨ x.kind % 10 = 6 ∨ x.kind % 10 = 7 ∨ x.kind % 10 = 8 ∨ x.kind % 10 = 9 := by omega
  rcases hk with hk | hk | hk | hk | hk | hk | hk | hk | hk | hk
  · exact do_append0 h x hk hk0 hk1 hc hn hs hN
  · exact do_append1 h x hk hk0 hk1 hc hn hs hN
  · exact do_sync h x hk hk0 hk1 hc hn hs hN
  · exact do_cut h x hk hk0 hk1 hc hn hs hN
  · exact do_rename h x hk hk0 hk1 hc hn hs hN
  · exact do_remove h x hk hk0 hk1 hc hn hs hN
  · exact do_crash h x hk hk0 hk1 hc hn hs hN
  · exact do_room h x hk hk0 hk1 hc hn hs hN
  · exact do_rot h x hk hk0 hk1 hc hn hs hN
  · exact do_fuse h x hk hk0 hk1 hc hn hs hN
end Go.Proofs.Ytnmamaeoghgegaa.Dk
