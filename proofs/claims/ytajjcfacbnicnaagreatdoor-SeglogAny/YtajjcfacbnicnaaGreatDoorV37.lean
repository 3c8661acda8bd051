/-
  YtajjcfacbnicnaaGreatDoor: the texts C9, C10, C11, one behind the other.
-/
import Derived.Test.YtajjcfacbnicnaaGreatDoorV32
import Derived.Test.YtajjcfacbnicnaaGreatDoorV29
import Derived.Test.YtajjcfacbnicnaaGreatDoorV30
import Derived.Test.YtajjcfacbnicnaaGreatDoorV36
import Derived.WalkKit
import Derived.WalkSpells
import Derived.WalkLawsBesides
import Derived.Deep.LoopGhost
import Derived.Laws.Externs
import Derived.Below
import Derived.BigQuiet
import Derived.Deep.RegionWith
import Derived.OwnWalk
import Derived.Maps.AppendAt
import Derived.WalkSmall
import Derived.Deep.RegionHeld3
import Derived.Test.YtajjcfacbnicnaaGreatDoorV35
/-
  Both disks, both logs, in one memory.
-/
namespace Go.Proofs.YtajjcfacbnicnaaGreatDoor
open Go.RowKit
set_option maxRecDepth 100000
open Fm (cellsS)
/-- Both disks, and what lay there ahead of them. -/
structure TD (W : World) (B b c N : Nat) (d : Dk.Ds) (r : Dk.Rs) (u : World) : Prop where
  both : Dk.Both u B b c d r
  cnt : r.count ≤ 310 * N
  sz : ∀ n ∈ d.names, n.size ≤ 1000
  vars : Vars u
  hB : 4 ≤ B
  bel : Below W.heap.size W u
  le : W.heap.size ≤ B
theorem TD.dsk {W u : World} {B b c N : Nat} {d : Dk.Ds} {r : Dk.Rs} (h : TD W B b c N d r u) : Dsk B b d u := ⟨h.both.rep, h.both.ok, h.sz, h.vars, h.hB⟩
theorem TD.rb {W u : World} {B b c N : Nat} {d : Dk.Ds} {r : Dk.Rs} (h : TD W B b c N d r u) : Rb u B c d r := rb_of h.both
theorem TD.later {W u u' : World} {B b c N : Nat} {d : Dk.Ds} {r : Dk.Rs} (h : TD W B b c N d r u) (hb : Below u.heap.size u u') : TD W B b c N d r u' :=
  ⟨h.both.below hb, h.cnt, h.sz, h.vars.below hb, h.hB, h.bel.trans (hb.mono h.bel.size), h.le⟩
theorem TD.hs {W u : World} {B b c N : Nat} {d : Dk.Ds} {r : Dk.Rs} (h : TD W B b c N d r u) : B ≤ u.heap.size := by
  have := h.both.rep.lt b Dk.foot_b
  omega
theorem TD.more {W u : World} {B b c N M : Nat} {d : Dk.Ds} {r : Dk.Rs} (h : TD W B b c N d r u) (hM : N ≤ M) : TD W B b c M d r u :=
  ⟨h.both, by have := h.cnt; omega, h.sz, h.vars, h.hB, h.bel, h.le⟩
/-- The program's disk has gone a step. -/
theorem TD.half {W u u1 : World} {B b c N : Nat} {d d' : Dk.Ds} {r : Dk.Rs} (h : TD W B b c N d r u) (st : Dk.Step (d.foot b) (d'.foot b) u u1) : Rb u1 B c d r ∧ ∀ k ∈ d'.foot b, k ∉ r.foot c := by
  obtain ⟨a1, a2⟩ := Dk.rrep_kept h.both.rrep h.both.apart st
  exact ⟨⟨a1, h.both.ok, h.both.rel⟩, a2⟩
/-- .. and then the document's, as far as it goes; Y: what else the document's call may write. -/
theorem TD.whole {W u u1 u2 : World} {B b c N M : Nat} {d d' : Dk.Ds} {r r' : Dk.Rs} {Y : List Nat} (h : TD W B b c N d r u) (D : Dsk B b d' u1) (st : Dk.Step (d.foot b) (d'.foot b) u u1) (R : Dk.RRep u2 B c r') (T : ∃ T, Dk.Rel d'.pl r'.pl T) (hc : r'.count ≤ 310 * M) (st2 : Dk.Step (Y ++ r.foot c) (Y ++ r'.foot c) u1 u2) (hY : ∀ k ∈ Y, B ≤ k ∧ k ∉ d'.foot b) : TD W B b c M d' r' u2 := by
  obtain ⟨_, ap⟩ := h.half st
  have lo2 : ∀ k ∈ Y ++ r.foot c, B ≤ k := fun k hk => by
    rcases List.mem_append.1 hk with hk | hk
    · exact (hY k hk).1
    · exact (h.both.rrep.lt k hk).1
  have b2 : Below B u1 u2 := st2.below lo2 D.hs
  have b1 : Below B u u1 := st.below (fun k hk => (h.both.rep.lt k hk).1) h.hs
  refine ⟨⟨D.rep.frame fun k hk => st2.block k (D.rep.lt k hk).2 (fun hm => ?_), R, D.ok, T, fun k hk hm => ?_⟩, hc, D.sz, D.vars.keep D.hB b2, h.hB, ?_, h.le⟩
  · rcases List.mem_append.1 hm with hm | hm
    · exact (hY k hm).2 hk
    · exact ap k hk hm
  · rcases st2.sub k (List.mem_append_right _ hm) with e | e
    · rcases List.mem_append.1 e with e | e
      · exact (hY k e).2 hk
      · exact ap k hk e
    · have := (D.rep.lt k hk).2
      omega
  · exact h.bel.trans ((b1.trans b2).mono h.le)
theorem count310 {a b N : Nat} (h : a ≤ 310 * N) (h2 : b ≤ a + 310) : b ≤ 310 * (N + 1) := by omega
/-- A block of another type is none of a row's. -/
theorem own_other {w : World} {base : Nat} {e : TypeId} {size n k : Nat} {v : Value} {xs : List Value} {cs : Array Value} {t : TypeId} {z : Nat × Nat} (h : w.ownsRow base e size v n xs) (hk : v.ownBlock = some k) (h2 : w.heap[k]? = some (.cells cs t z)) (hne : t ≠ e) : False := by
  rcases h.2 with ⟨rfl, _⟩ | ⟨g, cap, cur, rfl, hb, hh, _⟩
  · simp [Value.ownBlock] at hk
  · simp [Value.ownBlock] at hk
    subst hk
    rw [hh] at h2
    injection h2 with h2
    injection h2 with _ h3
    exact hne h3.symm
/-- The logs too. -/
structure TL (W : World) (B b c : Nat) (f m : Int) (l y N : Nat) (d : Dk.Ds) (r : Dk.Rs) (u : World) : Prop where
  td : TD W B b c N d r u
  lg : LgAt u l b f m
  lr : LrAt u y c f (lLast d.pl f) m
  l1 : l ∉ d.foot b
  l2 : l ∉ r.foot c
  y1 : y ∉ d.foot b
  y2 : y ∉ r.foot c
  ne : l ≠ y
  lB : B ≤ l
  yB : B ≤ y
  f1 : 1 ≤ f
  f2 : f ≤ 99999
  row : rowB f (nums d.pl.names f) = true
theorem TL.sys {W u : World} {B b c : Nat} {f m : Int} {l y N : Nat} {d : Dk.Ds} {r : Dk.Rs} (h : TL W B b c f m l y N d r u) : Sys B l b f m d u := ⟨h.td.both.rep, h.td.both.ok, h.td.sz, h.lg, h.l1, h.td.vars, h.td.hB⟩
theorem TL.later {W u u' : World} {B b c : Nat} {f m : Int} {l y N : Nat} {d : Dk.Ds} {r : Dk.Rs} (h : TL W B b c f m l y N d r u) (hb : Below u.heap.size u u') : TL W B b c f m l y N d r u' :=
  ⟨h.td.later hb, h.lg.below hb, h.lr.below hb, h.l1, h.l2, h.y1, h.y2, h.ne, h.lB, h.yB, h.f1, h.f2, h.row⟩
/-- A call of the program's log has been done. -/
theorem TL.half {W u u1 : World} {B b c : Nat} {f m : Int} {l y N : Nat} {d d' : Dk.Ds} {r : Dk.Rs} (h : TL W B b c f m l y N d r u) (st : Dk.Step (d.foot b) (d'.foot b) u u1) : Rb u1 B c d r ∧ LrAt u1 y c f (lLast d.pl f) m :=
  ⟨(h.td.half st).1, h.lr.step st h.y1⟩
/-- .. and the document's. -/
theorem TL.whole {W u u1 u2 : World} {B b c : Nat} {f m : Int} {l y N M : Nat} {d d' : Dk.Ds} {r r' : Dk.Rs} (h : TL W B b c f m l y N d r u) (S : Sys B l b f m d' u1) (st : Dk.Step (d.foot b) (d'.foot b) u u1) (R : Dk.RRep u2 B c r') (T : ∃ T, Dk.Rel d'.pl r'.pl T) (hc : r'.count ≤ 310 * M) (st2 : Dk.Step (y :: r.foot c) (y :: r'.foot c) u1 u2) (L : LrAt u2 y c f (lLast d'.pl f) m) (row : rowB f (nums d'.pl.names f) = true) : TL W B b c f m l y M d' r' u2 := by
  have hy1 : y ∉ d'.foot b := notin_step st h.y1 h.lr.lt
  have htd : TD W B b c M d' r' u2 := h.td.whole (Y := [y]) S.dsk st R T hc st2 (fun k hk => by
    obtain rfl := List.mem_singleton.1 hk
    exact ⟨h.yB, hy1⟩)
  have hl : ∀ k, k < u1.heap.size → k ∉ r.foot c → k ≠ y → k ∉ r'.foot c := fun k hk h1 h2 hm => by
    rcases st2.sub k (List.mem_cons_of_mem _ hm) with e | e
    · rcases List.mem_cons.1 e with e | e
      · exact h2 e
      · exact h1 e
    · omega
  have hlt : l < u1.heap.size := S.lg.lt
  have hyr : y ∉ r'.foot c := fun hm => by
    have h1 := R.blk
    have h2 := L
    rcases Dk.rfoot_cases hm with e | e | ⟨g, hg, e | e⟩
    · subst e
      unfold LrAt at h2
      rw [h1] at h2
      injection h2 with h2
      injection h2 with _ h3
      cases h3
    · exact own_other R.tab e h2 (by decide)
    · exact own_other (R.rb g hg) e h2 (by decide)
    · exact own_other (R.rl g hg) e h2 (by decide)
  exact ⟨htd, (st2.block l hlt (fun hm => by
    rcases List.mem_cons.1 hm with e | e
    · exact h.ne e
    · exact h.l2 e)).trans S.lg, L, S.out, hl l hlt h.l2 h.ne, hy1, hyr, h.ne, h.lB, h.yB, h.f1, h.f2, row⟩
/-- Nothing but what the document's disk has was written. -/
theorem TL.same {W u u1 u2 : World} {B b c : Nat} {f m : Int} {l y N M : Nat} {d d' : Dk.Ds} {r r' : Dk.Rs} (h : TL W B b c f m l y N d r u) (S : Sys B l b f m d' u1) (st : Dk.Step (d.foot b) (d'.foot b) u u1) (R : Dk.RRep u2 B c r') (T : ∃ T, Dk.Rel d'.pl r'.pl T) (hc : r'.count ≤ 310 * M) (st2 : Dk.Step (r.foot c) (r'.foot c) u1 u2) (hn : d'.pl.names = d.pl.names) : TL W B b c f m l y M d' r' u2 := by
  obtain ⟨e1, e2⟩ := names_alike hn f
  refine h.whole S st R T hc (step_cons st2 y) ?_ (by rw [e1]; exact h.row)
  rw [e2]
  exact (h.half st).2.step st2 h.y2
/-- Open of both, where it fails. -/
theorem TD.err {W u u3 u4 : World} {B b c N : Nat} {d d' : Dk.Ds} {r r' : Dk.Rs} (h : TD W B b c N d r u) (D : Dsk B b d' u3) (st : Dk.Step (d.foot b) (d'.foot b) u u3) (R : Dk.RRep u4 B c r') (T : ∃ T, Dk.Rel d'.pl r'.pl T) (hc : r'.count = r.count) (st2 : Dk.Step (r.foot c) (r'.foot c) u3 u4) : TD W B b c N d' r' u4 :=
  h.whole (Y := []) D st R T (by rw [hc]; exact h.cnt) st2 (fun k hk => by cases hk)
/-- .. and where it doesn't. -/
theorem TD.opened {W u u3 u4 : World} {B b c N l y : Nat} {f m : Int} {d d' : Dk.Ds} {r r' : Dk.Rs} (h : TD W B b c N d r u) (S : Sys B l b f m d' u3) (st : Dk.Step (d.foot b) (d'.foot b) u u3) (hl : u.heap.size ≤ l) (R : Dk.RRep u4 B c r') (T : ∃ T, Dk.Rel d'.pl r'.pl T) (hc : r'.count = r.count) (st2 : Dk.Step (r.foot c) (r'.foot c) u3 u4) (L : LrAt u4 y c f (lLast d'.pl f) m) (hy : u3.heap.size ≤ y) (hyr : y ∉ r'.foot c) (f1 : 1 ≤ f) (f2 : f ≤ 99999) (row : rowB f (nums d'.pl.names f) = true) : TL W B b c f m l y N d' r' u4 := by
  have hd := h.err S.dsk st R T hc st2
  have hlr : l ∉ r.foot c := fun hm => by
    have := (h.both.rrep.lt l hm).2
    omega
  have hlt := S.lg.lt
  have hs := h.hs
  refine ⟨hd, (st2.block l hlt hlr).trans S.lg, L, S.out, fun hm => ?_, fun hm => ?_, hyr, by omega, by omega, by omega, f1, f2, row⟩
  · rcases st2.sub l hm with e | e
    · exact hlr e
    · omega
  · have := (S.rep.lt y hm).2
    omega
/-- The records that the program's Open gave, behind the document's. -/
theorem TD.kept {W u u3 u4 : World} {B b c N : Nat} {d : Dk.Ds} {r r' : Dk.Rs} {rv : Value} {rs : List ByteArray} (h : TD W B b c N d r u) (own : u3.ownsRow u.heap.size 9 1 rv rs.length (cellsS rs)) (st2 : Dk.Step (r.foot c) (r'.foot c) u3 u4) : u4.ownsRow u.heap.size 9 1 rv rs.length (cellsS rs) :=
  Dk.own_frame own fun k hk => st2.block k (own.lt k hk).2 (fun hm => by
    have := (h.both.rrep.lt k hm).2
    have := (own.lt k hk).1
    omega)
theorem rlopen_er {w : World} {B c : Nat} {d : Dk.Ds} {r : Dk.Rs} (h : Rb w B c d r) (hc : r.count ≤ 1000000) (hsz : ∀ t ∈ d.pl.names, t.size ≤ 1000) (f lim : Int) {E : Int} (hO : (lOpen d.pl f).1 = .error E) :
    Calls Tryz.prog 12 #[.pointer (some ⟨c, 0, none⟩), .int .i64 f, .int .i64 lim] w fun e w' => e = .returned (.tuple #[.pointer none, .slice none 0 0, .int .i64 E]) ∧ ∃ r', Dk.RRep w' B c r' ∧ (∃ T, Dk.Rel (lOpen d.pl f).2 r'.pl T) ∧ r'.count = r.count ∧ Dk.Step (r.foot c) (r'.foot c) w w' := by
  refine (rlopen_any h hc hsz f lim).mono ?_
  rintro e w' ⟨r', h1, h2, h3, h4, ⟨E', h5, h6⟩ | ⟨rs, y, rv, h5, _⟩⟩
  · rw [hO] at h5
    injection h5 with h5
    subst h5
    exact ⟨h6, r', h1, h2, h3, h4⟩
  · rw [hO] at h5
    cases h5
theorem rlopen_ok {w : World} {B c : Nat} {d : Dk.Ds} {r : Dk.Rs} (h : Rb w B c d r) (hc : r.count ≤ 1000000) (hsz : ∀ t ∈ d.pl.names, t.size ≤ 1000) (f lim : Int) {rs : List ByteArray} (hO : (lOpen d.pl f).1 = .ok rs) :
    Calls Tryz.prog 12 #[.pointer (some ⟨c, 0, none⟩), .int .i64 f, .int .i64 lim] w fun e w' => ∃ y rv r', e = .returned (.tuple #[.pointer (some ⟨y, 0, none⟩), rv, .int .i64 0]) ∧ Dk.RRep w' B c r' ∧ (∃ T, Dk.Rel (lOpen d.pl f).2 r'.pl T) ∧ r'.count = r.count ∧ Dk.Step (r.foot c) (r'.foot c) w w' ∧
      LrAt w' y c f (lLast (lOpen d.pl f).2 f) (wi lim) ∧ w.heap.size ≤ y ∧ y ∉ r'.foot c ∧ w'.ownsRow w.heap.size 9 1 rv rs.length (cellsS rs) := by
  refine (rlopen_any h hc hsz f lim).mono ?_
  rintro e w' ⟨r', h1, h2, h3, h4, ⟨E', h5, h6⟩ | ⟨rs', y, rv, h5, h6, h7, h8, h9, h10, _⟩⟩
  · rw [hO] at h5
    cases h5
  · rw [hO] at h5
    injection h5 with h5
    subst h5
    exact ⟨y, rv, r', h6, h1, h2, h3, h4, h7, h8, h9, h10⟩
theorem rlappend_none (s : ByteArray) (n : Int) (w : World) : Calls Tryz.prog 14 #[.pointer none, .string s, .int .i64 n] w fun e w' => e = .returned (.int .i64 1) ∧ w' = w := by
  go_enter Tryz.func14, Tryz.ntmps14
  go_wp2
  go_ret
  exact ⟨rfl, rfl⟩
/-- Both disks, made anew. -/
theorem td_new {W w1 w2 : World} {B b c : Nat} {d : Dk.Ds} {r : Dk.Rs} {n : Int} (h1 : Dsk B b d w1) (e1 : d.pl = Dk.opRoom Dk.emptySt n) (h2 : Dk.RRep w2 B c r) (e2 : r.pl = Dk.rRoom Dk.rEmpty n) (f2 : ∀ k ∈ r.foot c, w1.heap.size ≤ k) (b2 : Below w1.heap.size w1 w2) (hW : Below W.heap.size W w1) (hle : W.heap.size ≤ B) : TD W B b c 0 d r w2 := by
  refine ⟨⟨h1.rep.below b2, h2, h1.ok, ⟨[], ?_⟩, fun k hk hm => ?_⟩, ?_, h1.sz, h1.vars.below b2, h1.hB, hW.trans (b2.mono hW.size), hle⟩
  · rw [e1, e2]
    exact ⟨rfl, rfl, List.Pairwise.nil, fun x hx => (by cases hx), rfl, rfl, rfl, fun e => (by cases e)⟩
  · have := (h1.rep.lt k hk).2
    have := f2 k hm
    omega
  · rw [← Dk.count_pl, e2]
    show 0 ≤ 310 * 0
    omega
end Go.Proofs.YtajjcfacbnicnaaGreatDoor

/-
  Deeds done to both disks, with logs on them; Sync and a crash of the document's.
-/
namespace Go.Proofs.YtajjcfacbnicnaaGreatDoor
open Go.RowKit
set_option maxRecDepth 100000
namespace Dk
/-- What is behind a deed, and what the program's disk then has. -/
def DoneAs (w : World) (B b c : Nat) (d : Ds) (r : Rs) (s : St) (w' : World) : Prop := ∃ d' r', Both w' B b c d' r' ∧ d'.pl = s ∧ r'.count ≤ r.count + 101 ∧ Step (d.foot b ++ r.foot c) (d'.foot b ++ r'.foot c) w w'
theorem Pair.doneAs {w w1 w2 : World} {B b c : Nat} {d d' : Ds} {r r' : Rs} {x : Dd} {f g : Nat} {af ag : Array Value} {a : Value} {s : St} {q : RS} (p : Pair w B b c d r x f g af ag a s q) (h1 : Rep w1 B b d') (e1 : d'.pl = s) (s1 : Step (d.foot b) (d'.foot b) (w.alloc (.cells x.cells 48)) w1) (h2 : RRep w2 B c r') (e2 : r'.pl = q) (s2 : Step (r.foot c) (r'.foot c) w1 w2) : DoneAs w B b c d r s w2 := by
  obtain ⟨_, a1⟩ := rrep_kept p.both.rrep p.both.apart s1
  obtain ⟨h3, a2⟩ := rep_kept h1 a1 s2
  exact ⟨d', r', ⟨h3, h2, e1 ▸ p.ok, e1 ▸ e2 ▸ p.rel, a2⟩, e1, by rw [← count_pl, e2]; exact p.cnt, (Step.ofBelow ((Below.refl _ _).alloc (Nat.le_refl _) _)).trans ((s1.frame (r.foot c)).trans (s2.frameL (d'.foot b)))⟩
set_option maxHeartbeats 1000000 in
theorem do_rot2 {w : World} {B b c : Nat} {d : Ds} {r : Rs} (h : Both w B b c d r) (x : Dd) (hk : x.kind % 10 = 8) (hk0 : 0 ≤ x.kind) (hk1 : x.kind ≤ 255) (hc : r.count ≤ 100000) (hn : x.name.size ≤ 101) (hs : x.s.size ≤ 101) (hN : x.n ≤ 9223372036854775807) :
    Calls Tryz.prog 20 #[.pointer (some ⟨b, 0, none⟩), .pointer (some ⟨c, 0, none⟩), .agg x.cells] w fun e w' => e = .returned (.bool true) ∧ DoneAs w B b c d r (opRot d.pl x.n x.m x.by_).2 w' := by
  have P := pair_rot h x hc hn hs hN
  have qA : ((opRot d.pl x.n x.m x.by_).1 == (opRot d.pl x.n x.m x.by_).1) = true := beq_self_eq_true _
  generalize (opRot d.pl x.n x.m x.by_).1 = A at *
  have P' : Aside _ := P
  clear h hc P
  unfold Dd.cells
  go_enter Tryz.func20, Tryz.ntmps20
  go_wp2
  go_region_held3 (fun u => u.cell? ⟨w.heap.size, 3, none⟩ = some (.int .i64 x.n) ∧ u.cell? ⟨w.heap.size, 4, none⟩ = some (.int .i64 x.m) ∧ u.cell? ⟨w.heap.size, 5, none⟩ = some (.int .i64 x.by_)) (go_keep) ((first
    | (go_at_call 28; refine (P'.out.kl (w.alloc (.cells x.cells 48)).drew (P'.out.both.rep.frame fun _ _ => rfl) (heap_alloc_new w _) P'.out.nl).mono ?_; rintro e w1 ⟨rfl, hX1, d', h1, e1, s1⟩; obtain ⟨_, z1, z2, z3, z4, z5⟩ := dd_cells hX1)
    | (go_at_call 61; refine (P'.out.kr _ (rrep_kept P'.out.both.rrep P'.out.both.apart s1.undrew).1 hX1 P'.out.nr).mono ?_; rintro e w2 ⟨rfl, hX2, r', h2, e2, s2⟩; obtain ⟨_, y1, y2, y3, y4, y5⟩ := dd_cells hX2)))
  go_wp2
  go_ret
  exact ⟨rfl, P'.out.doneAs h1 e1 s1.undrew h2 e2 s2⟩
set_option maxHeartbeats 1000000 in
theorem do_room2 {w : World} {B b c : Nat} {d : Ds} {r : Rs} (h : Both w B b c d r) (x : Dd) (hk : x.kind % 10 = 7) (hk0 : 0 ≤ x.kind) (hk1 : x.kind ≤ 255) (hc : r.count ≤ 100000) (hn : x.name.size ≤ 101) (hs : x.s.size ≤ 101) (hN : x.n ≤ 9223372036854775807) :
    Calls Tryz.prog 20 #[.pointer (some ⟨b, 0, none⟩), .pointer (some ⟨c, 0, none⟩), .agg x.cells] w fun e w' => e = .returned (.bool true) ∧ DoneAs w B b c d r (opRoom d.pl x.n) w' := by
  have P := pair_room h x hc hn hs hN
  have P' : Aside _ := P
  clear h hc P
  unfold Dd.cells
  go_enter Tryz.func20, Tryz.ntmps20
  go_wp2_with (first
    | (go_at_call 27; refine (P'.out.kl (w.alloc (.cells x.cells 48)) P'.out.both.rep (heap_alloc_new w _) P'.out.nl).mono ?_; rintro e w1 ⟨rfl, hX1, d', h1, e1, s1⟩; obtain ⟨_, z1, z2, z3, z4, z5⟩ := dd_cells hX1)
    | (go_at_call 35; refine (P'.out.kr _ (rrep_kept P'.out.both.rrep P'.out.both.apart s1).1 hX1 P'.out.nr).mono ?_; rintro e w2 ⟨rfl, hX2, r', h2, e2, s2⟩; obtain ⟨_, y1, y2, y3, y4, y5⟩ := dd_cells hX2))
  go_ret
  exact ⟨rfl, P'.out.doneAs h1 e1 s1 h2 e2 s2⟩
set_option maxHeartbeats 1000000 in
theorem do_fuse2 {w : World} {B b c : Nat} {d : Ds} {r : Rs} (h : Both w B b c d r) (x : Dd) (hk : x.kind % 10 = 9) (hk0 : 0 ≤ x.kind) (hk1 : x.kind ≤ 255) (hc : r.count ≤ 100000) (hn : x.name.size ≤ 101) (hs : x.s.size ≤ 101) (hN : x.n ≤ 9223372036854775807) :
    Calls Tryz.prog 20 #[.pointer (some ⟨b, 0, none⟩), .pointer (some ⟨c, 0, none⟩), .agg x.cells] w fun e w' => e = .returned (.bool true) ∧ DoneAs w B b c d r (opFuse d.pl x.n) w' := by
  have P := pair_fuse h x hc hn hs hN
  have P' : Aside _ := P
  clear h hc P
  unfold Dd.cells
  go_enter Tryz.func20, Tryz.ntmps20
  go_wp2_with (first
    | (go_at_call 26; refine (P'.out.kl (w.alloc (.cells x.cells 48)) P'.out.both.rep (heap_alloc_new w _) P'.out.nl).mono ?_; rintro e w1 ⟨rfl, hX1, d', h1, e1, s1⟩; obtain ⟨_, z1, z2, z3, z4, z5⟩ := dd_cells hX1)
    | (go_at_call 62; refine (P'.out.kr _ (rrep_kept P'.out.both.rrep P'.out.both.apart s1).1 hX1 P'.out.nr).mono ?_; rintro e w2 ⟨rfl, hX2, r', h2, e2, s2⟩; obtain ⟨_, y1, y2, y3, y4, y5⟩ := dd_cells hX2))
  go_ret
  exact ⟨rfl, P'.out.doneAs h1 e1 s1 h2 e2 s2⟩
end Dk
/-- A deed that makes no file and takes none away. -/
theorem TD.deed {W u u2 : World} {B b c N : Nat} {d : Dk.Ds} {r : Dk.Rs} {s : Dk.St} (h : TD W B b c N d r u) (hd : Dk.DoneAs u B b c d r s u2) (hn : s.names = d.pl.names) : ∃ d' r', d'.pl = s ∧ TD W B b c (N + 1) d' r' u2 ∧ Dk.Step (d.foot b ++ r.foot c) (d'.foot b ++ r'.foot c) u u2 := by
  obtain ⟨d', r', h1, h2, h3, h4⟩ := hd
  have lo : ∀ k ∈ d.foot b ++ r.foot c, B ≤ k := fun k hk => by
    rcases List.mem_append.1 hk with hk | hk
    · exact (h.both.rep.lt k hk).1
    · exact (h.both.rrep.lt k hk).1
  have hb : Below B u u2 := h4.below lo h.hs
  refine ⟨d', r', h2, ⟨h1, by have := h.cnt; omega, fun n hn2 => ?_, h.vars.keep h.hB hb, h.hB, h.bel.trans (hb.mono h.le), h.le⟩, h4⟩
  rw [← Dk.names_pl, h2, hn, Dk.names_pl] at hn2
  exact h.sz n hn2
theorem TL.deed {W u u2 : World} {B b c : Nat} {f m : Int} {l y N : Nat} {d : Dk.Ds} {r : Dk.Rs} {s : Dk.St} (h : TL W B b c f m l y N d r u) (hd : Dk.DoneAs u B b c d r s u2) (hn : s.names = d.pl.names) : ∃ d' r', TL W B b c f m l y (N + 1) d' r' u2 := by
  obtain ⟨d', r', h1, h2, h3⟩ := h.td.deed hd hn
  obtain ⟨e1, e2⟩ := names_alike hn f
  have hl : l ∉ d.foot b ++ r.foot c := fun hm => by
    rcases List.mem_append.1 hm with e | e
    · exact h.l1 e
    · exact h.l2 e
  have hy : y ∉ d.foot b ++ r.foot c := fun hm => by
    rcases List.mem_append.1 hm with e | e
    · exact h.y1 e
    · exact h.y2 e
  have hl' := notin_step h3 hl h.lg.lt
  have hy' := notin_step h3 hy h.lr.lt
  refine ⟨d', r', h2, (h3.block l h.lg.lt hl).trans h.lg, ?_, fun hm => hl' (List.mem_append_left _ hm), fun hm => hl' (List.mem_append_right _ hm), fun hm => hy' (List.mem_append_left _ hm), fun hm => hy' (List.mem_append_right _ hm), h.ne, h.lB, h.yB, h.f1, h.f2, by rw [h1, e1]; exact h.row⟩
  rw [h1, e2]
  exact h.lr.step h3 hy
/-- The document's Sync answers what the program's does. -/
theorem rlsync_ok {w : World} {B c y : Nat} {d : Dk.Ds} {r : Dk.Rs} {f m : Int} (h : Rb w B c d r) (hc : r.count ≤ 1000000) (hy : LrAt w y c f (lLast d.pl f) m) (hn : y ∉ r.foot c) :
    Calls Tryz.prog 16 #[.pointer (some ⟨y, 0, none⟩)] w fun e w' => e = .returned (.int .i64 (lSync d.pl f).1) ∧ ∃ r', Dk.RRep w' B c r' ∧ (∃ T, Dk.Rel (lSync d.pl f).2 r'.pl T) ∧ r'.count = r.count ∧ Dk.Step (r.foot c) (r'.foot c) w w' := by
  refine (rlsync_any h hc hy hn).mono ?_
  rintro e w' ⟨h1, r', h2, h3, h4⟩
  obtain ⟨T, hT⟩ := h.rel
  unfold rlSync at h1 h3
  unfold lSync
  cases ht : th d.pl (lLast d.pl f) with
  | true =>
    rw [ht] at h1 h3
    obtain ⟨e1, T', e2, e3⟩ := hT.sync h.ok (nmL (lLast d.pl f))
    simp only [if_true] at h1 h3 ⊢
    rw [e1] at h1
    rw [← h3] at e2 e3
    exact ⟨h1, r', h2, ⟨T', e2⟩, e3, h4⟩
  | false =>
    rw [ht] at h1 h3
    simp only [Bool.false_eq_true, if_false] at h1 h3 ⊢
    refine ⟨h1, r', h2, ⟨T, by rw [h3]; exact hT⟩, ?_, h4⟩
    rw [← Dk.count_pl, h3]
    rfl
theorem rb_crash {w : World} {B c : Nat} {d : Dk.Ds} {r : Dk.Rs} (h : Rb w B c d r) (hc : r.count ≤ 1000000) (n : Int) :
    Calls Tryz.prog 18 #[.pointer (some ⟨c, 0, none⟩), .int .i64 n] w fun e w' => e = .returned (.tuple #[]) ∧ ∃ r', Dk.RRep w' B c r' ∧ (∃ T, Dk.Rel (Dk.opCrash d.pl n) r'.pl T) ∧ r'.count = r.count ∧ Dk.Step (r.foot c) (r'.foot c) w w' := by
  obtain ⟨T, hT⟩ := h.rel
  refine (Dk.rcrash_any h.rrep (h.rok hc) n).mono ?_
  rintro e w' ⟨h1, r', h2, h3, h4⟩
  refine ⟨h1, r', h2, ⟨[], by rw [h3]; exact hT.crash h.ok n⟩, ?_, h4⟩
  rw [← Dk.count_pl, h3]
  rfl
theorem lsync_names (s : Dk.St) (f : Int) : (lSync s f).2.names = s.names := by
  unfold lSync
  split
  · exact names_sync _ _
  · rfl
/-- What holds at each round's head: both logs, or none. -/
def TR (W : World) (B b c : Nat) (f m : Int) (N : Nat) (vx vy : Value) (u : World) : Prop := (vx = .pointer none ∧ vy = .pointer none ∧ ∃ d r, TD W B b c N d r u) ∨ ∃ l y d r, vx = .pointer (some ⟨l, 0, none⟩) ∧ vy = .pointer (some ⟨y, 0, none⟩) ∧ TL W B b c f m l y N d r u
theorem TR.bel {W : World} {B b c : Nat} {f m : Int} {N : Nat} {vx vy : Value} {u : World} (h : TR W B b c f m N vx vy u) : Below W.heap.size W u := by
  rcases h with ⟨_, _, d, r, h⟩ | ⟨l, y, d, r, _, _, h⟩
  · exact h.bel
  · exact h.td.bel
theorem TR.later {W : World} {B b c : Nat} {f m : Int} {N : Nat} {vx vy : Value} {u u' : World} (h : TR W B b c f m N vx vy u) (hb : Below u.heap.size u u') : TR W B b c f m N vx vy u' := by
  rcases h with ⟨h1, h2, d, r, h⟩ | ⟨l, y, d, r, h1, h2, h⟩
  · exact .inl ⟨h1, h2, d, r, h.later hb⟩
  · exact .inr ⟨l, y, d, r, h1, h2, h.later hb⟩
end Go.Proofs.YtajjcfacbnicnaaGreatDoor

/-
  Open of both logs, whatever it answers.
-/
namespace Go.Proofs.YtajjcfacbnicnaaGreatDoor
open Go.RowKit
set_option maxRecDepth 100000
open Fm (cellsS)
def erO : Except Int (List ByteArray) → Int
  | .error c => c
  | .ok _ => 0
def rcO : Except Int (List ByteArray) → List ByteArray
  | .error _ => []
  | .ok rs => rs
theorem TR.more {W : World} {B b c : Nat} {f m : Int} {N M : Nat} {vx vy : Value} {u : World} (h : TR W B b c f m N vx vy u) (hM : N ≤ M) : TR W B b c f m M vx vy u := by
  rcases h with ⟨h1, h2, d, r, h⟩ | ⟨l, y, d, r, h1, h2, h⟩
  · exact .inl ⟨h1, h2, d, r, h.more hM⟩
  · exact .inr ⟨l, y, d, r, h1, h2, ⟨h.td.more hM, h.lg, h.lr, h.l1, h.l2, h.y1, h.y2, h.ne, h.lB, h.yB, h.f1, h.f2, h.row⟩⟩
/-- What the program's Open leaves of both disks. -/
structure OG (B b : Nat) (f lim : Int) (d : Dk.Ds) (u : World) (vx rv : Value) (d' : Dk.Ds) (u3 : World) : Prop where
  D : Dsk B b d' u3
  pl : d'.pl = (lOpen d.pl f).2
  st : Dk.Step (d.foot b) (d'.foot b) u u3
  own : u3.ownsRow u.heap.size 9 1 rv (rcO (lOpen d.pl f).1).length (cellsS (rcO (lOpen d.pl f).1))
  log : (∃ E, (lOpen d.pl f).1 = .error E ∧ vx = .pointer none) ∨ ∃ rs l, (lOpen d.pl f).1 = .ok rs ∧ vx = .pointer (some ⟨l, 0, none⟩) ∧ Sys B l b f (wi lim) d' u3 ∧ u.heap.size ≤ l
theorem open_gen {u : World} {B b : Nat} {d : Dk.Ds} (h : Dsk B b d u) (f lim : Int) :
    Calls Tryz.prog 11 #[.pointer (some ⟨b, 0, none⟩), .int .i64 f, .int .i64 lim] u fun e u3 => ∃ vx rv d', e = .returned (.tuple #[vx, rv, .int .i64 (erO (lOpen d.pl f).1)]) ∧ OG B b f lim d u vx rv d' u3 := by
  cases hO : (lOpen d.pl f).1 with
  | error E =>
    refine (open_er h f lim hO).mono ?_
    rintro e u3 ⟨rfl, d', h1, h2, h3⟩
    refine ⟨_, _, d', rfl, h1, h2, h3, ?_, .inl ⟨E, hO, rfl⟩⟩
    rw [hO]
    exact World.ownsRow_nil _ _ _ _
  | ok rs =>
    refine (open_ok h f lim hO).mono ?_
    rintro e u3 ⟨l, rv, d', rfl, h1, h2, h3, h4, h5, _⟩
    refine ⟨_, _, d', rfl, h1.dsk, h2, h3, ?_, .inr ⟨rs, l, hO, rfl, h1, h4⟩⟩
    rw [hO]
    exact h5
theorem rlopen_gen {W u u3 : World} {B b c N : Nat} {d d' : Dk.Ds} {r : Dk.Rs} {f lim : Int} {vx rv : Value} (h : TD W B b c N d r u) (hN : 310 * N ≤ 1000000) (g : OG B b f lim d u vx rv d' u3) :
    Calls Tryz.prog 12 #[.pointer (some ⟨c, 0, none⟩), .int .i64 f, .int .i64 lim] u3 fun e u4 => ∃ vy rv', e = .returned (.tuple #[vy, rv', .int .i64 (erO (lOpen d.pl f).1)]) ∧ TR W B b c f (wi lim) N vx vy u4 ∧
      u4.ownsRow u.heap.size 9 1 rv (rcO (lOpen d.pl f).1).length (cellsS (rcO (lOpen d.pl f).1)) ∧ u4.ownsRow u3.heap.size 9 1 rv' (rcO (lOpen d.pl f).1).length (cellsS (rcO (lOpen d.pl f).1)) := by
  have hc : r.count ≤ 1000000 := by have := h.cnt; omega
  have hsz : ∀ t ∈ d.pl.names, t.size ≤ 1000 := by rw [Dk.names_pl]; exact h.sz
  have hrb := (h.half g.st).1
  rcases g.log with ⟨E, hO, rfl⟩ | ⟨rs, l, hO, rfl, hs, hl⟩
  · refine (rlopen_er hrb hc hsz f lim hO).mono ?_
    rintro e u4 ⟨rfl, r', h1, h2, h3, h4⟩
    have ow := h.kept g.own h4
    rw [hO] at ow ⊢
    exact ⟨_, _, rfl, .inl ⟨rfl, rfl, d', r', h.err g.D g.st h1 (by rw [g.pl]; exact h2) h3 h4⟩, ow, World.ownsRow_nil _ _ _ _⟩
  · refine (rlopen_ok hrb hc hsz f lim hO).mono ?_
    rintro e u4 ⟨y, rv', r', rfl, h1, h2, h3, h4, h5, h6, h7, h8⟩
    have ow := h.kept g.own h4
    obtain ⟨q1, q2, q3⟩ := open_right hO
    have key : TL W B b c f (wi lim) l y N d' r' u4 := h.opened hs g.st hl h1 (by rw [g.pl]; exact h2) h3 h4 (by rw [g.pl]; exact h5) h6 h7 q1 q2 (by rw [g.pl]; exact q3)
    rw [hO] at ow ⊢
    exact ⟨_, _, rfl, .inr ⟨l, y, d', r', rfl, rfl, key⟩, ow, h8⟩
theorem rot_names (s : Dk.St) (a b c : Int) : (Dk.opRot s a b c).2.names = s.names := names_rot s a b c
theorem fuse_names (s : Dk.St) (n : Int) : (Dk.opFuse s n).names = s.names := by
  unfold Dk.opFuse
  split <;> rfl
theorem recs_len {s : Dk.St} (ok : Dk.Ok s) : ∀ (L : List Int) (acc : List ByteArray), (recs s L acc).1.length ≤ acc.length + 60000 * L.length
  | [], acc => by show acc.length ≤ _; simp
  | n :: r, acc => by
    have h1 := spl_len (d := dsOf s) (by rw [dsOf_pl]; exact ok) n
    rw [dsOf_pl] at h1
    have ih := recs_len ok r (acc ++ (spl s n).1.map Fm.bs)
    rw [List.length_append] at ih
    unfold recs
    rw [List.length_cons]
    split
    · split
      · rw [List.length_append]
        omega
      · simp
    · split
      · omega
      · simp
theorem few_recs {s : Dk.St} (ok : Dk.Ok s) (f : Int) : (rcO (lOpen s f).1).length ≤ 1000000 := by
  have h1 := recs_len ok (nums s.names f) []
  have h2 : (nums s.names f).length ≤ 16 := nums_le (by have := ok.few; simpa [Dk.St.names] using this)
  unfold lOpen
  split
  · exact Nat.zero_le _
  · split
    · exact Nat.zero_le _
    · split
      · show (recs s (nums s.names f) []).1.length ≤ 1000000
        simp only [List.length_nil] at h1
        omega
      · exact Nat.zero_le _
end Go.Proofs.YtajjcfacbnicnaaGreatDoor
