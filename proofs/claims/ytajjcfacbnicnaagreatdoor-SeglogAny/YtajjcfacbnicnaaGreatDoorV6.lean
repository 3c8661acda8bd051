/-
  YtajjcfacbnicnaaGreatDoor: the texts DR4, DX11, DX13, DX14, one behind the other.
-/
import Derived.Test.YtajjcfacbnicnaaGreatDoorV5
import Derived.Test.YtajjcfacbnicnaaGreatDoorV4
import Derived.Deep.RegionWith
/-
  The document's disk: a file is another one; the table is another one.
-/
namespace Go.Proofs.YtajjcfacbnicnaaGreatDoor.Dk
open Go.RowKit
set_option maxRecDepth 100000

theorem nodup_change {A X C Y : List Nat} (h : (A ++ (X ++ C)).Nodup) (hY : Y.Nodup) (hs : ∀ k ∈ Y, k ∈ X ∨ (k ∉ A ∧ k ∉ C)) : (A ++ (Y ++ C)).Nodup := by
  obtain ⟨a, b, c⟩ := List.nodup_append.1 h
  obtain ⟨b1, b2, b3⟩ := List.nodup_append.1 b
  refine List.nodup_append.2 ⟨a, List.nodup_append.2 ⟨hY, b2, ?_⟩, ?_⟩
  · intro x hx y hy e
    subst e
    rcases hs x hx with h1 | ⟨_, h1⟩
    · exact b3 x h1 x hy rfl
    · exact h1 hy
  · intro x hx y hy e
    subst e
    rcases List.mem_append.1 hy with hy | hy
    · rcases hs x hy with h1 | ⟨h1, _⟩
      · exact c x hx x (List.mem_append_left _ h1) rfl
      · exact h1 hx
    · exact c x hx x (List.mem_append_right _ hy) rfl

/-- A file is another one. -/
theorem RRep.reset {w w' : World} {B b g i : Nat} {d : Rs} {f f' : Gv} (h : RRep w B b d) (hf : d.files[i]? = some f) (hg : d.vf.ownBlock = some g)
    (ht : w'.ownsRow B 101 3 d.vf d.files.length ((d.files.set i f').flatMap Gv.cells)) (hb : w'.ownsRow B 5 1 f'.vb f'.bytes.length (bcells f'.bytes)) (hl : w'.ownsRow B 3 1 f'.vl f'.late.length (lcells f'.late))
    (keep : ∀ k, k < w.heap.size → k ≠ g → k ∉ f.obs → w'.heap[k]? = w.heap[k]?) (hs : ∀ k ∈ f'.obs, k ∈ f.obs ∨ w.heap.size ≤ k) (hn : f'.obs.Nodup)
    (e1 : w'.os = w.os) (e2 : w'.tape = w.tape) (e3 : w'.output = w.output) (e4 : w.heap.size ≤ w'.heap.size) :
    RRep w' B b { d with files := d.files.set i f' } ∧ Step (d.foot b) (Rs.foot b { d with files := d.files.set i f' }) w w' := by
  have hm : f ∈ d.files := List.mem_of_getElem? hf
  have hlt := h.lt
  obtain ⟨A, C, ea, eb, _⟩ := split_at hf f'
  have hfoot : d.foot b = ([b] ++ ob d.vf ++ A.flatMap Gv.obs) ++ (f.obs ++ C.flatMap Gv.obs) := by unfold Rs.foot; rw [ea]; simp
  have hfoot' : Rs.foot b { d with files := d.files.set i f' } = ([b] ++ ob d.vf ++ A.flatMap Gv.obs) ++ (f'.obs ++ C.flatMap Gv.obs) := by unfold Rs.foot; simp only; rw [eb]; simp
  have hn0 := h.nodup
  rw [hfoot] at hn0
  have hAC : ∀ x, x ∈ A ∨ x ∈ C → ∀ k ∈ x.obs, k ∉ f.obs := by
    intro x hx k hk hfk
    rcases hx with hx | hx
    · exact (List.nodup_append.1 hn0).2.2 k (List.mem_append_right _ (List.mem_flatMap.2 ⟨x, hx, hk⟩)) k (List.mem_append_left _ hfk) rfl
    · exact app_ne (List.nodup_append.1 hn0).2.1 hfk (List.mem_flatMap.2 ⟨x, hx, hk⟩)
  have hin : ∀ x, x ∈ A ∨ x ∈ C → x ∈ d.files := fun x hx => by
    rw [ea]
    rcases hx with hx | hx
    · exact List.mem_append_left _ hx
    · exact List.mem_append_right _ (List.mem_cons_of_mem _ hx)
  have hmem : ∀ x, x ∈ d.files.set i f' → x = f' ∨ (x ∈ A ∨ x ∈ C) := fun x hx => by
    rw [eb] at hx
    rcases List.mem_append.1 hx with hx | hx
    · exact .inr (.inl hx)
    · rcases List.mem_cons.1 hx with hx | hx
      · exact .inl hx
      · exact .inr (.inr hx)
  refine ⟨⟨h.ge, ?_, by simpa using ht, ?_, ?_, ?_⟩, ?_⟩
  · exact (keep b h.b_lt (fun e => h.b_vf hg e.symm) (fun e => h.b_f hm e rfl)).trans h.blk
  · intro x hx
    rcases hmem x hx with rfl | hx
    · exact hb
    · exact own_frame (h.rb x (hin x hx)) fun k hk => keep k ((h.rb x (hin x hx)).lt k hk).2 (fun e => h.vf_f (hin x hx) hg (e ▸ obs_b hk)) (hAC x hx k (obs_b hk))
  · intro x hx
    rcases hmem x hx with rfl | hx
    · exact hl
    · exact own_frame (h.rl x (hin x hx)) fun k hk => keep k ((h.rl x (hin x hx)).lt k hk).2 (fun e => h.vf_f (hin x hx) hg (e ▸ obs_l hk)) (hAC x hx k (obs_l hk))
  · rw [hfoot']
    refine nodup_change hn0 hn fun k hk => ?_
    rcases hs k hk with e | e
    · exact .inl e
    · refine .inr ⟨fun hm => ?_, fun hm => ?_⟩
      · have := (hlt k (by rw [hfoot]; exact List.mem_append_left _ hm)).2
        omega
      · have := (hlt k (by rw [hfoot]; exact List.mem_append_right _ (List.mem_append_right _ hm))).2
        omega
  · refine ⟨e1, e2, e3, e4, fun k hk hn => keep k hk (fun e => hn (rfoot_vf (e ▸ hg))) (fun e => hn (rfoot_f hm e)), fun k hk => ?_⟩
    rw [hfoot'] at hk
    rcases List.mem_append.1 hk with hk | hk
    · exact .inl (by rw [hfoot]; exact List.mem_append_left _ hk)
    · rcases List.mem_append.1 hk with hk | hk
      · rcases hs k hk with e | e
        · exact .inl (rfoot_f hm e)
        · exact .inr e
      · exact .inl (by rw [hfoot]; exact List.mem_append_right _ (List.mem_append_right _ hk))

/-- The table is another one. -/
theorem RRep.table {w w1 : World} {B b : Nat} {d : Rs} {v' : Value} {L : List Gv} (h : RRep w B b d) (ho : w1.ownsRow B 101 3 v' L.length (L.flatMap Gv.cells)) (hat : At w d.vf v') (hgr : w.grownBy w1 d.vf.ownBlock)
    (hb : ∀ f ∈ L, w.ownsRow B 5 1 f.vb f.bytes.length (bcells f.bytes)) (hl : ∀ f ∈ L, w.ownsRow B 3 1 f.vl f.late.length (lcells f.late))
    (hn : (L.flatMap Gv.obs).Nodup) (hout : ∀ f ∈ L, ∀ k ∈ f.obs, k ≠ b ∧ d.vf.ownBlock ≠ some k ∧ k < w.heap.size) :
    RRep (w1.setCell ⟨b, 0, none⟩ v') B b { d with files := L, vf := v' } ∧ Step (d.foot b ++ L.flatMap Gv.obs) (Rs.foot b { d with files := L, vf := v' }) w (w1.setCell ⟨b, 0, none⟩ v') := by
  have hblk : w1.heap[b]? = some (.cells d.cells 71 (0, 0)) := (hgr.block b h.b_lt (fun e => h.b_vf e.symm rfl)).trans h.blk
  have keep : ∀ k, k < w.heap.size → k ≠ b → d.vf.ownBlock ≠ some k → (w1.setCell ⟨b, 0, none⟩ v').heap[k]? = w.heap[k]? := fun k hk hb hp =>
    (Below.heap_setCell w1 ⟨b, 0, none⟩ v' k hb).trans (hgr.block k hk (fun e => hp e.symm))
  have hvb : ∀ k, v'.ownBlock = some k → k ≠ b := fun k hk e => hat.ne h.b_lt (fun e' => h.b_vf e' rfl) (e ▸ hk)
  refine ⟨⟨h.ge, set_same hblk rfl, own_frame ho fun k hk => Below.heap_setCell w1 ⟨b, 0, none⟩ v' k (hvb k hk), fun f hf => own_frame (hb f hf) fun k hk => keep k ((hb f hf).lt k hk).2 (hout f hf k (obs_b hk)).1 (hout f hf k (obs_b hk)).2.1, fun f hf => own_frame (hl f hf) fun k hk => keep k ((hl f hf).lt k hk).2 (hout f hf k (obs_l hk)).1 (hout f hf k (obs_l hk)).2.1, ?_⟩, ?_⟩
  · refine List.nodup_cons.2 ⟨fun hm => ?_, List.nodup_append.2 ⟨?_, hn, ?_⟩⟩
    · rcases List.mem_append.1 hm with hm | hm
      · exact hvb b (mem_ob.1 hm) rfl
      · obtain ⟨f, hf, hk⟩ := List.mem_flatMap.1 hm
        exact (hout f hf b hk).1 rfl
    · show (ob v').Nodup
      unfold ob
      cases v'.ownBlock <;> simp
    · intro x hx y hy e
      subst e
      obtain ⟨f, hf, hk⟩ := List.mem_flatMap.1 hy
      obtain ⟨_, h2, h3⟩ := hout f hf x hk
      exact hat.ne h3 h2 (mem_ob.1 hx)
  · refine ⟨hgr.os, hgr.tape, hgr.output, by simpa using hgr.size, fun k hk hn => keep k hk (fun e => hn (List.mem_append_left _ (e ▸ rfoot_b))) (fun e => hn (List.mem_append_left _ (rfoot_vf e))), fun k hk => ?_⟩
    rcases List.mem_cons.1 hk with rfl | hk
    · exact .inl (List.mem_append_left _ rfoot_b)
    · rcases List.mem_append.1 hk with hk | hk
      · rcases hat.sub (mem_ob.1 hk) with e | e
        · exact .inl (List.mem_append_left _ (rfoot_vf e))
        · exact .inr e
      · exact .inl (List.mem_append_right _ hk)

theorem RRep.tabcell {w w1 : World} {B b : Nat} {d : Rs} (h : RRep w B b d) (hg : w.grownBy w1 d.vf.ownBlock) : w1.cell? ⟨b, 0, none⟩ = some d.vf ∧ w1.frozen? ⟨b, 0, none⟩ = false := by
  have hblk : w1.heap[b]? = some (.cells d.cells 71 (0, 0)) := (hg.block b h.b_lt (fun e => h.b_vf e.symm rfl)).trans h.blk
  exact ⟨by rw [cell_of_row w1 b 0 _ _ _ hblk]; rfl, frozen_of_row w1 b 0 _ _ hblk⟩

theorem gflat_take (l : List Gv) (i : Nat) : (l.flatMap Gv.cells).take (i * 3) = (l.take i).flatMap Gv.cells := by
  induction l generalizing i with
  | nil => simp
  | cons a r ih =>
    cases i with
    | zero => simp
    | succ i =>
      rw [List.take_succ_cons, List.flatMap_cons, List.flatMap_cons, ← ih i, show (i + 1) * 3 = a.cells.length + i * 3 by simp [Gv.cells]; omega, List.take_length_add_append]
theorem gflat_drop (l : List Gv) (i : Nat) : (l.flatMap Gv.cells).drop (i * 3) = (l.drop i).flatMap Gv.cells := by
  induction l generalizing i with
  | nil => simp
  | cons a r ih =>
    cases i with
    | zero => simp
    | succ i =>
      rw [List.drop_succ_cons, List.flatMap_cons, ← ih i, show (i + 1) * 3 = a.cells.length + i * 3 by simp [Gv.cells]; omega, List.drop_length_add_append]

def zg : Value := .agg #[.string ⟨#[]⟩, .slice none 0 0, .slice none 0 0]
theorem info60 : (Tryz.prog.info? 101).map (fun i => (i.zero, i.size, i.bytes)) = some (some zg, 3, 64) := by kernel_rfl
theorem size60 : (Tryz.prog.info? 101).map (·.size) = some 3 := by kernel_rfl

theorem gcells_one {w : World} {B b : Nat} {d : Rs} (h : RRep w B b d) : ∀ v ∈ d.files.flatMap Gv.cells, v.oneCell' = true := by
  intro v hv
  obtain ⟨x, hx, hv⟩ := List.mem_flatMap.1 hv
  simp only [Gv.cells, List.mem_cons, List.not_mem_nil, or_false] at hv
  rcases hv with rfl | rfl | rfl
  · rfl
  · exact own_one (h.rb x hx)
  · exact own_one (h.rl x hx)

/-- The first of a row. -/
theorem own_front {w : World} {base : Nat} {e : TypeId} {v : Value} {n size : Nat} {xs : List Value} (h : w.ownsRow base e size v n xs) (i : Nat) (hi : i ≤ n) : w.ownsRow base e size (cutV v i) i (xs.take (i * size)) ∧ (cutV v i).ownBlock = v.ownBlock := by
  rcases h.2 with ⟨rfl, rfl⟩ | ⟨g, cap, cur, rfl, _⟩
  · obtain rfl : i = 0 := by omega
    exact ⟨by simpa [cutV] using World.ownsRow_nil w base e size, rfl⟩
  · exact ⟨own_cut h i hi, rfl⟩

/-- Some files of a table, put behind others. -/
theorem append_files {w : World} {B : Nat} {v : Value} {n : Nat} {xs : List Value} (h : w.ownsRow B 101 3 v n xs) (hB : B ≤ w.heap.size) (a : Addr) (m c : Nat) (news : List Value) (hl : news.length = m * 3) (hnews : ∀ j u, news[j]? = some u → w.cell? (a.add j) = some u) (h1 : ∀ u ∈ news, u.oneCell' = true) (hs : n + m ≤ 1000) (ty : TypeId) :
    ∃ v' w', (Builtin.append_ #[69, 69] ty #[v, .slice (some a) m c]).run Tryz.prog w = .ok v' w' ∧ w'.ownsRow B 101 3 v' (n + m) (xs ++ news) ∧ w.grownBy w' v.ownBlock ∧ At w v v' := by
  obtain ⟨i0, hi0, hz0, hzs, hzb⟩ := info_parts info60
  obtain ⟨v', w', hr, h2, h3, _, h5⟩ := run_append_own_at (P := Tryz.prog) w B 69 ty 101 i0 zg 3 64 Tryz.underlying69 hi0 hz0 hzs hzb rfl (by omega) v n xs h a m c news hl hnews h1 (by unfold maxLen; omega) (by omega) hB
  refine ⟨v', w', hr, h2, h3, ?_⟩
  rcases h5 with e | e
  · exact .inl e
  · exact .inr ⟨_, e, Nat.le_refl _⟩
theorem append_nofiles {w : World} {v : Value} {B n : Nat} {xs : List Value} (h : w.ownsRow B 101 3 v n xs) (ty : TypeId) :
    (Builtin.append_ #[69, 69] ty #[v, .slice none 0 0]).run Tryz.prog w = .ok v w := by
  obtain ⟨i0, hi0, hz0, hzs, hzb⟩ := info_parts info60
  rcases h.2 with ⟨rfl, rfl⟩ | ⟨g, cap, cur, rfl, _, _, h3, _⟩
  · simp [Builtin.append_, run_underlying Tryz.underlying69, sizeOf, typeInfo, hi0, Builtin.lenOf, Builtin.firstCells]
  · simp [Builtin.append_, run_underlying Tryz.underlying69, sizeOf, typeInfo, hi0, Builtin.lenOf, Builtin.firstCells, h3, storeCells]
end Go.Proofs.YtajjcfacbnicnaaGreatDoor.Dk

/-
  Crash, as plain data; Rot; Rename.
-/
namespace Go.Proofs.YtajjcfacbnicnaaGreatDoor.Dk
open Go.RowKit
set_option maxRecDepth 100000

/-- So many bytes more of a file are sure. -/
def surer (l : List F) (n : ByteArray) (k : Nat) : List F := l.map fun f => if cmp f.name n = 0 then ⟨f.name, f.bytes, f.sure + k⟩ else f
/-- What lasts, piece by piece. -/
def lasts : List F → List Pc → Nat → List F
  | l, [], _ => l
  | l, p :: r, left => lasts (surer l p.name (min p.size left)) r (left - min p.size left)
def cutAll (l : List F) : List F := l.map fun f => ⟨f.name, f.bytes.take f.sure, f.sure⟩
def opCrash (s : St) (last : Int) : St := ⟨cutAll (lasts s.files s.pieces last.toNat), [], s.room, false, 0, false⟩

def opRot (s : St) (file at_ by_ : Int) : Bool × St :=
  if 0 ≤ file ∧ 0 ≤ at_ then match s.files[file.toNat]? with
    | some f => if at_ < f.sure then (true, { s with files := s.files.set file.toNat ⟨f.name, f.bytes.set at_.toNat (f.bytes[at_.toNat]! ^^^ UInt8.ofNat (by_ % 256).toNat), f.sure⟩ }) else (false, s)
    | none => (false, s)
  else (false, s)
end Go.Proofs.YtajjcfacbnicnaaGreatDoor.Dk

/-
  Rename.
-/
namespace Go.Proofs.YtajjcfacbnicnaaGreatDoor.Dk
open Go.RowKit
set_option maxRecDepth 100000

def St.putAt (s : St) (i : Nat) (f : F) : St := { s with files := s.files.take i ++ f :: s.files.drop i }
/-- What is there is dropped. -/
def St.free1 (s : St) (n : ByteArray) : St := if has s.names n then s.drop (place s.names n) else s
def opRename (s : St) (n t : ByteArray) : Int × St :=
  if s.power then if mayBe t then match s.files[place s.names n]?, has s.names n with
    | some f, true => if f.sure < f.bytes.length then (8, s.spent) else if cmp n t = 0 then (0, s.spent) else
        (0, ((s.spent.drop (place s.names n)).free1 t).putAt (place (s.spent.drop (place s.names n)).names t) ⟨t, f.bytes, f.sure⟩)
    | _, _ => (6, s.spent)
  else (1, s.spent) else (12, s.spent)

theorem rename_early {w : World} {B b : Nat} {d : Ds} (h : Rep w B b d) (ok : Ok d.pl) (n t : ByteArray) (hq : d.power = false ∨ mayBe t = false) :
    Calls Tryz.prog 57 #[.pointer (some ⟨b, 0, none⟩), .string n, .string t] w fun e w' => e = .returned (.int .i64 (if d.power then 1 else 12)) ∧ Rep w' B b d.spent ∧ Step (d.foot b) (d.foot b) w w' := by
  have kb := begin_any h ok.fuse
  have km := mayBe_any t
  clear h ok
  cases hp : d.power with
  | false =>
    rw [hp] at kb
    go_enter Tryz.func57, Tryz.ntmps57
    go_wp2_with (go_at_call 73; refine kb.mono ?_; rintro e w1 ⟨rfl, h1, s1⟩)
    go_ret
    exact ⟨rfl, h1, s1⟩
  | true =>
    rw [hp] at kb hq
    rcases hq with hq | hq
    · cases hq
    · rw [hq] at km
      go_enter Tryz.func57, Tryz.ntmps57
      go_wp2_with (first
        | (go_at_call 73; refine kb.mono ?_; rintro e w1 ⟨rfl, h1, s1⟩)
        | (go_at_call 74; refine (km _).mono ?_; rintro e w2 ⟨rfl, rfl⟩))
      go_ret
      exact ⟨rfl, h1, s1⟩

theorem rename_none {w : World} {B b : Nat} {d : Ds} (h : Rep w B b d) (ok : Ok d.pl) (n t : ByteArray) (hp : d.power = true) (hm : mayBe t = true) (hh : has d.names n = false) :
    Calls Tryz.prog 57 #[.pointer (some ⟨b, 0, none⟩), .string n, .string t] w fun e w' => e = .returned (.int .i64 6) ∧ Rep w' B b d.spent ∧ Step (d.foot b) (d.foot b) w w' := by
  have kb := begin_any h ok.fuse
  have km := mayBe_any t
  have kf : Aside (∀ u : World, Rep u B b d.spent → _) := fun (u : World) (hu : Rep u B b d.spent) => find_any hu (show Rising d.spent.names from ok.rise) (by have := ok.dfew; show d.files.length ≤ 1000; omega) n
  have en : d.spent.names = d.names := rfl
  rw [hp] at kb
  rw [hm] at km
  rw [en, hh] at kf
  clear h ok hp hm hh en
  go_enter Tryz.func57, Tryz.ntmps57
  go_wp2_with (first
    | (go_at_call 73; refine kb.mono ?_; rintro e w1 ⟨rfl, h1, s1⟩)
    | (go_at_call 74; refine (km _).mono ?_; rintro e w1' ⟨rfl, rfl⟩)
    | (go_at_call 54; refine (kf.out _ h1).mono ?_; rintro e w2 ⟨rfl, hb2⟩))
  go_ret
  exact ⟨rfl, h1.below hb2, s1.trans (Step.ofBelow hb2)⟩

theorem eq_bytes' {a b : ByteArray} (h : cmp a b ≠ 0) : (a.toList == b.toList) = false := by rw [eq_bytes]; simpa using h
theorem eq_bytes'' {a b : ByteArray} (h : cmp a b = 0) : (a.toList == b.toList) = true := by rw [eq_bytes]; simpa using h

set_option maxHeartbeats 1600000 in
theorem rename_stay {w : World} {B b : Nat} {d : Ds} {f : Fv} (h : Rep w B b d) (ok : Ok d.pl) (n t : ByteArray) (hp : d.power = true) (hm : mayBe t = true) (hh : has d.names n = true) (hf : d.files[place d.names n]? = some f) (hc : f.sure < f.bytes.length ∨ cmp n t = 0) :
    Calls Tryz.prog 57 #[.pointer (some ⟨b, 0, none⟩), .string n, .string t] w fun e w' => e = .returned (.int .i64 (if f.sure < f.bytes.length then 8 else 0)) ∧ Rep w' B b d.spent ∧ Step (d.foot b) (d.foot b) w w' := by
  have kb := begin_any h ok.fuse
  have km := mayBe_any t
  have kf : Aside (∀ u : World, Rep u B b d.spent → _) := fun (u : World) (hu : Rep u B b d.spent) => find_any hu (show Rising d.spent.names from ok.rise) (by have := ok.dfew; show d.files.length ≤ 1000; omega) n
  have en : d.spent.names = d.names := rfl
  rw [hp] at kb
  rw [hm] at km
  rw [en, hh] at kf
  have hfew := ok.dfew
  have hi : place d.names n < d.files.length := (List.getElem?_eq_some_iff.1 hf).1
  obtain ⟨g, cap, ev, hcap, hcm, hg⟩ := h.vf_form hf
  obtain ⟨a, c, ea⟩ := own_any (h.rows f (List.mem_of_getElem? hf))
  have hfc : Aside (∀ u : World, Rep u B b d.spent → u.cell? ⟨b, 0, none⟩ = some (.slice (some ⟨g, 0, none⟩) d.files.length cap) ∧ u.cell? ⟨g, place d.names n * 3, none⟩ = some (.string f.name) ∧ u.cell? ⟨g, place d.names n * 3 + 1, none⟩ = some (.slice a f.bytes.length c) ∧ u.cell? ⟨g, place d.names n * 3 + 2, none⟩ = some (.int .i64 (f.sure : Int))) := fun (u : World) hu => by
    have := hu.fcells (d := d.spent) hf hg
    rw [ea] at this
    exact ⟨by rw [← ev]; exact hu.c0, this⟩
  clear h ok hp hm hh en hf ev
  generalize place d.names n = I at *
  by_cases hlt : f.sure < f.bytes.length
  · have d1 : decide ((f.sure : Int) < (f.bytes.length : Int)) = true := by simp; omega
    have d1' : decide (f.sure < f.bytes.length) = true := by simpa using hlt
    rw [if_pos hlt]
    go_enter Tryz.func57, Tryz.ntmps57
    go_wp2_with (first
      | (go_at_call 73; refine kb.mono ?_; rintro e w1 ⟨rfl, h1, s1⟩)
      | (go_at_call 74; refine (km _).mono ?_; rintro e w1' ⟨rfl, rfl⟩)
      | (go_at_call 54; refine (kf.out _ h1).mono ?_; rintro e w2 ⟨rfl, hb2⟩; obtain ⟨x0, x1, x2, x3⟩ := hfc.out _ (h1.below hb2)))
    go_ret
    exact ⟨rfl, (h1.below hb2).below ((Below.refl _ _).alloc (Nat.le_refl _) _), (s1.trans (Step.ofBelow hb2)).trans (Step.ofBelow ((Below.refl _ _).alloc (Nat.le_refl _) _))⟩
  · have d1 : decide ((f.sure : Int) < (f.bytes.length : Int)) = false := by simp; omega
    have d1' : decide (f.sure < f.bytes.length) = false := by simpa using hlt
    rw [if_neg hlt]
    have hc' := eq_bytes'' (hc.resolve_left hlt)
    clear hc
    go_enter Tryz.func57, Tryz.ntmps57
    go_wp2_with (first
      | (go_at_call 73; refine kb.mono ?_; rintro e w1 ⟨rfl, h1, s1⟩)
      | (go_at_call 74; refine (km _).mono ?_; rintro e w1' ⟨rfl, rfl⟩)
      | (go_at_call 54; refine (kf.out _ h1).mono ?_; rintro e w2 ⟨rfl, hb2⟩; obtain ⟨x0, x1, x2, x3⟩ := hfc.out _ (h1.below hb2)))
    go_ret
    exact ⟨rfl, (h1.below hb2).below ((Below.refl _ _).alloc (Nat.le_refl _) _), (s1.trans (Step.ofBelow hb2)).trans (Step.ofBelow ((Below.refl _ _).alloc (Nat.le_refl _) _))⟩
end Go.Proofs.YtajjcfacbnicnaaGreatDoor.Dk

/-
  Rename: a file goes to another place.
-/
namespace Go.Proofs.YtajjcfacbnicnaaGreatDoor.Dk
open Go.RowKit
set_option maxRecDepth 100000

theorem Step.frame {a c : List Nat} {u w : World} (h : Step a c u w) (e : List Nat) : Step (a ++ e) (c ++ e) u w where
  os := h.os
  tape := h.tape
  output := h.output
  size := h.size
  block := fun k hk hn => h.block k hk (fun hm => hn (List.mem_append_left _ hm))
  sub := fun k hk => by
    rcases List.mem_append.1 hk with hk | hk
    · rcases h.sub k hk with e | e
      · exact .inl (List.mem_append_left _ e)
      · exact .inr e
    · exact .inl (List.mem_append_right _ hk)
theorem Step.weaken {a c c' : List Nat} {u w : World} (h : Step a c u w) (hs : ∀ k ∈ c', k ∈ a ∨ u.heap.size ≤ k) : Step a c' u w := ⟨h.os, h.tape, h.output, h.size, h.block, hs⟩
theorem Step.less {a c c' : List Nat} {u w : World} (h : Step a c u w) (hs : ∀ k ∈ c', k ∈ c) : Step a c' u w :=
  ⟨h.os, h.tape, h.output, h.size, h.block, fun k hk => h.sub k (hs k hk)⟩
theorem Step.undrew {a c : List Nat} {u w : World} (h : Step a c u.drew w) : Step a c u w := ⟨h.os, h.tape, h.output, h.size, h.block, h.sub⟩

theorem erase_fresh {w : World} {B b i : Nat} {d : Ds} {f : Fv} {v' v'' : Value} {P : List Pc} (h : Rep w B b d) (hf : d.files[i]? = some f) (hv : v'.ownBlock = d.vf.ownBlock) (hp : v''.ownBlock = d.vp.ownBlock) {k : Nat} (hk : f.v.ownBlock = some k) : k ∉ Ds.foot b { d with files := d.files.eraseIdx i, pieces := P, vf := v', vp := v'' } := by
  have hm : f ∈ d.files := List.mem_of_getElem? hf
  intro hmem
  rcases foot_cases hmem with e | e | e | ⟨x, hx, e⟩
  · exact h.b_f hm hk e
  · exact h.vf_f hm (hv ▸ e) hk
  · exact h.vp_f hm (hp ▸ e) hk
  · obtain ⟨A, C, e1, _, hA⟩ := split_at hf f
    have e2 : d.files.eraseIdx i = A ++ C := by
      rw [e1, List.eraseIdx_append_of_length_le (by omega), hA, Nat.sub_self]
      rfl
    simp only at hx
    rw [e2] at hx
    have hn0 := h.nodup
    rw [show d.foot b = ([b] ++ ob d.vf ++ ob d.vp ++ A.flatMap (fun f => ob f.v)) ++ (ob f.v ++ C.flatMap fun f => ob f.v) by unfold Ds.foot; rw [e1]; simp] at hn0
    rcases List.mem_append.1 hx with hx | hx
    · exact (List.nodup_append.1 hn0).2.2 k (List.mem_append_right _ (List.mem_flatMap.2 ⟨x, hx, mem_ob.2 e⟩)) k (List.mem_append_left _ (mem_ob.2 hk)) rfl
    · exact app_ne (List.nodup_append.1 hn0).2.1 (mem_ob.2 hk) (List.mem_flatMap.2 ⟨x, hx, mem_ob.2 e⟩)

theorem pl_putAt {d : Ds} {i : Nat} {f : Fv} {v : Value} : Ds.pl { d with files := d.files.take i ++ f :: d.files.drop i, vf := v } = d.pl.putAt i f.pl := by
  simp [Ds.pl, St.putAt]

/-- Where a file in hand lies, and what belongs to it. -/
structure Hand (w : World) (B b X : Nat) (d : Ds) (f : Fv) (n : ByteArray) : Prop where
  rep : Rep w B b d
  row : w.ownsRow B 5 1 f.v f.bytes.length (bcells f.bytes)
  blk : w.heap[X]? = some (.cells #[.string n, f.v, .int .i64 (f.sure : Int)] 99 (0, 0))
  out : X ∉ d.foot b
  fresh : ∀ k, f.v.ownBlock = some k → k ∉ d.foot b
  apart : f.v.ownBlock ≠ some X

theorem Hand.below {w w' : World} {B b X : Nat} {d : Ds} {f : Fv} {n : ByteArray} (h : Hand w B b X d f n) (hb : Below w.heap.size w w') : Hand w' B b X d f n :=
  ⟨h.rep.below hb, own_frame h.row fun k hk => hb.block k (h.row.lt k hk).2, (hb.block X (Array.getElem?_eq_some_iff.1 h.blk).1).trans h.blk, h.out, h.fresh, h.apart⟩
theorem Hand.cells {w : World} {B b X : Nat} {d : Ds} {f : Fv} {n : ByteArray} (h : Hand w B b X d f n) : w.cell? ⟨X, 0, none⟩ = some (.string n) ∧ w.cell? ⟨X, 1, none⟩ = some f.v ∧ w.cell? ⟨X, 2, none⟩ = some (.int .i64 (f.sure : Int)) ∧ w.frozen? ⟨X, 0, none⟩ = false :=
  ⟨by rw [cell_of_row w X 0 _ _ _ h.blk]; rfl, by rw [cell_of_row w X 1 _ _ _ h.blk]; rfl, by rw [cell_of_row w X 2 _ _ _ h.blk]; rfl, frozen_of_row w X 0 _ _ h.blk⟩
theorem Hand.named {w : World} {B b X : Nat} {d : Ds} {f : Fv} {n : ByteArray} (h : Hand w B b X d f n) (t : ByteArray) : Hand (w.setCell ⟨X, 0, none⟩ (.string t)) B b X d f t :=
  ⟨h.rep.frame fun k hk => Below.heap_setCell w ⟨X, 0, none⟩ _ k (fun e => h.out (by rw [← show k = X from e]; exact hk)), own_frame h.row fun k hk => Below.heap_setCell w ⟨X, 0, none⟩ _ k (fun e => h.apart (by rw [← show k = X from e]; exact hk)), set_same h.blk rfl, h.out, h.fresh, h.apart⟩
theorem Hand.drew {w : World} {B b X : Nat} {d : Ds} {f : Fv} {n : ByteArray} (h : Hand w B b X d f n) : Hand w.drew B b X d f n := h.below ((Below.refl _ _).drew)

/-- Over a step that changes the disk alone. -/
theorem Hand.step {w w' : World} {B b X : Nat} {d d' : Ds} {f : Fv} {n : ByteArray} (h : Hand w B b X d f n) (hr : Rep w' B b d') (hs : Step (d.foot b) (d'.foot b) w w') : Hand w' B b X d' f n := by
  have hX := (Array.getElem?_eq_some_iff.1 h.blk).1
  refine ⟨hr, own_frame h.row fun k hk => hs.block k (h.row.lt k hk).2 (h.fresh k hk), (hs.block X hX h.out).trans h.blk, fun hm => ?_, fun k hk hm => ?_, h.apart⟩
  · rcases hs.sub X hm with e | e
    · exact h.out e
    · omega
  · rcases hs.sub k hm with e | e
    · exact h.fresh k hk e
    · have := (h.row.lt k hk).2
      omega

/-- The file is dropped, and stays in hand. -/
theorem Hand.taken {w w' : World} {B b i : Nat} {d : Ds} {f : Fv} {v' v'' : Value} {P : List Pc} (h : Rep w B b d) (hf : d.files[i]? = some f) (hv : v'.ownBlock = d.vf.ownBlock) (hp : v''.ownBlock = d.vp.ownBlock)
    (hr : Rep w' B b { d with files := d.files.eraseIdx i, pieces := P, vf := v', vp := v'' }) (hs : Step (d.foot b) (Ds.foot b { d with files := d.files.eraseIdx i, pieces := P, vf := v', vp := v'' }) (w.alloc (.cells #[.string f.name, f.v, .int .i64 (f.sure : Int)] 99)) w')
    (hk : ∀ k, k < (w.alloc (.cells #[.string f.name, f.v, .int .i64 (f.sure : Int)] 99)).heap.size → k ≠ b → d.vf.ownBlock ≠ some k → d.vp.ownBlock ≠ some k → w'.heap[k]? = (w.alloc (.cells #[.string f.name, f.v, .int .i64 (f.sure : Int)] 99)).heap[k]?) :
    Hand w' B b w.heap.size { d with files := d.files.eraseIdx i, pieces := P, vf := v', vp := v'' } f f.name := by
  have hm : f ∈ d.files := List.mem_of_getElem? hf
  have hrow := h.rows f hm
  have hnl : w.heap.size ∉ d.foot b := fun hm => by have := (h.lt _ hm).2; omega
  have hsz : w.heap.size < (w.alloc (.cells #[.string f.name, f.v, .int .i64 (f.sure : Int)] 99)).heap.size := by simp
  refine ⟨hr, own_frame hrow fun k hkk => ?_, ?_, fun hmem => ?_, fun k hkk => erase_fresh h hf hv hp hkk, fun e => by have := (hrow.lt _ e).2; omega⟩
  · have hl := (hrow.lt k hkk).2
    exact (hk k (by simp; omega) (h.b_f hm hkk) (fun e => h.vf_f hm e hkk) (fun e => h.vp_f hm e hkk)).trans (alloc_old w _ k hl)
  · exact (hk _ hsz (fun e => hnl (e ▸ foot_b)) (fun e => hnl (foot_vf e)) (fun e => hnl (foot_vp e))).trans (heap_alloc_new w _)
  · rcases hs.sub _ hmem with e | e
    · exact hnl e
    · omega

theorem rise_erase {d : Ds} {i : Nat} (h : Rising d.names) : Rising ((d.files.eraseIdx i).map Fv.name) := Rising.sub ((List.eraseIdx_sublist _ _).map _) h
theorem len_erase {l : List Fv} {i : Nat} (h : i < l.length) : (l.eraseIdx i).length = l.length - 1 := List.length_eraseIdx_of_lt h

set_option maxHeartbeats 4000000 in
theorem rename_free {w : World} {B b : Nat} {d : Ds} {f : Fv} (h : Rep w B b d) (ok : Ok d.pl) (n t : ByteArray) (hp : d.power = true) (hm : mayBe t = true) (hh : has d.names n = true) (hf : d.files[place d.names n]? = some f) (hlt : ¬ f.sure < f.bytes.length) (hc : cmp n t ≠ 0)
    (ht : has ((d.files.eraseIdx (place d.names n)).map Fv.name) t = false) :
    Calls Tryz.prog 57 #[.pointer (some ⟨b, 0, none⟩), .string n, .string t] w fun e w' => e = .returned (.int .i64 0) ∧ ∃ d', Rep w' B b d' ∧ d'.pl = ((d.pl.spent.drop (place d.names n)).free1 t).putAt (place ((d.files.eraseIdx (place d.names n)).map Fv.name) t) ⟨t, f.bytes, f.sure⟩ ∧ Step (d.foot b) (d'.foot b) w w' := by
  have kb := begin_any h ok.fuse
  have km := mayBe_any t
  have kf : Aside (∀ u : World, Rep u B b d.spent → _) := fun (u : World) (hu : Rep u B b d.spent) => find_any hu (show Rising d.spent.names from ok.rise) (by have := ok.dfew; show d.files.length ≤ 1000; omega) n
  have en : d.spent.names = d.names := rfl
  rw [hp] at kb
  rw [hm] at km
  rw [en, hh] at kf
  have hfew := ok.dfew
  have hpc := ok.dpieces
  have hrise := ok.rise
  have hi : place d.names n < d.files.length := (List.getElem?_eq_some_iff.1 hf).1
  obtain ⟨g, cap, ev, hcap, hcm, hg⟩ := h.vf_form hf
  obtain ⟨a, c, ea⟩ := own_any (h.rows f (List.mem_of_getElem? hf))
  have hfc : Aside (∀ u : World, Rep u B b d.spent → u.cell? ⟨b, 0, none⟩ = some (.slice (some ⟨g, 0, none⟩) d.files.length cap) ∧ u.cell? ⟨g, place d.names n * 3, none⟩ = some (.string f.name) ∧ u.cell? ⟨g, place d.names n * 3 + 1, none⟩ = some (.slice a f.bytes.length c) ∧ u.cell? ⟨g, place d.names n * 3 + 2, none⟩ = some (.int .i64 (f.sure : Int))) := fun (u : World) hu => by
    have := hu.fcells (d := d.spent) hf hg
    rw [ea] at this
    exact ⟨by rw [← ev]; exact hu.c0, this⟩
  have KD : Aside (∀ u : World, Rep u B b d.spent → _) := fun (u : World) (hu : Rep u B b d.spent) => drop_any (d := d.spent) hu hpc (show d.files.length ≤ 1000 by omega) hf
  have KF : Aside (∀ (v' v'' : Value) (u : World), Rep u B b { d.spent with files := d.spent.files.eraseIdx (place d.names n), pieces := keepOf f.name d.spent.pieces, vf := v', vp := v'' } → Calls Tryz.prog 54 #[.pointer (some ⟨b, 0, none⟩), .string t] u fun e w' => e = .returned (.tuple #[.int .i64 (place ((d.files.eraseIdx (place d.names n)).map Fv.name) t : Nat), .bool false]) ∧ Below u.heap.size u w') := fun v' v'' u hu => by
    have := find_any hu (show Rising ((d.files.eraseIdx (place d.names n)).map Fv.name) from rise_erase hrise) (show (d.files.eraseIdx (place d.names n)).length ≤ 1000 by rw [len_erase hi]; omega) t
    rw [show Ds.names { d.spent with files := d.spent.files.eraseIdx (place d.names n), pieces := keepOf f.name d.spent.pieces, vf := v', vp := v'' } = (d.files.eraseIdx (place d.names n)).map Fv.name from rfl, ht] at this
    exact this
  have HF : Aside (d.spent.files[place d.names n]? = some f) := hf
  have PD : Aside (∀ v' v'' : Value, Ds.pl { d.spent with files := d.spent.files.eraseIdx (place d.names n), pieces := keepOf f.name d.spent.pieces, vf := v', vp := v'' } = d.pl.spent.drop (place d.names n)) := fun v' v'' => pl_drop (d := d.spent) hf
  have hJ := place_le ((d.files.eraseIdx (place d.names n)).map Fv.name) t
  rw [List.length_map, len_erase hi] at hJ
  have HFR : Aside ((d.pl.spent.drop (place d.names n)).free1 t = d.pl.spent.drop (place d.names n)) := by
    show _ = _
    unfold St.free1
    have e : (d.pl.spent.drop (place d.names n)).names = (d.files.eraseIdx (place d.names n)).map Fv.name := by
      show (d.spent.pl.drop (place d.names n)).names = _
      rw [← pl_drop (d := d.spent) (v' := .slice none 0 0) (v'' := .slice none 0 0) hf, names_pl]
      rfl
    rw [e, ht]
    rfl

  have d1 : decide ((f.sure : Int) < (f.bytes.length : Int)) = false := by simp; omega
  have d1' : decide (f.sure < f.bytes.length) = false := by simpa using hlt
  have hc' := eq_bytes' hc
  have EA : Aside (f.v = .slice a f.bytes.length c) := ea
  clear h ok hp hm hh en hf ev hc ea hrise ht
  generalize hI : place d.names n = I at *
  generalize hJJ : place ((d.files.eraseIdx I).map Fv.name) t = J at *
  go_enter Tryz.func57, Tryz.ntmps57
  go_wp2_with (first
    | (go_at_call 73; refine kb.mono ?_; rintro e w1 ⟨rfl, h1, s1⟩)
    | (go_at_call 74; refine (km _).mono ?_; rintro e w1' ⟨rfl, rfl⟩)
    | (go_at_call 54; refine (kf.out _ h1).mono ?_; rintro e w2 ⟨rfl, hb2⟩; have h2 := h1.below hb2; obtain ⟨x0, x1, x2, x3⟩ := hfc.out _ h2; clear kf)
    | (go_at_call 94; refine (KD.out _ (h2.below ((Below.refl _ _).alloc (Nat.le_refl _) _))).mono ?_; rintro e w4 ⟨rfl, v', v'', hv, hv2, h4, s4, k4⟩; have H4 : Aside _ := Hand.taken h2 HF.out hv hv2 h4 (by rw [EA.out]; exact s4) (by rw [EA.out]; exact k4); clear KD k4)
    | (go_at_call 54; refine (KF.out _ _ _ h4).mono ?_; rintro e w5 ⟨rfl, hb5⟩; have H5 : Aside _ := H4.out.below hb5; clear KF; obtain ⟨y0, y1, y2, y3⟩ := H5.out.cells))

  have hX : w.heap.size ≤ w2.heap.size := (s1.trans (Step.ofBelow hb2)).size
  have S3 : Step (d.foot b) (d.foot b ++ (ob f.v ++ [w2.heap.size])) w (w2.alloc (.cells #[.string f.name, .slice a f.bytes.length c, .int .i64 (f.sure : Int)] 99)) :=
    ((s1.trans (Step.ofBelow hb2)).trans (Step.ofBelow ((Below.refl _ _).alloc (Nat.le_refl _) _))).weaken (fun k hk => by
      rcases List.mem_append.1 hk with hk | hk
      · exact .inl hk
      · rcases List.mem_append.1 hk with hk | hk
        · exact .inl (foot_f (d := d) (List.mem_of_getElem? HF.out) (mem_ob.1 hk))
        · rw [List.mem_singleton.1 hk]; exact .inr hX)
  have S7 : Aside (Step (d.foot b) (Ds.foot b { d.spent with files := d.spent.files.eraseIdx I, pieces := keepOf f.name d.spent.pieces, vf := v', vp := v'' } ++ (ob f.v ++ [w2.heap.size])) w (w5.setCell ⟨w2.heap.size, 0, none⟩ (.string t))) :=
    ((S3.trans (s4.frame _)).trans (Step.ofBelow hb5)).trans (Step.setb _ (List.mem_append_right _ (List.mem_append_right _ (List.mem_singleton.2 rfl))) _ _)
  have H7 : Aside (Hand (w5.setCell ⟨w2.heap.size, 0, none⟩ (.string t)) B b w2.heap.size { d.spent with files := d.spent.files.eraseIdx I, pieces := keepOf f.name d.spent.pieces, vf := v', vp := v'' } f t) := H5.out.named t
  have hll : List.length ({ d.spent with files := d.spent.files.eraseIdx I, pieces := keepOf f.name d.spent.pieces, vf := v', vp := v'' } : Ds).files ≤ 1000 := by show (d.files.eraseIdx I).length ≤ 1000; rw [len_erase hi]; omega
  have hJl : J ≤ List.length ({ d.spent with files := d.spent.files.eraseIdx I, pieces := keepOf f.name d.spent.pieces, vf := v', vp := v'' } : Ds).files := by show J ≤ (d.files.eraseIdx I).length; rw [len_erase hi]; omega
  have PDD : Aside (Ds.pl { d.spent with files := d.spent.files.eraseIdx I, pieces := keepOf f.name d.spent.pieces, vf := v', vp := v'' } = (d.pl.spent.drop I).free1 t) := (PD.out v' v'').trans (HFR.out.symm)
  obtain ⟨z0, z1, z2, z3⟩ := H7.out.cells
  clear H5 H4 s4 h4 hb5 hb2 S3 s1 h1 h2 x0 x1 x2 x3 y0 y1 y2 y3 PD HFR hfc
  generalize w5.setCell ⟨w2.heap.size, 0, none⟩ (.string t) = w7 at *
  generalize w2.heap.size = X at *
  obtain ⟨dd, hdd⟩ : ∃ dd : Ds, ({ d.spent with files := d.spent.files.eraseIdx I, pieces := keepOf f.name d.spent.pieces, vf := v', vp := v'' } : Ds) = dd := ⟨_, rfl⟩
  rw [hdd] at S7 H7 hll hJl PDD
  clear hdd

  rw [EA.out] at z1
  obtain ⟨af, cf, eaf⟩ := own_any H7.out.rep.tab
  have xc := H7.out.rep.c0
  have ki := insert_rep (f := ⟨t, f.bytes, f.sure, f.v⟩) H7.out.drew.rep hll hJl H7.out.drew.row H7.out.fresh
  try dsimp only at ki
  rw [eaf] at xc ki
  rw [EA.out] at ki
  have hb7 : b < w7.heap.size := H7.out.rep.b_lt
  have hX7 : X < w7.heap.size := (Array.getElem?_eq_some_iff.1 H7.out.blk).1
  have n1 : ¬ b = w7.heap.size := by omega
  have n2 : ¬ w7.heap.size = b := by omega
  have n3 : ¬ X = w7.heap.size := by omega
  have n4 : ¬ w7.heap.size = X := by omega
  have xcA : ∀ o : Obj, (w7.alloc o).cell? ⟨b, 0, none⟩ = some (.slice af (List.length dd.files) cf) := fun o => cell_below xc ((Below.refl _ _).alloc (Nat.le_refl _) o)
  go_wp2
  go_region_with (go_at_call 75; refine ki.mono ?_; rintro e w8 ⟨a8, c8, rfl, p1, p2, h8, s8⟩)
  all_goals
    go_wp2
    go_ret
    refine ⟨rfl, _, h8, ?_, ?_⟩
    · have e1 : dd.pl.putAt J ⟨t, f.bytes, f.sure⟩ = _ := congrArg (fun s => St.putAt s J ⟨t, f.bytes, f.sure⟩) PDD.out
      rw [← e1]
      exact pl_putAt (d := dd) (f := ⟨t, f.bytes, f.sure, _⟩)
    · refine S7.out.trans (Step.undrew (s8.weak ?_))
      intro k hk
      refine .inl ?_
      rcases List.mem_append.1 hk with hk | hk
      · exact List.mem_append_left _ hk
      · exact List.mem_append_right _ (List.mem_append_left _ (by rw [EA.out]; exact hk))

set_option maxHeartbeats 4000000 in
theorem rename_over {w : World} {B b : Nat} {d : Ds} {f : Fv} (h : Rep w B b d) (ok : Ok d.pl) (n t : ByteArray) (hp : d.power = true) (hm : mayBe t = true) (hh : has d.names n = true) (hf : d.files[place d.names n]? = some f) (hlt : ¬ f.sure < f.bytes.length) (hc : cmp n t ≠ 0)
    (ht : has ((d.files.eraseIdx (place d.names n)).map Fv.name) t = true) :
    Calls Tryz.prog 57 #[.pointer (some ⟨b, 0, none⟩), .string n, .string t] w fun e w' => e = .returned (.int .i64 0) ∧ ∃ d', Rep w' B b d' ∧ d'.pl = ((d.pl.spent.drop (place d.names n)).free1 t).putAt (place ((d.files.eraseIdx (place d.names n)).map Fv.name) t) ⟨t, f.bytes, f.sure⟩ ∧ Step (d.foot b) (d'.foot b) w w' := by
  have kb := begin_any h ok.fuse
  have km := mayBe_any t
  have kf : Aside (∀ u : World, Rep u B b d.spent → _) := fun (u : World) (hu : Rep u B b d.spent) => find_any hu (show Rising d.spent.names from ok.rise) (by have := ok.dfew; show d.files.length ≤ 1000; omega) n
  have en : d.spent.names = d.names := rfl
  rw [hp] at kb
  rw [hm] at km
  rw [en, hh] at kf
  have hfew := ok.dfew
  have hpc := ok.dpieces
  have hrise := ok.rise
  have hi : place d.names n < d.files.length := (List.getElem?_eq_some_iff.1 hf).1
  obtain ⟨g, cap, ev, hcap, hcm, hg⟩ := h.vf_form hf
  obtain ⟨a, c, ea⟩ := own_any (h.rows f (List.mem_of_getElem? hf))
  have hfc : Aside (∀ u : World, Rep u B b d.spent → u.cell? ⟨b, 0, none⟩ = some (.slice (some ⟨g, 0, none⟩) d.files.length cap) ∧ u.cell? ⟨g, place d.names n * 3, none⟩ = some (.string f.name) ∧ u.cell? ⟨g, place d.names n * 3 + 1, none⟩ = some (.slice a f.bytes.length c) ∧ u.cell? ⟨g, place d.names n * 3 + 2, none⟩ = some (.int .i64 (f.sure : Int))) := fun (u : World) hu => by
    have := hu.fcells (d := d.spent) hf hg
    rw [ea] at this
    exact ⟨by rw [← ev]; exact hu.c0, this⟩
  have KD : Aside (∀ u : World, Rep u B b d.spent → _) := fun (u : World) (hu : Rep u B b d.spent) => drop_any (d := d.spent) hu hpc (show d.files.length ≤ 1000 by omega) hf
  have KF : Aside (∀ (v' v'' : Value) (u : World), Rep u B b { d.spent with files := d.spent.files.eraseIdx (place d.names n), pieces := keepOf f.name d.spent.pieces, vf := v', vp := v'' } → Calls Tryz.prog 54 #[.pointer (some ⟨b, 0, none⟩), .string t] u fun e w' => e = .returned (.tuple #[.int .i64 (place ((d.files.eraseIdx (place d.names n)).map Fv.name) t : Nat), .bool true]) ∧ Below u.heap.size u w') := fun v' v'' u hu => by
    have := find_any hu (show Rising ((d.files.eraseIdx (place d.names n)).map Fv.name) from rise_erase hrise) (show (d.files.eraseIdx (place d.names n)).length ≤ 1000 by rw [len_erase hi]; omega) t
    rw [show Ds.names { d.spent with files := d.spent.files.eraseIdx (place d.names n), pieces := keepOf f.name d.spent.pieces, vf := v', vp := v'' } = (d.files.eraseIdx (place d.names n)).map Fv.name from rfl, ht] at this
    exact this
  have HF : Aside (d.spent.files[place d.names n]? = some f) := hf
  have PD : Aside (∀ v' v'' : Value, Ds.pl { d.spent with files := d.spent.files.eraseIdx (place d.names n), pieces := keepOf f.name d.spent.pieces, vf := v', vp := v'' } = d.pl.spent.drop (place d.names n)) := fun v' v'' => pl_drop (d := d.spent) hf
  have hJ := place_le ((d.files.eraseIdx (place d.names n)).map Fv.name) t
  rw [List.length_map, len_erase hi] at hJ
  have hmem := (place_mem (rise_erase (i := place d.names n) ok.rise) t).1 (has_iff.1 ht)
  have hJ2 : place ((d.files.eraseIdx (place d.names n)).map Fv.name) t < (d.files.eraseIdx (place d.names n)).length := by have := hmem.1; rwa [List.length_map] at this
  obtain ⟨f2, hf2⟩ : ∃ f2, (d.files.eraseIdx (place d.names n))[place ((d.files.eraseIdx (place d.names n)).map Fv.name) t]? = some f2 := ⟨_, List.getElem?_eq_getElem hJ2⟩
  have HF2 : Aside ((d.files.eraseIdx (place d.names n))[place ((d.files.eraseIdx (place d.names n)).map Fv.name) t]? = some f2) := hf2
  have KD2 : Aside (∀ (v' v'' : Value) (u : World), Rep u B b ({ d.spent with files := d.spent.files.eraseIdx (place d.names n), pieces := keepOf f.name d.spent.pieces, vf := v', vp := v'' } : Ds) → _) := fun (v' v'' : Value) (u : World) hu => drop_any (d := ({ d.spent with files := d.spent.files.eraseIdx (place d.names n), pieces := keepOf f.name d.spent.pieces, vf := v', vp := v'' } : Ds)) hu (Nat.le_trans (List.length_filter_le _ _) hpc) (show (d.files.eraseIdx (place d.names n)).length ≤ 1000 by rw [len_erase hi]; omega) hf2
  have HFR : Aside (∀ v' v'' : Value, (d.pl.spent.drop (place d.names n)).free1 t = (Ds.pl ({ d.spent with files := d.spent.files.eraseIdx (place d.names n), pieces := keepOf f.name d.spent.pieces, vf := v', vp := v'' } : Ds)).drop (place ((d.files.eraseIdx (place d.names n)).map Fv.name) t)) := fun v' v'' => by
    unfold St.free1
    have e : (d.pl.spent.drop (place d.names n)).names = (d.files.eraseIdx (place d.names n)).map Fv.name := by
      show (d.spent.pl.drop (place d.names n)).names = _
      rw [← pl_drop (d := d.spent) (v' := .slice none 0 0) (v'' := .slice none 0 0) hf, names_pl]
      rfl
    rw [e, ht, pl_drop (d := d.spent) hf]
    rfl
  clear hmem hf2

  have d1 : decide ((f.sure : Int) < (f.bytes.length : Int)) = false := by simp; omega
  have d1' : decide (f.sure < f.bytes.length) = false := by simpa using hlt
  have hc' := eq_bytes' hc
  have EA : Aside (f.v = .slice a f.bytes.length c) := ea
  clear h ok hp hm hh en hf ev hc ea hrise ht
  generalize hI : place d.names n = I at *
  generalize hJJ : place ((d.files.eraseIdx I).map Fv.name) t = J at *
  go_enter Tryz.func57, Tryz.ntmps57
  go_wp2_with (first
    | (go_at_call 73; refine kb.mono ?_; rintro e w1 ⟨rfl, h1, s1⟩)
    | (go_at_call 74; refine (km _).mono ?_; rintro e w1' ⟨rfl, rfl⟩)
    | (go_at_call 54; refine (kf.out _ h1).mono ?_; rintro e w2 ⟨rfl, hb2⟩; have h2 := h1.below hb2; obtain ⟨x0, x1, x2, x3⟩ := hfc.out _ h2; clear kf)
    | (go_at_call 94; refine (KD.out _ (h2.below ((Below.refl _ _).alloc (Nat.le_refl _) _))).mono ?_; rintro e w4 ⟨rfl, v', v'', hv, hv2, h4, s4, k4⟩; have H4 : Aside _ := Hand.taken h2 HF.out hv hv2 h4 (by rw [EA.out]; exact s4) (by rw [EA.out]; exact k4); clear KD k4)
    | (go_at_call 54; refine (KF.out _ _ _ h4).mono ?_; rintro e w5 ⟨rfl, hb5⟩; have H5 : Aside _ := H4.out.below hb5; clear KF; obtain ⟨y0, y1, y2, y3⟩ := H5.out.cells)
    | (go_at_call 94; refine (KD2.out _ _ _ H5.out.rep).mono ?_; rintro e w6 ⟨rfl, u', u'', hu, hu2, h6, s6, _⟩; have H6 : Aside _ := H5.out.step h6 s6; clear KD2 y0 y1 y2 y3; obtain ⟨y0, y1, y2, y3⟩ := H6.out.cells))

  have hX : w.heap.size ≤ w2.heap.size := (s1.trans (Step.ofBelow hb2)).size
  have S3 : Step (d.foot b) (d.foot b ++ (ob f.v ++ [w2.heap.size])) w (w2.alloc (.cells #[.string f.name, .slice a f.bytes.length c, .int .i64 (f.sure : Int)] 99)) :=
    ((s1.trans (Step.ofBelow hb2)).trans (Step.ofBelow ((Below.refl _ _).alloc (Nat.le_refl _) _))).weaken (fun k hk => by
      rcases List.mem_append.1 hk with hk | hk
      · exact .inl hk
      · rcases List.mem_append.1 hk with hk | hk
        · exact .inl (foot_f (d := d) (List.mem_of_getElem? HF.out) (mem_ob.1 hk))
        · rw [List.mem_singleton.1 hk]; exact .inr hX)
  have S7 : Aside (Step (d.foot b) (Ds.foot b ({ d.spent with files := (d.spent.files.eraseIdx I).eraseIdx J, pieces := keepOf f2.name (keepOf f.name d.spent.pieces), vf := u', vp := u'' } : Ds) ++ (ob f.v ++ [w2.heap.size])) w (w6.setCell ⟨w2.heap.size, 0, none⟩ (.string t))) :=
    (((S3.trans (s4.frame _)).trans (Step.ofBelow hb5)).trans (s6.frame _)).trans (Step.setb _ (List.mem_append_right _ (List.mem_append_right _ (List.mem_singleton.2 rfl))) _ _)
  have H7 : Aside (Hand (w6.setCell ⟨w2.heap.size, 0, none⟩ (.string t)) B b w2.heap.size ({ d.spent with files := (d.spent.files.eraseIdx I).eraseIdx J, pieces := keepOf f2.name (keepOf f.name d.spent.pieces), vf := u', vp := u'' } : Ds) f t) := H6.out.named t
  have hJ3 : ((d.files.eraseIdx I).eraseIdx J).length = d.files.length - 1 - 1 := by rw [len_erase (by rw [len_erase hi]; rw [len_erase hi] at hJ2; omega), len_erase hi]
  have hll : List.length ({ d.spent with files := (d.spent.files.eraseIdx I).eraseIdx J, pieces := keepOf f2.name (keepOf f.name d.spent.pieces), vf := u', vp := u'' } : Ds).files ≤ 1000 := by show ((d.files.eraseIdx I).eraseIdx J).length ≤ 1000; omega
  have hJl : J ≤ List.length ({ d.spent with files := (d.spent.files.eraseIdx I).eraseIdx J, pieces := keepOf f2.name (keepOf f.name d.spent.pieces), vf := u', vp := u'' } : Ds).files := by show J ≤ ((d.files.eraseIdx I).eraseIdx J).length; rw [len_erase hi] at hJ2; omega
  have PDD : Aside (Ds.pl ({ d.spent with files := (d.spent.files.eraseIdx I).eraseIdx J, pieces := keepOf f2.name (keepOf f.name d.spent.pieces), vf := u', vp := u'' } : Ds) = (d.pl.spent.drop I).free1 t) := (pl_drop (d := ({ d.spent with files := d.spent.files.eraseIdx I, pieces := keepOf f.name d.spent.pieces, vf := v', vp := v'' } : Ds)) HF2.out).trans (HFR.out v' v'').symm
  obtain ⟨z0, z1, z2, z3⟩ := H7.out.cells
  clear H6 H5 H4 s4 s6 h4 h6 hb5 hb2 S3 s1 h1 h2 x0 x1 x2 x3 y0 y1 y2 y3 PD HFR hfc HF2
  generalize w6.setCell ⟨w2.heap.size, 0, none⟩ (.string t) = w7 at *
  generalize w2.heap.size = X at *
  obtain ⟨dd, hdd⟩ : ∃ dd : Ds, ({ d.spent with files := (d.spent.files.eraseIdx I).eraseIdx J, pieces := keepOf f2.name (keepOf f.name d.spent.pieces), vf := u', vp := u'' } : Ds) = dd := ⟨_, rfl⟩
  rw [hdd] at S7 H7 hll hJl PDD
  clear hdd

  rw [EA.out] at z1
  obtain ⟨af, cf, eaf⟩ := own_any H7.out.rep.tab
  have xc := H7.out.rep.c0
  have ki := insert_rep (f := ⟨t, f.bytes, f.sure, f.v⟩) H7.out.drew.rep hll hJl H7.out.drew.row H7.out.fresh
  try dsimp only at ki
  rw [eaf] at xc ki
  rw [EA.out] at ki
  have hb7 : b < w7.heap.size := H7.out.rep.b_lt
  have hX7 : X < w7.heap.size := (Array.getElem?_eq_some_iff.1 H7.out.blk).1
  have n1 : ¬ b = w7.heap.size := by omega
  have n2 : ¬ w7.heap.size = b := by omega
  have n3 : ¬ X = w7.heap.size := by omega
  have n4 : ¬ w7.heap.size = X := by omega
  have xcA : ∀ o : Obj, (w7.alloc o).cell? ⟨b, 0, none⟩ = some (.slice af (List.length dd.files) cf) := fun o => cell_below xc ((Below.refl _ _).alloc (Nat.le_refl _) o)
  go_wp2
  go_region_with (go_at_call 75; refine ki.mono ?_; rintro e w8 ⟨a8, c8, rfl, p1, p2, h8, s8⟩)
  all_goals
    go_wp2
    go_ret
    refine ⟨rfl, _, h8, ?_, ?_⟩
    · have e1 : dd.pl.putAt J ⟨t, f.bytes, f.sure⟩ = _ := congrArg (fun s => St.putAt s J ⟨t, f.bytes, f.sure⟩) PDD.out
      rw [← e1]
      exact pl_putAt (d := dd) (f := ⟨t, f.bytes, f.sure, _⟩)
    · refine S7.out.trans (Step.undrew (s8.weak ?_))
      intro k hk
      refine .inl ?_
      rcases List.mem_append.1 hk with hk | hk
      · exact List.mem_append_left _ hk
      · exact List.mem_append_right _ (List.mem_append_left _ (by rw [EA.out]; exact hk))
end Go.Proofs.YtajjcfacbnicnaaGreatDoor.Dk
