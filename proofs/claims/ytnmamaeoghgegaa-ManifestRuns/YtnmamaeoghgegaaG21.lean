/-
  Ytnmamaeoghgegaa: the texts DE1, DE2, DE3, DX12, DX15, one behind the other.
-/
import Derived.Test.YtnmamaeoghgegaaG20
import Derived.Test.YtnmamaeoghgegaaG16
import Derived.Test.YtnmamaeoghgegaaG13
/-
  The program's disk and the document's, side by side: what is alike, and that each call keeps it.
-/
namespace Go.Proofs.Ytnmamaeoghgegaa.Dk
open Go.RowKit
set_option maxRecDepth 100000

/-- Places, and the names of the files that they are of, in the order in which they came. -/
abbrev Tape := List (Nat × ByteArray)
def plc (T : Tape) (n : ByteArray) : List Nat := (T.filter fun x => decide (cmp x.2 n = 0)).map Prod.fst
def outT (T : Tape) (n : ByteArray) : Tape := T.filter fun x => !decide (cmp x.2 n = 0)
def toG (T : Tape) (f : F) : G := ⟨f.name, f.bytes, List.replicate f.sure 0 ++ plc T f.name⟩
def flat (ps : List Pc) : List ByteArray := ps.flatMap fun p => List.replicate p.size p.name

structure Rel (s : St) (r : RS) (T : Tape) : Prop where
  files : r.files = s.files.map (toG T)
  names : T.map Prod.snd = flat s.pieces
  rise : (T.map Prod.fst).Pairwise (· < ·)
  pos : ∀ x ∈ T, 0 < x.1 ∧ x.1 ≤ r.count
  most : r.most = s.room
  left : r.left = if s.fused then (s.fuse : Int) else -1
  down : r.down = s.down
  fell : s.down = true → s.fused = true ∧ s.fuse = 0

theorem Rel.nm {s : St} {r : RS} {T : Tape} (h : Rel s r T) : r.names = s.names := by
  unfold RS.names St.names
  rw [h.files, List.map_map]
  rfl
theorem Rel.get {s : St} {r : RS} {T : Tape} (h : Rel s r T) {i : Nat} {f : F} (hf : s.files[i]? = some f) : r.files[i]? = some (toG T f) := by
  rw [h.files, List.getElem?_map, hf]
  rfl
theorem Rel.power {s : St} {r : RS} {T : Tape} (h : Rel s r T) : r.power = s.power := by
  unfold RS.power St.power
  rw [h.down, h.left]
  congr 2
  cases s.fused with
  | false => simp
  | true => by_cases h0 : s.fuse = 0 <;> simp [h0]
theorem Rel.spent {s : St} {r : RS} {T : Tape} (h : Rel s r T) : Rel s.spent r.spent T := by
  have hp := h.power
  refine ⟨h.files, h.names, h.rise, h.pos, h.most, ?_, ?_, ?_⟩
  · show (if 0 < r.left then r.left - 1 else r.left) = if s.fused then ((if s.power && s.fused then s.fuse - 1 else s.fuse : Nat) : Int) else -1
    rw [h.left]
    cases hf : s.fused with
    | false => simp
    | true =>
      simp only [if_true, Bool.and_true]
      cases hq : s.power with
      | true =>
        have : s.fuse ≠ 0 := fun e => by unfold St.power at hq; rw [hf, e] at hq; simp at hq
        simp only [if_true]
        rw [if_pos (by omega)]
        omega
      | false =>
        have : s.fuse = 0 := by
          unfold St.power at hq
          rw [hf] at hq
          cases hd : s.down with
          | true => exact (h.fell hd).2
          | false => rw [hd] at hq; simpa using hq
        simp [this]
  · show (!r.power) = !s.power
    rw [hp]
  · intro hd
    have hq : s.power = false := by have : (!s.power) = true := hd; simpa using this
    have hfs : s.fused = true ∧ s.fuse = 0 := by
      cases hd' : s.down with
      | true => exact h.fell hd'
      | false =>
        unfold St.power at hq
        rw [hd'] at hq
        simpa using hq
    refine ⟨hfs.1, ?_⟩
    show (if s.power && s.fused then s.fuse - 1 else s.fuse) = 0
    rw [hq]
    simpa using hfs.2

theorem plc_out {T : Tape} {n m : ByteArray} : plc (outT T n) m = if cmp m n = 0 then [] else plc T m := by
  unfold plc outT
  rw [List.filter_filter]
  split
  · rename_i h
    have e := cmp_zero.1 h
    subst e
    have : T.filter (fun x => decide (cmp x.2 m = 0) && !decide (cmp x.2 m = 0)) = [] := by
      rw [List.filter_eq_nil_iff]
      intro x _
      simp
    rw [this]
    rfl
  · rename_i h
    congr 1
    apply List.filter_congr
    intro x _
    by_cases e : cmp x.2 m = 0
    · have e' := cmp_zero.1 e
      rw [e']
      simp [h]
    · simp [e]

theorem flat_keep (n : ByteArray) : ∀ ps : List Pc, flat (keepOf n ps) = (flat ps).filter fun x => !decide (cmp x n = 0)
  | [] => rfl
  | p :: r => by
    have ih := flat_keep n r
    unfold keepOf isOf at ih ⊢
    unfold flat at ih ⊢
    simp only [List.flatMap_cons, List.filter_append]
    by_cases h : cmp p.name n = 0
    · have e1 : (p :: r).filter (fun p => !decide (cmp p.name n = 0)) = r.filter fun p => !decide (cmp p.name n = 0) := by simp [h]
      have e2 : (List.replicate p.size p.name).filter (fun x => !decide (cmp x n = 0)) = [] := by
        rw [List.filter_eq_nil_iff]
        intro x hx
        rw [List.eq_of_mem_replicate hx]
        simp [h]
      rw [e1, e2, List.nil_append]
      exact ih
    · have e1 : (p :: r).filter (fun p => !decide (cmp p.name n = 0)) = p :: r.filter fun p => !decide (cmp p.name n = 0) := by simp [h]
      have e2 : (List.replicate p.size p.name).filter (fun x => !decide (cmp x n = 0)) = List.replicate p.size p.name := by
        rw [List.filter_eq_self]
        intro x hx
        rw [List.eq_of_mem_replicate hx]
        simp [h]
      rw [e1, e2, List.flatMap_cons, ih]

theorem out_names {T : Tape} {ps : List Pc} (h : T.map Prod.snd = flat ps) (n : ByteArray) : (outT T n).map Prod.snd = flat (keepOf n ps) := by
  rw [flat_keep, ← h]
  unfold outT
  rw [List.filter_map]
  rfl
theorem out_rise {T : Tape} (h : (T.map Prod.fst).Pairwise (· < ·)) (n : ByteArray) : ((outT T n).map Prod.fst).Pairwise (· < ·) := h.sublist (List.filter_sublist.map _)
theorem out_pos {T : Tape} {k : Nat} (h : ∀ x ∈ T, 0 < x.1 ∧ x.1 ≤ k) (n : ByteArray) : ∀ x ∈ outT T n, 0 < x.1 ∧ x.1 ≤ k := fun x hx => h x ((List.mem_filter.1 hx).1)

theorem toG_out {T : Tape} {f : F} {n : ByteArray} (h : ¬ f.name = n) : toG (outT T n) f = toG T f := by
  unfold toG
  rw [plc_out, if_neg (fun e => h (cmp_zero.1 e))]

theorem getElem_name {l : List F} (hn : (l.map F.name).Nodup) {i j : Nat} {f x : F} (hf : l[i]? = some f) (hx : l[j]? = some x) (hij : i ≠ j) : ¬ x.name = f.name := fun e => by
  have h1 : (l.map F.name)[i]? = some f.name := by rw [List.getElem?_map, hf]; rfl
  have h2 : (l.map F.name)[j]? = some f.name := by rw [List.getElem?_map, hx, ← e]; rfl
  obtain ⟨a, _⟩ := List.getElem?_eq_some_iff.1 h1
  exact hij ((List.getElem?_inj a hn).1 (h1.trans h2.symm))

theorem map_set {l : List F} (hn : (l.map F.name).Nodup) {i : Nat} {f f' : F} (hf : l[i]? = some f) (T : Tape) {y : G} (hy : toG (outT T f.name) f' = y) : (l.map (toG T)).set i y = (l.set i f').map (toG (outT T f.name)) := by
  have hi : i < l.length := (List.getElem?_eq_some_iff.1 hf).1
  apply List.ext_getElem?
  intro j
  rw [List.getElem?_set, List.getElem?_map, List.getElem?_map, List.getElem?_set]
  by_cases e : i = j
  · rw [if_pos e, if_pos e, if_pos (by simpa using hi), if_pos hi, ← hy]
    rfl
  · rw [if_neg e, if_neg e]
    cases hx : l[j]? with
    | none => rfl
    | some x =>
      show some _ = some _
      rw [toG_out (getElem_name hn hf hx e)]

theorem map_erase {l : List F} (hn : (l.map F.name).Nodup) {i : Nat} {f : F} (hf : l[i]? = some f) (T : Tape) : (l.map (toG T)).eraseIdx i = (l.eraseIdx i).map (toG (outT T f.name)) := by
  rw [List.eraseIdx_eq_take_drop_succ, ← List.map_take, ← List.map_drop, ← List.map_append, ← List.eraseIdx_eq_take_drop_succ]
  apply List.map_congr_left
  intro x hx
  rw [toG_out ((mem_erase_ne hn hf).1 hx).2]

theorem Rel.settle {s : St} {r : RS} {T : Tape} (h : Rel s r T) (hn : s.names.Nodup) {i k : Nat} {f : F} (hf : s.files[i]? = some f) : Rel (s.settle i k) (r.setAt i fun g => ⟨g.name, g.bytes.take k, List.replicate k 0⟩) (outT T f.name) := by
  unfold St.settle RS.setAt
  rw [hf, h.get hf]
  refine ⟨?_, out_names h.names f.name, out_rise h.rise _, out_pos h.pos _, h.most, h.left, h.down, h.fell⟩
  simp only
  rw [h.files]
  refine map_set hn hf T ?_
  unfold toG
  rw [plc_out, if_pos (cmp_self _), List.append_nil]

theorem Rel.drop {s : St} {r : RS} {T : Tape} (h : Rel s r T) (hn : s.names.Nodup) {i : Nat} {f : F} (hf : s.files[i]? = some f) : Rel (s.drop i) (r.dropAt i) (outT T f.name) := by
  unfold St.drop RS.dropAt
  rw [hf]
  refine ⟨?_, out_names h.names f.name, out_rise h.rise _, out_pos h.pos _, h.most, h.left, h.down, h.fell⟩
  simp only
  rw [h.files]
  exact map_erase hn hf T

/-- So many places as bytes that wait. -/
theorem flat_count (n : ByteArray) : ∀ ps : List Pc, (flat ps).countP (fun x => decide (cmp x n = 0)) = wait n ps
  | [] => rfl
  | p :: r => by
    unfold flat
    rw [List.flatMap_cons, List.countP_append, wait_cons]
    have ih := flat_count n r
    unfold flat at ih
    rw [ih]
    congr 1
    rw [List.countP_replicate]
    by_cases h : cmp p.name n = 0 <;> simp [h]
theorem plc_length (T : Tape) (n : ByteArray) : (plc T n).length = (T.map Prod.snd).countP fun x => decide (cmp x n = 0) := by
  unfold plc
  rw [List.length_map, List.countP_map, List.countP_eq_length_filter]
  rfl
theorem Rel.plc_len {s : St} {r : RS} {T : Tape} (h : Rel s r T) (n : ByteArray) : (plc T n).length = wait n s.pieces := by rw [plc_length, h.names, flat_count]

theorem plc_pos {T : Tape} {k : Nat} (h : ∀ x ∈ T, 0 < x.1 ∧ x.1 ≤ k) {n : ByteArray} {p : Nat} (hp : p ∈ plc T n) : 0 < p ∧ p ≤ k := by
  obtain ⟨x, hx, rfl⟩ := List.mem_map.1 hp
  exact h x ((List.mem_filter.1 hx).1)

theorem Rel.put {s : St} {r : RS} {T : Tape} (h : Rel s r T) {f : F} {g : G} (hg : toG T f = g) : Rel (s.putAt (place s.names f.name) f) (r.putF g) T := by
  refine ⟨?_, h.names, h.rise, h.pos, h.most, h.left, h.down, h.fell⟩
  show r.files.take (place r.names g.name) ++ g :: r.files.drop (place r.names g.name) = (s.files.take (place s.names f.name) ++ f :: s.files.drop (place s.names f.name)).map (toG T)
  have e : g.name = f.name := by rw [← hg]; rfl
  rw [h.nm, e, h.files, List.map_append, List.map_cons, List.map_take, List.map_drop, hg]

theorem range_fst (n : ByteArray) (a k : Nat) : ((List.range' a k).map fun p => ((p, n) : Nat × ByteArray)).map Prod.fst = List.range' a k := by
  rw [List.map_map]
  exact List.map_id' _
theorem range_snd (n : ByteArray) (a k : Nat) : ((List.range' a k).map fun p => ((p, n) : Nat × ByteArray)).map Prod.snd = List.replicate k n := by
  rw [List.map_map]
  show (List.range' a k).map (fun _ => n) = _
  rw [List.map_const']
  simp

theorem plc_more (T : Tape) (n m : ByteArray) (a k : Nat) : plc (T ++ (List.range' a k).map fun p => (p, n)) m = if cmp m n = 0 then plc T m ++ List.range' a k else plc T m := by
  unfold plc
  rw [List.filter_append, List.map_append]
  split
  · rename_i h
    have e := cmp_zero.1 h
    subst e
    congr 1
    have : ((List.range' a k).map fun p => ((p, m) : Nat × ByteArray)).filter (fun x => decide (cmp x.2 m = 0)) = (List.range' a k).map fun p => ((p, m) : Nat × ByteArray) := by
      rw [List.filter_eq_self]
      intro x hx
      obtain ⟨p, _, rfl⟩ := List.mem_map.1 hx
      simp [cmp_self]
    rw [this, range_fst]
  · rename_i h
    have : ((List.range' a k).map fun p => ((p, n) : Nat × ByteArray)).filter (fun x => decide (cmp x.2 m = 0)) = [] := by
      rw [List.filter_eq_nil_iff]
      intro x hx
      obtain ⟨p, _, rfl⟩ := List.mem_map.1 hx
      have : ¬ cmp n m = 0 := fun e => h (cmp_zero.2 (cmp_zero.1 e).symm)
      simp [this]
    rw [this]
    simp

theorem Rel.more {s : St} {r : RS} {T : Tape} (h : Rel s r T) (hn : s.names.Nodup) {i : Nat} {f : F} {n x : ByteArray} (hf : s.files[i]? = some f) (hfn : f.name = n) : Rel (s.more i n x) (r.more i x.data.toList) (T ++ (List.range' (r.count + 1) x.size).map fun p => (p, n)) := by
  have hi : i < s.files.length := (List.getElem?_eq_some_iff.1 hf).1
  have hxs : x.data.toList.length = x.size := rfl
  unfold St.more RS.more
  rw [hf, h.get hf]
  refine ⟨?_, ?_, ?_, ?_, h.most, h.left, h.down, h.fell⟩
  · simp only
    rw [h.files]
    apply List.ext_getElem?
    intro j
    rw [List.getElem?_set, List.getElem?_map, List.getElem?_map, List.getElem?_set]
    by_cases e : i = j
    · rw [if_pos e, if_pos e, if_pos (by simpa using hi), if_pos hi]
      show some _ = some _
      congr 1
      unfold toG
      simp only
      rw [plc_more, hfn, if_pos (cmp_self _), hxs, List.append_assoc]
    · rw [if_neg e, if_neg e]
      cases hx : s.files[j]? with
      | none => rfl
      | some y =>
        show some _ = some _
        congr 1
        unfold toG
        rw [plc_more, if_neg (fun e' => getElem_name hn hf hx e (by rw [cmp_zero.1 e', hfn]))]
  · rw [List.map_append, h.names, range_snd]
    show _ = flat (s.pieces ++ [⟨n, x.size⟩])
    unfold flat
    rw [List.flatMap_append]
    simp
  · rw [List.map_append, range_fst, List.pairwise_append]
    refine ⟨h.rise, List.pairwise_lt_range', fun a ha c hc => ?_⟩
    obtain ⟨y, hy, rfl⟩ := List.mem_map.1 ha
    have := (h.pos y hy).2
    have := (List.mem_range'_1.1 hc).1
    omega
  · intro y hy
    show 0 < y.1 ∧ y.1 ≤ r.count + x.data.toList.length
    rcases List.mem_append.1 hy with hy | hy
    · have := h.pos y hy
      omega
    · obtain ⟨p, hp, rfl⟩ := List.mem_map.1 hy
      have := List.mem_range'_1.1 hp
      rw [hxs]
      show 0 < p ∧ p ≤ _
      omega
end Go.Proofs.Ytnmamaeoghgegaa.Dk

/-
  Each call of both disks keeps what is alike, and answers alike.
-/
namespace Go.Proofs.Ytnmamaeoghgegaa.Dk
open Go.RowKit
set_option maxRecDepth 100000

theorem spent_names (s : St) : s.spent.names = s.names := rfl
theorem atOf_nat {l : List ByteArray} (hr : Rising l) {n : ByteArray} (hh : has l n = true) : (atOf l n).toNat = place l n := by rw [at_place hr n, hh]; simp
theorem rspent_names (r : RS) : r.spent.names = r.names := rfl

theorem sureN_app (k : Nat) (l : List Nat) (h : ∀ p ∈ l, 0 < p) : sureN (List.replicate k 0 ++ l) = k := by
  unfold sureN
  rw [List.countP_append, List.countP_replicate, if_pos (by simp)]
  have : l.countP (fun n => decide (n = 0)) = 0 := by
    rw [List.countP_eq_zero]
    intro p hp
    have := h p hp
    simp; omega
  omega
theorem lateN_app (k : Nat) (l : List Nat) (h : ∀ p ∈ l, 0 < p) : lateN (List.replicate k 0 ++ l) = l.length := by
  unfold lateN
  rw [List.countP_append, List.countP_replicate, if_neg (by simp), Nat.zero_add, List.countP_eq_length]
  intro p hp
  exact decide_eq_true (h p hp)

theorem Rel.sureOf {s : St} {r : RS} {T : Tape} (h : Rel s r T) (f : F) : sureN (toG T f).late = f.sure := sureN_app _ _ fun _p hp => (plc_pos h.pos hp).1

theorem Rel.sure {s : St} {r : RS} {T : Tape} (h : Rel s r T) (ok : Ok s) {n : ByteArray} {f : F} (hf : s.files[place s.names n]? = some f) (hh : has s.names n = true) : rSure r n = f.sure := by
  unfold rSure
  rw [h.nm, atOf_nat ok.rising hh, h.get hf, hh]
  exact h.sureOf f

theorem Rel.sure_none {s : St} {r : RS} {T : Tape} (h : Rel s r T) {n : ByteArray} (hh : has s.names n = false) : rSure r n = 0 := by
  unfold rSure
  rw [h.nm, hh]
  split
  · rename_i e
    cases e
  · rfl

theorem Rel.used {s : St} {r : RS} {T : Tape} (h : Rel s r T) : r.used = s.total := by
  unfold RS.used St.total
  rw [h.files, List.map_map]
  rfl
theorem Rel.lates {s : St} {r : RS} {T : Tape} (h : Rel s r T) (ok : Ok s) : r.lates = (s.pieces.map Pc.size).sum := by
  rw [sum_waits s.names ok.rising.nodup s.pieces ok.named]
  unfold RS.lates St.names
  rw [h.files, List.map_map, List.map_map]
  congr 1
  apply List.map_congr_left
  intro f _
  show lateN (toG T f).late = wait f.name s.pieces
  rw [show (toG T f).late = List.replicate f.sure 0 ++ plc T f.name from rfl, lateN_app _ _ fun p hp => (plc_pos h.pos hp).1, h.plc_len]

theorem Rel.room {s : St} {r : RS} {T : Tape} (h : Rel s r T) (n : Int) : Rel (opRoom s n) (rRoom r n) T := ⟨h.files, h.names, h.rise, h.pos, rfl, h.left, h.down, h.fell⟩
theorem Rel.fuse {s : St} {r : RS} {T : Tape} (h : Rel s r T) (n : Int) : Rel (opFuse s n) (rFuse r n) T := by
  unfold opFuse rFuse
  rw [h.down]
  cases hd : s.down with
  | true => exact h
  | false =>
    simp only [Bool.false_eq_true, if_false]
    refine ⟨h.files, h.names, h.rise, h.pos, h.most, ?_, rfl, fun e => by cases e⟩
    show (if n < 0 then -1 else n) = if decide (0 ≤ n) = true then ((n.toNat : Nat) : Int) else -1
    by_cases hn : n < 0
    · rw [if_pos hn, if_neg (by simpa using hn)]
    · rw [if_neg hn, if_pos (by simp; omega)]
      omega

theorem Rel.sync {s : St} {r : RS} {T : Tape} (h : Rel s r T) (ok : Ok s) (n : ByteArray) : (rSync r n).1 = (opSync s n).1 ∧ ∃ T', Rel (opSync s n).2 (rSync r n).2 T' ∧ (rSync r n).2.count = r.count := by
  unfold rSync opSync
  rw [h.power, h.nm]
  cases s.power with
  | false => exact ⟨rfl, T, h.spent, rfl⟩
  | true =>
    cases hh : has s.names n with
    | false => exact ⟨rfl, T, h.spent, rfl⟩
    | true =>
      obtain ⟨f, hf, hfn, hfm⟩ := has_get ok.rising hh
      simp only [if_true]
      rw [atOf_nat ok.rising hh, settle_len n hf]
      have hs := h.spent.settle (k := f.bytes.length) (show s.spent.names.Nodup from ok.rising.nodup) (show s.spent.files[place s.names n]? = some f from hf)
      refine ⟨trivial, outT T f.name, ?_, ?_⟩
      · have e : r.spent.setAt (place s.names n) (fun g => ⟨g.name, g.bytes, List.replicate g.bytes.length 0⟩) = r.spent.setAt (place s.names n) fun g => ⟨g.name, g.bytes.take f.bytes.length, List.replicate f.bytes.length 0⟩ := by
          unfold RS.setAt
          rw [h.spent.get (show s.spent.files[place s.names n]? = some f from hf)]
          simp only [toG, List.take_length]
        rw [e]
        exact hs
      · unfold RS.setAt
        split <;> rfl

theorem Rel.cut {s : St} {r : RS} {T : Tape} (h : Rel s r T) (ok : Ok s) (n : ByteArray) (k : Int) : (rCut r n k).1 = (opCut s n k).1 ∧ ∃ T', Rel (opCut s n k).2 (rCut r n k).2 T' ∧ (rCut r n k).2.count = r.count := by
  unfold rCut opCut
  rw [h.power, h.nm]
  cases s.power with
  | false => exact ⟨rfl, T, h.spent, rfl⟩
  | true =>
    cases hh : has s.names n with
    | false => exact ⟨rfl, T, h.spent, rfl⟩
    | true =>
      obtain ⟨f, hf, hfn, hfm⟩ := has_get ok.rising hh
      simp only [if_true]
      rw [atOf_nat ok.rising hh, settle_len n hf]
      have hs := h.spent.settle (k := (min (max k 0) (f.bytes.length : Int)).toNat) (show s.spent.names.Nodup from ok.rising.nodup) (show s.spent.files[place s.names n]? = some f from hf)
      refine ⟨trivial, outT T f.name, ?_, ?_⟩
      · have e : r.spent.setAt (place s.names n) (fun g => ⟨g.name, g.bytes.take (min (max k 0) (g.bytes.length : Int)).toNat, List.replicate (min (max k 0) (g.bytes.length : Int)).toNat 0⟩) = r.spent.setAt (place s.names n) fun g => ⟨g.name, g.bytes.take (min (max k 0) (f.bytes.length : Int)).toNat, List.replicate (min (max k 0) (f.bytes.length : Int)).toNat 0⟩ := by
          unfold RS.setAt
          rw [h.spent.get (show s.spent.files[place s.names n]? = some f from hf)]
          rfl
        rw [e]
        exact hs
      · unfold RS.setAt
        split <;> rfl

theorem Rel.remove {s : St} {r : RS} {T : Tape} (h : Rel s r T) (ok : Ok s) (n : ByteArray) : (rRemove r n).1 = (opRemove s n).1 ∧ ∃ T', Rel (opRemove s n).2 (rRemove r n).2 T' ∧ (rRemove r n).2.count = r.count := by
  unfold rRemove opRemove
  rw [h.power, h.nm]
  cases s.power with
  | false => exact ⟨rfl, T, h.spent, rfl⟩
  | true =>
    cases hh : has s.names n with
    | false => exact ⟨rfl, T, h.spent, rfl⟩
    | true =>
      obtain ⟨f, hf, hfn, hfm⟩ := has_get ok.rising hh
      simp only [if_true]
      rw [atOf_nat ok.rising hh]
      exact ⟨trivial, _, h.spent.drop (show s.spent.names.Nodup from ok.rising.nodup) (show s.spent.files[place s.names n]? = some f from hf), rfl⟩

theorem Rel.rot {s : St} {r : RS} {T : Tape} (h : Rel s r T) (ok : Ok s) (file at_ by_ : Int) : (rRot r file at_ by_).1 = (opRot s file at_ by_).1 ∧ Rel (opRot s file at_ by_).2 (rRot r file at_ by_).2 T ∧ (rRot r file at_ by_).2.count = r.count := by
  unfold rRot opRot
  by_cases hc : 0 ≤ file ∧ 0 ≤ at_
  · rw [if_pos hc, if_pos hc]
    cases hf : s.files[file.toNat]? with
    | none =>
      have : r.files[file.toNat]? = none := by rw [h.files, List.getElem?_map, hf]; rfl
      rw [this]
      exact ⟨rfl, h, rfl⟩
    | some f =>
      rw [h.get hf]
      simp only
      have hi : file.toNat < s.files.length := (List.getElem?_eq_some_iff.1 hf).1
      have hnm : has s.names f.name = true := has_iff.2 (List.mem_map.2 ⟨f, List.mem_of_getElem? hf, rfl⟩)
      have hpl : place s.names f.name = file.toNat := by
        have hl : file.toNat < s.names.length := by simpa [St.names] using hi
        have := place_at ok.rising file.toNat hl
        rw [getElem!_pos s.names _ hl] at this
        have e : s.names[file.toNat] = f.name := by
          have : s.names[file.toNat]? = some f.name := by show (s.files.map F.name)[file.toNat]? = _; rw [List.getElem?_map, hf]; rfl
          rw [List.getElem?_eq_getElem hl] at this
          exact Option.some.inj this
        rwa [e] at this
      have hsu : rSure r (toG T f).name = f.sure := h.sure ok (n := f.name) (by rw [hpl]; exact hf) hnm
      rw [hsu]
      by_cases ha : at_ < (f.sure : Int)
      · rw [if_pos ha, if_pos ha]
        refine ⟨rfl, ⟨?_, h.names, h.rise, h.pos, h.most, h.left, h.down, h.fell⟩, rfl⟩
        show r.files.set file.toNat _ = (s.files.set file.toNat _).map (toG T)
        rw [h.files, List.map_set]
        rfl
      · rw [if_neg ha, if_neg ha]
        exact ⟨rfl, h, rfl⟩
  · rw [if_neg hc, if_neg hc]
    exact ⟨rfl, h, rfl⟩

theorem out_none {T : Tape} {n : ByteArray} (h : plc T n = []) : outT T n = T := by
  unfold outT
  rw [List.filter_eq_self]
  intro x hx
  unfold plc at h
  have := List.map_eq_nil_iff.1 h
  rw [List.filter_eq_nil_iff] at this
  have := this x hx
  simpa using this

theorem Rel.plc_none {s : St} {r : RS} {T : Tape} (h : Rel s r T) (ok : Ok s) {n : ByteArray} (hn : n ∉ s.names) : plc T n = [] := by
  apply List.eq_nil_of_length_eq_zero
  rw [h.plc_len]
  exact wait_out fun p hp e => hn (e ▸ ok.named p hp)

theorem Rel.make {s : St} {r : RS} {T : Tape} (h : Rel s r T) (ok : Ok s) (n : ByteArray) : Rel (s.make n) (r.rmake n) T := by
  unfold St.make RS.rmake
  rw [h.nm]
  cases hh : has s.names n with
  | true => exact h
  | false =>
    simp only [Bool.false_eq_true, if_false]
    have hn : n ∉ s.names := fun hm => by rw [has_iff.2 hm] at hh; cases hh
    have := h.put (f := ⟨n, [], 0⟩) (g := ⟨n, [], []⟩) (by unfold toG; simp only; rw [h.plc_none ok hn]; rfl)
    unfold St.putAt RS.putF at this
    simp only [h.nm] at this
    exact this

theorem Rel.append {s : St} {r : RS} {T : Tape} (h : Rel s r T) (ok : Ok s) (n x : ByteArray) : (rAppend r n x).1 = (opAppend s n x).1 ∧ ∃ T', Rel (opAppend s n x).2 (rAppend r n x).2 T' ∧ (rAppend r n x).2.count ≤ r.count + x.size := by
  unfold rAppend opAppend
  have hfull : r.full n x = s.full n x := by
    unfold RS.full St.full
    rw [h.nm, h.used, h.most, h.files, List.length_map]
    have := ok.few
    congr 2
    rw [Bool.eq_iff_iff]
    simp
    omega
  rw [h.power, hfull, h.nm]
  cases s.power with
  | false => exact ⟨rfl, T, h.spent, Nat.le_add_right _ _⟩
  | true =>
    simp only [if_true]
    cases mayBe n with
    | false => exact ⟨rfl, T, h.spent, Nat.le_add_right _ _⟩
    | true =>
      simp only [if_true]
      cases hq : s.full n x with
      | true => exact ⟨rfl, T, h.spent, Nat.le_add_right _ _⟩
      | false =>
        simp only [Bool.false_eq_true, if_false]
        have hl : has s.spent.names n = false → s.spent.files.length < 16 := fun e => by
          unfold St.full at hq
          have e' : has s.names n = false := e
          have hf16 := ok.few
          rw [e'] at hq
          simp at hq
          show s.files.length < 16
          omega
        obtain ⟨okm, _, f, hf, hfn⟩ := ok.spent.make n hl
        have hm := h.spent.make ok.spent n
        have hfr : (r.spent.rmake n).count = r.count := by
          unfold RS.rmake
          split <;> rfl
        have hf' : (s.spent.make n).files[place s.names n]? = some f := hf
        by_cases hx : x.size = 0
        · have hxe : x.data.toList = [] := List.eq_nil_of_length_eq_zero hx
          rw [if_pos hx, hxe, more_nil (hm.get hf')]
          exact ⟨trivial, T, hm, by rw [hfr]; omega⟩
        · rw [if_neg hx]
          refine ⟨trivial, _, hm.more okm.rising.nodup hf' hfn, ?_⟩
          unfold RS.more
          rw [hm.get hf']
          show (r.spent.rmake n).count + x.data.toList.length ≤ _
          rw [hfr]
          exact Nat.le_refl _

theorem Rel.rename {s : St} {r : RS} {T : Tape} (h : Rel s r T) (ok : Ok s) (n t : ByteArray) : (rRename r n t).1 = (opRename s n t).1 ∧ ∃ T', Rel (opRename s n t).2 (rRename r n t).2 T' ∧ (rRename r n t).2.count = r.count := by
  unfold rRename opRename
  rw [h.power, h.nm]
  cases s.power with
  | false => exact ⟨rfl, T, h.spent, rfl⟩
  | true =>
    simp only [if_true]
    cases mayBe t with
    | false => exact ⟨rfl, T, h.spent, rfl⟩
    | true =>
      simp only [if_true]
      cases hh : has s.names n with
      | false =>
        cases s.files[place s.names n]? <;> exact ⟨rfl, T, h.spent, rfl⟩
      | true =>
        obtain ⟨f, hf, hfn, hfm⟩ := has_get ok.rising hh
        rw [atOf_nat ok.rising hh, h.get hf, hf]
        simp only [if_true]
        rw [h.sure ok hf hh]
        by_cases hlt : f.sure < f.bytes.length
        · rw [if_pos (show f.sure < (toG T f).bytes.length from hlt), if_pos hlt]
          exact ⟨rfl, T, h.spent, rfl⟩
        · rw [if_neg (show ¬ f.sure < (toG T f).bytes.length from hlt), if_neg hlt]
          by_cases hc : cmp n t = 0
          · rw [if_pos hc, if_pos hc]
            exact ⟨rfl, T, h.spent, rfl⟩
          · rw [if_neg hc, if_neg hc]
            have hnd : s.spent.names.Nodup := ok.rising.nodup
            have hfs : s.spent.files[place s.names n]? = some f := hf
            have h1 := h.spent.drop hnd hfs
            have ok1 := ok.spent.drop hfs
            have hw : plc T n = [] := by
              apply List.eq_nil_of_length_eq_zero
              have := ok.waits f hfm
              rw [h.plc_len, ← hfn]
              omega
            have hT1 : outT T f.name = T := out_none (by rw [hfn]; exact hw)
            rw [hT1] at h1
            have hlate : (toG T f).late = List.replicate f.sure 0 := by unfold toG; simp only; rw [hfn, hw, List.append_nil]
            have hct : ((r.spent.dropAt (place s.names n)).free1 t).count = r.count := by
              unfold RS.free1 RS.dropAt
              split <;> rfl
            refine ⟨rfl, ?_⟩
            unfold RS.moved
            obtain ⟨okf, hout, _, _, hpl⟩ := ok1.free1 t
            have key : ∃ T', Rel ((s.spent.drop (place s.names n)).free1 t) ((r.spent.dropAt (place s.names n)).free1 t) T' := by
              unfold St.free1 RS.free1
              rw [h1.nm]
              cases hht : has (s.spent.drop (place s.names n)).names t with
              | false => exact ⟨T, h1⟩
              | true =>
                obtain ⟨f2, hf2, _, _⟩ := has_get ok1.rising hht
                simp only [if_true]
                rw [atOf_nat ok1.rising hht]
                exact ⟨_, h1.drop ok1.rising.nodup hf2⟩
            obtain ⟨T', h2⟩ := key
            refine ⟨T', ?_, hct⟩
            have := h2.put (f := ⟨t, f.bytes, f.sure⟩) (g := ⟨t, (toG T f).bytes, (toG T f).late⟩) (by
              rw [hlate]
              unfold toG
              simp only
              rw [h2.plc_none okf hout, List.append_nil])
            simp only at this
            rw [hpl] at this
            exact this
end Go.Proofs.Ytnmamaeoghgegaa.Dk

/-
  A crash leaves alike what was alike.
-/
namespace Go.Proofs.Ytnmamaeoghgegaa.Dk
open Go.RowKit
set_option maxRecDepth 100000

theorem countP_lt_succ : ∀ (P : List Nat) (n : Nat), P.Nodup → P.countP (fun p => decide (p < n + 1)) = P.countP (fun p => decide (p < n)) + if n ∈ P then 1 else 0
  | [], n, _ => by simp
  | a :: r, n, h => by
    rw [List.nodup_cons] at h
    have ih := countP_lt_succ r n h.2
    rw [List.countP_cons, List.countP_cons, ih]
    by_cases e : a = n
    · subst e
      rw [if_neg h.1]
      simp
    · by_cases h1 : a < n
      · have : a < n + 1 := by omega
        simp only [List.mem_cons, h1, this, decide_true, if_true, show (n = a) = False from by simp; omega, false_or]
        omega
      · have : ¬ a < n + 1 := by omega
        simp only [List.mem_cons, h1, this, decide_false, show (n = a) = False from by simp; omega, false_or]
        simp

theorem rk_count (l P : List Nat) (hn : P.Nodup) (hp : ∀ p ∈ P, 0 < p) (hm : ∀ p, 0 < p → (p ∈ l ↔ p ∈ P)) : ∀ n, rk l n = P.countP fun p => decide (p < n)
  | 0 => by
    show mk1 l 0 = _
    unfold mk1
    rw [if_neg (by omega)]
    symm
    rw [List.countP_eq_zero]
    intro p _
    simp
  | n + 1 => by
    show rk l n + mk1 l (n + 1) = _
    rw [rk_count l P hn hp hm n, countP_lt_succ P n hn]
    congr 1
    unfold mk1
    rw [Nat.add_sub_cancel]
    by_cases h0 : n = 0
    · subst h0
      rw [if_neg (by omega), if_neg (fun h => by have := hp 0 h; omega)]
    · have := hm n (by omega)
      by_cases hP : n ∈ P
      · rw [if_pos ⟨by omega, this.2 hP⟩, if_pos hP]
      · rw [if_neg (fun h => hP (this.1 h.2)), if_neg hP]

/-- Of a rising list's own place. -/
theorem countP_rise {A C : List Nat} {p : Nat} (h : (A ++ p :: C).Pairwise (· < ·)) : (A ++ p :: C).countP (fun q => decide (q < p)) = A.length := by
  rw [List.pairwise_append] at h
  obtain ⟨_, h2, h3⟩ := h
  rw [List.pairwise_cons] at h2
  rw [List.countP_append, List.countP_cons]
  have e1 : A.countP (fun q => decide (q < p)) = A.length := by
    rw [List.countP_eq_length]
    intro q hq
    exact decide_eq_true (h3 q hq p List.mem_cons_self)
  have e2 : C.countP (fun q => decide (q < p)) = 0 := by
    rw [List.countP_eq_zero]
    intro q hq
    have := h2.1 q hq
    simp; omega
  rw [e1, e2]
  simp

theorem keepN_all (c : Nat → Bool) : ∀ (A C : List Nat) (p : Nat), (∀ x ∈ A, c x = true) → keepN c (A ++ C) p p = keepN c C (p + A.length) (p + A.length)
  | [], C, p, _ => rfl
  | a :: r, C, p, h => by
    show keepN c (r ++ C) (p + 1) _ = _
    rw [h a List.mem_cons_self, if_pos rfl, keepN_all c r C (p + 1) fun x hx => h x (List.mem_cons_of_mem _ hx)]
    rw [List.length_cons, show p + 1 + r.length = p + (r.length + 1) by omega]
theorem keepN_none (c : Nat → Bool) : ∀ (C : List Nat) (p a : Nat), (∀ x ∈ C, c x = false) → keepN c C p a = a
  | [], _, _, _ => rfl
  | x :: r, p, a, h => by
    show keepN c r (p + 1) _ = _
    rw [h x List.mem_cons_self]
    exact keepN_none c r (p + 1) a fun y hy => h y (List.mem_cons_of_mem _ hy)

theorem lasts_flat : ∀ (ps : List Pc) (l : List F) (left : Nat), lasts l ps left = l.map fun f => ⟨f.name, f.bytes, f.sure + ((flat ps).take left).countP fun x => decide (cmp x f.name = 0)⟩
  | [], l, left => by
    show l = _
    simp [flat]
  | p :: r, l, left => by
    show lasts (surer l p.name (min p.size left)) r (left - min p.size left) = _
    rw [lasts_flat r]
    unfold surer
    rw [List.map_map]
    apply List.map_congr_left
    intro f _
    have e : (flat (p :: r)).take left = List.replicate (min left p.size) p.name ++ (flat r).take (left - p.size) := by
      unfold flat
      rw [List.flatMap_cons, List.take_append, List.take_replicate, List.length_replicate]
    rw [e, List.countP_append, List.countP_replicate, show left - min p.size left = left - p.size by omega, Nat.min_comm p.size left]
    by_cases h : cmp f.name p.name = 0
    · have h' : cmp p.name f.name = 0 := cmp_zero.2 (cmp_zero.1 h).symm
      simp only [Function.comp, h, h', if_true, decide_true]
      congr 1
      omega
    · have h' : ¬ cmp p.name f.name = 0 := fun e => h (cmp_zero.2 (cmp_zero.1 e).symm)
      simp only [Function.comp, h, h', if_false, decide_false]
      simp

theorem Rel.mem_all {s : St} {r : RS} {T : Tape} (h : Rel s r T) (ok : Ok s) (p : Nat) (hp : 0 < p) : p ∈ r.all ↔ p ∈ T.map Prod.fst := by
  unfold RS.all
  rw [h.files]
  constructor
  · intro hm
    obtain ⟨g, hg, hpg⟩ := List.mem_flatMap.1 hm
    obtain ⟨f, _, rfl⟩ := List.mem_map.1 hg
    rcases List.mem_append.1 hpg with e | e
    · have := List.eq_of_mem_replicate e
      omega
    · obtain ⟨x, hx, rfl⟩ := List.mem_map.1 e
      exact List.mem_map.2 ⟨x, (List.mem_filter.1 hx).1, rfl⟩
  · intro hm
    obtain ⟨x, hx, rfl⟩ := List.mem_map.1 hm
    have hn : x.2 ∈ flat s.pieces := by rw [← h.names]; exact List.mem_map.2 ⟨x, hx, rfl⟩
    obtain ⟨q, hq, hxq⟩ := List.mem_flatMap.1 hn
    have hnm := ok.named q hq
    rw [← List.eq_of_mem_replicate hxq] at hnm
    obtain ⟨f, hf, hfn⟩ := List.mem_map.1 hnm
    refine List.mem_flatMap.2 ⟨toG T f, List.mem_map.2 ⟨f, hf, rfl⟩, List.mem_append_right _ ?_⟩
    exact List.mem_map.2 ⟨x, List.mem_filter.2 ⟨hx, decide_eq_true (cmp_zero.2 hfn.symm)⟩, rfl⟩

theorem Rel.lasts {s : St} {r : RS} {T : Tape} (h : Rel s r T) (ok : Ok s) (last : Int) {A C : Tape} {x : Nat × ByteArray} (hT : T = A ++ x :: C) : lastsC r.all last x.1 = decide (A.length < last.toNat) := by
  have hx : x ∈ T := by rw [hT]; simp
  have hp := h.pos x hx
  unfold lastsC
  rw [decide_eq_false (show ¬ x.1 = 0 by omega), Bool.false_or]
  have hnd : (T.map Prod.fst).Nodup := h.rise.imp fun h => Nat.ne_of_lt h
  rw [rk_count r.all (T.map Prod.fst) hnd (fun p hp => by obtain ⟨y, hy, rfl⟩ := List.mem_map.1 hp; exact (h.pos y hy).1) (h.mem_all ok) x.1]
  have hr := h.rise
  rw [hT, List.map_append, List.map_cons] at hr ⊢
  rw [countP_rise hr, List.length_map, Bool.eq_iff_iff, decide_eq_true_iff, decide_eq_true_iff]
  omega

theorem Rel.kept {s : St} {r : RS} {T : Tape} (h : Rel s r T) (ok : Ok s) (last : Int) (f : F) : keepN (lastsC r.all last) (toG T f).late 0 0 = f.sure + ((flat s.pieces).take last.toNat).countP fun x => decide (cmp x f.name = 0) := by
  have hTm : T = T.take last.toNat ++ T.drop last.toNat := (List.take_append_drop _ _).symm
  have hpl : plc T f.name = plc (T.take last.toNat) f.name ++ plc (T.drop last.toNat) f.name := by
    conv => lhs; rw [hTm]
    unfold plc
    rw [List.filter_append, List.map_append]
  unfold toG
  simp only
  rw [hpl]
  rw [keepN_all _ (List.replicate f.sure 0) _ 0 fun x hx => by rw [List.eq_of_mem_replicate hx]; rfl]
  rw [List.length_replicate, Nat.zero_add]
  have hA : ∀ p ∈ plc (T.take last.toNat) f.name, lastsC r.all last p = true := fun p hp => by
    obtain ⟨x, hx, rfl⟩ := List.mem_map.1 hp
    obtain ⟨A, C, hAC⟩ := List.append_of_mem (List.mem_filter.1 hx).1
    have hT2 : T = A ++ x :: (C ++ T.drop last.toNat) := by
      rw [← List.cons_append, ← List.append_assoc, ← hAC]
      exact hTm
    rw [h.lasts ok last hT2]
    have := congrArg List.length hAC
    rw [List.length_take, List.length_append, List.length_cons] at this
    exact decide_eq_true (by omega)
  have hC : ∀ p ∈ plc (T.drop last.toNat) f.name, lastsC r.all last p = false := fun p hp => by
    obtain ⟨x, hx, rfl⟩ := List.mem_map.1 hp
    obtain ⟨A, C, hAC⟩ := List.append_of_mem (List.mem_filter.1 hx).1
    have hT2 : T = (T.take last.toNat ++ A) ++ x :: C := by
      rw [List.append_assoc, ← hAC]
      exact hTm
    rw [h.lasts ok last hT2]
    have h1 := congrArg List.length hAC
    rw [List.length_drop, List.length_append, List.length_cons] at h1
    rw [List.length_append, List.length_take]
    exact decide_eq_false (by omega)
  rw [keepN_all _ _ _ f.sure hA, keepN_none _ _ _ _ hC, plc_length, List.map_take, h.names]

theorem Rel.crash {s : St} {r : RS} {T : Tape} (h : Rel s r T) (ok : Ok s) (last : Int) : Rel (opCrash s last) (rCrash r last) [] := by
  refine ⟨?_, rfl, List.Pairwise.nil, fun x hx => (by cases hx), h.most, rfl, rfl, fun e => (by cases e)⟩
  show r.files.map (G.crash (lastsC r.all last)) = (cutAll (Ytnmamaeoghgegaa.Dk.lasts s.files s.pieces last.toNat)).map (toG [])
  unfold cutAll
  rw [lasts_flat, List.map_map, List.map_map]
  conv => lhs; rw [h.files, List.map_map]
  apply List.map_congr_left
  intro f _
  show G.crash (lastsC r.all last) (toG T f) = toG [] _
  unfold G.crash
  rw [h.kept ok last f]
  unfold toG
  simp only
  congr 1
  show _ = _ ++ []
  rw [List.append_nil]

/-- What the document's calls ask for, comes from what is alike. -/
theorem Rel.ok {s : St} {r : RS} {T : Tape} (h : Rel s r T) (ok : Ok s) (hc : r.count ≤ 1000000) : ROk r where
  few := by rw [h.files, List.length_map]; exact ok.few
  most := by rw [h.most]; exact ok.room
  left := by
    rw [h.left]
    have := ok.fuse
    split <;> omega
  used := by
    have := h.used
    unfold RS.used at this
    rw [this]
    exact ok.used
  lates := fun g hg => by
    rw [h.files] at hg
    obtain ⟨f, hf, rfl⟩ := List.mem_map.1 hg
    have := ok.waits f hf
    show (List.replicate f.sure 0 ++ plc T f.name).length = f.bytes.length
    rw [List.length_append, List.length_replicate, h.plc_len]
    exact this
  count := hc
  small := fun g hg n hn => by
    rw [h.files] at hg
    obtain ⟨f, hf, rfl⟩ := List.mem_map.1 hg
    rcases List.mem_append.1 hn with e | e
    · rw [List.eq_of_mem_replicate e]
      omega
    · exact (plc_pos h.pos e).2
end Go.Proofs.Ytnmamaeoghgegaa.Dk

/-
  Append, whatever comes.
-/
namespace Go.Proofs.Ytnmamaeoghgegaa.Dk
open Go.RowKit
set_option maxRecDepth 100000

theorem append_any {w : World} {B b : Nat} {d : Ds} (h : Rep w B b d) (ok : Ok d.pl) (n x : ByteArray) :
    Calls Try.prog 15 #[.pointer (some ⟨b, 0, none⟩), .string n, .string x] w fun e w' => e = .returned (.int .i64 (opAppend d.pl n x).1) ∧ ∃ d', Rep w' B b d' ∧ d'.pl = (opAppend d.pl n x).2 ∧ Step (d.foot b) (d'.foot b) w w' := by
  have hl : d.pl.files.length = d.files.length := by simp [Ds.pl]
  have hr : d.pl.room = d.room := rfl
  unfold opAppend St.full
  rw [power_pl, names_pl, hl, hr]
  cases hp : d.power with
  | false =>
    refine (append_early h ok n x (.inl hp)).mono ?_
    rintro e w' ⟨rfl, h1, s1⟩
    rw [hp]
    exact ⟨rfl, d.spent, h1, rfl, s1⟩
  | true =>
    cases hm : mayBe n with
    | false =>
      refine (append_early h ok n x (.inr hm)).mono ?_
      rintro e w' ⟨rfl, h1, s1⟩
      rw [hp]
      exact ⟨rfl, d.spent, h1, rfl, s1⟩
    | true =>
      simp only [if_true]
      have full : ∀ c : Bool, c = true → (Calls Try.prog 15 #[.pointer (some ⟨b, 0, none⟩), .string n, .string x] w fun e w' => e = .returned (.int .i64 2) ∧ Rep w' B b d.spent ∧ Step (d.foot b) (d.foot b) w w') → Calls Try.prog 15 #[.pointer (some ⟨b, 0, none⟩), .string n, .string x] w fun e w' => e = .returned (.int .i64 (if c = true then (2, d.pl.spent) else (0, if x.size = 0 then d.pl.spent.make n else (d.pl.spent.make n).more (place d.names n) n x) : Int × St).1) ∧ ∃ d', Rep w' B b d' ∧ d'.pl = (if c = true then (2, d.pl.spent) else (0, if x.size = 0 then d.pl.spent.make n else (d.pl.spent.make n).more (place d.names n) n x) : Int × St).2 ∧ Step (d.foot b) (d'.foot b) w w' := by
        intro c hc hk
        refine hk.mono ?_
        rintro e w' ⟨rfl, h1, s1⟩
        rw [if_pos hc]
        exact ⟨rfl, d.spent, h1, rfl, s1⟩
      have free : ∀ c : Bool, c = false → (Calls Try.prog 15 #[.pointer (some ⟨b, 0, none⟩), .string n, .string x] w fun e w' => e = .returned (.int .i64 0) ∧ ∃ d', Rep w' B b d' ∧ d'.pl = (if x.size = 0 then d.pl.spent.make n else (d.pl.spent.make n).more (place d.names n) n x) ∧ Step (d.foot b) (d'.foot b) w w') → Calls Try.prog 15 #[.pointer (some ⟨b, 0, none⟩), .string n, .string x] w fun e w' => e = .returned (.int .i64 (if c = true then (2, d.pl.spent) else (0, if x.size = 0 then d.pl.spent.make n else (d.pl.spent.make n).more (place d.names n) n x) : Int × St).1) ∧ ∃ d', Rep w' B b d' ∧ d'.pl = (if c = true then (2, d.pl.spent) else (0, if x.size = 0 then d.pl.spent.make n else (d.pl.spent.make n).more (place d.names n) n x) : Int × St).2 ∧ Step (d.foot b) (d'.foot b) w w' := by
        intro c hc hk
        subst hc
        exact hk
      by_cases hf : d.room < d.pl.total + x.size
      · refine full _ (by simp [hf]) ?_
        cases hh : has d.names n with
        | true => exact append_fullB h ok n x hp hm hh hf
        | false =>
          by_cases hN : d.files.length = 16
          · exact append_fullC h ok n x hp hm hh hN
          · exact append_fullE h ok n x hp hm hh hN hf
      · cases hh : has d.names n with
        | true =>
          refine free _ (by simp [hf]) ?_
          by_cases hx : x.size = 0
          · rw [if_pos hx]
            exact append_A0 h ok n x hp hm hh hf hx
          · rw [if_neg hx]
            exact append_A1 h ok n x hp hm hh hf hx
        | false =>
          by_cases hN : d.files.length = 16
          · refine full _ (by simp [hN]) ?_
            exact append_fullC h ok n x hp hm hh hN
          · refine free _ (by simp [hf, hN]) ?_
            by_cases hx : x.size = 0
            · rw [if_pos hx]
              exact append_D0 h ok n x hp hm hh hN hf hx
            · rw [if_neg hx]
              exact append_D1 h ok n x hp hm hh hN hf hx
end Go.Proofs.Ytnmamaeoghgegaa.Dk

/-
  Rename, whatever comes.
-/
namespace Go.Proofs.Ytnmamaeoghgegaa.Dk
open Go.RowKit
set_option maxRecDepth 100000

theorem drop_names {d : Ds} {n : ByteArray} {f : Fv} (hf : d.files[place d.names n]? = some f) : (d.pl.spent.drop (place d.names n)).names = (d.files.eraseIdx (place d.names n)).map Fv.name := by
  show (d.spent.pl.drop (place d.names n)).names = _
  rw [← pl_drop (d := d.spent) (v' := .slice none 0 0) (v'' := .slice none 0 0) hf, names_pl]
  rfl

theorem rename_any {w : World} {B b : Nat} {d : Ds} (h : Rep w B b d) (ok : Ok d.pl) (n t : ByteArray) :
    Calls Try.prog 30 #[.pointer (some ⟨b, 0, none⟩), .string n, .string t] w fun e w' => e = .returned (.int .i64 (opRename d.pl n t).1) ∧ ∃ d', Rep w' B b d' ∧ d'.pl = (opRename d.pl n t).2 ∧ Step (d.foot b) (d'.foot b) w w' := by
  unfold opRename
  rw [power_pl, names_pl]
  cases hp : d.power with
  | false =>
    refine (rename_early h ok n t (.inl hp)).mono ?_
    rintro e w' ⟨rfl, h1, s1⟩
    rw [hp]
    exact ⟨rfl, d.spent, h1, rfl, s1⟩
  | true =>
    cases hm : mayBe t with
    | false =>
      refine (rename_early h ok n t (.inr hm)).mono ?_
      rintro e w' ⟨rfl, h1, s1⟩
      rw [hp]
      exact ⟨rfl, d.spent, h1, rfl, s1⟩
    | true =>
      simp only [if_true]
      cases hh : has d.names n with
      | false =>
        refine (rename_none h ok n t hp hm hh).mono ?_
        rintro e w' ⟨rfl, h1, s1⟩
        cases d.pl.files[place d.names n]? <;> exact ⟨rfl, d.spent, h1, rfl, s1⟩
      | true =>
        obtain ⟨f, hf, hfn, hfm⟩ := dhas_get ok.rise hh
        rw [pl_get hf]
        simp only
        by_cases hlt : f.sure < f.bytes.length
        · have hlt' : f.pl.sure < f.pl.bytes.length := hlt
          rw [if_pos hlt']
          refine (rename_stay h ok n t hp hm hh hf (.inl hlt)).mono ?_
          rintro e w' ⟨rfl, h1, s1⟩
          rw [if_pos hlt]
          exact ⟨rfl, d.spent, h1, rfl, s1⟩
        · have hlt' : ¬ f.pl.sure < f.pl.bytes.length := hlt
          rw [if_neg hlt']
          by_cases hc : cmp n t = 0
          · rw [if_pos hc]
            refine (rename_stay h ok n t hp hm hh hf (.inr hc)).mono ?_
            rintro e w' ⟨rfl, h1, s1⟩
            rw [if_neg hlt]
            exact ⟨rfl, d.spent, h1, rfl, s1⟩
          · rw [if_neg hc, drop_names hf]
            cases ht : has ((d.files.eraseIdx (place d.names n)).map Fv.name) t with
            | false => exact rename_free h ok n t hp hm hh hf hlt hc ht
            | true => exact rename_over h ok n t hp hm hh hf hlt hc ht
end Go.Proofs.Ytnmamaeoghgegaa.Dk
