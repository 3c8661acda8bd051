/-
  YtajjcfacbnicnaaGreatDoor: the texts K2, C6, C7, one behind the other.
-/
import Derived.Test.YtajjcfacbnicnaaGreatDoorV30
import Derived.Test.YtajjcfacbnicnaaGreatDoorV27
import Derived.WalkKit
import Derived.WalkSpells
import Derived.WalkLawsBesides
import Derived.Deep.LoopGhost
import Derived.Laws.Externs
import Derived.Below
import Derived.BigQuiet
import Derived.Deep.RegionWith
import Derived.OwnWalk
import Derived.Maps.AppendAt
import Derived.WalkSmall
import Derived.Test.YtajjcfacbnicnaaGreatDoorV26
import Derived.Deep.RegionHeld3
import Derived.Deep.DeepCutAuto
/-
  The segments that a disk has.
-/
namespace Go.Proofs.YtajjcfacbnicnaaGreatDoor
open Go.RowKit
set_option maxRecDepth 100000
theorem rise_mem_eq {l l' : List Int} (h : l.Pairwise (· < ·)) (h' : l'.Pairwise (· < ·)) (e : ∀ n, n ∈ l ↔ n ∈ l') : l = l' := by
  induction l generalizing l' with
  | nil =>
    cases l' with
    | nil => rfl
    | cons a r => exact absurd ((e a).2 List.mem_cons_self) (by simp)
  | cons a r ih =>
    cases l' with
    | nil => exact absurd ((e a).1 List.mem_cons_self) (by simp)
    | cons c q =>
      rw [List.pairwise_cons] at h h'
      have hac : a = c := by
        have h1 := (e a).1 List.mem_cons_self
        have h2 := (e c).2 List.mem_cons_self
        rcases List.mem_cons.1 h1 with h1 | h1
        · exact h1
        · rcases List.mem_cons.1 h2 with h2 | h2
          · exact h2.symm
          · have := h'.1 a h1
            have := h.1 c h2
            omega
      subst hac
      congr 1
      refine ih h.2 h'.2 fun n => ?_
      constructor
      · intro hn
        rcases List.mem_cons.1 ((e n).1 (List.mem_cons_of_mem _ hn)) with rfl | hq
        · exact absurd (h.1 n hn) (by omega)
        · exact hq
      · intro hn
        rcases List.mem_cons.1 ((e n).2 (List.mem_cons_of_mem _ hn)) with rfl | hq
        · exact absurd (h'.1 n hn) (by omega)
        · exact hq

/-- What Sync leaves of the files. -/
theorem syn_files {s : Dk.St} (ok : Dk.Ok s) {n : ByteArray} (hp : s.power = true) {f : Dk.F} (hf : f ∈ s.files) (hn : f.name = n) :
    (Dk.opSync s n).1 = 0 ∧ (∀ g ∈ s.files, g.name ≠ n → g ∈ (Dk.opSync s n).2.files) ∧ (⟨n, f.bytes, f.bytes.length⟩ : Dk.F) ∈ (Dk.opSync s n).2.files ∧ (Dk.opSync s n).2.total = s.total ∧ (Dk.opSync s n).2.files.length = s.files.length ∧
    (Dk.opSync s n).2.room = s.room ∧ (Dk.opSync s n).2.down = false ∧ (Dk.opSync s n).2.fused = s.fused := by
  obtain ⟨hh, hp0⟩ := file_at ok hf
  rw [hn] at hh hp0
  have hlen : s.len n = f.bytes.length := Dk.settle_len n hp0
  have he : Dk.opSync s n = (0, { s.spent with files := s.files.set (Dk.place s.names n) ⟨f.name, f.bytes, f.bytes.length⟩, pieces := Dk.keepOf f.name s.pieces }) := by
    unfold Dk.opSync
    rw [if_pos hp, if_pos hh, hlen]
    unfold Dk.St.settle
    rw [show s.spent.files = s.files from rfl, hp0]
    simp only [List.take_length]
    rfl
  rw [he]
  dsimp only
  obtain ⟨hi, hget⟩ := List.getElem?_eq_some_iff.1 hp0
  refine ⟨rfl, fun g hg hne => ?_, ?_, ?_, ?_, rfl, ?_, rfl⟩
  · obtain ⟨j, hj, rfl⟩ := List.getElem_of_mem hg
    have hji : Dk.place s.names n ≠ j := fun e => by
      subst e
      rw [hget] at hne
      exact hne hn
    exact List.mem_iff_getElem.2 ⟨j, by simpa using hj, by simp [hji]⟩
  · have h9 : (⟨n, f.bytes, f.bytes.length⟩ : Dk.F) = ⟨f.name, f.bytes, f.bytes.length⟩ := by rw [hn]
    rw [h9]
    exact List.mem_iff_getElem.2 ⟨Dk.place s.names n, by simpa using hi, by simp⟩
  · have h1 := total_set (g := ⟨f.name, f.bytes, f.bytes.length⟩) hp0
    show Dk.totalF (s.files.set (Dk.place s.names n) ⟨f.name, f.bytes, f.bytes.length⟩) = Dk.totalF s.files
    dsimp only at h1
    omega
  · show (s.files.set _ _).length = _
    rw [List.length_set]
  · show (!s.power) = false
    rw [hp]
    rfl
abbrev Seg := List (List UInt8)
/-- The disk has just these segments, from 1 on. -/
structure Inv (s : Dk.St) (G : List Seg) : Prop where
  ok : Dk.Ok s
  names : ∀ t, t ∈ s.names ↔ ∃ i, i < G.length ∧ t = nmL ((i : Int) + 1)
  file : ∀ i (h : i < G.length), ∃ f ∈ s.files, f.name = nmL ((i : Int) + 1) ∧ f.bytes = Fm.Fr.mks G[i] ∧ (i + 1 < G.length → f.sure = f.bytes.length)
  short : ∀ g ∈ G, ∀ x ∈ g, x.length ≤ 2000
  cnt : s.files.length = G.length
theorem Inv.few {s : Dk.St} {G : List Seg} (h : Inv s G) : G.length ≤ 16 := by
  have := h.ok.few
  have := h.cnt
  omega
/-- 1, 2, and so on. -/
def row (k : Nat) : List Int := (List.range k).map fun (i : Nat) => (i : Int) + 1
theorem row_lt (k : Nat) : (row k).Pairwise (· < ·) := by
  unfold row
  rw [List.pairwise_map]
  exact List.pairwise_lt_range.imp fun h => by omega
theorem row_mem {k : Nat} {n : Int} : n ∈ row k ↔ 1 ≤ n ∧ n ≤ (k : Int) := by
  unfold row
  rw [List.mem_map]
  constructor
  · rintro ⟨i, hi, rfl⟩
    rw [List.mem_range] at hi
    omega
  · rintro ⟨h1, h2⟩
    exact ⟨(n - 1).toNat, List.mem_range.2 (by omega), by omega⟩
theorem row_len (k : Nat) : (row k).length = k := by simp [row]
theorem Inv.has {s : Dk.St} {G : List Seg} (h : Inv s G) {n : Int} (h1 : 1 ≤ n) (h2 : n ≤ 99999) : nmL n ∈ s.names ↔ n ≤ (G.length : Int) := by
  rw [h.names]
  constructor
  · rintro ⟨i, hi, e⟩
    have := nmL_inj e h1 h2
    omega
  · intro h3
    exact ⟨(n - 1).toNat, by omega, by rw [show (((n - 1).toNat : Nat) : Int) + 1 = n by omega]⟩
theorem Inv.all {s : Dk.St} {G : List Seg} (h : Inv s G) : allOf LG s.names = row G.length := by
  refine rise_mem_eq (all_lt h.ok.rising.nodup) (row_lt _) fun n => ?_
  rw [all_mem, row_mem]
  have := h.few
  constructor
  · rintro ⟨h1, h2, h3⟩
    exact ⟨h1, (h.has h1 h2).1 h3⟩
  · rintro ⟨h1, h2⟩
    exact ⟨h1, by omega, (h.has h1 (by omega)).2 h2⟩
theorem Inv.nums {s : Dk.St} {G : List Seg} (h : Inv s G) : nums s.names 1 = row G.length := by
  unfold _root_.Go.Proofs.YtajjcfacbnicnaaGreatDoor.nums
  rw [h.all, List.filter_eq_self]
  intro n hn
  have := (row_mem.1 hn).1
  simpa using this
theorem Inv.last {s : Dk.St} {G : List Seg} (h : Inv s G) : lLast s 1 = max (G.length : Int) 1 := by
  unfold lLast lastOf
  rw [h.all, row_len]
  by_cases h0 : G.length = 0
  · rw [h0]
    rfl
  · have hk : G.length - 1 < (row G.length).length := by rw [row_len]; omega
    rw [List.getD_eq_getElem?_getD, List.getElem?_eq_getElem hk]
    simp only [Option.getD_some, row, List.getElem_map, List.getElem_range]
    omega
theorem Inv.tx {s : Dk.St} {G : List Seg} (h : Inv s G) {i : Nat} (hi : i < G.length) : tx s ((i : Int) + 1) = Fm.bs (Fm.Fr.mks G[i]) ∧ th s ((i : Int) + 1) = true := by
  obtain ⟨f, h1, h2, h3, _⟩ := h.file i hi
  rw [← h3]
  exact tx_of h.ok h1 h2
theorem Inv.txno {s : Dk.St} {G : List Seg} (h : Inv s G) {n : Int} (h1 : 1 ≤ n) (h2 : n ≤ 99999) (h3 : (G.length : Int) < n) : _root_.Go.Proofs.YtajjcfacbnicnaaGreatDoor.tx s n = ⟨#[]⟩ ∧ th s n = false := tx_no fun hh => by
  have := (h.has h1 h2).1 hh
  omega
end Go.Proofs.YtajjcfacbnicnaaGreatDoor

/-
  The document's log: what Append leaves.
-/
namespace Go.Proofs.YtajjcfacbnicnaaGreatDoor
open Go.RowKit
set_option maxRecDepth 100000
/-- Numbers that rise have no gap just if they are all those of a span. -/
theorem row_range {L : List Int} {f : Int} (hp : L.Pairwise (· < ·)) : rowB f L = true ↔ ∃ k : Nat, L.length = k ∧ ∀ n, n ∈ L ↔ f ≤ n ∧ n < f + (k : Int) := by
  constructor
  · intro h
    refine ⟨L.length, rfl, fun n => ?_⟩
    have hr := (rowB_iff _ _).1 h
    constructor
    · intro hn
      obtain ⟨i, hi, rfl⟩ := List.getElem_of_mem hn
      rw [hr i hi]
      omega
    · rintro ⟨h1, h2⟩
      have hi : (n - f).toNat < L.length := by omega
      have := hr _ hi
      rw [show n = L[(n - f).toNat] by rw [this]; omega]
      exact List.getElem_mem hi
  · rintro ⟨k, hk, h⟩
    have h2 : ((List.range k).map fun (i : Nat) => f + (i : Int)).Pairwise (· < ·) := by
      rw [List.pairwise_map]
      exact List.pairwise_lt_range.imp fun h => by omega
    have e := rise_mem_eq hp h2 fun n => by
      rw [h n, List.mem_map]
      constructor
      · rintro ⟨h3, h4⟩
        exact ⟨(n - f).toNat, List.mem_range.2 (by omega), by omega⟩
      · rintro ⟨i, hi, rfl⟩
        rw [List.mem_range] at hi
        omega
    rw [rowB_iff, e]
    intro i hi
    simp
theorem app_names (s : Dk.St) (n x : ByteArray) : ((Dk.opAppend s n x).1 = 0 ∧ ∀ t, t ∈ (Dk.opAppend s n x).2.names ↔ t ∈ s.names ∨ t = n) ∨ ((Dk.opAppend s n x).1 ≠ 0 ∧ (Dk.opAppend s n x).2.names = s.names) := by
  have hmk : ∀ t, t ∈ (s.spent.make n).names ↔ t ∈ s.names ∨ t = n := fun t => by
    rw [names_make]
    split
    · rename_i h
      have h' := Dk.has_iff.1 h
      constructor
      · exact .inl
      · rintro (h1 | rfl)
        · exact h1
        · exact h'
    · rw [show s.spent.names = s.names from rfl]
      conv => rhs; rw [← List.take_append_drop (Dk.place s.names n) s.names]
      rw [List.mem_append, List.mem_append, List.mem_cons]
      constructor
      · rintro (h | h | h)
        · exact .inl (.inl h)
        · exact .inr h
        · exact .inl (.inr h)
      · rintro ((h | h) | h)
        · exact .inl h
        · exact .inr (.inr h)
        · exact .inr (.inl h)
  unfold Dk.opAppend
  split
  · split
    · split
      · exact .inr ⟨by show (2 : Int) ≠ 0; decide, rfl⟩
      · split
        · exact .inl ⟨rfl, hmk⟩
        · refine .inl ⟨rfl, fun t => ?_⟩
          show t ∈ ((s.spent.make n).more _ n x).names ↔ _
          rw [names_more]
          exact hmk t
    · exact .inr ⟨by show (1 : Int) ≠ 0; decide, rfl⟩
  · exact .inr ⟨by show (12 : Int) ≠ 0; decide, rfl⟩
/-- A log whose next frame lies in its last segment, or in the one behind it. -/
theorem alike_app {s s' : Dk.St} (ok : Dk.Ok s) (ok' : Dk.Ok s') {f tn : Int} (h1 : 1 ≤ f) (h2 : f ≤ 99999) (hr : rowB f (nums s.names f) = true) (hto : tn = lLast s f ∨ (tn = lLast s f + 1 ∧ th s (lLast s f) = true)) (hto2 : tn ≤ 99999) (hn : ∀ t, t ∈ s'.names ↔ t ∈ s.names ∨ t = nmL tn) :
    rowB f (nums s'.names f) = true ∧ lLast s' f = tn := by
  have hll := llast_row ok h1 hr
  have hbd := llast_bd s h1 h2
  obtain ⟨k, hk, hm⟩ := (row_range (nums_lt ok.rising.nodup f)).1 hr
  rw [hk] at hll
  have hm' : ∀ n, n ∈ nums s'.names f ↔ f ≤ n ∧ n < f + ((tn + 1 - f).toNat : Int) := fun n => by
    rw [nums_mem', hn]
    have e1 : n ∈ nums s.names f ↔ (1 ≤ n ∧ n ≤ 99999 ∧ nmL n ∈ s.names) ∧ f ≤ n := nums_mem'
    rw [hm n] at e1
    rcases hto with rfl | ⟨rfl, ht⟩
    · constructor
      · rintro ⟨⟨a1, a2, a3 | a3⟩, a4⟩
        · have := e1.2 ⟨⟨a1, a2, a3⟩, a4⟩
          split at hll <;> omega
        · have := nmL_inj a3 a1 a2
          omega
      · rintro ⟨a1, a2⟩
        by_cases hk0 : k = 0
        · rw [if_pos hk0] at hll
          exact ⟨⟨by omega, by omega, .inr (by rw [show n = lLast s f by omega])⟩, a1⟩
        · rw [if_neg hk0] at hll
          obtain ⟨⟨b1, b2, b3⟩, b4⟩ := e1.1 ⟨a1, by omega⟩
          exact ⟨⟨b1, b2, .inl b3⟩, b4⟩
    · have hla : lLast s f ∈ nums s.names f := nums_mem'.2 ⟨⟨hbd.1, hbd.2.1, (th_iff _).1 ht⟩, hbd.2.2⟩
      have hla2 := (hm _).1 hla
      have hk0 : ¬ k = 0 := by omega
      rw [if_neg hk0] at hll
      constructor
      · rintro ⟨⟨a1, a2, a3 | a3⟩, a4⟩
        · have := e1.2 ⟨⟨a1, a2, a3⟩, a4⟩
          omega
        · have := nmL_inj a3 a1 a2
          omega
      · rintro ⟨a1, a2⟩
        by_cases hn2 : n = lLast s f + 1
        · exact ⟨⟨by omega, by omega, .inr (by rw [hn2])⟩, a1⟩
        · obtain ⟨⟨b1, b2, b3⟩, b4⟩ := e1.1 ⟨a1, by omega⟩
          exact ⟨⟨b1, b2, .inl b3⟩, b4⟩
  have hp' := nums_lt ok'.rising.nodup f
  have hlen : (nums s'.names f).length = (tn + 1 - f).toNat := by
    have h2 : ((List.range (tn + 1 - f).toNat).map fun (i : Nat) => f + (i : Int)).Pairwise (· < ·) := by
      rw [List.pairwise_map]
      exact List.pairwise_lt_range.imp fun h => by omega
    rw [rise_mem_eq hp' h2 fun n => by
      rw [hm' n, List.mem_map]
      constructor
      · rintro ⟨h3, h4⟩
        exact ⟨(n - f).toNat, List.mem_range.2 (by omega), by omega⟩
      · rintro ⟨i, hi, rfl⟩
        rw [List.mem_range] at hi
        omega]
    simp
  have hrow : rowB f (nums s'.names f) = true := (row_range hp').2 ⟨_, hlen, hm'⟩
  refine ⟨hrow, ?_⟩
  rw [llast_row ok' h1 hrow, hlen]
  have : f ≤ tn := by rcases hto with rfl | ⟨rfl, _⟩ <;> omega
  rw [if_neg (by omega)]
  omega
theorem names_alike {s s' : Dk.St} (h : s'.names = s.names) (f : Int) : nums s'.names f = nums s.names f ∧ lLast s' f = lLast s f := by
  unfold lLast
  rw [h]
  exact ⟨rfl, rfl⟩
/-- Behind Append a log has no gap; its last segment. -/
theorem alike_append {s : Dk.St} (ok : Dk.Ok s) {f m : Int} (h1 : 1 ≤ f) (h2 : f ≤ 99999) (hr : rowB f (nums s.names f) = true) (x : ByteArray) (rest : Int) :
    rowB f (nums (lAppend s f m x rest).2.names f) = true ∧ lLast (lAppend s f m x rest).2 f = if (lAppend s f m x rest).1 = 0 then lPlace s m (lLast s f) (fr x).size else lLast s f := by
  have hbd := llast_bd s h1 h2
  by_cases hx : 2000 < x.size
  · rw [lapp_long hx]
    exact ⟨hr, rfl⟩
  · by_cases hre : lRefused s (lPlace s m (lLast s f) (fr x).size) ((fr x).size + wi rest) = 0
    · have hfree := hre
      unfold lRefused at hfree
      have hto2 : lPlace s m (lLast s f) (fr x).size ≤ 99999 := by
        by_cases h0 : (nmL (lPlace s m (lLast s f) (fr x).size)).size = 0
        · rw [if_pos h0] at hfree
          cases hfree
        · have h9 := Classical.not_not.1 fun hh => h0 (nmL_empty.2 hh)
          exact h9.2
      by_cases ht : lPlace s m (lLast s f) (fr x).size = lLast s f
      · rw [lapp_same hx hre ht, ht]
        rcases app_names s (nmL (lLast s f)) (fr x) with ⟨e1, e2⟩ | ⟨e1, e2⟩
        · obtain ⟨a, b⟩ := alike_app ok (ok.opAppend _ _) h1 h2 hr (.inl rfl) hbd.2.1 e2
          exact ⟨a, by rw [b, if_pos e1]⟩
        · obtain ⟨a, b⟩ := names_alike e2 f
          rw [a, b, if_neg e1]
          exact ⟨hr, rfl⟩
      · have hth : lPlace s m (lLast s f) (fr x).size = lLast s f + 1 ∧ th s (lLast s f) = true := by
          unfold lPlace at ht ⊢
          split at ht
          · rename_i hc
            rw [if_pos hc]
            refine ⟨rfl, (th_iff _).2 (Classical.not_not.1 fun hn => ?_)⟩
            rw [(tx_no hn).1] at hc
            exact absurd hc.1 (by decide)
          · exact absurd rfl ht
        by_cases hs : (Dk.opSync s (nmL (lLast s f))).1 = 0
        · rw [lapp_next hx hre ht hs]
          have hsn := names_sync s (nmL (lLast s f))
          rcases app_names (Dk.opSync s (nmL (lLast s f))).2 (nmL (lPlace s m (lLast s f) (fr x).size)) (fr x) with ⟨e1, e2⟩ | ⟨e1, e2⟩
          · rw [hsn] at e2
            obtain ⟨a, b⟩ := alike_app ok ((ok.opSync _).opAppend _ _) h1 h2 hr (.inr hth) hto2 e2
            exact ⟨a, by rw [b, if_pos e1]⟩
          · obtain ⟨a, b⟩ := names_alike (e2.trans hsn) f
            rw [a, b, if_neg e1]
            exact ⟨hr, rfl⟩
        · rw [lapp_unsure hx hre ht hs]
          obtain ⟨a, b⟩ := names_alike (names_sync s (nmL (lLast s f))) f
          rw [a, b, if_neg hs]
          exact ⟨hr, rfl⟩
    · rw [lapp_refused hx hre]
      refine ⟨hr, ?_⟩
      rw [if_neg hre]
end Go.Proofs.YtajjcfacbnicnaaGreatDoor

/-
  The document's log: Append.
-/
namespace Go.Proofs.YtajjcfacbnicnaaGreatDoor
open Go.RowKit
set_option maxRecDepth 100000
/-- A plain disk as one of which nothing lies in memory. -/
def dsOf (s : Dk.St) : Dk.Ds := { files := s.files.map fun f => ⟨f.name, f.bytes, f.sure, .pointer none⟩, pieces := s.pieces, vf := .pointer none, vp := .pointer none, room := s.room, fused := s.fused, fuse := s.fuse, down := s.down }
theorem dsOf_pl (s : Dk.St) : (dsOf s).pl = s := by
  unfold dsOf Dk.Ds.pl
  have : (s.files.map fun f => (⟨f.name, f.bytes, f.sure, Value.pointer none⟩ : Dk.Fv)).map Dk.Fv.pl = s.files := by
    rw [List.map_map]
    exact List.map_id' _
  rw [this]
theorem rb_plain {w : World} {B c : Nat} {s : Dk.St} {r : Dk.Rs} (h1 : Dk.RRep w B c r) (h2 : Dk.Ok s) (h3 : ∃ T, Dk.Rel s r.pl T) : Rb w B c (dsOf s) r := ⟨h1, by rw [dsOf_pl]; exact h2, by rw [dsOf_pl]; exact h3⟩
theorem rb_free {w : World} {B c : Nat} {d : Dk.Ds} {r : Dk.Rs} (h : Rb w B c d r) (hc : r.count ≤ 1000000) :
    Calls Tryz.prog 51 #[.pointer (some ⟨c, 0, none⟩)] w fun e w' => e = .returned (.tuple #[.int .i64 (d.pl.free : Nat), .int .i64 (16 - (d.pl.files.length : Int))]) ∧ Below w.heap.size w w' := by
  have := Dk.rfree_any h.rrep (h.rok hc)
  obtain ⟨T, hT⟩ := h.rel
  rw [show r.pl.most - r.pl.used = d.pl.free by rw [hT.used, hT.most]; rfl, show r.pl.files.length = d.pl.files.length by rw [hT.files, List.length_map]] at this
  exact this
theorem rb_sync {w : World} {B c : Nat} {d : Dk.Ds} {r : Dk.Rs} (h : Rb w B c d r) (hc : r.count ≤ 1000000) (n : ByteArray) :
    Calls Tryz.prog 52 #[.pointer (some ⟨c, 0, none⟩), .string n] w fun e w' => e = .returned (.int .i64 (Dk.opSync d.pl n).1) ∧ ∃ r', Dk.RRep w' B c r' ∧ (∃ T, Dk.Rel (Dk.opSync d.pl n).2 r'.pl T) ∧ r'.count = r.count ∧ Dk.Step (r.foot c) (r'.foot c) w w' := by
  obtain ⟨T, hT⟩ := h.rel
  obtain ⟨e1, T', e2, e3⟩ := hT.sync h.ok n
  refine (Dk.rsync_any h.rrep (h.rok hc) n).mono ?_
  rintro e w' ⟨h1, r', h2, h3, h4⟩
  rw [e1] at h1
  rw [← h3] at e2 e3
  exact ⟨h1, r', h2, ⟨T', e2⟩, e3, h4⟩
theorem rb_cut {w : World} {B c : Nat} {d : Dk.Ds} {r : Dk.Rs} (h : Rb w B c d r) (hc : r.count ≤ 1000000) (n : ByteArray) (k : Int) :
    Calls Tryz.prog 44 #[.pointer (some ⟨c, 0, none⟩), .string n, .int .i64 k] w fun e w' => e = .returned (.int .i64 (Dk.opCut d.pl n k).1) ∧ ∃ r', Dk.RRep w' B c r' ∧ (∃ T, Dk.Rel (Dk.opCut d.pl n k).2 r'.pl T) ∧ r'.count = r.count ∧ Dk.Step (r.foot c) (r'.foot c) w w' := by
  obtain ⟨T, hT⟩ := h.rel
  obtain ⟨e1, T', e2, e3⟩ := hT.cut h.ok n k
  refine (Dk.rcut_any h.rrep (h.rok hc) n k).mono ?_
  rintro e w' ⟨h1, r', h2, h3, h4⟩
  rw [e1] at h1
  rw [← h3] at e2 e3
  exact ⟨h1, r', h2, ⟨T', e2⟩, e3, h4⟩
theorem rb_append {w : World} {B c : Nat} {d : Dk.Ds} {r : Dk.Rs} (h : Rb w B c d r) (hc : r.count ≤ 900000) (n x : ByteArray) (hn : n.size ≤ 1000) (hx : x.size ≤ 1000) :
    Calls Tryz.prog 34 #[.pointer (some ⟨c, 0, none⟩), .string n, .string x] w fun e w' => e = .returned (.int .i64 (Dk.opAppend d.pl n x).1) ∧ ∃ r', Dk.RRep w' B c r' ∧ (∃ T, Dk.Rel (Dk.opAppend d.pl n x).2 r'.pl T) ∧ r'.count ≤ r.count + x.size ∧ Dk.Step (r.foot c) (r'.foot c) w w' := by
  obtain ⟨T, hT⟩ := h.rel
  obtain ⟨e1, T', e2, e3⟩ := hT.append h.ok n x
  refine (Dk.rappend_any h.rrep (h.rok (by omega)) h.rise n x hn hx hc).mono ?_
  rintro e w' ⟨h1, r', h2, h3, h4⟩
  rw [e1] at h1
  rw [← h3] at e2 e3
  exact ⟨h1, r', h2, ⟨T', e2⟩, e3, h4⟩
theorem th_next {s : Dk.St} (ok : Dk.Ok s) {f : Int} (h1 : 1 ≤ f) (h2 : lLast s f + 1 ≤ 99999) : th s (lLast s f + 1) = false := by
  cases h : th s (lLast s f + 1) with
  | false => rfl
  | true =>
    have hm := (th_iff _).1 h
    have hb : lastOf (allOf LG s.names) ≤ lLast s f ∧ f ≤ lLast s f := by unfold lLast; omega
    obtain ⟨h3, _⟩ := last_max ok.rising.nodup (all_mem.2 ⟨by omega, h2, hm⟩)
    omega
/-- Does the next frame go to a segment of its own? -/
def grows (s : Dk.St) (f m : Int) (z : Nat) : Bool := decide (0 < (tx s (lLast s f)).size) && decide (m < ((tx s (lLast s f)).size : Int) + (z : Int))
theorem grows_place (s : Dk.St) (f m : Int) (z : Nat) : lPlace s m (lLast s f) (z : Int) = if grows s f m z then lLast s f + 1 else lLast s f := by
  unfold lPlace grows
  by_cases h1 : 0 < (tx s (lLast s f)).size
  · by_cases h2 : m < ((tx s (lLast s f)).size : Int) + (z : Int)
    · rw [if_pos ⟨h1, h2⟩, decide_eq_true h1, decide_eq_true h2]
      rfl
    · rw [if_neg (fun h => h2 h.2), decide_eq_false h2, Bool.and_false]
      rfl
  · rw [if_neg (fun h => h1 h.1), decide_eq_false h1, Bool.false_and]
    rfl
theorem ref_is {s : Dk.St} (ok : Dk.Ok s) {f m : Int} (h1 : 1 ≤ f) (h2 : f ≤ 99999) (z : Nat) (wanted : Int) :
    lRefused s (lPlace s m (lLast s f) (z : Int)) wanted = if 99999 < lPlace s m (lLast s f) (z : Int) then 10 else if ((!(if grows s f m z then false else th s (lLast s f))) && decide (16 - (s.files.length : Int) < 3)) || decide ((s.free : Int) < wanted) then 2 else 0 := by
  have hb := llast_bd s h1 h2
  rw [grows_place]
  unfold lRefused
  cases hg : grows s f m z with
  | true =>
    simp only [if_true]
    by_cases h3 : 99999 < lLast s f + 1
    · rw [if_pos h3, if_pos (nmL_empty.2 fun h => by omega)]
    · rw [if_neg h3, if_neg (fun h => nmL_empty.1 h ⟨by omega, by omega⟩), th_next ok h1 (by omega)]
      by_cases h4 : 16 - (s.files.length : Int) < 3
      · rw [if_pos ⟨rfl, h4⟩, decide_eq_true h4]
        rfl
      · rw [if_neg (fun h => h4 h.2), decide_eq_false h4, Bool.and_false, Bool.false_or]
        by_cases h5 : (s.free : Int) < wanted <;> simp [h5]
  | false =>
    simp only [Bool.false_eq_true, if_false]
    rw [if_neg (show ¬ 99999 < lLast s f by omega), if_neg (fun h => nmL_empty.1 h ⟨by omega, by omega⟩)]
    cases ht : th s (lLast s f) with
    | true =>
      rw [if_neg (fun h => by cases h.1)]
      by_cases h5 : (s.free : Int) < wanted <;> simp [h5]
    | false =>
      by_cases h4 : 16 - (s.files.length : Int) < 3
      · rw [if_pos ⟨rfl, h4⟩, decide_eq_true h4]
        rfl
      · rw [if_neg (fun h => h4 h.2), decide_eq_false h4, Bool.and_false, Bool.false_or]
        by_cases h5 : (s.free : Int) < wanted <;> simp [h5]
/-- What the document's Append leaves. -/
def RAp (w : World) (B c y : Nat) (d : Dk.Ds) (r : Dk.Rs) (f m : Int) (x : ByteArray) (rest : Int) (e : Ending) (w' : World) : Prop :=
  e = .returned (.int .i64 (lAppend d.pl f m x rest).1) ∧ ∃ r', Dk.RRep w' B c r' ∧ (∃ T, Dk.Rel (lAppend d.pl f m x rest).2 r'.pl T) ∧ r'.count ≤ r.count + 310 ∧ LrAt w' y c f (lLast (lAppend d.pl f m x rest).2 f) m ∧ Dk.Step (y :: r.foot c) (y :: r'.foot c) w w'
theorem step_cons {a b : List Nat} {u w : World} (h : Dk.Step a b u w) (y : Nat) : Dk.Step (y :: a) (y :: b) u w := Dk.Step.frameL h [y]
theorem rap_none {w w' : World} {B c y : Nat} {d : Dk.Ds} {r : Dk.Rs} {f m : Int} {x : ByteArray} {rest E : Int} (h : lAppend d.pl f m x rest = (E, d.pl)) (h1 : Rb w B c d r) (h2 : LrAt w y c f (lLast d.pl f) m) (hb : Below w.heap.size w w') : RAp w B c y d r f m x rest (.returned (.int .i64 E)) w' := by
  unfold RAp
  rw [h]
  exact ⟨rfl, r, h1.rrep.below hb, h1.rel, by omega, h2.below hb, Dk.Step.ofBelow hb⟩
theorem LrAt.set {w : World} {y c : Nat} {f la m : Int} (h : LrAt w y c f la m) (k : Int) : LrAt (w.setCell ⟨y, 2, none⟩ (.int .i64 k)) y c f k m := Dk.set_same h rfl
theorem LrAt.fz {w : World} {y c : Nat} {f la m : Int} (h : LrAt w y c f la m) (j : Nat) : w.frozen? ⟨y, j, none⟩ = false := frozen_of_row w y j _ _ h
theorem notin_step {a b : List Nat} {u w : World} {y : Nat} (h : Dk.Step a b u w) (hn : y ∉ a) (hy : y < u.heap.size) : y ∉ b := fun hm => by
  rcases h.sub y hm with e | e
  · exact hn e
  · omega
/-- .. where the frame is laid. -/
theorem rap_app {w u w' : World} {B c y : Nat} {d d1 : Dk.Ds} {r r1 r2 : Dk.Rs} {f m n : Int} {x : ByteArray} {rest : Int} (hE : lAppend d.pl f m x rest = Dk.opAppend d1.pl (nmL n) (fr x)) (hl : lLast (Dk.opAppend d1.pl (nmL n) (fr x)).2 f = if (Dk.opAppend d1.pl (nmL n) (fr x)).1 = 0 then n else lLast d.pl f)
    (h2 : LrAt w y c f (lLast d.pl f) m) (hn : y ∉ r.foot c) (s1 : Dk.Step (r.foot c) (r1.foot c) w u) (hr2 : Dk.RRep w' B c r2) (hT : ∃ T, Dk.Rel (Dk.opAppend d1.pl (nmL n) (fr x)).2 r2.pl T) (hc1 : r1.count = r.count) (hc2 : r2.count ≤ r1.count + 310) (s2 : Dk.Step (r1.foot c) (r2.foot c) u w') :
    ((Dk.opAppend d1.pl (nmL n) (fr x)).1 ≠ 0 → RAp w B c y d r f m x rest (.returned (.int .i64 (Dk.opAppend d1.pl (nmL n) (fr x)).1)) w') ∧ ((Dk.opAppend d1.pl (nmL n) (fr x)).1 = 0 → RAp w B c y d r f m x rest (.returned (.int .i64 0)) (w'.setCell ⟨y, 2, none⟩ (.int .i64 n))) ∧ LrAt w' y c f (lLast d.pl f) m := by
  have st := s1.trans s2
  have hy := h2.step st hn
  have hn2 := notin_step st hn h2.lt
  refine ⟨fun h0 => ?_, fun h0 => ?_, hy⟩
  · unfold RAp
    rw [hE]
    rw [if_neg h0] at hl
    exact ⟨rfl, r2, hr2, hT, by omega, by rw [hl]; exact hy, step_cons st y⟩
  · unfold RAp
    rw [hE]
    rw [if_pos h0] at hl
    refine ⟨by rw [h0], r2, hr2.frame fun k hk => Below.heap_setCell _ ⟨y, 2, none⟩ _ k (fun e => hn2 (by rw [← show k = y from e]; exact hk)), hT, by omega, by rw [hl]; exact hy.set n, (step_cons st y).trans (Dk.Step.setb _ List.mem_cons_self _ _)⟩
set_option maxHeartbeats 16000000 in
/-- The document's Append. -/
theorem rlappend_any {w : World} {B c y : Nat} {d : Dk.Ds} {r : Dk.Rs} {f m : Int} (h : Rb w B c d r) (hc : r.count ≤ 800000) (hy : LrAt w y c f (lLast d.pl f) m) (hn : y ∉ r.foot c) (h1 : 1 ≤ f) (h2 : f ≤ 99999) (hr : rowB f (nums d.pl.names f) = true) (x : ByteArray) (rest : Int) (hx : x.size ≤ 300) :
    Calls Tryz.prog 14 #[.pointer (some ⟨y, 0, none⟩), .string x, .int .i64 rest] w fun e w' => RAp w B c y d r f m x rest e w' := by
  have H := asd h
  have HN := asd hn
  have HC : Aside (r.count ≤ 900000) := (by omega : r.count ≤ 900000)
  have KM : Aside (∀ u : World, Calls Tryz.prog 50 #[.string x] u fun e w' => e = .returned (.string (fr x)) ∧ Below u.heap.size u w') := fun u => by
    have := Fm.refMake_any x u (by omega)
    unfold fr Fm.mkS
    rw [if_neg (by omega)]
    exact this
  have hbd := llast_bd d.pl h1 h2
  have hz : (fr x).size ≤ 310 := by rw [fr_size (by omega)]; omega
  have hx0 : ¬ 2000 < x.size := by omega
  have htl := lg_text_len h.ok (lLast d.pl f)
  have hwi : 0 ≤ wi rest ∧ wi rest ≤ 1073741824 := by unfold wi; omega
  have hfl : d.pl.files.length ≤ 16 := h.ok.few
  have hfr : d.pl.free ≤ 60000 := by
    have := h.ok.room
    unfold Dk.St.free
    omega
  have hwr : wi rest = min (max rest 0) 1073741824 := rfl
  have AL := asd (alike_append h.ok h1 h2 hr (m := m) x rest)
  have PL := asd (grows_place d.pl f m (fr x).size)
  have REF := asd (ref_is h.ok (m := m) h1 h2 (fr x).size ((fr x).size + wi rest))
  have hgr : grows d.pl f m (fr x).size = (decide (0 < (tx d.pl (lLast d.pl f)).size) && decide (m < ((tx d.pl (lLast d.pl f)).size : Int) + ((fr x).size : Int))) := rfl
  have KB := asd (fun (u : World) (hu : Below w.heap.size w u) => rbytes_any (H.out.below hu) (by omega) (lLast d.pl f))
  have KF := asd (fun (u : World) (hu : Below w.heap.size w u) => rb_free (H.out.below hu) (by omega))
  have KN := asd (fun (n : Int) (u : World) => refName_any LG n u)
  have KS := asd (fun (u : World) (hu : Below w.heap.size w u) => rb_sync (H.out.below hu) (by omega) (nmL (lLast d.pl f)))
  have LE := asd (lapp_refused (s := d.pl) (f := f) (m := m) (rest := rest) hx0)
  have SAME := asd (lapp_same (s := d.pl) (f := f) (m := m) (rest := rest) hx0)
  have UNS := asd (lapp_unsure (s := d.pl) (f := f) (m := m) (rest := rest) hx0)
  have NEX := asd (lapp_next (s := d.pl) (f := f) (m := m) (rest := rest) hx0)
  have RA := @rap_app w
  have q0 : decide (2000 < x.size) = false := decide_eq_false hx0
  have RN := asd (fun (E : Int) (u : World) (hE : lAppend d.pl f m x rest = (E, d.pl)) (hb : Below w.heap.size w u) => rap_none (B := B) (c := c) (y := y) (r := r) hE H.out hy hb)
  clear h hn h1 h2 hr hc
  generalize hLA : lLast d.pl f = LA at *
  have HLA := asd hLA
  have HY := asd hy
  have CY := asd (fun (u : World) (hu : Below w.heap.size w u) => (HY.out.below hu).cells)
  clear hy hLA
  generalize hX : fr x = X at *
  have HX := asd hX
  clear hX
  generalize tx d.pl LA = T at *
  generalize th d.pl LA = TH at *
  generalize hFR : d.pl.free = FR at *
  generalize hFL : d.pl.files.length = FL at *
  clear hFR hFL
  generalize hWR : wi rest = WR at *
  clear hWR
  go_enter Tryz.func14, Tryz.ntmps14
  go_upto_if 21 with fail
  go_cut [2] (fun s2 wx => s2 = .int .i64 (max rest 0) ∧ w = wx)
  case first =>
    go_wp2_with fail
    all_goals (go_meet; exact ⟨congrArg (Value.int .i64) (by omega), rfl⟩)
  case rest =>
  obtain ⟨rfl, rfl⟩ := hcut
  go_upto_if 23 with fail
  go_cut [2] (fun s2 wx => s2 = .int .i64 WR ∧ w = wx)
  case first =>
    go_wp2_with fail
    all_goals (go_meet; exact ⟨congrArg (Value.int .i64) (by omega), rfl⟩)
  case rest =>
  obtain ⟨rfl, rfl⟩ := hcut
  clear hwr
  go_upto_region 10 with (go_at_call 50; refine (KM.out _).mono ?_; rintro e w3 ⟨rfl, b3⟩; obtain ⟨c0, c1, c2, c3⟩ := CY.out w3 b3)
  have B3 := asd b3
  go_region_held3 (fun u => u.cell? ⟨y, 0, none⟩ = some (.pointer (some ⟨c, 0, none⟩)) ∧ u.cell? ⟨y, 2, none⟩ = some (.int .i64 LA)) (go_keep) ((go_at_call 42; refine (KB.out w3.drew (B3.out.trans ((show Below w3.heap.size w3 w3.drew from ⟨rfl, rfl, rfl, Nat.le_refl _, fun _ _ => rfl⟩).mono B3.out.size))).mono ?_; rintro e w4 ⟨rfl, b4⟩; have bb4 : Below w.heap.size w w4 := B3.out.trans ((Dk.below_drew b4).mono B3.out.size); obtain ⟨z0, z1, z2, z3⟩ := CY.out w4 bb4))
  go_upto_region 12 with fail
  go_cut [56] (fun s56 wx => s56 = .bool (grows d.pl f m X.size) ∧ w4 = wx)
  case first =>
    by_cases a1 : 0 < T.size
    · have p1 : decide (0 < T.size) = true := decide_eq_true a1
      by_cases a2 : m < (T.size : Int) + (X.size : Int)
      · have p2 : decide (m < (T.size : Int) + (X.size : Int)) = true := decide_eq_true a2
        rw [p1, p2] at hgr
        go_wp2_with fail
        go_meet
        exact ⟨congrArg Value.bool hgr.symm, rfl⟩
      · have p2 : decide (m < (T.size : Int) + (X.size : Int)) = false := decide_eq_false a2
        rw [p1, p2] at hgr
        go_wp2_with fail
        go_meet
        exact ⟨congrArg Value.bool hgr.symm, rfl⟩
    · have p1 : decide (0 < T.size) = false := decide_eq_false a1
      rw [p1] at hgr
      go_wp2_with fail
      go_meet
      exact ⟨congrArg Value.bool hgr.symm, rfl⟩
  case rest =>
  obtain ⟨rfl, rfl⟩ := hcut
  clear hgr
  cases hg : grows d.pl f m X.size with
  | true =>
    have PL2 : lPlace d.pl m LA (X.size : Int) = LA + 1 := by
      have := PL.out
      rw [hg] at this
      exact this
    have REF2 := REF.out
    rw [hg, PL2] at REF2
    rw [PL2] at LE SAME UNS NEX AL
    have HG := asd hg
    clear hg PL REF PL2
    by_cases h9 : 99999 < LA + 1
    · have p9 : decide (99999 < LA + 1) = true := decide_eq_true h9
      rw [if_pos h9] at REF2
      have EN := asd (LE.out (by rw [REF2]; decide))
      rw [REF2] at EN
      go_wp2
      go_ret
      exact RN.out 10 _ EN.out bb4
    have p9 : decide (99999 < LA + 1) = false := decide_eq_false h9
    rw [if_neg h9] at REF2
    go_upto_region 18 with (go_at_call 51; refine (KF.out _ bb4).mono ?_; rintro e w5 ⟨rfl, b5⟩; have bb5 : Below w.heap.size w w5 := bb4.trans (b5.mono bb4.size); obtain ⟨y0, y1, y2, y3⟩ := CY.out w5 bb5)
    go_cut [82] (fun s82 wx => s82 = .bool ((!false && decide (16 - (FL : Int) < 3)) || decide ((FR : Int) < (X.size : Int) + WR)) ∧ w5 = wx)
    case first =>
      by_cases a3 : 16 - (FL : Int) < 3
      · have p3 : decide (16 - (FL : Int) < 3) = true := decide_eq_true a3
        go_wp2_with fail
        go_meet
        exact ⟨congrArg Value.bool (by rw [p3]; rfl), rfl⟩
      · have p3 : decide (16 - (FL : Int) < 3) = false := decide_eq_false a3
        go_wp2_with fail
        go_meet
        exact ⟨congrArg Value.bool (by rw [p3]; rfl), rfl⟩
    case rest =>
    obtain ⟨rfl, rfl⟩ := hcut
    simp only [if_true] at REF2
    generalize hRF : ((!false && decide (16 - (FL : Int) < 3)) || decide ((FR : Int) < (X.size : Int) + WR)) = RF at *
    clear hRF
    cases RF with
    | true =>
      simp only [if_true] at REF2
      have EN := asd (LE.out (by rw [REF2]; decide))
      rw [REF2] at EN
      go_wp2
      go_ret
      exact RN.out 2 _ EN.out bb5
    | false =>
      simp only [Bool.false_eq_true, if_false] at REF2
      have UN := asd (fun hs => UNS.out REF2 (by omega) hs)
      have NX := asd (fun (hs : (Dk.opSync d.pl (nmL LA)).1 = 0) => (show lAppend d.pl f m x rest = Dk.opAppend (Dk.opSync d.pl (nmL LA)).2 (nmL (LA + 1)) X ∧ lLast (Dk.opAppend (Dk.opSync d.pl (nmL LA)).2 (nmL (LA + 1)) X).2 f = if (Dk.opAppend (Dk.opSync d.pl (nmL LA)).2 (nmL (LA + 1)) X).1 = 0 then LA + 1 else LA from by
        have e := NEX.out REF2 (by omega) hs
        have e2 := AL.out.2
        rw [e] at e2
        exact ⟨e, e2⟩))
      replace RA := fun (d1 : Dk.Ds) (r1 r2 : Dk.Rs) (n : Int) (u w' : World) => @RA u w' B c y d d1 r r1 r2 f m n x rest
      rw [HX.out, HLA.out] at RA
      clear UNS NEX SAME AL LE REF2
      have p20 : decide (LA < LA + 1) = true := by exact decide_eq_true (by omega)
      by_cases hs : (Dk.opSync d.pl (nmL LA)).1 = 0
      · rw [hs] at KS
        obtain ⟨hE, hL⟩ := NX.out hs
        have HE := asd hE
        have HL := asd hL
        clear hE hL NX hs
        go_wp2
        go_region_held3 (fun u => u.cell? ⟨y, 0, none⟩ = some (.pointer (some ⟨c, 0, none⟩)) ∧ u.cell? ⟨y, 2, none⟩ = some (.int .i64 LA)) (go_keep) ((first
          | (go_at_call 32; refine (KN.out _ _).mono ?_; rintro e w6 ⟨rfl, b6⟩; have bb6 : Below w.heap.size w w6 := bb5.trans ((Dk.below_drew b6).mono bb5.size); obtain ⟨y0, y1, y2, y3⟩ := CY.out w6 bb6)
          | (go_at_call 52; refine (KS.out w6 bb6).mono ?_; rintro e w7 ⟨rfl, r7, R7, T7, n7, st7⟩; have S7 := asd ((Dk.Step.ofBelow bb6).trans st7); have L7 := HY.out.step S7.out HN.out; have RB7 := asd (rb_plain R7 (H.out.ok.opSync (nmL LA)) T7); have N7 := asd n7; obtain ⟨x0, x1, x2, x3⟩ := L7.cells; have CZ := asd (fun (u : World) (hu : Below w7.heap.size w7 u) => (L7.below hu).cells); clear R7 T7 n7 st7)))
        go_wp2
        have D0 : Below w7.heap.size w7 w7.drew := ⟨rfl, rfl, rfl, Nat.le_refl _, fun _ _ => rfl⟩
        go_region_held3 (fun u => u.cell? ⟨y, 0, none⟩ = some (.pointer (some ⟨c, 0, none⟩))) (go_keep) ((first
          | (go_at_call 32; refine (KN.out _ _).mono ?_; rintro e w8 ⟨rfl, b8⟩; have bb8 : Below w7.heap.size w7 w8 := Dk.below_drew b8; obtain ⟨v0, v1, v2, v3⟩ := CZ.out w8 bb8)
          | (go_at_call 34; refine (rb_append (RB7.out.below bb8) (by rw [N7.out]; exact HC.out) (nmL (LA + 1)) X (by have := nmL_size (LA + 1); omega) (by omega)).mono ?_; rw [dsOf_pl]; rintro e w9 ⟨rfl, r9, R9, T9, n9, st9⟩; obtain ⟨q1, q2, q3⟩ := RA (dsOf (Dk.opSync d.pl (nmL LA)).2) r7 r9 (LA + 1) w7 w9 (by rw [dsOf_pl]; exact HE.out) (by rw [dsOf_pl]; exact HL.out) HY.out HN.out S7.out R9 (by rw [dsOf_pl]; exact T9) N7.out (Nat.le_trans n9 (by omega)) ((Dk.Step.ofBelow bb8).trans st9); rw [dsOf_pl] at q1 q2; obtain ⟨u0, u1, u2, u3⟩ := q3.cells; have u2f := q3.fz 2; have Q1 := asd q1; have Q2 := asd q2; clear R9 T9 n9 st9 q1 q2 q3)))
        generalize (Dk.opAppend (Dk.opSync d.pl (nmL LA)).2 (nmL (LA + 1)) X).1 = A at *
        clear HE HL RA
        by_cases hA : A = 0
        · subst hA
          have Q3 := asd (Q2.out rfl)
          clear Q1 Q2
          go_wp2
          go_ret
          exact Q3.out
        · have t1 : (A != 0) = true := by rw [bne_iff_ne]; exact hA
          have t2 : (A == 0) = false := by rw [beq_eq_false_iff_ne]; exact hA
          have Q3 := asd (Q1.out hA)
          clear Q1 Q2
          go_wp2
          go_ret
          exact Q3.out
      · have HU := asd (UN.out hs)
        have t1 : ((Dk.opSync d.pl (nmL LA)).1 != 0) = true := by rw [bne_iff_ne]; exact hs
        have t2 : ((Dk.opSync d.pl (nmL LA)).1 == 0) = false := by rw [beq_eq_false_iff_ne]; exact hs
        have RU := asd (fun (u : World) (r7 : Dk.Rs) (R7 : Dk.RRep u B c r7) (T7 : ∃ T, Dk.Rel (Dk.opSync d.pl (nmL LA)).2 r7.pl T) (n7 : r7.count = r.count) (s7 : Dk.Step (r.foot c) (r7.foot c) w u) => (show RAp w B c y d r f m x rest (.returned (.int .i64 (Dk.opSync d.pl (nmL LA)).1)) u from by
          unfold RAp
          rw [HU.out]
          refine ⟨rfl, r7, R7, T7, by omega, ?_, step_cons s7 y⟩
          rw [(names_alike (names_sync d.pl (nmL LA)) f).2, HLA.out]
          exact HY.out.step s7 HN.out))
        clear hs HU RA
        generalize (Dk.opSync d.pl (nmL LA)).1 = SE at *
        go_wp2
        go_region_held3 (fun u => u.cell? ⟨y, 0, none⟩ = some (.pointer (some ⟨c, 0, none⟩)) ∧ u.cell? ⟨y, 2, none⟩ = some (.int .i64 LA)) (go_keep) ((first
          | (go_at_call 32; refine (KN.out _ _).mono ?_; rintro e w6 ⟨rfl, b6⟩; have bb6 : Below w.heap.size w w6 := bb5.trans ((Dk.below_drew b6).mono bb5.size); obtain ⟨y0, y1, y2, y3⟩ := CY.out w6 bb6)
          | (go_at_call 52; refine (KS.out w6 bb6).mono ?_; rintro e w7 ⟨rfl, r7, R7, T7, n7, st7⟩; have S7 := (Dk.Step.ofBelow bb6).trans st7; have L7 := HY.out.step S7 HN.out; have Q7 := asd (RU.out w7 r7 R7 T7 n7 S7); obtain ⟨x0, x1, x2, x3⟩ := L7.cells; clear R7 T7 n7 st7 S7 L7)))
        go_wp2
        go_ret
        exact Q7.out
  | false =>
    have PL2 : lPlace d.pl m LA (X.size : Int) = LA := by
      have := PL.out
      rw [hg] at this
      exact this
    have REF2 := REF.out
    rw [hg, PL2] at REF2
    rw [PL2] at LE SAME UNS NEX AL
    have HG := asd hg
    clear hg PL REF PL2
    have p9 : decide (99999 < LA) = false := decide_eq_false (by omega)
    rw [if_neg (by omega)] at REF2
    go_upto_region 18 with (go_at_call 51; refine (KF.out _ bb4).mono ?_; rintro e w5 ⟨rfl, b5⟩; have bb5 : Below w.heap.size w w5 := bb4.trans (b5.mono bb4.size); obtain ⟨y0, y1, y2, y3⟩ := CY.out w5 bb5)
    go_cut [9, 82] (fun _ s82 wx => s82 = .bool ((!TH && decide (16 - (FL : Int) < 3)) || decide ((FR : Int) < (X.size : Int) + WR)) ∧ w5 = wx)
    case first =>
      cases hth : TH with
      | true =>
        go_wp2_with fail
        go_meet
        exact ⟨congrArg Value.bool (by rw [hth]; rfl), rfl⟩
      | false =>
        by_cases a3 : 16 - (FL : Int) < 3
        · have p3 : decide (16 - (FL : Int) < 3) = true := decide_eq_true a3
          go_wp2_with fail
          go_meet
          exact ⟨congrArg Value.bool (by rw [hth, p3]; rfl), rfl⟩
        · have p3 : decide (16 - (FL : Int) < 3) = false := decide_eq_false a3
          go_wp2_with fail
          go_meet
          exact ⟨congrArg Value.bool (by rw [hth, p3]; rfl), rfl⟩
    case rest =>
    obtain ⟨rfl, rfl⟩ := hcut
    simp only [Bool.false_eq_true, if_false] at REF2
    generalize hRF : ((!TH && decide (16 - (FL : Int) < 3)) || decide ((FR : Int) < (X.size : Int) + WR)) = RF at *
    clear hRF
    cases RF with
    | true =>
      simp only [if_true] at REF2
      have EN := asd (LE.out (by rw [REF2]; decide))
      rw [REF2] at EN
      go_wp2
      go_ret
      exact RN.out 2 _ EN.out bb5
    | false =>
      simp only [Bool.false_eq_true, if_false] at REF2
      have SM : Aside (lAppend d.pl f m x rest = Dk.opAppend d.pl (nmL LA) X ∧ lLast (Dk.opAppend d.pl (nmL LA) X).2 f = if (Dk.opAppend d.pl (nmL LA) X).1 = 0 then LA else LA) := by
        have e := SAME.out REF2 trivial
        have e2 := AL.out.2
        rw [e] at e2
        exact ⟨e, e2⟩
      replace RA := fun (d1 : Dk.Ds) (r1 r2 : Dk.Rs) (n : Int) (u w' : World) => @RA u w' B c y d d1 r r1 r2 f m n x rest
      rw [HX.out, HLA.out] at RA
      clear UNS NEX SAME AL LE REF2
      have p20 : decide (LA < LA) = false := by simp
      obtain ⟨hE, hL⟩ := SM.out
      have HE := asd hE
      have HL := asd hL
      clear hE hL SM
      go_wp2
      go_region_held3 (fun u => u.cell? ⟨y, 0, none⟩ = some (.pointer (some ⟨c, 0, none⟩))) (go_keep) ((first
        | (go_at_call 32; refine (KN.out _ _).mono ?_; rintro e w8 ⟨rfl, b8⟩; have bb8 : Below w.heap.size w w8 := bb5.trans ((Dk.below_drew b8).mono bb5.size); obtain ⟨v0, v1, v2, v3⟩ := CY.out w8 bb8)
        | (go_at_call 34; refine (rb_append (H.out.below bb8) HC.out (nmL LA) X (by have := nmL_size LA; omega) (by omega)).mono ?_; rintro e w9 ⟨rfl, r9, R9, T9, n9, st9⟩; obtain ⟨q1, q2, q3⟩ := RA d r r9 LA w w9 HE.out HL.out HY.out HN.out (Dk.Step.refl _ _) R9 T9 rfl (Nat.le_trans n9 (by omega)) ((Dk.Step.ofBelow bb8).trans st9); obtain ⟨u0, u1, u2, u3⟩ := q3.cells; have u2f := q3.fz 2; have Q1 := asd q1; have Q2 := asd q2; clear R9 T9 n9 st9 q1 q2 q3)))
      generalize (Dk.opAppend d.pl (nmL LA) X).1 = A at *
      clear HE HL RA
      by_cases hA : A = 0
      · subst hA
        have Q3 := asd (Q2.out rfl)
        clear Q1 Q2
        go_wp2
        go_ret
        exact Q3.out
      · have t1 : (A != 0) = true := by rw [bne_iff_ne]; exact hA
        have t2 : (A == 0) = false := by rw [beq_eq_false_iff_ne]; exact hA
        have Q3 := asd (Q1.out hA)
        clear Q1 Q2
        go_wp2
        go_ret
        exact Q3.out
end Go.Proofs.YtajjcfacbnicnaaGreatDoor
