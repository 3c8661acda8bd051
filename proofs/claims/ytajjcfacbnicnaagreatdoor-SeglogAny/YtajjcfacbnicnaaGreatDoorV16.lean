/-
  YtajjcfacbnicnaaGreatDoor: the texts DE3, DX12, DX15, DE4, one behind the other.
-/
import Derived.Test.YtajjcfacbnicnaaGreatDoorV15
import Derived.Test.YtajjcfacbnicnaaGreatDoorV10
import Derived.Test.YtajjcfacbnicnaaGreatDoorV6
import Derived.Test.YtajjcfacbnicnaaGreatDoorV14
import Derived.Test.YtajjcfacbnicnaaGreatDoorV12
import Derived.Deep.RegionHeld3
/-
  A crash leaves alike what was alike.
-/
namespace Go.Proofs.YtajjcfacbnicnaaGreatDoor.Dk
open Go.RowKit
set_option maxRecDepth 100000

theorem countP_lt_succ : ∀ (P : List Nat) (n : Nat), P.Nodup → P.countP (fun p => decide (p < n + 1)) = P.countP (fun p => decide (p < n)) + if n ∈ P then 1 else 0
  | [], n, _ => by simp
  | a :: r, n, h => by
    rw [List.nodup_cons] at h
    have ih := countP_lt_succ r n h.2
    rw [List.countP_cons, List.countP_cons, ih]
    by_cases e : a = n
    · subst e
      rw [if_neg h.1]
      simp
    · by_cases h1 : a < n
      · have : a < n + 1 := by omega
        simp only [List.mem_cons, h1, this, decide_true, if_true, show (n = a) = False from by simp; omega, false_or]
        omega
      · have : ¬ a < n + 1 := by omega
        simp only [List.mem_cons, h1, this, decide_false, show (n = a) = False from by simp; omega, false_or]
        simp

theorem rk_count (l P : List Nat) (hn : P.Nodup) (hp : ∀ p ∈ P, 0 < p) (hm : ∀ p, 0 < p → (p ∈ l ↔ p ∈ P)) : ∀ n, rk l n = P.countP fun p => decide (p < n)
  | 0 => by
    show mk1 l 0 = _
    unfold mk1
    rw [if_neg (by omega)]
    symm
    rw [List.countP_eq_zero]
    intro p _
    simp
  | n + 1 => by
    show rk l n + mk1 l (n + 1) = _
    rw [rk_count l P hn hp hm n, countP_lt_succ P n hn]
    congr 1
    unfold mk1
    rw [Nat.add_sub_cancel]
    by_cases h0 : n = 0
    · subst h0
      rw [if_neg (by omega), if_neg (fun h => by have := hp 0 h; omega)]
    · have := hm n (by omega)
      by_cases hP : n ∈ P
      · rw [if_pos ⟨by omega, this.2 hP⟩, if_pos hP]
      · rw [if_neg (fun h => hP (this.1 h.2)), if_neg hP]

/-- Of a rising list's own place. -/
theorem countP_rise {A C : List Nat} {p : Nat} (h : (A ++ p :: C).Pairwise (· < ·)) : (A ++ p :: C).countP (fun q => decide (q < p)) = A.length := by
  rw [List.pairwise_append] at h
  obtain ⟨_, h2, h3⟩ := h
  rw [List.pairwise_cons] at h2
  rw [List.countP_append, List.countP_cons]
  have e1 : A.countP (fun q => decide (q < p)) = A.length := by
    rw [List.countP_eq_length]
    intro q hq
    exact decide_eq_true (h3 q hq p List.mem_cons_self)
  have e2 : C.countP (fun q => decide (q < p)) = 0 := by
    rw [List.countP_eq_zero]
    intro q hq
    have := h2.1 q hq
    simp; omega
  rw [e1, e2]
  simp

theorem keepN_all (c : Nat → Bool) : ∀ (A C : List Nat) (p : Nat), (∀ x ∈ A, c x = true) → keepN c (A ++ C) p p = keepN c C (p + A.length) (p + A.length)
  | [], C, p, _ => rfl
  | a :: r, C, p, h => by
    show keepN c (r ++ C) (p + 1) _ = _
    rw [h a List.mem_cons_self, if_pos rfl, keepN_all c r C (p + 1) fun x hx => h x (List.mem_cons_of_mem _ hx)]
    rw [List.length_cons, show p + 1 + r.length = p + (r.length + 1) by omega]
theorem keepN_none (c : Nat → Bool) : ∀ (C : List Nat) (p a : Nat), (∀ x ∈ C, c x = false) → keepN c C p a = a
  | [], _, _, _ => rfl
  | x :: r, p, a, h => by
    show keepN c r (p + 1) _ = _
    rw [h x List.mem_cons_self]
    exact keepN_none c r (p + 1) a fun y hy => h y (List.mem_cons_of_mem _ hy)

theorem lasts_flat : ∀ (ps : List Pc) (l : List F) (left : Nat), lasts l ps left = l.map fun f => ⟨f.name, f.bytes, f.sure + ((flat ps).take left).countP fun x => decide (cmp x f.name = 0)⟩
  | [], l, left => by
    show l = _
    simp [flat]
  | p :: r, l, left => by
    show lasts (surer l p.name (min p.size left)) r (left - min p.size left) = _
    rw [lasts_flat r]
    unfold surer
    rw [List.map_map]
    apply List.map_congr_left
    intro f _
    have e : (flat (p :: r)).take left = List.replicate (min left p.size) p.name ++ (flat r).take (left - p.size) := by
      unfold flat
      rw [List.flatMap_cons, List.take_append, List.take_replicate, List.length_replicate]
    rw [e, List.countP_append, List.countP_replicate, show left - min p.size left = left - p.size by omega, Nat.min_comm p.size left]
    by_cases h : cmp f.name p.name = 0
    · have h' : cmp p.name f.name = 0 := cmp_zero.2 (cmp_zero.1 h).symm
      simp only [Function.comp, h, h', if_true, decide_true]
      congr 1
      omega
    · have h' : ¬ cmp p.name f.name = 0 := fun e => h (cmp_zero.2 (cmp_zero.1 e).symm)
      simp only [Function.comp, h, h', if_false, decide_false]
      simp

theorem Rel.mem_all {s : St} {r : RS} {T : Tape} (h : Rel s r T) (ok : Ok s) (p : Nat) (hp : 0 < p) : p ∈ r.all ↔ p ∈ T.map Prod.fst := by
  unfold RS.all
  rw [h.files]
  constructor
  · intro hm
    obtain ⟨g, hg, hpg⟩ := List.mem_flatMap.1 hm
    obtain ⟨f, _, rfl⟩ := List.mem_map.1 hg
    rcases List.mem_append.1 hpg with e | e
    · have := List.eq_of_mem_replicate e
      omega
    · obtain ⟨x, hx, rfl⟩ := List.mem_map.1 e
      exact List.mem_map.2 ⟨x, (List.mem_filter.1 hx).1, rfl⟩
  · intro hm
    obtain ⟨x, hx, rfl⟩ := List.mem_map.1 hm
    have hn : x.2 ∈ flat s.pieces := by rw [← h.names]; exact List.mem_map.2 ⟨x, hx, rfl⟩
    obtain ⟨q, hq, hxq⟩ := List.mem_flatMap.1 hn
    have hnm := ok.named q hq
    rw [← List.eq_of_mem_replicate hxq] at hnm
    obtain ⟨f, hf, hfn⟩ := List.mem_map.1 hnm
    refine List.mem_flatMap.2 ⟨toG T f, List.mem_map.2 ⟨f, hf, rfl⟩, List.mem_append_right _ ?_⟩
    exact List.mem_map.2 ⟨x, List.mem_filter.2 ⟨hx, decide_eq_true (cmp_zero.2 hfn.symm)⟩, rfl⟩

theorem Rel.lasts {s : St} {r : RS} {T : Tape} (h : Rel s r T) (ok : Ok s) (last : Int) {A C : Tape} {x : Nat × ByteArray} (hT : T = A ++ x :: C) : lastsC r.all last x.1 = decide (A.length < last.toNat) := by
  have hx : x ∈ T := by rw [hT]; simp
  have hp := h.pos x hx
  unfold lastsC
  rw [decide_eq_false (show ¬ x.1 = 0 by omega), Bool.false_or]
  have hnd : (T.map Prod.fst).Nodup := h.rise.imp fun h => Nat.ne_of_lt h
  rw [rk_count r.all (T.map Prod.fst) hnd (fun p hp => by obtain ⟨y, hy, rfl⟩ := List.mem_map.1 hp; exact (h.pos y hy).1) (h.mem_all ok) x.1]
  have hr := h.rise
  rw [hT, List.map_append, List.map_cons] at hr ⊢
  rw [countP_rise hr, List.length_map, Bool.eq_iff_iff, decide_eq_true_iff, decide_eq_true_iff]
  omega

theorem Rel.kept {s : St} {r : RS} {T : Tape} (h : Rel s r T) (ok : Ok s) (last : Int) (f : F) : keepN (lastsC r.all last) (toG T f).late 0 0 = f.sure + ((flat s.pieces).take last.toNat).countP fun x => decide (cmp x f.name = 0) := by
  have hTm : T = T.take last.toNat ++ T.drop last.toNat := (List.take_append_drop _ _).symm
  have hpl : plc T f.name = plc (T.take last.toNat) f.name ++ plc (T.drop last.toNat) f.name := by
    conv => lhs; rw [hTm]
    unfold plc
    rw [List.filter_append, List.map_append]
  unfold toG
  simp only
  rw [hpl]
  rw [keepN_all _ (List.replicate f.sure 0) _ 0 fun x hx => by rw [List.eq_of_mem_replicate hx]; rfl]
  rw [List.length_replicate, Nat.zero_add]
  have hA : ∀ p ∈ plc (T.take last.toNat) f.name, lastsC r.all last p = true := fun p hp => by
    obtain ⟨x, hx, rfl⟩ := List.mem_map.1 hp
    obtain ⟨A, C, hAC⟩ := List.append_of_mem (List.mem_filter.1 hx).1
    have hT2 : T = A ++ x :: (C ++ T.drop last.toNat) := by
      rw [← List.cons_append, ← List.append_assoc, ← hAC]
      exact hTm
    rw [h.lasts ok last hT2]
    have := congrArg List.length hAC
    rw [List.length_take, List.length_append, List.length_cons] at this
    exact decide_eq_true (by omega)
  have hC : ∀ p ∈ plc (T.drop last.toNat) f.name, lastsC r.all last p = false := fun p hp => by
    obtain ⟨x, hx, rfl⟩ := List.mem_map.1 hp
    obtain ⟨A, C, hAC⟩ := List.append_of_mem (List.mem_filter.1 hx).1
    have hT2 : T = (T.take last.toNat ++ A) ++ x :: C := by
      rw [List.append_assoc, ← hAC]
      exact hTm
    rw [h.lasts ok last hT2]
    have h1 := congrArg List.length hAC
    rw [List.length_drop, List.length_append, List.length_cons] at h1
    rw [List.length_append, List.length_take]
    exact decide_eq_false (by omega)
  rw [keepN_all _ _ _ f.sure hA, keepN_none _ _ _ _ hC, plc_length, List.map_take, h.names]

theorem Rel.crash {s : St} {r : RS} {T : Tape} (h : Rel s r T) (ok : Ok s) (last : Int) : Rel (opCrash s last) (rCrash r last) [] := by
  refine ⟨?_, rfl, List.Pairwise.nil, fun x hx => (by cases hx), h.most, rfl, rfl, fun e => (by cases e)⟩
  show r.files.map (G.crash (lastsC r.all last)) = (cutAll (YtajjcfacbnicnaaGreatDoor.Dk.lasts s.files s.pieces last.toNat)).map (toG [])
  unfold cutAll
  rw [lasts_flat, List.map_map, List.map_map]
  conv => lhs; rw [h.files, List.map_map]
  apply List.map_congr_left
  intro f _
  show G.crash (lastsC r.all last) (toG T f) = toG [] _
  unfold G.crash
  rw [h.kept ok last f]
  unfold toG
  simp only
  congr 1
  show _ = _ ++ []
  rw [List.append_nil]

/-- What the document's calls ask for, comes from what is alike. -/
theorem Rel.ok {s : St} {r : RS} {T : Tape} (h : Rel s r T) (ok : Ok s) (hc : r.count ≤ 1000000) : ROk r where
  few := by rw [h.files, List.length_map]; exact ok.few
  most := by rw [h.most]; exact ok.room
  left := by
    rw [h.left]
    have := ok.fuse
    split <;> omega
  used := by
    have := h.used
    unfold RS.used at this
    rw [this]
    exact ok.used
  lates := fun g hg => by
    rw [h.files] at hg
    obtain ⟨f, hf, rfl⟩ := List.mem_map.1 hg
    have := ok.waits f hf
    show (List.replicate f.sure 0 ++ plc T f.name).length = f.bytes.length
    rw [List.length_append, List.length_replicate, h.plc_len]
    exact this
  count := hc
  small := fun g hg n hn => by
    rw [h.files] at hg
    obtain ⟨f, hf, rfl⟩ := List.mem_map.1 hg
    rcases List.mem_append.1 hn with e | e
    · rw [List.eq_of_mem_replicate e]
      omega
    · exact (plc_pos h.pos e).2
end Go.Proofs.YtajjcfacbnicnaaGreatDoor.Dk

/-
  Append, whatever comes.
-/
namespace Go.Proofs.YtajjcfacbnicnaaGreatDoor.Dk
open Go.RowKit
set_option maxRecDepth 100000

theorem append_any {w : World} {B b : Nat} {d : Ds} (h : Rep w B b d) (ok : Ok d.pl) (n x : ByteArray) :
    Calls Tryz.prog 33 #[.pointer (some ⟨b, 0, none⟩), .string n, .string x] w fun e w' => e = .returned (.int .i64 (opAppend d.pl n x).1) ∧ ∃ d', Rep w' B b d' ∧ d'.pl = (opAppend d.pl n x).2 ∧ Step (d.foot b) (d'.foot b) w w' := by
  have hl : d.pl.files.length = d.files.length := by simp [Ds.pl]
  have hr : d.pl.room = d.room := rfl
  unfold opAppend St.full
  rw [power_pl, names_pl, hl, hr]
  cases hp : d.power with
  | false =>
    refine (append_early h ok n x (.inl hp)).mono ?_
    rintro e w' ⟨rfl, h1, s1⟩
    rw [hp]
    exact ⟨rfl, d.spent, h1, rfl, s1⟩
  | true =>
    cases hm : mayBe n with
    | false =>
      refine (append_early h ok n x (.inr hm)).mono ?_
      rintro e w' ⟨rfl, h1, s1⟩
      rw [hp]
      exact ⟨rfl, d.spent, h1, rfl, s1⟩
    | true =>
      simp only [if_true]
      have full : ∀ c : Bool, c = true → (Calls Tryz.prog 33 #[.pointer (some ⟨b, 0, none⟩), .string n, .string x] w fun e w' => e = .returned (.int .i64 2) ∧ Rep w' B b d.spent ∧ Step (d.foot b) (d.foot b) w w') → Calls Tryz.prog 33 #[.pointer (some ⟨b, 0, none⟩), .string n, .string x] w fun e w' => e = .returned (.int .i64 (if c = true then (2, d.pl.spent) else (0, if x.size = 0 then d.pl.spent.make n else (d.pl.spent.make n).more (place d.names n) n x) : Int × St).1) ∧ ∃ d', Rep w' B b d' ∧ d'.pl = (if c = true then (2, d.pl.spent) else (0, if x.size = 0 then d.pl.spent.make n else (d.pl.spent.make n).more (place d.names n) n x) : Int × St).2 ∧ Step (d.foot b) (d'.foot b) w w' := by
        intro c hc hk
        refine hk.mono ?_
        rintro e w' ⟨rfl, h1, s1⟩
        rw [if_pos hc]
        exact ⟨rfl, d.spent, h1, rfl, s1⟩
      have free : ∀ c : Bool, c = false → (Calls Tryz.prog 33 #[.pointer (some ⟨b, 0, none⟩), .string n, .string x] w fun e w' => e = .returned (.int .i64 0) ∧ ∃ d', Rep w' B b d' ∧ d'.pl = (if x.size = 0 then d.pl.spent.make n else (d.pl.spent.make n).more (place d.names n) n x) ∧ Step (d.foot b) (d'.foot b) w w') → Calls Tryz.prog 33 #[.pointer (some ⟨b, 0, none⟩), .string n, .string x] w fun e w' => e = .returned (.int .i64 (if c = true then (2, d.pl.spent) else (0, if x.size = 0 then d.pl.spent.make n else (d.pl.spent.make n).more (place d.names n) n x) : Int × St).1) ∧ ∃ d', Rep w' B b d' ∧ d'.pl = (if c = true then (2, d.pl.spent) else (0, if x.size = 0 then d.pl.spent.make n else (d.pl.spent.make n).more (place d.names n) n x) : Int × St).2 ∧ Step (d.foot b) (d'.foot b) w w' := by
        intro c hc hk
        subst hc
        exact hk
      by_cases hf : d.room < d.pl.total + x.size
      · refine full _ (by simp [hf]) ?_
        cases hh : has d.names n with
        | true => exact append_fullB h ok n x hp hm hh hf
        | false =>
          by_cases hN : d.files.length = 16
          · exact append_fullC h ok n x hp hm hh hN
          · exact append_fullE h ok n x hp hm hh hN hf
      · cases hh : has d.names n with
        | true =>
          refine free _ (by simp [hf]) ?_
          by_cases hx : x.size = 0
          · rw [if_pos hx]
            exact append_A0 h ok n x hp hm hh hf hx
          · rw [if_neg hx]
            exact append_A1 h ok n x hp hm hh hf hx
        | false =>
          by_cases hN : d.files.length = 16
          · refine full _ (by simp [hN]) ?_
            exact append_fullC h ok n x hp hm hh hN
          · refine free _ (by simp [hf, hN]) ?_
            by_cases hx : x.size = 0
            · rw [if_pos hx]
              exact append_D0 h ok n x hp hm hh hN hf hx
            · rw [if_neg hx]
              exact append_D1 h ok n x hp hm hh hN hf hx
end Go.Proofs.YtajjcfacbnicnaaGreatDoor.Dk

/-
  Rename, whatever comes.
-/
namespace Go.Proofs.YtajjcfacbnicnaaGreatDoor.Dk
open Go.RowKit
set_option maxRecDepth 100000

theorem drop_names {d : Ds} {n : ByteArray} {f : Fv} (hf : d.files[place d.names n]? = some f) : (d.pl.spent.drop (place d.names n)).names = (d.files.eraseIdx (place d.names n)).map Fv.name := by
  show (d.spent.pl.drop (place d.names n)).names = _
  rw [← pl_drop (d := d.spent) (v' := .slice none 0 0) (v'' := .slice none 0 0) hf, names_pl]
  rfl

theorem rename_any {w : World} {B b : Nat} {d : Ds} (h : Rep w B b d) (ok : Ok d.pl) (n t : ByteArray) :
    Calls Tryz.prog 57 #[.pointer (some ⟨b, 0, none⟩), .string n, .string t] w fun e w' => e = .returned (.int .i64 (opRename d.pl n t).1) ∧ ∃ d', Rep w' B b d' ∧ d'.pl = (opRename d.pl n t).2 ∧ Step (d.foot b) (d'.foot b) w w' := by
  unfold opRename
  rw [power_pl, names_pl]
  cases hp : d.power with
  | false =>
    refine (rename_early h ok n t (.inl hp)).mono ?_
    rintro e w' ⟨rfl, h1, s1⟩
    rw [hp]
    exact ⟨rfl, d.spent, h1, rfl, s1⟩
  | true =>
    cases hm : mayBe t with
    | false =>
      refine (rename_early h ok n t (.inr hm)).mono ?_
      rintro e w' ⟨rfl, h1, s1⟩
      rw [hp]
      exact ⟨rfl, d.spent, h1, rfl, s1⟩
    | true =>
      simp only [if_true]
      cases hh : has d.names n with
      | false =>
        refine (rename_none h ok n t hp hm hh).mono ?_
        rintro e w' ⟨rfl, h1, s1⟩
        cases d.pl.files[place d.names n]? <;> exact ⟨rfl, d.spent, h1, rfl, s1⟩
      | true =>
        obtain ⟨f, hf, hfn, hfm⟩ := dhas_get ok.rise hh
        rw [pl_get hf]
        simp only
        by_cases hlt : f.sure < f.bytes.length
        · have hlt' : f.pl.sure < f.pl.bytes.length := hlt
          rw [if_pos hlt']
          refine (rename_stay h ok n t hp hm hh hf (.inl hlt)).mono ?_
          rintro e w' ⟨rfl, h1, s1⟩
          rw [if_pos hlt]
          exact ⟨rfl, d.spent, h1, rfl, s1⟩
        · have hlt' : ¬ f.pl.sure < f.pl.bytes.length := hlt
          rw [if_neg hlt']
          by_cases hc : cmp n t = 0
          · rw [if_pos hc]
            refine (rename_stay h ok n t hp hm hh hf (.inr hc)).mono ?_
            rintro e w' ⟨rfl, h1, s1⟩
            rw [if_neg hlt]
            exact ⟨rfl, d.spent, h1, rfl, s1⟩
          · rw [if_neg hc, drop_names hf]
            cases ht : has ((d.files.eraseIdx (place d.names n)).map Fv.name) t with
            | false => exact rename_free h ok n t hp hm hh hf hlt hc ht
            | true => exact rename_over h ok n t hp hm hh hf hlt hc ht
end Go.Proofs.YtajjcfacbnicnaaGreatDoor.Dk

/-
  One deed, done to both.
-/
namespace Go.Proofs.YtajjcfacbnicnaaGreatDoor.Dk
open Go.RowKit
set_option maxRecDepth 100000

/-- A disk of each, alike, in one memory. -/
structure Both (w : World) (B b c : Nat) (d : Ds) (r : Rs) : Prop where
  rep : Rep w B b d
  rrep : RRep w B c r
  ok : Ok d.pl
  rel : ∃ T, Rel d.pl r.pl T
  apart : ∀ k ∈ d.foot b, k ∉ r.foot c

theorem Both.below {w w' : World} {B b c : Nat} {d : Ds} {r : Rs} (h : Both w B b c d r) (hb : Below w.heap.size w w') : Both w' B b c d r := ⟨h.rep.below hb, h.rrep.below hb, h.ok, h.rel, h.apart⟩
theorem Both.rok {w : World} {B b c : Nat} {d : Ds} {r : Rs} (h : Both w B b c d r) (hc : r.count ≤ 1000000) : ROk r.pl := by
  obtain ⟨T, hT⟩ := h.rel
  exact hT.ok h.ok hc
theorem Both.rise {w : World} {B b c : Nat} {d : Ds} {r : Rs} (h : Both w B b c d r) : Rising r.names := by
  obtain ⟨T, hT⟩ := h.rel
  rw [← rnames_pl, hT.nm]
  exact h.ok.rising

/-- The program's disk has gone a step: the document's stays. -/
theorem rrep_kept {w w1 : World} {B b c : Nat} {d d' : Ds} {r : Rs} (hr : RRep w B c r) (ha : ∀ k ∈ d.foot b, k ∉ r.foot c) (hs : Step (d.foot b) (d'.foot b) w w1) : RRep w1 B c r ∧ ∀ k ∈ d'.foot b, k ∉ r.foot c := by
  refine ⟨hr.frame fun k hk => hs.block k (hr.lt k hk).2 (fun hm => ha k hm hk), fun k hk hm => ?_⟩
  rcases hs.sub k hk with e | e
  · exact ha k e hm
  · have := (hr.lt k hm).2
    omega
theorem rep_kept {w w1 : World} {B b c : Nat} {d : Ds} {r r' : Rs} (hr : Rep w B b d) (ha : ∀ k ∈ d.foot b, k ∉ r.foot c) (hs : Step (r.foot c) (r'.foot c) w w1) : Rep w1 B b d ∧ ∀ k ∈ d.foot b, k ∉ r'.foot c := by
  refine ⟨hr.frame fun k hk => hs.block k (hr.lt k hk).2 (fun hm => ha k hk hm), fun k hk hm => ?_⟩
  rcases hs.sub k hm with e | e
  · exact ha k hk e
  · have := (hr.lt k hk).2
    omega
theorem Step.frameL {a c : List Nat} {u w : World} (h : Step a c u w) (e : List Nat) : Step (e ++ a) (e ++ c) u w where
  os := h.os
  tape := h.tape
  output := h.output
  size := h.size
  block := fun k hk hn => h.block k hk (fun hm => hn (List.mem_append_right _ hm))
  sub := fun k hk => by
    rcases List.mem_append.1 hk with hk | hk
    · exact .inl (List.mem_append_left _ hk)
    · rcases h.sub k hk with e | e
      · exact .inl (List.mem_append_right _ e)
      · exact .inr e

/-- What is behind a deed. -/
def Done (w : World) (B b c : Nat) (d : Ds) (r : Rs) (w' : World) : Prop := ∃ d' r', Both w' B b c d' r' ∧ r'.count ≤ r.count + 101 ∧ Step (d.foot b ++ r.foot c) (d'.foot b ++ r'.foot c) w w'

theorem done_of {w w1 w2 : World} {B b c : Nat} {d d' : Ds} {r r' : Rs} (h : Both w B b c d r) (h1 : Rep w1 B b d') (s1 : Step (d.foot b) (d'.foot b) w w1) (h2 : RRep w2 B c r') (s2 : Step (r.foot c) (r'.foot c) w1 w2) (ok : Ok d'.pl) (rel : ∃ T, Rel d'.pl r'.pl T) (hc : r'.count ≤ r.count + 101) : Done w B b c d r w2 := by
  obtain ⟨_, a1⟩ := rrep_kept h.rrep h.apart s1
  obtain ⟨h3, a2⟩ := rep_kept h1 a1 s2
  exact ⟨d', r', ⟨h3, h2, ok, rel, a2⟩, hc, (s1.frame (r.foot c)).trans (s2.frameL (d'.foot b))⟩

theorem Done.from {w w1 w' : World} {B b c : Nat} {d : Ds} {r : Rs} (hb : Below w.heap.size w w1) (h : Done w1 B b c d r w') : Done w B b c d r w' := by
  obtain ⟨d', r', a, b', s⟩ := h
  exact ⟨d', r', a, b', (Step.ofBelow hb).trans s⟩

/-- A deed, as its six cells. -/
structure Dd where
  kind : Int
  name : ByteArray
  s : ByteArray
  n : Int
  m : Int
  by_ : Int
def Dd.cells (x : Dd) : Array Value := #[.int .u8 x.kind, .string x.name, .string x.s, .int .i64 x.n, .int .i64 x.m, .int .i64 x.by_]

theorem dd_cells {w : World} {X : Nat} {x : Dd} (h : w.heap[X]? = some (.cells x.cells 48 (0, 0))) : w.cell? ⟨X, 0, none⟩ = some (.int .u8 x.kind) ∧ w.cell? ⟨X, 1, none⟩ = some (.string x.name) ∧ w.cell? ⟨X, 2, none⟩ = some (.string x.s) ∧ w.cell? ⟨X, 3, none⟩ = some (.int .i64 x.n) ∧ w.cell? ⟨X, 4, none⟩ = some (.int .i64 x.m) ∧ w.cell? ⟨X, 5, none⟩ = some (.int .i64 x.by_) :=
  ⟨by rw [cell_of_row w X 0 _ _ _ h]; rfl, by rw [cell_of_row w X 1 _ _ _ h]; rfl, by rw [cell_of_row w X 2 _ _ _ h]; rfl, by rw [cell_of_row w X 3 _ _ _ h]; rfl, by rw [cell_of_row w X 4 _ _ _ h]; rfl, by rw [cell_of_row w X 5 _ _ _ h]; rfl⟩

/-- The calls' contracts, told of any memory in which the disk lies; the deed's block stays. -/
def KL (B b X : Nat) (d : Ds) (f : Nat) (args : Array Value) (a : Value) (s : St) (c : Array Value) : Prop := ∀ u : World, Rep u B b d → u.heap[X]? = some (.cells c 48 (0, 0)) → X ∉ d.foot b → Calls Tryz.prog f args u fun e w' => e = .returned a ∧ w'.heap[X]? = some (.cells c 48 (0, 0)) ∧ ∃ d', Rep w' B b d' ∧ d'.pl = s ∧ Step (d.foot b) (d'.foot b) u w'
theorem KL.of {B b X : Nat} {d : Ds} {f : Nat} {args : Array Value} {a : Value} {s : St} {c : Array Value} (h : ∀ u : World, Rep u B b d → Calls Tryz.prog f args u fun e w' => e = .returned a ∧ ∃ d', Rep w' B b d' ∧ d'.pl = s ∧ Step (d.foot b) (d'.foot b) u w') : KL B b X d f args a s c := fun u hu hX hn => (h u hu).mono fun _ _ ⟨he, d', h1, h2, h3⟩ =>
  ⟨he, (h3.block X (Array.getElem?_eq_some_iff.1 hX).1 hn).trans hX, d', h1, h2, h3⟩
def KR (B b X : Nat) (d : Rs) (f : Nat) (args : Array Value) (a : Value) (s : RS) (c : Array Value) : Prop := ∀ u : World, RRep u B b d → u.heap[X]? = some (.cells c 48 (0, 0)) → X ∉ d.foot b → Calls Tryz.prog f args u fun e w' => e = .returned a ∧ w'.heap[X]? = some (.cells c 48 (0, 0)) ∧ ∃ d', RRep w' B b d' ∧ d'.pl = s ∧ Step (d.foot b) (d'.foot b) u w'
theorem KR.of {B b X : Nat} {d : Rs} {f : Nat} {args : Array Value} {a : Value} {s : RS} {c : Array Value} (h : ∀ u : World, RRep u B b d → Calls Tryz.prog f args u fun e w' => e = .returned a ∧ ∃ d', RRep w' B b d' ∧ d'.pl = s ∧ Step (d.foot b) (d'.foot b) u w') : KR B b X d f args a s c := fun u hu hX hn => (h u hu).mono fun _ _ ⟨he, d', h1, h2, h3⟩ =>
  ⟨he, (h3.block X (Array.getElem?_eq_some_iff.1 hX).1 hn).trans hX, d', h1, h2, h3⟩

theorem count_pl (r : Rs) : r.pl.count = r.count := rfl

/-- What both calls of a deed need, and give. -/
structure Pair (w : World) (B b c : Nat) (d : Ds) (r : Rs) (x : Dd) (f g : Nat) (af ag : Array Value) (a : Value) (s : St) (q : RS) : Prop where
  both : Both (w.alloc (.cells x.cells 48)) B b c d r
  kl : KL B b w.heap.size d f af a s x.cells
  kr : KR B c w.heap.size r g ag a q x.cells
  ok : Ok s
  rel : ∃ T, Rel s q T
  cnt : q.count ≤ r.count + 101
  nl : w.heap.size ∉ d.foot b
  nr : w.heap.size ∉ r.foot c

theorem Pair.done {w w1 w2 : World} {B b c : Nat} {d d' : Ds} {r r' : Rs} {x : Dd} {f g : Nat} {af ag : Array Value} {a : Value} {s : St} {q : RS} (p : Pair w B b c d r x f g af ag a s q) (h1 : Rep w1 B b d') (e1 : d'.pl = s) (s1 : Step (d.foot b) (d'.foot b) (w.alloc (.cells x.cells 48)) w1) (h2 : RRep w2 B c r') (e2 : r'.pl = q) (s2 : Step (r.foot c) (r'.foot c) w1 w2) : Done w B b c d r w2 :=
  Done.from ((Below.refl _ _).alloc (Nat.le_refl _) _) (done_of p.both h1 s1 h2 s2 (e1 ▸ p.ok) (e1 ▸ e2 ▸ p.rel) (by rw [← count_pl, e2]; exact p.cnt))

theorem pair_of {w : World} {B b c : Nat} {d : Ds} {r : Rs} (h : Both w B b c d r) (x : Dd) {f g : Nat} {af ag : Array Value} {a : Value} {s : St} {q : RS}
    (hl : ∀ u : World, Rep u B b d → Calls Tryz.prog f af u fun e w' => e = .returned a ∧ ∃ d', Rep w' B b d' ∧ d'.pl = s ∧ Step (d.foot b) (d'.foot b) u w')
    (hr : ∀ u : World, RRep u B c r → Calls Tryz.prog g ag u fun e w' => e = .returned a ∧ ∃ d', RRep w' B c d' ∧ d'.pl = q ∧ Step (r.foot c) (d'.foot c) u w')
    (ok : Ok s) (rel : ∃ T, Rel s q T) (cnt : q.count ≤ r.count + 101) : Pair w B b c d r x f g af ag a s q :=
  ⟨h.below ((Below.refl _ _).alloc (Nat.le_refl _) _), KL.of hl, KR.of hr, ok, rel, cnt, fun hm => by have := (h.rep.lt _ hm).2; omega, fun hm => by have := (h.rrep.lt _ hm).2; omega⟩

theorem pair_append {w : World} {B b c : Nat} {d : Ds} {r : Rs} (h : Both w B b c d r) (x : Dd) (hc : r.count ≤ 100000) (hn : x.name.size ≤ 101) (hs : x.s.size ≤ 101) (_hN : x.n ≤ 9223372036854775807) :
    Pair w B b c d r x 33 34 #[.pointer (some ⟨b, 0, none⟩), .string x.name, .string x.s] #[.pointer (some ⟨c, 0, none⟩), .string x.name, .string x.s] (.int .i64 (opAppend d.pl x.name x.s).1) (opAppend d.pl x.name x.s).2 (rAppend r.pl x.name x.s).2 := by
  obtain ⟨T, hT⟩ := h.rel
  obtain ⟨e, T', h1, h2⟩ := hT.append h.ok x.name x.s
  refine pair_of h x (fun u hu => append_any hu h.ok _ _) (fun u hu => ?_) (h.ok.opAppend _ _) ⟨T', h1⟩ (by rw [count_pl] at h2; omega)
  have := rappend_any hu (h.rok (by omega)) h.rise x.name x.s (by omega) (by omega) (by omega)
  rw [e] at this
  exact this

theorem pair_sync {w : World} {B b c : Nat} {d : Ds} {r : Rs} (h : Both w B b c d r) (x : Dd) (hc : r.count ≤ 100000) (_hn : x.name.size ≤ 101) (_hs : x.s.size ≤ 101) (_hN : x.n ≤ 9223372036854775807) :
    Pair w B b c d r x 49 52 #[.pointer (some ⟨b, 0, none⟩), .string x.name] #[.pointer (some ⟨c, 0, none⟩), .string x.name] (.int .i64 (opSync d.pl x.name).1) (opSync d.pl x.name).2 (rSync r.pl x.name).2 := by
  obtain ⟨T, hT⟩ := h.rel
  obtain ⟨e, T', h1, h2⟩ := hT.sync h.ok x.name
  refine pair_of h x (fun u hu => sync_any hu h.ok _) (fun u hu => ?_) (h.ok.opSync _) ⟨T', h1⟩ (by rw [h2, count_pl]; omega)
  have := rsync_any hu (h.rok (by omega)) x.name
  rw [e] at this
  exact this

theorem pair_cut {w : World} {B b c : Nat} {d : Ds} {r : Rs} (h : Both w B b c d r) (x : Dd) (hc : r.count ≤ 100000) (_hn : x.name.size ≤ 101) (_hs : x.s.size ≤ 101) (_hN : x.n ≤ 9223372036854775807) :
    Pair w B b c d r x 56 44 #[.pointer (some ⟨b, 0, none⟩), .string x.name, .int .i64 x.n] #[.pointer (some ⟨c, 0, none⟩), .string x.name, .int .i64 x.n] (.int .i64 (opCut d.pl x.name x.n).1) (opCut d.pl x.name x.n).2 (rCut r.pl x.name x.n).2 := by
  obtain ⟨T, hT⟩ := h.rel
  obtain ⟨e, T', h1, h2⟩ := hT.cut h.ok x.name x.n
  refine pair_of h x (fun u hu => cut_any hu h.ok _ _) (fun u hu => ?_) (h.ok.opCut _ _) ⟨T', h1⟩ (by rw [h2, count_pl]; omega)
  have := rcut_any hu (h.rok (by omega)) x.name x.n
  rw [e] at this
  exact this

theorem pair_rename {w : World} {B b c : Nat} {d : Ds} {r : Rs} (h : Both w B b c d r) (x : Dd) (hc : r.count ≤ 100000) (_hn : x.name.size ≤ 101) (hs : x.s.size ≤ 101) (_hN : x.n ≤ 9223372036854775807) :
    Pair w B b c d r x 57 58 #[.pointer (some ⟨b, 0, none⟩), .string x.name, .string x.s] #[.pointer (some ⟨c, 0, none⟩), .string x.name, .string x.s] (.int .i64 (opRename d.pl x.name x.s).1) (opRename d.pl x.name x.s).2 (rRename r.pl x.name x.s).2 := by
  obtain ⟨T, hT⟩ := h.rel
  obtain ⟨e, T', h1, h2⟩ := hT.rename h.ok x.name x.s
  refine pair_of h x (fun u hu => rename_any hu h.ok _ _) (fun u hu => ?_) (h.ok.opRename _ _) ⟨T', h1⟩ (by rw [h2, count_pl]; omega)
  have := rrename_any hu (h.rok (by omega)) h.rise x.name x.s (by omega)
  rw [e] at this
  exact this

theorem pair_remove {w : World} {B b c : Nat} {d : Ds} {r : Rs} (h : Both w B b c d r) (x : Dd) (hc : r.count ≤ 100000) (_hn : x.name.size ≤ 101) (_hs : x.s.size ≤ 101) (_hN : x.n ≤ 9223372036854775807) :
    Pair w B b c d r x 59 60 #[.pointer (some ⟨b, 0, none⟩), .string x.name] #[.pointer (some ⟨c, 0, none⟩), .string x.name] (.int .i64 (opRemove d.pl x.name).1) (opRemove d.pl x.name).2 (rRemove r.pl x.name).2 := by
  obtain ⟨T, hT⟩ := h.rel
  obtain ⟨e, T', h1, h2⟩ := hT.remove h.ok x.name
  refine pair_of h x (fun u hu => remove_any hu h.ok _) (fun u hu => ?_) (h.ok.opRemove _) ⟨T', h1⟩ (by rw [h2, count_pl]; omega)
  have := rremove_any hu (h.rok (by omega)) x.name
  rw [e] at this
  exact this

theorem pair_rot {w : World} {B b c : Nat} {d : Ds} {r : Rs} (h : Both w B b c d r) (x : Dd) (hc : r.count ≤ 100000) (_hn : x.name.size ≤ 101) (_hs : x.s.size ≤ 101) (_hN : x.n ≤ 9223372036854775807) :
    Pair w B b c d r x 28 61 #[.pointer (some ⟨b, 0, none⟩), .int .i64 x.n, .int .i64 x.m, .int .i64 x.by_] #[.pointer (some ⟨c, 0, none⟩), .int .i64 x.n, .int .i64 x.m, .int .i64 x.by_] (.bool (opRot d.pl x.n x.m x.by_).1) (opRot d.pl x.n x.m x.by_).2 (rRot r.pl x.n x.m x.by_).2 := by
  obtain ⟨T, hT⟩ := h.rel
  obtain ⟨e, h1, h2⟩ := hT.rot h.ok x.n x.m x.by_
  refine pair_of h x (fun u hu => rot_any hu h.ok _ _ _) (fun u hu => ?_) (h.ok.opRot _ _ _) ⟨T, h1⟩ (by rw [h2, count_pl]; omega)
  have := rrot_any hu (h.rok (by omega)) h.rise x.n x.m x.by_
  rw [e] at this
  exact this

theorem pair_crash {w : World} {B b c : Nat} {d : Ds} {r : Rs} (h : Both w B b c d r) (x : Dd) (hc : r.count ≤ 100000) (_hn : x.name.size ≤ 101) (_hs : x.s.size ≤ 101) (hN : x.n ≤ 9223372036854775807) :
    Pair w B b c d r x 17 18 #[.pointer (some ⟨b, 0, none⟩), .int .i64 x.n] #[.pointer (some ⟨c, 0, none⟩), .int .i64 x.n] (.tuple #[]) (opCrash d.pl x.n) (rCrash r.pl x.n) := by
  obtain ⟨T, hT⟩ := h.rel
  have h1 := hT.crash h.ok x.n
  refine pair_of h x (fun u hu => crash_any hu h.ok _ hN) (fun u hu => ?_) (h.ok.opCrash _) ⟨[], h1⟩ (Nat.le_add_right _ _)
  exact rcrash_any hu (h.rok (by omega)) x.n

theorem pair_room {w : World} {B b c : Nat} {d : Ds} {r : Rs} (h : Both w B b c d r) (x : Dd) (_hc : r.count ≤ 100000) (_hn : x.name.size ≤ 101) (_hs : x.s.size ≤ 101) (_hN : x.n ≤ 9223372036854775807) :
    Pair w B b c d r x 27 35 #[.pointer (some ⟨b, 0, none⟩), .int .i64 x.n] #[.pointer (some ⟨c, 0, none⟩), .int .i64 x.n] (.tuple #[]) (opRoom d.pl x.n) (rRoom r.pl x.n) := by
  obtain ⟨T, hT⟩ := h.rel
  have h1 := hT.room x.n
  refine pair_of h x (fun u hu => room_any hu _) (fun u hu => ?_) (h.ok.opRoom _) ⟨T, h1⟩ (Nat.le_add_right _ _)
  exact rroom_any hu x.n

theorem pair_fuse {w : World} {B b c : Nat} {d : Ds} {r : Rs} (h : Both w B b c d r) (x : Dd) (_hc : r.count ≤ 100000) (_hn : x.name.size ≤ 101) (_hs : x.s.size ≤ 101) (hN : x.n ≤ 9223372036854775807) :
    Pair w B b c d r x 26 62 #[.pointer (some ⟨b, 0, none⟩), .int .i64 x.n] #[.pointer (some ⟨c, 0, none⟩), .int .i64 x.n] (.tuple #[]) (opFuse d.pl x.n) (rFuse r.pl x.n) := by
  obtain ⟨T, hT⟩ := h.rel
  have h1 := hT.fuse x.n
  refine pair_of h x (fun u hu => fuse_any hu _) (fun u hu => ?_) (h.ok.opFuse hN) ⟨T, h1⟩ (by unfold rFuse; split <;> exact Nat.le_add_right _ _)
  exact rfuse_any hu x.n

set_option maxHeartbeats 1000000 in
theorem do_append0 {w : World} {B b c : Nat} {d : Ds} {r : Rs} (h : Both w B b c d r) (x : Dd) (hk : x.kind % 10 = 0) (hk0 : 0 ≤ x.kind) (hk1 : x.kind ≤ 255) (hc : r.count ≤ 100000) (hn : x.name.size ≤ 101) (hs : x.s.size ≤ 101) (hN : x.n ≤ 9223372036854775807) :
    Calls Tryz.prog 20 #[.pointer (some ⟨b, 0, none⟩), .pointer (some ⟨c, 0, none⟩), .agg x.cells] w fun e w' => e = .returned (.bool true) ∧ Done w B b c d r w' := by
  have P := pair_append h x hc hn hs hN
  have qA : ((opAppend d.pl x.name x.s).1 == (opAppend d.pl x.name x.s).1) = true := beq_self_eq_true _
  generalize (opAppend d.pl x.name x.s).1 = A at *
  have P' : Aside _ := P
  clear h hc P
  unfold Dd.cells
  go_enter Tryz.func20, Tryz.ntmps20
  go_wp2
  go_region_held3 (fun u => u.cell? ⟨w.heap.size, 1, none⟩ = some (.string x.name) ∧ u.cell? ⟨w.heap.size, 2, none⟩ = some (.string x.s)) (go_keep) ((first
    | (go_at_call 33; refine (P'.out.kl (w.alloc (.cells x.cells 48)).drew (P'.out.both.rep.frame fun _ _ => rfl) (heap_alloc_new w _) P'.out.nl).mono ?_; rintro e w1 ⟨rfl, hX1, d', h1, e1, s1⟩; obtain ⟨_, z1, z2, z3, z4, z5⟩ := dd_cells hX1)
    | (go_at_call 34; refine (P'.out.kr _ (rrep_kept P'.out.both.rrep P'.out.both.apart s1.undrew).1 hX1 P'.out.nr).mono ?_; rintro e w2 ⟨rfl, hX2, r', h2, e2, s2⟩; obtain ⟨_, y1, y2, y3, y4, y5⟩ := dd_cells hX2)))
  go_wp2
  go_ret
  exact ⟨rfl, P'.out.done h1 e1 s1.undrew h2 e2 s2⟩

set_option maxHeartbeats 1000000 in
theorem do_append1 {w : World} {B b c : Nat} {d : Ds} {r : Rs} (h : Both w B b c d r) (x : Dd) (hk : x.kind % 10 = 1) (hk0 : 0 ≤ x.kind) (hk1 : x.kind ≤ 255) (hc : r.count ≤ 100000) (hn : x.name.size ≤ 101) (hs : x.s.size ≤ 101) (hN : x.n ≤ 9223372036854775807) :
    Calls Tryz.prog 20 #[.pointer (some ⟨b, 0, none⟩), .pointer (some ⟨c, 0, none⟩), .agg x.cells] w fun e w' => e = .returned (.bool true) ∧ Done w B b c d r w' := by
  have P := pair_append h x hc hn hs hN
  have qA : ((opAppend d.pl x.name x.s).1 == (opAppend d.pl x.name x.s).1) = true := beq_self_eq_true _
  generalize (opAppend d.pl x.name x.s).1 = A at *
  have P' : Aside _ := P
  clear h hc P
  unfold Dd.cells
  go_enter Tryz.func20, Tryz.ntmps20
  go_wp2
  go_region_held3 (fun u => u.cell? ⟨w.heap.size, 1, none⟩ = some (.string x.name) ∧ u.cell? ⟨w.heap.size, 2, none⟩ = some (.string x.s)) (go_keep) ((first
    | (go_at_call 33; refine (P'.out.kl (w.alloc (.cells x.cells 48)).drew (P'.out.both.rep.frame fun _ _ => rfl) (heap_alloc_new w _) P'.out.nl).mono ?_; rintro e w1 ⟨rfl, hX1, d', h1, e1, s1⟩; obtain ⟨_, z1, z2, z3, z4, z5⟩ := dd_cells hX1)
    | (go_at_call 34; refine (P'.out.kr _ (rrep_kept P'.out.both.rrep P'.out.both.apart s1.undrew).1 hX1 P'.out.nr).mono ?_; rintro e w2 ⟨rfl, hX2, r', h2, e2, s2⟩; obtain ⟨_, y1, y2, y3, y4, y5⟩ := dd_cells hX2)))
  go_wp2
  go_ret
  exact ⟨rfl, P'.out.done h1 e1 s1.undrew h2 e2 s2⟩

set_option maxHeartbeats 1000000 in
theorem do_sync {w : World} {B b c : Nat} {d : Ds} {r : Rs} (h : Both w B b c d r) (x : Dd) (hk : x.kind % 10 = 2) (hk0 : 0 ≤ x.kind) (hk1 : x.kind ≤ 255) (hc : r.count ≤ 100000) (hn : x.name.size ≤ 101) (hs : x.s.size ≤ 101) (hN : x.n ≤ 9223372036854775807) :
    Calls Tryz.prog 20 #[.pointer (some ⟨b, 0, none⟩), .pointer (some ⟨c, 0, none⟩), .agg x.cells] w fun e w' => e = .returned (.bool true) ∧ Done w B b c d r w' := by
  have P := pair_sync h x hc hn hs hN
  have qA : ((opSync d.pl x.name).1 == (opSync d.pl x.name).1) = true := beq_self_eq_true _
  generalize (opSync d.pl x.name).1 = A at *
  have P' : Aside _ := P
  clear h hc P
  unfold Dd.cells
  go_enter Tryz.func20, Tryz.ntmps20
  go_wp2
  go_region_held3 (fun u => u.cell? ⟨w.heap.size, 1, none⟩ = some (.string x.name)) (go_keep) ((first
    | (go_at_call 49; refine (P'.out.kl (w.alloc (.cells x.cells 48)).drew (P'.out.both.rep.frame fun _ _ => rfl) (heap_alloc_new w _) P'.out.nl).mono ?_; rintro e w1 ⟨rfl, hX1, d', h1, e1, s1⟩; obtain ⟨_, z1, z2, z3, z4, z5⟩ := dd_cells hX1)
    | (go_at_call 52; refine (P'.out.kr _ (rrep_kept P'.out.both.rrep P'.out.both.apart s1.undrew).1 hX1 P'.out.nr).mono ?_; rintro e w2 ⟨rfl, hX2, r', h2, e2, s2⟩; obtain ⟨_, y1, y2, y3, y4, y5⟩ := dd_cells hX2)))
  go_wp2
  go_ret
  exact ⟨rfl, P'.out.done h1 e1 s1.undrew h2 e2 s2⟩

set_option maxHeartbeats 1000000 in
theorem do_cut {w : World} {B b c : Nat} {d : Ds} {r : Rs} (h : Both w B b c d r) (x : Dd) (hk : x.kind % 10 = 3) (hk0 : 0 ≤ x.kind) (hk1 : x.kind ≤ 255) (hc : r.count ≤ 100000) (hn : x.name.size ≤ 101) (hs : x.s.size ≤ 101) (hN : x.n ≤ 9223372036854775807) :
    Calls Tryz.prog 20 #[.pointer (some ⟨b, 0, none⟩), .pointer (some ⟨c, 0, none⟩), .agg x.cells] w fun e w' => e = .returned (.bool true) ∧ Done w B b c d r w' := by
  have P := pair_cut h x hc hn hs hN
  have qA : ((opCut d.pl x.name x.n).1 == (opCut d.pl x.name x.n).1) = true := beq_self_eq_true _
  generalize (opCut d.pl x.name x.n).1 = A at *
  have P' : Aside _ := P
  clear h hc P
  unfold Dd.cells
  go_enter Tryz.func20, Tryz.ntmps20
  go_wp2
  go_region_held3 (fun u => u.cell? ⟨w.heap.size, 1, none⟩ = some (.string x.name) ∧ u.cell? ⟨w.heap.size, 3, none⟩ = some (.int .i64 x.n)) (go_keep) ((first
    | (go_at_call 56; refine (P'.out.kl (w.alloc (.cells x.cells 48)).drew (P'.out.both.rep.frame fun _ _ => rfl) (heap_alloc_new w _) P'.out.nl).mono ?_; rintro e w1 ⟨rfl, hX1, d', h1, e1, s1⟩; obtain ⟨_, z1, z2, z3, z4, z5⟩ := dd_cells hX1)
    | (go_at_call 44; refine (P'.out.kr _ (rrep_kept P'.out.both.rrep P'.out.both.apart s1.undrew).1 hX1 P'.out.nr).mono ?_; rintro e w2 ⟨rfl, hX2, r', h2, e2, s2⟩; obtain ⟨_, y1, y2, y3, y4, y5⟩ := dd_cells hX2)))
  go_wp2
  go_ret
  exact ⟨rfl, P'.out.done h1 e1 s1.undrew h2 e2 s2⟩

set_option maxHeartbeats 1000000 in
theorem do_rename {w : World} {B b c : Nat} {d : Ds} {r : Rs} (h : Both w B b c d r) (x : Dd) (hk : x.kind % 10 = 4) (hk0 : 0 ≤ x.kind) (hk1 : x.kind ≤ 255) (hc : r.count ≤ 100000) (hn : x.name.size ≤ 101) (hs : x.s.size ≤ 101) (hN : x.n ≤ 9223372036854775807) :
    Calls Tryz.prog 20 #[.pointer (some ⟨b, 0, none⟩), .pointer (some ⟨c, 0, none⟩), .agg x.cells] w fun e w' => e = .returned (.bool true) ∧ Done w B b c d r w' := by
  have P := pair_rename h x hc hn hs hN
  have qA : ((opRename d.pl x.name x.s).1 == (opRename d.pl x.name x.s).1) = true := beq_self_eq_true _
  generalize (opRename d.pl x.name x.s).1 = A at *
  have P' : Aside _ := P
  clear h hc P
  unfold Dd.cells
  go_enter Tryz.func20, Tryz.ntmps20
  go_wp2
  go_region_held3 (fun u => u.cell? ⟨w.heap.size, 1, none⟩ = some (.string x.name) ∧ u.cell? ⟨w.heap.size, 2, none⟩ = some (.string x.s)) (go_keep) ((first
    | (go_at_call 57; refine (P'.out.kl (w.alloc (.cells x.cells 48)).drew (P'.out.both.rep.frame fun _ _ => rfl) (heap_alloc_new w _) P'.out.nl).mono ?_; rintro e w1 ⟨rfl, hX1, d', h1, e1, s1⟩; obtain ⟨_, z1, z2, z3, z4, z5⟩ := dd_cells hX1)
    | (go_at_call 58; refine (P'.out.kr _ (rrep_kept P'.out.both.rrep P'.out.both.apart s1.undrew).1 hX1 P'.out.nr).mono ?_; rintro e w2 ⟨rfl, hX2, r', h2, e2, s2⟩; obtain ⟨_, y1, y2, y3, y4, y5⟩ := dd_cells hX2)))
  go_wp2
  go_ret
  exact ⟨rfl, P'.out.done h1 e1 s1.undrew h2 e2 s2⟩

set_option maxHeartbeats 1000000 in
theorem do_remove {w : World} {B b c : Nat} {d : Ds} {r : Rs} (h : Both w B b c d r) (x : Dd) (hk : x.kind % 10 = 5) (hk0 : 0 ≤ x.kind) (hk1 : x.kind ≤ 255) (hc : r.count ≤ 100000) (hn : x.name.size ≤ 101) (hs : x.s.size ≤ 101) (hN : x.n ≤ 9223372036854775807) :
    Calls Tryz.prog 20 #[.pointer (some ⟨b, 0, none⟩), .pointer (some ⟨c, 0, none⟩), .agg x.cells] w fun e w' => e = .returned (.bool true) ∧ Done w B b c d r w' := by
  have P := pair_remove h x hc hn hs hN
  have qA : ((opRemove d.pl x.name).1 == (opRemove d.pl x.name).1) = true := beq_self_eq_true _
  generalize (opRemove d.pl x.name).1 = A at *
  have P' : Aside _ := P
  clear h hc P
  unfold Dd.cells
  go_enter Tryz.func20, Tryz.ntmps20
  go_wp2
  go_region_held3 (fun u => u.cell? ⟨w.heap.size, 1, none⟩ = some (.string x.name)) (go_keep) ((first
    | (go_at_call 59; refine (P'.out.kl (w.alloc (.cells x.cells 48)).drew (P'.out.both.rep.frame fun _ _ => rfl) (heap_alloc_new w _) P'.out.nl).mono ?_; rintro e w1 ⟨rfl, hX1, d', h1, e1, s1⟩; obtain ⟨_, z1, z2, z3, z4, z5⟩ := dd_cells hX1)
    | (go_at_call 60; refine (P'.out.kr _ (rrep_kept P'.out.both.rrep P'.out.both.apart s1.undrew).1 hX1 P'.out.nr).mono ?_; rintro e w2 ⟨rfl, hX2, r', h2, e2, s2⟩; obtain ⟨_, y1, y2, y3, y4, y5⟩ := dd_cells hX2)))
  go_wp2
  go_ret
  exact ⟨rfl, P'.out.done h1 e1 s1.undrew h2 e2 s2⟩

set_option maxHeartbeats 1000000 in
theorem do_rot {w : World} {B b c : Nat} {d : Ds} {r : Rs} (h : Both w B b c d r) (x : Dd) (hk : x.kind % 10 = 8) (hk0 : 0 ≤ x.kind) (hk1 : x.kind ≤ 255) (hc : r.count ≤ 100000) (hn : x.name.size ≤ 101) (hs : x.s.size ≤ 101) (hN : x.n ≤ 9223372036854775807) :
    Calls Tryz.prog 20 #[.pointer (some ⟨b, 0, none⟩), .pointer (some ⟨c, 0, none⟩), .agg x.cells] w fun e w' => e = .returned (.bool true) ∧ Done w B b c d r w' := by
  have P := pair_rot h x hc hn hs hN
  have qA : ((opRot d.pl x.n x.m x.by_).1 == (opRot d.pl x.n x.m x.by_).1) = true := beq_self_eq_true _
  generalize (opRot d.pl x.n x.m x.by_).1 = A at *
  have P' : Aside _ := P
  clear h hc P
  unfold Dd.cells
  go_enter Tryz.func20, Tryz.ntmps20
  go_wp2
  go_region_held3 (fun u => u.cell? ⟨w.heap.size, 3, none⟩ = some (.int .i64 x.n) ∧ u.cell? ⟨w.heap.size, 4, none⟩ = some (.int .i64 x.m) ∧ u.cell? ⟨w.heap.size, 5, none⟩ = some (.int .i64 x.by_)) (go_keep) ((first
    | (go_at_call 28; refine (P'.out.kl (w.alloc (.cells x.cells 48)).drew (P'.out.both.rep.frame fun _ _ => rfl) (heap_alloc_new w _) P'.out.nl).mono ?_; rintro e w1 ⟨rfl, hX1, d', h1, e1, s1⟩; obtain ⟨_, z1, z2, z3, z4, z5⟩ := dd_cells hX1)
    | (go_at_call 61; refine (P'.out.kr _ (rrep_kept P'.out.both.rrep P'.out.both.apart s1.undrew).1 hX1 P'.out.nr).mono ?_; rintro e w2 ⟨rfl, hX2, r', h2, e2, s2⟩; obtain ⟨_, y1, y2, y3, y4, y5⟩ := dd_cells hX2)))
  go_wp2
  go_ret
  exact ⟨rfl, P'.out.done h1 e1 s1.undrew h2 e2 s2⟩

set_option maxHeartbeats 1000000 in
theorem do_crash {w : World} {B b c : Nat} {d : Ds} {r : Rs} (h : Both w B b c d r) (x : Dd) (hk : x.kind % 10 = 6) (hk0 : 0 ≤ x.kind) (hk1 : x.kind ≤ 255) (hc : r.count ≤ 100000) (hn : x.name.size ≤ 101) (hs : x.s.size ≤ 101) (hN : x.n ≤ 9223372036854775807) :
    Calls Tryz.prog 20 #[.pointer (some ⟨b, 0, none⟩), .pointer (some ⟨c, 0, none⟩), .agg x.cells] w fun e w' => e = .returned (.bool true) ∧ Done w B b c d r w' := by
  have P := pair_crash h x hc hn hs hN
  have P' : Aside _ := P
  clear h hc P
  unfold Dd.cells
  go_enter Tryz.func20, Tryz.ntmps20
  go_wp2_with (first
    | (go_at_call 17; refine (P'.out.kl (w.alloc (.cells x.cells 48)) P'.out.both.rep (heap_alloc_new w _) P'.out.nl).mono ?_; rintro e w1 ⟨rfl, hX1, d', h1, e1, s1⟩; obtain ⟨_, z1, z2, z3, z4, z5⟩ := dd_cells hX1)
    | (go_at_call 18; refine (P'.out.kr _ (rrep_kept P'.out.both.rrep P'.out.both.apart s1).1 hX1 P'.out.nr).mono ?_; rintro e w2 ⟨rfl, hX2, r', h2, e2, s2⟩; obtain ⟨_, y1, y2, y3, y4, y5⟩ := dd_cells hX2))
  go_ret
  exact ⟨rfl, P'.out.done h1 e1 s1 h2 e2 s2⟩

set_option maxHeartbeats 1000000 in
theorem do_room {w : World} {B b c : Nat} {d : Ds} {r : Rs} (h : Both w B b c d r) (x : Dd) (hk : x.kind % 10 = 7) (hk0 : 0 ≤ x.kind) (hk1 : x.kind ≤ 255) (hc : r.count ≤ 100000) (hn : x.name.size ≤ 101) (hs : x.s.size ≤ 101) (hN : x.n ≤ 9223372036854775807) :
    Calls Tryz.prog 20 #[.pointer (some ⟨b, 0, none⟩), .pointer (some ⟨c, 0, none⟩), .agg x.cells] w fun e w' => e = .returned (.bool true) ∧ Done w B b c d r w' := by
  have P := pair_room h x hc hn hs hN
  have P' : Aside _ := P
  clear h hc P
  unfold Dd.cells
  go_enter Tryz.func20, Tryz.ntmps20
  go_wp2_with (first
    | (go_at_call 27; refine (P'.out.kl (w.alloc (.cells x.cells 48)) P'.out.both.rep (heap_alloc_new w _) P'.out.nl).mono ?_; rintro e w1 ⟨rfl, hX1, d', h1, e1, s1⟩; obtain ⟨_, z1, z2, z3, z4, z5⟩ := dd_cells hX1)
    | (go_at_call 35; refine (P'.out.kr _ (rrep_kept P'.out.both.rrep P'.out.both.apart s1).1 hX1 P'.out.nr).mono ?_; rintro e w2 ⟨rfl, hX2, r', h2, e2, s2⟩; obtain ⟨_, y1, y2, y3, y4, y5⟩ := dd_cells hX2))
  go_ret
  exact ⟨rfl, P'.out.done h1 e1 s1 h2 e2 s2⟩

set_option maxHeartbeats 1000000 in
theorem do_fuse {w : World} {B b c : Nat} {d : Ds} {r : Rs} (h : Both w B b c d r) (x : Dd) (hk : x.kind % 10 = 9) (hk0 : 0 ≤ x.kind) (hk1 : x.kind ≤ 255) (hc : r.count ≤ 100000) (hn : x.name.size ≤ 101) (hs : x.s.size ≤ 101) (hN : x.n ≤ 9223372036854775807) :
    Calls Tryz.prog 20 #[.pointer (some ⟨b, 0, none⟩), .pointer (some ⟨c, 0, none⟩), .agg x.cells] w fun e w' => e = .returned (.bool true) ∧ Done w B b c d r w' := by
  have P := pair_fuse h x hc hn hs hN
  have P' : Aside _ := P
  clear h hc P
  unfold Dd.cells
  go_enter Tryz.func20, Tryz.ntmps20
  go_wp2_with (first
    | (go_at_call 26; refine (P'.out.kl (w.alloc (.cells x.cells 48)) P'.out.both.rep (heap_alloc_new w _) P'.out.nl).mono ?_; rintro e w1 ⟨rfl, hX1, d', h1, e1, s1⟩; obtain ⟨_, z1, z2, z3, z4, z5⟩ := dd_cells hX1)
    | (go_at_call 62; refine (P'.out.kr _ (rrep_kept P'.out.both.rrep P'.out.both.apart s1).1 hX1 P'.out.nr).mono ?_; rintro e w2 ⟨rfl, hX2, r', h2, e2, s2⟩; obtain ⟨_, y1, y2, y3, y4, y5⟩ := dd_cells hX2))
  go_ret
  exact ⟨rfl, P'.out.done h1 e1 s1 h2 e2 s2⟩

theorem do_any {w : World} {B b c : Nat} {d : Ds} {r : Rs} (h : Both w B b c d r) (x : Dd) (hk0 : 0 ≤ x.kind) (hk1 : x.kind ≤ 255) (hc : r.count ≤ 100000) (hn : x.name.size ≤ 101) (hs : x.s.size ≤ 101) (hN : x.n ≤ 9223372036854775807) :
    Calls Tryz.prog 20 #[.pointer (some ⟨b, 0, none⟩), .pointer (some ⟨c, 0, none⟩), .agg x.cells] w fun e w' => e = .returned (.bool true) ∧ Done w B b c d r w' := by
  have hk : x.kind % 10 = 0 ∨ x.kind % 10 = 1 ∨ x.kind % 10 = 2 ∨ x.kind % 10 = 3 ∨ x.kind % 10 = 4 ∨ x.kind % 10 = 5 ∨ x.kind % 10 = 6 ∨ x.kind % 10 = 7 ∨ x.kind % 10 = 8 ∨ x.kind % 10 = 9 := by omega
  rcases hk with hk | hk | hk | hk | hk | hk | hk | hk | hk | hk
  · exact do_append0 h x hk hk0 hk1 hc hn hs hN
  · exact do_append1 h x hk hk0 hk1 hc hn hs hN
  · exact do_sync h x hk hk0 hk1 hc hn hs hN
  · exact do_cut h x hk hk0 hk1 hc hn hs hN
  · exact do_rename h x hk hk0 hk1 hc hn hs hN
  · exact do_remove h x hk hk0 hk1 hc hn hs hN
  · exact do_crash h x hk hk0 hk1 hc hn hs hN
  · exact do_room h x hk hk0 hk1 hc hn hs hN
  · exact do_rot h x hk hk0 hk1 hc hn hs hN
  · exact do_fuse h x hk hk0 hk1 hc hn hs hN
end Go.Proofs.YtajjcfacbnicnaaGreatDoor.Dk
