/-
  YtajjcfacbnicnaaGreatDoor: the texts T8, T9, one behind the other.
-/
import Derived.Test.YtajjcfacbnicnaaGreatDoorV23
import Derived.Test.YtajjcfacbnicnaaGreatDoorV11
import Derived.Deep.RegionHeld3
import Derived.WalkKit
import Derived.WalkSpells
import Derived.WalkLawsBesides
import Derived.Deep.LoopGhost
import Derived.Laws.Externs
import Derived.Below
import Derived.BigQuiet
import Derived.Deep.RegionWith
import Derived.OwnWalk
import Derived.Maps.AppendAt
import Derived.WalkSmall
import Derived.Test.YtajjcfacbnicnaaGreatDoorV18
/-
  Bytes, Sync.
-/
namespace Go.Proofs.YtajjcfacbnicnaaGreatDoor
open Go.RowKit
set_option maxRecDepth 100000
/-- How many bytes the segments have. -/
def lBytes (s : Dk.St) (f : Int) : Nat := ((nums s.names f).map fun n => (tx s n).size).sum
theorem sum_step (s : Dk.St) (l : List Int) {k : Nat} (h : k < l.length) : ((l.take (k + 1)).map fun n => (tx s n).size).sum = ((l.take k).map fun n => (tx s n).size).sum + (tx s l[k]).size := by
  rw [List.take_succ_eq_append_getElem h, List.map_append, List.sum_append]
  simp
theorem sum_le {s : Dk.Ds} (ok : Dk.Ok s.pl) (l : List Int) : ∀ k, k ≤ l.length → ((l.take k).map fun n => (tx s.pl n).size).sum ≤ 60000 * k
  | 0, _ => by simp
  | k + 1, h => by
    rw [sum_step s.pl l (by omega)]
    have := sum_le ok l k (by omega)
    have := lg_text_len ok l[k]
    omega
set_option maxHeartbeats 1000000 in
theorem lbytes_any {B l b : Nat} {f m : Int} {d : Dk.Ds} {w : World} (h : Sys B l b f m d w) :
    Calls Tryz.prog 24 #[.pointer (some ⟨l, 0, none⟩)] w fun e w' => e = .returned (.int .i64 (lBytes d.pl f : Nat)) ∧ Below w.heap.size w w' := by
  have k45 := none_any h.lg
  have k38 := numbers_any h
  have k71 := asd (fun (u : World) (n : Int) (hu : Below w.heap.size w u) => text_any (h.below hu) n)
  have hfew := nums_le (f := f) h.few
  have SL := asd (sum_le h.ok (nums d.names f))
  have EN : Aside (lBytes d.pl f = ((nums d.names f).map fun n => (tx d.pl n).size).sum) := by
    show _ = _
    unfold lBytes
    rw [Dk.names_pl]
  have TL := asd (fun n => lg_text_len h.ok n)
  clear h
  generalize lBytes d.pl f = R at *
  generalize nums d.names f = L at *
  go_enter Tryz.func24, Tryz.ntmps24
  go_wp2_with (first
    | (go_at_call 45; refine k45.mono ?_; rintro e w1 ⟨rfl, rfl⟩)
    | (go_at_call 38; refine k38.mono ?_; rintro e w2 ⟨v, rfl, hi, b2⟩; obtain ⟨a, c, rfl, hc⟩ := hi.form; have HC := asd hc; have B2 := asd b2; clear hi hc b2 k38))
  go_loopg [11, 3, 5] L.length (fun gh s11 s3 _ wr => ∃ k : Nat, L.length - k ≤ gh ∧ k ≤ L.length ∧ s11 = .int .i64 (k : Int) ∧ s3 = .int .i64 ((((L.take k).map fun n => (tx d.pl n).size).sum : Nat) : Int) ∧ Below w2.heap.size w2 wr)
  case atStart => exact ⟨0, by omega, by omega, rfl, by simp, Below.refl _ _⟩
  case round =>
    obtain ⟨k, hgh, hk, rfl, rfl, bw⟩ := hrel
    have BW := asd (B2.out.trans (bw.mono B2.out.size))
    by_cases hlt : k < L.length
    · have dk : decide (k < L.length) = true := by simpa using hlt
      obtain ⟨g, o, e1, k1⟩ := HC.out k hlt
      subst e1
      replace k1 := Dk.cell_below k1 bw
      have ST := asd (sum_step d.pl L hlt)
      have hsl := SL.out k (by omega)
      have htl := TL.out L[k]
      generalize L[k] = z at *
      generalize ((L.take k).map fun n => (tx d.pl n).size).sum = S at *
      have KT := k71.out _ z BW.out
      generalize tx d.pl z = X at *
      have BWK := asd bw
      clear bw
      go_wp2_with (go_at_call 71; refine KT.mono ?_; rintro e w3 ⟨rfl, b3⟩)
      go_roundg (L.length - (k + 1))
      case measure => omega
      case rel => exact ⟨k + 1, Nat.le_refl _, by omega, by go_num, by rw [ST.out]; go_num, BWK.out.trans (b3.mono BWK.out.size)⟩
    · obtain rfl : k = L.length := by omega
      have dk : decide (L.length < L.length) = false := by simp
      rw [List.take_length] at *
      go_wp2
      go_ret
      exact ⟨by rw [EN.out]; rfl, BW.out⟩
open Dk (takeH_to)
set_option maxHeartbeats 1000000 in
theorem lsync_any {B l b : Nat} {f m : Int} {d : Dk.Ds} {w : World} (h : Sys B l b f m d w) :
    Calls Tryz.prog 15 #[.pointer (some ⟨l, 0, none⟩)] w fun e w' => e = .returned (.int .i64 (lSync d.pl f).1) ∧ ∃ d', Sys B l b f m d' w' ∧ d'.pl = (lSync d.pl f).2 ∧ Dk.Step (d.foot b) (d'.foot b) w w' := by
  have k45 := none_any h.lg
  have k23 := llast_any h
  have k53 := asd (fun (u : World) (n : Int) (hu : Below w.heap.size w u) => there_any (h.below hu) n)
  have H := asd h
  unfold lSync
  clear h
  cases ht : th d.pl (lLast d.pl f) with
  | false =>
    simp only [Bool.false_eq_true, if_false]
    have HT := asd ht
    generalize lLast d.pl f = last at *
    go_enter Tryz.func15, Tryz.ntmps15
    go_wp2_with (first
      | (go_at_call 45; refine k45.mono ?_; rintro e w1 ⟨rfl, rfl⟩)
      | (go_at_call 23; refine k23.mono ?_; rintro e w2 ⟨rfl, b2⟩)
      | (go_at_call 53; refine (k53.out _ last b2).mono ?_; rw [HT.out]; rintro e w3 ⟨rfl, b3⟩))
    go_ret
    have bb := b2.trans (b3.mono b2.size)
    exact ⟨rfl, d, H.out.below bb, rfl, Dk.Step.ofBelow bb⟩
  | true =>
    simp only [if_true]
    have HT := asd ht
    generalize lLast d.pl f = last at *
    go_enter Tryz.func15, Tryz.ntmps15
    go_wp2_with (first
      | (go_at_call 45; refine k45.mono ?_; rintro e w1 ⟨rfl, rfl⟩)
      | (go_at_call 23; refine k23.mono ?_; rintro e w2 ⟨rfl, b2⟩)
      | (go_at_call 53; refine (k53.out _ last b2).mono ?_; rw [HT.out]; rintro e w3 ⟨rfl, b3⟩; have bb := b2.trans (b3.mono b2.size); have H3 := asd (H.out.below bb)))
    have HD := asd (H3.out.below (show Below w3.heap.size w3 w3.drew from ⟨rfl, rfl, rfl, Nat.le_refl _, fun _ _ => rfl⟩))
    have ST0 := asd (Dk.Step.ofBelow (fo := d.foot b) (bb.trans (show Below w1.heap.size w3 w3.drew from ⟨rfl, rfl, rfl, Nat.le_refl _, fun _ _ => rfl⟩)))
    have cd : w3.drew.cell? ⟨l, 0, none⟩ = some (.pointer (some ⟨b, 0, none⟩)) := HD.out.lg.c0
    refine wp_region_held_drew (S := (fun u => u.cell? ⟨l, 0, none⟩ = some (.pointer (some ⟨b, 0, none⟩)))) (by kernel_rfl) cd (fun hHeld => ?_)
    change wpAnyH _ _ _ _ _ _ _ _ (World.drew _)
    refine takeH_to (i := 0) (v := .pointer (some ⟨l, 0, none⟩)) (some 12) rfl rfl (by kernel_rfl) (by kernel_rfl) (by kernel_rfl) (fun _ _ _ h => h) (Or.inl ⟨by rfl, fun u hu => by (try dsimp only at hu); go_simp <;> (first | rfl | omega)⟩) (by assumption) ?_
    try simp only [Act.put, List.setIfInBounds_toArray, List.set_cons_zero, List.set_cons_succ]
    refine takeH_to (i := 1) (v := .pointer (some ⟨l, 0, none⟩)) (some 13) rfl rfl (by kernel_rfl) (by kernel_rfl) (by kernel_rfl) (fun _ _ _ h => h) (Or.inl ⟨by rfl, fun u hu => by (try dsimp only at hu); go_simp <;> (first | rfl | omega)⟩) (by assumption) ?_
    try simp only [Act.put, List.setIfInBounds_toArray, List.set_cons_zero, List.set_cons_succ]
    refine takeH_to (i := 2) (v := .pointer (some ⟨l, 0, none⟩)) (some 14) rfl rfl (by kernel_rfl) (by kernel_rfl) (by kernel_rfl) (fun _ _ _ h => h) (Or.inl ⟨by rfl, fun u hu => by (try dsimp only at hu); go_simp <;> (first | rfl | omega)⟩) (by assumption) ?_
    try simp only [Act.put, List.setIfInBounds_toArray, List.set_cons_zero, List.set_cons_succ]
    refine takeH_to (i := 3) (v := .pointer (some ⟨b, 0, none⟩)) (some 15) rfl rfl (by kernel_rfl) (by kernel_rfl) (by kernel_rfl) (fun _ _ _ h => h) (Or.inl ⟨by rfl, fun u hu => by (try dsimp only at hu); go_simp <;> (first | rfl | omega)⟩) (by assumption) ?_
    try simp only [Act.put, List.setIfInBounds_toArray, List.set_cons_zero, List.set_cons_succ]
    refine takeH_to (i := 4) (v := .int .i64 last) (some 16) rfl rfl (by kernel_rfl) (by kernel_rfl) (by kernel_rfl) (fun _ _ _ h => h) (Or.inl ⟨by rfl, fun u hu => by (try dsimp only at hu); go_simp <;> (first | rfl | omega)⟩) (by assumption) ?_
    try simp only [Act.put, List.setIfInBounds_toArray, List.set_cons_zero, List.set_cons_succ]
    refine wpAnyH_ready (rs := [5]) (by kernel_rfl) (by simp) ?_
    refine AllReadyH.cons rfl (fun K hK => ?_) AllReadyH.nil
    rw [if_pos (by rfl)]
    go_simp
    go_at_call 36
    refine (lname_any last _ HD.out.vars).mono ?_
    rintro e w4 ⟨rfl, b4⟩
    have H4 := asd (HD.out.below b4)
    have c4 := H4.out.lg.c0
    go_simp
    refine hK.out _ _ c4 (fun hHeld => ?_)
    clear hK K
    try simp only [Act.put, List.setIfInBounds_toArray, List.set_cons_zero, List.set_cons_succ]
    refine wpAnyH_ready (rs := [6]) (by kernel_rfl) (by simp) ?_
    refine AllReadyH.cons rfl (fun K hK => ?_) AllReadyH.nil
    rw [if_pos (by rfl)]
    go_simp
    go_at_call 49
    refine (Dk.sync_any H4.out.rep H4.out.ok (nmL last)).mono ?_
    rintro e w5 ⟨rfl, d', r5, p5, s5⟩
    have H5 := asd (H4.out.step r5 (by rw [p5]; exact H4.out.ok.opSync _) (fun n hn => by rw [← Dk.names_pl, p5, names_sync, Dk.names_pl] at hn; exact H4.out.sz n hn) s5 H4.out.hs)
    have c5 := H5.out.lg.c0
    have S5 := asd ((ST0.out.trans (Dk.Step.ofBelow b4)).trans s5)
    go_simp
    refine hK.out _ _ c5 (fun hHeld => ?_)
    clear hK K
    try simp only [Act.put, List.setIfInBounds_toArray, List.set_cons_zero, List.set_cons_succ]
    refine takeH_to (i := 7) (v := .int .i64 (Dk.opSync d.pl (nmL last)).1) (some 2) rfl rfl (by kernel_rfl) (by kernel_rfl) (by kernel_rfl) (fun _ _ _ h => h) (Or.inl ⟨by rfl, fun u hu => by (try dsimp only at hu); go_simp <;> (first | rfl | omega)⟩) (by assumption) ?_
    try simp only [Act.put, List.setIfInBounds_toArray, List.set_cons_zero, List.set_cons_succ]
    refine wpAnyH_done (by kernel_rfl) ?_ _
    go_wp2_with fail
    go_ret
    exact ⟨rfl, d', H5.out, p5, S5.out⟩
end Go.Proofs.YtajjcfacbnicnaaGreatDoor

/-
  Which numbers the names have.
-/
namespace Go.Proofs.YtajjcfacbnicnaaGreatDoor
open Go.RowKit
set_option maxRecDepth 100000
theorem one_mem {t : ByteArray} {n : Int} : n ∈ one LG t ↔ 1 ≤ n ∧ n ≤ 99999 ∧ nmL n = t := by
  unfold one
  have key : ∀ k : Int, nmL k = t ↔ Fi.nm LG.data.toList k = t.data.toList := fun k => nmB_eq
  constructor
  · intro h
    by_cases hh : ∀ k, Fi.nm LG.data.toList k = t.data.toList → t.data.toList = []
    · have e : nP LG t = (0, false) := Fi.numP_out hh
      rw [e] at h
      simp at h
    · obtain ⟨k, hk⟩ := Classical.not_forall.1 hh
      obtain ⟨h1, h2⟩ := Classical.not_imp.1 hk
      have e : nP LG t = (k, true) := by
        show Fi.numP _ _ = _
        rw [← h1, Fi.num_back, if_neg (by rw [h1]; exact h2)]
      rw [e] at h
      simp at h
      subst h
      obtain ⟨_, h3, h4⟩ := Fi.nm_out (by rw [h1]; exact h2)
      exact ⟨h3, h4, (key n).2 h1⟩
  · rintro ⟨h1, h2, h3⟩
    have h4 := (key n).1 h3
    have hne : Fi.nm LG.data.toList n ≠ [] := by
      rw [Ne, Fi.nm_empty, wd_LG]
      simp
      omega
    have e : nP LG t = (n, true) := by
      show Fi.numP _ _ = _
      rw [← h4, Fi.num_back, if_neg hne]
    rw [e]
    simp
theorem all_mem {ns : List ByteArray} {n : Int} : n ∈ allOf LG ns ↔ 1 ≤ n ∧ n ≤ 99999 ∧ nmL n ∈ ns := by
  have hp : n ∈ allOf LG ns ↔ n ∈ numsOf LG ns := (List.mergeSort_perm _ _).mem_iff
  rw [hp]
  unfold numsOf
  rw [List.mem_flatMap]
  constructor
  · rintro ⟨t, ht, h⟩
    obtain ⟨h1, h2, rfl⟩ := one_mem.1 h
    exact ⟨h1, h2, ht⟩
  · rintro ⟨h1, h2, h3⟩
    exact ⟨_, h3, one_mem.2 ⟨h1, h2, rfl⟩⟩
theorem one_nodup (t : ByteArray) : (one LG t).Nodup := by
  have := one_len LG t
  rcases h : one LG t with _ | ⟨a, _ | ⟨b, r⟩⟩
  · exact List.nodup_nil
  · simp
  · rw [h] at this
    simp at this
theorem nums_nodup : ∀ {ns : List ByteArray}, ns.Nodup → (numsOf LG ns).Nodup
  | [], _ => List.nodup_nil
  | t :: r, h => by
    have h1 := List.nodup_cons.1 h
    show (one LG t ++ numsOf LG r).Nodup
    rw [List.nodup_append]
    refine ⟨one_nodup t, nums_nodup h1.2, fun a ha b hb e => ?_⟩
    subst e
    obtain ⟨_, _, h4⟩ := one_mem.1 ha
    obtain ⟨t2, h5, h6⟩ := List.mem_flatMap.1 hb
    obtain ⟨_, _, h7⟩ := one_mem.1 h6
    exact h1.1 (by rw [← h4, h7]; exact h5)
theorem all_lt {ns : List ByteArray} (h : ns.Nodup) : (allOf LG ns).Pairwise (· < ·) := by
  have h1 : (allOf LG ns).Nodup := ((List.mergeSort_perm _ _).nodup_iff).2 (nums_nodup h)
  have h2 := List.pairwise_mergeSort (le := fun x y : Int => decide (x ≤ y)) (fun a b c h1 h2 => by simp at h1 h2 ⊢; omega) (fun a b => by simp; omega) (numsOf LG ns)
  refine (List.Pairwise.and h2 h1).imp fun {a b} hab => ?_
  have := of_decide_eq_true hab.1
  have := hab.2
  omega
theorem nums_mem {ns : List ByteArray} {f n : Int} : n ∈ nums ns f ↔ f ≤ n ∧ 1 ≤ n ∧ n ≤ 99999 ∧ nmL n ∈ ns := by
  unfold nums
  rw [List.mem_filter, all_mem, decide_eq_true_eq]
  exact ⟨fun ⟨⟨a, b, c⟩, d⟩ => ⟨d, a, b, c⟩, fun ⟨d, a, b, c⟩ => ⟨⟨a, b, c⟩, d⟩⟩
theorem last_bd (ns : List ByteArray) : 0 ≤ lastOf (allOf LG ns) ∧ lastOf (allOf LG ns) ≤ 99999 := by
  unfold lastOf
  by_cases h : (allOf LG ns).length - 1 < (allOf LG ns).length
  · rw [List.getD_eq_getElem?_getD, List.getElem?_eq_getElem h]
    have := all_mem.1 (List.getElem_mem h)
    simp only [Option.getD_some]
    omega
  · rw [List.getD_eq_getElem?_getD, List.getElem?_eq_none (by omega)]
    simp
/-- The greatest of them all. -/
theorem last_max {ns : List ByteArray} (h : ns.Nodup) {n : Int} (hn : n ∈ allOf LG ns) : n ≤ lastOf (allOf LG ns) ∧ lastOf (allOf LG ns) ∈ allOf LG ns := by
  obtain ⟨i, hi, rfl⟩ := List.getElem_of_mem hn
  have hl : (allOf LG ns).length - 1 < (allOf LG ns).length := by omega
  have e : lastOf (allOf LG ns) = (allOf LG ns)[(allOf LG ns).length - 1] := by
    unfold lastOf
    rw [List.getD_eq_getElem?_getD, List.getElem?_eq_getElem hl]
    rfl
  rw [e]
  refine ⟨?_, List.getElem_mem hl⟩
  by_cases h2 : i = (allOf LG ns).length - 1
  · subst h2
    exact Int.le_refl _
  · have := List.pairwise_iff_getElem.1 (all_lt h) i ((allOf LG ns).length - 1) hi hl (by omega)
    omega
theorem llast_bd (s : Dk.St) {f : Int} (h1 : 1 ≤ f) (h2 : f ≤ 99999) : 1 ≤ lLast s f ∧ lLast s f ≤ 99999 ∧ f ≤ lLast s f := by
  have := last_bd s.names
  unfold lLast
  omega
end Go.Proofs.YtajjcfacbnicnaaGreatDoor
