/-
  YtajjcfacbnicnaaGreatDoor: the texts T10, T11, one behind the other.
-/
import Derived.Test.YtajjcfacbnicnaaGreatDoorV24
import Derived.Test.YtajjcfacbnicnaaGreatDoorV11
import Derived.Test.YtajjcfacbnicnaaGreatDoorV16
import Derived.Test.YtajjcfacbnicnaaGreatDoorV26
import Derived.Deep.RegionHeld3
import Derived.WalkKit
import Derived.WalkSpells
import Derived.WalkLawsBesides
import Derived.Deep.LoopGhost
import Derived.Laws.Externs
import Derived.Below
import Derived.BigQuiet
import Derived.Deep.RegionWith
import Derived.OwnWalk
import Derived.Maps.AppendAt
import Derived.WalkSmall
/-
  Append.
-/
namespace Go.Proofs.YtajjcfacbnicnaaGreatDoor
open Go.RowKit
set_option maxRecDepth 100000
open Dk (takeH_to)
/-- The frame of a record. -/
def fr (x : ByteArray) : ByteArray := Fm.mkS x
/-- What Append does. -/
def lAppend (s : Dk.St) (f m : Int) (x : ByteArray) (rest : Int) : Int × Dk.St :=
  if 2000 < x.size then (5, s)
  else if lRefused s (lPlace s m (lLast s f) (fr x).size) ((fr x).size + wi rest) ≠ 0 then (lRefused s (lPlace s m (lLast s f) (fr x).size) ((fr x).size + wi rest), s)
  else if lPlace s m (lLast s f) (fr x).size = lLast s f then Dk.opAppend s (nmL (lLast s f)) (fr x)
  else if (Dk.opSync s (nmL (lLast s f))).1 ≠ 0 then Dk.opSync s (nmL (lLast s f))
  else Dk.opAppend (Dk.opSync s (nmL (lLast s f))).2 (nmL (lPlace s m (lLast s f) (fr x).size)) (fr x)
theorem fr_size {x : ByteArray} (h : x.size ≤ 2000) : (fr x).size = x.size + 10 := by
  unfold fr Fm.mkS
  rw [if_neg (by omega)]
  show (Fm.Fr.mk x.data.toList).toArray.size = _
  rw [List.size_toArray]
  have e : x.data.toList.length = x.size := rfl
  rw [Fm.Fr.mk_len, e]
theorem lapp_long {s : Dk.St} {f m : Int} {x : ByteArray} {rest : Int} (hx : 2000 < x.size) : lAppend s f m x rest = (5, s) := by unfold lAppend; rw [if_pos hx]
theorem lapp_refused {s : Dk.St} {f m : Int} {x : ByteArray} {rest : Int} (hx : ¬ 2000 < x.size) (hr : lRefused s (lPlace s m (lLast s f) (fr x).size) ((fr x).size + wi rest) ≠ 0) : lAppend s f m x rest = (lRefused s (lPlace s m (lLast s f) (fr x).size) ((fr x).size + wi rest), s) := by unfold lAppend; rw [if_neg hx, if_pos hr]
theorem lapp_same {s : Dk.St} {f m : Int} {x : ByteArray} {rest : Int} (hx : ¬ 2000 < x.size) (hr : lRefused s (lPlace s m (lLast s f) (fr x).size) ((fr x).size + wi rest) = 0) (ht : lPlace s m (lLast s f) (fr x).size = lLast s f) : lAppend s f m x rest = Dk.opAppend s (nmL (lLast s f)) (fr x) := by unfold lAppend; rw [if_neg hx, if_neg (fun h => h hr), if_pos ht]
theorem lapp_unsure {s : Dk.St} {f m : Int} {x : ByteArray} {rest : Int} (hx : ¬ 2000 < x.size) (hr : lRefused s (lPlace s m (lLast s f) (fr x).size) ((fr x).size + wi rest) = 0) (ht : ¬ lPlace s m (lLast s f) (fr x).size = lLast s f) (hs : (Dk.opSync s (nmL (lLast s f))).1 ≠ 0) : lAppend s f m x rest = Dk.opSync s (nmL (lLast s f)) := by unfold lAppend; rw [if_neg hx, if_neg (fun h => h hr), if_neg ht, if_pos hs]
theorem lapp_next {s : Dk.St} {f m : Int} {x : ByteArray} {rest : Int} (hx : ¬ 2000 < x.size) (hr : lRefused s (lPlace s m (lLast s f) (fr x).size) ((fr x).size + wi rest) = 0) (ht : ¬ lPlace s m (lLast s f) (fr x).size = lLast s f) (hs : (Dk.opSync s (nmL (lLast s f))).1 = 0) : lAppend s f m x rest = Dk.opAppend (Dk.opSync s (nmL (lLast s f))).2 (nmL (lPlace s m (lLast s f) (fr x).size)) (fr x) := by unfold lAppend; rw [if_neg hx, if_neg (fun h => h hr), if_neg ht, if_neg (fun h => h hs)]
theorem app_sz {s : Dk.Ds} {d : Dk.Ds} {k : Int} {y : ByteArray} (h : ∀ n ∈ s.names, n.size ≤ 1000) (e : d.pl = (Dk.opAppend s.pl (nmL k) y).2) : ∀ n ∈ d.names, n.size ≤ 1000 := fun n hn => by
  rw [← Dk.names_pl, e] at hn
  rcases mem_append hn with hn | rfl
  · rw [Dk.names_pl] at hn
    exact h n hn
  · have := nmL_size k
    omega
theorem syn_sz {s : Dk.Ds} {d : Dk.Ds} {y : ByteArray} (h : ∀ n ∈ s.names, n.size ≤ 1000) (e : d.pl = (Dk.opSync s.pl y).2) : ∀ n ∈ d.names, n.size ≤ 1000 := fun n hn => by
  rw [← Dk.names_pl, e, names_sync, Dk.names_pl] at hn
  exact h n hn
set_option maxHeartbeats 4000000 in
theorem lappend_long {B l b : Nat} {f m : Int} {d : Dk.Ds} {w : World} (h : Sys B l b f m d w) (_hf : 1 ≤ f) (_hf2 : f ≤ 99999) (x : ByteArray) (rest : Int) (hx : 2000 < x.size) (hx2 : x.size ≤ 1000000) :
    Calls Tryz.prog 13 #[.pointer (some ⟨l, 0, none⟩), .string x, .int .i64 rest] w fun e w' => e = .returned (.int .i64 (lAppend d.pl f m x rest).1) ∧ ∃ d', Sys B l b f m d' w' ∧ d'.pl = (lAppend d.pl f m x rest).2 ∧ Dk.Step (d.foot b) (d'.foot b) w w' := by
  have k45 := none_any h.lg
  have k46 : Calls Tryz.prog 46 #[.string x] w fun e w' => e = .returned (.tuple #[.string ⟨#[]⟩, .int .i64 5]) ∧ Below w.heap.size w w' := by
    have := Fm.make_any x w hx2
    unfold Fm.mkS Fm.mkE at this
    rw [if_pos hx, if_pos hx] at this
    exact this
  have EN := asd (lapp_long (s := d.pl) (f := f) (m := m) (rest := rest) hx)
  have H := asd h
  clear h
  go_enter Tryz.func13, Tryz.ntmps13
  go_wp2_with (first
    | (go_at_call 45; refine k45.mono ?_; rintro e w1 ⟨rfl, rfl⟩)
    | (go_at_call 46; refine k46.mono ?_; rintro e w2 ⟨rfl, b2⟩))
  go_ret
  rw [EN.out]
  exact ⟨rfl, d, H.out.below b2, rfl, Dk.Step.ofBelow b2⟩
set_option maxHeartbeats 4000000 in
theorem lappend_refused {B l b : Nat} {f m : Int} {d : Dk.Ds} {w : World} (h : Sys B l b f m d w) (hf : 1 ≤ f) (hf2 : f ≤ 99999) (x : ByteArray) (rest : Int) (hx : ¬ 2000 < x.size) (hr : lRefused d.pl (lPlace d.pl m (lLast d.pl f) (fr x).size) ((fr x).size + wi rest) ≠ 0) :
    Calls Tryz.prog 13 #[.pointer (some ⟨l, 0, none⟩), .string x, .int .i64 rest] w fun e w' => e = .returned (.int .i64 (lAppend d.pl f m x rest).1) ∧ ∃ d', Sys B l b f m d' w' ∧ d'.pl = (lAppend d.pl f m x rest).2 ∧ Dk.Step (d.foot b) (d'.foot b) w w' := by
  have k45 := none_any h.lg
  have k46 : Aside (∀ u, Calls Tryz.prog 46 #[.string x] u fun e w' => e = .returned (.tuple #[.string (fr x), .int .i64 0]) ∧ Below u.heap.size u w') := fun u => by
    have := Fm.make_any x u (by omega)
    unfold Fm.mkE at this
    rw [if_neg (by omega)] at this
    exact this
  have k23 := asd (fun (u : World) (hu : Below w.heap.size w u) => llast_any (h.below hu))
  have hb := llast_bd d.pl hf hf2
  have hz := fr_size (x := x) (by omega)
  have k47 := asd (fun (u : World) (hu : Below w.heap.size w u) => place_any (h.below hu) (lLast d.pl f) ((fr x).size : Nat) (by omega) (by omega) (by omega) (by omega))
  have k37 := fun u => within_any rest u
  have k48 := asd (fun (u : World) (hu : Below w.heap.size w u) => refused_any (h.below hu) (lPlace d.pl m (lLast d.pl f) ((fr x).size : Nat)) ((fr x).size + wi rest))
  have hwi : 0 ≤ wi rest ∧ wi rest ≤ 1073741824 := by unfold wi; omega
  have H := asd h
  have EN2 := asd (lapp_refused hx hr)
  clear h
  generalize hLA : lLast d.pl f = LA at *
  generalize hX : fr x = X at *
  have hz' : X.size ≤ 2010 := by omega
  clear hX hz
  generalize hTO : lPlace d.pl m LA (X.size : Nat) = TO at *
  generalize hWI : wi rest = WI at *
  generalize hRE : lRefused d.pl TO ((X.size : Nat) + WI) = RE at *
  have t1 : (RE != 0) = true := by rw [bne_iff_ne]; exact hr
  have t2 : (RE == 0) = false := by rw [beq_eq_false_iff_ne]; exact hr
  clear hRE hTO hWI hLA
  go_enter Tryz.func13, Tryz.ntmps13
  go_wp2_with (first
    | (go_at_call 45; refine k45.mono ?_; rintro e w1 ⟨rfl, rfl⟩)
    | (go_at_call 46; refine (k46.out _).mono ?_; rintro e w2 ⟨rfl, b2⟩)
    | (go_at_call 23; refine (k23.out _ b2).mono ?_; rintro e w3 ⟨rfl, b3⟩; have b3' := b2.trans (b3.mono b2.size))
    | (go_at_call 47; refine (k47.out _ b3').mono ?_; rintro e w4 ⟨rfl, b4⟩; have b4' := b3'.trans (b4.mono b3'.size))
    | (go_at_call 37; refine (k37 _).mono ?_; rintro e w5 ⟨rfl, rfl⟩)
    | (go_at_call 48; refine (k48.out _ b4').mono ?_; rintro e w6 ⟨rfl, b6⟩; have b6' := b4'.trans (b6.mono b4'.size)))
  go_ret
  rw [EN2.out]
  exact ⟨rfl, d, H.out.below b6', rfl, Dk.Step.ofBelow b6'⟩
set_option maxHeartbeats 4000000 in
theorem lappend_same {B l b : Nat} {f m : Int} {d : Dk.Ds} {w : World} (h : Sys B l b f m d w) (hf : 1 ≤ f) (hf2 : f ≤ 99999) (x : ByteArray) (rest : Int) (hx : ¬ 2000 < x.size) (hr : lRefused d.pl (lPlace d.pl m (lLast d.pl f) (fr x).size) ((fr x).size + wi rest) = 0) (ht : lPlace d.pl m (lLast d.pl f) (fr x).size = lLast d.pl f) :
    Calls Tryz.prog 13 #[.pointer (some ⟨l, 0, none⟩), .string x, .int .i64 rest] w fun e w' => e = .returned (.int .i64 (lAppend d.pl f m x rest).1) ∧ ∃ d', Sys B l b f m d' w' ∧ d'.pl = (lAppend d.pl f m x rest).2 ∧ Dk.Step (d.foot b) (d'.foot b) w w' := by
  have k45 := none_any h.lg
  have k46 : Aside (∀ u, Calls Tryz.prog 46 #[.string x] u fun e w' => e = .returned (.tuple #[.string (fr x), .int .i64 0]) ∧ Below u.heap.size u w') := fun u => by
    have := Fm.make_any x u (by omega)
    unfold Fm.mkE at this
    rw [if_neg (by omega)] at this
    exact this
  have k23 := asd (fun (u : World) (hu : Below w.heap.size w u) => llast_any (h.below hu))
  have hb := llast_bd d.pl hf hf2
  have hz := fr_size (x := x) (by omega)
  have k47 := asd (fun (u : World) (hu : Below w.heap.size w u) => place_any (h.below hu) (lLast d.pl f) ((fr x).size : Nat) (by omega) (by omega) (by omega) (by omega))
  have k37 := fun u => within_any rest u
  have k48 := asd (fun (u : World) (hu : Below w.heap.size w u) => refused_any (h.below hu) (lPlace d.pl m (lLast d.pl f) ((fr x).size : Nat)) ((fr x).size + wi rest))
  have hwi : 0 ≤ wi rest ∧ wi rest ≤ 1073741824 := by unfold wi; omega
  have H := asd h
  have EN2 := asd (lapp_same hx hr ht)
  clear h
  generalize hLA : lLast d.pl f = LA at *
  generalize hX : fr x = X at *
  have hz' : X.size ≤ 2010 := by omega
  clear hX hz
  generalize hTO : lPlace d.pl m LA (X.size : Nat) = TO at *
  generalize hWI : wi rest = WI at *
  generalize hRE : lRefused d.pl TO ((X.size : Nat) + WI) = RE at *
  clear hRE hTO hWI hLA
  subst hr ht
  go_enter Tryz.func13, Tryz.ntmps13
  go_wp2_with (first
    | (go_at_call 45; refine k45.mono ?_; rintro e w1 ⟨rfl, rfl⟩)
    | (go_at_call 46; refine (k46.out _).mono ?_; rintro e w2 ⟨rfl, b2⟩)
    | (go_at_call 23; refine (k23.out _ b2).mono ?_; rintro e w3 ⟨rfl, b3⟩; have b3' := b2.trans (b3.mono b2.size))
    | (go_at_call 47; refine (k47.out _ b3').mono ?_; rintro e w4 ⟨rfl, b4⟩; have b4' := b3'.trans (b4.mono b3'.size))
    | (go_at_call 37; refine (k37 _).mono ?_; rintro e w5 ⟨rfl, rfl⟩)
    | (go_at_call 48; refine (k48.out _ b4').mono ?_; rintro e w6 ⟨rfl, b6⟩; have b6' := b4'.trans (b6.mono b4'.size)))
  have H6 := asd (H.out.below b6')
  have HD := asd (H6.out.below (show Below w6.heap.size w6 w6.drew from ⟨rfl, rfl, rfl, Nat.le_refl _, fun _ _ => rfl⟩))
  have ST0 := asd (Dk.Step.ofBelow (fo := d.foot b) (b6'.trans (show Below w1.heap.size w6 w6.drew from ⟨rfl, rfl, rfl, Nat.le_refl _, fun _ _ => rfl⟩)))
  have cd : w6.drew.cell? ⟨l, 0, none⟩ = some (.pointer (some ⟨b, 0, none⟩)) := HD.out.lg.c0
  refine wp_region_held_drew (S := (fun u => u.cell? ⟨l, 0, none⟩ = some (.pointer (some ⟨b, 0, none⟩)))) (by kernel_rfl) cd (fun hHeld => ?_)
  change wpAnyH _ _ _ _ _ _ _ _ (World.drew _)
  refine takeH_to (i := 0) (v := .pointer (some ⟨l, 0, none⟩)) (some 54) rfl rfl (by kernel_rfl) (by kernel_rfl) (by kernel_rfl) (fun _ _ _ h => h) (Or.inl ⟨by rfl, fun u hu => by (try dsimp only at hu); go_simp <;> (first | rfl | omega)⟩) (by assumption) ?_
  try simp only [Act.put, List.setIfInBounds_toArray, List.set_cons_zero, List.set_cons_succ]
  refine takeH_to (i := 1) (v := .pointer (some ⟨l, 0, none⟩)) (some 55) rfl rfl (by kernel_rfl) (by kernel_rfl) (by kernel_rfl) (fun _ _ _ h => h) (Or.inl ⟨by rfl, fun u hu => by (try dsimp only at hu); go_simp <;> (first | rfl | omega)⟩) (by assumption) ?_
  try simp only [Act.put, List.setIfInBounds_toArray, List.set_cons_zero, List.set_cons_succ]
  refine takeH_to (i := 2) (v := .pointer (some ⟨l, 0, none⟩)) (some 56) rfl rfl (by kernel_rfl) (by kernel_rfl) (by kernel_rfl) (fun _ _ _ h => h) (Or.inl ⟨by rfl, fun u hu => by (try dsimp only at hu); go_simp <;> (first | rfl | omega)⟩) (by assumption) ?_
  try simp only [Act.put, List.setIfInBounds_toArray, List.set_cons_zero, List.set_cons_succ]
  refine takeH_to (i := 3) (v := .pointer (some ⟨b, 0, none⟩)) (some 57) rfl rfl (by kernel_rfl) (by kernel_rfl) (by kernel_rfl) (fun _ _ _ h => h) (Or.inl ⟨by rfl, fun u hu => by (try dsimp only at hu); go_simp <;> (first | rfl | omega)⟩) (by assumption) ?_
  try simp only [Act.put, List.setIfInBounds_toArray, List.set_cons_zero, List.set_cons_succ]
  refine takeH_to (i := 4) (v := .int .i64 TO) (some 58) rfl rfl (by kernel_rfl) (by kernel_rfl) (by kernel_rfl) (fun _ _ _ h => h) (Or.inl ⟨by rfl, fun u hu => by (try dsimp only at hu); go_simp <;> (first | rfl | omega)⟩) (by assumption) ?_
  try simp only [Act.put, List.setIfInBounds_toArray, List.set_cons_zero, List.set_cons_succ]
  refine takeH_to (i := 6) (v := .string X) (some 60) rfl rfl (by kernel_rfl) (by kernel_rfl) (by kernel_rfl) (fun _ _ _ h => h) (Or.inl ⟨by rfl, fun u hu => by (try dsimp only at hu); go_simp <;> (first | rfl | omega)⟩) (by assumption) ?_
  try simp only [Act.put, List.setIfInBounds_toArray, List.set_cons_zero, List.set_cons_succ]
  refine wpAnyH_ready (rs := [5]) (by kernel_rfl) (by simp) ?_
  refine AllReadyH.cons rfl (fun K hK => ?_) AllReadyH.nil
  rw [if_pos (by rfl)]
  go_simp
  go_at_call 36
  refine (lname_any TO _ HD.out.vars).mono ?_
  rintro e w7 ⟨rfl, b7⟩
  have H7 := asd (HD.out.below b7)
  have c7 := H7.out.lg.c0
  go_simp
  refine hK.out _ _ c7 (fun hHeld => ?_)
  clear hK K
  try simp only [Act.put, List.setIfInBounds_toArray, List.set_cons_zero, List.set_cons_succ]
  refine wpAnyH_ready (rs := [7]) (by kernel_rfl) (by simp) ?_
  refine AllReadyH.cons rfl (fun K hK => ?_) AllReadyH.nil
  rw [if_pos (by rfl)]
  go_simp
  go_at_call 33
  refine (Dk.append_any H7.out.rep H7.out.ok (nmL TO) X).mono ?_
  rintro e w8 ⟨rfl, d', r8, p8, s8⟩
  have H8 := asd (H7.out.step r8 (by rw [p8]; exact H7.out.ok.opAppend _ _) (app_sz H7.out.sz p8) s8 H7.out.hs)
  have c8 := H8.out.lg.c0
  have S8 := asd ((ST0.out.trans (Dk.Step.ofBelow b7)).trans s8)
  go_simp
  refine hK.out _ _ c8 (fun hHeld => ?_)
  clear hK K
  try simp only [Act.put, List.setIfInBounds_toArray, List.set_cons_zero, List.set_cons_succ]
  refine takeH_to (i := 8) (v := .int .i64 (Dk.opAppend d.pl (nmL TO) X).1) (some 6) rfl rfl (by kernel_rfl) (by kernel_rfl) (by kernel_rfl) (fun _ _ _ h => h) (Or.inl ⟨by rfl, fun u hu => by (try dsimp only at hu); go_simp <;> (first | rfl | omega)⟩) (by assumption) ?_
  try simp only [Act.put, List.setIfInBounds_toArray, List.set_cons_zero, List.set_cons_succ]
  refine wpAnyH_done (by kernel_rfl) ?_ _
  go_wp2_with fail
  go_ret
  rw [EN2.out]
  exact ⟨rfl, d', H8.out, p8, S8.out⟩
set_option maxHeartbeats 4000000 in
theorem lappend_unsure {B l b : Nat} {f m : Int} {d : Dk.Ds} {w : World} (h : Sys B l b f m d w) (hf : 1 ≤ f) (hf2 : f ≤ 99999) (x : ByteArray) (rest : Int) (hx : ¬ 2000 < x.size) (hr : lRefused d.pl (lPlace d.pl m (lLast d.pl f) (fr x).size) ((fr x).size + wi rest) = 0) (ht : ¬ lPlace d.pl m (lLast d.pl f) (fr x).size = lLast d.pl f) (hs : (Dk.opSync d.pl (nmL (lLast d.pl f))).1 ≠ 0) :
    Calls Tryz.prog 13 #[.pointer (some ⟨l, 0, none⟩), .string x, .int .i64 rest] w fun e w' => e = .returned (.int .i64 (lAppend d.pl f m x rest).1) ∧ ∃ d', Sys B l b f m d' w' ∧ d'.pl = (lAppend d.pl f m x rest).2 ∧ Dk.Step (d.foot b) (d'.foot b) w w' := by
  have k45 := none_any h.lg
  have k46 : Aside (∀ u, Calls Tryz.prog 46 #[.string x] u fun e w' => e = .returned (.tuple #[.string (fr x), .int .i64 0]) ∧ Below u.heap.size u w') := fun u => by
    have := Fm.make_any x u (by omega)
    unfold Fm.mkE at this
    rw [if_neg (by omega)] at this
    exact this
  have k23 := asd (fun (u : World) (hu : Below w.heap.size w u) => llast_any (h.below hu))
  have hb := llast_bd d.pl hf hf2
  have hz := fr_size (x := x) (by omega)
  have k47 := asd (fun (u : World) (hu : Below w.heap.size w u) => place_any (h.below hu) (lLast d.pl f) ((fr x).size : Nat) (by omega) (by omega) (by omega) (by omega))
  have k37 := fun u => within_any rest u
  have k48 := asd (fun (u : World) (hu : Below w.heap.size w u) => refused_any (h.below hu) (lPlace d.pl m (lLast d.pl f) ((fr x).size : Nat)) ((fr x).size + wi rest))
  have hwi : 0 ≤ wi rest ∧ wi rest ≤ 1073741824 := by unfold wi; omega
  have H := asd h
  have EN2 := asd (lapp_unsure hx hr ht hs)
  clear h
  generalize hLA : lLast d.pl f = LA at *
  generalize hX : fr x = X at *
  have hz' : X.size ≤ 2010 := by omega
  clear hX hz
  generalize hTO : lPlace d.pl m LA (X.size : Nat) = TO at *
  generalize hWI : wi rest = WI at *
  generalize hRE : lRefused d.pl TO ((X.size : Nat) + WI) = RE at *
  clear hRE hTO hWI hLA
  subst hr
  have t1 : (TO != LA) = true := by rw [bne_iff_ne]; exact ht
  have t2 : (TO == LA) = false := by rw [beq_eq_false_iff_ne]; exact ht
  go_enter Tryz.func13, Tryz.ntmps13
  go_wp2_with (first
    | (go_at_call 45; refine k45.mono ?_; rintro e w1 ⟨rfl, rfl⟩)
    | (go_at_call 46; refine (k46.out _).mono ?_; rintro e w2 ⟨rfl, b2⟩)
    | (go_at_call 23; refine (k23.out _ b2).mono ?_; rintro e w3 ⟨rfl, b3⟩; have b3' := b2.trans (b3.mono b2.size))
    | (go_at_call 47; refine (k47.out _ b3').mono ?_; rintro e w4 ⟨rfl, b4⟩; have b4' := b3'.trans (b4.mono b3'.size))
    | (go_at_call 37; refine (k37 _).mono ?_; rintro e w5 ⟨rfl, rfl⟩)
    | (go_at_call 48; refine (k48.out _ b4').mono ?_; rintro e w6 ⟨rfl, b6⟩; have b6' := b4'.trans (b6.mono b4'.size)))
  have H6 := asd (H.out.below b6')
  have HD := asd (H6.out.below (show Below w6.heap.size w6 w6.drew from ⟨rfl, rfl, rfl, Nat.le_refl _, fun _ _ => rfl⟩))
  have ST0 := asd (Dk.Step.ofBelow (fo := d.foot b) (b6'.trans (show Below w1.heap.size w6 w6.drew from ⟨rfl, rfl, rfl, Nat.le_refl _, fun _ _ => rfl⟩)))
  have cd : w6.drew.cell? ⟨l, 0, none⟩ = some (.pointer (some ⟨b, 0, none⟩)) := HD.out.lg.c0
  refine wp_region_held_drew (S := (fun u => u.cell? ⟨l, 0, none⟩ = some (.pointer (some ⟨b, 0, none⟩)))) (by kernel_rfl) cd (fun hHeld => ?_)
  change wpAnyH _ _ _ _ _ _ _ _ (World.drew _)
  refine takeH_to (i := 0) (v := .pointer (some ⟨l, 0, none⟩)) (some 44) rfl rfl (by kernel_rfl) (by kernel_rfl) (by kernel_rfl) (fun _ _ _ h => h) (Or.inl ⟨by rfl, fun u hu => by (try dsimp only at hu); go_simp <;> (first | rfl | omega)⟩) (by assumption) ?_
  try simp only [Act.put, List.setIfInBounds_toArray, List.set_cons_zero, List.set_cons_succ]
  refine takeH_to (i := 1) (v := .pointer (some ⟨l, 0, none⟩)) (some 45) rfl rfl (by kernel_rfl) (by kernel_rfl) (by kernel_rfl) (fun _ _ _ h => h) (Or.inl ⟨by rfl, fun u hu => by (try dsimp only at hu); go_simp <;> (first | rfl | omega)⟩) (by assumption) ?_
  try simp only [Act.put, List.setIfInBounds_toArray, List.set_cons_zero, List.set_cons_succ]
  refine takeH_to (i := 2) (v := .pointer (some ⟨l, 0, none⟩)) (some 46) rfl rfl (by kernel_rfl) (by kernel_rfl) (by kernel_rfl) (fun _ _ _ h => h) (Or.inl ⟨by rfl, fun u hu => by (try dsimp only at hu); go_simp <;> (first | rfl | omega)⟩) (by assumption) ?_
  try simp only [Act.put, List.setIfInBounds_toArray, List.set_cons_zero, List.set_cons_succ]
  refine takeH_to (i := 3) (v := .pointer (some ⟨b, 0, none⟩)) (some 47) rfl rfl (by kernel_rfl) (by kernel_rfl) (by kernel_rfl) (fun _ _ _ h => h) (Or.inl ⟨by rfl, fun u hu => by (try dsimp only at hu); go_simp <;> (first | rfl | omega)⟩) (by assumption) ?_
  try simp only [Act.put, List.setIfInBounds_toArray, List.set_cons_zero, List.set_cons_succ]
  refine takeH_to (i := 4) (v := .int .i64 LA) (some 48) rfl rfl (by kernel_rfl) (by kernel_rfl) (by kernel_rfl) (fun _ _ _ h => h) (Or.inl ⟨by rfl, fun u hu => by (try dsimp only at hu); go_simp <;> (first | rfl | omega)⟩) (by assumption) ?_
  try simp only [Act.put, List.setIfInBounds_toArray, List.set_cons_zero, List.set_cons_succ]
  refine wpAnyH_ready (rs := [5]) (by kernel_rfl) (by simp) ?_
  refine AllReadyH.cons rfl (fun K hK => ?_) AllReadyH.nil
  rw [if_pos (by rfl)]
  go_simp
  go_at_call 36
  refine (lname_any LA _ HD.out.vars).mono ?_
  rintro e w7 ⟨rfl, b7⟩
  have H7 := asd (HD.out.below b7)
  have c7 := H7.out.lg.c0
  go_simp
  refine hK.out _ _ c7 (fun hHeld => ?_)
  clear hK K
  try simp only [Act.put, List.setIfInBounds_toArray, List.set_cons_zero, List.set_cons_succ]
  refine wpAnyH_ready (rs := [6]) (by kernel_rfl) (by simp) ?_
  refine AllReadyH.cons rfl (fun K hK => ?_) AllReadyH.nil
  rw [if_pos (by rfl)]
  go_simp
  go_at_call 49
  refine (Dk.sync_any H7.out.rep H7.out.ok (nmL LA)).mono ?_
  rintro e w8 ⟨rfl, d1, r8, p8, s8⟩
  have H8 := asd (H7.out.step r8 (by rw [p8]; exact H7.out.ok.opSync _) (syn_sz H7.out.sz p8) s8 H7.out.hs)
  have c8 := H8.out.lg.c0
  have S8 := asd ((ST0.out.trans (Dk.Step.ofBelow b7)).trans s8)
  go_simp
  refine hK.out _ _ c8 (fun hHeld => ?_)
  clear hK K
  try simp only [Act.put, List.setIfInBounds_toArray, List.set_cons_zero, List.set_cons_succ]
  refine takeH_to (i := 7) (v := .int .i64 (Dk.opSync d.pl (nmL LA)).1) (some 12) rfl rfl (by kernel_rfl) (by kernel_rfl) (by kernel_rfl) (fun _ _ _ h => h) (Or.inl ⟨by rfl, fun u hu => by (try dsimp only at hu); go_simp <;> (first | rfl | omega)⟩) (by assumption) ?_
  try simp only [Act.put, List.setIfInBounds_toArray, List.set_cons_zero, List.set_cons_succ]
  refine wpAnyH_done (by kernel_rfl) ?_ _
  have q1 : ((Dk.opSync d.pl (nmL LA)).1 != 0) = true := by rw [bne_iff_ne]; exact hs
  have q2 : ((Dk.opSync d.pl (nmL LA)).1 == 0) = false := by rw [beq_eq_false_iff_ne]; exact hs
  go_wp2_with fail
  go_ret
  rw [EN2.out]
  exact ⟨rfl, d1, H8.out, p8, S8.out⟩
set_option maxHeartbeats 4000000 in
theorem lappend_next {B l b : Nat} {f m : Int} {d : Dk.Ds} {w : World} (h : Sys B l b f m d w) (hf : 1 ≤ f) (hf2 : f ≤ 99999) (x : ByteArray) (rest : Int) (hx : ¬ 2000 < x.size) (hr : lRefused d.pl (lPlace d.pl m (lLast d.pl f) (fr x).size) ((fr x).size + wi rest) = 0) (ht : ¬ lPlace d.pl m (lLast d.pl f) (fr x).size = lLast d.pl f) (hs : (Dk.opSync d.pl (nmL (lLast d.pl f))).1 = 0) :
    Calls Tryz.prog 13 #[.pointer (some ⟨l, 0, none⟩), .string x, .int .i64 rest] w fun e w' => e = .returned (.int .i64 (lAppend d.pl f m x rest).1) ∧ ∃ d', Sys B l b f m d' w' ∧ d'.pl = (lAppend d.pl f m x rest).2 ∧ Dk.Step (d.foot b) (d'.foot b) w w' := by
  have k45 := none_any h.lg
  have k46 : Aside (∀ u, Calls Tryz.prog 46 #[.string x] u fun e w' => e = .returned (.tuple #[.string (fr x), .int .i64 0]) ∧ Below u.heap.size u w') := fun u => by
    have := Fm.make_any x u (by omega)
    unfold Fm.mkE at this
    rw [if_neg (by omega)] at this
    exact this
  have k23 := asd (fun (u : World) (hu : Below w.heap.size w u) => llast_any (h.below hu))
  have hb := llast_bd d.pl hf hf2
  have hz := fr_size (x := x) (by omega)
  have k47 := asd (fun (u : World) (hu : Below w.heap.size w u) => place_any (h.below hu) (lLast d.pl f) ((fr x).size : Nat) (by omega) (by omega) (by omega) (by omega))
  have k37 := fun u => within_any rest u
  have k48 := asd (fun (u : World) (hu : Below w.heap.size w u) => refused_any (h.below hu) (lPlace d.pl m (lLast d.pl f) ((fr x).size : Nat)) ((fr x).size + wi rest))
  have hwi : 0 ≤ wi rest ∧ wi rest ≤ 1073741824 := by unfold wi; omega
  have H := asd h
  have EN2 := asd (lapp_next hx hr ht hs)
  clear h
  generalize hLA : lLast d.pl f = LA at *
  generalize hX : fr x = X at *
  have hz' : X.size ≤ 2010 := by omega
  clear hX hz
  generalize hTO : lPlace d.pl m LA (X.size : Nat) = TO at *
  generalize hWI : wi rest = WI at *
  generalize hRE : lRefused d.pl TO ((X.size : Nat) + WI) = RE at *
  clear hRE hTO hWI hLA
  subst hr
  have t1 : (TO != LA) = true := by rw [bne_iff_ne]; exact ht
  have t2 : (TO == LA) = false := by rw [beq_eq_false_iff_ne]; exact ht
  go_enter Tryz.func13, Tryz.ntmps13
  go_wp2_with (first
    | (go_at_call 45; refine k45.mono ?_; rintro e w1 ⟨rfl, rfl⟩)
    | (go_at_call 46; refine (k46.out _).mono ?_; rintro e w2 ⟨rfl, b2⟩)
    | (go_at_call 23; refine (k23.out _ b2).mono ?_; rintro e w3 ⟨rfl, b3⟩; have b3' := b2.trans (b3.mono b2.size))
    | (go_at_call 47; refine (k47.out _ b3').mono ?_; rintro e w4 ⟨rfl, b4⟩; have b4' := b3'.trans (b4.mono b3'.size))
    | (go_at_call 37; refine (k37 _).mono ?_; rintro e w5 ⟨rfl, rfl⟩)
    | (go_at_call 48; refine (k48.out _ b4').mono ?_; rintro e w6 ⟨rfl, b6⟩; have b6' := b4'.trans (b6.mono b4'.size)))
  have H6 := asd (H.out.below b6')
  have HD := asd (H6.out.below (show Below w6.heap.size w6 w6.drew from ⟨rfl, rfl, rfl, Nat.le_refl _, fun _ _ => rfl⟩))
  have ST0 := asd (Dk.Step.ofBelow (fo := d.foot b) (b6'.trans (show Below w1.heap.size w6 w6.drew from ⟨rfl, rfl, rfl, Nat.le_refl _, fun _ _ => rfl⟩)))
  have cd : w6.drew.cell? ⟨l, 0, none⟩ = some (.pointer (some ⟨b, 0, none⟩)) := HD.out.lg.c0
  refine wp_region_held_drew (S := (fun u => u.cell? ⟨l, 0, none⟩ = some (.pointer (some ⟨b, 0, none⟩)))) (by kernel_rfl) cd (fun hHeld => ?_)
  change wpAnyH _ _ _ _ _ _ _ _ (World.drew _)
  refine takeH_to (i := 0) (v := .pointer (some ⟨l, 0, none⟩)) (some 44) rfl rfl (by kernel_rfl) (by kernel_rfl) (by kernel_rfl) (fun _ _ _ h => h) (Or.inl ⟨by rfl, fun u hu => by (try dsimp only at hu); go_simp <;> (first | rfl | omega)⟩) (by assumption) ?_
  try simp only [Act.put, List.setIfInBounds_toArray, List.set_cons_zero, List.set_cons_succ]
  refine takeH_to (i := 1) (v := .pointer (some ⟨l, 0, none⟩)) (some 45) rfl rfl (by kernel_rfl) (by kernel_rfl) (by kernel_rfl) (fun _ _ _ h => h) (Or.inl ⟨by rfl, fun u hu => by (try dsimp only at hu); go_simp <;> (first | rfl | omega)⟩) (by assumption) ?_
  try simp only [Act.put, List.setIfInBounds_toArray, List.set_cons_zero, List.set_cons_succ]
  refine takeH_to (i := 2) (v := .pointer (some ⟨l, 0, none⟩)) (some 46) rfl rfl (by kernel_rfl) (by kernel_rfl) (by kernel_rfl) (fun _ _ _ h => h) (Or.inl ⟨by rfl, fun u hu => by (try dsimp only at hu); go_simp <;> (first | rfl | omega)⟩) (by assumption) ?_
  try simp only [Act.put, List.setIfInBounds_toArray, List.set_cons_zero, List.set_cons_succ]
  refine takeH_to (i := 3) (v := .pointer (some ⟨b, 0, none⟩)) (some 47) rfl rfl (by kernel_rfl) (by kernel_rfl) (by kernel_rfl) (fun _ _ _ h => h) (Or.inl ⟨by rfl, fun u hu => by (try dsimp only at hu); go_simp <;> (first | rfl | omega)⟩) (by assumption) ?_
  try simp only [Act.put, List.setIfInBounds_toArray, List.set_cons_zero, List.set_cons_succ]
  refine takeH_to (i := 4) (v := .int .i64 LA) (some 48) rfl rfl (by kernel_rfl) (by kernel_rfl) (by kernel_rfl) (fun _ _ _ h => h) (Or.inl ⟨by rfl, fun u hu => by (try dsimp only at hu); go_simp <;> (first | rfl | omega)⟩) (by assumption) ?_
  try simp only [Act.put, List.setIfInBounds_toArray, List.set_cons_zero, List.set_cons_succ]
  refine wpAnyH_ready (rs := [5]) (by kernel_rfl) (by simp) ?_
  refine AllReadyH.cons rfl (fun K hK => ?_) AllReadyH.nil
  rw [if_pos (by rfl)]
  go_simp
  go_at_call 36
  refine (lname_any LA _ HD.out.vars).mono ?_
  rintro e w7 ⟨rfl, b7⟩
  have H7 := asd (HD.out.below b7)
  have c7 := H7.out.lg.c0
  go_simp
  refine hK.out _ _ c7 (fun hHeld => ?_)
  clear hK K
  try simp only [Act.put, List.setIfInBounds_toArray, List.set_cons_zero, List.set_cons_succ]
  refine wpAnyH_ready (rs := [6]) (by kernel_rfl) (by simp) ?_
  refine AllReadyH.cons rfl (fun K hK => ?_) AllReadyH.nil
  rw [if_pos (by rfl)]
  go_simp
  go_at_call 49
  refine (Dk.sync_any H7.out.rep H7.out.ok (nmL LA)).mono ?_
  rintro e w8 ⟨rfl, d1, r8, p8, s8⟩
  have H8 := asd (H7.out.step r8 (by rw [p8]; exact H7.out.ok.opSync _) (syn_sz H7.out.sz p8) s8 H7.out.hs)
  have c8 := H8.out.lg.c0
  have S8 := asd ((ST0.out.trans (Dk.Step.ofBelow b7)).trans s8)
  go_simp
  refine hK.out _ _ c8 (fun hHeld => ?_)
  clear hK K
  try simp only [Act.put, List.setIfInBounds_toArray, List.set_cons_zero, List.set_cons_succ]
  refine takeH_to (i := 7) (v := .int .i64 (Dk.opSync d.pl (nmL LA)).1) (some 12) rfl rfl (by kernel_rfl) (by kernel_rfl) (by kernel_rfl) (fun _ _ _ h => h) (Or.inl ⟨by rfl, fun u hu => by (try dsimp only at hu); go_simp <;> (first | rfl | omega)⟩) (by assumption) ?_
  try simp only [Act.put, List.setIfInBounds_toArray, List.set_cons_zero, List.set_cons_succ]
  refine wpAnyH_done (by kernel_rfl) ?_ _
  have q1 : ((Dk.opSync d.pl (nmL LA)).1 != 0) = false := by rw [hs]; rfl
  have q2 : ((Dk.opSync d.pl (nmL LA)).1 == 0) = true := by rw [hs]; rfl
  go_wp2_with fail
  have HD2 := asd (H8.out.below (show Below w8.heap.size w8 w8.drew from ⟨rfl, rfl, rfl, Nat.le_refl _, fun _ _ => rfl⟩))
  have ST2 := asd (S8.out.trans (Dk.Step.ofBelow (fo := d1.foot b) (show Below w8.heap.size w8 w8.drew from ⟨rfl, rfl, rfl, Nat.le_refl _, fun _ _ => rfl⟩)))
  have cd2 : w8.drew.cell? ⟨l, 0, none⟩ = some (.pointer (some ⟨b, 0, none⟩)) := HD2.out.lg.c0
  refine wp_region_held_drew (S := (fun u => u.cell? ⟨l, 0, none⟩ = some (.pointer (some ⟨b, 0, none⟩)))) (by kernel_rfl) cd2 (fun hHeld => ?_)
  change wpAnyH _ _ _ _ _ _ _ _ (World.drew _)
  refine takeH_to (i := 0) (v := .pointer (some ⟨l, 0, none⟩)) (some 54) rfl rfl (by kernel_rfl) (by kernel_rfl) (by kernel_rfl) (fun _ _ _ h => h) (Or.inl ⟨by rfl, fun u hu => by (try dsimp only at hu); go_simp <;> (first | rfl | omega)⟩) (by assumption) ?_
  try simp only [Act.put, List.setIfInBounds_toArray, List.set_cons_zero, List.set_cons_succ]
  refine takeH_to (i := 1) (v := .pointer (some ⟨l, 0, none⟩)) (some 55) rfl rfl (by kernel_rfl) (by kernel_rfl) (by kernel_rfl) (fun _ _ _ h => h) (Or.inl ⟨by rfl, fun u hu => by (try dsimp only at hu); go_simp <;> (first | rfl | omega)⟩) (by assumption) ?_
  try simp only [Act.put, List.setIfInBounds_toArray, List.set_cons_zero, List.set_cons_succ]
  refine takeH_to (i := 2) (v := .pointer (some ⟨l, 0, none⟩)) (some 56) rfl rfl (by kernel_rfl) (by kernel_rfl) (by kernel_rfl) (fun _ _ _ h => h) (Or.inl ⟨by rfl, fun u hu => by (try dsimp only at hu); go_simp <;> (first | rfl | omega)⟩) (by assumption) ?_
  try simp only [Act.put, List.setIfInBounds_toArray, List.set_cons_zero, List.set_cons_succ]
  refine takeH_to (i := 3) (v := .pointer (some ⟨b, 0, none⟩)) (some 57) rfl rfl (by kernel_rfl) (by kernel_rfl) (by kernel_rfl) (fun _ _ _ h => h) (Or.inl ⟨by rfl, fun u hu => by (try dsimp only at hu); go_simp <;> (first | rfl | omega)⟩) (by assumption) ?_
  try simp only [Act.put, List.setIfInBounds_toArray, List.set_cons_zero, List.set_cons_succ]
  refine takeH_to (i := 4) (v := .int .i64 TO) (some 58) rfl rfl (by kernel_rfl) (by kernel_rfl) (by kernel_rfl) (fun _ _ _ h => h) (Or.inl ⟨by rfl, fun u hu => by (try dsimp only at hu); go_simp <;> (first | rfl | omega)⟩) (by assumption) ?_
  try simp only [Act.put, List.setIfInBounds_toArray, List.set_cons_zero, List.set_cons_succ]
  refine takeH_to (i := 6) (v := .string X) (some 60) rfl rfl (by kernel_rfl) (by kernel_rfl) (by kernel_rfl) (fun _ _ _ h => h) (Or.inl ⟨by rfl, fun u hu => by (try dsimp only at hu); go_simp <;> (first | rfl | omega)⟩) (by assumption) ?_
  try simp only [Act.put, List.setIfInBounds_toArray, List.set_cons_zero, List.set_cons_succ]
  refine wpAnyH_ready (rs := [5]) (by kernel_rfl) (by simp) ?_
  refine AllReadyH.cons rfl (fun K hK => ?_) AllReadyH.nil
  rw [if_pos (by rfl)]
  go_simp
  go_at_call 36
  refine (lname_any TO _ HD2.out.vars).mono ?_
  rintro e w9 ⟨rfl, b9⟩
  have H9 := asd (HD2.out.below b9)
  have c9 := H9.out.lg.c0
  go_simp
  refine hK.out _ _ c9 (fun hHeld => ?_)
  clear hK K
  try simp only [Act.put, List.setIfInBounds_toArray, List.set_cons_zero, List.set_cons_succ]
  refine wpAnyH_ready (rs := [7]) (by kernel_rfl) (by simp) ?_
  refine AllReadyH.cons rfl (fun K hK => ?_) AllReadyH.nil
  rw [if_pos (by rfl)]
  go_simp
  go_at_call 33
  refine (Dk.append_any H9.out.rep H9.out.ok (nmL TO) X).mono ?_
  rintro e w10 ⟨rfl, d2, r10, p10, s10⟩
  have H10 := asd (H9.out.step r10 (by rw [p10]; exact H9.out.ok.opAppend _ _) (app_sz H9.out.sz p10) s10 H9.out.hs)
  have c10 := H10.out.lg.c0
  have S10 := asd ((ST2.out.trans (Dk.Step.ofBelow b9)).trans s10)
  go_simp
  refine hK.out _ _ c10 (fun hHeld => ?_)
  clear hK K
  try simp only [Act.put, List.setIfInBounds_toArray, List.set_cons_zero, List.set_cons_succ]
  refine takeH_to (i := 8) (v := .int .i64 (Dk.opAppend d1.pl (nmL TO) X).1) (some 6) rfl rfl (by kernel_rfl) (by kernel_rfl) (by kernel_rfl) (fun _ _ _ h => h) (Or.inl ⟨by rfl, fun u hu => by (try dsimp only at hu); go_simp <;> (first | rfl | omega)⟩) (by assumption) ?_
  try simp only [Act.put, List.setIfInBounds_toArray, List.set_cons_zero, List.set_cons_succ]
  refine wpAnyH_done (by kernel_rfl) ?_ _
  go_wp2_with fail
  go_ret
  rw [EN2.out, ← p8]
  exact ⟨rfl, d2, H10.out, p10, S10.out⟩
theorem lappend_any {B l b : Nat} {f m : Int} {d : Dk.Ds} {w : World} (h : Sys B l b f m d w) (hf : 1 ≤ f) (hf2 : f ≤ 99999) (x : ByteArray) (rest : Int) (hx : x.size ≤ 1000000) :
    Calls Tryz.prog 13 #[.pointer (some ⟨l, 0, none⟩), .string x, .int .i64 rest] w fun e w' => e = .returned (.int .i64 (lAppend d.pl f m x rest).1) ∧ ∃ d', Sys B l b f m d' w' ∧ d'.pl = (lAppend d.pl f m x rest).2 ∧ Dk.Step (d.foot b) (d'.foot b) w w' := by
  by_cases h1 : 2000 < x.size
  · exact lappend_long h hf hf2 x rest h1 hx
  · by_cases hr : lRefused d.pl (lPlace d.pl m (lLast d.pl f) (fr x).size) ((fr x).size + wi rest) = 0
    · by_cases ht : lPlace d.pl m (lLast d.pl f) (fr x).size = lLast d.pl f
      · exact lappend_same h hf hf2 x rest h1 hr ht
      · by_cases hs : (Dk.opSync d.pl (nmL (lLast d.pl f))).1 = 0
        · exact lappend_next h hf hf2 x rest h1 hr ht hs
        · exact lappend_unsure h hf hf2 x rest h1 hr ht hs
    · exact lappend_refused h hf hf2 x rest h1 hr
end Go.Proofs.YtajjcfacbnicnaaGreatDoor

/-
  The records, plain; texts that are appended to others.
-/
namespace Go.Proofs.YtajjcfacbnicnaaGreatDoor
open Go.RowKit
set_option maxRecDepth 100000
namespace Fm.Fr
theorem spx_len {l : B} {acc : List B} {pos : Nat} : (spx l acc pos).1.length ≤ acc.length + l.length := by
  generalize hn : l.length = n
  induction n using Nat.strongRecOn generalizing l acc pos with
  | _ n ih =>
    by_cases hl : l = []
    · rw [hl, spx_nil]
      simp
    · by_cases h : (first l).2.2 = 0
      · have := first_ok h
        rw [spx_ok acc pos hl h]
        have h2 := ih (l.drop (first l).2.1).length (by rw [List.length_drop]; omega) (l := l.drop (first l).2.1) (acc := acc ++ [(first l).1]) (pos := pos + (first l).2.1) rfl
        rw [List.length_append, List.length_drop] at h2
        simp at h2
        omega
      · rw [spx_bad acc pos hl h]
        simp
theorem spx_e {l : B} {acc : List B} {pos : Nat} : (spx l acc pos).2.2 ≤ 5 := by
  generalize hn : l.length = n
  induction n using Nat.strongRecOn generalizing l acc pos with
  | _ n ih =>
    by_cases hl : l = []
    · rw [hl, spx_nil]
      simp
    · by_cases h : (first l).2.2 = 0
      · have := first_ok h
        rw [spx_ok acc pos hl h]
        exact ih (l.drop (first l).2.1).length (by rw [List.length_drop]; omega) (l := l.drop (first l).2.1) rfl
      · rw [spx_bad acc pos hl h]
        exact first_e l
end Fm.Fr
/-- What a segment is read as: its contents, how much of it is whole, its fault. -/
def spl (s : Dk.St) (n : Int) : List (List UInt8) × Nat × Nat := Fm.Fr.spx (tx s n).data.toList [] 0
/-- The records of the segments with these numbers. -/
def recs (s : Dk.St) : List Int → List ByteArray → List ByteArray × Int × Dk.St
  | [], acc => (acc, 0, s)
  | n :: r, acc =>
    if (spl s n).2.2 = 3 ∧ r = [] then
      (if (Dk.opCut s (nmL n) (spl s n).2.1).1 = 0 then (acc ++ (spl s n).1.map Fm.bs, 0, (Dk.opCut s (nmL n) (spl s n).2.1).2)
        else ([], (Dk.opCut s (nmL n) (spl s n).2.1).1, (Dk.opCut s (nmL n) (spl s n).2.1).2))
    else if (spl s n).2.2 = 0 then recs s r (acc ++ (spl s n).1.map Fm.bs) else ([], ((spl s n).2.2 : Int), s)
theorem recs_cut {s : Dk.St} {n : Int} {acc : List ByteArray} (h : (spl s n).2.2 = 3) (hc : (Dk.opCut s (nmL n) (spl s n).2.1).1 = 0) : recs s [n] acc = (acc ++ (spl s n).1.map Fm.bs, 0, (Dk.opCut s (nmL n) (spl s n).2.1).2) := by
  unfold recs
  rw [if_pos ⟨h, rfl⟩, if_pos hc]
theorem recs_dead {s : Dk.St} {n : Int} {acc : List ByteArray} (h : (spl s n).2.2 = 3) (hc : (Dk.opCut s (nmL n) (spl s n).2.1).1 ≠ 0) : recs s [n] acc = ([], (Dk.opCut s (nmL n) (spl s n).2.1).1, (Dk.opCut s (nmL n) (spl s n).2.1).2) := by
  unfold recs
  rw [if_pos ⟨h, rfl⟩, if_neg hc]
theorem recs_bad {s : Dk.St} {n : Int} {r : List Int} {acc : List ByteArray} (h0 : (spl s n).2.2 ≠ 0) (h : ¬ ((spl s n).2.2 = 3 ∧ r = [])) : recs s (n :: r) acc = ([], ((spl s n).2.2 : Int), s) := by
  unfold recs
  rw [if_neg h, if_neg h0]
theorem recs_go {s : Dk.St} {n : Int} {r : List Int} {acc : List ByteArray} (h0 : (spl s n).2.2 = 0) : recs s (n :: r) acc = recs s r (acc ++ (spl s n).1.map Fm.bs) := by
  conv => lhs; unfold recs
  rw [if_neg (by rw [h0]; omega), if_pos h0]
theorem spl_len {d : Dk.Ds} (ok : Dk.Ok d.pl) (n : Int) : ((spl d.pl n).1.map Fm.bs).length ≤ 60000 := by
  have h1 := Fm.Fr.spx_len (l := (tx d.pl n).data.toList) (acc := []) (pos := 0)
  have h2 := lg_text_len ok n
  have h3 : (tx d.pl n).data.toList.length = (tx d.pl n).size := rfl
  rw [List.length_map]
  unfold spl
  simp at h1
  omega
theorem Sys.grown {B l b : Nat} {f m : Int} {d : Dk.Ds} {w w' : World} {r : Option Nat} (h : Sys B l b f m d w) (g : w.grownBy w' r) (hr : ∀ k, r = some k → k ∉ d.foot b ∧ k ≠ l ∧ B ≤ k) : Sys B l b f m d w' := by
  have hk : ∀ k, k < w.heap.size → (∀ j, r = some j → k ≠ j) → w'.heap[k]? = w.heap[k]? := fun k h1 h2 => g.block k h1 (fun e => h2 k e.symm rfl)
  have hs := h.hs
  refine ⟨h.rep.frame fun k hkf => hk k (h.rep.lt k hkf).2 (fun j hj e => (hr j hj).1 (e ▸ hkf)), h.ok, h.sz, (hk l h.lg.lt (fun j hj e => (hr j hj).2.1 e.symm)).trans h.lg, h.out, ?_, h.hB⟩
  refine h.vars.keep h.hB (B := B) ⟨g.os, g.tape, g.output, g.size, fun k hkB => hk k (by omega) (fun j hj e => ?_)⟩
  have := (hr j hj).2.2
  omega
theorem step_grown {fo fo' : List Nat} {w u u' : World} {r : Option Nat} (h : Dk.Step fo fo' w u) (g : u.grownBy u' r) (hr : ∀ k, r = some k → w.heap.size ≤ k) : Dk.Step fo fo' w u' :=
  ⟨g.os.trans h.os, g.tape.trans h.tape, g.output.trans h.output, Nat.le_trans h.size g.size, fun k hk hn => (g.block k (Nat.lt_of_lt_of_le hk h.size) (fun e => by
    have := hr k e.symm
    omega)).trans (h.block k hk hn), h.sub⟩
open Fm (cellsS)
theorem cellsS_len (l : List ByteArray) : (cellsS l).length = l.length := by simp [cellsS]
theorem cellsS_app (a b : List ByteArray) : cellsS (a ++ b) = cellsS a ++ cellsS b := by simp [cellsS]
/-- append(l1, l...) of texts. -/
theorem append_texts {base base2 : Nat} {w : World} {v x : Value} {l1 l : List ByteArray} (hown : w.ownsRow base 9 1 v l1.length (cellsS l1)) (hx : w.ownsRow base2 9 1 x l.length (cellsS l)) (hb : base ≤ w.heap.size) (hl : l1.length + l.length ≤ 10000000) (ty : TypeId) :
    ∃ v' w', (Builtin.append_ #[30, 30] ty #[v, x]).run Tryz.prog w = .ok v' w' ∧ w'.ownsRow base 9 1 v' (l1 ++ l).length (cellsS (l1 ++ l)) ∧ w.grownBy w' v.ownBlock ∧ (v'.ownBlock = v.ownBlock ∨ v'.ownBlock = some w.heap.size) := by
  obtain ⟨i0, hi, hz0, hz1, hz2⟩ := info_parts Dk.info9
  rcases hx.2 with ⟨rfl, h0⟩ | ⟨g, c, cur, rfl, hg, hh, _⟩
  · have hl0 : l = [] := List.eq_nil_of_length_eq_zero h0
    subst hl0
    refine ⟨v, w, run_append_owned_none (P := Tryz.prog) (w := w) base 30 ty 9 i0 1 Tryz.underlying30 hi v _ _ hown, ?_, ⟨rfl, rfl, rfl, Nat.le_refl _, fun _ _ _ => rfl⟩, .inl rfl⟩
    rw [List.append_nil]
    exact hown
  · obtain ⟨v', w', h1, h2, h3, _, h5⟩ := run_append_own_at (P := Tryz.prog) (w := w) base 30 ty 9 i0 (.string ⟨#[]⟩) 1 16 Tryz.underlying30 hi hz0 hz1 hz2 rfl (by decide) v _ _ hown ⟨g, 0, none⟩ l.length c (cellsS l) (by rw [cellsS_len]; omega) (fun j u hj => by
        rw [Go.WideShapes.add_plain, Nat.zero_add]
        exact Dk.own_cell hx rfl hj) (fun u hu => by
        simp only [cellsS, List.mem_map] at hu
        obtain ⟨a, _, rfl⟩ := hu
        rfl) (by unfold maxLen; omega) (by omega) hb
    refine ⟨v', w', h1, ?_, h3, h5⟩
    rw [List.length_append, cellsS_app]
    exact h2
/-- append whose run is known. -/
theorem wpList_append_eq {P : Program} {ops : Array Oper} {rest : List Oper} {o : Oper} {a : Act} {w : World} {Q : Exit → Act → World → Prop} (hgd : o.guard = none) (s x : Operand) (t : TypeId)
    (ho : o.op = .call { callee := .builtin .append, args := #[s, x], argTypes := #[t, t] }) (v y : Value) (hs : a.eval s = v) (hx : a.eval x = y) (v' : Value) (w' : World) (hr : (Builtin.append_ #[t, t] o.type #[v, y]).run P w = .ok v' w')
    (h : wpList P ops Q rest (a.put o.dst v') w') : wpList P ops Q (o :: rest) a w := by
  refine wpList_plain hgd fun K hK => ?_
  unfold Oper.wp execOp
  simp only [ho, resolve, invoke, builtin, Sem.run_bind, Sem.run_pure, Result.andThen_ok, List.map_toArray, List.map_cons, List.map_nil, hs, hx, hr]
  exact hK _ _ h
end Go.Proofs.YtajjcfacbnicnaaGreatDoor
