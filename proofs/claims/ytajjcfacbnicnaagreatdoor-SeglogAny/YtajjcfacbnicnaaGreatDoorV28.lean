/-
  YtajjcfacbnicnaaGreatDoor: the texts T12, T13, one behind the other.
-/
import Derived.Test.YtajjcfacbnicnaaGreatDoorV27
import Derived.Test.YtajjcfacbnicnaaGreatDoorV2
import Derived.Deep.RegionHeld3
import Derived.WalkKit
import Derived.WalkSpells
import Derived.WalkLawsBesides
import Derived.Deep.LoopGhost
import Derived.Laws.Externs
import Derived.Below
import Derived.BigQuiet
import Derived.Deep.RegionWith
import Derived.OwnWalk
import Derived.Maps.AppendAt
import Derived.WalkSmall
/-
  The records.
-/
namespace Go.Proofs.YtajjcfacbnicnaaGreatDoor
open Go.RowKit
set_option maxRecDepth 100000
open Dk (takeH_to)
open Fm (cellsS)
theorem split_is {d : Dk.Ds} (ok : Dk.Ok d.pl) (n : Int) (u : World) : Calls Tryz.prog 83 #[.string (tx d.pl n)] u fun e w' => ∃ v, e = .returned (.tuple #[v, .int .i64 ((spl d.pl n).2.1 : Nat), .int .i64 ((spl d.pl n).2.2 : Nat)]) ∧ w'.ownsRow u.heap.size 9 1 v ((spl d.pl n).1.map Fm.bs).length (cellsS ((spl d.pl n).1.map Fm.bs)) ∧ Below u.heap.size u w' := by
  refine (Fm.split_any (tx d.pl n) u (by have := lg_text_len ok n; omega)).mono ?_
  rintro e w' ⟨v, h1, h2, h3⟩
  exact ⟨v, h1, by rw [List.length_map]; exact h2, h3⟩
theorem cut_sz {s : Dk.Ds} {d : Dk.Ds} {y : ByteArray} {k : Int} (h : ∀ n ∈ s.names, n.size ≤ 1000) (e : d.pl = (Dk.opCut s.pl y k).2) : ∀ n ∈ d.names, n.size ≤ 1000 := fun n hn => by
  rw [← Dk.names_pl, e, names_cut, Dk.names_pl] at hn
  exact h n hn
/-- What is handed on from round to round. -/
def RI (B l b : Nat) (f m : Int) (d : Dk.Ds) (L : List Int) (R : List ByteArray × Int × Dk.St) (w : World) (k : Nat) (acc : List ByteArray) (d1 : Dk.Ds) (u : World) : Prop :=
  Sys B l b f m d1 u ∧ Dk.Step (d.foot b) (d1.foot b) w u ∧ recs d1.pl (L.drop k) acc = R ∧ (k < L.length → d1 = d ∧ Below w.heap.size w u)
theorem acc_le {a x k n : Nat} (h : a ≤ 60000 * k) (hk : k < n) (hn : n ≤ 16) (hx : x ≤ 60000) : a + x ≤ 10000000 := by
  have : k ≤ 15 := by omega
  omega
set_option maxHeartbeats 8000000 in
theorem records_any {B l b : Nat} {f m : Int} {d : Dk.Ds} {w : World} (h : Sys B l b f m d w) {v : Value} {L : List Int} (hv : Ints w v L) (hL : L.length ≤ 16) :
    Calls Tryz.prog 40 #[.pointer (some ⟨l, 0, none⟩), v] w fun e w' => ∃ v' d', e = .returned (.tuple #[v', .int .i64 (recs d.pl L []).2.1]) ∧ w'.ownsRow w.heap.size 9 1 v' (recs d.pl L []).1.length (cellsS (recs d.pl L []).1) ∧ Sys B l b f m d' w' ∧ d'.pl = (recs d.pl L []).2.2 ∧ Dk.Step (d.foot b) (d'.foot b) w w' ∧ (∀ j, v'.ownBlock = some j → j ∉ d'.foot b) := by
  obtain ⟨a, c, rfl, hc⟩ := hv.form
  have HC := asd hc
  have FT := asd (fun k hk => (h.rep.lt k hk).2)
  have LT := asd h.lg.lt
  have BT := asd h.hs
  have OK := asd h.ok
  have K71 := asd (fun (n : Int) (u : World) (hu : Sys B l b f m d u) => text_any hu n)
  have K83 := asd (fun (n : Int) (u : World) => split_is h.ok n u)
  have XL := asd (fun n => spl_len h.ok n)
  generalize hR : recs d.pl L [] = R
  have I0 : Aside (RI B l b f m d L R w 0 [] d w) := ⟨h, Dk.Step.refl _ _, hR, fun _ => ⟨rfl, Below.refl _ _⟩⟩
  have GR := asd (fun (d1 : Dk.Ds) (u u' : World) (x : Value) (n : Nat) (xs : List Value) (hs : Sys B l b f m d1 u) (hst : Dk.Step (d.foot b) (d1.foot b) w u) (ho : u.ownsRow w.heap.size 9 1 x n xs) (hx : ∀ j, x.ownBlock = some j → j ∉ d1.foot b) (g : u.grownBy u' x.ownBlock) => (show Sys B l b f m d1 u' ∧ Dk.Step (d.foot b) (d1.foot b) w u' from
    ⟨hs.grown g (fun j hj => ⟨hx j hj, by have := (ho.lt j hj).1; have := LT.out; omega, by have := (ho.lt j hj).1; have := BT.out; omega⟩), step_grown hst g (fun j hj => (ho.lt j hj).1)⟩))
  clear h hc hv hR
  go_enter Tryz.func40, Tryz.ntmps40
  go_wp2
  go_loopg [14, 6, 7, 8, 9, 10, 11] L.length (fun gh s14 s6 _ _ _ _ _ wr => ∃ (k : Nat) (acc : List ByteArray) (d1 : Dk.Ds), L.length - k ≤ gh ∧ k ≤ L.length ∧ s14 = .int .i64 (k : Int) ∧ wr.ownsRow w.heap.size 9 1 s6 acc.length (cellsS acc) ∧ acc.length ≤ 60000 * k ∧ Aside (RI B l b f m d L R w k acc d1 wr) ∧ Aside (∀ j, s6.ownBlock = some j → j ∉ d1.foot b))
  case atStart => exact ⟨0, [], d, by omega, by omega, rfl, World.ownsRow_nil _ _ _ _, by simp, I0, fun j hj => by cases hj⟩
  case round =>
    obtain ⟨k, acc, d1, hgh, hk, rfl, own, hacc, I, NI⟩ := hrel
    clear I0
    obtain ⟨a6, c6, rfl⟩ := Dk.own_any own
    have OWN := asd own
    clear own
    by_cases hlt : k < L.length
    · have dk : decide (k < L.length) = true := by simpa using hlt
      obtain ⟨rfl, bel⟩ := I.out.2.2.2 hlt
      have HR := asd I.out.1
      have ST := asd I.out.2.1
      have BE := asd bel
      have RE : Aside (recs d1.pl (L[k] :: L.drop (k + 1)) acc = R) := by
        have := I.out.2.2.1
        rw [List.drop_eq_getElem_cons hlt] at this
        exact this
      obtain ⟨g, o, e1, k1⟩ := HC.out k hlt
      subst e1
      replace k1 := Dk.cell_below k1 bel
      have FO : Aside (∀ j, (Value.slice a6 acc.length c6).ownBlock = some j → j ∉ d1.foot b) := fun j hj hm => by
        have h1 := (OWN.out.lt j hj).1
        have h2 := FT.out j hm
        omega
      clear I bel
      generalize L[k] = n at *
      have K1 := asd (K71.out n)
      have K2 := asd (K83.out n)
      have hxl := XL.out n
      clear K71 K83 XL
      by_cases h0 : (spl d1.pl n).2.2 = 0
      · have RG : Aside (recs d1.pl (L.drop (k + 1)) (acc ++ (spl d1.pl n).1.map Fm.bs) = R) := by rw [← recs_go h0]; exact RE.out
        rw [h0] at K2
        clear h0 RE
        generalize (spl d1.pl n).2.1 = P at *
        generalize (spl d1.pl n).1.map Fm.bs = X at *
        generalize tx d1.pl n = T at *
        go_wp2_with (first
          | (go_at_call 71; refine (K1.out _ HR.out).mono ?_; rintro e w2 ⟨rfl, b2⟩; have own2 := asd (own_below OWN.out b2))
          | (go_at_call 83; refine (K2.out _).mono ?_; rintro e w3 ⟨v9, rfl, o9, b3⟩; obtain ⟨a9, c9, rfl⟩ := Dk.own_any o9; have bb := b2.trans (b3.mono b2.size); have H3 := asd (HR.out.below bb); have own3 := own_below own2.out b3; have ST3 := asd (ST.out.trans (Dk.Step.ofBelow bb)); have BE3 := asd (BE.out.trans (bb.mono BE.out.size)); obtain ⟨v10, w10, ha, ho, hg, hv⟩ := append_texts own3 o9 BE3.out.size (acc_le hacc hlt hL hxl) 30; have GG := asd (GR.out d1 w3 w10 _ _ _ H3.out ST3.out own3 FO.out hg); have BE10 := asd (BE3.out.grown hg BE3.out.size (fun j hj => (own3.lt j hj).1)); have HO := asd ho; clear own3 o9 hg ho)
          | (at_builtin; refine wpList_append_eq rfl (.tmp 47) (.tmp 48) 30 rfl _ _ rfl rfl v10 w10 ha ?_))
        go_roundg (L.length - (k + 1))
        case measure => omega
        case rel => exact ⟨k + 1, acc ++ X, d1, Nat.le_refl _, by omega, by go_num, HO.out, by rw [List.length_append]; omega, ⟨GG.out.1, GG.out.2, RG.out, fun _ => ⟨rfl, BE10.out⟩⟩, fun j hj hm => by have h1 := (HO.out.lt j hj).1; have h2 := FT.out j hm; omega⟩
      · have hF := Fm.Fr.spx_e (l := (tx d1.pl n).data.toList) (acc := []) (pos := 0)
        have f0 : (((spl d1.pl n).2.2 : Int) != 0) = true := by rw [bne_iff_ne]; omega
        have f0' : (((spl d1.pl n).2.2 : Int) == 0) = false := by rw [beq_eq_false_iff_ne]; omega
        have f0'' : ¬ ((spl d1.pl n).2.2 : Int) = 0 := by omega
        by_cases h3 : (spl d1.pl n).2.2 = 3
        · by_cases hl : k + 1 = L.length
          · have hnil : L.drop (k + 1) = [] := List.drop_eq_nil_of_le (by omega)
            rw [hnil] at RE
            have q1 : ((k : Int) == (L.length : Int) - 1) = true := by rw [beq_iff_eq]; omega
            have q1' : (L.length : Int) - 1 = (k : Int) := by omega
            rw [h3] at K2
            have CT := asd (fun (u : World) (hu : Sys B l b f m d1 u) => Dk.cut_any hu.rep hu.ok (nmL n) ((spl d1.pl n).2.1 : Int))
            by_cases hc : (Dk.opCut d1.pl (nmL n) (spl d1.pl n).2.1).1 = 0
            · have RG : Aside ((acc ++ (spl d1.pl n).1.map Fm.bs, (0 : Int), (Dk.opCut d1.pl (nmL n) (spl d1.pl n).2.1).2) = R) := by rw [← recs_cut h3 hc]; exact RE.out
              clear h0 h3 RE f0 f0' f0'' hF
              rw [hc] at CT
              have PC := asd (fun (d2 : Dk.Ds) (hp : d2.pl = (Dk.opCut d1.pl (nmL n) (spl d1.pl n).2.1).2) => (show Dk.Ok d2.pl ∧ ∀ t ∈ d2.names, t.size ≤ 1000 from ⟨by rw [hp]; exact OK.out.opCut _ _, cut_sz HR.out.sz hp⟩))
              clear hc
              generalize (Dk.opCut d1.pl (nmL n) (spl d1.pl n).2.1).2 = C2 at *
              generalize (spl d1.pl n).2.1 = P at *
              generalize (spl d1.pl n).1.map Fm.bs = X at *
              generalize tx d1.pl n = T at *
              go_wp2_with (first
                | (go_at_call 71; refine (K1.out _ HR.out).mono ?_; rintro e w2 ⟨rfl, b2⟩; have own2 := asd (own_below OWN.out b2))
                | (go_at_call 83; refine (K2.out _).mono ?_; rintro e w3 ⟨v9, rfl, o9, b3⟩; obtain ⟨a9, c9, rfl⟩ := Dk.own_any o9; have O9 := asd o9; have bb := b2.trans (b3.mono b2.size); have H3 := asd (HR.out.below bb); have own3 := asd (own_below own2.out b3); have ST3 := asd (ST.out.trans (Dk.Step.ofBelow bb)); have BE3 := asd (BE.out.trans (bb.mono BE.out.size)); clear o9))
              have dr : Below w3.heap.size w3 w3.drew := ⟨rfl, rfl, rfl, Nat.le_refl _, fun _ _ => rfl⟩
              have HD := asd (H3.out.below dr)
              have cd : w3.drew.cell? ⟨l, 0, none⟩ = some (.pointer (some ⟨b, 0, none⟩)) := HD.out.lg.c0
              refine wp_region_held_drew (S := (fun u => u.cell? ⟨l, 0, none⟩ = some (.pointer (some ⟨b, 0, none⟩)))) (by kernel_rfl) cd (fun hHeld => ?_)
              change wpAnyH _ _ _ _ _ _ _ _ (World.drew _)
              refine takeH_to (i := 0) (v := .pointer (some ⟨l, 0, none⟩)) (some 36) rfl rfl (by kernel_rfl) (by kernel_rfl) (by kernel_rfl) (fun _ _ _ h => h) (Or.inl ⟨by rfl, fun u hu => by (try dsimp only at hu); go_simp <;> (first | rfl | omega)⟩) (by assumption) ?_
              try simp only [Act.put, List.setIfInBounds_toArray, List.set_cons_zero, List.set_cons_succ]
              refine takeH_to (i := 1) (v := .pointer (some ⟨l, 0, none⟩)) (some 37) rfl rfl (by kernel_rfl) (by kernel_rfl) (by kernel_rfl) (fun _ _ _ h => h) (Or.inl ⟨by rfl, fun u hu => by (try dsimp only at hu); go_simp <;> (first | rfl | omega)⟩) (by assumption) ?_
              try simp only [Act.put, List.setIfInBounds_toArray, List.set_cons_zero, List.set_cons_succ]
              refine takeH_to (i := 2) (v := .pointer (some ⟨l, 0, none⟩)) (some 38) rfl rfl (by kernel_rfl) (by kernel_rfl) (by kernel_rfl) (fun _ _ _ h => h) (Or.inl ⟨by rfl, fun u hu => by (try dsimp only at hu); go_simp <;> (first | rfl | omega)⟩) (by assumption) ?_
              try simp only [Act.put, List.setIfInBounds_toArray, List.set_cons_zero, List.set_cons_succ]
              refine takeH_to (i := 3) (v := .pointer (some ⟨b, 0, none⟩)) (some 39) rfl rfl (by kernel_rfl) (by kernel_rfl) (by kernel_rfl) (fun _ _ _ h => h) (Or.inl ⟨by rfl, fun u hu => by (try dsimp only at hu); go_simp <;> (first | rfl | omega)⟩) (by assumption) ?_
              try simp only [Act.put, List.setIfInBounds_toArray, List.set_cons_zero, List.set_cons_succ]
              refine takeH_to (i := 4) (v := .int .i64 n) (some 40) rfl rfl (by kernel_rfl) (by kernel_rfl) (by kernel_rfl) (fun _ _ _ h => h) (Or.inl ⟨by rfl, fun u hu => by (try dsimp only at hu); go_simp <;> (first | rfl | omega)⟩) (by assumption) ?_
              try simp only [Act.put, List.setIfInBounds_toArray, List.set_cons_zero, List.set_cons_succ]
              refine takeH_to (i := 6) (v := .int .i64 (P : Int)) (some 42) rfl rfl (by kernel_rfl) (by kernel_rfl) (by kernel_rfl) (fun _ _ _ h => h) (Or.inl ⟨by rfl, fun u hu => by (try dsimp only at hu); go_simp <;> (first | rfl | omega)⟩) (by assumption) ?_
              try simp only [Act.put, List.setIfInBounds_toArray, List.set_cons_zero, List.set_cons_succ]
              refine wpAnyH_ready (rs := [5]) (by kernel_rfl) (by simp) ?_
              refine AllReadyH.cons rfl (fun K hK => ?_) AllReadyH.nil
              rw [if_pos (by rfl)]
              go_simp
              go_at_call 36
              refine (lname_any n _ HD.out.vars).mono ?_
              rintro e w4 ⟨rfl, b4⟩
              have H4 := asd (HD.out.below b4)
              have c4 := H4.out.lg.c0
              have db := dr.trans (b4.mono dr.size)
              have own4 := asd (own_below own3.out db)
              have O9' := asd (own_below O9.out db)
              have ST4 := asd (ST3.out.trans (Dk.Step.ofBelow db))
              have BE4 := asd (BE3.out.trans (db.mono BE3.out.size))
              go_simp
              refine hK.out _ _ c4 (fun hHeld => ?_)
              clear hK K
              try simp only [Act.put, List.setIfInBounds_toArray, List.set_cons_zero, List.set_cons_succ]
              refine wpAnyH_ready (rs := [7]) (by kernel_rfl) (by simp) ?_
              refine AllReadyH.cons rfl (fun K hK => ?_) AllReadyH.nil
              rw [if_pos (by rfl)]
              go_simp
              go_at_call 56
              refine (CT.out _ H4.out).mono ?_
              rintro e w5 ⟨rfl, d2, r5, p5, s5⟩
              have H5 := asd (H4.out.step r5 (PC.out d2 p5).1 (PC.out d2 p5).2 s5 H4.out.hs)
              have c5 := H5.out.lg.c0
              have S5 := asd (ST4.out.trans s5)
              go_simp
              refine hK.out _ _ c5 (fun hHeld => ?_)
              clear hK K
              try simp only [Act.put, List.setIfInBounds_toArray, List.set_cons_zero, List.set_cons_succ]
              refine takeH_to (i := 8) (v := .int .i64 0) (some 11) rfl rfl (by kernel_rfl) (by kernel_rfl) (by kernel_rfl) (fun _ _ _ h => h) (Or.inl ⟨by rfl, fun u hu => by (try dsimp only at hu); go_simp <;> (first | rfl | omega)⟩) (by assumption) ?_
              try simp only [Act.put, List.setIfInBounds_toArray, List.set_cons_zero, List.set_cons_succ]
              refine wpAnyH_done (by kernel_rfl) ?_ _
              have nin : ∀ j, (Value.slice a6 acc.length c6).ownBlock = some j → j ∉ d1.foot b := FO.out
              have own5 : w5.ownsRow w.heap.size 9 1 (.slice a6 acc.length c6) acc.length (cellsS acc) := Dk.own_frame own4.out fun j hj => s5.block j (own4.out.lt j hj).2 (nin j hj)
              have O95 := Dk.own_frame O9'.out fun j hj => s5.block j (O9'.out.lt j hj).2 (fun hm => by
                have h1 := (O9'.out.lt j hj).1
                have h2 := FT.out j hm
                have h3 := BE.out.size
                have h4 := b2.size
                omega)
              have nin5 : ∀ j, (Value.slice a6 acc.length c6).ownBlock = some j → j ∉ d2.foot b := fun j hj hm => by
                rcases s5.sub j hm with h1 | h1
                · exact nin j hj h1
                · have := (own4.out.lt j hj).2
                  omega
              obtain ⟨v10, w10, ha, ho, hg, hv⟩ := append_texts own5 O95 (by have := S5.out.size; exact this) (acc_le hacc hlt hL hxl) 30
              have GG := asd (GR.out d2 w5 w10 _ _ _ H5.out S5.out own5 nin5 hg)
              have HO := asd ho
              have NV : Aside (∀ j, v10.ownBlock = some j → j ∉ d2.foot b) := fun j hj hm => by
                rcases hv with hv | hv
                · rw [hv] at hj
                  exact nin5 j hj hm
                · rw [hv] at hj
                  injection hj with hj
                  have := (H5.out.rep.lt j hm).2
                  omega
              clear own5 O95 hg ho hv
              go_wp2_with (at_builtin; refine wpList_append_eq rfl (.tmp 47) (.tmp 48) 30 rfl _ _ rfl rfl v10 w10 ha ?_)
              go_roundg (L.length - (k + 1))
              case measure => omega
              case rel => exact ⟨k + 1, acc ++ X, d2, Nat.le_refl _, by omega, by go_num, HO.out, by rw [List.length_append]; omega, ⟨GG.out.1, GG.out.2, (by rw [hnil]; show (acc ++ X, (0 : Int), d2.pl) = R; rw [p5]; exact RG.out), fun hh => by omega⟩, NV.out⟩
            · have RG : Aside (([], (Dk.opCut d1.pl (nmL n) (spl d1.pl n).2.1).1, (Dk.opCut d1.pl (nmL n) (spl d1.pl n).2.1).2) = R) := by rw [← recs_dead h3 hc]; exact RE.out
              clear h0 h3 RE f0 f0' f0'' hF
              have PC := asd (fun (d2 : Dk.Ds) (hp : d2.pl = (Dk.opCut d1.pl (nmL n) (spl d1.pl n).2.1).2) => (show Dk.Ok d2.pl ∧ ∀ t ∈ d2.names, t.size ≤ 1000 from ⟨by rw [hp]; exact OK.out.opCut _ _, cut_sz HR.out.sz hp⟩))
              generalize (Dk.opCut d1.pl (nmL n) (spl d1.pl n).2.1).2 = C2 at *
              generalize (Dk.opCut d1.pl (nmL n) (spl d1.pl n).2.1).1 = C1 at *
              have g0 : (C1 != 0) = true := by rw [bne_iff_ne]; exact hc
              have g0' : (C1 == 0) = false := by rw [beq_eq_false_iff_ne]; exact hc
              generalize (spl d1.pl n).2.1 = P at *
              generalize (spl d1.pl n).1.map Fm.bs = X at *
              generalize tx d1.pl n = T at *
              go_wp2_with (first
                | (go_at_call 71; refine (K1.out _ HR.out).mono ?_; rintro e w2 ⟨rfl, b2⟩; have own2 := asd (own_below OWN.out b2))
                | (go_at_call 83; refine (K2.out _).mono ?_; rintro e w3 ⟨v9, rfl, o9, b3⟩; obtain ⟨a9, c9, rfl⟩ := Dk.own_any o9; have O9 := asd o9; have bb := b2.trans (b3.mono b2.size); have H3 := asd (HR.out.below bb); have own3 := asd (own_below own2.out b3); have ST3 := asd (ST.out.trans (Dk.Step.ofBelow bb)); have BE3 := asd (BE.out.trans (bb.mono BE.out.size)); clear o9))
              have dr : Below w3.heap.size w3 w3.drew := ⟨rfl, rfl, rfl, Nat.le_refl _, fun _ _ => rfl⟩
              have HD := asd (H3.out.below dr)
              have cd : w3.drew.cell? ⟨l, 0, none⟩ = some (.pointer (some ⟨b, 0, none⟩)) := HD.out.lg.c0
              refine wp_region_held_drew (S := (fun u => u.cell? ⟨l, 0, none⟩ = some (.pointer (some ⟨b, 0, none⟩)))) (by kernel_rfl) cd (fun hHeld => ?_)
              change wpAnyH _ _ _ _ _ _ _ _ (World.drew _)
              refine takeH_to (i := 0) (v := .pointer (some ⟨l, 0, none⟩)) (some 36) rfl rfl (by kernel_rfl) (by kernel_rfl) (by kernel_rfl) (fun _ _ _ h => h) (Or.inl ⟨by rfl, fun u hu => by (try dsimp only at hu); go_simp <;> (first | rfl | omega)⟩) (by assumption) ?_
              try simp only [Act.put, List.setIfInBounds_toArray, List.set_cons_zero, List.set_cons_succ]
              refine takeH_to (i := 1) (v := .pointer (some ⟨l, 0, none⟩)) (some 37) rfl rfl (by kernel_rfl) (by kernel_rfl) (by kernel_rfl) (fun _ _ _ h => h) (Or.inl ⟨by rfl, fun u hu => by (try dsimp only at hu); go_simp <;> (first | rfl | omega)⟩) (by assumption) ?_
              try simp only [Act.put, List.setIfInBounds_toArray, List.set_cons_zero, List.set_cons_succ]
              refine takeH_to (i := 2) (v := .pointer (some ⟨l, 0, none⟩)) (some 38) rfl rfl (by kernel_rfl) (by kernel_rfl) (by kernel_rfl) (fun _ _ _ h => h) (Or.inl ⟨by rfl, fun u hu => by (try dsimp only at hu); go_simp <;> (first | rfl | omega)⟩) (by assumption) ?_
              try simp only [Act.put, List.setIfInBounds_toArray, List.set_cons_zero, List.set_cons_succ]
              refine takeH_to (i := 3) (v := .pointer (some ⟨b, 0, none⟩)) (some 39) rfl rfl (by kernel_rfl) (by kernel_rfl) (by kernel_rfl) (fun _ _ _ h => h) (Or.inl ⟨by rfl, fun u hu => by (try dsimp only at hu); go_simp <;> (first | rfl | omega)⟩) (by assumption) ?_
              try simp only [Act.put, List.setIfInBounds_toArray, List.set_cons_zero, List.set_cons_succ]
              refine takeH_to (i := 4) (v := .int .i64 n) (some 40) rfl rfl (by kernel_rfl) (by kernel_rfl) (by kernel_rfl) (fun _ _ _ h => h) (Or.inl ⟨by rfl, fun u hu => by (try dsimp only at hu); go_simp <;> (first | rfl | omega)⟩) (by assumption) ?_
              try simp only [Act.put, List.setIfInBounds_toArray, List.set_cons_zero, List.set_cons_succ]
              refine takeH_to (i := 6) (v := .int .i64 (P : Int)) (some 42) rfl rfl (by kernel_rfl) (by kernel_rfl) (by kernel_rfl) (fun _ _ _ h => h) (Or.inl ⟨by rfl, fun u hu => by (try dsimp only at hu); go_simp <;> (first | rfl | omega)⟩) (by assumption) ?_
              try simp only [Act.put, List.setIfInBounds_toArray, List.set_cons_zero, List.set_cons_succ]
              refine wpAnyH_ready (rs := [5]) (by kernel_rfl) (by simp) ?_
              refine AllReadyH.cons rfl (fun K hK => ?_) AllReadyH.nil
              rw [if_pos (by rfl)]
              go_simp
              go_at_call 36
              refine (lname_any n _ HD.out.vars).mono ?_
              rintro e w4 ⟨rfl, b4⟩
              have H4 := asd (HD.out.below b4)
              have c4 := H4.out.lg.c0
              have db := dr.trans (b4.mono dr.size)
              have own4 := asd (own_below own3.out db)
              have O9' := asd (own_below O9.out db)
              have ST4 := asd (ST3.out.trans (Dk.Step.ofBelow db))
              have BE4 := asd (BE3.out.trans (db.mono BE3.out.size))
              go_simp
              refine hK.out _ _ c4 (fun hHeld => ?_)
              clear hK K
              try simp only [Act.put, List.setIfInBounds_toArray, List.set_cons_zero, List.set_cons_succ]
              refine wpAnyH_ready (rs := [7]) (by kernel_rfl) (by simp) ?_
              refine AllReadyH.cons rfl (fun K hK => ?_) AllReadyH.nil
              rw [if_pos (by rfl)]
              go_simp
              go_at_call 56
              refine (CT.out _ H4.out).mono ?_
              rintro e w5 ⟨rfl, d2, r5, p5, s5⟩
              have H5 := asd (H4.out.step r5 (PC.out d2 p5).1 (PC.out d2 p5).2 s5 H4.out.hs)
              have c5 := H5.out.lg.c0
              have S5 := asd (ST4.out.trans s5)
              go_simp
              refine hK.out _ _ c5 (fun hHeld => ?_)
              clear hK K
              try simp only [Act.put, List.setIfInBounds_toArray, List.set_cons_zero, List.set_cons_succ]
              refine takeH_to (i := 8) (v := .int .i64 C1) (some 11) rfl rfl (by kernel_rfl) (by kernel_rfl) (by kernel_rfl) (fun _ _ _ h => h) (Or.inl ⟨by rfl, fun u hu => by (try dsimp only at hu); go_simp <;> (first | rfl | omega)⟩) (by assumption) ?_
              try simp only [Act.put, List.setIfInBounds_toArray, List.set_cons_zero, List.set_cons_succ]
              refine wpAnyH_done (by kernel_rfl) ?_ _
              go_wp2_with fail
              go_ret2
              refine ⟨_, d2, by rw [← RG.out]; rfl, by rw [← RG.out]; exact World.ownsRow_nil _ _ _ _, H5.out, by rw [← RG.out]; exact p5, S5.out, fun j hj => by cases hj⟩
          · have q1 : ((k : Int) == (L.length : Int) - 1) = false := by rw [beq_eq_false_iff_ne]; omega
            have q1' : ¬ (k : Int) = (L.length : Int) - 1 := by omega
            have RG : Aside (([], ((spl d1.pl n).2.2 : Int), d1.pl) = R) := by
              rw [← recs_bad (r := L.drop (k + 1)) (acc := acc) h0 (fun hh => hl (by have := congrArg List.length hh.2; rw [List.length_drop] at this; have h9 : ([] : List Int).length = 0 := rfl; omega))]
              exact RE.out
            rw [h3] at K2 RG
            clear h0 h3 RE f0 f0' f0'' hF
            generalize (spl d1.pl n).2.1 = P at *
            generalize (spl d1.pl n).1.map Fm.bs = X at *
            generalize tx d1.pl n = T at *
            go_wp2_with (first
              | (go_at_call 71; refine (K1.out _ HR.out).mono ?_; rintro e w2 ⟨rfl, b2⟩)
              | (go_at_call 83; refine (K2.out _).mono ?_; rintro e w3 ⟨v9, rfl, o9, b3⟩; obtain ⟨a9, c9, rfl⟩ := Dk.own_any o9; have bb := b2.trans (b3.mono b2.size); clear o9))
            go_ret2
            refine ⟨_, d1, by rw [← RG.out]; rfl, by rw [← RG.out]; exact World.ownsRow_nil _ _ _ _, HR.out.below bb, by rw [← RG.out], ST.out.trans (Dk.Step.ofBelow bb), fun j hj => by cases hj⟩
        · have RG : Aside (([], ((spl d1.pl n).2.2 : Int), d1.pl) = R) := by
            rw [← recs_bad (r := L.drop (k + 1)) (acc := acc) h0 (fun hh => h3 hh.1)]
            exact RE.out
          have f3 : (((spl d1.pl n).2.2 : Int) == 3) = false := by rw [beq_eq_false_iff_ne]; omega
          have f3' : ¬ ((spl d1.pl n).2.2 : Int) = 3 := by omega
          clear h0 h3 RE hF
          generalize (spl d1.pl n).2.2 = F at *
          generalize (spl d1.pl n).2.1 = P at *
          generalize (spl d1.pl n).1.map Fm.bs = X at *
          generalize tx d1.pl n = T at *
          go_wp2_with (first
            | (go_at_call 71; refine (K1.out _ HR.out).mono ?_; rintro e w2 ⟨rfl, b2⟩)
            | (go_at_call 83; refine (K2.out _).mono ?_; rintro e w3 ⟨v9, rfl, o9, b3⟩; obtain ⟨a9, c9, rfl⟩ := Dk.own_any o9; have bb := b2.trans (b3.mono b2.size); clear o9))
          go_ret2
          refine ⟨_, d1, by rw [← RG.out]; rfl, by rw [← RG.out]; exact World.ownsRow_nil _ _ _ _, HR.out.below bb, by rw [← RG.out], ST.out.trans (Dk.Step.ofBelow bb), fun j hj => by cases hj⟩
    · obtain rfl : k = L.length := by omega
      have dk : decide (L.length < L.length) = false := by simp
      have RG : Aside ((acc, (0 : Int), d1.pl) = R) := by
        have := I.out.2.2.1
        rw [List.drop_length] at this
        exact this
      have HR := asd I.out.1
      have ST := asd I.out.2.1
      clear I
      go_wp2
      go_ret2
      refine ⟨_, d1, by rw [← RG.out]; rfl, by rw [← RG.out]; exact OWN.out, HR.out, by rw [← RG.out], ST.out, NI.out⟩
end Go.Proofs.YtajjcfacbnicnaaGreatDoor

/-
  Open.
-/
namespace Go.Proofs.YtajjcfacbnicnaaGreatDoor
open Go.RowKit
set_option maxRecDepth 100000
open Fm (cellsS)
/-- A disk alone, in memory. -/
structure Dsk (B b : Nat) (d : Dk.Ds) (w : World) : Prop where
  rep : Dk.Rep w B b d
  ok : Dk.Ok d.pl
  sz : ∀ n ∈ d.names, n.size ≤ 1000
  vars : Vars w
  hB : 4 ≤ B
theorem Sys.dsk {B l b : Nat} {f m : Int} {d : Dk.Ds} {w : World} (h : Sys B l b f m d w) : Dsk B b d w := ⟨h.rep, h.ok, h.sz, h.vars, h.hB⟩
theorem Dsk.below {B b : Nat} {d : Dk.Ds} {w w' : World} (h : Dsk B b d w) (g : Below w.heap.size w w') : Dsk B b d w' := ⟨h.rep.below g, h.ok, h.sz, h.vars.below g, h.hB⟩
theorem Dsk.hs {B b : Nat} {d : Dk.Ds} {w : World} (h : Dsk B b d w) : B ≤ w.heap.size := by
  have := h.rep.lt b Dk.foot_b
  omega
/-- The disk is another one. -/
theorem Dsk.step {B b : Nat} {d d' : Dk.Ds} {w w' : World} (h : Dsk B b d w) (r : Dk.Rep w' B b d') (ok : Dk.Ok d'.pl) (sz : ∀ n ∈ d'.names, n.size ≤ 1000) (s : Dk.Step (d.foot b) (d'.foot b) w w') : Dsk B b d' w' :=
  ⟨r, ok, sz, h.vars.keep h.hB (s.below (fun k hk => (h.rep.lt k hk).1) h.hs), h.hB⟩
theorem own_base' {w : World} {base base2 : Nat} {e : TypeId} {size : Nat} {v : Value} {n : Nat} {xs : List Value} (h : w.ownsRow base e size v n xs) (hb : base2 ≤ base) : w.ownsRow base2 e size v n xs := by
  obtain ⟨h1, h2⟩ := h
  refine ⟨h1, ?_⟩
  rcases h2 with h2 | ⟨g, cap, cur, hv, hg, r⟩
  · exact .inl h2
  · exact .inr ⟨g, cap, cur, hv, by omega, r⟩
/-- What Open does: the records, or why there are none. -/
def lOpen (s : Dk.St) (f : Int) : Except Int (List ByteArray) × Dk.St :=
  if (nmL f).size = 0 then (.error 1, s)
  else if rowB f (nums s.names f) = false then (.error 6, s)
  else if (recs s (nums s.names f) []).2.1 = 0 then (.ok (recs s (nums s.names f) []).1, (recs s (nums s.names f) []).2.2)
  else (.error (recs s (nums s.names f) []).2.1, (recs s (nums s.names f) []).2.2)
/-- What Open leaves. -/
def OpenO (B b : Nat) (f lim : Int) (d : Dk.Ds) (w : World) (e : Ending) (w' : World) : Prop :=
  ∃ d', Dsk B b d' w' ∧ d'.pl = (lOpen d.pl f).2 ∧ Dk.Step (d.foot b) (d'.foot b) w w' ∧
    ((∃ c, (lOpen d.pl f).1 = .error c ∧ e = .returned (.tuple #[.pointer none, .slice none 0 0, .int .i64 c])) ∨
      ∃ rs l rv, (lOpen d.pl f).1 = .ok rs ∧ e = .returned (.tuple #[.pointer (some ⟨l, 0, none⟩), rv, .int .i64 0]) ∧ Sys B l b f (wi lim) d' w' ∧ w.heap.size ≤ l ∧ w'.ownsRow w.heap.size 9 1 rv rs.length (cellsS rs) ∧ ∀ j, rv.ownBlock = some j → j ≠ l ∧ j ∉ d'.foot b)
theorem open_no (f lim : Int) (w : World) : Calls Tryz.prog 11 #[.pointer none, .int .i64 f, .int .i64 lim] w fun e w' => e = .returned (.tuple #[.pointer none, .slice none 0 0, .int .i64 1]) ∧ w' = w := by
  go_enter Tryz.func11, Tryz.ntmps11
  go_wp2
  go_ret3
  exact ⟨rfl, rfl⟩
set_option maxHeartbeats 4000000 in
theorem open_any {B b : Nat} {d : Dk.Ds} {w : World} (h : Dsk B b d w) (f lim : Int) :
    Calls Tryz.prog 11 #[.pointer (some ⟨b, 0, none⟩), .int .i64 f, .int .i64 lim] w fun e w' => OpenO B b f lim d w e w' := by
  have k36 := lname_any f w h.vars
  have H := asd h
  have k37 := fun u => within_any lim u
  by_cases h0 : (nmL f).size = 0
  · have EN := asd (show lOpen d.pl f = (.error 1, d.pl) by unfold lOpen; rw [if_pos h0])
    rw [nmL_nil h0] at k36
    clear h
    go_enter Tryz.func11, Tryz.ntmps11
    go_wp2_with (go_at_call 36; refine k36.mono ?_; rintro e w1 ⟨rfl, b1⟩)
    go_ret3
    refine ⟨d, H.out.below b1, by rw [EN.out], Dk.Step.ofBelow b1, .inl ⟨1, by rw [EN.out], rfl⟩⟩
  · have hf : 1 ≤ f ∧ f ≤ 99999 := Classical.byContradiction fun hh => h0 (nmL_empty.2 hh)
    have hne : ¬ (nmL f).toList = (⟨#[]⟩ : ByteArray).toList := fun e => h0 (by
      rw [ByteArray.toList_eq, ByteArray.toList_eq] at e
      have : nmL f = ⟨#[]⟩ := ByteArray.ext (Array.toList_inj.mp e)
      rw [this]
      rfl)
    have t1 : ((nmL f).toList == (⟨#[]⟩ : ByteArray).toList) = false := by rw [beq_eq_false_iff_ne]; exact hne
    have t0 : (nmL f).toList.isEmpty = false := by
      cases he : (nmL f).toList with
      | nil => exact absurd (by rw [he, ByteArray.toList_eq]) hne
      | cons a b => rfl
    have SY := asd (fun (u : World) (hu : Below w.heap.size w u) => (show Sys B u.heap.size b f (wi lim) d (u.alloc (.cells #[.pointer (some ⟨b, 0, none⟩), .int .i64 f, .int .i64 (wi lim)] 75)) ∧ Below w.heap.size w (u.alloc (.cells #[.pointer (some ⟨b, 0, none⟩), .int .i64 f, .int .i64 (wi lim)] 75)) from by
      have ba : Below u.heap.size u (u.alloc (.cells #[.pointer (some ⟨b, 0, none⟩), .int .i64 f, .int .i64 (wi lim)] 75)) := (Below.refl _ _).alloc (Nat.le_refl _) _
      have hd := (h.below hu).below ba
      refine ⟨⟨hd.rep, hd.ok, hd.sz, heap_alloc_new u _, fun hm => ?_, hd.vars, hd.hB⟩, hu.trans (ba.mono hu.size)⟩
      have := ((h.below hu).rep.lt _ hm).2
      omega))
    have KN := asd (fun (l : Nat) (m : Int) (u : World) (hu : Sys B l b f m d u) => numbers_any hu)
    have KI := asd (fun (v : Value) (L : List Int) (u : World) (hv : Ints u v L) (hl : L.length ≤ 16) => inRow_any hv (by omega) f (by omega) (by omega))
    have KR := asd (fun (l : Nat) (m : Int) (u : World) (hu : Sys B l b f m d u) (v : Value) (L : List Int) (hv : Ints u v L) (hl : L.length ≤ 16) => records_any hu hv hl)
    have hn16 : (nums d.names f).length ≤ 16 := nums_le (by have := h.ok.few; simpa [Dk.Ds.pl, Dk.Ds.names] using this)
    have ENN : d.pl.names = d.names := Dk.names_pl d
    cases hr : rowB f (nums d.names f) with
    | false =>
      have EN := asd (show lOpen d.pl f = (.error 6, d.pl) by unfold lOpen; rw [if_neg h0, ENN, hr, if_pos rfl])
      have HR := asd hr
      clear h h0 hr hne ENN
      generalize nums d.names f = L at *
      generalize wi lim = WI at *
      go_enter Tryz.func11, Tryz.ntmps11
      go_wp2_with (first
        | (go_at_call 36; refine k36.mono ?_; rintro e w1 ⟨rfl, b1⟩; have S1 := asd (SY.out w1 b1))
        | (go_at_call 37; refine (k37 _).mono ?_; rintro e w2 ⟨rfl, rfl⟩)
        | (go_at_call 38; refine (KN.out _ _ _ S1.out.1).mono ?_; rintro e w3 ⟨v, rfl, hv, b3⟩; have HV := asd hv; clear hv; have B3 := asd (S1.out.2.trans (b3.mono S1.out.2.size)))
        | (go_at_call 39; refine (KI.out _ _ _ HV.out hn16).mono ?_; rw [HR.out]; rintro e w4 ⟨rfl, rfl⟩))
      go_ret3
      refine ⟨d, H.out.below B3.out, by rw [EN.out], Dk.Step.ofBelow B3.out, .inl ⟨6, by rw [EN.out], rfl⟩⟩
    | true =>
      have HR := asd hr
      by_cases hc : (recs d.pl (nums d.names f) []).2.1 = 0
      · have EN := asd (show lOpen d.pl f = (.ok (recs d.pl (nums d.names f) []).1, (recs d.pl (nums d.names f) []).2.2) by unfold lOpen; rw [if_neg h0, ENN, hr, if_neg (by decide), if_pos hc])
        have HC := asd hc
        clear h h0 hr hne ENN hc
        generalize nums d.names f = L at *
        generalize hWI : wi lim = WI at *
        go_enter Tryz.func11, Tryz.ntmps11
        go_wp2_with (first
          | (go_at_call 36; refine k36.mono ?_; rintro e w1 ⟨rfl, b1⟩; have S1 := asd (SY.out w1 b1))
          | (go_at_call 37; refine (k37 _).mono ?_; rintro e w2 ⟨rfl, rfl⟩)
          | (go_at_call 38; refine (KN.out _ _ _ S1.out.1).mono ?_; rintro e w3 ⟨v, rfl, hv, b3⟩; have HV := asd hv; clear hv; have B3 := asd (S1.out.2.trans (b3.mono S1.out.2.size)); have S3 := asd (S1.out.1.below b3))
          | (go_at_call 39; refine (KI.out _ _ _ HV.out hn16).mono ?_; rw [HR.out]; rintro e w4 ⟨rfl, rfl⟩)
          | (go_at_call 40; refine (KR.out _ _ _ S3.out _ _ HV.out hn16).mono ?_; rw [HC.out]; rintro e w5 ⟨v', d', rfl, ho, hs, hp, st, nd⟩; have HO := asd ho; have HS := asd hs; have HP := asd hp; have ST := asd st; have ND := asd nd; clear ho hs hp st nd))
        go_ret3
        refine ⟨d', HS.out.dsk, by rw [EN.out]; exact HP.out, (Dk.Step.ofBelow B3.out).trans ST.out, .inr ⟨_, _, v', by rw [EN.out], rfl, (by rw [hWI]; exact HS.out), b1.size, own_base' HO.out B3.out.size, fun j hj => ⟨fun e => ?_, ND.out j hj⟩⟩⟩
        have h1 := (HO.out.lt j hj).1
        have h2 := S3.out.lg.lt
        omega
      · have EN := asd (show lOpen d.pl f = (.error (recs d.pl (nums d.names f) []).2.1, (recs d.pl (nums d.names f) []).2.2) by unfold lOpen; rw [if_neg h0, ENN, hr, if_neg (by decide), if_neg hc])
        have HC := asd hc
        clear h h0 hr hne ENN
        have c1 : ((recs d.pl (nums d.names f) []).2.1 != 0) = true := by rw [bne_iff_ne]; exact hc
        have c2 : ((recs d.pl (nums d.names f) []).2.1 == 0) = false := by rw [beq_eq_false_iff_ne]; exact hc
        clear hc
        generalize nums d.names f = L at *
        generalize wi lim = WI at *
        go_enter Tryz.func11, Tryz.ntmps11
        go_wp2_with (first
          | (go_at_call 36; refine k36.mono ?_; rintro e w1 ⟨rfl, b1⟩; have S1 := asd (SY.out w1 b1))
          | (go_at_call 37; refine (k37 _).mono ?_; rintro e w2 ⟨rfl, rfl⟩)
          | (go_at_call 38; refine (KN.out _ _ _ S1.out.1).mono ?_; rintro e w3 ⟨v, rfl, hv, b3⟩; have HV := asd hv; clear hv; have B3 := asd (S1.out.2.trans (b3.mono S1.out.2.size)); have S3 := asd (S1.out.1.below b3))
          | (go_at_call 39; refine (KI.out _ _ _ HV.out hn16).mono ?_; rw [HR.out]; rintro e w4 ⟨rfl, rfl⟩)
          | (go_at_call 40; refine (KR.out _ _ _ S3.out _ _ HV.out hn16).mono ?_; rintro e w5 ⟨v', d', rfl, ho, hs, hp, st, nd⟩; have HS := asd hs; have HP := asd hp; have ST := asd st; clear ho hs hp st nd))
        go_ret3
        refine ⟨d', HS.out.dsk, by rw [EN.out]; exact HP.out, (Dk.Step.ofBelow B3.out).trans ST.out, .inl ⟨_, by rw [EN.out], rfl⟩⟩
end Go.Proofs.YtajjcfacbnicnaaGreatDoor
