/-
  FilesAll's own walk.
-/
import Derived.Test.YtblhkhgcaheplaaGreatDoorH10
import Derived.Carry
namespace Go.Proofs.YtblhkhgcaheplaaGreatDoor
open Go.RowKit
set_option maxRecDepth 100000

/-- What the second loop reckons. -/
theorem plain2 {d : Dk.Ds} {M : List (ByteArray × Nat)} (h : Has d.pl M) (hM : M.length ≤ 16) (s : ByteArray) (below : Int) :
    (allOf s d.names).length = (hasP s M).length ∧ (allOf s d.names).length ≤ 16 ∧ ∃ SS CC : Nat → Nat, SS 0 = 0 ∧ CC 0 = 0 ∧ SS (allOf s d.names).length = sizeSum d.pl s (allOf s d.names) ∧ CC (allOf s d.names).length = (allOf s d.names).countP (fun n => decide (n < below)) ∧
      (∀ k, k ≤ (allOf s d.names).length → SS k ≤ 100 * k) ∧ (∀ k, CC k ≤ k) ∧
      ∀ k, k < (allOf s d.names).length → CC (k + 1) = CC k + (if (allOf s d.names).getD k 0 < below then 1 else 0) ∧ ∃ i : Nat, ((allOf s d.names).getD k 0, i) ∈ hasP s M ∧ i ≤ 100 ∧ lastOf ((allOf s d.names).take k) < (allOf s d.names).getD k 0 ∧ 1 ≤ (allOf s d.names).getD k 0 ∧ (allOf s d.names).getD k 0 ≤ 99999 ∧ lastOf ((allOf s d.names).take (k + 1)) = (allOf s d.names).getD k 0 ∧ SS (k + 1) = SS k + i := by
  have e : d.names = d.pl.names := (Dk.names_pl _).symm
  rw [e]
  have hl := all_len (s := s) h
  have hp := pairs_len s M
  have hr : ∀ k, k < (allOf s d.pl.names).length → ∃ i : Nat, ((allOf s d.pl.names).getD k 0, i) ∈ hasP s M ∧ i ≤ 100 ∧ lastOf ((allOf s d.pl.names).take k) < (allOf s d.pl.names).getD k 0 ∧ 1 ≤ (allOf s d.pl.names).getD k 0 ∧ (allOf s d.pl.names).getD k 0 ≤ 99999 ∧ lastOf ((allOf s d.pl.names).take (k + 1)) = (allOf s d.pl.names).getD k 0 ∧ sizeSum d.pl s ((allOf s d.pl.names).take (k + 1)) = sizeSum d.pl s ((allOf s d.pl.names).take k) + i := fun k hk => by
    obtain ⟨i, h1, h2, h3, h4, h5, h6, h7⟩ := second (s := s) h hk
    exact ⟨i, h1, h3, h4, h5, h6, h7, by rw [size_next _ _ _ hk, h2]⟩
  refine ⟨hl, by omega, fun k => sizeSum d.pl s ((allOf s d.pl.names).take k), fun k => ((allOf s d.pl.names).take k).countP (fun n => decide (n < below)), rfl, rfl, by simp only [List.take_length], by simp only [List.take_length], fun k => ?_, fun k => ?_, fun k hk => ⟨count_next _ _ hk, hr k hk⟩⟩
  · induction k with
    | zero => exact fun _ => Nat.le_refl _
    | succ k ih =>
      intro hk
      obtain ⟨i, _, h2, _, _, _, _, h7⟩ := hr k (by omega)
      have := ih (by omega)
      simp only at this ⊢
      rw [h7]
      omega
  · have h1 := List.countP_le_length (p := fun n => decide (n < below)) (l := (allOf s d.pl.names).take k)
    have h2 := List.length_take_le k (allOf s d.pl.names)
    exact Nat.le_trans h1 h2

/-- What Clear finds, and leaves. -/
theorem plain3 {d : Dk.Ds} {M : List (ByteArray × Nat)} (h : Has d.pl M) (s : ByteArray) (below : Int) (g : Nat) (hg : (allOf s d.names).countP (fun n => decide (n < below)) = g) :
    g ≤ (allOf s d.names).length ∧ (∀ k, k < g → (allOf s d.names).getD k 0 < below ∧ (Dk.opRemove (goneAt d.pl s (allOf s d.names) k) (nmB s ((allOf s d.names).getD k 0))).1 = 0) ∧
      (g = (allOf s d.names).length ∨ below ≤ (allOf s d.names).getD g 0) ∧
      ∃ (R : List Int) (nl : Nat), R.length + g = (allOf s d.names).length ∧ nl + g = M.length ∧ (¬ R.length = 0 → below ≤ R.getD 0 0) ∧
      ∀ d' : Dk.Ds, d'.pl = goneAt d.pl s (allOf s d.names) g → Dk.Ok d'.pl ∧ (∀ n ∈ d'.names, n.size ≤ 1000) ∧ d'.names.length = nl ∧ allOf s d'.names = R := by
  have e : d.names = d.pl.names := (Dk.names_pl _).symm
  rw [e] at hg ⊢
  have hle : g ≤ (allOf s d.pl.names).length := hg ▸ List.countP_le_length
  obtain ⟨r1, r2⟩ := rise_below (all_rise (s := s) h) below
  rw [hg] at r1 r2
  obtain ⟨l1, l2, l3, l4, l5⟩ := left (s := s) h hle
  refine ⟨hle, fun k hk => ⟨r1 k hk, l5 k hk⟩, r2, (allOf s d.pl.names).drop g, M.length - g, by rw [List.length_drop]; omega, by omega, fun hne => ?_, fun d' hd' => ?_⟩
  · have := left_head (s := s) h below
    rw [hg] at this
    exact this hne
  · have e' : d'.names = d'.pl.names := (Dk.names_pl _).symm
    rw [e', hd']
    exact ⟨l4, l3, by omega, l1⟩

def Names (w : World) (ad : Option Addr) (n : Nat) (X : Nat → ByteArray) : Prop := n = 0 ∨ ∃ g o, ad = some ⟨g, o, none⟩ ∧ ∀ i, i < n → w.cell? ⟨g, o + i, none⟩ = some (.string (X i))

set_option maxHeartbeats 1600000 in
theorem all_files (ad : Option Addr) (n cap : Nat) (X : Nat → ByteArray) (s : ByteArray) (below : Int) (w : World) (h : Names w ad n X) (hv : Vars w) :
    Calls Tryz.prog 3 #[.slice ad n cap, .string s, .int .i64 below] w fun e w' => e = .returned (.bool true) ∧ Below w.heap.size w w' := by
  have k4 := awake_any w hv
  have H : Aside (Names w ad n X) := h
  have HV : Aside (Vars w) := hv
  clear h hv
  by_cases hn : n ≤ 16 ∧ s.size ≤ 30
  · obtain ⟨hn, hs⟩ := hn
    have d1 : decide (16 < (n : Int)) = false := by simp; omega
    have d2 : decide (30 < (s.size : Int)) = false := by simp; omega
    have d1' : decide (16 < n) = false := by simp; omega
    have d2' : decide (30 < s.size) = false := by simp; omega
    have K5 : Aside (∀ u : World, w.heap.size ≤ u.heap.size → _) := fun (u : World) (hu : w.heap.size ≤ u.heap.size) => Dk.new_any 60000 u w.heap.size hu
    have hmm := @run_makeMap Tryz.prog
    go_enter Tryz.func3, Tryz.ntmps3
    go_wp2_with (first
      | (go_at_call 4; refine k4.mono ?_; rintro e w1 ⟨rfl, hb1⟩)
      | (go_at_call 5; refine (K5.out _ hb1.size).mono ?_; rintro e w2 ⟨b, d, rfl, hr, hd, hf, hb2⟩))
    have L0 := Lp.init (hb1.trans (hb2.mono hb1.size)) hr
    have A0 : Aside (Has d.pl []) := by
      rw [hd]
      exact empty_has
    clear hr hd hf k4
    generalize hm8 : w2.heap.size = m8 at *
    generalize hm9 : m8 + 1 = m9 at *
    generalize hw3 : (w2.alloc (.map #[] 0)).alloc (.map #[] 0) = w3 at *
    clear hm8 hm9 hw3 hb1 hb2
    go_loopg [37, 10, 11, 12] n (fun gh s37 _ _ _ wr => ∃ (k : Nat) (dk : Dk.Ds) (M : List (ByteArray × Nat)), n - k ≤ gh ∧ k ≤ n ∧ s37 = .int .i64 (k : Int) ∧ Lp w wr b m8 m9 dk (hasP s M) (M.map Prod.fst) ∧ Aside (Has dk.pl M) ∧ M.length ≤ k)
    case atStart => exact ⟨0, d, [], by omega, by omega, rfl, L0, A0, Nat.le_refl _⟩
    case round =>
      clear L0 A0 d
      obtain ⟨k, d, M, hgh, hk, rfl, L, A, hM⟩ := hrel
      by_cases hlt : k < n
      · have q3 : decide (k < n) = true := by simpa using hlt
        rcases H.out with h0 | ⟨g, o, rfl, hc'⟩
        · omega
        have hc := Dk.cell_below (hc' k hlt) L.below
        clear hc'
        generalize X k = t at *
        by_cases ht : t.size ≤ 30
        · have q4 : decide (30 < (t.size : Int)) = false := by simp; omega
          have q5 : decide (30 < t.size) = false := by simp; omega
          have lk := L.ms.look t (by unfold maxLen; omega)
          cases hh : Dk.has (M.map Prod.fst) t with
          | true =>
            rw [hh] at lk
            have LL : Aside (Lp w _ b m8 m9 d (hasP s M) (M.map Prod.fst)) := L
            clear L
            go_wp2
            go_roundg (n - (k + 1))
            case measure => omega
            case rel => exact ⟨k + 1, d, M, Nat.le_refl _, by omega, by go_num, LL.out, A, by omega⟩
          | false =>
            rw [hh] at lk
            have mk := mk_bytes k (by omega) wr
            have cv := bytes_conv k (by omega) wr
            have L1 := L.later ((Below.refl _ _).alloc (Nat.le_refl _) (.cells (Dk.bcells (List.replicate k 0)).toArray 5))
            have k6 := Dk.append_any L1.rep A.out.ok t (zeros k)
            obtain ⟨a1, a2⟩ := A.out.append hh ht (k := k) (by omega)
            generalize hap : Dk.opAppend d.pl t (zeros k) = ap at *
            obtain ⟨r, st⟩ := ap
            simp only at a1 a2 k6
            by_cases hz : r = 0
            · subst hz
              have A1 : Aside (Has st (M ++ [(t, k)])) := a1 rfl
              clear a1 a2 hap
              have LL : Aside (Lp w (wr.alloc (.cells (Dk.bcells (List.replicate k 0)).toArray 5)) b m8 m9 d (hasP s M) (M.map Prod.fst)) := L1
              have K7 : Aside (∀ u, Calls Tryz.prog 7 #[.string s, .string t] u fun e w' => e = .returned (.int .i64 (nR s t : Nat)) ∧ Below u.heap.size u w') := fun u => refNumber_any s t u (by omega) (by omega)
              clear L1 L A
              by_cases hp : 0 < nR s t
              · have hnew := key_new hh hp
                have hle := nR_le hp
                have hpl : (hasP s M).length ≤ 1000 := by
                  have := pairs_len s M
                  omega
                have E1 : Aside (hasP s (M ++ [(t, k)]) = hasP s M ++ [((nR s t : Int), k)]) := by
                  have : pairOf s (t, k) = [((nR s t : Int), k)] := if_pos hp
                  exact (by rw [hasP_app, this] : hasP s (M ++ [(t, k)]) = hasP s M ++ [((nR s t : Int), k)])
                generalize hnr : nR s t = m at *
                have q6 : decide (0 < (m : Int)) = true := by simp; omega
                have q7 : decide (0 < m) = true := by simp; omega
                go_wp2_with (first
                  | (go_at_call 6; refine k6.mono ?_; rintro e w4 ⟨rfl, d', hr, hd, hst⟩; have L2 := LL.out.step hr hst; obtain ⟨w5, hp5, hm5, hg5⟩ := L2.ms.put t (by unfold maxLen; omega) hh (by simp; omega); have L3 : Aside (Lp w w5 b m8 m9 d' (hasP s M) (M.map Prod.fst ++ [t])) := L2.putS hm5 hg5; clear L2 hm5 hg5 hst hr)
                  | (go_at_call 7; refine (K7.out _).mono ?_; rintro e w6 ⟨rfl, hb6⟩; have L4 := L3.out.later hb6; obtain ⟨w7, hp7, hm7, hg7⟩ := L4.mi.put m k (WalkArith.wf_i64 (by omega)) (by omega) hnew hpl; have L5 : Aside (Lp w w7 b m8 m9 d' (hasP s M ++ [((m : Int), k)]) (M.map Prod.fst ++ [t])) := L4.putI hm7 hg7; clear L4 hm7 hg7))
                go_roundg (n - (k + 1))
                case measure => omega
                case rel =>
                  refine ⟨k + 1, d', M ++ [(t, k)], Nat.le_refl _, by omega, by go_num, ?_, ?_, by simp; omega⟩
                  · rw [E1.out, List.map_append]
                    exact L5.out
                  · rw [hd]
                    exact A1
              · have E1 : Aside (hasP s (M ++ [(t, k)]) = hasP s M) := by
                  have : pairOf s (t, k) = [] := if_neg hp
                  exact (by rw [hasP_app, this, List.append_nil] : hasP s (M ++ [(t, k)]) = hasP s M)
                generalize hnr : nR s t = m at *
                have q6 : decide (0 < (m : Int)) = false := by simp; omega
                have q7 : decide (0 < m) = false := by simp; omega
                go_wp2_with (first
                  | (go_at_call 6; refine k6.mono ?_; rintro e w4 ⟨rfl, d', hr, hd, hst⟩; have L2 := LL.out.step hr hst; obtain ⟨w5, hp5, hm5, hg5⟩ := L2.ms.put t (by unfold maxLen; omega) hh (by simp; omega); have L3 : Aside (Lp w w5 b m8 m9 d' (hasP s M) (M.map Prod.fst ++ [t])) := L2.putS hm5 hg5; clear L2 hm5 hg5 hst hr)
                  | (go_at_call 7; refine (K7.out _).mono ?_; rintro e w6 ⟨rfl, hb6⟩; have L4 : Aside (Lp w w6 b m8 m9 d' (hasP s M) (M.map Prod.fst ++ [t])) := L3.out.later hb6))
                go_roundg (n - (k + 1))
                case measure => omega
                case rel =>
                  refine ⟨k + 1, d', M ++ [(t, k)], Nat.le_refl _, by omega, by go_num, ?_, ?_, by simp; omega⟩
                  · rw [E1.out, List.map_append]
                    exact L4.out
                  · rw [hd]
                    exact A1
            · have A1 : Aside (st = d.pl) := a2 hz
              clear a1 a2 hap
              have LL : Aside (Lp w (wr.alloc (.cells (Dk.bcells (List.replicate k 0)).toArray 5)) b m8 m9 d (hasP s M) (M.map Prod.fst)) := L1
              clear L1 L
              have z1 : (r == 0) = false := by simpa using hz
              have z2 : (r != 0) = true := by simpa using hz
              have z3 : decide (r = 0) = false := by simpa using hz
              go_wp2_with (go_at_call 6; refine k6.mono ?_; rintro e w4 ⟨rfl, d', hr, hd, hst⟩; have L2 : Aside (Lp w w4 b m8 m9 d' (hasP s M) (M.map Prod.fst)) := LL.out.step hr hst; clear hst hr)
              go_roundg (n - (k + 1))
              case measure => omega
              case rel =>
                refine ⟨k + 1, d', M, Nat.le_refl _, by omega, by go_num, L2.out, ?_, by omega⟩
                rw [hd, A1.out]
                exact A
        · have q4 : decide (30 < (t.size : Int)) = true := by simp; omega
          have q5 : decide (30 < t.size) = true := by simp; omega
          have hB : Aside (Below w.heap.size w wr) := L.below
          clear L A
          go_wp2
          go_ret
          exact ⟨rfl, hB.out⟩
      · have ekn : k = n := by omega
        subst ekn
        have q3 : decide (k < k) = false := by simp
        have hsz : ∀ x ∈ d.names, x.size ≤ 1000 := fun x hx => by
          rw [← Dk.names_pl] at hx
          obtain ⟨y, hy, rfl⟩ := List.mem_map.1 (A.out.names.mem_iff.1 hx)
          have := A.out.short y hy
          omega
        have k8 := all_any L.rep A.out.ok hsz s (HV.out.below L.below)
        have hrd : ∀ x : ByteArray, (Dk.opRead d.pl x).1.size ≤ 60000 := fun x => A.out.read_le x
        obtain ⟨hl1, hl2, SS, CC, hs0, hc0, hs1, hc1, hsle, hcle, hrd2⟩ := plain2 A.out (by omega) s below
        obtain ⟨hg1, hg2, hg3, R, nl, hRl, hnl, hRh, hg4⟩ := plain3 A.out s below _ rfl
        rw [← hc1] at hg1 hg2 hg3 hg4 hRl hnl
        have K9 : Aside (∀ u : World, Below wr.heap.size wr u → _) := fun (u : World) (hu : Below wr.heap.size wr u) => last_any (L.later hu).rep A.out.ok hsz s (HV.out.below (L.later hu).below)
        have K10 : Aside (∀ u : World, Below wr.heap.size wr u → _) := fun (u : World) (hu : Below wr.heap.size wr u) => size_any (L.later hu).rep A.out.ok hsz s (HV.out.below (L.later hu).below) hrd
        have K11 : Aside (∀ u : World, Below wr.heap.size wr u → _) := fun (u : World) (hu : Below wr.heap.size wr u) => clear_any (L.later hu).rep A.out.ok hsz s below (HV.out.below (L.later hu).below) (fun v fo' hs => HV.out.below ((L.later hu).below.trans (hs.below (fun j hj => ((L.later hu).rep.lt j hj).1) (L.later hu).below.size))) hg1 hg2 hg3
        rw [← hs1] at K10
        have LL : Aside (Lp w wr b m8 m9 d (hasP s M) (M.map Prod.fst)) := L
        have G4 : Aside _ := hg4
        have R2 : Aside _ := hrd2
        have hMl : (M.map Prod.fst).length = M.length := by simp
        clear L A hg2 hg3 hg4 hrd hrd2 hs1 hc1 hsz
        generalize allOf s d.names = T at *
        go_wp2_with (go_at_call 8; refine k8.mono ?_; rintro e w4 ⟨v, rfl, ho, hb4⟩; obtain ⟨av, cv, ev⟩ := Dk.own_any ho; subst ev)
        have L4 : Aside (Lp w w4 b m8 m9 d (hasP s M) (M.map Prod.fst)) := LL.out.later hb4
        have ml : ∀ ty, (Builtin.len_ #[26] ty #[.map (some m8)]).run Tryz.prog w4 = .ok (.int .i64 (T.length : Int)) w4 := fun ty => by
          rw [hl1]
          exact L4.out.mi.len ty
        have HO : Aside _ := ho
        clear k8 LL ho hsle hcle
        obtain ⟨wa, hwa⟩ : ∃ u, u = wr := ⟨_, rfl⟩
        subst hwa
        go_loopg [73, 14, 15, 16, 18, 19, 20] T.length (fun gh s73 s14 s15 s16 _ _ _ wq => ∃ j : Nat, T.length - j ≤ gh ∧ j ≤ T.length ∧ s73 = .int .i64 (j : Int) ∧ s14 = .int .i64 (SS j : Int) ∧ s15 = .int .i64 (lastOf (T.take j)) ∧ s16 = .int .i64 (CC j : Int) ∧ wq = w4 ∧ SS j ≤ 100 * j ∧ CC j ≤ j)
        case atStart => exact ⟨0, by omega, by omega, rfl, by rw [hs0]; rfl, rfl, by rw [hc0]; rfl, rfl, by omega, by omega⟩
        case round =>
          obtain ⟨j, hgh2, hj, rfl, rfl, rfl, rfl, rfl, hsj, hcj⟩ := hrel
          by_cases hlt2 : j < T.length
          · have q6 : decide (j < T.length) = true := by simpa using hlt2
            obtain ⟨hcc, i, hmem, hi, hlast, hpos, hmax, hlast2, hss⟩ := R2.out j hlt2
            obtain ⟨c, hlook, hci⟩ := L4.out.mi.look (T.getD j 0) (WalkArith.wf_i64 (by omega))
            have hc := hci i hmem
            subst hc
            have hany : (hasP s M).any (fun x => decide (x.1 = T.getD j 0)) = true := List.any_eq_true.2 ⟨_, hmem, by simp⟩
            rw [hany] at hlook
            obtain ⟨ln, cvv, e1, _, _, hln⟩ := Dk.own_form HO.out (by omega)
            injection e1 with e1 e2 e3
            subst e1 e3
            have zl := Dk.own_cell HO.out hln (icell hlt2)
            have q7 : decide (T.getD j 0 ≤ lastOf (T.take j)) = false := decide_eq_false (by omega)
            have RR : Aside (SS (j + 1) = SS j + i ∧ lastOf (T.take (j + 1)) = T.getD j 0 ∧ CC (j + 1) = CC j + if T.getD j 0 < below then 1 else 0) := (⟨hss, hlast2, hcc⟩ : _ ∧ _ ∧ _)
            clear hcc hlast2 hss hmem hci hany hln
            generalize T.getD j 0 = x at *
            generalize lastOf (T.take j) = y at *
            generalize SS j = sj at *
            generalize CC j = cj at *
            by_cases hxb : x < below
            · have q8 : decide (x < below) = true := decide_eq_true hxb
              go_wp2
              go_roundg (T.length - (j + 1))
              case measure => omega
              case rel =>
                obtain ⟨r1, r2, r3⟩ := RR.out
                rw [if_pos hxb] at r3
                exact ⟨j + 1, Nat.le_refl _, by omega, by go_num, by rw [r1]; go_num, by rw [r2], by rw [r3]; go_num, rfl, by omega, by omega⟩
            · have q8 : decide (x < below) = false := decide_eq_false hxb
              go_wp2
              go_roundg (T.length - (j + 1))
              case measure => omega
              case rel =>
                obtain ⟨r1, r2, r3⟩ := RR.out
                rw [if_neg (by omega)] at r3
                exact ⟨j + 1, Nat.le_refl _, by omega, by go_num, by rw [r1]; go_num, by rw [r2], by rw [r3]; rfl, rfl, by omega, by omega⟩
          · have ejn : j = T.length := by omega
            subst ejn
            have q6 : decide (T.length < T.length) = false := by simp
            have et : lastOf (T.take T.length) = lastOf T := by rw [List.take_length]
            rw [et]
            clear R2 et hgh2 hgh
            generalize SS T.length = sj at *
            generalize hgg : CC T.length = g at *
            generalize lastOf T = y at *
            have K11' : Aside (∀ u : World, Below wa.heap.size wa u → Calls Tryz.prog 11 #[.pointer (some ⟨b, 0, none⟩), .string s, .int .i64 below] u fun e w' => e = .returned (.int .i64 (g : Int)) ∧ ∃ d', Dk.Rep w' w.heap.size b d' ∧ d'.pl = goneAt d.pl s T g ∧ Dk.Step (d.foot b) (d'.foot b) u w') := K11.out
            clear K11
            have LL : Aside (∀ u : World, Below wr.heap.size wr u → ∀ (u' : World) (d' : Dk.Ds), Dk.Rep u' w.heap.size b d' → Dk.Step (d.foot b) (d'.foot b) u u' → Lp w u' b m8 m9 d' (hasP s M) (M.map Prod.fst)) := fun u hu u' d' h1 h2 => (L4.out.later hu).step h1 h2
            have t1 : ((R.length : Int) == (T.length : Int) - (g : Int)) = true := by simp; omega
            have t2 : ((nl : Int) == (M.length : Int) - (g : Int)) = true := by simp; omega
            by_cases h0 : R.length = 0
            · rw [h0] at t1
              have t3 : ((R.length : Int) == 0) = true := by simp [h0]
              go_wp2_with (first
                | (go_at_call 9; refine (K9.out _ hb4).mono ?_; rintro e w5 ⟨rfl, hb5⟩; have hb5' := hb4.trans (hb5.mono hb4.size))
                | (go_at_call 10; refine (K10.out _ hb5').mono ?_; rintro e w6 ⟨rfl, hb6⟩; have hb6' := hb5'.trans (hb6.mono hb5'.size))
                | (go_at_call 11; refine (K11'.out _ hb6').mono ?_; rintro e w7 ⟨rfl, d', hr7, hd7, hs7⟩; obtain ⟨ok7, hz7, hn7, ha7⟩ := G4.out d' hd7; have L7 : Aside (Lp w w7 b m8 m9 d' (hasP s M) (M.map Prod.fst)) := LL.out _ (hb5.trans (hb6.mono hb5.size)) _ _ hr7 hs7; have k8 := all_any L7.out.rep ok7 hz7 s (HV.out.below L7.out.below); rw [ha7] at k8; clear hr7 hs7 hd7 hz7)
                | (go_at_call 8; refine k8.mono ?_; rintro e w8 ⟨v, rfl, ho8, hb8⟩; obtain ⟨av8, cv8, ev⟩ := Dk.own_any ho8; subst ev; have L8 : Aside (Lp w w8 b m8 m9 d' (hasP s M) (M.map Prod.fst)) := L7.out.later hb8; have k12 := Dk.names_any L8.out.rep ok7; rw [hn7] at k12; rw [h0] at ho8)
                | (go_at_call 12; refine k12.mono ?_; rintro e w9 ⟨v, rfl, ho9, hb9⟩; obtain ⟨av9, cv9, ev⟩ := Dk.own_any ho9; subst ev; have L9 : Aside (Lp w w9 b m8 m9 d' (hasP s M) (M.map Prod.fst)) := L8.out.later hb9; have ml9 : ∀ ty, (Builtin.len_ #[27] ty #[.map (some m9)]).run Tryz.prog w9 = .ok (.int .i64 (M.length : Int)) w9 := fun ty => (by rw [← hMl]; exact L9.out.ms.len ty)))
              go_ret
              exact ⟨rfl, L9.out.below⟩
            · have hRh' := hRh h0
              have t3 : ((R.length : Int) == 0) = false := beq_eq_false_iff_ne.2 (by omega)
              have t4 : decide (below ≤ R.getD 0 0) = true := decide_eq_true hRh'
              go_wp2_with (first
                | (go_at_call 9; refine (K9.out _ hb4).mono ?_; rintro e w5 ⟨rfl, hb5⟩; have hb5' := hb4.trans (hb5.mono hb4.size))
                | (go_at_call 10; refine (K10.out _ hb5').mono ?_; rintro e w6 ⟨rfl, hb6⟩; have hb6' := hb5'.trans (hb6.mono hb5'.size))
                | (go_at_call 11; refine (K11'.out _ hb6').mono ?_; rintro e w7 ⟨rfl, d', hr7, hd7, hs7⟩; obtain ⟨ok7, hz7, hn7, ha7⟩ := G4.out d' hd7; have L7 : Aside (Lp w w7 b m8 m9 d' (hasP s M) (M.map Prod.fst)) := LL.out _ (hb5.trans (hb6.mono hb5.size)) _ _ hr7 hs7; have k8 := all_any L7.out.rep ok7 hz7 s (HV.out.below L7.out.below); rw [ha7] at k8; clear hr7 hs7 hd7 hz7)
                | (go_at_call 8; refine k8.mono ?_; rintro e w8 ⟨v, rfl, ho8, hb8⟩; obtain ⟨av8, cv8, ev⟩ := Dk.own_any ho8; subst ev; have L8 : Aside (Lp w w8 b m8 m9 d' (hasP s M) (M.map Prod.fst)) := L7.out.later hb8; have k12 := Dk.names_any L8.out.rep ok7; rw [hn7] at k12; obtain ⟨l8, c8, e8, _, _, hl8⟩ := Dk.own_form ho8 (by omega); injection e8 with e8 _ e8'; subst e8 e8'; have z8 := Dk.own_cell ho8 hl8 (icell (k := 0) (by omega)))
                | (go_at_call 12; refine k12.mono ?_; rintro e w9 ⟨v, rfl, ho9, hb9⟩; obtain ⟨av9, cv9, ev⟩ := Dk.own_any ho9; subst ev; have L9 : Aside (Lp w w9 b m8 m9 d' (hasP s M) (M.map Prod.fst)) := L8.out.later hb9; have ml9 : ∀ ty, (Builtin.len_ #[27] ty #[.map (some m9)]).run Tryz.prog w9 = .ok (.int .i64 (M.length : Int)) w9 := fun ty => (by rw [← hMl]; exact L9.out.ms.len ty)))
              go_ret
              exact ⟨rfl, L9.out.below⟩
  · by_cases h16 : n ≤ 16
    · have d1 : decide (16 < (n : Int)) = false := by simp; omega
      have d1' : decide (16 < n) = false := by simp; omega
      have d2 : decide (30 < (s.size : Int)) = true := by simp; omega
      have d2' : decide (30 < s.size) = true := by simp; omega
      go_enter Tryz.func3, Tryz.ntmps3
      go_wp2_with (go_at_call 4; refine k4.mono ?_; rintro e w1 ⟨rfl, hb1⟩)
      go_ret
      exact ⟨rfl, hb1⟩
    · have d1 : decide (16 < (n : Int)) = true := by simp; omega
      have d1' : decide (16 < n) = true := by simp; omega
      go_enter Tryz.func3, Tryz.ntmps3
      go_wp2_with (go_at_call 4; refine k4.mono ?_; rintro e w1 ⟨rfl, hb1⟩)
      go_ret
      exact ⟨rfl, hb1⟩
end Go.Proofs.YtblhkhgcaheplaaGreatDoor
