/-
  YtpeioecpilmpiaaGreatDoor: the texts J9, one behind the other.
-/
import Derived.Test.YtpeioecpilmpiaaGreatDoorMF12
import Derived.WalkKit
import Derived.WalkSpells
import Derived.WalkLawsBesides
import Derived.Deep.LoopGhost
import Derived.Laws.Externs
import Derived.Below
import Derived.BigQuiet
import Derived.Deep.RegionWith
import Derived.OwnWalk
import Derived.Maps.AppendAt
/-
  The reader of the program: a list.
-/
namespace Go.Proofs.YtpeioecpilmpiaaGreatDoor
open Go.RowKit
namespace Js
def liT (g : B → Ans) (t : B) : Except Nat (List X × B) := match skip t with
  | 93 :: r => .ok ([], r)
  | t' => lix g t' []
def obT (g : B → Ans) (t : B) : Except Nat (List (B × X) × B) := match skip t with
  | 125 :: r => .ok ([], r)
  | t' => obx g t' []
theorem liT_end (g : B → Ans) (t r : B) (h : skip t = 93 :: r) : liT g t = .ok ([], r) := by
  unfold liT
  rw [h]
  rfl
theorem liT_other (g : B → Ans) (t : B) (h : ∀ r, skip t ≠ 93 :: r) : liT g t = lix g (skip t) [] := by
  unfold liT
  split
  · rename_i r e
    exact absurd e (h r)
  · rfl
theorem obT_end (g : B → Ans) (t r : B) (h : skip t = 125 :: r) : obT g t = .ok ([], r) := by
  unfold obT
  rw [h]
  rfl
theorem obT_other (g : B → Ans) (t : B) (h : ∀ r, skip t ≠ 125 :: r) : obT g t = obx g (skip t) [] := by
  unfold obT
  split
  · rename_i r e
    exact absurd e (h r)
  · rfl
theorem va_91 (g : B → Ans) (t : B) : va (some g) (91 :: t) = (liT g t).map fun x => (mkList x.1, x.2) := by
  simp only [va]
  rw [if_neg (by decide), if_neg (by decide), if_neg (by decide), if_neg (by decide), if_pos trivial]
  unfold liT
  generalize skip t = u
  have hu : (∃ r, u = 93 :: r) ∨ ∀ r, u ≠ 93 :: r := by
    by_cases h : ∃ r, u = 93 :: r
    · exact .inl h
    · exact .inr fun r e => h ⟨r, e⟩
  rcases hu with ⟨r, rfl⟩ | hu
  · rfl
  · split
    · rename_i r
      exact absurd rfl (hu r)
    · split
      · rename_i r _
        exact absurd rfl (hu r)
      · rfl
theorem va_123 (g : B → Ans) (t : B) : va (some g) (123 :: t) = (obT g t).map fun x => (mkObj x.1, x.2) := by
  simp only [va]
  rw [if_neg (by decide), if_neg (by decide), if_neg (by decide), if_neg (by decide), if_neg (by decide), if_pos trivial]
  unfold obT
  generalize skip t = u
  have hu : (∃ r, u = 125 :: r) ∨ ∀ r, u ≠ 125 :: r := by
    by_cases h : ∃ r, u = 125 :: r
    · exact .inl h
    · exact .inr fun r e => h ⟨r, e⟩
  rcases hu with ⟨r, rfl⟩ | hu
  · rfl
  · split
    · rename_i r
      exact absurd rfl (hu r)
    · split
      · rename_i r _
        exact absurd rfl (hu r)
      · rfl
end Js

/-- How a list goes on: b: there is another one. -/
def LSt (g : Js.B → Js.Ans) (s : ByteArray) (T : Except Nat (List Js.X × Js.B)) (d : Nat) : Bool → Nat → Nat → Nat → List Js.X → Prop
  | true, q, dd, e, l => q ≤ s.size ∧ e = 0 ∧ dd = d + 1 ∧ Js.lix g (L s q) l = T
  | false, q, dd, e, l => q ≤ s.size ∧ ((e = 0 ∧ dd = d ∧ T = .ok (l, L s q)) ∨ (e ≠ 0 ∧ d ≤ dd ∧ dd ≤ 8 ∧ T = .error e))

theorem lst_start (g : Js.B → Js.Ans) (s : ByteArray) (d q : Nat) (t : Js.B) (hq : q ≤ s.size) (hl : L s q = Js.skip t) :
    LSt g s (Js.liT g t) d (!(ht s q 0 93)) (if ht s q 0 93 then q + 1 else q) (if ht s q 0 93 then d else d + 1) 0 [] := by
  cases c : ht s q 0 93 with
  | true =>
    obtain ⟨h1, h2⟩ := ht_true s q 93 hq (by decide) c
    rw [Js.liT_end g t (L s (q + 1)) (hl ▸ h2)]
    exact ⟨h1, .inl ⟨rfl, rfl, rfl⟩⟩
  | false =>
    have h2 := ht_false s q 93 c
    rw [Js.liT_other g t (fun r e => h2 r (hl.trans e)), ← hl]
    exact ⟨hq, rfl, rfl, rfl⟩

/-- One value more. -/
theorem lst_next {g : Js.B → Js.Ans} (hg : Js.Shr g) {s : ByteArray} {T : Except Nat (List Js.X × Js.B)} {d q dd : Nat} {l : List Js.X} (h : LSt g s T d true q dd 0 l) (q2 d2 e2 : Nat) (hq2 : q2 ≤ s.size) (hd : d + 1 ≤ d2 + 1) (hd8 : d2 + 1 ≤ 8)
    (x : Js.X) (hv : (e2 = 0 ∧ d2 = d ∧ ∃ rest, g (L s q) = .ok (x, rest) ∧ L s q2 = Js.skip rest) ∨ (e2 ≠ 0 ∧ g (L s q) = .error e2)) :
    LSt g s T d (ht s q2 e2 44) (if ht s q2 e2 44 then q2 + 1 else if ht s q2 e2 93 then q2 + 1 else q2) (if ht s q2 e2 44 then d2 + 1 else if ht s q2 e2 93 then d2 else d2 + 1) (if ht s q2 e2 44 then e2 else if ht s q2 e2 93 then e2 else fl e2 3) (l ++ [x]) ∧
      ((if ht s q2 e2 44 then e2 else if ht s q2 e2 93 then e2 else fl e2 3) = 0 → e2 = 0) := by
  obtain ⟨_, _, _, hT⟩ := h
  rw [Js.lix_eq g hg] at hT
  rcases hv with ⟨rfl, rfl, rest, h1, h2⟩ | ⟨h1, h2⟩
  · rw [h1] at hT
    simp only [← h2] at hT
    refine ⟨?_, fun _ => rfl⟩
    cases c1 : ht s q2 0 44 with
    | true =>
      obtain ⟨k1, k2⟩ := ht_true s q2 44 hq2 (by decide) c1
      rw [k2] at hT
      exact ⟨k1, rfl, rfl, hT⟩
    | false =>
      have n1 := ht_false s q2 44 c1
      cases c2 : ht s q2 0 93 with
      | true =>
        obtain ⟨k1, k2⟩ := ht_true s q2 93 hq2 (by decide) c2
        rw [k2] at hT
        exact ⟨k1, .inl ⟨rfl, rfl, hT.symm⟩⟩
      | false =>
        have n2 := ht_false s q2 93 c2
        refine ⟨hq2, .inr ⟨by decide, by simp, by simpa using hd8, ?_⟩⟩
        rw [← hT]
        split
        · rename_i r e
          exact absurd e (n1 r)
        · rename_i r e
          exact absurd e (n2 r)
        · rfl
  · rw [h2] at hT
    have c1 : ht s q2 e2 44 = false := ht_bad s q2 e2 44 h1 (by decide)
    have c2 : ht s q2 e2 93 = false := ht_bad s q2 e2 93 h1 (by decide)
    rw [c1, c2]
    simp only [Bool.false_eq_true, if_false]
    rw [fl_bad e2 3 h1]
    exact ⟨⟨hq2, .inr ⟨h1, by omega, hd8, hT.symm⟩⟩, fun h => h⟩
/-- What a value's reading leaves. -/
def VR (n : Nat) (s : ByteArray) (p d : Nat) (v : Value) (q d' e' : Nat) (w w' : World) : Prop :=
  (e' = 0 ∧ d' = d ∧ ∃ x rest, Js.pv n (L s p) = .ok (x, rest) ∧ L s q = Js.skip rest ∧ Tv n (Bt w.heap.size w'.heap.size) w' v x) ∨ (e' ≠ 0 ∧ Js.pv n (L s p) = .error e')
def VC (n : Nat) : Prop := ∀ (r : Nat) (s : ByteArray) (p d e : Nat) (w : World), Rd r s p d e w → p ≤ s.size → s.size ≤ 1000 → d + n = 8 →
  Calls Tryz.prog 30 #[.pointer (some ⟨r, 0, none⟩)] w fun en w' => ∃ (ty : TypeId) (vv : Value) (q d' e' : Nat), en = .returned (.iface ty vv) ∧ q ≤ s.size ∧ d ≤ d' ∧ d' ≤ 8 ∧ Rd r s q d' e' w' ∧ w.grownBy w' (some r) ∧ (e ≠ 0 → e' = e ∧ d' = d) ∧ (e = 0 → VR n s p d (.iface ty vv) q d' e' w w')
/-- What a list's reading leaves. -/
def LR (n : Nat) (s : ByteArray) (t : Js.B) (d : Nat) (sl : Value) (q d' e' : Nat) (w w' : World) : Prop :=
  (e' = 0 ∧ d' = d ∧ ∃ l rest, Js.liT (Js.pv n) t = .ok (l, rest) ∧ L s q = rest ∧ Tv (n + 1) (Bt w.heap.size w'.heap.size) w' (.iface 69 sl) (Js.mkList l)) ∨ (e' ≠ 0 ∧ Js.liT (Js.pv n) t = .error e')

/-- The memory of a list that is read. -/
def LM (n B : Nat) (w : World) (sl : Value) (e : Nat) (l : List Js.X) (vs : List Value) : Prop := w.ownsRow B 20 1 sl vs.length vs ∧ (e = 0 → LI n B w sl vs l)

/-- What a value's reading says of the text. -/
def VS (n : Nat) (s : ByteArray) (p d : Nat) (x : Js.X) (q d' e' : Nat) : Prop :=
  (e' = 0 ∧ d' = d ∧ ∃ rest, Js.pv n (L s p) = .ok (x, rest) ∧ L s q = Js.skip rest) ∨ (e' ≠ 0 ∧ Js.pv n (L s p) = .error e')
theorem VS.adv {n : Nat} {s : ByteArray} {p d : Nat} {x : Js.X} {q d' : Nat} (h : VS n s p d x q d' 0) (hq : q ≤ s.size) (hp : p ≤ s.size) : p < q ∧ d' = d := by
  rcases h with ⟨_, hd, rest, h1, h2⟩ | ⟨h1, _⟩
  · have a := Js.pv_shr n _ _ _ h1
    have b := Js.skip_len rest
    rw [← h2, L_len] at b
    rw [L_len] at a
    exact ⟨by omega, hd⟩
  · exact absurd rfl h1

theorem list_push {n B r : Nat} {w w2 : World} {sl u : Value} {vs : List Value} {l : List Js.X} {s : ByteArray} {p d q d' e' : Nat} (h : LI n B w sl vs l) (hr : r < B) (hg : w.grownBy w2 (some r)) (hu : u.oneCell' = true) (hv : VR n s p d u q d' e' w w2) (hl : vs.length ≤ 1000) (hB : B ≤ w.heap.size) :
    ∃ x v' w', (Builtin.append_ #[69, 69] 69 #[sl, .slice (some ⟨w2.heap.size, 0, none⟩) 1 1]).run Tryz.prog (w2.alloc (.cells #[u] 20)) = .ok v' w' ∧ Below B w2 w' ∧ LM n B w' v' e' (l ++ [x]) (vs ++ [u]) ∧ VS n s p d x q d' e' := by
  rcases hv with ⟨rfl, rfl, x, rest, h1, h2, h3⟩ | ⟨h1, h2⟩
  · obtain ⟨v', w', e1, e2, e3⟩ := h.push hr hg h3 hl hB 69
    exact ⟨x, v', w', e1, e3, ⟨e2.own, fun _ => e2⟩, .inl ⟨rfl, rfl, rest, h1, h2⟩⟩
  · have hz := hg.size
    obtain ⟨v', w', e1, e2, e3, _⟩ := push_run B w2 sl u vs (h.kept hr hg).own hu hl (by omega) 69
    exact ⟨Js.nil, v', w', e1, e3, ⟨by rw [List.length_append]; exact e2, fun h => absurd h h1⟩, .inr ⟨h1, h2⟩⟩
theorem LM.kept {n B r : Nat} {w w' : World} {sl : Value} {e : Nat} {l : List Js.X} {vs : List Value} (h : LM n B w sl e l vs) (hr : r < B) (hg : w.grownBy w' (some r)) (e2 : Nat) (he : e2 = 0 → e = 0) : LM n B w' sl e2 l vs :=
  ⟨own_frame h.1 (fun k hk => hg.block k (own_place h.1 hk).2 (fun e => by injection e; have := (own_place h.1 hk).1; omega)), fun h2 => (h.2 (he h2)).kept hr hg⟩

set_option maxHeartbeats 3200000 in
set_option maxRecDepth 100000 in
theorem list_any (n : Nat) (ih : VC n) (r : Nat) (s : ByteArray) (p d : Nat) (t : Js.B) (w : World) (h : Rd r s p d 0 w) (hp : p < s.size) (hl : L s (p + 1) = t) (hs : s.size ≤ 1000) (hd : d + (n + 1) = 8) :
    Calls Tryz.prog 69 #[.pointer (some ⟨r, 0, none⟩)] w fun en w' => ∃ (sl : Value) (q d' e' : Nat), en = .returned sl ∧ sl.oneCell' = true ∧ q ≤ s.size ∧ d ≤ d' ∧ d' ≤ 8 ∧ Rd r s q d' e' w' ∧ w.grownBy w' (some r) ∧ LR n s t d sl q d' e' w w' := by
  have O := asd (open_any r s p d w h hp hs (by omega))
  have hrw := h.lt
  clear h
  have T1 : Aside True := trivial
  have T2 : Aside True := trivial
  have HD := asd hd
  go_enter Tryz.func69, Tryz.ntmps69
  go_wp2_with (first
    | (clear T1; go_at_call 89; refine O.out.mono ?_; rintro en w1 ⟨rfl, g1, (⟨h8, _⟩ | ⟨h8, q0, hq0, hl0, h1⟩)⟩
       · exact absurd h8 (by omega)
       have A1 := asd (And.intro h1 g1)
       have ST := asd (lst_start (Js.pv n) s d q0 t hq0 (by rw [← hl]; exact hl0))
       have S1 := asd (shut_any r s q0 d 0 93 w1 h1 hq0 hs (by omega))
       clear h1 g1 hl0 O)
    | (clear T2; go_at_call 90; refine S1.out.mono ?_; rintro en w2 ⟨rfl, h2, g2⟩; have A2 := asd (And.intro h2 (gtrans A1.out.2 g2)); clear h2 g2 S1))
  go_loopg [3, 4] (s.size + 1) (fun gh s3 s4 wr => ∃ (b : Bool) (q dd e : Nat) (l : List Js.X) (vs : List Value), (if b then s.size - q + 1 else 0) ≤ gh ∧ s4 = .bool b ∧ (b = true → vs.length ≤ q) ∧
    Aside (LSt (Js.pv n) s (Js.liT (Js.pv n) t) d b q dd e l ∧ Rd r s q dd e wr ∧ w.grownBy wr (some r) ∧ LM n w.heap.size wr s3 e l vs))
  case atStart =>
    refine ⟨!(ht s q0 0 93), _, _, 0, [], [], ?_, ?_, fun _ => Nat.zero_le _, ST.out, A2.out.1, A2.out.2, ⟨rfl, .inl ⟨rfl, rfl⟩⟩, fun _ => LI.nil _ _ _⟩
    · split
      · split <;> omega
      · omega
    · cases ht s q0 0 93 <;> rfl
  case round =>
    obtain ⟨b, q, dd, e, l, vs, hgh, rfl, hvl, I⟩ := hrel
    cases b with
    | false =>
      have HF := asd I.out
      go_wp2_with fail
      go_ret
      obtain ⟨⟨hq, hc⟩, f2, f3, f4, f5⟩ := HF.out
      refine ⟨_, q, dd, e, rfl, own_one f4, hq, ?_, ?_, f2, f3, ?_⟩
      · rcases hc with ⟨_, rfl, _⟩ | ⟨_, hc, _, _⟩ <;> omega
      · rcases hc with ⟨_, rfl, _⟩ | ⟨_, _, hc, _⟩ <;> omega
      · rcases hc with ⟨rfl, rfl, hc⟩ | ⟨h1, _, _, hc⟩
        · exact .inl ⟨rfl, rfl, l, _, hc, rfl, (f5 rfl).done⟩
        · exact .inr ⟨h1, hc⟩
    | true =>
      obtain ⟨⟨hq, rfl, rfl, hT⟩, f2, f3, f4, f5⟩ := I.out
      have LS : Aside (LSt (Js.pv n) s (Js.liT (Js.pv n) t) d true q (d + 1) 0 l) := ⟨hq, rfl, rfl, hT⟩
      have V := asd (ih r s q (d + 1) 0 wr f2 hq hs (by omega))
      have G3 := asd f3
      have F5 := asd (f5 rfl)
      have hBw : w.heap.size ≤ wr.heap.size := f3.size
      have HVQ := asd (hvl rfl)
      clear hvl
      clear I f2 f3 f4 f5 hT
      have T3 : Aside True := trivial
      have T4 : Aside True := trivial
      go_wp2_with (first
        | (clear T3; go_at_call 30; refine V.out.mono ?_; rintro en w3 ⟨ty, vv, q2, d2', e2, rfl, hq2, hd1, hd2, h3, g3, _, hv⟩
           obtain ⟨d2, rfl⟩ : ∃ d2, d2' = d2 + 1 := ⟨d2' - 1, by omega⟩
           obtain ⟨x, v', w4, e1, b4, m4, vs4⟩ := list_push F5.out hrw g3 rfl (hv rfl) (by have := HVQ.out; omega) hBw
           have HRUN := asd e1
           have A4 := asd (And.intro (h3.below hrw b4) (And.intro (gbel (gtrans G3.out g3) b4) (And.intro m4 vs4)))
           have NX := asd (lst_next (Js.pv_shr n) LS.out q2 d2 e2 hq2 hd1 hd2 x (vs4.elim (fun ⟨a, b, c⟩ => .inl ⟨a, by omega, c⟩) .inr))
           have MO := asd (more_any r s q2 d2 e2 93 (by decide) w4 A4.out.1 hq2 hs (by omega))
           clear h3 g3 hv V e1 b4 m4 vs4)
        | (at_builtin; refine Lib.wpList_append_run _ rfl _ _ _ _ rfl _ _ rfl rfl _ _ HRUN.out ?_)
        | (clear T4; go_at_call 91; refine MO.out.mono ?_; rintro en w5 ⟨rfl, h5, g5⟩; have A5 := asd (And.intro h5 (And.intro (gtrans A4.out.2.1 g5) g5)); clear h5 g5 MO))
      go_roundg (if ht s q2 e2 44 then s.size - (q2 + 1) + 1 else 0)
      case measure =>
        simp only [if_true] at hgh
        split
        · rename_i h44
          have he : e2 = 0 := Classical.byContradiction fun he => by rw [show (44 : Nat) = (44 : UInt8).toNat by rfl, ht_bad s q2 e2 44 he (by decide)] at h44; cases h44
          subst he
          have := (VS.adv A4.out.2.2.2 hq2 hq).1
          omega
        · omega
      case rel =>
        refine ⟨ht s q2 e2 44, _, _, _, l ++ [x], vs ++ [.iface ty vv], ?_, rfl, ?_, NX.out.1, A5.out.1, A5.out.2.1, A4.out.2.2.1.kept hrw A5.out.2.2 _ NX.out.2⟩
        · split
          · exact Nat.le_refl _
          · exact Nat.zero_le _
        · intro h44
          rw [if_pos h44, List.length_append]
          have he : e2 = 0 := Classical.byContradiction fun he => by rw [show (44 : Nat) = (44 : UInt8).toNat by rfl, ht_bad s q2 e2 44 he (by decide)] at h44; cases h44
          subst he
          have := (VS.adv A4.out.2.2.2 hq2 hq).1
          have := HVQ.out
          simp only [List.length_cons, List.length_nil]
          omega
end Go.Proofs.YtpeioecpilmpiaaGreatDoor
