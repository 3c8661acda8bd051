/-
  YtpeioecpilmpiaaGreatDoor: the texts J10, one behind the other.
-/
import Derived.Test.YtpeioecpilmpiaaGreatDoorMF13
import Derived.WalkKit
import Derived.WalkSpells
import Derived.WalkLawsBesides
import Derived.Deep.LoopGhost
import Derived.Laws.Externs
import Derived.Below
import Derived.BigQuiet
import Derived.Deep.RegionWith
import Derived.OwnWalk
import Derived.Maps.AppendAt
/-
  The reader of the program: an object.
-/
namespace Go.Proofs.YtpeioecpilmpiaaGreatDoor
open Go.RowKit
/-- How an object goes on. -/
def OSt (g : Js.B → Js.Ans) (s : ByteArray) (T : Except Nat (List (Js.B × Js.X) × Js.B)) (d : Nat) : Bool → Nat → Nat → Nat → List (Js.B × Js.X) → Prop
  | true, q, dd, e, l => q ≤ s.size ∧ e = 0 ∧ dd = d + 1 ∧ Js.obx g (L s q) l = T
  | false, q, dd, e, l => q ≤ s.size ∧ ((e = 0 ∧ dd = d ∧ T = .ok (l, L s q)) ∨ (e ≠ 0 ∧ d ≤ dd ∧ dd ≤ 8 ∧ T = .error e))

theorem ost_start (g : Js.B → Js.Ans) (s : ByteArray) (d q : Nat) (t : Js.B) (hq : q ≤ s.size) (hl : L s q = Js.skip t) :
    OSt g s (Js.obT g t) d (!(ht s q 0 125)) (if ht s q 0 125 then q + 1 else q) (if ht s q 0 125 then d else d + 1) 0 [] := by
  cases c : ht s q 0 125 with
  | true =>
    obtain ⟨h1, h2⟩ := ht_true s q 125 hq (by decide) c
    rw [Js.obT_end g t (L s (q + 1)) (hl ▸ h2)]
    exact ⟨h1, .inl ⟨rfl, rfl, rfl⟩⟩
  | false =>
    have h2 := ht_false s q 125 c
    rw [Js.obT_other g t (fun r e => h2 r (hl.trans e)), ← hl]
    exact ⟨hq, rfl, rfl, rfl⟩

/-- A member, as it is read: its name; whether it is there; the : behind it. -/
structure Mem (s : ByteArray) (q q1 : Nat) (t : Js.B) (q2 e2 : Nat) (has : Bool) (e3 q3 q4 e4 : Nat) : Prop where
  sk : L s q1 = Js.skip (L s q)
  nm : Out s 0 (SR s q1) (· = t) q2 e2
  f3 : e3 = if has then fl e2 7 else e2
  sk3 : e3 = 0 → L s q3 = Js.skip (L s q2)
  mu : Mu s q3 e3 58 q4 e4
  le : q3 ≤ s.size

/-- What a member gives: all is right, or a fault. -/
theorem Mem.gives {g : Js.B → Js.Ans} (hg : Js.Shr g) {s : ByteArray} {q q1 q2 e2 e3 q3 q4 e4 : Nat} {t : Js.B} {has : Bool} {l : List (Js.B × Js.X)} (m : Mem s q q1 t q2 e2 has e3 q3 q4 e4) (hh : has = decide (t ∈ l.map (·.1))) :
    (e4 = 0 ∧ has = false ∧ (t ∉ l.map (·.1) ∧ Lib.validD t = true) ∧ (L s q4).length < (L s q).length ∧ Js.obx g (L s q) l = match g (L s q4) with
            | .error e => .error e
            | .ok (x, r2) => match Js.skip r2 with
              | 44 :: r3 => Js.obx g r3 (Js.ins l t x)
              | 125 :: r3 => .ok (Js.ins l t x, r3)
              | _ => .error 3) ∨ (e4 ≠ 0 ∧ Js.obx g (L s q) l = .error e4) := by
  have hob := Js.obx_eq g hg (L s q) l
  have m1 := m.mu.flt
  have m2 := m.mu.pos
  have hsk := m.sk
  have h3 := m.f3
  rw [← hsk] at hob
  have stay : e3 ≠ 0 → e4 = e3 := fun h => by
    have c := ht_bad s q3 e3 58 h (by decide)
    rw [show (58 : UInt8).toNat = 58 by rfl] at c
    rw [c] at m1
    simp only [Bool.false_eq_true, if_false] at m1
    rw [m1]; exact fl_bad e3 3 h
  obtain ⟨k2, O⟩ := m.nm
  rcases O with ⟨_, rfl, v, rfl, h5⟩ | ⟨a, b, c⟩
  · have h34 : ∃ l', L s q1 = 34 :: l' ∧ Js.txx l' [] = some (v, L s q2) := by
      unfold SR at h5
      split at h5
      · rename_i l' e
        exact ⟨l', e, h5⟩
      · cases h5
    obtain ⟨l', e, h6⟩ := h34
    have hl6 := Js.txx_len l' [] v (L s q2) h6
    have hl1 := Js.skip_len (L s q)
    rw [← hsk, e, List.length_cons] at hl1
    rw [e] at hob
    simp only [h6] at hob
    cases has with
    | true =>
      have hin : v ∈ l.map (·.1) := of_decide_eq_true hh.symm
      rw [if_pos hin] at hob
      have e7 : e3 = 7 := by rw [h3]; rfl
      have := stay (by omega)
      exact .inr ⟨by omega, by rw [hob, this, e7]⟩
    | false =>
      have hni : v ∉ l.map (·.1) := of_decide_eq_false hh.symm
      rw [if_neg hni] at hob
      have e0 : e3 = 0 := by rw [h3]; rfl
      subst e0
      have hs3 := m.sk3 rfl
      rw [← hs3] at hob
      have hl3 := Js.skip_len (L s q2)
      rw [← hs3] at hl3
      cases c : ht s q3 0 58 with
      | true =>
        obtain ⟨k3, k4⟩ := ht_true s q3 58 m.le (by decide) c
        rw [c] at m1 m2
        simp only [if_true] at m1 m2
        subst m1 m2
        rw [k4] at hob hl3
        rw [List.length_cons] at hl3
        exact .inl ⟨rfl, rfl, ⟨hni, (Js.txx_q l' [] v (L s q2) h6 rfl).2⟩, by omega, hob⟩
      | false =>
        have k4 := ht_false s q3 58 c
        rw [c] at m1
        have e3' : e4 = 3 := by rw [m1]; rfl
        refine .inr ⟨by omega, ?_⟩
        rw [hob, e3']
        split
        · rename_i r e
          exact absurd e (k4 r)
        · rfl
  · have e23 : e2 = 3 := by rw [b]; rfl
    have e33 : e3 = 3 := by rw [h3, e23]; cases has <;> rfl
    have := stay (by omega)
    refine .inr ⟨by omega, ?_⟩
    rw [hob, this, e33]
    have hn : SR s q1 = none := by
      rcases c with c | c
      · exact absurd rfl c
      · exact c
    unfold SR at hn
    split
    · rename_i t' e
      rw [e] at hn
      simp only [] at hn
      rw [hn]
    · rfl

theorem ost_next {g : Js.B → Js.Ans} (hg : Js.Shr g) {s : ByteArray} {T : Except Nat (List (Js.B × Js.X) × Js.B)} {d q dd : Nat} {l : List (Js.B × Js.X)} (h : OSt g s T d true q dd 0 l)
    {q1 q2 e2 e3 q3 q4 e4 : Nat} {t : Js.B} {has : Bool} (m : Mem s q q1 t q2 e2 has e3 q3 q4 e4) (hh : has = decide (t ∈ l.map (·.1))) (q5 d5 e5 : Nat) (hq5 : q5 ≤ s.size) (hd : d + 1 ≤ d5 + 1) (hd8 : d5 + 1 ≤ 8)
    (x : Js.X) (hv0 : e4 ≠ 0 → e5 = e4) (hv : e4 = 0 → (e5 = 0 ∧ d5 = d ∧ ∃ rest, g (L s q4) = .ok (x, rest) ∧ L s q5 = Js.skip rest) ∨ (e5 ≠ 0 ∧ g (L s q4) = .error e5)) :
    OSt g s T d (ht s q5 e5 44) (if ht s q5 e5 44 then q5 + 1 else if ht s q5 e5 125 then q5 + 1 else q5) (if ht s q5 e5 44 then d5 + 1 else if ht s q5 e5 125 then d5 else d5 + 1) (if ht s q5 e5 44 then e5 else if ht s q5 e5 125 then e5 else fl e5 3) (Js.ins l t x) ∧
      ((if ht s q5 e5 44 then e5 else if ht s q5 e5 125 then e5 else fl e5 3) = 0 → e5 = 0) ∧ (e5 = 0 → q < q5 ∧ e4 = 0 ∧ t ∉ l.map (·.1) ∧ Lib.validD t = true) := by
  obtain ⟨_, _, _, hT⟩ := h
  have bad : e5 ≠ 0 → T = .error e5 → OSt g s T d (ht s q5 e5 44) (if ht s q5 e5 44 then q5 + 1 else if ht s q5 e5 125 then q5 + 1 else q5) (if ht s q5 e5 44 then d5 + 1 else if ht s q5 e5 125 then d5 else d5 + 1) (if ht s q5 e5 44 then e5 else if ht s q5 e5 125 then e5 else fl e5 3) (Js.ins l t x) ∧
      ((if ht s q5 e5 44 then e5 else if ht s q5 e5 125 then e5 else fl e5 3) = 0 → e5 = 0) ∧ (e5 = 0 → q < q5 ∧ e4 = 0 ∧ t ∉ l.map (·.1) ∧ Lib.validD t = true) := fun h1 h2 => by
    have c1 : ht s q5 e5 44 = false := ht_bad s q5 e5 44 h1 (by decide)
    have c2 : ht s q5 e5 125 = false := ht_bad s q5 e5 125 h1 (by decide)
    rw [c1, c2]
    simp only [Bool.false_eq_true, if_false]
    rw [fl_bad e5 3 h1]
    exact ⟨⟨hq5, .inr ⟨h1, by omega, hd8, h2⟩⟩, fun h => h, fun h => absurd h h1⟩
  rcases m.gives hg hh with ⟨rfl, _, hni, hlen, hob⟩ | ⟨h4, hob⟩
  · rw [hob] at hT
    rcases hv rfl with ⟨rfl, rfl, rest, h1, h2⟩ | ⟨h1, h2⟩
    · rw [h1] at hT
      simp only [← h2] at hT
      have a := hg _ _ _ h1
      have b := Js.skip_len rest
      rw [← h2, L_len] at b
      rw [L_len] at a
      rw [L_len, L_len] at hlen
      refine ⟨?_, fun _ => rfl, fun _ => ⟨by omega, rfl, hni⟩⟩
      cases c1 : ht s q5 0 44 with
      | true =>
        obtain ⟨k1, k2⟩ := ht_true s q5 44 hq5 (by decide) c1
        rw [k2] at hT
        exact ⟨k1, rfl, rfl, hT⟩
      | false =>
        have n1 := ht_false s q5 44 c1
        cases c2 : ht s q5 0 125 with
        | true =>
          obtain ⟨k1, k2⟩ := ht_true s q5 125 hq5 (by decide) c2
          rw [k2] at hT
          exact ⟨k1, .inl ⟨rfl, rfl, hT.symm⟩⟩
        | false =>
          have n2 := ht_false s q5 125 c2
          refine ⟨hq5, .inr ⟨by decide, by simp, by simpa using hd8, ?_⟩⟩
          rw [← hT]
          split
          · rename_i r e
            exact absurd e (n1 r)
          · rename_i r e
            exact absurd e (n2 r)
          · rfl
    · rw [h2] at hT
      exact bad h1 hT.symm
  · have := hv0 h4
    rw [hob, ← this] at hT
    exact bad (by omega) hT.symm
def E3 (has : Bool) (e2 e3 : Nat) : Prop := e3 = if has = true then fl e2 7 else e2
/-- What an object's reading leaves. -/
def OR (n : Nat) (s : ByteArray) (t : Js.B) (d : Nat) (sl : Value) (q d' e' : Nat) (w w' : World) : Prop :=
  (e' = 0 ∧ d' = d ∧ ∃ l rest, Js.obT (Js.pv n) t = .ok (l, rest) ∧ L s q = rest ∧ Tv (n + 1) (Bt w.heap.size w'.heap.size) w' (.iface 55 sl) (Js.mkObj l)) ∨ (e' ≠ 0 ∧ Js.obT (Js.pv n) t = .error e')
def MM (n B : Nat) (w : World) (sl : Value) (e : Nat) (l : List (Js.B × Js.X)) (ms : List Mb) : Prop := w.ownsRow B 58 2 sl ms.length (ms.flatMap Mb.cells) ∧ (e = 0 → MI n B w sl ms l)
theorem MM.kept {n B r : Nat} {w w' : World} {sl : Value} {e : Nat} {l : List (Js.B × Js.X)} {ms : List Mb} (h : MM n B w sl e l ms) (hr : r < B) (hg : w.grownBy w' (some r)) (e2 : Nat) (he : e2 = 0 → e = 0) : MM n B w' sl e2 l ms :=
  ⟨own_frame h.1 (fun k hk => hg.block k (own_place h.1 hk).2 (fun e => by injection e; have := (own_place h.1 hk).1; omega)), fun h2 => (h.2 (he h2)).kept hr hg⟩

/-- What a value's reading leaves behind a name: whatever was met ahead of it. -/
theorem value_gives {n : Nat} {s : ByteArray} {p d : Nat} {v : Value} {q d' e e' : Nat} {w w' : World} (h0 : e ≠ 0 → e' = e ∧ d' = d) (h1 : e = 0 → VR n s p d v q d' e' w w') :
    ∃ x, (e ≠ 0 → e' = e) ∧ (e = 0 → VS n s p d x q d' e') ∧ (e' = 0 → Tv n (Bt w.heap.size w'.heap.size) w' v x) := by
  by_cases he : e = 0
  · rcases h1 he with ⟨a, b, x, rest, c1, c2, c3⟩ | ⟨a, b⟩
    · exact ⟨x, fun h => absurd he h, fun _ => .inl ⟨a, b, rest, c1, c2⟩, fun _ => c3⟩
    · exact ⟨Js.nil, fun h => absurd he h, fun _ => .inr ⟨a, b⟩, fun h => absurd h a⟩
  · exact ⟨Js.nil, fun h => (h0 h).1, fun h => absurd h he, fun h => absurd ((h0 he).1.symm.trans h) he⟩

theorem obj_push {n B r : Nat} {w wv w2 w' : World} {sl v' u : Value} {ms : List Mb} {l : List (Js.B × Js.X)} {t : Js.B} {x : Js.X} {e5 : Nat} (h : MI n B w sl ms l) (hr : r < B) (g1 : w.grownBy wv (some r)) (g2 : wv.grownBy w2 (some r)) (hB : B ≤ w.heap.size)
    (hx : e5 = 0 → Tv n (Bt wv.heap.size w2.heap.size) w2 u x) (hn : e5 = 0 → t ∉ l.map (·.1) ∧ Lib.validD t = true)
    (o : w'.ownsRow B 58 2 v' (ms.length + 1) ((ms.take (Js.place (ms.map Mb.name) t) ++ ⟨t, u⟩ :: ms.drop (Js.place (ms.map Mb.name) t)).flatMap Mb.cells))
    (ob : v'.ownBlock = sl.ownBlock ∨ v'.ownBlock = some (w2.alloc (.cells #[.string (bs t), u] 58)).heap.size) (kb : (w2.alloc (.cells #[.string (bs t), u] 58)).grownBy w' sl.ownBlock) :
    MM n B w' v' e5 (Js.ins l t x) (ms.take (Js.place (ms.map Mb.name) t) ++ ⟨t, u⟩ :: ms.drop (Js.place (ms.map Mb.name) t)) ∧ Below B w2 w' := by
  have hz1 := g1.size
  have hz2 := g2.size
  have hz : (w2.alloc (.cells #[.string (bs t), u] 58)).heap.size = w2.heap.size + 1 := by simp
  have hz3 := kb.size
  rw [hz] at ob hz3
  have hk : ∀ k, k < w2.heap.size → sl.ownBlock ≠ some k → w'.heap[k]? = w2.heap[k]? := fun k hk hne => (kb.block k (by omega) (fun e => hne e.symm)).trans (alloc_old w2 _ k hk)
  have hp : Js.place (ms.map Mb.name) t ≤ ms.length := by have := Js.place_le (ms.map Mb.name) t; simpa using this
  have hlen : (ms.take (Js.place (ms.map Mb.name) t) ++ ⟨t, u⟩ :: ms.drop (Js.place (ms.map Mb.name) t)).length = ms.length + 1 := by
    rw [List.length_append, List.length_cons, List.length_take, List.length_drop]; omega
  refine ⟨⟨by rw [hlen]; exact o, fun he => ?_⟩, ⟨kb.os, kb.tape, kb.output, by omega, fun k hkB => hk k (by omega) (fun e => by have := (own_place h.own e).1; omega)⟩⟩
  have hy := (hx he).frame (F' := Bt w.heap.size w2.heap.size) (fun k hk => ⟨by have := hk.1; omega, hk.2⟩) (fun k _ => rfl)
  rw [h.names] at o ⊢
  exact h.put hr (gtrans g1 g2) hy hB (hn he).1 (hn he).2 o ob hk (by omega)

set_option maxHeartbeats 6400000 in
set_option maxRecDepth 100000 in
theorem object_any (n : Nat) (ih : VC n) (r : Nat) (s : ByteArray) (p d : Nat) (t : Js.B) (w : World) (h : Rd r s p d 0 w) (hp : p < s.size) (hl : L s (p + 1) = t) (hs : s.size ≤ 1000) (hd : d + (n + 1) = 8) :
    Calls Tryz.prog 70 #[.pointer (some ⟨r, 0, none⟩)] w fun en w' => ∃ (sl : Value) (q d' e' : Nat), en = .returned sl ∧ sl.oneCell' = true ∧ q ≤ s.size ∧ d ≤ d' ∧ d' ≤ 8 ∧ Rd r s q d' e' w' ∧ w.grownBy w' (some r) ∧ OR n s t d sl q d' e' w w' := by
  have O := asd (open_any r s p d w h hp hs (by omega))
  have hrw := h.lt
  clear h
  have T1 : Aside True := trivial
  have T2 : Aside True := trivial
  have HD := asd hd
  go_enter Tryz.func70, Tryz.ntmps70
  go_wp2_with (first
    | (clear T1; go_at_call 89; refine O.out.mono ?_; rintro en w1 ⟨rfl, g1, (⟨h8, _⟩ | ⟨h8, q0, hq0, hl0, h1⟩)⟩
       · exact absurd h8 (by omega)
       have A1 := asd (And.intro h1 g1)
       have ST := asd (ost_start (Js.pv n) s d q0 t hq0 (by rw [← hl]; exact hl0))
       have S1 := asd (shut_any r s q0 d 0 125 w1 h1 hq0 hs (by omega))
       clear h1 g1 hl0 O)
    | (clear T2; go_at_call 90; refine S1.out.mono ?_; rintro en w2 ⟨rfl, h2, g2⟩; have A2 := asd (And.intro h2 (gtrans A1.out.2 g2)); clear h2 g2 S1))
  go_loopg [3, 4, 5, 6, 7] (s.size + 1) (fun gh s3 s4 s5 s6 s7 wr => ∃ (b : Bool) (q dd e : Nat) (l : List (Js.B × Js.X)) (ms : List Mb), (if b then s.size - q + 1 else 0) ≤ gh ∧ s4 = .bool b ∧ (b = true → ms.length ≤ q) ∧
    Aside (OSt (Js.pv n) s (Js.obT (Js.pv n) t) d b q dd e l ∧ Rd r s q dd e wr ∧ w.grownBy wr (some r) ∧ MM n w.heap.size wr s3 e l ms))
  case atStart =>
    refine ⟨!(ht s q0 0 125), _, _, 0, [], [], ?_, ?_, fun _ => Nat.zero_le _, ST.out, A2.out.1, A2.out.2, ⟨rfl, .inl ⟨rfl, rfl⟩⟩, fun _ => MI.nil _ _ _⟩
    · split
      · split <;> omega
      · omega
    · cases ht s q0 0 125 <;> rfl
  case round =>
    obtain ⟨b, q, dd, e, l, ms, hgh, rfl, hvl, I⟩ := hrel
    cases b with
    | false =>
      have HF := asd I.out
      go_wp2_with fail
      go_ret
      obtain ⟨⟨hq, hc⟩, f2, f3, f4, f5⟩ := HF.out
      refine ⟨_, q, dd, e, rfl, own_one f4, hq, ?_, ?_, f2, f3, ?_⟩
      · rcases hc with ⟨_, rfl, _⟩ | ⟨_, hc, _, _⟩ <;> omega
      · rcases hc with ⟨_, rfl, _⟩ | ⟨_, _, hc, _⟩ <;> omega
      · rcases hc with ⟨rfl, rfl, hc⟩ | ⟨h1, _, _, hc⟩
        · exact .inl ⟨rfl, rfl, l, _, hc, rfl, (f5 rfl).done⟩
        · exact .inr ⟨h1, hc⟩
    | true =>
      obtain ⟨⟨hq, rfl, rfl, hT⟩, f2, f3, f4, f5⟩ := I.out
      have LS : Aside (OSt (Js.pv n) s (Js.obT (Js.pv n) t) d true q (d + 1) 0 l) := ⟨hq, rfl, rfl, hT⟩
      have BL := asd (blanks_any r s q (d + 1) 0 wr f2 hq hs)
      have G3 := asd f3
      have F5 := asd (f5 rfl)
      have hBw : w.heap.size ≤ wr.heap.size := f3.size
      have HVQ := asd (hvl rfl)
      have hln : ms.length ≤ 1000 := by have := hvl rfl; omega
      have S0 := asd f2
      clear I f2 f3 f4 f5 hT hvl
      have T3 : Aside True := trivial
      have T4 : Aside True := trivial
      have T5 : Aside True := trivial
      have T6 : Aside True := trivial
      have T7 : Aside True := trivial
      have T8 : Aside True := trivial
      have T9 : Aside True := trivial
      have T10 : Aside True := trivial
      have T11 : Aside True := trivial
      go_wp2_with (first
        | (clear T3; go_at_call 51; refine BL.out.mono ?_; rintro en wa ⟨rfl, q1, hq1, hl1, h1, g1⟩
           have A1 := asd (And.intro h1 (And.intro g1 (hl1 rfl)))
           have SG := asd (signs_any r s q1 (d + 1) 0 wa h1 hq1 hs)
           clear h1 g1 hl1 BL)
        | (clear T4; go_at_call 68; refine SG.out.mono ?_; rintro en wb ⟨nm, q2, e2, rfl, o2, h2, g2⟩
           have A2 := asd (And.intro h2 (And.intro (gtrans A1.out.2.1 g2) o2))
           have FI := asd (find_any w.heap.size _ ms nm wb (F5.out.kept hrw A2.out.2.1).own (by rw [F5.out.names]; exact F5.out.rise) hln)
           clear h2 g2 o2 SG)
        | (clear T5; go_at_call 26; refine FI.out.mono ?_; rintro en wc ⟨rfl, bc⟩
           have A3 := asd (And.intro (A2.out.1.below (by have := A2.out.2.1.size; omega) bc) (gtrans A2.out.2.1 (gbelow bc)))
           have HAS : Aside (decide (nm ∈ ms.map Mb.name) = decide (nm ∈ l.map (·.1))) := by show _ = _; rw [F5.out.names]
           have hpl := Js.place_le (ms.map Mb.name) nm
           rw [List.length_map] at hpl
           generalize decide (nm ∈ ms.map Mb.name) = has at *
           clear bc FI
           have CS : (has = false ∧ ∃ e3, Aside (E3 has e2 e3) ∧ Aside (Rd r s q2 (d + 1) e3 wc ∧ wr.grownBy wc (some r))) ∨ has = true := by
            cases has
            · exact .inl ⟨rfl, e2, rfl, A3.out⟩
            · exact .inr rfl
           rcases CS with ⟨rfl, e3, HE3, CR⟩ | rfl)
        | (clear T6; go_at_call 31; refine (fail_any r s q2 (d + 1) e2 7 wc A3.out.1).mono ?_; rintro en wd ⟨rfl, h4, g4⟩
           obtain ⟨e3, he3⟩ : ∃ e3, e3 = fl e2 7 := ⟨_, rfl⟩
           have HE3 : Aside (E3 true e2 e3) := he3
           have CR : Aside (Rd r s q2 (d + 1) e3 wd ∧ wr.grownBy wd (some r)) := ⟨by rw [he3]; exact h4, gtrans A3.out.2 g4⟩
           clear he3 h4 g4)
        | (clear T7; go_at_call 51; refine (blanks_any r s q2 (d + 1) e3 _ CR.out.1 A2.out.2.2.1 hs).mono ?_; rintro en we ⟨rfl, q3, hq3, hl3, h5, g5⟩
           have A5 := asd (And.intro h5 (And.intro (gtrans CR.out.2 g5) hl3))
           have MU := asd (must_ex r s q3 (d + 1) e3 58 (by decide) we h5 hq3 hs)
           clear h5 g5 hl3)
        | (clear T8; go_at_call 85; refine MU.out.mono ?_; rintro en wf ⟨rfl, q4, e4, m4, h6, g6⟩
           have A6 := asd (And.intro h6 (gtrans A5.out.2.1 g6))
           have MEM := asd (Mem.mk A1.out.2.2 A2.out.2.2 HE3.out A5.out.2.2 m4 hq3)
           have VV := asd (ih r s q4 (d + 1) e4 wf h6 m4.le hs (by have := HD.out; omega))
           clear h6 g6 m4 MU)
        | (clear T9; go_at_call 30; refine VV.out.mono ?_; rintro en wg ⟨ty, vv, q5, d5', e5, rfl, hq5, hd1, hd2, h7, g7, hv0, hv1⟩
           obtain ⟨d5, rfl⟩ : ∃ d5, d5' = d5 + 1 := ⟨d5' - 1, by omega⟩
           obtain ⟨x, x1, x2, x3⟩ := value_gives hv0 hv1
           have NX := asd (ost_next (Js.pv_shr n) LS.out MEM.out HAS.out q5 d5 e5 hq5 hd1 hd2 x x1 (fun h => (x2 h).elim (fun ⟨a, b, c⟩ => .inl ⟨a, by omega, c⟩) .inr))
           have A7 := asd (And.intro h7 (And.intro (gtrans A6.out.2 g7) (And.intro g7 x3)))
           have hwg := A7.out.2.1.size
           have IN := asd (insert_any w.heap.size wg.heap.size (Js.place (ms.map Mb.name) nm) _ ms ⟨nm, .iface ty vv⟩ (wg.alloc (.cells #[.string (bs nm), .iface ty vv] 58)) (own_frame (F5.out.kept hrw A7.out.2.1).own (fun k hk => alloc_old wg _ k (own_place (F5.out.kept hrw A7.out.2.1).own hk).2)) hpl hln (by simp; omega) (heap_alloc_new wg _) (fun e => by have := (own_place F5.out.own e).2; omega) rfl F5.out.one)
           clear h7 g7 hv0 hv1 x1 x2 x3 VV)
        | (clear T10; go_at_call 92; refine IN.out.mono ?_; rintro en wh ⟨v', rfl, o8, ob8, kb8⟩
           have PU := asd (obj_push F5.out hrw A6.out.2 A7.out.2.2.1 hBw A7.out.2.2.2 (fun h => (NX.out.2.2 h).2.2) o8 ob8 kb8)
           have A8 := asd (And.intro (A7.out.1.below hrw PU.out.2) (gbel (gtrans G3.out A7.out.2.1) PU.out.2))
           have MO := asd (more_any r s q5 d5 e5 125 (by decide) wh A8.out.1 hq5 hs (by omega))
           clear o8 ob8 kb8 IN)
        | (clear T11; go_at_call 91; refine MO.out.mono ?_; rintro en wi ⟨rfl, h9, g9⟩
           have A9 := asd (And.intro h9 (And.intro (gtrans A8.out.2 g9) g9))
           clear h9 g9 MO))
      · go_roundg (if ht s q5 e5 44 then s.size - (q5 + 1) + 1 else 0)
        case measure =>
          simp only [if_true] at hgh
          split
          · rename_i h44
            have he : e5 = 0 := Classical.byContradiction fun he => by rw [show (44 : Nat) = (44 : UInt8).toNat by rfl, ht_bad s q5 e5 44 he (by decide)] at h44; cases h44
            have := (NX.out.2.2 he).1
            omega
          · omega
        case rel =>
          refine ⟨ht s q5 e5 44, _, _, _, Js.ins l nm x, _, ?_, rfl, ?_, NX.out.1, A9.out.1, A9.out.2.1, PU.out.1.kept hrw A9.out.2.2 _ NX.out.2.1⟩
          · split
            · exact Nat.le_refl _
            · exact Nat.zero_le _
          · intro h44
            rw [if_pos h44, List.length_append, List.length_cons, List.length_take, List.length_drop]
            have he : e5 = 0 := Classical.byContradiction fun he => by rw [show (44 : Nat) = (44 : UInt8).toNat by rfl, ht_bad s q5 e5 44 he (by decide)] at h44; cases h44
            have := (NX.out.2.2 he).1
            have := HVQ.out
            omega
      · go_roundg (if ht s q5 e5 44 then s.size - (q5 + 1) + 1 else 0)
        case measure =>
          simp only [if_true] at hgh
          split
          · rename_i h44
            have he : e5 = 0 := Classical.byContradiction fun he => by rw [show (44 : Nat) = (44 : UInt8).toNat by rfl, ht_bad s q5 e5 44 he (by decide)] at h44; cases h44
            have := (NX.out.2.2 he).1
            omega
          · omega
        case rel =>
          refine ⟨ht s q5 e5 44, _, _, _, Js.ins l nm x, _, ?_, rfl, ?_, NX.out.1, A9.out.1, A9.out.2.1, PU.out.1.kept hrw A9.out.2.2 _ NX.out.2.1⟩
          · split
            · exact Nat.le_refl _
            · exact Nat.zero_le _
          · intro h44
            rw [if_pos h44, List.length_append, List.length_cons, List.length_take, List.length_drop]
            have he : e5 = 0 := Classical.byContradiction fun he => by rw [show (44 : Nat) = (44 : UInt8).toNat by rfl, ht_bad s q5 e5 44 he (by decide)] at h44; cases h44
            have := (NX.out.2.2 he).1
            have := HVQ.out
            omega
end Go.Proofs.YtpeioecpilmpiaaGreatDoor
