/-
  YtpeioecpilmpiaaGreatDoor: the texts J6, one behind the other.
-/
import Derived.Test.YtpeioecpilmpiaaGreatDoorMF7
import Derived.Test.YtpeioecpilmpiaaGreatDoorMF8
import Derived.WalkKit
import Derived.WalkSpells
import Derived.WalkLawsBesides
import Derived.Deep.LoopGhost
import Derived.Laws.Externs
import Derived.Below
import Derived.BigQuiet
import Derived.Deep.RegionWith
import Derived.OwnWalk
import Derived.Maps.AppendAt
/-
  The reader of the program: numbers.
-/
namespace Go.Proofs.YtpeioecpilmpiaaGreatDoor
open Go.RowKit
/-- A world that has come of w: what lay in w is as it was. -/
structure Later (w : World) where
  u : World
  bel : Below w.heap.size w u

theorem later_some (w : World) : Nonempty (Later w) := ⟨⟨w, Below.refl _ _⟩⟩

theorem wp_region_later {P : Program} {id : Nat} {Q : Exit → Act → World → Prop} {a : Act} {w : World} {l : List Oper} (hm : P.follows .mixedOrders = true) (hB : Region.lexB .any l.toArray = true)
    (h : wpQuiet P l.toArray (fun w' => ∃ q : Later w, w' = q.u) (fun a' => ∀ w', (∃ q : Later w, w' = q.u) → Q .normal a' w') l a) : (Code.region id l.toArray true).wp P Q a w :=
  wp_region_quiet (C := fun w' => ∃ q : Later w, w' = q.u) hm hB ⟨⟨_, (Below.refl _ _).drew⟩, rfl⟩ (by simpa using h)

theorem calls_later {P : Program} {f : FuncId} {args : Array Value} {w : World} {q : Later w} {v : Value} (h : Calls P f args q.u fun e w' => e = .returned v ∧ Below q.u.heap.size q.u w') :
    Calls P f args q.u fun e w' => e = .returned v ∧ ∃ p : Later w, w' = p.u :=
  h.mono fun _ w' ⟨he, hb⟩ => ⟨he, ⟨w', q.bel.trans (hb.mono q.bel.size)⟩, rfl⟩

/-! what Atoi gives -/
theorem parse_digs : ∀ (ds : Js.B) (acc : Nat), (∀ x ∈ ds, Js.isDg x = true) → (acc + 1) * 10 ^ ds.length ≤ 1000000000000000 → Lib.parseUint10 acc ds = .ok (ds.foldl (fun n b => n * 10 + (b.toNat - 48)) acc)
  | [], acc, _, _ => rfl
  | c :: t, acc, h, hb => by
    have hc := (Js.isDg_iff c).1 (h c (by simp))
    rw [List.length_cons, Nat.pow_succ] at hb
    have h1 : (acc + 1) * 10 * 10 ^ t.length ≤ 1000000000000000 := by rw [Nat.mul_assoc, Nat.mul_comm 10]; exact hb
    have h2 : 1 ≤ 10 ^ t.length := Nat.one_le_pow _ _ (by decide)
    have h3 : (acc + 1) * 10 ≤ 1000000000000000 := Nat.le_trans (Nat.le_mul_of_pos_right _ h2) h1
    unfold Lib.parseUint10
    rw [if_pos hc, if_neg (by omega), if_neg (by omega)]
    exact parse_digs t _ (fun x hx => h x (by simp [hx])) (Nat.le_trans (Nat.mul_le_mul_right _ (by omega)) h1)
theorem parseMag_digs (ds : Js.B) (h : ∀ x ∈ ds, Js.isDg x = true) (h0 : ds ≠ []) (hl : ds.length ≤ 15) : Lib.parseMag ds = .ok (Js.val ds) := by
  unfold Lib.parseMag
  rw [if_neg h0, parse_digs ds 0 h (by
    have : 10 ^ ds.length ≤ 10 ^ 15 := Nat.pow_le_pow_right (by omega) hl
    omega)]
  rfl
theorem atoi_pos (ds : Js.B) (h : ∀ x ∈ ds, Js.isDg x = true) (h0 : ds ≠ []) (hl : ds.length ≤ 15) : Lib.atoiAll ds = .ok (Js.val ds : Int) := by
  cases ds with
  | nil => exact absurd rfl h0
  | cons c t =>
    have hc := (Js.isDg_iff c).1 (h c (by simp))
    have hv := Js.val_lt (c :: t) h
    have hp : 10 ^ (c :: t).length ≤ 10 ^ 15 := Nat.pow_le_pow_right (by omega) hl
    unfold Lib.atoiAll
    simp only []
    rw [if_neg (by omega), parseMag_digs _ h (by simp) hl]
    simp only []
    rw [if_neg (by omega), if_neg (by omega), if_neg (by omega)]
theorem atoi_neg (ds : Js.B) (h : ∀ x ∈ ds, Js.isDg x = true) (h0 : ds ≠ []) (hl : ds.length ≤ 15) : Lib.atoiAll (45 :: ds) = .ok (-(Js.val ds : Int)) := by
  have hv := Js.val_lt ds h
  have hp : 10 ^ ds.length ≤ 10 ^ 15 := Nat.pow_le_pow_right (by omega) hl
  unfold Lib.atoiAll
  simp only []
  rw [if_pos (.inr rfl), parseMag_digs _ h h0 hl]
  simp only []
  rw [if_neg (by omega), if_neg (by omega), if_pos (by rfl)]

/-- In the midst of a number's digits. -/
def NI (s : ByteArray) (p q : Nat) : Prop := p ≤ q ∧ q ≤ s.size ∧ (∀ x ∈ (L s p).take (q - p), Js.isDg x = true)
theorem NI.digs {s : ByteArray} {p q : Nat} (h : NI s p q) (hx : ¬ (48 ≤ nx s q 0 ∧ nx s q 0 ≤ 57)) : Js.digs (L s p) = (L s p).take (q - p) ∧ (Js.digs (L s p)).length = q - p := by
  obtain ⟨h1, h2, h3⟩ := h
  have hn : ∀ b t, L s q = b :: t → Js.isDg b = false := fun b t e => by
    have hlt : q < s.size := by
      refine Nat.lt_of_not_le fun hle => ?_
      rw [L_end s q hle] at e
      cases e
    rw [nx_at s q hlt] at hx
    rw [L_cons s q hlt] at e
    injection e with e1 _
    rw [e1] at hx
    simp only [Js.isDg, Bool.and_eq_false_iff, decide_eq_false_iff_not]
    omega
  have e1 : L s p = (L s p).take (q - p) ++ L s q := by
    have := (List.take_append_drop (q - p) (L s p)).symm
    rw [L_drop, show p + (q - p) = q by omega] at this
    exact this
  have key : ∀ (a b : Js.B), (∀ x ∈ a, Js.isDg x = true) → (∀ c t, b = c :: t → Js.isDg c = false) → Js.digs (a ++ b) = a := by
    intro a b ha hb
    unfold Js.digs
    induction a with
    | nil =>
      cases b with
      | nil => rfl
      | cons c t => simp [hb c t rfl]
    | cons c a ih =>
      rw [List.cons_append, List.takeWhile_cons, ha c (by simp)]
      simp only [if_true]
      rw [ih (fun x hx => ha x (by simp [hx]))]
  have e2 := key _ _ h3 hn
  rw [← e1] at e2
  refine ⟨e2, ?_⟩
  rw [e2, List.length_take, L_len]
  omega
theorem NI.next {s : ByteArray} {p q : Nat} (h : NI s p q) (hx : 48 ≤ nx s q 0 ∧ nx s q 0 ≤ 57) : NI s p (q + 1) := by
  obtain ⟨h1, h2, h3⟩ := h
  have hlt : q < s.size := by
    refine Nat.lt_of_le_of_ne h2 fun e => ?_
    rw [nx_end s q e] at hx
    omega
  refine ⟨by omega, hlt, ?_⟩
  rw [nx_at s q hlt] at hx
  intro x hm
  rw [show q + 1 - p = (q - p) + 1 by omega, List.take_add_one] at hm
  rcases List.mem_append.1 hm with hm | hm
  · exact h3 x hm
  · have e : (L s p)[q - p]? = some (s.get! q) := by
      have h5 : (L s q)[0]? = some (s.get! q) := by rw [L_cons s q hlt]; rfl
      rw [← show p + (q - p) = q by omega, ← L_drop, List.getElem?_drop] at h5
      rw [show p + (q - p) = q by omega] at h5
      simpa using h5
    rw [e] at hm
    simp only [Option.toList_some, List.mem_singleton] at hm
    rw [hm, Js.isDg_iff]
    exact hx
set_option maxHeartbeats 1600000 in
set_option maxRecDepth 100000 in
theorem number_bad (r : Nat) (s : ByteArray) (p d e : Nat) (he : e ≠ 0) (w : World) (h : Rd r s p d e w) (hp : p ≤ s.size) (hs : s.size ≤ 1000) :
    Calls Tryz.prog 71 #[.pointer (some ⟨r, 0, none⟩)] w fun en w' => en = .returned (.int .i64 0) ∧ Rd r s p d (fl e 3) w' ∧ w.grownBy w' (some r) := by
  have c1 := h.c1
  have E1 : ht s p e 45 = false := ht_bad s p e 45 he (by decide)
  have E2 : ht s p e 48 = false := ht_bad s p e 48 he (by decide)
  have E3 := nx_bad s p e he
  have K1 := asd (met_any r s p d e 45 w h hp hs)
  have K2 := asd (fun w1 h1 => met_any r s p d e 48 w1 h1 hp hs)
  have K3 := asd (fun w1 h1 => next_any r s p d e w1 h1 hp hs)
  have K4 := asd (fun w1 h1 => fail_any r s p d e 3 w1 h1)
  rw [E1] at K1
  simp only [E2] at K2
  simp only [E3] at K3
  simp only [Bool.false_eq_true, if_false] at K1 K2
  clear h E1 E2 E3 he
  have T1 : Aside True := trivial
  have T2 : Aside True := trivial
  have T3 : Aside True := trivial
  have T4 : Aside True := trivial
  go_enter Tryz.func71, Tryz.ntmps71
  go_wp2_with (first
    | (clear T1; go_at_call 65; refine K1.out.mono ?_; rintro en w1 ⟨rfl, h1, g1⟩; have A1 := asd (And.intro h1 g1); clear h1 g1)
    | (clear T2; go_at_call 65; refine (K2.out _ A1.out.1).mono ?_; rintro en w2 ⟨rfl, h2, g2⟩; have d1 := h2.c1; have A2 := asd (And.intro h2 (gtrans A1.out.2 g2)); clear h2 g2)
    | (clear T3; go_at_call 66; refine (K3.out _ A2.out.1).mono ?_; rintro en w3 ⟨rfl, h3, g3⟩; have d3 := h3.c1; have A3 := asd (And.intro h3 (gtrans A2.out.2 g3)); clear h3 g3))
  go_loopg [5] 0 (fun gh s5 wr => s5 = .int .u8 0 ∧ wr = w3)
  case atStart => exact ⟨rfl, rfl⟩
  case round =>
    obtain ⟨rfl, rfl⟩ := hrel
    have F := asd (K4.out _ A3.out.1)
    go_wp2_with (clear T4; go_at_call 31; refine F.out.mono ?_; rintro en w4 ⟨rfl, h4, g4⟩; have A4 := asd (And.intro h4 (gtrans A3.out.2 g4)); clear h4 g4)
    go_ret
    exact ⟨rfl, A4.out.1, A4.out.2⟩

/-- What the sign of a number leaves. -/
structure NS (s : ByteArray) (p q1 : Nat) (neg : Bool) : Prop where
  le : q1 ≤ s.size
  pos : q1 = if neg then p + 1 else p
  nu : Js.nu (L s p) = if neg then (Js.nat (L s q1)).map fun x => (-(x.1 : Int), x.2) else (Js.nat (L s q1)).map fun x => ((x.1 : Int), x.2)
  head : neg = true → L s p = 45 :: L s q1
theorem ns_of (s : ByteArray) (p : Nat) (hp : p ≤ s.size) : NS s p (if ht s p 0 45 then p + 1 else p) (ht s p 0 45) := by
  cases c : ht s p 0 45 with
  | true =>
    obtain ⟨h1, h2⟩ := ht_true s p 45 hp (by decide) c
    exact ⟨h1, rfl, by rw [h2]; rfl, fun _ => h2⟩
  | false =>
    have h2 := ht_false s p 45 c
    refine ⟨hp, rfl, ?_, fun h => by cases h⟩
    simp only [Bool.false_eq_true, if_false]
    unfold Js.nu
    split
    · rename_i hl
      exact absurd hl (h2 _)
    · rfl
theorem NS.zero {s : ByteArray} {p q1 : Nat} {neg : Bool} (h : NS s p q1 neg) (c : ht s q1 0 48 = true) : Out s 0 (Js.nu (L s p)) (· = 0) (q1 + 1) 0 := by
  obtain ⟨h1, h2⟩ := ht_true s q1 48 h.le (by decide) c
  refine ⟨h1, .inl ⟨rfl, rfl, 0, rfl, ?_⟩⟩
  rw [h.nu, h2]
  cases neg <;> rfl
theorem NS.bad {s : ByteArray} {p q1 q : Nat} {neg : Bool} (h : NS s p q1 neg) (c : ht s q1 0 48 = false) (n : NI s q1 q) (hx : ¬ (48 ≤ nx s q 0 ∧ nx s q 0 ≤ 57)) (hl : q = q1 ∨ 15 < q - q1) (P : Int → Prop) : Out s 0 (Js.nu (L s p)) P q 3 := by
  obtain ⟨d1, d2⟩ := n.digs hx
  refine ⟨n.2.1, .inr ⟨by decide, rfl, .inr ?_⟩⟩
  have hn : Js.nat (L s q1) = none := by
    unfold Js.nat
    split
    · rename_i hl
      exact absurd hl (ht_false s q1 48 c _)
    · rw [d2, if_pos (by omega)]
  rw [h.nu, hn]
  cases neg <;> rfl
theorem NS.good {s : ByteArray} {p q1 q : Nat} {neg : Bool} (h : NS s p q1 neg) (c : ht s q1 0 48 = false) (n : NI s q1 q) (hx : ¬ (48 ≤ nx s q 0 ∧ nx s q 0 ≤ 57)) (hl : q1 < q ∧ q - q1 ≤ 15) :
    ∃ v, Lib.atoiAll (s.extract p q).data.toList = .ok v ∧ Out s 0 (Js.nu (L s p)) (· = v) q 0 := by
  obtain ⟨d1, d2⟩ := n.digs hx
  have hn : Js.nat (L s q1) = some (Js.val (Js.digs (L s q1)), L s q) := by
    unfold Js.nat
    split
    · rename_i hl
      exact absurd hl (ht_false s q1 48 c _)
    · rw [d2, if_neg (by omega), L_drop, show q1 + (q - q1) = q by omega]
  have hne : Js.digs (L s q1) ≠ [] := fun e => by rw [e] at d2; simp at d2; omega
  have ha := Js.digs_all (L s q1)
  have hex : (s.extract p q).data.toList = (L s p).take (q - p) := by
    unfold L
    simp
  rw [hex]
  have hq := n.2.1
  cases neg with
  | true =>
    have hp := h.pos
    simp only [if_true] at hp
    refine ⟨-(Js.val (Js.digs (L s q1)) : Int), ?_, hq, .inl ⟨rfl, rfl, _, rfl, ?_⟩⟩
    · rw [h.head rfl, show q - p = (q - q1) + 1 by omega, List.take_succ_cons, ← d1]
      exact atoi_neg _ ha hne (by omega)
    · rw [h.nu, hn]; rfl
  | false =>
    have hp := h.pos
    simp only [Bool.false_eq_true, if_false] at hp
    refine ⟨(Js.val (Js.digs (L s q1)) : Int), ?_, hq, .inl ⟨rfl, rfl, _, rfl, ?_⟩⟩
    · rw [← hp, ← d1]
      exact atoi_pos _ ha hne (by omega)
    · rw [h.nu, hn]; rfl

set_option maxHeartbeats 3200000 in
set_option maxRecDepth 100000 in
theorem number_ok (r : Nat) (s : ByteArray) (p d : Nat) (w : World) (h : Rd r s p d 0 w) (hp : p ≤ s.size) (hs : s.size ≤ 1000) :
    Calls Tryz.prog 71 #[.pointer (some ⟨r, 0, none⟩)] w fun en w' => ∃ (n : Int) (q e' : Nat), en = .returned (.int .i64 n) ∧ Out s 0 (Js.nu (L s p)) (· = n) q e' ∧ Rd r s q d e' w' ∧ w.grownBy w' (some r) := by
  have c1 := h.c1
  have N := ns_of s p hp
  have K1 := asd (met_any r s p d 0 45 w h hp hs)
  have hrl := h.lt
  clear h
  generalize ht s p 0 45 = neg at *
  obtain ⟨q1, hq1⟩ : ∃ q1, q1 = if neg = true then p + 1 else p := ⟨_, rfl⟩
  rw [← hq1] at N K1
  have K2 := met_any r s q1 d 0 48
  have hpq : Aside (p ≤ q1) := by show _ ≤ _; rw [hq1]; split <;> omega
  clear hq1
  have T1 : Aside True := trivial
  have T2 : Aside True := trivial
  have T3 : Aside True := trivial
  have T4 : Aside True := trivial
  have T5 : Aside True := trivial
  cases c : ht s q1 0 48 with
  | true =>
    rw [c] at K2
    simp only [if_true] at K2
    have C := asd c
    replace K2 := asd K2
    clear c
    go_enter Tryz.func71, Tryz.ntmps71
    go_wp2_with (first
      | (clear T1; go_at_call 65; refine K1.out.mono ?_; rintro en w1 ⟨rfl, h1, g1⟩; have X2 := asd (K2.out _ h1 N.le hs); have A1 := asd (And.intro h1 g1); clear h1 g1)
      | (clear T2; go_at_call 65; refine X2.out.mono ?_; rintro en w2 ⟨rfl, h2, g2⟩; have A2 := asd (And.intro h2 (gtrans A1.out.2 g2)); clear h2 g2))
    go_ret
    exact ⟨0, q1 + 1, 0, rfl, N.zero C.out, A2.out.1, A2.out.2⟩
  | false =>
    rw [c] at K2
    simp only [Bool.false_eq_true, if_false] at K2
    have C := asd c
    replace K2 := asd K2
    clear c
    have NN := asd N
    have hq1s : q1 ≤ s.size := N.le
    clear N
    go_enter Tryz.func71, Tryz.ntmps71
    go_wp2_with (first
      | (clear T1; go_at_call 65; refine K1.out.mono ?_; rintro en w1 ⟨rfl, h1, g1⟩; have X2 := asd (K2.out _ h1 hq1s hs); have A1 := asd (And.intro h1 g1); clear h1 g1)
      | (clear T2; go_at_call 65; refine X2.out.mono ?_; rintro en w2 ⟨rfl, h2, g2⟩; have d1 := h2.c1; have X3 := asd (next_any r s q1 d 0 _ h2 hq1s hs); have A2 := asd (And.intro h2 (gtrans A1.out.2 g2)); clear h2 g2)
      | (clear T3; go_at_call 66; refine X3.out.mono ?_; rintro en w3 ⟨rfl, h3, g3⟩; have A3 := asd (And.intro h3 (gtrans A2.out.2 g3)); clear h3 g3))
    go_loopg [5] s.size (fun gh s5 wr => ∃ q : Nat, s.size - q ≤ gh ∧ s5 = .int .u8 (nx s q 0 : Int) ∧ q ≤ s.size ∧ q1 ≤ q ∧ Aside (NI s q1 q ∧ Rd r s q d 0 wr ∧ w.grownBy wr (some r)))
    case atStart => exact ⟨q1, by omega, rfl, hq1s, Nat.le_refl _, ⟨Nat.le_refl _, hq1s, by simp⟩, A3.out.1, A3.out.2⟩
    case round =>
      obtain ⟨q, hgh, rfl, hq, hqq, I⟩ := hrel
      have cc1 := I.out.2.1.c1
      have ff1 := I.out.2.1.fz 1
      by_cases hx : 48 ≤ nx s q 0 ∧ nx s q 0 ≤ 57
      · have n2 := asd (I.out.1.next hx)
        have X := asd (next_any r s (q + 1) d 0 _ (I.out.2.1.set1 (q + 1)) n2.out.2.1 hs)
        have e1 : ((q + 1 : Nat) : Int) = (q : Int) + 1 := by omega
        rw [e1] at X
        have z1 : decide ((48 : Int) ≤ (nx s q 0 : Int)) = true := by simp; omega
        have z2 : decide ((nx s q 0 : Int) ≤ 57) = true := by simp; omega
        generalize nx s q 0 = x at *
        have hql : q < s.size := n2.out.2.1
        clear hx e1
        go_wp2_with (clear T4; go_at_call 66; refine X.out.mono ?_; rintro en w4 ⟨rfl, h4, g4⟩; have A4 := asd (And.intro h4 (gtrans (gtrans I.out.2.2 (grown_set _ _ _ _)) g4)); clear h4 g4)
        go_roundg (s.size - (q + 1))
        case measure => omega
        case rel => exact ⟨q + 1, Nat.le_refl _, rfl, hql, by omega, n2.out, A4.out.1, A4.out.2⟩
      · have HX := asd hx
        have zz : (decide ((48 : Int) ≤ (nx s q 0 : Int)) = false) ∨ (decide ((48 : Int) ≤ (nx s q 0 : Int)) = true ∧ decide ((nx s q 0 : Int) ≤ 57) = false) := by
          by_cases h1 : 48 ≤ nx s q 0
          · exact .inr ⟨by simp; omega, by simp; omega⟩
          · exact .inl (by simp; omega)
        have F := asd (fail_any r s q d 0 3 _ I.out.2.1)
        have cc0 := I.out.2.1.c0
        have BAD := asd (fun hl P => NN.out.bad C.out I.out.1 hx hl P)
        have GOOD := asd (fun hl => NN.out.good C.out I.out.1 hx hl)
        generalize nx s q 0 = x at *
        clear hx
        by_cases l1 : q = q1
        · have BAD0 := asd (BAD.out (.inl l1))
          subst l1
          rcases zz with z1 | ⟨z1, z2⟩
          · go_wp2_with (clear T5; go_at_call 31; refine F.out.mono ?_; rintro en w5 ⟨rfl, h5, g5⟩; have A5 := asd (And.intro h5 (gtrans I.out.2.2 g5)); clear h5 g5)
            go_ret
            exact ⟨0, q, 3, rfl, BAD0.out _, A5.out.1, A5.out.2⟩
          · go_wp2_with (clear T5; go_at_call 31; refine F.out.mono ?_; rintro en w5 ⟨rfl, h5, g5⟩; have A5 := asd (And.intro h5 (gtrans I.out.2.2 g5)); clear h5 g5)
            go_ret
            exact ⟨0, q, 3, rfl, BAD0.out _, A5.out.1, A5.out.2⟩
        · have y1 : ((q : Int) == q1) = false := by rw [beq_eq_false_iff_ne]; omega
          have y2 : ¬ ((q : Int) = q1) := by omega
          by_cases l2 : 15 < q - q1
          · have y3 : decide ((15 : Int) < (q : Int) - q1) = true := by simp; omega
            have L2 := asd l2
            clear l1 l2
            rcases zz with z1 | ⟨z1, z2⟩
            · go_wp2_with (clear T5; go_at_call 31; refine F.out.mono ?_; rintro en w5 ⟨rfl, h5, g5⟩; have A5 := asd (And.intro h5 (gtrans I.out.2.2 g5)); clear h5 g5)
              go_ret
              exact ⟨0, q, 3, rfl, BAD.out (.inr L2.out) _, A5.out.1, A5.out.2⟩
            · go_wp2_with (clear T5; go_at_call 31; refine F.out.mono ?_; rintro en w5 ⟨rfl, h5, g5⟩; have A5 := asd (And.intro h5 (gtrans I.out.2.2 g5)); clear h5 g5)
              go_ret
              exact ⟨0, q, 3, rfl, BAD.out (.inr L2.out) _, A5.out.1, A5.out.2⟩
          · have y3 : decide ((15 : Int) < (q : Int) - q1) = false := by simp; omega
            obtain ⟨v, hv, ov⟩ := GOOD.out ⟨by omega, by omega⟩
            have OV := asd ov
            have AT := asd (fun w5 => atoi_ok (s.extract p q) (by rw [ByteArray.size_extract]; omega) v hv w5)
            have H2 := asd I.out.2
            have hrw := I.out.2.1.lt
            have hpq' : (p : Int) ≤ q := by have := hpq.out; omega
            have hqs : (q : Int) ≤ s.size := by omega
            clear l1 l2 hv ov GOOD BAD F
            rcases zz with z1 | ⟨z1, z2⟩
            · go_wp2_with fail
              have c0q : ∀ y : Later wr, y.u.cell? ⟨r, 0, none⟩ = some (.string s) := fun y => (H2.out.1.below hrw y.bel).c0
              have c1q : ∀ y : Later wr, y.u.cell? ⟨r, 1, none⟩ = some (.int .i64 (q : Int)) := fun y => (H2.out.1.below hrw y.bel).c1
              have hne := later_some wr
              clear cc0 cc1 ff1
              refine wp_region_later (by kernel_rfl) (by kernel_rfl) ?_
              repeat (go_big_quiet_step ((go_at_call 93; exact calls_later (AT.out _))))
              refine wpQuiet_nil ?_
              rintro _ ⟨y, rfl⟩
              have hyb := asd y.bel
              clear c0q c1q hne
              generalize y.u = w7 at *
              go_wp2_with fail
              go_ret
              exact ⟨v, q, 0, rfl, OV.out, H2.out.1.below hrw hyb.out, gtrans H2.out.2 (gbelow hyb.out)⟩
            · go_wp2_with fail
              have c0q : ∀ y : Later wr, y.u.cell? ⟨r, 0, none⟩ = some (.string s) := fun y => (H2.out.1.below hrw y.bel).c0
              have c1q : ∀ y : Later wr, y.u.cell? ⟨r, 1, none⟩ = some (.int .i64 (q : Int)) := fun y => (H2.out.1.below hrw y.bel).c1
              have hne := later_some wr
              clear cc0 cc1 ff1
              refine wp_region_later (by kernel_rfl) (by kernel_rfl) ?_
              repeat (go_big_quiet_step ((go_at_call 93; exact calls_later (AT.out _))))
              refine wpQuiet_nil ?_
              rintro _ ⟨y, rfl⟩
              have hyb := asd y.bel
              clear c0q c1q hne
              generalize y.u = w7 at *
              go_wp2_with fail
              go_ret
              exact ⟨v, q, 0, rfl, OV.out, H2.out.1.below hrw hyb.out, gtrans H2.out.2 (gbelow hyb.out)⟩
end Go.Proofs.YtpeioecpilmpiaaGreatDoor
