/-
  SignWords: for any bytes, any number and any list of numbers the law answers true, and all three read behind the call as before. No condition.
-/
import Derived.Test.YtacipegcenfbeaaL2
import Derived.ChangeSlices
namespace Go.Proofs.Ytacipegcenfbeaa
open Go.ChangeShapes Go.WideShapes Go.ChangeAt Go.RowKit
open Go.ChangeMaps (open_string shut_string)

theorem ff_step (s : ByteArray) (r : Int) (j : Nat) (h : j < Sg.len s) : Sg.ff r j (Sg.fr s (Sg.pa s j)) = if ((Sg.rn s (Sg.pa s j) : Nat) : Int) = r then (j : Int) else Sg.ff r (j + 1) (Sg.fr s (Sg.pa s (j + 1))) := by
  rw [Sg.fr_step s _ (Sg.pa_lt s j h)]
  rfl

theorem onl_step (s : ByteArray) (z : List Int) (j : Nat) (h : j < Sg.len s) : Sg.onl z (Sg.fr s (Sg.pa s j)) = (Sg.onl z (Sg.fr s (Sg.pa s (j + 1))) && z.contains (sort (Sg.rn s (Sg.pa s j) : Nat))) := by
  rw [Sg.fr_step s _ (Sg.pa_lt s j h), Bool.and_comm]
  rfl

theorem has_step (z : List Int) (t : Nat) (x : Int) (h : t < z.length) : (z.take (t + 1)).contains x = ((z.take t).contains x || (z.getD t 0 == x)) := by
  rw [List.take_add_one, List.getElem?_eq_getElem h]
  rw [Bool.eq_iff_iff]
  simp only [List.contains_eq_mem, List.mem_append, Option.toList_some, List.mem_singleton, Bool.or_eq_true, decide_eq_true_eq, beq_iff_eq, List.getD, List.getElem?_eq_getElem h, Option.getD_some]
  constructor
  · rintro (h | h)
    · exact .inl h
    · exact .inr h.symm
  · rintro (h | h)
    · exact .inl h
    · exact .inr h.symm

theorem words_long (s : ByteArray) (r : Int) (a : Option Addr) (n c : Nat) (w : World) (h : 100 < s.size ∨ 5 < n) :
    Calls Try.prog 5 #[.string s, .int .i32 r, .slice a n c] w fun e w' => e = .returned (.bool true) ∧ Below w.heap.size w w' := by
  have k0 := awake_any w
  by_cases h1 : 100 < s.size
  · have d1 : decide (100 < (s.size : Int)) = true := by simp; omega
    go_enter Try.func5, Try.ntmps5
    go_wp2_with (go_at_call 6; refine k0.mono ?_; rintro e w1 ⟨rfl, hb1⟩)
    go_ret
    exact ⟨rfl, hb1⟩
  · have d1 : decide (100 < (s.size : Int)) = false := by simp; omega
    have d2 : decide (5 < (n : Int)) = true := by simp; omega
    go_enter Try.func5, Try.ntmps5
    go_wp2_with (go_at_call 6; refine k0.mono ?_; rintro e w1 ⟨rfl, hb1⟩)
    go_ret
    exact ⟨rfl, hb1⟩

theorem words_len (s : ByteArray) : ∀ (l : List (Nat × Nat)) (st : Nat), (Sg.wf s st l).length ≤ l.length + 1
  | [], st => by simp only [Sg.wf]; split <;> simp
  | x :: t, st => by
    have h1 := words_len s t (x.2 + Sg.wd s x.2)
    have h2 := words_len s t st
    simp only [Sg.wf]
    split
    · rw [List.length_append]
      split <;> simp <;> omega
    · simp
      omega

set_option maxHeartbeats 8000000 in
set_option maxRecDepth 1000000 in
theorem words_core (s : ByteArray) (r : Int) (v : Value) (z : List Int) (w : World) (hs : s.size ≤ 100) (hz : z.length ≤ 5) (hr0 : -2147483648 ≤ r) (hr1 : r ≤ 2147483647) (hv : Nums w.heap.size v z w) :
    Calls Try.prog 5 #[.string s, .int .i32 r, v] w fun e w' => e = .returned (.bool true) ∧ Below w.heap.size w w' := by
  obtain ⟨va, vc, rfl, hvc⟩ := hv.form
  have HV : Aside (Nums w.heap.size (.slice va z.length vc) z w) := hv
  have k0 := awake_any w
  have kW : Aside (∀ u : World, _) := fun u : World => words_any s u (by omega)
  have kR : Aside (∀ u : World, _) := fun u : World => refWords_any s u (by omega)
  have kS : Aside (∀ u : World, _) := fun u : World => signs_any s u (by omega)
  have d1 : decide (100 < (s.size : Int)) = false := by simp; omega
  have d2 : decide (5 < (z.length : Int)) = false := by simp; omega
  have hls := Sg.len_size s
  have hwl : (Sg.words s).length ≤ 101 := by
    have := words_len s (Sg.fr s 0) 0
    have : (Sg.fr s 0).length = Sg.len s := rfl
    unfold Sg.words
    omega
  generalize hL : Sg.words s = L at *
  clear hv
  go_enter Try.func5, Try.ntmps5
  go_wp2_with (first
    | (go_at_call 6; refine k0.mono ?_; rintro e w0 ⟨rfl, hb0⟩)
    | (go_at_call 18; refine (kW.out _).mono ?_; rintro e w1 ⟨v1, rfl, hown1, hb1⟩; obtain ⟨a1, c1, rfl, hc1⟩ := Strs.of_own hown1)
    | (go_at_call 19; refine (kR.out _).mono ?_; rintro e w2 ⟨v2, rfl, ⟨a2, c2, rfl, hc2⟩, hb2⟩))
  clear k0 kW kR hown1
  have B2 : Aside (Below w.heap.size w w2) := by
    have b1 := hb0.trans (hb1.mono hb0.size)
    exact b1.trans (hb2.mono b1.size)
  go_loopg [39] L.length (fun gh s39 wr => ∃ k : Nat, L.length - k ≤ gh ∧ k ≤ L.length ∧ s39 = .int .i64 (k : Int) ∧ Below w2.heap.size w2 wr)
  case atStart => exact ⟨0, by omega, by omega, rfl, Below.refl _ _⟩
  case round =>
    obtain ⟨k, hgh, hk, rfl, hbw⟩ := hrel
    by_cases hp : k < L.length
    · obtain ⟨g1, o1, rfl, hg1, hcell1⟩ := hc1 k hp
      obtain ⟨g2, o2, rfl, hg2, hcell2⟩ := hc2 k hp
      rw [← hb2.cell (by exact hg1), ← hbw.cell (by have := hb2.size; exact Nat.lt_of_lt_of_le hg1 this)] at hcell1
      rw [← hbw.cell (by exact hg2)] at hcell2
      have dk : decide (k < L.length) = true := by simpa using hp
      generalize L.getD k ⟨#[]⟩ = X at *
      clear hc1 hc2 hvc
      go_wp2
      go_quiet (fail)
      go_wp2
      go_roundg (L.length - (k + 1))
      case measure => omega
      case rel => exact ⟨k + 1, Nat.le_refl _, by omega, by go_num, below_drewN hbw _⟩
    · obtain rfl : k = L.length := by omega
      have dk : decide (L.length < L.length) = false := by simp
      clear hc1 hc2
      go_wp2_with (go_at_call 9; refine (kS.out _).mono ?_; rintro e w3 ⟨v3, v4, rfl, hn1, hn2, hb3⟩; obtain ⟨a3, c3, rfl, hc3⟩ := hn1.form; obtain ⟨a4, c4, rfl, hc4⟩ := hn2.form; rw [zs_length, Sg.sigs_length] at *; rw [zs_length, Sg.ats_length] at *)
      have B3 : Aside (Below w.heap.size w w3) := by
        have b1 := B2.out.trans (hbw.mono B2.out.size)
        exact b1.trans (hb3.mono b1.size)
      clear kS hn1 hn2 hc4 B2 hb0 hb1 hb2 hb3 hbw
      have hvc3 : Aside (∀ t, t < z.length → ∃ g o, va = some ⟨g, o, none⟩ ∧ w3.cell? ⟨g, o + t, none⟩ = some (.int .i64 (z.getD t 0))) := by
        show ∀ t, _
        intro t ht
        obtain ⟨g, o, e, hg, hcl⟩ := hvc t ht
        exact ⟨g, o, e, by rw [B3.out.cell (by exact hg)]; exact hcl⟩
      clear hvc
      go_loopg [12, 13, 14] (Sg.len s) (fun gh s12 s13 s14 wr => ∃ k : Nat, k ≤ gh ∧ k ≤ Sg.len s ∧ s12 = .int .i64 (Sg.ff r k (Sg.fr s (Sg.pa s k))) ∧ s13 = .bool (Sg.onl z (Sg.fr s (Sg.pa s k))) ∧ s14 = .int .i64 ((k : Int) - 1) ∧ w3 = wr)
      case atStart =>
        refine ⟨Sg.len s, by omega, by omega, ?_, ?_, by go_num, rfl⟩
        · rw [Sg.fr_end s _ (by rw [Sg.pa_end]; omega)]; rfl
        · rw [Sg.fr_end s _ (by rw [Sg.pa_end]; omega)]; rfl
      case round =>
        obtain ⟨k, hgh, hk, rfl, rfl, rfl, rfl⟩ := hrel
        rcases k with _ | j
        · have dk : decide (0 ≤ ((0 : Nat) : Int) - 1) = false := by decide
          have k1 : Aside (∀ u : World, _) := fun u : World => find_any s r u (by omega)
          have k2 : Aside (∀ u : World, Below w.heap.size w u → _) := fun (u : World) (hu : Below w.heap.size w u) => only_any s _ z u (by omega) (by omega) ((HV.out.later hu).wider hu.size)
          rw [show Sg.pa s 0 = 0 from rfl]
          generalize Sg.ff r 0 (Sg.fr s 0) = FF at *
          generalize Sg.onl z (Sg.fr s 0) = OO at *
          have bO : (OO == OO) = true := beq_self_eq_true _
          have bF : (FF == FF) = true := beq_self_eq_true _
          clear hc3 hvc3
          go_wp2_with (first
            | (go_at_call 20; refine (k1.out _).mono ?_; rintro e w5 ⟨rfl, hb5⟩; have B5 : Aside (Below w.heap.size w w5) := B3.out.trans (hb5.mono B3.out.size))
            | (go_at_call 21; refine (k2.out _ B5.out).mono ?_; rintro e w6 ⟨rfl, hb6⟩))
          go_ret
          exact ⟨rfl, B5.out.trans (hb6.mono B5.out.size)⟩
        · have ej : ((j + 1 : Nat) : Int) - 1 = (j : Int) := by omega
          rw [ej]
          have hp : j < Sg.len s := by omega
          have dk : decide (0 ≤ (j : Int)) = true := by simp
          obtain ⟨g, o, rfl, hg, hcell⟩ := hc3 j hp
          rw [zs_at hp] at hcell
          have ef : Aside (_ = _) := ff_step s r j hp
          have eo : Aside (_ = _) := onl_step s z j hp
          have ks := refSort_any ((Sg.rn s (Sg.pa s j) : Nat) : Int)
          have hrk := Sg.rn_ok s (Sg.pa s j)
          generalize Sg.rn s (Sg.pa s j) = m at *
          have hm3 : m ≤ 1114111 := by omega
          clear hrk hc3
          generalize Sg.ff r (j + 1) (Sg.fr s (Sg.pa s (j + 1))) = FN at *
          generalize hON : Sg.onl z (Sg.fr s (Sg.pa s (j + 1))) = ON at *
          clear hON
          by_cases hq : (m : Int) = r
          · have dq : ((m : Int) == r) = true := by rw [beq_iff_eq]; exact hq
            have ef2 : Aside (Sg.ff r j (Sg.fr s (Sg.pa s j)) = (j : Int)) := by
              have h := ef.out
              rw [if_pos hq] at h
              exact h
            clear ef hq
            go_wp2
            go_loopg [15, 74] z.length (fun gh s15 s74 wr => ∃ t : Nat, z.length - t ≤ gh ∧ t ≤ z.length ∧ s15 = .bool ((z.take t).contains (sort (m : Int))) ∧ s74 = .int .i64 (t : Int) ∧ w3 = wr)
            case atStart => exact ⟨0, by omega, by omega, rfl, rfl, rfl⟩
            case round =>
              obtain ⟨t, hgt, ht, rfl, rfl, rfl⟩ := hrel
              by_cases hpt : t < z.length
              · obtain ⟨gz, oz, rfl, hcz⟩ := hvc3.out t hpt
                have dt : decide (t < z.length) = true := by simpa using hpt
                have est : Aside (_ = _) := has_step z t (sort (m : Int)) hpt
                generalize z.getD t 0 = y at *
                cases hM : (z.take t).contains (sort (m : Int))
                · cases hY : (y == sort (m : Int))
                  · have e2 : Aside ((z.take (t + 1)).contains (sort (m : Int)) = false) := by
                      have h := est.out
                      rw [hM, hY] at h
                      exact h
                    clear est hM
                    go_wp2_with (go_at_call 8; refine (ks _).mono ?_; rintro e w7 ⟨rfl, rfl⟩)
                    go_roundg (z.length - (t + 1))
                    case measure => omega
                    case rel => exact ⟨t + 1, Nat.le_refl _, by omega, by rw [e2.out], by go_num, rfl⟩
                  · have e2 : Aside ((z.take (t + 1)).contains (sort (m : Int)) = true) := by
                      have h := est.out
                      rw [hM, hY] at h
                      exact h
                    clear est hM
                    go_wp2_with (go_at_call 8; refine (ks _).mono ?_; rintro e w7 ⟨rfl, rfl⟩)
                    go_roundg (z.length - (t + 1))
                    case measure => omega
                    case rel => exact ⟨t + 1, Nat.le_refl _, by omega, by rw [e2.out], by go_num, rfl⟩
                · have e2 : Aside ((z.take (t + 1)).contains (sort (m : Int)) = true) := by
                    have h := est.out
                    rw [hM] at h
                    exact h
                  clear est hM
                  go_wp2_with (go_at_call 8; refine (ks _).mono ?_; rintro e w7 ⟨rfl, rfl⟩)
                  go_roundg (z.length - (t + 1))
                  case measure => omega
                  case rel => exact ⟨t + 1, Nat.le_refl _, by omega, by rw [e2.out], by go_num, rfl⟩
              · obtain rfl : t = z.length := by omega
                have dt : decide (z.length < z.length) = false := by simp
                rw [List.take_length]
                generalize z.contains (sort (m : Int)) = M at *
                clear hvc3
                cases ON
                · have eo2 : Aside (Sg.onl z (Sg.fr s (Sg.pa s j)) = false) := by
                    have h := eo.out
                    rw [Bool.false_and] at h
                    exact h
                  clear eo
                  go_wp2
                  go_roundg j
                  case measure => omega
                  case rel => exact ⟨j, Nat.le_refl _, by omega, by rw [ef2.out], by rw [eo2.out], by go_num, rfl⟩
                · have eo2 : Aside (Sg.onl z (Sg.fr s (Sg.pa s j)) = M) := by
                    have h := eo.out
                    rw [Bool.true_and] at h
                    exact h
                  clear eo
                  go_wp2
                  go_roundg j
                  case measure => omega
                  case rel => exact ⟨j, Nat.le_refl _, by omega, by rw [ef2.out], by rw [eo2.out], by go_num, rfl⟩
          · have dq : ((m : Int) == r) = false := by rw [beq_eq_false_iff_ne]; exact hq
            have ef2 : Aside (Sg.ff r j (Sg.fr s (Sg.pa s j)) = FN) := by
              have h := ef.out
              rw [if_neg hq] at h
              exact h
            clear ef hq
            go_wp2
            go_loopg [15, 74] z.length (fun gh s15 s74 wr => ∃ t : Nat, z.length - t ≤ gh ∧ t ≤ z.length ∧ s15 = .bool ((z.take t).contains (sort (m : Int))) ∧ s74 = .int .i64 (t : Int) ∧ w3 = wr)
            case atStart => exact ⟨0, by omega, by omega, rfl, rfl, rfl⟩
            case round =>
              obtain ⟨t, hgt, ht, rfl, rfl, rfl⟩ := hrel
              by_cases hpt : t < z.length
              · obtain ⟨gz, oz, rfl, hcz⟩ := hvc3.out t hpt
                have dt : decide (t < z.length) = true := by simpa using hpt
                have est : Aside (_ = _) := has_step z t (sort (m : Int)) hpt
                generalize z.getD t 0 = y at *
                cases hM : (z.take t).contains (sort (m : Int))
                · cases hY : (y == sort (m : Int))
                  · have e2 : Aside ((z.take (t + 1)).contains (sort (m : Int)) = false) := by
                      have h := est.out
                      rw [hM, hY] at h
                      exact h
                    clear est hM
                    go_wp2_with (go_at_call 8; refine (ks _).mono ?_; rintro e w7 ⟨rfl, rfl⟩)
                    go_roundg (z.length - (t + 1))
                    case measure => omega
                    case rel => exact ⟨t + 1, Nat.le_refl _, by omega, by rw [e2.out], by go_num, rfl⟩
                  · have e2 : Aside ((z.take (t + 1)).contains (sort (m : Int)) = true) := by
                      have h := est.out
                      rw [hM, hY] at h
                      exact h
                    clear est hM
                    go_wp2_with (go_at_call 8; refine (ks _).mono ?_; rintro e w7 ⟨rfl, rfl⟩)
                    go_roundg (z.length - (t + 1))
                    case measure => omega
                    case rel => exact ⟨t + 1, Nat.le_refl _, by omega, by rw [e2.out], by go_num, rfl⟩
                · have e2 : Aside ((z.take (t + 1)).contains (sort (m : Int)) = true) := by
                    have h := est.out
                    rw [hM] at h
                    exact h
                  clear est hM
                  go_wp2_with (go_at_call 8; refine (ks _).mono ?_; rintro e w7 ⟨rfl, rfl⟩)
                  go_roundg (z.length - (t + 1))
                  case measure => omega
                  case rel => exact ⟨t + 1, Nat.le_refl _, by omega, by rw [e2.out], by go_num, rfl⟩
              · obtain rfl : t = z.length := by omega
                have dt : decide (z.length < z.length) = false := by simp
                rw [List.take_length]
                generalize z.contains (sort (m : Int)) = M at *
                clear hvc3
                cases ON
                · have eo2 : Aside (Sg.onl z (Sg.fr s (Sg.pa s j)) = false) := by
                    have h := eo.out
                    rw [Bool.false_and] at h
                    exact h
                  clear eo
                  go_wp2
                  go_roundg j
                  case measure => omega
                  case rel => exact ⟨j, Nat.le_refl _, by omega, by rw [ef2.out], by rw [eo2.out], by go_num, rfl⟩
                · have eo2 : Aside (Sg.onl z (Sg.fr s (Sg.pa s j)) = M) := by
                    have h := eo.out
                    rw [Bool.true_and] at h
                    exact h
                  clear eo
                  go_wp2
                  go_roundg j
                  case measure => omega
                  case rel => exact ⟨j, Nat.le_refl _, by omega, by rw [ef2.out], by rw [eo2.out], by go_num, rfl⟩


theorem cells3 : Try.prog.cellsOf 3 = 1 := by kernel_rfl
theorem laidOut : laidOutB Try.prog = true := by kernel_rfl

theorem add_plain (b o j : Nat) : (⟨b, o, none⟩ : Addr).add j = ⟨b, o + j, none⟩ := by
  unfold Addr.add
  split <;> simp_all

theorem nums_open {H : Type} {enc : TypeId × Value → H} {W : World} {ad : Option Addr} {n cap : Nat} {d : DataW H} {p : List MemPlace} (h : DataW.Trod enc Try.prog W 0 (fun _ => true) true 26 (.slice ad n cap) d p) :
    ∃ z : List Int, z.length = n ∧ Nums W.heap.size (.slice ad n cap) z W := by
  obtain ⟨fuel, hf⟩ := h
  rcases open_ints Try.underlying26 Try.underlying3 cells3 hf with ⟨hcs, _⟩ | ⟨a, len, cap', ss, hcs, _, hl, _, hlen, _, hcell, _⟩
  · simp [Value.cells] at hcs
    obtain ⟨rfl, rfl, rfl⟩ := hcs
    exact ⟨[], rfl, ⟨.inl ⟨rfl, _, _, rfl⟩⟩⟩
  · simp [Value.cells] at hcs
    obtain ⟨rfl, rfl, rfl⟩ := hcs
    simp only [if_true] at hlen
    have hlt : (ss.take n).length = n := by rw [List.length_take]; omega
    rcases Nat.eq_zero_or_pos n with h0 | hp
    · subst h0
      exact ⟨[], rfl, ⟨.inl ⟨rfl, _, _, rfl⟩⟩⟩
    · obtain ⟨b, o, spot⟩ := a
      have h00 := hcell 0 (by omega)
      have hspot : spot = none := by simpa [Addr.add] using World.cell?_spot h00
      subst hspot
      rw [add_plain] at h00
      refine ⟨ss.take n, hlt, ⟨.inr ⟨b, o, cap, by rw [hlt], block_lt_of_cell h00, fun j hj => ?_⟩⟩⟩
      rw [hlt] at hj
      have hc := hcell j (by omega)
      rw [add_plain] at hc
      rw [hc]
      simp [List.getD, hj]

theorem wordsLaw_any (s : ByteArray) (r : Int) (a : Option Addr) (n c : Nat) (w : World) (hr0 : -2147483648 ≤ r) (hr1 : r ≤ 2147483647) (h : ∃ z : List Int, z.length = n ∧ Nums w.heap.size (.slice a n c) z w) :
    Calls Try.prog 5 #[.string s, .int .i32 r, .slice a n c] w fun e w' => e = .returned (.bool true) ∧ Below w.heap.size w w' := by
  obtain ⟨z, hz, hv⟩ := h
  by_cases hl : 100 < s.size ∨ 5 < n
  · exact words_long s r a n c w hl
  · exact words_core s r _ z w (by omega) (by omega) hr0 hr1 hv

set_option maxRecDepth 100000 in
theorem signWords_lifted (os : Os) (started : os.Started) (H : Type) (enc : TypeId × Value → H) :
    ReturnsInHanded {} Try.checked os 5 .any (Rows.signWordsSpec.pre6 enc Try.prog Try.f5 Rows.signWordsRow.domain false) (Rows.signWordsSpec.post enc Try.prog Try.f5 false true false false) := by
  refine returnsInHanded_of_change (C := Try.checked) own started (by kernel_rfl) Try.func5
    (ChangeSpec.witness6 (enc := enc) (C := Try.checked) false ⟨#[], #[.string ByteArray.empty, .int .i32 0, .slice none 0 0], []⟩ 8 (by kernel_rfl) (by kernel_rfl) (by kernel_rfl) (by kernel_rfl)) ?_
  intro W base args ds gs before hval0 hW _ _
  have hval : ∀ (j : Nat) t v, Try.f5.params[j]? = some t → args[j]? = some v → Value.okWide Try.prog W .any base t v := hval0
  have hW' := hW
  obtain ⟨p, q, hA0, hV, rfl, hfz, hnd⟩ := hW
  have hA : DataW.TrodAll enc Try.prog W 0 (fun _ => true) true Try.f5.params.toList args.toList ds p := hA0
  rw [Try.params5] at hA hval
  obtain ⟨v0, vs0, d0, ds0, p0, q0, hargs, rfl, rfl, h0, r0⟩ := trodAll_cons hA
  obtain ⟨v1, vs1, d1, ds1, p1, q1, rfl, rfl, rfl, h1, r1⟩ := trodAll_cons r0
  obtain ⟨v2, vs2, d2, ds2, p2, q2, rfl, rfl, rfl, h2, r2⟩ := trodAll_cons r1
  obtain ⟨rfl, rfl, rfl⟩ := trodAll_nil r2
  obtain rfl : args = #[v0, v1, v2] := by cases args; simp_all
  obtain ⟨rfl, rfl⟩ := trodVars_none hV
  obtain ⟨s0, rfl, rfl, rfl, w0⟩ := open_string Try.underlying9 (hval 0 9 v0 rfl rfl) h0
  obtain ⟨a1, rfl, rfl, rfl, w1⟩ := open_int Try.underlying21 (hval 1 21 v1 rfl rfl) h1
  obtain ⟨a2, len2, cap2, rfl⟩ := okWide_slice Try.underlying26 (hval 2 26 v2 rfl rfl)
  have lt2 : ∀ x ∈ p2, x.block < W.heap.size := by obtain ⟨m, hm⟩ := h2; exact DataW.trod_lt m _ _ _ hm
  clear hA0 hval0
  have hr := i32_in w1
  refine (wordsLaw_any s0 a1 a2 len2 cap2 W hr.1 hr.2 (nums_open h2)).mono fun e W' ⟨he, bel⟩ => ?_
  subst he
  exact ⟨_, rfl, _, _, _, [], _, [], hW', trodAll_mk1 (shut_bool Try.underlying4 _), trodAll_cons_mk (shut_string Try.underlying9 w0) (trodAll_cons_mk (shut_int Try.underlying21 w1) (trodAll_cons_mk (Below.trod laidOut (by kernel_rfl) (of_decide_eq_true (by kernel_rfl)) h2 bel lt2) trodAll_mk0)), rfl, bel.frame _, fun h => by cases h⟩

theorem signWords_holds : Rows.SignWordsSaid :=
  OpenClaim.holds_of_wide 5 Try.f5 rfl rfl rfl rfl rfl rfl rfl ⟨rfl, rfl, rfl, rfl, rfl⟩ rfl rfl rfl rfl rfl (by kernel_rfl) Try.func5 (by kernel_rfl)
    (of_decide_eq_true (by kernel_rfl)) (by unfold Func.isWrapper; first | (rw [if_pos (by decide +kernel)]; kernel_rfl) | (rw [if_neg (by decide +kernel)]; exact ⟨rfl, rfl⟩))
    (fun os started H enc _ => signWords_lifted os started H enc)
#print axioms signWords_holds
end Go.Proofs.Ytacipegcenfbeaa
