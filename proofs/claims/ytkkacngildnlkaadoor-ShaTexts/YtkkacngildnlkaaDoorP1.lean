/-
  ShaParts, as the tied card: for any list of texts the law answers true, and the list reads behind the call as before; the one listed variable, the table of the constants, is tied to the program's text. No other condition.
-/
import Derived.Test.YtkkacngildnlkaaDoorW12
import Derived.Test.YtkkacngildnlkaaDoorZ
import Derived.Test.YtkkacngildnlkaaDoorCards
import Derived.Test.YtkkacngildnlkaaDoorTie
import Derived.SevenTiedAt
import Derived.SliceStrings
import Derived.Carry
namespace Go.Proofs.YtkkacngildnlkaaDoor
open Go.ChangeShapes Go.WideShapes Go.ChangeAt Go.RowKit

/-- The first k texts of the list, one behind the other. -/
def joined (S : Nat → ByteArray) : Nat → ByteArray
  | 0 => ⟨#[]⟩
  | k + 1 => joined S k ++ S k

theorem ball_toList (s : ByteArray) : (s.toList != s.toList) = false := by simp

set_option maxHeartbeats 1600000 in
set_option maxRecDepth 100000 in
theorem parts_core (ad : Option Addr) (n cap : Nat) (S : Nat → ByteArray) (w : World) (hT : Tab w) (hn : n ≤ 20)
    (hcell : ∀ i, i < n → ∃ b o, ad = some ⟨b, o, none⟩ ∧ b < w.heap.size ∧ w.cell? ⟨b, o + i, none⟩ = some (.string (S i))) :
    Calls Tryd.prog 4 #[.slice ad n cap] w fun e w' => e = .returned (.bool true) ∧ Below w.heap.size w w' := by
  have k6 := awake_any w hT
  have k13 : Aside (∀ u, Tab u → Calls Tryd.prog 13 #[] u fun e w' => e = .returned (.pointer (some ⟨u.heap.size, 0, none⟩)) ∧ Hs u.heap.size Sh.h0 w' ∧ Below u.heap.size u w' ∧ w'.heap.size = u.heap.size + 1) := fun u hu => new_any u hu
  have HT : Aside (Tab w) := hT
  have HC : Aside (∀ i, i < n → ∃ b o, ad = some ⟨b, o, none⟩ ∧ b < w.heap.size ∧ w.cell? ⟨b, o + i, none⟩ = some (.string (S i))) := hcell
  have d1 : decide (20 < (n : Int)) = false := by simp; omega
  clear hT hcell
  go_enter Tryd.func4, Tryd.ntmps4
  go_wp2_with (first
    | (go_at_call 6; refine k6.mono ?_; rintro e w1 ⟨rfl, hb1⟩; have hT1 := HT.out.later hb1)
    | (go_at_call 13; refine (k13.out _ hT1).mono ?_; rintro e w2 ⟨rfl, h2, h3, h4⟩))
  have HA : Aside (Hs w1.heap.size (Sh.putAll Sh.h0 (bytes (joined S 0))) w2 ∧ Below w.heap.size w w2) := ⟨h2, hb1.trans (h3.mono hb1.size)⟩
  have hbs : w.heap.size ≤ w1.heap.size := hb1.size
  have hpos : w1.heap.size ≠ 0 := by have := hT1.pos; omega
  generalize w1.heap.size = b at HA hbs hpos ⊢
  clear k6 k13 h2 h3 h4 hb1 hT1 w1
  go_loopg [4, 16] n (fun gh s4 s16 wr => ∃ k : Nat, n - k ≤ gh ∧ k ≤ n ∧ s4 = .string (joined S k) ∧ s16 = .int .i64 (k : Int) ∧ (joined S k).size ≤ 100 * k ∧ Hs b (Sh.putAll Sh.h0 (bytes (joined S k))) wr ∧ Below w.heap.size w wr)
  case atStart => exact ⟨0, by omega, by omega, rfl, rfl, by simp [joined, ByteArray.size], HA.out⟩
  case round =>
    clear HA
    obtain ⟨k, hgh, hk, rfl, rfl, hsz, h1, h2⟩ := hrel
    by_cases hlt : k < n
    · obtain ⟨B, o, rfl, hB, hc⟩ := HC.out k hlt
      have hc2 := (h2.cell (p := ⟨B, o + k, none⟩) hB).trans hc
      obtain ⟨s, hs⟩ : ∃ s, s = S k := ⟨_, rfl⟩
      rw [← hs] at hc2
      have HS : Aside (s = S k ∧ Hs b (Sh.putAll Sh.h0 (bytes (joined S k))) wr ∧ Below w.heap.size w wr) := ⟨hs, h1, h2⟩
      clear hc hs h1 h2
      by_cases hl : 100 < s.size
      · have d2 : decide (100 < (s.size : Int)) = true := by simp; omega
        go_wp2
        go_ret
        exact ⟨rfl, HS.out.2.2⟩
      · have d2 : decide (100 < (s.size : Int)) = false := by simp; omega
        obtain ⟨J, hJ⟩ : ∃ J, J = joined S k := ⟨_, rfl⟩
        obtain ⟨T, hTT⟩ : ∃ T, J ++ s = T := ⟨_, rfl⟩
        have hTs : T.size ≤ 100 * (k + 1) := by rw [← hTT, ByteArray.size_append, hJ]; omega
        have hJn : joined S (k + 1) = T := by
          show joined S k ++ S k = T
          rw [← hJ, ← HS.out.1]
          exact hTT
        have k14 := write_any (Sh.putAll Sh.h0 (bytes J)) s b wr (by rw [hJ]; exact HS.out.2.1) hpos (Sh.putAll_ok Sh.h0_ok _ (bytes_lt J)) (by rw [Sh.putAll_n, bytes_len, hJ]; simp only [Sh.h0]; omega)
        rw [← Sh.putAll_append, ← bytes_append, hTT] at k14
        have k15 : Aside (∀ u, Hs b (Sh.putAll Sh.h0 (bytes T)) u → Calls Tryd.prog 15 #[.pointer (some ⟨b, 0, none⟩)] u fun e w' => e = .returned (.string (strOf (Sh.sha (bytes T)))) ∧ Below u.heap.size u w') := fun u hu => hsum_all (bytes T) b u hu (bytes_lt T) (by rw [bytes_len]; omega)
        have k9 : Aside (∀ u, Tab u → Calls Tryd.prog 9 #[.string T] u fun e w' => e = .returned (.string (strOf (Sh.sha (bytes T)))) ∧ Below u.heap.size u w') := fun u hu => sum_any T u hu (by omega)
        have k16 : Aside (∀ u, Hs b (Sh.putAll Sh.h0 (bytes T)) u → Calls Tryd.prog 16 #[.pointer (some ⟨b, 0, none⟩)] u fun e w' => e = .returned (.int .i64 (T.size : Int)) ∧ w' = u) := fun u hu => by
          have h := len_any (Sh.putAll Sh.h0 (bytes T)) b u hu
          rw [Sh.putAll_n, bytes_len, show Sh.h0.n = 0 from rfl, Nat.zero_add] at h
          exact h
        generalize strOf (Sh.sha (bytes T)) = D at k15 k9
        have e1 := ball_toList D
        have e2 : ((T.size : Int) != (T.size : Int)) = false := by simp
        have HN : Aside (joined S (k + 1) = T ∧ T.size ≤ 100 * (k + 1) ∧ Below w.heap.size w wr) := ⟨hJn, hTs, HS.out.2.2⟩
        have hJs : J.size ≤ 2000 := by rw [hJ]; omega
        rw [← hJ]
        clear hJn hTs HS hJ hsz
        by_cases h5 : k % 5 = 0
        · have d3 : ((k : Int) % 5 == 0) = true := by rw [beq_iff_eq]; omega
          clear h5
          go_wp2_with (first
            | (go_at_call 14; refine k14.mono ?_; rintro e w1 ⟨rfl, h3, h4⟩)
            | (go_at_call 15; refine (k15.out _ h3).mono ?_; rintro e w3 ⟨rfl, h5⟩; have h6 := h3.below h5 h3.at_.1.lt)
            | (go_at_call 9; refine (k9.out _ h6.tab).mono ?_; rintro e w4 ⟨rfl, h7⟩; have h8 := h6.below h7 h6.at_.1.lt)
            | (go_at_call 16; refine (k16.out _ h8).mono ?_; rintro e w5 ⟨rfl, rfl⟩))
          go_roundg (n - (k + 1))
          case measure => omega
          case rel =>
            obtain ⟨z1, z2, z3⟩ := HN.out
            have b1 := h4.below z3 hbs z3.size
            have b2 := b1.trans (h5.mono b1.size)
            rw [← z1] at h8
            exact ⟨k + 1, Nat.le_refl _, by omega, by rw [z1], by go_num, by rw [z1]; exact z2, h8, b2.trans (h7.mono b2.size)⟩
        · have d3 : ((k : Int) % 5 == 0) = false := by rw [beq_eq_false_iff_ne]; omega
          clear h5
          go_wp2_with (first
            | (go_at_call 14; refine k14.mono ?_; rintro e w1 ⟨rfl, h3, h4⟩)
            | (go_at_call 16; refine (k16.out _ h3).mono ?_; rintro e w5 ⟨rfl, rfl⟩))
          go_roundg (n - (k + 1))
          case measure => omega
          case rel =>
            obtain ⟨z1, z2, z3⟩ := HN.out
            rw [← z1] at h3
            exact ⟨k + 1, Nat.le_refl _, by omega, by rw [z1], by go_num, by rw [z1]; exact z2, h3, h4.below z3 hbs z3.size⟩
    · obtain rfl : k = n := by omega
      obtain ⟨T, hTT⟩ : ∃ T, T = joined S k := ⟨_, rfl⟩
      rw [← hTT] at h1 hsz ⊢
      have k15 := hsum_all (bytes T) b wr h1 (bytes_lt T) (by rw [bytes_len]; omega)
      have k9 : Aside (∀ u, Tab u → Calls Tryd.prog 9 #[.string T] u fun e w' => e = .returned (.string (strOf (Sh.sha (bytes T)))) ∧ Below u.heap.size u w') := fun u hu => sum_any T u hu (by omega)
      have k15n : Aside (∀ u, Calls Tryd.prog 15 #[.pointer none] u fun e w' => e = .returned (.string ⟨#[]⟩) ∧ w' = u) := sum_nil
      generalize strOf (Sh.sha (bytes T)) = D at k15 k9
      have HN : Aside (Tab wr ∧ Below w.heap.size w wr) := ⟨h1.tab, h2⟩
      clear h1 h2 hTT hsz
      have k14 : Aside (∀ u, Calls Tryd.prog 14 #[.pointer none, .string ⟨#[120]⟩] u fun e w' => e = .returned (.tuple #[]) ∧ w' = u) := fun u => write_nil _ u
      go_wp2_with (first
        | (go_at_call 14; refine (k14.out _).mono ?_; rintro e w1 ⟨rfl, rfl⟩)
        | (go_at_call 15; refine k15.mono ?_; rintro e w3 ⟨rfl, h5⟩; clear k15)
        | (go_at_call 9; refine (k9.out _ (HN.out.1.later h5)).mono ?_; rintro e w4 ⟨rfl, h7⟩)
        | (go_at_call 15; refine (k15n.out _).mono ?_; rintro e w5 ⟨rfl, rfl⟩)
        | (go_at_call 16; refine (len_nil _).mono ?_; rintro e w6 ⟨rfl, rfl⟩))
      go_ret
      have b2 := HN.out.2.trans (h5.mono HN.out.2.size)
      exact ⟨by simp, b2.trans (h7.mono b2.size)⟩
theorem parts_long (ad : Option Addr) (n cap : Nat) (w : World) (hT : Tab w) (hn : 20 < n) :
    Calls Tryd.prog 4 #[.slice ad n cap] w fun e w' => e = .returned (.bool true) ∧ Below w.heap.size w w' := by
  have k6 := awake_any w hT
  have d1 : decide (20 < (n : Int)) = true := by simp; omega
  go_enter Tryd.func4, Tryd.ntmps4
  go_wp2_with (go_at_call 6; refine k6.mono ?_; rintro e w1 ⟨rfl, hb1⟩)
  go_ret
  exact ⟨rfl, hb1⟩

theorem cells9 : Tryd.prog.cellsOf 9 = 1 := by kernel_rfl
theorem laidOut : laidOutB Tryd.prog = true := by kernel_rfl

theorem strs_open {H : Type} {enc : TypeId × Value → H} {W : World} {ad : Option Addr} {n cap : Nat} {d : DataW H} {p : List MemPlace} (h : DataW.Trod enc Tryd.prog W 0 (fun _ => true) true 30 (.slice ad n cap) d p) :
    ∃ S : Nat → ByteArray, ∀ i, i < n → ∃ b o, ad = some ⟨b, o, none⟩ ∧ b < W.heap.size ∧ W.cell? ⟨b, o + i, none⟩ = some (.string (S i)) := by
  obtain ⟨fuel, hf⟩ := h
  rcases open_strings Tryd.underlying30 Tryd.underlying9 cells9 hf with ⟨hcs, _⟩ | ⟨a, len, cap', ss, hcs, _, hl, _, hlen, _, hcell, _⟩
  · simp [Value.cells] at hcs
    exact ⟨fun _ => ByteArray.empty, fun i hi => by omega⟩
  · simp [Value.cells] at hcs
    obtain ⟨rfl, rfl, rfl⟩ := hcs
    refine ⟨fun i => ss.getD i ByteArray.empty, fun i hi => ?_⟩
    simp only [if_true] at hlen
    have hc := hcell i (by omega)
    obtain ⟨b, o, spot⟩ := a
    have hspot : spot = none := by simpa [Addr.add] using World.cell?_spot (hcell 0 (by omega))
    subst hspot
    rw [Addr.add_mid] at hc
    exact ⟨b, o, rfl, block_lt_of_cell hc, hc⟩

theorem parts_any (ad : Option Addr) (n cap : Nat) (w : World) (hT : Tab w) (h : ∃ S : Nat → ByteArray, ∀ i, i < n → ∃ b o, ad = some ⟨b, o, none⟩ ∧ b < w.heap.size ∧ w.cell? ⟨b, o + i, none⟩ = some (.string (S i))) :
    Calls Tryd.prog 4 #[.slice ad n cap] w fun e w' => e = .returned (.bool true) ∧ Below w.heap.size w w' := by
  obtain ⟨S, hS⟩ := h
  by_cases hn : 20 < n
  · exact parts_long ad n cap w hT hn
  · exact parts_core ad n cap S w hT (by omega) hS

set_option maxRecDepth 100000 in
theorem shaParts_lifted (os : Os) (started : os.Started) (H : Type) (enc : TypeId × Value → H) :
    ReturnsInHanded {} Tryd.checked os 4 .any (fun w args => (Rows.shaPartsSpec.pre enc Tryd.prog Tryd.f4 [] false w args ∧ laidMetH Tryd.prog laid1 w) ∧ sizedMet enc Tryd.prog Tryd.f4 (OpenSpec.ofChange Rows.shaPartsSpec) false w args)
      (Rows.shaPartsSpec.post enc Tryd.prog Tryd.f4 false true false false) := by
  refine returnsInHanded_of_change_and (C := Tryd.checked) (X := fun w _ => laidMetH Tryd.prog laid1 w) (fun _ _ _ hh h => h.of_heap hh) own started (by kernel_rfl) Tryd.func4
    (ChangeSpec.witness_shaped (enc := enc) (C := Tryd.checked) (os := os) (X := fun w _ => laidMetH Tryd.prog laid1 w) false (World.doorLaid Tryd.prog 400 os) #[.slice none 0 0] 8 rfl (World.shaped_of_RefB (by kernel_rfl) (by kernel_rfl)) (by kernel_rfl) (by kernel_rfl) (by kernel_rfl) (door_met os _)) ?_
  intro W base args ds gs before hval0 hW _ _ hL _
  have hval : ∀ (j : Nat) t v, Tryd.f4.params[j]? = some t → args[j]? = some v → Value.okWide Tryd.prog W .any base t v := hval0
  have hW' := hW
  obtain ⟨p, q, hA0, hV, rfl, hfz, hnd⟩ := hW
  have hA : DataW.TrodAll enc Tryd.prog W 0 (fun _ => true) true Tryd.f4.params.toList args.toList ds p := hA0
  rw [Tryd.params4] at hA hval
  obtain ⟨v0, vs0, d0, ds0, p0, q0, hargs, rfl, rfl, h0, r0⟩ := trodAll_cons hA
  obtain ⟨rfl, rfl, rfl⟩ := trodAll_nil r0
  obtain rfl : args = #[v0] := by cases args; simp_all
  obtain ⟨rfl, rfl⟩ := trodVars_none hV
  obtain ⟨a0, len0, cap0, rfl⟩ := okWide_slice Tryd.underlying30 (hval 0 30 v0 rfl rfl)
  have lt0 : ∀ x ∈ p0, x.block < W.heap.size := by obtain ⟨m, hm⟩ := h0; exact DataW.trod_lt m _ _ _ hm
  clear hA0 hval0
  refine (parts_any a0 len0 cap0 W (tab_of_laid hL) (strs_open h0)).mono fun e W' ⟨he, bel⟩ => ?_
  subst he
  exact ⟨_, rfl, _, _, _, [], _, [], hW', trodAll_mk1 (shut_bool Tryd.underlying4 _), trodAll_cons_mk (Below.trod laidOut (by kernel_rfl) (of_decide_eq_true (by kernel_rfl)) h0 bel lt0) trodAll_mk0, rfl, bel.frame _, fun h => by cases h⟩

theorem shaParts_row : Rows.ShaPartsSaid :=
  OpenClaim.holds_of_wide 4 Tryd.f4 rfl rfl rfl rfl rfl rfl rfl ⟨rfl, rfl, rfl, rfl, rfl⟩ rfl rfl rfl rfl rfl (by kernel_rfl) Tryd.func4 (by kernel_rfl)
    (of_decide_eq_true (by kernel_rfl)) (by unfold Func.isWrapper; first | (rw [if_pos (by decide +kernel)]; kernel_rfl) | (rw [if_neg (by decide +kernel)]; exact ⟨rfl, rfl⟩))
    (fun os started H enc _ => shaParts_lifted os started H enc)

theorem shaParts_holds : Rows.ShaPartsCardSaid :=
  Claim7.holds_tied_plain_at .later [] [.data] true (true, "006818d8534aa499fb2aeba6ec53f3e4ac15862d3f2079fa821f5042570c362f") false
    shaParts_row (fun _ h => by cases h) (by kernel_rfl) (fun _ h => by cases h) shaParts_row_tie rfl ⟨rfl, rfl⟩ (by kernel_rfl) rfl
    (fun f fn hf hfn => by
      obtain rfl : f = 4 := Option.some.inj ((show Tryd.prog.funcNamed "concierge/conciergelaw03.ShaParts" = some 4 by kernel_rfl).symm.trans hf) |>.symm
      obtain rfl : fn = Tryd.f4 := (Option.some.inj (Tryd.func4.symm.trans hfn)).symm
      exact ⟨by kernel_rfl, fun j t ht => by
        rw [Tryd.params4] at ht
        have hm : t ∈ [30] := by simpa using Array.mem_of_getElem? ht
        have hall : ([30].all fun u => !Tryd.prog.wantsStandIn u) = true := by kernel_rfl
        exact (show Tryd.prog.wantsStandIn t = false by simpa using List.all_eq_true.1 hall t hm)⟩)
    (by kernel_rfl)
#print axioms shaParts_holds
end Go.Proofs.YtkkacngildnlkaaDoor
