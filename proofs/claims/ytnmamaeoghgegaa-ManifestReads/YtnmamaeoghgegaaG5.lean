/-
  Ytnmamaeoghgegaa: the texts S1, S2, one behind the other.
-/
import Derived.Test.YtnmamaeoghgegaaG1
import Derived.Test.YtnmamaeoghgegaaG3
import Derived.Test.YtnmamaeoghgegaaG4
import Derived.WalkKit
import Derived.WalkSpells
import Derived.WalkLawsBesides
import Derived.Deep.LoopGhost
import Derived.Laws.Externs
import Derived.Below
import Derived.BigQuiet
import Derived.Deep.RegionWith
import Derived.OwnWalk
import Derived.Maps.AppendAt
import Derived.WalkSmall
/-
  The manifest of a number, by both.
-/
namespace Go.Proofs.Ytnmamaeoghgegaa
open Go.RowKit
set_option maxRecDepth 100000
theorem asd {p : Prop} (h : p) : Aside p := h
open Pa (At Upd)
def CG : ByteArray := ⟨#[99, 103, 49]⟩
def MF : ByteArray := ⟨#[109, 97, 110, 105, 102, 101, 115, 116]⟩
def DR : ByteArray := ⟨#[109, 97, 110, 105, 102, 101, 115, 116, 46, 110, 101, 119]⟩
/-- Has a number a manifest? -/
def hasB (n : Int) : Bool := decide (2 ≤ n) && decide (n ≤ 99999)
theorem hasB_iff {n : Int} : hasB n = true ↔ 2 ≤ n ∧ n ≤ 99999 := by simp [hasB]
/-- What the manifest's frame holds. -/
def fmc (k : Nat) : List UInt8 := CG.data.toList ++ Pa.Pk.numB k
/-- The manifest of a number. -/
def fmS (n : Int) : ByteArray := if hasB n then Fm.bs (Fm.Fr.mk (fmc n.toNat)) else ⟨#[]⟩
theorem fmc_len {k : Nat} (h : k ≤ 99999) : 4 ≤ (fmc k).length ∧ (fmc k).length ≤ 12 := by
  have := Pa.Pk.numB_len (a := k) (by omega)
  unfold fmc
  rw [List.length_append, show CG.data.toList.length = 3 from rfl]
  omega
theorem fmS_size {n : Int} (h : hasB n = true) : 14 ≤ (fmS n).size ∧ (fmS n).size ≤ 22 := by
  have h1 := hasB_iff.1 h
  have := fmc_len (k := n.toNat) (by omega)
  unfold fmS
  rw [if_pos h, Fm.bs_size, Fm.Fr.mk_len]
  omega
theorem has_any (n : Int) (w : World) : Calls Try.prog 23 #[.int .i64 n] w fun e w' => e = .returned (.bool (hasB n)) ∧ w' = w := by
  unfold hasB
  by_cases h1 : 2 ≤ n
  · have q1 : decide (2 ≤ n) = true := decide_eq_true h1
    by_cases h2 : n ≤ 99999
    · have q2 : decide (n ≤ 99999) = true := decide_eq_true h2
      rw [q1, q2]
      go_enter Try.func23, Try.ntmps23
      go_wp2
      go_ret
      exact ⟨rfl, rfl⟩
    · have q2 : decide (n ≤ 99999) = false := decide_eq_false h2
      rw [q1, q2]
      go_enter Try.func23, Try.ntmps23
      go_wp2
      go_ret
      exact ⟨rfl, rfl⟩
  · have q1 : decide (2 ≤ n) = false := decide_eq_false h1
    rw [q1]
    go_enter Try.func23, Try.ntmps23
    go_wp2
    go_ret
    exact ⟨rfl, rfl⟩
theorem form_any (n : Int) (w : World) : Calls Try.prog 7 #[.int .i64 n] w fun e w' => e = .returned (.string (fmS n)) ∧ Below w.heap.size w w' := by
  have kh := has_any n w
  unfold fmS
  cases hb : hasB n with
  | false =>
    rw [hb] at kh
    simp only [Bool.false_eq_true, if_false]
    go_enter Try.func7, Try.ntmps7
    go_wp2_with (go_at_call 23; refine kh.mono ?_; rintro e w1 ⟨rfl, rfl⟩)
    go_ret
    exact ⟨rfl, Below.refl _ _⟩
  | true =>
    rw [hb] at kh
    simp only [if_true]
    have h1 := hasB_iff.1 hb
    obtain ⟨k, rfl⟩ : ∃ k : Nat, n = (k : Int) := ⟨n.toNat, by omega⟩
    have hk : k ≤ 99999 := by omega
    have hl := fmc_len hk
    rw [Int.toNat_natCast]
    have K1 := asd (fun (b : Nat) (u : World) (h : At u b 55 ⟨#[]⟩ false) => Pa.raw_at b ⟨#[]⟩ CG u h (by decide))
    have K2 := asd (fun (b : Nat) (u : World) (h : At u b 55 (⟨#[]⟩ ++ CG) false) => Pa.num_at b k (⟨#[]⟩ ++ CG) u h (by omega) (by decide))
    have EX : Fm.bs (fmc k) = ⟨#[]⟩ ++ CG ++ ⟨(Pa.Pk.numB k).toArray⟩ := by
      apply ByteArray.ext
      simp [Fm.bs, fmc]
    have K4 : Aside (∀ u : World, Calls Try.prog 24 #[.string (⟨#[]⟩ ++ CG ++ ⟨(Pa.Pk.numB k).toArray⟩)] u fun e w' => e = .returned (.tuple #[.string (Fm.bs (Fm.Fr.mk (fmc k))), .int .i64 0]) ∧ Below u.heap.size u w') := fun u => by
      rw [← EX]
      have hz : (Fm.bs (fmc k)).size ≤ 12 := by rw [Fm.bs_size]; omega
      have := Fm.make_any (Fm.bs (fmc k)) u (by omega)
      unfold Fm.mkS Fm.mkE at this
      rw [if_neg (by omega), if_neg (by omega), Fm.bs_list] at this
      exact this
    have A0 : Aside (At (w.alloc (.cells #[.string ⟨#[]⟩, .bool false] 55)) w.heap.size 55 ⟨#[]⟩ false) := heap_alloc_new w _
    have hba : Below w.heap.size w (w.alloc (.cells #[.string ⟨#[]⟩, .bool false] 55)) := (Below.refl _ _).alloc (Nat.le_refl _) _
    have HBA := asd hba
    clear hb h1 EX hba
    generalize (⟨#[]⟩ ++ CG ++ ⟨(Pa.Pk.numB k).toArray⟩ : ByteArray) = X at *
    generalize Fm.bs (Fm.Fr.mk (fmc k)) = F at *
    go_enter Try.func7, Try.ntmps7
    go_wp2_with (first
      | (go_at_call 23; refine kh.mono ?_; rintro e w1 ⟨rfl, rfl⟩)
      | (go_at_call 25; refine (K1.out _ _ A0.out).mono ?_; rintro e w2 ⟨rfl, A2, u2⟩; have HA2 := asd A2; have U2 := asd u2; clear A2 u2)
      | (go_at_call 26; refine (K2.out _ _ HA2.out).mono ?_; rintro e w3 ⟨rfl, A3, u3⟩; have HA3 := asd A3; have U3 := asd u3; clear A3 u3)
      | (go_at_call 27; refine (Pa.string_yes _ _ _ HA3.out.c0 HA3.out.c1).mono ?_; rintro e w4 ⟨rfl, rfl⟩)
      | (go_at_call 24; refine (K4.out _).mono ?_; rintro e w5 ⟨rfl, b5⟩))
    go_ret
    have b3 : Below w1.heap.size w1 w4 := HBA.out.trans ((U2.out.below (Nat.le_refl _) HBA.out.size).trans (U3.out.below (Nat.le_refl _) (Nat.le_trans HBA.out.size U2.out.size)))
    exact ⟨rfl, b3.trans (b5.mono b3.size)⟩
theorem refForm_any (n : Int) (w : World) : Calls Try.prog 13 #[.int .i64 n] w fun e w' => e = .returned (.string (fmS n)) ∧ Below w.heap.size w w' := by
  unfold fmS
  cases hb : hasB n with
  | false =>
    simp only [Bool.false_eq_true, if_false]
    have h9 : n < 2 ∨ 99999 < n := by
      unfold hasB at hb
      simp at hb
      omega
    by_cases h1 : n < 2
    · have q1 : decide (n < 2) = true := decide_eq_true h1
      go_enter Try.func13, Try.ntmps13
      go_wp2
      go_ret
      exact ⟨rfl, Below.refl _ _⟩
    · have q1 : decide (n < 2) = false := decide_eq_false h1
      have q2 : decide (99999 < n) = true := decide_eq_true (by omega)
      clear h9
      go_enter Try.func13, Try.ntmps13
      go_wp2
      go_ret
      exact ⟨rfl, Below.refl _ _⟩
  | true =>
    simp only [if_true]
    have h1 := hasB_iff.1 hb
    obtain ⟨k, rfl⟩ : ∃ k : Nat, n = (k : Int) := ⟨n.toNat, by omega⟩
    have hk : k ≤ 99999 := by omega
    have hl := fmc_len hk
    rw [Int.toNat_natCast]
    have EX : Fm.bs (fmc k) = CG ++ ⟨(Pa.Pk.numB k).toArray⟩ := by
      apply ByteArray.ext
      simp [Fm.bs, fmc]
    have q1 : decide ((k : Int) < 2) = false := decide_eq_false (by omega)
    have q2 : decide ((99999 : Int) < (k : Int)) = false := decide_eq_false (by omega)
    have q2' : decide (99999 < k) = false := decide_eq_false (by omega)
    have q1' : decide (k < 2) = false := decide_eq_false (by omega)
    have K1 := asd (fun (u : World) => Pa.refNum_any k u (by omega))
    have hnz := Pa.Pk.numB_len (a := k) (by omega)
    have K4 : Aside (∀ u : World, Calls Try.prog 34 #[.string (CG ++ ⟨(Pa.Pk.numB k).toArray⟩)] u fun e w' => e = .returned (.string (Fm.bs (Fm.Fr.mk (fmc k)))) ∧ Below u.heap.size u w') := fun u => by
      rw [← EX]
      have hz : (Fm.bs (fmc k)).size ≤ 12 := by rw [Fm.bs_size]; omega
      have := Fm.refMake_any (Fm.bs (fmc k)) u (by omega)
      rw [Fm.bs_list] at this
      exact this
    have hsz : (⟨(Pa.Pk.numB k).toArray⟩ : ByteArray).size ≤ 9 := by
      show ((Pa.Pk.numB k).toArray).size ≤ 9
      rw [List.size_toArray]
      omega
    clear hb h1 EX hl hnz
    generalize Fm.bs (Fm.Fr.mk (fmc k)) = F at *
    generalize (⟨(Pa.Pk.numB k).toArray⟩ : ByteArray) = Y at *
    go_enter Try.func13, Try.ntmps13
    go_wp2_with (first
      | (go_at_call 35; refine (K1.out _).mono ?_; rintro e w2 ⟨rfl, b2⟩)
      | (go_at_call 34; refine (K4.out _).mono ?_; rintro e w5 ⟨rfl, b5⟩))
    go_ret
    exact ⟨rfl, b2.trans (b5.mono b2.size)⟩
end Go.Proofs.Ytnmamaeoghgegaa

/-
  The number that a content tells.
-/
namespace Go.Proofs.Ytnmamaeoghgegaa
open Go.RowKit
set_option maxRecDepth 100000
open Pa (At Upd)
/-- Does a content tell a number? -/
def okX (x : ByteArray) : Prop := 3 ≤ x.size ∧ x.extract 0 3 = CG ∧ (Pa.Pk.headB (x.extract 3 x.size).data.toList).2 ≠ 0 ∧ (Pa.Pk.headB (x.extract 3 x.size).data.toList).1 ≤ 99999 ∧ (Pa.Pk.headB (x.extract 3 x.size).data.toList).2 + 3 = x.size
noncomputable instance (x : ByteArray) : Decidable (okX x) := Classical.propDecidable _
/-- The number that a content tells; 0: none. -/
noncomputable def numOf (x : ByteArray) : Int := if okX x then ((Pa.Pk.headB (x.extract 3 x.size).data.toList).1 : Int) else 0
theorem numOf_no {x : ByteArray} (h : ¬ okX x) : numOf x = 0 := by unfold numOf; rw [if_neg h]
theorem numOf_yes {x : ByteArray} (h : okX x) : numOf x = ((Pa.Pk.headB (x.extract 3 x.size).data.toList).1 : Int) := by unfold numOf; rw [if_pos h]
theorem ext_size (x : ByteArray) (n : Nat) : (x.extract n x.size).size = x.size - n := by simp
theorem toList_ne {a b : ByteArray} (h : ¬ a = b) : ¬ a.toList = b.toList := fun e => h (by
  rw [ByteArray.toList_eq, ByteArray.toList_eq] at e
  exact ByteArray.ext (Array.toList_inj.mp e))
theorem empty_size (x : ByteArray) : x.toList.isEmpty = decide (x.size = 0) := by
  rw [ByteArray.toList_eq]
  have e : x.data.toList.length = x.size := rfl
  cases hx : x.data.toList with
  | nil =>
    have e0 : x.size = 0 := by rw [← e, hx]; rfl
    rw [decide_eq_true e0]
    rfl
  | cons a b =>
    have e0 : ¬ x.size = 0 := by rw [← e, hx]; simp
    rw [decide_eq_false e0]
    rfl
theorem cg_list : (⟨#[99, 103, 49]⟩ : ByteArray).toList = [99, 103, 49] := by rw [ByteArray.toList_eq]
set_option maxHeartbeats 2000000 in
theorem number_any (x : ByteArray) (w : World) (hx : x.size ≤ 1000000) : Calls Try.prog 32 #[.string x] w fun e w' => e = .returned (.int .i64 (numOf x)) ∧ Below w.heap.size w w' := by
  have k75 := Pa.open_any x w
  by_cases h1 : 3 ≤ x.size
  · have K76 := asd (fun (b : Nat) (u : World) (h : At u b 114 x false) => Pa.oRaw_yes b 3 x u h h1 hx)
    by_cases h2 : x.extract 0 3 = CG
    · have hz : (x.extract 3 x.size).size = x.size - 3 := ext_size x 3
      generalize hp : Pa.Pk.headB (x.extract 3 x.size).data.toList = p at *
      have HP : Hid (p = Pa.Pk.headB (x.extract 3 x.size).data.toList) := hp.symm
      by_cases h3 : p.2 ≠ 0 ∧ p.1 ≤ 99999
      · have K77 := asd (fun (b : Nat) (u : World) (h : At u b 114 (x.extract 3 x.size) false) => Pa.oNum_yes b (x.extract 3 x.size) 99999 u h (by omega) p HP h3.1 (by omega))
        have hz2 : ((x.extract 3 x.size).extract p.2 (x.extract 3 x.size).size).toList.isEmpty = decide (p.2 + 3 = x.size) := by
          have hle := (Pa.Pk.headB_le (x.extract 3 x.size).data.toList).1
          rw [hp] at hle
          have hle2 : p.2 ≤ (x.extract 3 x.size).size := hle
          rw [empty_size, ext_size, hz, Bool.eq_iff_iff, decide_eq_true_iff, decide_eq_true_iff]
          omega
        rw [h2] at K76
        have t1 : (CG.toList == [99, 103, 49]) = true := by rw [show CG.toList = [99, 103, 49] from cg_list]; rfl
        by_cases h4 : p.2 + 3 = x.size
        · have EN := asd (numOf_yes (x := x) ⟨h1, h2, by rw [hp]; exact h3.1, by rw [hp]; exact h3.2, by rw [hp]; exact h4⟩)
          rw [hp] at EN
          rw [decide_eq_true h4] at hz2
          clear hp h1 h2 h3 h4 HP hz
          generalize x.extract 3 x.size = X3 at *
          generalize X3.extract p.2 X3.size = X4 at *
          go_enter Try.func32, Try.ntmps32
          go_wp2_with (first
            | (go_at_call 75; refine k75.mono ?_; rintro e w1 ⟨rfl, A1, b1⟩; have HA1 := asd A1; have B1 := asd b1; clear A1 b1)
            | (go_at_call 76; refine (K76.out _ _ HA1.out).mono ?_; rintro e w2 ⟨rfl, A2, u2⟩; have HA2 := asd A2; have U2 := asd u2; clear A2 u2)
            | (go_at_call 77; refine (K77.out _ _ HA2.out).mono ?_; rintro e w3 ⟨rfl, A3, u3⟩; have HA3 := asd A3; have U3 := asd u3; clear A3 u3)
            | (go_at_call 78; refine (Pa.done_at _ _ _ _ HA3.out).mono ?_; rw [hz2]; rintro e w4 ⟨rfl, rfl⟩))
          go_ret
          exact ⟨by rw [EN.out]; rfl, B1.out.trans ((U2.out.below (Nat.le_refl _) B1.out.size).trans (U3.out.below (Nat.le_refl _) (Nat.le_trans B1.out.size U2.out.size)))⟩
        · have EN := asd (numOf_no (x := x) (fun h => h4 (by rw [← hp]; exact h.2.2.2.2)))
          rw [decide_eq_false h4] at hz2
          clear hp h1 h2 h3 h4 HP hz
          generalize x.extract 3 x.size = X3 at *
          generalize X3.extract p.2 X3.size = X4 at *
          go_enter Try.func32, Try.ntmps32
          go_wp2_with (first
            | (go_at_call 75; refine k75.mono ?_; rintro e w1 ⟨rfl, A1, b1⟩; have HA1 := asd A1; have B1 := asd b1; clear A1 b1)
            | (go_at_call 76; refine (K76.out _ _ HA1.out).mono ?_; rintro e w2 ⟨rfl, A2, u2⟩; have HA2 := asd A2; have U2 := asd u2; clear A2 u2)
            | (go_at_call 77; refine (K77.out _ _ HA2.out).mono ?_; rintro e w3 ⟨rfl, A3, u3⟩; have HA3 := asd A3; have U3 := asd u3; clear A3 u3)
            | (go_at_call 78; refine (Pa.done_at _ _ _ _ HA3.out).mono ?_; rw [hz2]; rintro e w4 ⟨rfl, rfl⟩))
          go_ret
          exact ⟨by rw [EN.out]; rfl, B1.out.trans ((U2.out.below (Nat.le_refl _) B1.out.size).trans (U3.out.below (Nat.le_refl _) (Nat.le_trans B1.out.size U2.out.size)))⟩
      · have EN := asd (numOf_no (x := x) (fun h => h3 ⟨by rw [← hp]; exact h.2.2.1, by rw [← hp]; exact h.2.2.2.1⟩))
        have K77 := asd (fun (b : Nat) (u : World) (h : At u b 114 (x.extract 3 x.size) false) => Pa.oNum_no b (x.extract 3 x.size) 99999 u h (by omega) p HP (by omega))
        rw [h2] at K76
        have t1 : (CG.toList == [99, 103, 49]) = true := by rw [show CG.toList = [99, 103, 49] from cg_list]; rfl
        clear hp h1 h2 h3 HP hz
        generalize x.extract 3 x.size = X3 at *
        go_enter Try.func32, Try.ntmps32
        go_wp2_with (first
          | (go_at_call 75; refine k75.mono ?_; rintro e w1 ⟨rfl, A1, b1⟩; have HA1 := asd A1; have B1 := asd b1; clear A1 b1)
          | (go_at_call 76; refine (K76.out _ _ HA1.out).mono ?_; rintro e w2 ⟨rfl, A2, u2⟩; have HA2 := asd A2; have U2 := asd u2; clear A2 u2)
          | (go_at_call 77; refine (K77.out _ _ HA2.out).mono ?_; rintro e w3 ⟨rfl, A3, u3⟩; have HA3 := asd A3; have U3 := asd u3; clear A3 u3)
          | (go_at_call 78; refine (Pa.done_at _ _ _ _ HA3.out).mono ?_; rintro e w4 ⟨rfl, rfl⟩))
        go_ret
        exact ⟨by rw [EN.out]; rfl, B1.out.trans ((U2.out.below (Nat.le_refl _) B1.out.size).trans (U3.out.below (Nat.le_refl _) (Nat.le_trans B1.out.size U2.out.size)))⟩
    · have EN := asd (numOf_no (x := x) (fun h => h2 h.2.1))
      have t3 := toList_ne h2
      have t2 : ((x.extract 0 3).toList == [99, 103, 49]) = false := by rw [beq_eq_false_iff_ne, ← cg_list]; exact t3
      clear h1 h2
      generalize x.extract 0 3 = X0 at *
      go_enter Try.func32, Try.ntmps32
      go_wp2_with (first
        | (go_at_call 75; refine k75.mono ?_; rintro e w1 ⟨rfl, A1, b1⟩; have HA1 := asd A1; have B1 := asd b1; clear A1 b1)
        | (go_at_call 76; refine (K76.out _ _ HA1.out).mono ?_; rintro e w2 ⟨rfl, A2, u2⟩; have HA2 := asd A2; have U2 := asd u2; clear A2 u2))
      go_ret
      exact ⟨by rw [EN.out]; rfl, B1.out.trans (U2.out.below (Nat.le_refl _) B1.out.size)⟩
  · have EN := asd (numOf_no (x := x) (fun h => h1 h.1))
    have K76 := asd (fun (b : Nat) (u : World) (h : At u b 114 x false) => Pa.oRaw_no b x 3 u h (by decide) (by omega))
    clear h1
    go_enter Try.func32, Try.ntmps32
    go_wp2_with (first
      | (go_at_call 75; refine k75.mono ?_; rintro e w1 ⟨rfl, A1, b1⟩; have HA1 := asd A1; have B1 := asd b1; clear A1 b1)
      | (go_at_call 76; refine (K76.out _ _ HA1.out).mono ?_; rintro e w2 ⟨rfl, A2, u2⟩; have HA2 := asd A2; have U2 := asd u2; clear A2 u2))
    go_ret
    exact ⟨by rw [EN.out]; rfl, B1.out.trans (U2.out.below (Nat.le_refl _) B1.out.size)⟩
end Go.Proofs.Ytnmamaeoghgegaa
