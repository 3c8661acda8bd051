/-
  JsonOrder's walk.
-/
import Derived.Test.YtpeioecpilmpiaaGreatDoorMF35
import Derived.WalkKit
import Derived.WalkSpells
import Derived.WalkLawsBesides
import Derived.Deep.LoopGhost
import Derived.Laws.Externs
import Derived.Below
import Derived.BigQuiet
import Derived.Deep.RegionWith
import Derived.OwnWalk
import Derived.Maps.AppendAt
import Derived.WalkSmall
namespace Go.Proofs.YtpeioecpilmpiaaGreatDoor
open Go.RowKit
theorem ofP_flt {b : Js.B} {X : Js.X} {E : Nat} (h : ofP b = (X, E)) : E ≤ 10 ∧ (E = 0 → Js.of b = .ok X) := by
  unfold ofP at h
  cases hof : Js.of b with
  | error e =>
    rw [hof] at h
    simp only [Prod.mk.injEq] at h
    have := Js.of_flt b e hof
    exact ⟨by omega, fun h0 => by omega⟩
  | ok x =>
    rw [hof] at h
    simp only [Prod.mk.injEq] at h
    exact ⟨by omega, fun _ => by rw [h.1]⟩
theorem order_long (a b : ByteArray) (w : World) (hs : 200 < a.size ∨ 200 < b.size) (hV : Vars w) :
    Calls Tryz.prog 6 #[.string a, .string b] w fun e w' => e = .returned (.bool true) ∧ Below w.heap.size w w' := by
  have k0 := awake_any w hV
  clear hV
  by_cases h1 : 200 < a.size
  · have d1 : decide (200 < (a.size : Int)) = true := by simp; omega
    go_enter Tryz.func6, Tryz.ntmps6
    go_wp2_with (go_at_call 7; refine k0.mono ?_; rintro e w1 ⟨rfl, hb1⟩; clear k0)
    go_ret
    exact ⟨rfl, hb1⟩
  · have d1 : decide (200 < (a.size : Int)) = false := by simp; omega
    have d2 : decide (200 < (b.size : Int)) = true := by simp; omega
    go_enter Tryz.func6, Tryz.ntmps6
    go_wp2_with (go_at_call 7; refine k0.mono ?_; rintro e w1 ⟨rfl, hb1⟩; clear k0)
    go_ret
    exact ⟨rfl, hb1⟩
set_option maxHeartbeats 2000000 in
set_option maxRecDepth 100000 in
/-- One of both is no value. -/
theorem order_bad (a b : ByteArray) (w : World) (ha : a.size ≤ 200) (hb : b.size ≤ 200) (hV : Vars w) (X Y : Js.X) (E F : Nat) (hx : ofP a.data.toList = (X, E)) (hy : ofP b.data.toList = (Y, F)) (hne : E ≠ 0 ∨ F ≠ 0) :
    Calls Tryz.prog 6 #[.string a, .string b] w fun e w' => e = .returned (.bool true) ∧ Below w.heap.size w w' := by
  have k0 := awake_any w hV
  have HV := asd hV
  have VV := asd (fun (u : World) (hb : Below w.heap.size w u) => HV.out.below hb)
  have d1 : decide (200 < (a.size : Int)) = false := by simp; omega
  have d2 : decide (200 < (b.size : Int)) = false := by simp; omega
  have kA : Aside (∀ u : World, Vars u → Calls Tryz.prog 8 #[.string a] u fun e w' => e = .returned (.tuple #[.string (bs X.form), .int .i64 (E : Int)]) ∧ Below u.heap.size u w') := fun u hu => by
    have h := Form_any a u (by omega) hu
    rw [formP_of, hx] at h
    exact h
  have kB : Aside (∀ u : World, Vars u → Calls Tryz.prog 8 #[.string b] u fun e w' => e = .returned (.tuple #[.string (bs Y.form), .int .i64 (F : Int)]) ∧ Below u.heap.size u w') := fun u hu => by
    have h := Form_any b u (by omega) hu
    rw [formP_of, hy] at h
    exact h
  have fA := asd (fun u => Fault_is a X E hx u (by omega))
  have fB := asd (fun u => Fault_is b Y F hy u (by omega))
  have hE := (ofP_flt hx).1
  have hF := (ofP_flt hy).1
  have TA := asd trivial
  have TB := asd trivial
  have s0 : (((E : Int) + (F : Int)) != 0) = true := by rw [bne_iff_ne]; omega
  have s0' : ¬ ((E : Int) + (F : Int) = 0) := by omega
  clear hV hx hy
  by_cases he : E = 0
  · have t1 : ((E : Int) != 0) = false := by rw [bne_eq_false_iff_eq]; omega
    have t1' : ((E : Int) == 0) = true := by rw [beq_iff_eq]; omega
    have t2 : ((F : Int) != 0) = true := by rw [bne_iff_ne]; omega
    have t2' : ((F : Int) == 0) = false := by rw [beq_eq_false_iff_ne]; omega
    have t2'' : ¬ ((F : Int) = 0) := by omega
    clear hne
    go_enter Tryz.func6, Tryz.ntmps6
    go_wp2_with (first
      | (go_at_call 7; refine k0.mono ?_; rintro e w1 ⟨rfl, hb1⟩; clear k0)
      | (clear TA; go_at_call 8; refine (kA.out _ (VV.out _ hb1)).mono ?_; rintro e w2 ⟨rfl, hb2⟩; have B2 := asd (hb1.trans (hb2.mono hb1.size)); clear kA hb1 hb2)
      | (clear TB; go_at_call 8; refine (kB.out _ (VV.out _ B2.out)).mono ?_; rintro e w3 ⟨rfl, hb3⟩; have B3 := asd (B2.out.trans (hb3.mono B2.out.size)); clear kB hb3 B2)
      | (go_at_call 20; refine (fA.out _).mono ?_; rintro e w4 ⟨rfl, hb4⟩; have B4 := asd (B3.out.trans (hb4.mono B3.out.size)); clear fA hb4 B3)
      | (go_at_call 20; refine (fB.out _).mono ?_; rintro e w5 ⟨rfl, hb5⟩; have B5 := asd (B4.out.trans (hb5.mono B4.out.size)); clear fB hb5 B4))
    go_ret
    exact ⟨rfl, B5.out⟩
  · have t1 : ((E : Int) != 0) = true := by rw [bne_iff_ne]; omega
    have t1' : ((E : Int) == 0) = false := by rw [beq_eq_false_iff_ne]; omega
    have t1'' : ¬ ((E : Int) = 0) := by omega
    clear hne
    go_enter Tryz.func6, Tryz.ntmps6
    go_wp2_with (first
      | (go_at_call 7; refine k0.mono ?_; rintro e w1 ⟨rfl, hb1⟩; clear k0)
      | (clear TA; go_at_call 8; refine (kA.out _ (VV.out _ hb1)).mono ?_; rintro e w2 ⟨rfl, hb2⟩; have B2 := asd (hb1.trans (hb2.mono hb1.size)); clear kA hb1 hb2)
      | (clear TB; go_at_call 8; refine (kB.out _ (VV.out _ B2.out)).mono ?_; rintro e w3 ⟨rfl, hb3⟩; have B3 := asd (B2.out.trans (hb3.mono B2.out.size)); clear kB hb3 B2)
      | (go_at_call 20; refine (fA.out _).mono ?_; rintro e w4 ⟨rfl, hb4⟩; have B4 := asd (B3.out.trans (hb4.mono B3.out.size)); clear fA hb4 B3)
      | (go_at_call 20; refine (fB.out _).mono ?_; rintro e w5 ⟨rfl, hb5⟩; have B5 := asd (B4.out.trans (hb5.mono B4.out.size)); clear fB hb5 B4))
    go_ret
    exact ⟨rfl, B5.out⟩
set_option maxHeartbeats 2000000 in
set_option maxRecDepth 100000 in
/-- Both are. -/
theorem order_good (a b : ByteArray) (w : World) (ha : a.size ≤ 200) (hb : b.size ≤ 200) (hV : Vars w) (X Y : Js.X) (hx : ofP a.data.toList = (X, 0)) (hy : ofP b.data.toList = (Y, 0)) :
    Calls Tryz.prog 6 #[.string a, .string b] w fun e w' => e = .returned (.bool true) ∧ Below w.heap.size w w' := by
  have k0 := awake_any w hV
  have HV := asd hV
  have VV := asd (fun (u : World) (hb : Below w.heap.size w u) => HV.out.below hb)
  have d1 : decide (200 < (a.size : Int)) = false := by simp; omega
  have d2 : decide (200 < (b.size : Int)) = false := by simp; omega
  have kA : Aside (∀ u : World, Vars u → Calls Tryz.prog 8 #[.string a] u fun e w' => e = .returned (.tuple #[.string (bs X.form), .int .i64 0]) ∧ Below u.heap.size u w') := fun u hu => by
    have h := Form_any a u (by omega) hu
    rw [formP_of, hx] at h
    exact h
  have kB : Aside (∀ u : World, Vars u → Calls Tryz.prog 8 #[.string b] u fun e w' => e = .returned (.tuple #[.string (bs Y.form), .int .i64 0]) ∧ Below u.heap.size u w') := fun u hu => by
    have h := Form_any b u (by omega) hu
    rw [formP_of, hy] at h
    exact h
  obtain ⟨_, l1, g1⟩ := Js.of_bd _ _ ((ofP_flt hx).2 rfl)
  obtain ⟨_, l2, g2⟩ := Js.of_bd _ _ ((ofP_flt hy).2 rfl)
  have za : (bs X.form).size ≤ 200 := by rw [bs_size]; exact Nat.le_trans l1 ha
  have zb : (bs Y.form).size ≤ 200 := by rw [bs_size]; exact Nat.le_trans l2 hb
  have T1 : (⟨#[123, 34, 120, 34, 58]⟩ ++ bs X.form ++ ⟨#[44, 34, 121, 34, 58, 32]⟩ ++ bs Y.form ++ ⟨#[125]⟩ : ByteArray).data.toList = [123, 34, 120, 34, 58] ++ X.form ++ [44, 34, 121, 34, 58, 32] ++ Y.form ++ [125] := by simp [ByteArray.data_append]
  have T2 : (⟨#[123, 34, 121, 34, 32, 58]⟩ ++ bs Y.form ++ ⟨#[44, 34, 120, 34, 58]⟩ ++ bs X.form ++ ⟨#[125]⟩ : ByteArray).data.toList = [123, 34, 121, 34, 32, 58] ++ Y.form ++ [44, 34, 120, 34, 58] ++ X.form ++ [125] := by simp [ByteArray.data_append]
  have y1 : (⟨#[123, 34, 120, 34, 58]⟩ : ByteArray).size = 5 := rfl
  have y2 : (⟨#[44, 34, 121, 34, 58, 32]⟩ : ByteArray).size = 6 := rfl
  have y3 : (⟨#[125]⟩ : ByteArray).size = 1 := rfl
  have y4 : (⟨#[123, 34, 121, 34, 32, 58]⟩ : ByteArray).size = 6 := rfl
  have y5 : (⟨#[44, 34, 120, 34, 58]⟩ : ByteArray).size = 5 := rfl
  have kC := asd (fun (u : World) (hu : Vars u) => Form_any (⟨#[123, 34, 120, 34, 58]⟩ ++ bs X.form ++ ⟨#[44, 34, 121, 34, 58, 32]⟩ ++ bs Y.form ++ ⟨#[125]⟩) u (by simp only [ByteArray.size_append]; omega) hu)
  have kD := asd (fun (u : World) (hu : Vars u) => Form_any (⟨#[123, 34, 121, 34, 32, 58]⟩ ++ bs Y.form ++ ⟨#[44, 34, 120, 34, 58]⟩ ++ bs X.form ++ ⟨#[125]⟩) u (by simp only [ByteArray.size_append]; omega) hu)
  rw [T1] at kC
  rw [T2] at kD
  have EQ : formP ([123, 34, 120, 34, 58] ++ X.form ++ [44, 34, 121, 34, 58, 32] ++ Y.form ++ [125]) = formP ([123, 34, 121, 34, 32, 58] ++ Y.form ++ [44, 34, 120, 34, 58] ++ X.form ++ [125]) := by
    unfold formP
    rw [Js.of_order X Y g1 g2]
  rw [EQ] at kC
  clear hV hx hy T1 T2 EQ l1 l2 g1 g2 y1 y2 y3 y4 y5
  generalize formP _ = R at *
  have n1 : ((R.2 : Int) == (R.2 : Int)) = true := beq_self_eq_true _
  have n2 : ((bs R.1).toList == (bs R.1).toList) = true := beq_self_eq_true _
  generalize bs X.form = P at *
  generalize bs Y.form = Q at *
  have TA := asd trivial
  have TB := asd trivial
  have TC := asd trivial
  go_enter Tryz.func6, Tryz.ntmps6
  go_wp2_with (first
    | (go_at_call 7; refine k0.mono ?_; rintro e w1 ⟨rfl, hb1⟩; clear k0)
    | (clear TA; go_at_call 8; refine (kA.out _ (VV.out _ hb1)).mono ?_; rintro e w2 ⟨rfl, hb2⟩; have B2 := asd (hb1.trans (hb2.mono hb1.size)); clear kA hb1 hb2)
    | (clear TB; go_at_call 8; refine (kB.out _ (VV.out _ B2.out)).mono ?_; rintro e w3 ⟨rfl, hb3⟩; have B3 := asd (B2.out.trans (hb3.mono B2.out.size)); clear kB hb3 B2)
    | (clear TC; go_at_call 8; refine (kC.out _ (VV.out _ B3.out)).mono ?_; rintro e w4 ⟨rfl, hb4⟩; have B4 := asd (B3.out.trans (hb4.mono B3.out.size)); clear kC hb4 B3)
    | (go_at_call 8; refine (kD.out _ (VV.out _ B4.out)).mono ?_; rintro e w5 ⟨rfl, hb5⟩; have B5 := asd (B4.out.trans (hb5.mono B4.out.size)); clear kD hb5 B4))
  go_ret
  exact ⟨rfl, B5.out⟩
theorem order_any (a b : ByteArray) (w : World) (hV : Vars w) :
    Calls Tryz.prog 6 #[.string a, .string b] w fun e w' => e = .returned (.bool true) ∧ Below w.heap.size w w' := by
  by_cases h : 200 < a.size ∨ 200 < b.size
  · exact order_long a b w h hV
  · obtain ⟨X, E, hx⟩ : ∃ X E, ofP a.data.toList = (X, E) := ⟨_, _, rfl⟩
    obtain ⟨Y, F, hy⟩ : ∃ X E, ofP b.data.toList = (X, E) := ⟨_, _, rfl⟩
    by_cases hne : E ≠ 0 ∨ F ≠ 0
    · exact order_bad a b w (by omega) (by omega) hV X Y E F hx hy hne
    · obtain rfl : E = 0 := by omega
      obtain rfl : F = 0 := by omega
      exact order_good a b w (by omega) (by omega) hV X Y hx hy
end Go.Proofs.YtpeioecpilmpiaaGreatDoor
