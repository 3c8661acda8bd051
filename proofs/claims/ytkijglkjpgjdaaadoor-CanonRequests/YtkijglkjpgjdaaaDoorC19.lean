/-
  A request with its forms, as the program tells it.
-/
import Derived.Test.YtkijglkjpgjdaaaDoorC18
namespace Go.Proofs.YtkijglkjpgjdaaaDoor
open Go.RowKit

/-- With other texts in two places. -/
def put2 (r : Req) (X Y : ByteArray) : Req := { r with method := X, path := Y }

theorem RB.put {r z : Req} {w u : World} (h : RB r z w u) (X Y : ByteArray) : RB (put2 r X Y) z w ((u.setCell ⟨w.heap.size, 4, none⟩ (.string X)).setCell ⟨w.heap.size, 5, none⟩ (.string Y)) := by
  refine ⟨?_, ?_, ?_⟩
  · have := (h.r.set 4 (.string X)).set 5 (.string Y)
    exact this
  · exact (h.z.other (a := ⟨w.heap.size, 4, none⟩) (by show w.heap.size + 1 ≠ w.heap.size; omega) _).other (a := ⟨w.heap.size, 5, none⟩) (by show w.heap.size + 1 ≠ w.heap.size; omega) _
  · exact (h.bel.setCell (by exact Nat.le_refl _) _).setCell (by exact Nat.le_refl _) _

theorem RB.row {r z z' : Req} {w u : World} (h : RB r z w u) : RB r z' w (u.setRow (w.heap.size + 1) (rc z')) :=
  ⟨(setRow_other _ _ _ _ (by omega)).trans h.r, h.z.row, Ha.below_row h.bel (by omega) _⟩

set_option maxHeartbeats 1600000 in
set_option maxRecDepth 100000 in
theorem request_yes (r : Req) (w : World) (X Y : ByteArray)
    (k1 : Aside (∀ u : World, Calls Tryd.prog 10 #[.string r.method] u fun e w' => e = .returned (.tuple #[.string X, .bool true]) ∧ Below u.heap.size u w'))
    (k2 : Aside (∀ u : World, Calls Tryd.prog 8 #[.string r.path] u fun e w' => e = .returned (.tuple #[.string Y, .bool true]) ∧ Below u.heap.size u w'))
    (h : restOK r = true) :
    Calls Tryd.prog 16 #[.agg (rc r)] w fun e w' => e = .returned (optR (some (put2 r X Y))) ∧ Below w.heap.size w w' := by
  have k3 : Aside (∀ u : World, _) := fun u => key_any r.key u
  have k4 : Aside (∀ u : World, _) := fun u => numbersOK_any r u
  have H0 : Aside (RB r zeroR w (made r w)) := RB.first r w
  unfold restOK at h
  generalize key r.key = G at *
  generalize nums r = Nm at *
  have r4 : (rc r)[4]? = some (.string r.method) := rfl
  have r5 : (rc r)[5]? = some (.string r.path) := rfl
  have h5 : r.body.size ≤ 80 ∧ G = true ∧ Nm = true := by
    simp at h
    exact ⟨h.1.2, h.1.1, h.2⟩
  obtain ⟨h5, rfl, rfl⟩ := h5
  have d5 : decide (80 < (r.body.size : Int)) = false := by simp; omega
  clear h
  go_enter Tryd.func16, Tryd.ntmps16
  go_wp2_with (first
    | (go_at_call 10; refine (k1.out _).mono ?_; rintro e w1 ⟨rfl, hb1⟩; have R1 : Aside (RB r zeroR w w1) := H0.out.next hb1; have c5 := R1.out.cell 5 (.string r.path) rfl; clear hb1)
    | (go_at_call 8; refine (k2.out _).mono ?_; rintro e w2 ⟨rfl, hb2⟩; have R2 : Aside (RB r zeroR w w2) := R1.out.next hb2; have c3 := R2.out.cell 3 (.string r.key) rfl; clear hb2 c5)
    | (go_at_call 12; refine (k3.out _).mono ?_; rintro e w3 ⟨rfl, hb3⟩; have R3 : Aside (RB r zeroR w w3) := R2.out.next hb3; have c6 := R3.out.cell 6 (.string r.body) rfl; clear hb3 c3; have g0 := R3.out.cell 0 (.int .i64 r.client) rfl; have g1 := R3.out.cell 1 (.int .i64 r.serial) rfl; have g2 := R3.out.cell 2 (.int .i64 r.tenant) rfl; have g3 := R3.out.cell 3 (.string r.key) rfl; have g4 := R3.out.cell 4 (.string r.method) rfl; have g5 := R3.out.cell 5 (.string r.path) rfl)
    | (go_at_call 34; refine (k4.out _).mono ?_; rintro e w4 ⟨rfl, hb4⟩; have R4 : Aside (RB r zeroR w w4) := R3.out.next hb4; clear hb4 c6 g0 g1 g2 g3 g4 g5; have f4 := R4.out.r.frozen 4; have f5 := R4.out.r.frozen 5; have j4 := R4.out.cell 4 (.string r.method) rfl; have j5 := R4.out.cell 5 (.string r.path) rfl; have R5 : Aside (RB (put2 r X Y) zeroR w ((w4.setCell ⟨w.heap.size, 4, none⟩ (.string X)).setCell ⟨w.heap.size, 5, none⟩ (.string Y))) := R4.out.put X Y)
    | (refine wpList_load_row rfl 30 _ rfl _ rfl 30 _ (0, 0) _ R5.out.r Tryd.underlying30 rfl (sz30 (put2 r X Y)) ?_)
    | (refine wpList_store_row rfl 30 _ _ rfl _ _ rfl rfl 30 _ R5.out.z (sz30 (put2 r X Y)) rfl (rc_one (put2 r X Y)) ?_))
  have R6 := R5.out.row (z' := put2 r X Y)
  refine bodyPost_ret (v := optR (some (put2 r X Y))) (results_mix Tryd.results16 _ _ ⟨w.heap.size + 1, 0, none⟩ _ _ rfl rfl (run_loadVar_row _ _ 30 30 _ (0, 0) _ R6.z Tryd.underlying30 rfl (sz30 (put2 r X Y)))) rfl ⟨rfl, ?_⟩
  exact R6.bel

theorem reqO_is (r : Req) (m p : List UInt8) (hm : Cn.meth r.method.data.toList = some m) (hp : pathO r.path = some p) (h : restOK r = true) : reqO r = some (put2 r (txt m) (txt p)) := by
  unfold reqO
  rw [hm, hp]
  dsimp only
  rw [if_pos h]
  rfl

theorem reqO_no (r : Req) (h : Cn.meth r.method.data.toList = none ∨ pathO r.path = none ∨ restOK r = false) : reqO r = none := by
  unfold reqO
  cases hm : Cn.meth r.method.data.toList with
  | none => rfl
  | some m =>
    cases hp : pathO r.path with
    | none => rfl
    | some p =>
      rw [hm, hp] at h
      have : restOK r = false := by
        rcases h with h | h | h
        · cases h
        · cases h
        · exact h
      simp [this]

/-- The two parts of what 'opt' holds. -/
def optS (o : Option (List UInt8)) : ByteArray := match o with
  | none => ⟨#[]⟩
  | some l => txt l
theorem opt_is (o : Option (List UInt8)) : opt o = .tuple #[.string (optS o), .bool o.isSome] := by
  cases o <;> rfl

theorem request_any (r : Req) (w : World) (hs : r.method.size ≤ 1000000) :
    Calls Tryd.prog 16 #[.agg (rc r)] w fun e w' => e = .returned (optR (reqO r)) ∧ Below w.heap.size w w' := by
  have k1 : Aside (∀ u : World, Calls Tryd.prog 10 #[.string r.method] u fun e w' => e = .returned (.tuple #[.string (optS (Cn.meth r.method.data.toList)), .bool (Cn.meth r.method.data.toList).isSome]) ∧ Below u.heap.size u w') := fun u => by
    rw [← opt_is]
    exact method_any r.method u hs
  have k2 : Aside (∀ u : World, Calls Tryd.prog 8 #[.string r.path] u fun e w' => e = .returned (.tuple #[.string (optS (pathO r.path)), .bool (pathO r.path).isSome]) ∧ Below u.heap.size u w') := fun u => by
    rw [← opt_is]
    exact path_any r.path u
  by_cases h : Cn.meth r.method.data.toList = none ∨ pathO r.path = none ∨ restOK r = false
  · rw [reqO_no r h]
    refine request_no r w _ _ _ _ k1 k2 ?_
    rcases h with h | h | h
    · exact .inl (by rw [h]; rfl)
    · exact .inr (.inl (by rw [h]; rfl))
    · exact .inr (.inr h)
  · cases hm : Cn.meth r.method.data.toList with
    | none => exact absurd (.inl hm) h
    | some m =>
      cases hp : pathO r.path with
      | none => exact absurd (.inr (.inl hp)) h
      | some p =>
        have hr : restOK r = true := by
          cases hr : restOK r with
          | true => rfl
          | false => exact absurd (.inr (.inr hr)) h
        rw [reqO_is r m p hm hp hr]
        rw [hm] at k1
        rw [hp] at k2
        exact request_yes r w (txt m) (txt p) k1 k2 hr
end Go.Proofs.YtkijglkjpgjdaaaDoor
