/-
  The pieces of a file are forgotten.
-/
import Derived.Test.YtblhkhgcaheplaaGreatDoorDW3
namespace Go.Proofs.YtblhkhgcaheplaaGreatDoor.Dk
open Go.RowKit
set_option maxRecDepth 100000

theorem eq_bytes (a b : ByteArray) : (a.toList == b.toList) = decide (cmp a b = 0) := by
  rw [ByteArray.toList_eq, ByteArray.toList_eq, Bool.eq_iff_iff, beq_iff_eq, decide_eq_true_iff, cmp_zero]
  exact ⟨ba_ext, fun h => by rw [h]⟩

/-- Is a piece of that name? -/
def isOf (n : ByteArray) (p : Pc) : Bool := decide (cmp p.name n = 0)

theorem forgetIs_any (p : Pc) (n : ByteArray) (bx : Nat) (w : World) (hc : w.cell? ⟨bx, 0, none⟩ = some (.string n)) :
    Calls Tryz.prog 76 #[.agg #[.string p.name, .int .i64 (p.size : Int)], .pointer (some ⟨bx, 0, none⟩)] w fun e w' => e = .returned (.bool (isOf n p)) ∧ w' = w.alloc (.cells #[.string p.name, .int .i64 (p.size : Int)] 54) := by
  have hb := eq_bytes p.name n
  have hlt := World.block_lt_of_cell? w _ hc
  have hc' : (w.alloc (.cells #[.string p.name, .int .i64 (p.size : Int)] 54)).cell? ⟨bx, 0, none⟩ = some (.string n) := cell_below hc ((Below.refl _ _).alloc (Nat.le_refl _) _)
  have F : Aside (isOf n p = (p.name.toList == n.toList)) := by
    show isOf n p = _
    rw [hb]; rfl
  clear hb
  go_enter Tryz.func76, Tryz.ntmps76
  go_wp2
  go_ret
  exact ⟨by rw [F.out]; rfl, rfl⟩

/-- The place of the first piece of that name, or one below 0. -/
def firstOf (n : ByteArray) (l : List Pc) : Int := if (l.any (isOf n)) then ((l.findIdx (isOf n) : Nat) : Int) else -1

theorem getbang {α : Type} [Inhabited α] (l : List α) (i : Nat) (h : i < l.length) : l[i]? = some l[i]! := by
  rw [getElem!_pos l i h]
  exact List.getElem?_eq_getElem h

theorem row_cells {w : World} {B : Nat} {a : Option Addr} {m cap : Nat} {l : List Pc} (h : w.ownsRow B 54 2 (.slice a m cap) l.length (l.flatMap Pc.cells)) : ∀ t, t < l.length → ∃ g, a = some ⟨g, 0, none⟩ ∧ w.cell? ⟨g, t * 2, none⟩ = some (.string l[t]!.name) ∧ w.cell? ⟨g, t * 2 + 1, none⟩ = some (.int .i64 (l[t]!.size : Int)) := by
  intro t ht
  obtain ⟨g, c', e, _, _, hg⟩ := own_form h (by omega)
  obtain ⟨c0, c1⟩ := flat_at2 (getbang l t ht)
  injection e with e1 e2 e3
  exact ⟨g, e1, own_cell h hg c0, own_cell h hg c1⟩

set_option maxHeartbeats 1600000 in
theorem indexFunc_any (B bx : Nat) (v : Value) (l : List Pc) (n : ByteArray) (w : World) (h : w.ownsRow B 54 2 v l.length (l.flatMap Pc.cells)) (hl : l.length ≤ 100000) (hx : w.cell? ⟨bx, 0, none⟩ = some (.string n)) :
    Calls Tryz.prog 89 #[v, .func (.func 76) #[] #[.pointer (some ⟨bx, 0, none⟩)]] w fun e w' => e = .returned (.int .i64 (firstOf n l)) ∧ Below w.heap.size w w' := by
  obtain ⟨a, cap, rfl⟩ := own_any h
  have hc : Aside (∀ t, t < l.length → ∃ g, a = some ⟨g, 0, none⟩ ∧ w.cell? ⟨g, t * 2, none⟩ = some (.string l[t]!.name) ∧ w.cell? ⟨g, t * 2 + 1, none⟩ = some (.int .i64 (l[t]!.size : Int))) := row_cells h
  clear h
  go_enter Tryz.func89, Tryz.ntmps89
  go_wp2
  go_loopg [8] l.length (fun gh s wr => ∃ k : Nat, l.length - k ≤ gh ∧ k ≤ l.length ∧ s = .int .i64 (k : Int) ∧ Below w.heap.size w wr ∧ Aside (∀ i, i < k → isOf n l[i]! = false))
  case atStart => exact ⟨0, by omega, by omega, rfl, Below.refl _ _, (fun i hi => absurd hi (Nat.not_lt_zero _) : ∀ i, i < 0 → isOf n l[i]! = false)⟩
  case round =>
    obtain ⟨k, hgh, hk, rfl, hb, I⟩ := hrel
    have hsz := hb.size
    by_cases hlt : k < l.length
    · have d3 : decide (k < l.length) = true := by simpa using hlt
      obtain ⟨g, rfl, e0, e1⟩ := hc.out k hlt
      replace e0 := cell_below e0 hb
      replace e1 := cell_below e1 hb
      have hx' := cell_below hx hb
      have hk := forgetIs_any l[k]! n bx wr hx'
      cases hq : isOf n l[k]! with
      | true =>
        rw [hq] at hk
        have F : Aside (firstOf n l = (k : Int)) := by
          show firstOf n l = (k : Int)
          have ha : l.any (isOf n) = true := List.any_eq_true.2 ⟨l[k]!, List.mem_of_getElem? (getbang l k hlt), hq⟩
          have hf : l.findIdx (isOf n) = k := by
            rw [List.findIdx_eq hlt]
            refine ⟨by rw [← getElem!_pos l k hlt]; exact hq, fun j hj => ?_⟩
            have := I.out j hj
            rwa [getElem!_pos l j (by omega)] at this
          rw [firstOf, if_pos ha, hf]
        generalize l[k]! = y at *
        go_wp2_with (go_at_call 76; refine hk.mono ?_; rintro e w' ⟨rfl, rfl⟩)
        go_ret
        exact ⟨by rw [F.out]; rfl, hb.alloc hsz _⟩
      | false =>
        rw [hq] at hk
        have HQ : Aside (isOf n l[k]! = false) := hq
        clear hq
        generalize hy : l[k]! = y at e0 e1 hk
        clear hy
        go_wp2_with (go_at_call 76; refine hk.mono ?_; rintro e w' ⟨rfl, rfl⟩)
        go_roundg (l.length - (k + 1))
        case measure => omega
        case rel =>
          have I2 : Aside (∀ i, i < k + 1 → isOf n l[i]! = false) := fun i hi => by
            by_cases h : i = k
            · subst h; exact HQ.out
            · exact I.out i (by omega)
          exact ⟨k + 1, Nat.le_refl _, by omega, by go_num, hb.alloc hsz _, I2⟩
    · have d3 : decide (k < l.length) = false := by simpa using hlt
      have F : Aside (firstOf n l = -1) := by
        show firstOf n l = -1
        have ha : ¬ l.any (isOf n) = true := by
          rw [List.any_eq_true]
          rintro ⟨x, hx, hp⟩
          obtain ⟨i, hi, rfl⟩ := List.getElem_of_mem hx
          have := I.out i (by omega)
          rw [getElem!_pos l i hi] at this
          rw [this] at hp
          cases hp
        rw [firstOf, if_neg ha]
      go_wp2
      go_ret
      exact ⟨by rw [F.out]; rfl, hb⟩
end Go.Proofs.YtblhkhgcaheplaaGreatDoor.Dk
