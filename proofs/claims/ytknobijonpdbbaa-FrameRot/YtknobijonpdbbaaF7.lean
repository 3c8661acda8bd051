/-
  Texts side by side; the first few calls of each statement answer true.
-/
import Derived.Test.YtknobijonpdbbaaF6
namespace Go.Proofs.Ytknobijonpdbbaa
open Go.RowKit
/-- What a slice of texts holds. -/
def Strs (B : Nat) (v : Value) (l : List ByteArray) (w : World) : Prop :=
  ∃ a c, v = .slice a l.length c ∧ ∀ j, j < l.length → ∃ g o, a = some ⟨g, o, none⟩ ∧ g < B ∧ w.cell? ⟨g, o + j, none⟩ = some (.string (l.getD j ⟨#[]⟩))

theorem Strs.of_own {w : World} {base : Nat} {v : Value} {l : List ByteArray} (h : w.ownsRow base 9 1 v l.length (cellsS l)) : Strs w.heap.size v l w := by
  rcases h.2 with ⟨rfl, h0⟩ | ⟨g, cap, cur, rfl, hg, hh, _⟩
  · have : l = [] := List.eq_nil_of_length_eq_zero h0
    subst this
    exact ⟨none, 0, rfl, fun j hj => absurd hj (by simp)⟩
  · refine ⟨_, cap, rfl, fun j hj => ⟨g, 0, rfl, (Array.getElem?_eq_some_iff.1 hh).1, ?_⟩⟩
    rw [Nat.zero_add, h.cellAt j (by omega)]
    simp [cellsS, List.getD, List.getElem?_eq_getElem hj]

theorem Strs.later {B : Nat} {v : Value} {l : List ByteArray} {w u : World} (h : Strs B v l w) (hb : Below B w u) : Strs B v l u := by
  obtain ⟨a, c, h1, h2⟩ := h
  refine ⟨a, c, h1, fun j hj => ?_⟩
  obtain ⟨g, o, h3, h4, h5⟩ := h2 j hj
  exact ⟨g, o, h3, h4, by rw [hb.cell (by exact h4)]; exact h5⟩
theorem Strs.wider {B C : Nat} {v : Value} {l : List ByteArray} {w : World} (h : Strs B v l w) (hb : B ≤ C) : Strs C v l w := by
  obtain ⟨a, c, h1, h2⟩ := h
  refine ⟨a, c, h1, fun j hj => ?_⟩
  obtain ⟨g, o, h3, h4, h5⟩ := h2 j hj
  exact ⟨g, o, h3, Nat.lt_of_lt_of_le h4 hb, h5⟩

set_option maxHeartbeats 800000 in
theorem same_yes (v1 v2 : Value) (l : List ByteArray) (w : World) (h1 : Strs w.heap.size v1 l w) (h2 : Strs w.heap.size v2 l w) (hl : l.length ≤ 1000000) :
    Calls Try.prog 13 #[v1, v2] w fun e w' => e = .returned (.bool true) ∧ Below w.heap.size w w' := by
  obtain ⟨a1, c1, rfl, hc1⟩ := h1
  obtain ⟨a2, c2, rfl, hc2⟩ := h2
  go_enter Try.func13, Try.ntmps13
  go_wp2
  go_loopg [13] l.length (fun gh s13 wr => ∃ k : Nat, l.length - k ≤ gh ∧ k ≤ l.length ∧ s13 = .int .i64 (k : Int) ∧ Below w.heap.size w wr)
  case atStart => exact ⟨0, by omega, by omega, rfl, Below.refl _ _⟩
  case round =>
    obtain ⟨k, hgh, hk, rfl, hbw⟩ := hrel
    by_cases hp : k < l.length
    · obtain ⟨g1, o1, rfl, hg1, hcell1⟩ := hc1 k hp
      obtain ⟨g2, o2, rfl, hg2, hcell2⟩ := hc2 k hp
      rw [← hbw.cell (by exact hg1)] at hcell1
      rw [← hbw.cell (by exact hg2)] at hcell2
      have dk : decide (k < l.length) = true := by simpa using hp
      generalize l.getD k ⟨#[]⟩ = X at *
      clear hc1 hc2
      go_wp2
      go_quiet (fail)
      go_wp2
      go_roundg (l.length - (k + 1))
      case measure => omega
      case rel => exact ⟨k + 1, Nat.le_refl _, by omega, by go_num, below_drewN hbw _⟩
    · obtain rfl : k = l.length := by omega
      have dk : decide (l.length < l.length) = false := by simp
      clear hc1 hc2
      go_wp2
      go_ret
      exact ⟨rfl, hbw⟩

theorem spl_strs {w w' : World} {e : Ending} {r : List (List UInt8) × Nat × Nat} (h : Spl w w' e r) : ∃ v, e = .returned (.tuple #[v, .int .i64 (r.2.1 : Nat), .int .i64 (r.2.2 : Nat)]) ∧ Strs w'.heap.size v (r.1.map bs) w' ∧ Below w.heap.size w w' := by
  obtain ⟨v, h1, h2, h3⟩ := h
  refine ⟨v, h1, ?_, h3⟩
  have := Strs.of_own (l := r.1.map bs) (base := w.heap.size) (v := v) (w := w') (by rw [List.length_map]; exact h2)
  exact this

def abc : List UInt8 := [97, 98, 99]
theorem awake_any (w : World) : Calls Try.prog 8 #[] w fun e w' => e = .returned (.bool true) ∧ Below w.heap.size w w' := by
  have k1 := make_any (bs abc) w (by rw [bs_size]; decide)
  have em : mkS (bs abc) = bs (Fr.mk abc) := by
    unfold mkS
    rw [if_neg (by rw [bs_size]; decide), bs_list]
  have ee : mkE (bs abc) = 0 := by
    unfold mkE
    rw [if_neg (by rw [bs_size]; decide)]
  rw [em, ee] at k1
  have zm : (bs (Fr.mk abc)).size = 13 := by rw [bs_size, Fr.mk_len]; rfl
  have k2 : ∀ u : World, _ := fun u => first_any (bs (Fr.mk abc)) u (by omega)
  have ef : Fr.first (Fr.mk abc) = (abc, 13, 0) := by
    have := Fr.first_mk abc [] (by decide)
    rw [List.append_nil] at this
    exact this
  rw [bs_list] at k2
  unfold fst3 at k2
  rw [ef] at k2
  have k3 : ∀ u : World, _ := fun u => split_any (bs (Fr.mk abc) ++ bs (Fr.mk abc)) u (by rw [ByteArray.size_append]; omega)
  have es : Fr.spx (bs (Fr.mk abc) ++ bs (Fr.mk abc)).data.toList [] 0 = ([abc, abc], 26, 0) := by
    rw [list_app, bs_list]
    have := Fr.split_mks [abc, abc] (by intro s hs; simp at hs; subst hs; decide)
    simp only [Fr.mks, List.append_nil] at this
    rw [this]
    rw [List.length_append, Fr.mk_len]
    rfl
  rw [es] at k3
  have eb : bs abc = ⟨#[97, 98, 99]⟩ := rfl
  rw [eb] at k1 
  simp only [eb] at k2
  have K2 := asd k2
  have K3 := asd k3
  clear k2 k3 es ef em ee
  generalize bs (Fr.mk abc) = M at *
  go_enter Try.func8, Try.ntmps8
  go_wp2_with (first
    | (go_at_call 10; refine k1.mono ?_; rintro e w1 ⟨rfl, hb1⟩; clear k1)
    | (go_at_call 14; refine (K2.out _).mono ?_; rintro e w2 ⟨rfl, hb2⟩)
    | (go_at_call 12; refine (K3.out _).mono ?_; rintro e w3 h3; obtain ⟨v, rfl, hs3, hb3⟩ := spl_strs h3; obtain ⟨a3, c3, rfl, hc3⟩ := hs3; clear hc3 h3))
  go_ret
  have b2 := hb1.trans (hb2.mono hb1.size)
  exact ⟨rfl, b2.trans (hb3.mono b2.size)⟩
end Go.Proofs.Ytknobijonpdbbaa
