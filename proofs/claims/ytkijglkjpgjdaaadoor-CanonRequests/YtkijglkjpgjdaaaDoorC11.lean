/-
  A path's form, as the program writes it.
-/
import Derived.Test.YtkijglkjpgjdaaaDoorC10
namespace Go.Proofs.YtkijglkjpgjdaaaDoor
open Go.RowKit

theorem txt_data (p : List UInt8) : (txt p).data.toList = p := rfl
theorem txt_size (p : List UInt8) : (txt p).size = p.length := mk_size p

theorem writes_cons (p : List UInt8) (t : List (List UInt8)) : Cn.writes (p :: t) = 47 :: (Cn.writeP p ++ Cn.writes t) := rfl
theorem writeP_cons (b : UInt8) (p : List UInt8) : Cn.writeP (b :: p) = Cn.writeB b ++ Cn.writeP p := rfl

/-- What holds at the outer head. -/
def ORel (ps : List (List UInt8)) (w : World) (v s12 : Value) (wr : World) (k : Nat) : Prop :=
  ∃ L : List UInt8, s12 = .int .i64 (k : Int) ∧ k ≤ ps.length ∧ wr.ownsRow w.heap.size 5 1 v L.length (Pa.cellsB L) ∧ Below w.heap.size w wr ∧ L ++ Cn.writes (ps.drop k) = Cn.writes ps

/-- What holds at the inner head. -/
def IRel (ps : List (List UInt8)) (P : ByteArray) (w : World) (k : Nat) (v s21 : Value) (wr : World) (j : Nat) : Prop :=
  ∃ L : List UInt8, s21 = .int .i64 (j : Int) ∧ j ≤ P.size ∧ wr.ownsRow w.heap.size 5 1 v L.length (Pa.cellsB L) ∧ Below w.heap.size w wr ∧ L ++ (Cn.writeP (P.data.toList.drop j) ++ Cn.writes (ps.drop (k + 1))) = Cn.writes ps

set_option maxHeartbeats 1600000 in
set_option maxRecDepth 1000000 in
theorem writeParts_any (v : Value) (ps : List (List UInt8)) (w : World) (hv : Si.Strs w.heap.size v (ps.map txt) w) (hn : ps.length ≤ 200001) (hw : (Cn.writes ps).length ≤ 900000) (hps : ∀ p ∈ ps, p.length ≤ 200000) :
    Calls Tryd.prog 21 #[v] w fun e w' => e = .returned (.string ⟨(Cn.form ps).toArray⟩) ∧ Below w.heap.size w w' := by
  obtain ⟨i0, hi, hz0, hz1, hz2⟩ := info_parts Pa.Tryd.info5
  obtain ⟨a, c, rfl, hc⟩ := strs_cell hv
  by_cases h0 : ps = []
  · subst h0
    clear hv hc
    go_enter Tryd.func21, Tryd.ntmps21
    go_wp2
    go_ret
    exact ⟨rfl, Below.refl _ _⟩
  · have hl : 0 < ps.length := by
      cases ps with
      | nil => exact absurd rfl h0
      | cons x y => simp
    have d0 : ((ps.length : Int) == 0) = false := by rw [beq_eq_false_iff_ne]; omega
    have ef : Cn.form ps = Cn.writes ps := by unfold Cn.form; rw [if_neg h0]
    rw [ef]
    have HC : Aside (∀ j (hj : j < ps.length), ∃ g o, a = some ⟨g, o, none⟩ ∧ g < w.heap.size ∧ w.cell? ⟨g, o + j, none⟩ = some (.string (txt ps[j])) ∧ ps[j].length ≤ 200000) := fun j hj => by
      obtain ⟨g, o, h1, h2, h3⟩ := hc j hj
      exact ⟨g, o, h1, h2, h3, hps _ (List.getElem_mem hj)⟩
    have HW : Aside ((Cn.writes ps).length ≤ 900000) := hw
    clear hc hv ef h0 hps hw
    go_enter Tryd.func21, Tryd.ntmps21
    go_wp2
    go_loopg [3, 12] ps.length (fun gh v s12 wr => ∃ k : Nat, ps.length - k ≤ gh ∧ ORel ps w v s12 wr k)
    case atStart => exact ⟨0, by omega, [], rfl, by omega, World.ownsRow_nil _ _ _ _, Below.refl _ _, rfl⟩
    case round =>
      obtain ⟨k, hgh, L, rfl, hk, hown, hbw, hr⟩ := hrel
      have hsz := hbw.size
      have hLl : L.length ≤ 900000 := by
        have := HW.out
        rw [← hr, List.length_append] at this
        omega
      by_cases hp : k < ps.length
      · obtain ⟨g, o, rfl, hg, hcl, hpl⟩ := HC.out k hp
        have hcell := (hbw.cell (p := ⟨g, o + k, none⟩) hg).trans hcl
        rw [List.drop_eq_getElem_cons hp, writes_cons] at hr
        have dk : decide (k < ps.length) = true := by simpa using hp
        have A : Aside ((L ++ [47]) ++ (Cn.writeP ((txt ps[k]).data.toList.drop 0) ++ Cn.writes (ps.drop (k + 1))) = Cn.writes ps) := by
          rw [← hr]
          show _ = _
          simp [txt_data]
        have hPs : (txt ps[k]).size ≤ 200000 := by rw [txt_size]; exact hpl
        clear hr hcl hpl
        generalize txt ps[k] = P at *
        go_wp2_with (at_builtin; refine wpList_append_own _ rfl (.tmp 16) (.tmp 17) 41 rfl w.heap.size 5 i0 (.int .u8 0) 1 1 Tryd.underlying41 hi hz0 hz1 hz2 rfl (by decide) _ _ _ rfl (hown.alloc _) ⟨_, 0, none⟩ 1 1 [.int .u8 47] rfl rfl ?c1 ?c2 ?c3 ?c4 ?c5 ?_)
        case c1 => exact (cell_one_new _ _ _)
        case c2 => intro u hu; simp at hu; subst hu; rfl
        case c3 => unfold maxLen; omega
        case c4 => omega
        case c5 => simp; omega
        intro v' w3 hown' hgrow _
        have E : Aside (w3.ownsRow w.heap.size 5 1 v' (L ++ [47]).length (Pa.cellsB (L ++ [47])) ∧ Below w.heap.size w w3) := by
          refine ⟨?_, (hbw.alloc hsz _).grown hgrow (by rw [size_alloc]; omega) (fun g hg => (hown.lt g hg).1)⟩
          rw [← Pa.cellsB_snoc, List.length_append]
          exact hown'
        clear hown' hgrow hown hcell
        go_wp2
        go_loopg [3, 21] P.size (fun gh v s21 wr => ∃ j : Nat, P.size - j ≤ gh ∧ IRel ps P w k v s21 wr j)
        case atStart => exact ⟨0, by omega, L ++ [47], rfl, by omega, E.out.1, E.out.2, A.out⟩
        case round =>
          clear A E
          obtain ⟨j, hgh2, L2, rfl, hj, hown2, hbw2, hr2⟩ := hrel
          have hsz2 := hbw2.size
          have hL2 : L2.length ≤ 900000 := by
            have := HW.out
            rw [← hr2, List.length_append] at this
            omega
          by_cases hjp : j < P.size
          · rw [byte_at P j hjp, writeP_cons, List.append_assoc, ← List.append_assoc] at hr2
            have A2 : Aside (L2 ++ Cn.writeB P[j] ++ (Cn.writeP (P.data.toList.drop (j + 1)) ++ Cn.writes (ps.drop (k + 1))) = Cn.writes ps) := hr2
            clear hr2
            have kA := appendByte_any w.heap.size u3 L2 P[j] _ hown2 (by omega) hsz2
            have dj : decide (j < P.size) = true := by simpa using hjp
            go_wp2_with (go_at_call 38; refine kA.mono ?_; rintro e w4 ⟨v4, rfl, hown4, hb4⟩)
            go_roundg (P.size - (j + 1))
            case measure => omega
            case rel => exact ⟨j + 1, Nat.le_refl _, L2 ++ Cn.writeB P[j], by go_num, by omega, hown4, hbw2.trans hb4, A2.out⟩
          · obtain rfl : j = P.size := by omega
            have hd : P.data.toList.drop P.size = [] := List.drop_eq_nil_of_le (Nat.le_refl _)
            rw [hd] at hr2
            have A2 : Aside (L2 ++ Cn.writes (ps.drop (k + 1)) = Cn.writes ps) := hr2
            clear hr2 hd
            have dj : decide (P.size < P.size) = false := by simp
            go_wp2
            go_roundg (ps.length - (k + 1))
            case measure => omega
            case rel => exact ⟨k + 1, Nat.le_refl _, L2, by go_num, by omega, hown2, hbw2, A2.out⟩
      · obtain rfl : k = ps.length := by omega
        have hd : ps.drop ps.length = [] := List.drop_eq_nil_of_le (Nat.le_refl _)
        rw [hd] at hr
        have hr2 : L = Cn.writes ps := by rw [← hr]; show L = L ++ []; rw [List.append_nil]
        have dk : decide (ps.length < ps.length) = false := by simp
        have hcv := conv_row hown
        have A : Aside (L = Cn.writes ps) := hr2
        clear hr hd hr2
        go_wp2
        go_ret
        exact ⟨by rw [A.out]; rfl, hbw⟩
end Go.Proofs.YtkijglkjpgjdaaaDoor
