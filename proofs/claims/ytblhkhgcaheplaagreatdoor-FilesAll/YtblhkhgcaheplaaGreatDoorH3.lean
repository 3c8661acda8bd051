/-
  Last and Size of a word's files.
-/
import Derived.Test.YtblhkhgcaheplaaGreatDoorH2
namespace Go.Proofs.YtblhkhgcaheplaaGreatDoor
open Go.RowKit
set_option maxRecDepth 100000

def lastOf (l : List Int) : Int := l.getD (l.length - 1) 0
theorem last_nil : lastOf [] = 0 := rfl

theorem icell {l : List Int} {k : Nat} (h : k < l.length) : (icells l)[k]? = some (.int .i64 (l.getD k 0)) := by
  unfold icells
  rw [List.getElem?_map, List.getElem?_eq_getElem h]
  simp [List.getD, List.getElem?_eq_getElem h]

set_option maxHeartbeats 1000000 in
theorem last_any {w : World} {B b : Nat} {d : Dk.Ds} (h : Dk.Rep w B b d) (ok : Dk.Ok d.pl) (hsz : ∀ n ∈ d.names, n.size ≤ 1000) (s : ByteArray) (hv : Vars w) :
    Calls Tryz.prog 9 #[.pointer (some ⟨b, 0, none⟩), .string s] w fun e w' => e = .returned (.int .i64 (lastOf (allOf s d.names))) ∧ Below w.heap.size w w' := by
  have k8 := all_any h ok hsz s hv
  have hl : (allOf s d.names).length ≤ 16 := by
    have h1 := nums_len s d.names
    have h2 : (allOf s d.names).length = (numsOf s d.names).length := by simp [allOf, sortI]
    have h3 := ok.few
    have h4 : d.pl.files.length = d.names.length := by simp [Dk.Ds.pl, Dk.Ds.names]
    omega
  clear h ok hsz hv
  generalize allOf s d.names = L at *
  rcases Nat.eq_zero_or_pos L.length with h0 | hp
  · have hL : L = [] := List.eq_nil_of_length_eq_zero h0
    subst hL
    rw [last_nil]
    go_enter Tryz.func9, Tryz.ntmps9
    go_wp2_with (go_at_call 8; refine k8.mono ?_; rintro e w1 ⟨v, rfl, ho, hb1⟩; obtain ⟨av, cv, ev⟩ := Dk.own_any ho; subst ev)
    go_ret
    exact ⟨rfl, hb1⟩
  · have q0 : ((L.length : Int) == 0) = false := by rw [beq_eq_false_iff_ne]; omega
    have q0' : (L.length == 0) = false := by rw [beq_eq_false_iff_ne]; omega
    have hsub : ((L.length - 1 : Nat) : Int) = (L.length : Int) - 1 := by omega
    have hc := icell (l := L) (k := L.length - 1) (by omega)
    have E : Aside (lastOf L = L.getD (L.length - 1) 0) := rfl
    have HC : Aside _ := hc
    generalize hZ : L.getD (L.length - 1) 0 = Z at *
    clear hZ hc
    go_enter Tryz.func9, Tryz.ntmps9
    go_wp2_with (go_at_call 8; refine k8.mono ?_; rintro e w1 ⟨v, rfl, ho, hb1⟩; obtain ⟨g, cap, ev, _, _, hg⟩ := Dk.own_form ho hp; subst ev; have zc := Dk.own_cell ho hg HC.out; clear ho hg)
    go_ret
    exact ⟨by rw [E.out]; rfl, hb1⟩

def sizeSum (st : Dk.St) (s : ByteArray) (l : List Int) : Nat := (l.map fun n => (Dk.opRead st (nmB s n)).1.size).sum
theorem size_next (st : Dk.St) (s : ByteArray) (l : List Int) {k : Nat} (h : k < l.length) : sizeSum st s (l.take (k + 1)) = sizeSum st s (l.take k) + (Dk.opRead st (nmB s (l.getD k 0))).1.size := by
  unfold sizeSum
  rw [List.take_add_one, List.getElem?_eq_getElem h, List.map_append, List.sum_append]
  have e : l.getD k 0 = l[k] := by simp [List.getD, List.getElem?_eq_getElem h]
  rw [e]
  simp

set_option maxHeartbeats 1000000 in
theorem size_any {w : World} {B b : Nat} {d : Dk.Ds} (h : Dk.Rep w B b d) (ok : Dk.Ok d.pl) (hsz : ∀ n ∈ d.names, n.size ≤ 1000) (s : ByteArray) (hv : Vars w) (hr : ∀ n : ByteArray, (Dk.opRead d.pl n).1.size ≤ 60000) :
    Calls Tryz.prog 10 #[.pointer (some ⟨b, 0, none⟩), .string s] w fun e w' => e = .returned (.int .i64 (sizeSum d.pl s (allOf s d.names) : Nat)) ∧ Below w.heap.size w w' := by
  have k8 := all_any h ok hsz s hv
  have hl : (allOf s d.names).length ≤ 16 := by
    have h1 := nums_len s d.names
    have h2 : (allOf s d.names).length = (numsOf s d.names).length := by simp [allOf, sortI]
    have h3 := ok.few
    have h4 : d.pl.files.length = d.names.length := by simp [Dk.Ds.pl, Dk.Ds.names]
    omega
  have K14 : Aside (∀ (n : Int) (u : World), Below w.heap.size w u → Calls Tryz.prog 14 #[.string s, .int .i64 n] u fun e w' => e = .returned (.string (nmB s n)) ∧ Below u.heap.size u w') := fun n u hu => name_any s n u (hv.below hu)
  have K24 : Aside (∀ (n : ByteArray) (u : World), Below w.heap.size w u → Calls Tryz.prog 24 #[.pointer (some ⟨b, 0, none⟩), .string n] u fun e w' => e = .returned (.tuple #[.string (Dk.opRead d.pl n).1, .int .i64 (Dk.opRead d.pl n).2]) ∧ Below u.heap.size u w') := fun n u hu => Dk.read_any (h.below hu) ok n
  have HR : Aside (∀ n : ByteArray, (Dk.opRead d.pl n).1.size ≤ 60000) := hr
  have SB : Aside (∀ k, k ≤ 16 → sizeSum d.pl s ((allOf s d.names).take k) ≤ 60000 * k) := fun k hk => by
    induction k with
    | zero => simp [sizeSum]
    | succ k ih =>
      have ih := ih (by omega)
      by_cases hlt : k < (allOf s d.names).length
      · rw [size_next d.pl s _ hlt]
        have := hr (nmB s ((allOf s d.names).getD k 0))
        omega
      · rw [List.take_of_length_le (by omega)] at ih ⊢
        omega
  clear h ok hsz hv hr
  generalize allOf s d.names = L at *
  go_enter Tryz.func10, Tryz.ntmps10
  go_wp2_with (go_at_call 8; refine k8.mono ?_; rintro e w1 ⟨v, rfl, ho, hb1⟩; obtain ⟨av, cv, ev⟩ := Dk.own_any ho; subst ev)
  have HO : Aside _ := ho
  clear ho k8
  go_loopg [14, 5, 7, 8, 9] L.length (fun gh s14 s5 _ _ _ wr => ∃ k : Nat, L.length - k ≤ gh ∧ k ≤ L.length ∧ s14 = .int .i64 (k : Int) ∧ s5 = .int .i64 (sizeSum d.pl s (L.take k) : Nat) ∧ Below w1.heap.size w1 wr)
  case atStart => exact ⟨0, by omega, by omega, rfl, rfl, Below.refl _ _⟩
  case round =>
    obtain ⟨k, hgh, hk, rfl, rfl, hb⟩ := hrel
    have hbw : Below w.heap.size w wr := hb1.trans (hb.mono hb1.size)
    by_cases hlt : k < L.length
    · have q3 : decide (k < L.length) = true := by simpa using hlt
      obtain ⟨ln, cvv, e1, _, _, hln⟩ := Dk.own_form HO.out (by omega)
      injection e1 with e1 e2 e3
      subst e1 e3
      have zl := Dk.cell_below (Dk.own_cell HO.out hln (icell hlt)) hb
      have hnx := size_next d.pl s L hlt
      have hb1' := SB.out k (by omega)
      generalize L.getD k 0 = z at *
      have k14 : Aside (∀ u : World, Below w.heap.size w u → _) := fun (u : World) hu => K14.out z u hu
      have k24 : Aside (∀ u : World, Below w.heap.size w u → _) := fun (u : World) hu => K24.out (nmB s z) u hu
      have hr := HR.out (nmB s z)
      generalize (Dk.opRead d.pl (nmB s z)).1 = TX at *
      generalize (Dk.opRead d.pl (nmB s z)).2 = CO at *
      generalize nmB s z = NM at *
      generalize hSM : sizeSum d.pl s (L.take k) = SM at *
      have HN : Aside (sizeSum d.pl s (L.take (k + 1)) = SM + TX.size) := hnx
      clear e2 hln hnx hSM
      have hsm : SM ≤ 1000000 := by omega
      go_wp2_with (first
        | (go_at_call 14; refine (k14.out _ hbw).mono ?_; rintro e w2 ⟨rfl, hb2⟩; replace hb2 := hb.trans (hb2.mono hb.size); have hbw2 := hb1.trans (hb2.mono hb1.size))
        | (go_at_call 24; refine (k24.out _ hbw2).mono ?_; rintro e w3 ⟨rfl, hb3⟩; replace hb3 := hb2.trans (hb3.mono hb2.size)))
      go_roundg (L.length - (k + 1))
      case measure => omega
      case rel => exact ⟨k + 1, Nat.le_refl _, by omega, by go_num, by rw [HN.out]; go_num, hb3⟩
    · obtain rfl : k = L.length := by omega
      have q3 : decide (L.length < L.length) = false := by simp
      rw [List.take_of_length_le (Nat.le_refl _)]
      go_wp2
      go_ret
      exact ⟨rfl, hbw⟩
end Go.Proofs.YtblhkhgcaheplaaGreatDoor
