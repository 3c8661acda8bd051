/-
  YtajjcfacbnicnaaGreatDoor: the texts H2, H3, one behind the other.
-/
import Derived.Test.YtajjcfacbnicnaaGreatDoorV19
import Derived.Test.YtajjcfacbnicnaaGreatDoorV20
import Derived.Test.YtajjcfacbnicnaaGreatDoorV3
import Derived.Maps.AppendAt
import Derived.OwnWalk
/-
  All: the numbers of a word's files, rising.
-/
namespace Go.Proofs.YtajjcfacbnicnaaGreatDoor
open Go.RowKit
set_option maxRecDepth 100000

def one (s t : ByteArray) : List Int := if (nP s t).2 then [(nP s t).1] else []
def numsOf (s : ByteArray) (l : List ByteArray) : List Int := l.flatMap (one s)
def allOf (s : ByteArray) (l : List ByteArray) : List Int := sortI (numsOf s l)

theorem nums_next (s : ByteArray) (l : List ByteArray) {k : Nat} {t : ByteArray} (h : l[k]? = some t) : numsOf s (l.take (k + 1)) = numsOf s (l.take k) ++ one s t := by
  unfold numsOf
  rw [List.take_add_one, h]
  simp
theorem one_len (s t : ByteArray) : (one s t).length ≤ 1 := by unfold one; split <;> simp
theorem nums_len (s : ByteArray) : ∀ l : List ByteArray, (numsOf s l).length ≤ l.length
  | [] => by simp [numsOf]
  | t :: r => by
    have := nums_len s r
    have := one_len s t
    show ((t :: r).flatMap (one s)).length ≤ _
    rw [List.flatMap_cons, List.length_append, List.length_cons]
    have e : (r.flatMap (one s)).length = (numsOf s r).length := rfl
    omega

theorem info3 : (Tryz.prog.info? 3).map (fun i => (i.zero, i.size, i.bytes)) = some (some (.int .i64 0), 1, 8) := by kernel_rfl
theorem own_below {w w' : World} {base : Nat} {e : TypeId} {size : Nat} {v : Value} {n : Nat} {xs : List Value} (h : w.ownsRow base e size v n xs) (hb : Below w.heap.size w w') : w'.ownsRow base e size v n xs := Dk.own_frame h fun k hk => hb.block k (h.lt k hk).2

set_option maxHeartbeats 2000000 in
theorem all_any {w : World} {B b : Nat} {d : Dk.Ds} (h : Dk.Rep w B b d) (ok : Dk.Ok d.pl) (hsz : ∀ n ∈ d.names, n.size ≤ 1000) (s : ByteArray) (hv : Vars w) :
    Calls Tryz.prog 81 #[.pointer (some ⟨b, 0, none⟩), .string s] w fun e w' => ∃ v, e = .returned v ∧ w'.ownsRow w.heap.size 3 1 v (allOf s d.names).length (icells (allOf s d.names)) ∧ Below w.heap.size w w' := by
  have kn := Dk.names_any h ok
  have HV : Aside (Vars w) := hv
  have hfew : d.names.length ≤ 16 := by
    have := ok.few
    simpa [Dk.Ds.pl, Dk.Ds.names] using this
  have K13 : Aside (∀ (t : ByteArray) (u : World), t ∈ d.names → Below w.heap.size w u → Calls Tryz.prog 101 #[.string s, .string t] u fun e w' => e = .returned (.tuple #[.int .i64 (nP s t).1, .bool (nP s t).2]) ∧ Below u.heap.size u w') := fun t u ht hu => number_any s t u (hsz t ht) (HV.out.below hu)
  obtain ⟨i3, hi3, hz3, hs3, hy3⟩ := info_parts info3
  clear h ok hsz hv
  generalize d.names = L at *
  go_enter Tryz.func81, Tryz.ntmps81
  go_wp2_with (go_at_call 29; refine kn.mono ?_; rintro e w1 ⟨v, rfl, ho, hb1⟩; obtain ⟨av, cv, ev⟩ := Dk.own_any ho; subst ev)
  have HO : Aside _ := ho
  clear ho kn
  go_loopg [13, 5, 7, 8, 9] L.length (fun gh s13 v5 _ _ _ wr => ∃ k : Nat, L.length - k ≤ gh ∧ k ≤ L.length ∧ s13 = .int .i64 (k : Int) ∧ wr.ownsRow w1.heap.size 3 1 v5 (numsOf s (L.take k)).length (icells (numsOf s (L.take k))) ∧ Below w1.heap.size w1 wr)
  case atStart => exact ⟨0, by omega, by omega, rfl, World.ownsRow_nil _ _ _ _, Below.refl _ _⟩
  case round =>
    obtain ⟨k, hgh, hk, rfl, o5, hb⟩ := hrel
    have hbw : Below w.heap.size w wr := hb1.trans (hb.mono hb1.size)
    by_cases hlt : k < L.length
    · have q3 : decide (k < L.length) = true := by simpa using hlt
      obtain ⟨t, ht⟩ : ∃ t, L[k]? = some t := ⟨_, List.getElem?_eq_getElem hlt⟩
      have hnx := nums_next s L ht
      have hkl : (Dk.scells L)[k]? = some (.string t) := by unfold Dk.scells; rw [List.getElem?_map, ht]; rfl
      obtain ⟨ln, cvv, e1, _, _, hln⟩ := Dk.own_form HO.out (by omega)
      injection e1 with e1 e2 e3
      subst e1 e3
      have zl := Dk.cell_below (Dk.own_cell HO.out hln hkl) hb
      have k13 := K13.out t wr (List.mem_of_getElem? ht) hbw
      have hnl := nums_len s (L.take k)
      rw [List.length_take] at hnl
      unfold one at hnx
      generalize hA : numsOf s (L.take k) = A at *
      generalize (nP s t).1 = z at *
      clear e2 hln hkl ht
      cases hq : (nP s t).2 with
      | false =>
        rw [hq] at k13 hnx
        simp only [Bool.false_eq_true, if_false, List.append_nil] at hnx
        have HN : Aside (numsOf s (L.take (k + 1)) = A) := hnx
        clear hnx hA hq
        go_wp2_with (go_at_call 101; refine k13.mono ?_; rintro e w2 ⟨rfl, hb2⟩)
        go_roundg (L.length - (k + 1))
        case measure => omega
        case rel => exact ⟨k + 1, Nat.le_refl _, by omega, by go_num, by rw [HN.out]; exact own_below o5 hb2, hb.trans (hb2.mono hb.size)⟩
      | true =>
        rw [hq] at k13 hnx
        simp only [if_true] at hnx
        have HN : Aside (numsOf s (L.take (k + 1)) = A ++ [z]) := hnx
        clear hnx hA hq
        have hsz := hb.size
        go_wp2_with (first
          | (go_at_call 101; refine k13.mono ?_; rintro e w2 ⟨rfl, hb2⟩; have p5 := own_below o5 hb2; have bel2 := hb.trans (hb2.mono hb.size); have hsz2 := bel2.size)
          | (at_builtin; refine wpList_append_own_at _ rfl (.tmp 24) (.tmp 26) 60 rfl w1.heap.size 3 i3 (.int .i64 0) 1 8 Tryz.underlying60 hi3 hz3 hs3 hy3 rfl (by decide) _ _ _ rfl (p5.alloc _) ⟨_, 0, none⟩ 1 1 [.int .i64 z] rfl rfl ?c1 ?c2 ?c3 ?c4 ?c5 ?_))
        case c1 => exact (cell_one_new _ _ _)
        case c2 => intro u hu; simp at hu; subst hu; rfl
        case c3 => unfold maxLen; omega
        case c4 => omega
        case c5 => simp; omega
        intro v5' w3 hown5 hgrow5 _ _
        have bel3 : Below w1.heap.size w1 w3 := (bel2.alloc bel2.size (.cells #[.int .i64 z] 3)).grown hgrow5 (by simp; omega) (fun k hk => (p5.lt k hk).1)
        have ROW : Aside (w3.ownsRow w1.heap.size 3 1 v5' (numsOf s (L.take (k + 1))).length (icells (numsOf s (L.take (k + 1))))) := by
          rw [HN.out, List.length_append]
          have e : icells (A ++ [z]) = icells A ++ [.int .i64 z] := by simp [icells]
          rw [e]
          exact hown5
        clear hown5
        go_wp2
        go_roundg (L.length - (k + 1))
        case measure => omega
        case rel => exact ⟨k + 1, Nat.le_refl _, by omega, by go_num, ROW.out, bel3⟩
    · obtain rfl : k = L.length := by omega
      have q3 : decide (L.length < L.length) = false := by simp
      rw [List.take_of_length_le (Nat.le_refl _)] at o5
      have hnl := nums_len s L
      have ks := sort_any o5 (by omega)
      have hsl : (allOf s L).length = (numsOf s L).length := by simp [allOf, sortI]
      have HS : Aside ((allOf s L).length = (numsOf s L).length) := hsl
      have O5 : Aside (∀ k, u5.ownBlock = some k → w1.heap.size ≤ k) := fun k hk => (o5.lt k hk).1
      clear o5 hsl
      go_wp2_with (go_at_call 102; refine ks.mono ?_; rintro e w4 ⟨rfl, o4, g4⟩)
      go_ret
      have bel4 : Below w1.heap.size w1 w4 := hb.grown g4 hb.size O5.out
      refine ⟨_, rfl, ?_, hb1.trans (bel4.mono hb1.size)⟩
      rw [HS.out]
      rcases o4.2 with h0 | ⟨g, cap, cur, e1, e2, r⟩
      · exact ⟨o4.1, .inl h0⟩
      · exact ⟨o4.1, .inr ⟨g, cap, cur, e1, Nat.le_trans hb1.size e2, r⟩⟩
end Go.Proofs.YtajjcfacbnicnaaGreatDoor

/-
  Last and Size of a word's files.
-/
namespace Go.Proofs.YtajjcfacbnicnaaGreatDoor
open Go.RowKit
set_option maxRecDepth 100000

def lastOf (l : List Int) : Int := l.getD (l.length - 1) 0
theorem last_nil : lastOf [] = 0 := rfl

theorem icell {l : List Int} {k : Nat} (h : k < l.length) : (icells l)[k]? = some (.int .i64 (l.getD k 0)) := by
  unfold icells
  rw [List.getElem?_map, List.getElem?_eq_getElem h]
  simp [List.getD, List.getElem?_eq_getElem h]

set_option maxHeartbeats 1000000 in
theorem last_any {w : World} {B b : Nat} {d : Dk.Ds} (h : Dk.Rep w B b d) (ok : Dk.Ok d.pl) (hsz : ∀ n ∈ d.names, n.size ≤ 1000) (s : ByteArray) (hv : Vars w) :
    Calls Tryz.prog 70 #[.pointer (some ⟨b, 0, none⟩), .string s] w fun e w' => e = .returned (.int .i64 (lastOf (allOf s d.names))) ∧ Below w.heap.size w w' := by
  have k8 := all_any h ok hsz s hv
  have hl : (allOf s d.names).length ≤ 16 := by
    have h1 := nums_len s d.names
    have h2 : (allOf s d.names).length = (numsOf s d.names).length := by simp [allOf, sortI]
    have h3 := ok.few
    have h4 : d.pl.files.length = d.names.length := by simp [Dk.Ds.pl, Dk.Ds.names]
    omega
  clear h ok hsz hv
  generalize allOf s d.names = L at *
  rcases Nat.eq_zero_or_pos L.length with h0 | hp
  · have hL : L = [] := List.eq_nil_of_length_eq_zero h0
    subst hL
    rw [last_nil]
    go_enter Tryz.func70, Tryz.ntmps70
    go_wp2_with (go_at_call 81; refine k8.mono ?_; rintro e w1 ⟨v, rfl, ho, hb1⟩; obtain ⟨av, cv, ev⟩ := Dk.own_any ho; subst ev)
    go_ret
    exact ⟨rfl, hb1⟩
  · have q0 : ((L.length : Int) == 0) = false := by rw [beq_eq_false_iff_ne]; omega
    have q0' : (L.length == 0) = false := by rw [beq_eq_false_iff_ne]; omega
    have hsub : ((L.length - 1 : Nat) : Int) = (L.length : Int) - 1 := by omega
    have hc := icell (l := L) (k := L.length - 1) (by omega)
    have E : Aside (lastOf L = L.getD (L.length - 1) 0) := rfl
    have HC : Aside _ := hc
    generalize hZ : L.getD (L.length - 1) 0 = Z at *
    clear hZ hc
    go_enter Tryz.func70, Tryz.ntmps70
    go_wp2_with (go_at_call 81; refine k8.mono ?_; rintro e w1 ⟨v, rfl, ho, hb1⟩; obtain ⟨g, cap, ev, _, _, hg⟩ := Dk.own_form ho hp; subst ev; have zc := Dk.own_cell ho hg HC.out; clear ho hg)
    go_ret
    exact ⟨by rw [E.out]; rfl, hb1⟩

def sizeSum (st : Dk.St) (s : ByteArray) (l : List Int) : Nat := (l.map fun n => (Dk.opRead st (nmB s n)).1.size).sum
theorem size_next (st : Dk.St) (s : ByteArray) (l : List Int) {k : Nat} (h : k < l.length) : sizeSum st s (l.take (k + 1)) = sizeSum st s (l.take k) + (Dk.opRead st (nmB s (l.getD k 0))).1.size := by
  unfold sizeSum
  rw [List.take_add_one, List.getElem?_eq_getElem h, List.map_append, List.sum_append]
  have e : l.getD k 0 = l[k] := by simp [List.getD, List.getElem?_eq_getElem h]
  rw [e]
  simp

end Go.Proofs.YtajjcfacbnicnaaGreatDoor
