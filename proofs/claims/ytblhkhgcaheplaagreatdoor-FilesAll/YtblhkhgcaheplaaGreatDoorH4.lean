/-
  Clear: files of a word below a number are removed.
-/
import Derived.Test.YtblhkhgcaheplaaGreatDoorH3
import Derived.Test.YtblhkhgcaheplaaGreatDoorDX6
import Derived.Test.YtblhkhgcaheplaaGreatDoorDM3
namespace Go.Proofs.YtblhkhgcaheplaaGreatDoor
open Go.RowKit
set_option maxRecDepth 100000

/-- The first k of them are removed. -/
def goneAt (st : Dk.St) (s : ByteArray) (l : List Int) : Nat → Dk.St
  | 0 => st
  | k + 1 => (Dk.opRemove (goneAt st s l k) (nmB s (l.getD k 0))).2

theorem goneAt_ok {st : Dk.St} (h : Dk.Ok st) (s : ByteArray) (l : List Int) : ∀ k, Dk.Ok (goneAt st s l k)
  | 0 => h
  | k + 1 => (goneAt_ok h s l k).opRemove _

theorem row_step {w w' : World} {base : Nat} {e : TypeId} {size : Nat} {v : Value} {n : Nat} {xs : List Value} {fo fo' : List Nat} (h : w.ownsRow base e size v n xs) (hs : Dk.Step fo fo' w w') (hn : ∀ k, v.ownBlock = some k → k ∉ fo) : w'.ownsRow base e size v n xs ∧ ∀ k, v.ownBlock = some k → k ∉ fo' :=
  ⟨Dk.own_frame h fun k hk => hs.block k (h.lt k hk).2 (hn k hk), fun k hk hm => by
    rcases hs.sub k hm with e | e
    · exact hn k hk e
    · have := (h.lt k hk).2
      omega⟩

/-- In the midst of it. -/
structure ClM (w w1 wr : World) (B b : Nat) (d0 : Dk.Ds) (st : Dk.St) (s : ByteArray) (l : List Int) (v : Value) (k : Nat) (d : Dk.Ds) : Prop where
  rep : Dk.Rep wr B b d
  pl : d.pl = goneAt st s l k
  step : Dk.Step (d0.foot b) (d.foot b) w wr
  row : wr.ownsRow w.heap.size 3 1 v l.length (icells l)
  out : ∀ j, v.ownBlock = some j → j ∉ d.foot b

set_option maxHeartbeats 2000000 in
/-- Where each of the first g is below the number and there, and the next isn't below it (or there is none). -/
theorem clear_any {w : World} {B b g : Nat} {d : Dk.Ds} (h : Dk.Rep w B b d) (ok : Dk.Ok d.pl) (hsz : ∀ n ∈ d.names, n.size ≤ 1000) (s : ByteArray) (below : Int) (hv : Vars w)
    (hvs : ∀ (u : World) (fo' : List Nat), Dk.Step (d.foot b) fo' w u → Vars u)
    (hg : g ≤ (allOf s d.names).length) (hlow : ∀ k, k < g → (allOf s d.names).getD k 0 < below ∧ (Dk.opRemove (goneAt d.pl s (allOf s d.names) k) (nmB s ((allOf s d.names).getD k 0))).1 = 0)
    (hend : g = (allOf s d.names).length ∨ below ≤ (allOf s d.names).getD g 0) :
    Calls Tryz.prog 11 #[.pointer (some ⟨b, 0, none⟩), .string s, .int .i64 below] w fun e w' => e = .returned (.int .i64 (g : Int)) ∧ ∃ d', Dk.Rep w' B b d' ∧ d'.pl = goneAt d.pl s (allOf s d.names) g ∧ Dk.Step (d.foot b) (d'.foot b) w w' := by
  have k8 := all_any h ok hsz s hv
  have hl : (allOf s d.names).length ≤ 16 := by
    have h1 := nums_len s d.names
    have h2 : (allOf s d.names).length = (numsOf s d.names).length := by simp [allOf, sortI]
    have h3 := ok.few
    have h4 : d.pl.files.length = d.names.length := by simp [Dk.Ds.pl, Dk.Ds.names]
    omega
  have K14 : Aside (∀ (n : Int) (u : World) (fo' : List Nat), Dk.Step (d.foot b) fo' w u → Calls Tryz.prog 14 #[.string s, .int .i64 n] u fun e w' => e = .returned (.string (nmB s n)) ∧ Below u.heap.size u w') := fun n u fo' hu => name_any s n u (hvs u fo' hu)
  have K25 : Aside (∀ (n : ByteArray) (u : World) (d' : Dk.Ds), Dk.Rep u B b d' → Dk.Ok d'.pl → Calls Tryz.prog 25 #[.pointer (some ⟨b, 0, none⟩), .string n] u fun e w' => e = .returned (.int .i64 (Dk.opRemove d'.pl n).1) ∧ ∃ d'', Dk.Rep w' B b d'' ∧ d''.pl = (Dk.opRemove d'.pl n).2 ∧ Dk.Step (d'.foot b) (d''.foot b) u w') := fun n u d' hu ho => Dk.remove_any hu ho n
  have OKK : Aside (∀ k, Dk.Ok (goneAt d.pl s (allOf s d.names) k)) := fun k => goneAt_ok ok s _ k
  have HL : Aside _ := hlow
  have H0 : Aside (Dk.Rep w B b d) := h
  clear h ok hsz hv hvs hlow
  generalize allOf s d.names = L at *
  go_enter Tryz.func11, Tryz.ntmps11
  go_wp2_with (go_at_call 8; refine k8.mono ?_; rintro e w1 ⟨v, rfl, ho, hb1⟩; obtain ⟨av, cv, ev⟩ := Dk.own_any ho; subst ev)
  have M0 : ClM w w1 w1 B b d d.pl s L (.slice av L.length cv) 0 d := by
    refine ⟨H0.out.below hb1, rfl, Dk.Step.ofBelow hb1, ho, fun j hj hm => ?_⟩
    have h1 := (H0.out.lt j hm).2
    have h2 := (ho.lt j hj).1
    omega
  clear ho k8 H0
  go_loopg [14, 7, 9] L.length (fun gh s14 s7 _ wr => ∃ (k : Nat) (dk : Dk.Ds), L.length - k ≤ gh ∧ k ≤ g ∧ s14 = .int .i64 (k : Int) ∧ s7 = .int .i64 (k : Int) ∧ ClM w w1 wr B b d d.pl s L (.slice av L.length cv) k dk)
  case atStart => exact ⟨0, d, by omega, by omega, rfl, rfl, M0⟩
  case round =>
    clear M0
    obtain ⟨k, dk, hgh, hk, rfl, rfl, M⟩ := hrel
    by_cases hlt : k < L.length
    · have q3 : decide (k < L.length) = true := by simpa using hlt
      obtain ⟨ln, cvv, e1, _, _, hln⟩ := Dk.own_form M.row (by omega)
      injection e1 with e1 e2 e3
      subst e1 e3
      have zl := Dk.own_cell M.row hln (icell hlt)
      by_cases hkg : k < g
      · obtain ⟨h1, h2⟩ := HL.out k hkg
        have q4 : decide (below ≤ L.getD k 0) = false := decide_eq_false (by omega)
        have k14 := K14.out (L.getD k 0) wr _ M.step
        have k25 : Aside (∀ u : World, Below wr.heap.size wr u → _) := fun (u : World) hu => K25.out (nmB s (L.getD k 0)) u dk (M.rep.below hu) (by rw [M.pl]; exact OKK.out k)
        rw [M.pl, h2] at k25
        have GN : Aside (goneAt d.pl s L (k + 1) = (Dk.opRemove (goneAt d.pl s L k) (nmB s (L.getD k 0))).2) := rfl
        have MM : Aside _ := M
        generalize L.getD k 0 = z at *
        generalize nmB s z = NM at *
        clear M e2 hln h1 h2
        go_wp2_with (first
          | (go_at_call 14; refine k14.mono ?_; rintro e w2 ⟨rfl, hb2⟩)
          | (go_at_call 25; refine (k25.out _ hb2).mono ?_; rintro e w3 ⟨rfl, d3, r3, p3, s3⟩))
        have M1 : ClM w w1 w3 B b d d.pl s L (.slice (some ⟨ln, 0, none⟩) L.length cv) (k + 1) d3 := by
          have S : Dk.Step (dk.foot b) (d3.foot b) wr w3 := (Dk.Step.ofBelow hb2).trans s3
          obtain ⟨a1, a2⟩ := row_step MM.out.row S MM.out.out
          exact ⟨r3, p3.trans GN.out.symm, MM.out.step.trans S, a1, a2⟩
        go_roundg (L.length - (k + 1))
        case measure => omega
        case rel => exact ⟨k + 1, d3, Nat.le_refl _, by omega, by go_num, by go_num, M1⟩
      · obtain rfl : k = g := by omega
        have hbl : below ≤ L.getD k 0 := by
          rcases hend with e | e
          · omega
          · exact e
        have q4 : decide (below ≤ L.getD k 0) = true := decide_eq_true hbl
        have MM : Aside _ := M
        generalize L.getD k 0 = z at *
        clear M e2 hln
        go_wp2
        go_ret
        exact ⟨rfl, dk, MM.out.rep, MM.out.pl, MM.out.step⟩
    · obtain rfl : k = L.length := by omega
      obtain rfl : g = L.length := by omega
      have q3 : decide (L.length < L.length) = false := by simp
      go_wp2
      go_ret
      exact ⟨rfl, dk, M.rep, M.pl, M.step⟩
end Go.Proofs.YtblhkhgcaheplaaGreatDoor
