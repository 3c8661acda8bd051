/-
  The document's own list of the signs, and of where each begins.
-/
import Derived.Test.YtpeioecpilmpiaaGreatDoorSF1
import Derived.Maps.AppendAt
namespace Go.Proofs.YtpeioecpilmpiaaGreatDoor.Si
open Go.RowKit

def zs (l : List Nat) : List Int := l.map fun n : Nat => (n : Int)
def cellsN (l : List Nat) : List Value := l.map fun n : Nat => Value.int .i64 (n : Int)
theorem zs_length (l : List Nat) : (zs l).length = l.length := by simp [zs]
theorem cellsN_snoc (l : List Nat) (x : Nat) : cellsN l ++ [.int .i64 (x : Int)] = cellsN (l ++ [x]) := by simp [cellsN]

theorem own_below {w w' : World} {base : Nat} {e : TypeId} {size : Nat} {v : Value} {n : Nat} {xs : List Value} (h : w.ownsRow base e size v n xs) (hb : Below w.heap.size w w') : w'.ownsRow base e size v n xs := by
  obtain ⟨h1, h2⟩ := h
  refine ⟨h1, ?_⟩
  rcases h2 with h2 | ⟨g, cap, cur, hv, hg, hh, r⟩
  · exact .inl h2
  · have hlt : g < w.heap.size := (Array.getElem?_eq_some_iff.1 hh).1
    exact .inr ⟨g, cap, cur, hv, hg, (hb.block g hlt).trans hh, r⟩

theorem Nums.of_own {w : World} {base : Nat} {v : Value} {l : List Nat} (h : w.ownsRow base 3 1 v l.length (cellsN l)) : Nums w.heap.size v (zs l) w := by
  rcases h.2 with ⟨rfl, h0⟩ | ⟨g, cap, cur, rfl, hg, hh, _⟩
  · have : l = [] := List.eq_nil_of_length_eq_zero h0
    subst this
    exact ⟨.inl ⟨rfl, _, _, rfl⟩⟩
  · refine ⟨.inr ⟨g, 0, cap, by rw [zs_length], (Array.getElem?_eq_some_iff.1 hh).1, fun j hj => ?_⟩⟩
    rw [zs_length] at hj
    rw [Nat.zero_add, h.cellAt j (by omega)]
    simp [cellsN, zs, List.getD, List.getElem?_eq_getElem hj]

theorem Nums.form {B : Nat} {v : Value} {z : List Int} {w : World} (h : Nums B v z w) : ∃ a c, v = .slice a z.length c ∧ ∀ j, j < z.length → ∃ g o, a = some ⟨g, o, none⟩ ∧ g < B ∧ w.cell? ⟨g, o + j, none⟩ = some (.int .i64 (z.getD j 0)) := by
  rcases h.is with ⟨rfl, a, c, rfl⟩ | ⟨g, o, c, rfl, h2, h3⟩
  · exact ⟨a, c, rfl, fun j hj => absurd hj (by simp)⟩
  · exact ⟨_, c, rfl, fun j hj => ⟨g, o, rfl, h2, h3 j hj⟩⟩

theorem Nums.wider {B B' : Nat} {v : Value} {z : List Int} {w : World} (h : Nums B v z w) (hB : B ≤ B') : Nums B' v z w := by
  rcases h.is with h | ⟨g, o, c, h1, h2, h3⟩
  · exact ⟨.inl h⟩
  · exact ⟨.inr ⟨g, o, c, h1, by omega, h3⟩⟩

/-- Two lists of the call's own, apart. -/
structure Two (B : Nat) (v1 v2 : Value) (a b : List Nat) (w : World) : Prop where
  o1 : w.ownsRow B 3 1 v1 a.length (cellsN a)
  o2 : w.ownsRow B 3 1 v2 b.length (cellsN b)
  ne : ∀ k, v1.ownBlock = some k → v2.ownBlock ≠ some k

theorem kept_of {v1 v2 : Value} (h : ∀ k, v1.ownBlock = some k → v2.ownBlock ≠ some k) : v2.ownBlock = none ∨ v2.ownBlock ≠ v1.ownBlock := by
  cases h1 : v2.ownBlock with
  | none => exact .inl rfl
  | some k =>
    refine .inr fun e => ?_
    exact h k e.symm h1

theorem info3 : (Tryz.prog.info? 3).map (fun i => (i.zero, i.size, i.bytes)) = some (some (.int .i64 0), 1, 8) := by kernel_rfl

theorem take_sigs (s : ByteArray) (k : Nat) (h : k < Sg.len s) : (Sg.sigs s).take (k + 1) = (Sg.sigs s).take k ++ [Sg.rn s (Sg.pa s k)] := by
  rw [List.take_add_one, Sg.sigs_at s k h]
  rfl
theorem take_ats (s : ByteArray) (k : Nat) (h : k < Sg.len s) : (Sg.ats s).take (k + 1) = (Sg.ats s).take k ++ [Sg.pa s k] := by
  rw [List.take_add_one, Sg.ats_at s k h]
  rfl

theorem first_at (s : ByteArray) (p : Nat) (w : World) (hp : p < s.size) (hs : s.size ≤ 1000000) :
    Calls Tryz.prog 27 #[.string (s.extract p s.size)] w fun e w' => e = .returned (.tuple #[.int .i64 (Sg.rn s p : Nat), .int .i64 (Sg.wd s p : Nat)]) ∧ Below w.heap.size w w' := by
  have h := first_any (s.extract p s.size) w (by simp; omega) (by simp; omega)
  have e : Utf8.decode (s.extract p s.size) 0 = Utf8.decode s p := Lib.tail_decode s p 0
  unfold Sg.rn Sg.wd at h ⊢
  rw [e] at h
  exact h

set_option maxHeartbeats 1600000 in
set_option maxRecDepth 1000000 in
theorem signs_any (s : ByteArray) (w : World) (hs : s.size ≤ 200000) :
    Calls Tryz.prog 17 #[.string s] w fun e w' => ∃ v1 v2, e = .returned (.tuple #[v1, v2]) ∧ Nums w'.heap.size v1 (zs (Sg.sigs s)) w' ∧ Nums w'.heap.size v2 (zs (Sg.ats s)) w' ∧ Below w.heap.size w w' := by
  obtain ⟨i0, hi, hz0, hz1, hz2⟩ := info_parts info3
  go_enter Tryz.func17, Tryz.ntmps17
  go_wp2
  go_loopg [4, 5, 6] s.size (fun gh v4 v5 s6 wr => ∃ k : Nat, s.size - Sg.pa s k ≤ gh ∧ k ≤ Sg.len s ∧ s6 = .int .i64 (Sg.pa s k : Nat) ∧ Two w.heap.size v4 v5 ((Sg.sigs s).take k) ((Sg.ats s).take k) wr ∧ Below w.heap.size w wr)
  case atStart =>
    exact ⟨0, by simp [Sg.pa], by omega, rfl, ⟨World.ownsRow_nil _ _ _ _, World.ownsRow_nil _ _ _ _, fun k h => by cases h⟩, Below.refl _ _⟩
  case round =>
    obtain ⟨k, hgh, hk, rfl, ⟨o1, o2, hne⟩, hbw⟩ := hrel
    have hls := Sg.len_size s
    by_cases hp : k < Sg.len s
    · have hlt := Sg.pa_lt s k hp
      have d1 : decide (Sg.pa s k < s.size) = true := by simpa using hlt
      have hwd := Sg.wd_pos s (Sg.pa s k)
      have hwl := Sg.wd_le s (Sg.pa s k) hlt
      have kf : Aside (∀ u : World, _) := fun u : World => first_at s (Sg.pa s k) u hlt (by omega)
      have tl1 : ((Sg.sigs s).take k).length ≤ k := by simp; omega
      have tl2 : ((Sg.ats s).take k).length ≤ k := by simp; omega
      have hsz := hbw.size
      have e1 := take_sigs s k hp
      have e2 := take_ats s k hp
      generalize ha : (Sg.sigs s).take k = A at *
      generalize hb : (Sg.ats s).take k = Bt at *
      clear ha hb
      have HE : Aside ((Sg.sigs s).take (k + 1) = A ++ [Sg.rn s (Sg.pa s k)] ∧ (Sg.ats s).take (k + 1) = Bt ++ [Sg.pa s k]) := ⟨e1, e2⟩
      clear e1 e2
      go_wp2_with (first
        | (go_at_call 27; refine (kf.out _).mono ?_; rintro e w1 ⟨rfl, hb1⟩; have p1 := own_below o1 hb1; have p2 := own_below o2 hb1; have hsz1 := hb1.size)
        | (at_builtin; refine wpList_append_own_at _ rfl (.tmp 20) (.tmp 22) 41 rfl w.heap.size 3 i0 (.int .i64 0) 1 8 Tryz.underlying41 hi hz0 hz1 hz2 rfl (by decide) _ _ _ rfl (p1.alloc _) ⟨_, 0, none⟩ 1 1 [.int .i64 (Sg.rn s (Sg.pa s k) : Nat)] rfl rfl ?c1 ?c2 ?c3 ?c4 ?c5 ?_))
      case c1 => exact (cell_one_new _ _ _)
      case c2 => intro u hu; simp at hu; subst hu; rfl
      case c3 => unfold maxLen; omega
      case c4 => omega
      case c5 => simp; omega
      intro v4' w2 hown4 hgrow4 _ hloc4
      have q2 := (p2.alloc (.cells #[.int .i64 (Sg.rn s (Sg.pa s k) : Nat)] 3)).kept hgrow4 (kept_of hne)
      have hsz2 := hgrow4.size
      simp at hsz2
      go_wp2_with (at_builtin; refine wpList_append_own_at _ rfl (.tmp 24) (.tmp 26) 41 rfl w.heap.size 3 i0 (.int .i64 0) 1 8 Tryz.underlying41 hi hz0 hz1 hz2 rfl (by decide) _ _ _ rfl (q2.alloc _) ⟨_, 0, none⟩ 1 1 [.int .i64 (Sg.pa s k : Nat)] rfl rfl ?c1 ?c2 ?c3 ?c4 ?c5 ?_)
      case c1 => exact (cell_one_new _ _ _)
      case c2 => intro u hu; simp at hu; subst hu; rfl
      case c3 => unfold maxLen; omega
      case c4 => omega
      case c5 => simp; omega
      intro v5' w3 hown5 hgrow5 _ hloc5
      go_wp2
      have far : ∀ j, v4'.ownBlock = some j → u5.ownBlock ≠ some j := by
        intro j hj hj5
        have h5 := (p2.lt j hj5).2
        rcases hloc4 with h | h
        · exact hne j (h ▸ hj) hj5
        · rw [h] at hj
          have := Option.some.inj hj
          omega
      go_roundg (s.size - Sg.pa s (k + 1))
      case measure => show s.size - (Sg.pa s k + Sg.wd s (Sg.pa s k)) < _; omega
      case rel =>
        obtain ⟨e1, e2⟩ := HE.out
        refine ⟨k + 1, Nat.le_refl _, by omega, by show _ = Value.int .i64 ((Sg.pa s k + Sg.wd s (Sg.pa s k) : Nat) : Int); go_num, ⟨?_, ?_, ?_⟩, ?_⟩
        · rw [e1, ← cellsN_snoc, List.length_append]
          exact (hown4.alloc _).kept hgrow5 (kept_of fun j h4 h5 => far j h5 h4)
        · rw [e2, ← cellsN_snoc, List.length_append]
          exact hown5
        · intro j hj hj5
          rcases hloc5 with h | h
          · exact far j hj (h ▸ hj5)
          · rw [h] at hj5
            have h6 := (hown4.lt j hj).2
            have := Option.some.inj hj5
            omega
        · have b1 := (hbw.trans (hb1.mono hsz)).alloc (by omega) (.cells #[.int .i64 (Sg.rn s (Sg.pa s k) : Nat)] 3)
          have b2 := (b1.grown hgrow4 (by simp; omega) (fun j hj => (p1.lt j hj).1)).alloc (by omega) (.cells #[.int .i64 (Sg.pa s k : Nat)] 3)
          exact b2.grown hgrow5 (by simp; omega) (fun j hj => (q2.lt j hj).1)
    · obtain rfl : k = Sg.len s := by omega
      have d1 : decide (Sg.pa s (Sg.len s) < s.size) = false := by rw [Sg.pa_end]; simp
      rw [List.take_of_length_le (by rw [Sg.sigs_length]; omega)] at o1
      rw [List.take_of_length_le (by rw [Sg.ats_length]; omega)] at o2
      go_wp2
      go_ret2
      exact ⟨_, _, rfl, Nums.of_own o1, Nums.of_own o2, hbw⟩
end Go.Proofs.YtpeioecpilmpiaaGreatDoor.Si
