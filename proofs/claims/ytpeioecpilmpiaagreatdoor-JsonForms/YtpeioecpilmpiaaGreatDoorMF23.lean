/-
  YtpeioecpilmpiaaGreatDoor: the texts SF2, D6, D10, one behind the other.
-/
import Derived.Test.YtpeioecpilmpiaaGreatDoorMF22
import Derived.Maps.AppendAt
import Derived.Test.YtpeioecpilmpiaaGreatDoorMF21
import Derived.Laws.BytesArg
import Derived.WalkKit
import Derived.WalkSpells
import Derived.WalkLawsBesides
import Derived.Deep.LoopGhost
import Derived.Laws.Externs
import Derived.Below
import Derived.BigQuiet
import Derived.Deep.RegionWith
import Derived.OwnWalk
import Derived.WalkSmall
/-
  The document's own list of the signs, and of where each begins.
-/
namespace Go.Proofs.YtpeioecpilmpiaaGreatDoor.Si
open Go.RowKit

def zs (l : List Nat) : List Int := l.map fun n : Nat => (n : Int)
def cellsN (l : List Nat) : List Value := l.map fun n : Nat => Value.int .i64 (n : Int)
theorem zs_length (l : List Nat) : (zs l).length = l.length := by simp [zs]
theorem cellsN_snoc (l : List Nat) (x : Nat) : cellsN l ++ [.int .i64 (x : Int)] = cellsN (l ++ [x]) := by simp [cellsN]

theorem own_below {w w' : World} {base : Nat} {e : TypeId} {size : Nat} {v : Value} {n : Nat} {xs : List Value} (h : w.ownsRow base e size v n xs) (hb : Below w.heap.size w w') : w'.ownsRow base e size v n xs := by
  obtain ⟨h1, h2⟩ := h
  refine ⟨h1, ?_⟩
  rcases h2 with h2 | ⟨g, cap, cur, hv, hg, hh, r⟩
  · exact .inl h2
  · have hlt : g < w.heap.size := (Array.getElem?_eq_some_iff.1 hh).1
    exact .inr ⟨g, cap, cur, hv, hg, (hb.block g hlt).trans hh, r⟩

theorem Nums.of_own {w : World} {base : Nat} {v : Value} {l : List Nat} (h : w.ownsRow base 3 1 v l.length (cellsN l)) : Nums w.heap.size v (zs l) w := by
  rcases h.2 with ⟨rfl, h0⟩ | ⟨g, cap, cur, rfl, hg, hh, _⟩
  · have : l = [] := List.eq_nil_of_length_eq_zero h0
    subst this
    exact ⟨.inl ⟨rfl, _, _, rfl⟩⟩
  · refine ⟨.inr ⟨g, 0, cap, by rw [zs_length], (Array.getElem?_eq_some_iff.1 hh).1, fun j hj => ?_⟩⟩
    rw [zs_length] at hj
    rw [Nat.zero_add, h.cellAt j (by omega)]
    simp [cellsN, zs, List.getD, List.getElem?_eq_getElem hj]

theorem Nums.form {B : Nat} {v : Value} {z : List Int} {w : World} (h : Nums B v z w) : ∃ a c, v = .slice a z.length c ∧ ∀ j, j < z.length → ∃ g o, a = some ⟨g, o, none⟩ ∧ g < B ∧ w.cell? ⟨g, o + j, none⟩ = some (.int .i64 (z.getD j 0)) := by
  rcases h.is with ⟨rfl, a, c, rfl⟩ | ⟨g, o, c, rfl, h2, h3⟩
  · exact ⟨a, c, rfl, fun j hj => absurd hj (by simp)⟩
  · exact ⟨_, c, rfl, fun j hj => ⟨g, o, rfl, h2, h3 j hj⟩⟩

theorem Nums.wider {B B' : Nat} {v : Value} {z : List Int} {w : World} (h : Nums B v z w) (hB : B ≤ B') : Nums B' v z w := by
  rcases h.is with h | ⟨g, o, c, h1, h2, h3⟩
  · exact ⟨.inl h⟩
  · exact ⟨.inr ⟨g, o, c, h1, by omega, h3⟩⟩

/-- Two lists of the call's own, apart. -/
structure Two (B : Nat) (v1 v2 : Value) (a b : List Nat) (w : World) : Prop where
  o1 : w.ownsRow B 3 1 v1 a.length (cellsN a)
  o2 : w.ownsRow B 3 1 v2 b.length (cellsN b)
  ne : ∀ k, v1.ownBlock = some k → v2.ownBlock ≠ some k

theorem kept_of {v1 v2 : Value} (h : ∀ k, v1.ownBlock = some k → v2.ownBlock ≠ some k) : v2.ownBlock = none ∨ v2.ownBlock ≠ v1.ownBlock := by
  cases h1 : v2.ownBlock with
  | none => exact .inl rfl
  | some k =>
    refine .inr fun e => ?_
    exact h k e.symm h1

theorem info3 : (Tryz.prog.info? 3).map (fun i => (i.zero, i.size, i.bytes)) = some (some (.int .i64 0), 1, 8) := by kernel_rfl

theorem take_sigs (s : ByteArray) (k : Nat) (h : k < Sg.len s) : (Sg.sigs s).take (k + 1) = (Sg.sigs s).take k ++ [Sg.rn s (Sg.pa s k)] := by
  rw [List.take_add_one, Sg.sigs_at s k h]
  rfl
theorem take_ats (s : ByteArray) (k : Nat) (h : k < Sg.len s) : (Sg.ats s).take (k + 1) = (Sg.ats s).take k ++ [Sg.pa s k] := by
  rw [List.take_add_one, Sg.ats_at s k h]
  rfl

theorem first_at (s : ByteArray) (p : Nat) (w : World) (hp : p < s.size) (hs : s.size ≤ 1000000) :
    Calls Tryz.prog 27 #[.string (s.extract p s.size)] w fun e w' => e = .returned (.tuple #[.int .i64 (Sg.rn s p : Nat), .int .i64 (Sg.wd s p : Nat)]) ∧ Below w.heap.size w w' := by
  have h := first_any (s.extract p s.size) w (by simp; omega) (by simp; omega)
  have e : Utf8.decode (s.extract p s.size) 0 = Utf8.decode s p := Lib.tail_decode s p 0
  unfold Sg.rn Sg.wd at h ⊢
  rw [e] at h
  exact h

set_option maxHeartbeats 1600000 in
set_option maxRecDepth 1000000 in
theorem signs_any (s : ByteArray) (w : World) (hs : s.size ≤ 200000) :
    Calls Tryz.prog 17 #[.string s] w fun e w' => ∃ v1 v2, e = .returned (.tuple #[v1, v2]) ∧ Nums w'.heap.size v1 (zs (Sg.sigs s)) w' ∧ Nums w'.heap.size v2 (zs (Sg.ats s)) w' ∧ Below w.heap.size w w' := by
  obtain ⟨i0, hi, hz0, hz1, hz2⟩ := info_parts info3
  go_enter Tryz.func17, Tryz.ntmps17
  go_wp2
  go_loopg [4, 5, 6] s.size (fun gh v4 v5 s6 wr => ∃ k : Nat, s.size - Sg.pa s k ≤ gh ∧ k ≤ Sg.len s ∧ s6 = .int .i64 (Sg.pa s k : Nat) ∧ Two w.heap.size v4 v5 ((Sg.sigs s).take k) ((Sg.ats s).take k) wr ∧ Below w.heap.size w wr)
  case atStart =>
    exact ⟨0, by simp [Sg.pa], by omega, rfl, ⟨World.ownsRow_nil _ _ _ _, World.ownsRow_nil _ _ _ _, fun k h => by cases h⟩, Below.refl _ _⟩
  case round =>
    obtain ⟨k, hgh, hk, rfl, ⟨o1, o2, hne⟩, hbw⟩ := hrel
    have hls := Sg.len_size s
    by_cases hp : k < Sg.len s
    · have hlt := Sg.pa_lt s k hp
      have d1 : decide (Sg.pa s k < s.size) = true := by simpa using hlt
      have hwd := Sg.wd_pos s (Sg.pa s k)
      have hwl := Sg.wd_le s (Sg.pa s k) hlt
      have kf : Aside (∀ u : World, _) := fun u : World => first_at s (Sg.pa s k) u hlt (by omega)
      have tl1 : ((Sg.sigs s).take k).length ≤ k := by simp; omega
      have tl2 : ((Sg.ats s).take k).length ≤ k := by simp; omega
      have hsz := hbw.size
      have e1 := take_sigs s k hp
      have e2 := take_ats s k hp
      generalize ha : (Sg.sigs s).take k = A at *
      generalize hb : (Sg.ats s).take k = Bt at *
      clear ha hb
      have HE : Aside ((Sg.sigs s).take (k + 1) = A ++ [Sg.rn s (Sg.pa s k)] ∧ (Sg.ats s).take (k + 1) = Bt ++ [Sg.pa s k]) := ⟨e1, e2⟩
      clear e1 e2
      go_wp2_with (first
        | (go_at_call 27; refine (kf.out _).mono ?_; rintro e w1 ⟨rfl, hb1⟩; have p1 := own_below o1 hb1; have p2 := own_below o2 hb1; have hsz1 := hb1.size)
        | (at_builtin; refine wpList_append_own_at _ rfl (.tmp 20) (.tmp 22) 41 rfl w.heap.size 3 i0 (.int .i64 0) 1 8 Tryz.underlying41 hi hz0 hz1 hz2 rfl (by decide) _ _ _ rfl (p1.alloc _) ⟨_, 0, none⟩ 1 1 [.int .i64 (Sg.rn s (Sg.pa s k) : Nat)] rfl rfl ?c1 ?c2 ?c3 ?c4 ?c5 ?_))
      case c1 => exact (cell_one_new _ _ _)
      case c2 => intro u hu; simp at hu; subst hu; rfl
      case c3 => unfold maxLen; omega
      case c4 => omega
      case c5 => simp; omega
      intro v4' w2 hown4 hgrow4 _ hloc4
      have q2 := (p2.alloc (.cells #[.int .i64 (Sg.rn s (Sg.pa s k) : Nat)] 3)).kept hgrow4 (kept_of hne)
      have hsz2 := hgrow4.size
      simp at hsz2
      go_wp2_with (at_builtin; refine wpList_append_own_at _ rfl (.tmp 24) (.tmp 26) 41 rfl w.heap.size 3 i0 (.int .i64 0) 1 8 Tryz.underlying41 hi hz0 hz1 hz2 rfl (by decide) _ _ _ rfl (q2.alloc _) ⟨_, 0, none⟩ 1 1 [.int .i64 (Sg.pa s k : Nat)] rfl rfl ?c1 ?c2 ?c3 ?c4 ?c5 ?_)
      case c1 => exact (cell_one_new _ _ _)
      case c2 => intro u hu; simp at hu; subst hu; rfl
      case c3 => unfold maxLen; omega
      case c4 => omega
      case c5 => simp; omega
      intro v5' w3 hown5 hgrow5 _ hloc5
      go_wp2
      have far : ∀ j, v4'.ownBlock = some j → u5.ownBlock ≠ some j := by
        intro j hj hj5
        have h5 := (p2.lt j hj5).2
        rcases hloc4 with h | h
        · exact hne j (h ▸ hj) hj5
        · rw [h] at hj
          have := Option.some.inj hj
          omega
      go_roundg (s.size - Sg.pa s (k + 1))
      case measure => show s.size - (Sg.pa s k + Sg.wd s (Sg.pa s k)) < _; omega
      case rel =>
        obtain ⟨e1, e2⟩ := HE.out
        refine ⟨k + 1, Nat.le_refl _, by omega, by show _ = Value.int .i64 ((Sg.pa s k + Sg.wd s (Sg.pa s k) : Nat) : Int); go_num, ⟨?_, ?_, ?_⟩, ?_⟩
        · rw [e1, ← cellsN_snoc, List.length_append]
          exact (hown4.alloc _).kept hgrow5 (kept_of fun j h4 h5 => far j h5 h4)
        · rw [e2, ← cellsN_snoc, List.length_append]
          exact hown5
        · intro j hj hj5
          rcases hloc5 with h | h
          · exact far j hj (h ▸ hj5)
          · rw [h] at hj5
            have h6 := (hown4.lt j hj).2
            have := Option.some.inj hj5
            omega
        · have b1 := (hbw.trans (hb1.mono hsz)).alloc (by omega) (.cells #[.int .i64 (Sg.rn s (Sg.pa s k) : Nat)] 3)
          have b2 := (b1.grown hgrow4 (by simp; omega) (fun j hj => (p1.lt j hj).1)).alloc (by omega) (.cells #[.int .i64 (Sg.pa s k : Nat)] 3)
          exact b2.grown hgrow5 (by simp; omega) (fun j hj => (q2.lt j hj).1)
    · obtain rfl : k = Sg.len s := by omega
      have d1 : decide (Sg.pa s (Sg.len s) < s.size) = false := by rw [Sg.pa_end]; simp
      rw [List.take_of_length_le (by rw [Sg.sigs_length]; omega)] at o1
      rw [List.take_of_length_le (by rw [Sg.ats_length]; omega)] at o2
      go_wp2
      go_ret2
      exact ⟨_, _, rfl, Nums.of_own o1, Nums.of_own o2, hbw⟩
end Go.Proofs.YtpeioecpilmpiaaGreatDoor.Si

/-
  The document's own bytes of a sign.
-/
namespace Go.Proofs.YtpeioecpilmpiaaGreatDoor
open Go.RowKit
theorem dconv (w : World) (l : List Int) :
    (convert 92 9 (.slice (some ⟨w.heap.size, 0, none⟩) l.length l.length)).run Tryz.prog (w.alloc (.cells (l.map (Value.int .u8)).toArray 5)) =
      .ok (.string (strOfNums l)) (w.alloc (.cells (l.map (Value.int .u8)).toArray 5)) := by
  refine run_convert_bytes_arg _ 92 5 Tryz.underlying92 Tryz.underlying5 w.heap.size 0 l.length l.length _ rfl (fun i hi => ?_) 9 Tryz.underlying9
  have h1 := heap_alloc_new w (.cells (l.map (Value.int .u8)).toArray 5)
  rw [Lib.cell_of_heap h1]
  simp [List.getElem?_eq_getElem hi]

theorem strOf_rune (n : Int) : strOfNums (Lib.encodeRuneZ n) = ⟨(Lib.encodeRune n).toArray⟩ := rfl

theorem dbytes_one (n : Nat) (w : World) (h' : n < 128) :
    Calls Tryz.prog 77 #[.int .i64 (n : Int)] w fun e w' => e = .returned (.string ⟨(Lib.encodeRune n).toArray⟩) ∧ Below w.heap.size w w' := by
  have d0 : decide ((n : Int) < 128) = true := by simp; omega
  have hc := dconv w [(n : Int)]
  rw [← Lib.encodeRuneZ_one (by omega) (by omega), strOf_rune, Lib.encodeRuneZ_one (by omega) (by omega)] at hc
  simp only [List.length_cons, List.length_nil, Nat.zero_add, List.map_cons, List.map_nil] at hc
  go_enter Tryz.func77, Tryz.ntmps77
  go_wp2
  go_ret
  exact ⟨rfl, (Below.refl _ _).alloc (Nat.le_refl _) _⟩

theorem dbytes_two (n : Nat) (w : World) (h : 128 ≤ n) (h' : n < 2048) :
    Calls Tryz.prog 77 #[.int .i64 (n : Int)] w fun e w' => e = .returned (.string ⟨(Lib.encodeRune n).toArray⟩) ∧ Below w.heap.size w w' := by
  have d0 : decide ((n : Int) < 128) = false := by simp; omega
  have d1 : decide ((n : Int) < 2048) = true := by simp; omega
  have hc := dconv w [192 + (n : Int) / 64, 128 + (n : Int) % 64]
  rw [← Lib.encodeRuneZ_two (by omega) (by omega), strOf_rune, Lib.encodeRuneZ_two (by omega) (by omega)] at hc
  simp only [List.length_cons, List.length_nil, Nat.zero_add, Nat.reduceAdd, List.map_cons, List.map_nil] at hc
  go_enter Tryz.func77, Tryz.ntmps77
  go_wp2
  go_ret
  exact ⟨rfl, (Below.refl _ _).alloc (Nat.le_refl _) _⟩

theorem dbytes_three (n : Nat) (w : World) (h : 2048 ≤ n) (h' : n < 65536) (hs : n < 55296 ∨ 57343 < n) :
    Calls Tryz.prog 77 #[.int .i64 (n : Int)] w fun e w' => e = .returned (.string ⟨(Lib.encodeRune n).toArray⟩) ∧ Below w.heap.size w w' := by
  have d0 : decide ((n : Int) < 128) = false := by simp; omega
  have d1 : decide ((n : Int) < 2048) = false := by simp; omega
  have d2 : decide ((n : Int) < 65536) = true := by simp; omega
  have hc := dconv w [224 + (n : Int) / 4096, 128 + (n : Int) / 64 % 64, 128 + (n : Int) % 64]
  rw [← Lib.encodeRuneZ_three (by omega), strOf_rune, Lib.encodeRuneZ_three (by omega)] at hc
  simp only [List.length_cons, List.length_nil, Nat.zero_add, Nat.reduceAdd, List.map_cons, List.map_nil] at hc
  go_enter Tryz.func77, Tryz.ntmps77
  go_wp2
  go_ret
  exact ⟨rfl, (Below.refl _ _).alloc (Nat.le_refl _) _⟩

theorem dbytes_four (n : Nat) (w : World) (h : 65536 ≤ n) (h' : n ≤ 1114111) :
    Calls Tryz.prog 77 #[.int .i64 (n : Int)] w fun e w' => e = .returned (.string ⟨(Lib.encodeRune n).toArray⟩) ∧ Below w.heap.size w w' := by
  have d0 : decide ((n : Int) < 128) = false := by simp; omega
  have d1 : decide ((n : Int) < 2048) = false := by simp; omega
  have d2 : decide ((n : Int) < 65536) = false := by simp; omega
  have hc := dconv w [240 + (n : Int) / 262144, 128 + (n : Int) / 4096 % 64, 128 + (n : Int) / 64 % 64, 128 + (n : Int) % 64]
  rw [← Lib.encodeRuneZ_four (by omega) (by omega), strOf_rune, Lib.encodeRuneZ_four (by omega) (by omega)] at hc
  simp only [List.length_cons, List.length_nil, Nat.zero_add, Nat.reduceAdd, List.map_cons, List.map_nil] at hc
  go_enter Tryz.func77, Tryz.ntmps77
  go_wp2
  go_ret
  exact ⟨rfl, (Below.refl _ _).alloc (Nat.le_refl _) _⟩

theorem dbytes_any (n : Nat) (w : World) (h : n < 55296 ∨ (57343 < n ∧ n ≤ 1114111)) :
    Calls Tryz.prog 77 #[.int .i64 (n : Int)] w fun e w' => e = .returned (.string ⟨(Lib.encodeRune n).toArray⟩) ∧ Below w.heap.size w w' := by
  by_cases h1 : n < 128
  · exact dbytes_one n w h1
  by_cases h2 : n < 2048
  · exact dbytes_two n w (by omega) h2
  by_cases h3 : n < 65536
  · exact dbytes_three n w (by omega) h3 (by omega)
  · exact dbytes_four n w (by omega) (by omega)

theorem denc_len (n : Int) : (Lib.encodeRune n).length ≤ 4 := by
  have := (Lib.runeCells_le n).2
  rw [Lib.runeCells_length] at this
  exact this
end Go.Proofs.YtpeioecpilmpiaaGreatDoor

/-
  The document's own form of a string.
-/
namespace Go.Proofs.YtpeioecpilmpiaaGreatDoor
open Go.RowKit
def HEX : ByteArray := ⟨#[48, 49, 50, 51, 52, 53, 54, 55, 56, 57, 97, 98, 99, 100, 101, 102]⟩
theorem hex_cut : ∀ i : Fin 16, (ByteArray.extract ⟨#[48, 49, 50, 51, 52, 53, 54, 55, 56, 57, 97, 98, 99, 100, 101, 102]⟩ i.val (i.val + 1)).data.toList = [Js.hx i.val] := by decide +kernel
theorem hex_at (n : Nat) (h : n < 16) : ByteArray.extract ⟨#[48, 49, 50, 51, 52, 53, 54, 55, 56, 57, 97, 98, 99, 100, 101, 102]⟩ n (n + 1) = bs [Js.hx n] := by
  apply ByteArray.ext
  apply Array.toList_inj.1
  exact hex_cut ⟨n, h⟩
theorem cut_one (s : ByteArray) (k : Nat) (h : k < s.size) : s.extract k (k + 1) = bs [s[k]] := by
  apply ByteArray.ext
  apply Array.toList_inj.1
  rw [ext_take, L_cons s k h, get_at s k h]
  simp
theorem bs_bs (a b : Js.B) : bs a ++ bs b = bs (a ++ b) := by
  apply ByteArray.ext
  rw [ByteArray.data_append]
  simp
/-- The form so far. -/
def QF (s : ByteArray) (k : Nat) : Js.B := 34 :: (s.data.toList.take k).flatMap Js.qb
theorem QF_next (s : ByteArray) (k : Nat) (h : k < s.size) : QF s (k + 1) = QF s k ++ Js.qb s[k] := by
  unfold QF
  have hk : k < s.data.toList.length := h
  rw [List.take_succ_eq_append_getElem hk]
  simp
  rfl
theorem qb_len (b : UInt8) : (Js.qb b).length ≤ 6 := by
  unfold Js.qb
  repeat' split
  all_goals simp
theorem QF_len (s : ByteArray) : ∀ k, k ≤ s.size → (QF s k).length ≤ 1 + 6 * k
  | 0, _ => by simp [QF]
  | k + 1, h => by
    rw [QF_next s k (by omega), List.length_append]
    have := QF_len s k (by omega)
    have := qb_len s[k]
    omega
theorem QF_all (s : ByteArray) : QF s s.size ++ [34] = Js.quote s.data.toList := by
  unfold QF Js.quote
  have e : s.data.toList.take s.size = s.data.toList := List.take_of_length_le (Nat.le_refl s.data.toList.length)
  rw [e]

set_option maxHeartbeats 4000000 in
set_option maxRecDepth 100000 in
theorem dquote_any (s : ByteArray) (w : World) (hs : s.size ≤ 10000) :
    Calls Tryz.prog 19 #[.string s] w fun en w' => en = .returned (.string (bs (Js.quote s.data.toList))) ∧ Below w.heap.size w w' := by
  go_enter Tryz.func19, Tryz.ntmps19
  go_wp2
  go_loopg [4, 5] s.size (fun gh s4 s5 wr => ∃ k : Nat, s.size - k ≤ gh ∧ k ≤ s.size ∧ s5 = .int .i64 (k : Int) ∧ s4 = .string (bs (QF s k)) ∧ Below w.heap.size w wr)
  case atStart => exact ⟨0, by omega, by omega, rfl, rfl, Below.refl _ _⟩
  case round =>
    obtain ⟨k, hgh, hk, rfl, rfl, hbw⟩ := hrel
    by_cases hlt : k < s.size
    · have d2 : decide (k < s.size) = true := by simpa using hlt
      have NX := asd (QF_next s k hlt)
      have c1 := cut_one s k hlt
      have zl : (bs (QF s k)).size ≤ 60001 := by
        have := QF_len s k hk
        show (bs (QF s k)).data.size ≤ _
        simp only []
        show (QF s k).length ≤ _
        omega
      generalize hgx : s[k] = x at *
      have hx := x.toNat_lt
      have CT := asd (fun l => bs_bs (QF s k) l)
      generalize bs (QF s k) = A at *
      by_cases b34 : x.toNat = 34
      · obtain rfl : x = 34 := UInt8.toNat_inj.1 b34
        have cc : A ++ (⟨#[92]⟩ : ByteArray) ++ bs [34] = bs (QF s (k + 1)) := by
          rw [NX.out, show Js.qb 34 = [92, 34] by rfl, ← CT.out, ByteArray.append_assoc]
          rfl
        clear NX CT
        go_wp2
        go_roundg (s.size - (k + 1))
        case measure => omega
        case rel => exact ⟨k + 1, Nat.le_refl _, hlt, by go_num, by first | rfl | rw [← cc] | (rw [cc]), hbw⟩
      · skip
        by_cases b92 : x.toNat = 92
        · obtain rfl : x = 92 := UInt8.toNat_inj.1 b92
          have cc : A ++ (⟨#[92]⟩ : ByteArray) ++ bs [92] = bs (QF s (k + 1)) := by
            rw [NX.out, show Js.qb 92 = [92, 92] by rfl, ← CT.out, ByteArray.append_assoc]
            rfl
          clear NX CT
          go_wp2
          go_roundg (s.size - (k + 1))
          case measure => omega
          case rel => exact ⟨k + 1, Nat.le_refl _, hlt, by go_num, by first | rfl | rw [← cc] | (rw [cc]), hbw⟩
        · skip
          by_cases b8 : x.toNat = 8
          · obtain rfl : x = 8 := UInt8.toNat_inj.1 b8
            have cc : A ++ (⟨#[92, 98]⟩ : ByteArray) = bs (QF s (k + 1)) := by
              rw [NX.out, show Js.qb 8 = [92, 98] by rfl, ← CT.out]
            clear NX CT
            go_wp2
            go_roundg (s.size - (k + 1))
            case measure => omega
            case rel => exact ⟨k + 1, Nat.le_refl _, hlt, by go_num, by first | rfl | rw [← cc] | (rw [cc]), hbw⟩
          · skip
            by_cases b9 : x.toNat = 9
            · obtain rfl : x = 9 := UInt8.toNat_inj.1 b9
              have cc : A ++ (⟨#[92, 116]⟩ : ByteArray) = bs (QF s (k + 1)) := by
                rw [NX.out, show Js.qb 9 = [92, 116] by rfl, ← CT.out]
              clear NX CT
              go_wp2
              go_roundg (s.size - (k + 1))
              case measure => omega
              case rel => exact ⟨k + 1, Nat.le_refl _, hlt, by go_num, by first | rfl | rw [← cc] | (rw [cc]), hbw⟩
            · skip
              by_cases b10 : x.toNat = 10
              · obtain rfl : x = 10 := UInt8.toNat_inj.1 b10
                have cc : A ++ (⟨#[92, 110]⟩ : ByteArray) = bs (QF s (k + 1)) := by
                  rw [NX.out, show Js.qb 10 = [92, 110] by rfl, ← CT.out]
                clear NX CT
                go_wp2
                go_roundg (s.size - (k + 1))
                case measure => omega
                case rel => exact ⟨k + 1, Nat.le_refl _, hlt, by go_num, by first | rfl | rw [← cc] | (rw [cc]), hbw⟩
              · skip
                by_cases b12 : x.toNat = 12
                · obtain rfl : x = 12 := UInt8.toNat_inj.1 b12
                  have cc : A ++ (⟨#[92, 102]⟩ : ByteArray) = bs (QF s (k + 1)) := by
                    rw [NX.out, show Js.qb 12 = [92, 102] by rfl, ← CT.out]
                  clear NX CT
                  go_wp2
                  go_roundg (s.size - (k + 1))
                  case measure => omega
                  case rel => exact ⟨k + 1, Nat.le_refl _, hlt, by go_num, by first | rfl | rw [← cc] | (rw [cc]), hbw⟩
                · skip
                  by_cases b13 : x.toNat = 13
                  · obtain rfl : x = 13 := UInt8.toNat_inj.1 b13
                    have cc : A ++ (⟨#[92, 114]⟩ : ByteArray) = bs (QF s (k + 1)) := by
                      rw [NX.out, show Js.qb 13 = [92, 114] by rfl, ← CT.out]
                    clear NX CT
                    go_wp2
                    go_roundg (s.size - (k + 1))
                    case measure => omega
                    case rel => exact ⟨k + 1, Nat.le_refl _, hlt, by go_num, by first | rfl | rw [← cc] | (rw [cc]), hbw⟩
                  · skip
                    have t34 : ((x.toNat : Int) == 34) = false := by rw [beq_eq_false_iff_ne]; omega
                    have u34 : ¬ ((x.toNat : Int) = 34) := by omega
                    have t92 : ((x.toNat : Int) == 92) = false := by rw [beq_eq_false_iff_ne]; omega
                    have u92 : ¬ ((x.toNat : Int) = 92) := by omega
                    have t8 : ((x.toNat : Int) == 8) = false := by rw [beq_eq_false_iff_ne]; omega
                    have u8 : ¬ ((x.toNat : Int) = 8) := by omega
                    have t9 : ((x.toNat : Int) == 9) = false := by rw [beq_eq_false_iff_ne]; omega
                    have u9 : ¬ ((x.toNat : Int) = 9) := by omega
                    have t10 : ((x.toNat : Int) == 10) = false := by rw [beq_eq_false_iff_ne]; omega
                    have u10 : ¬ ((x.toNat : Int) = 10) := by omega
                    have t12 : ((x.toNat : Int) == 12) = false := by rw [beq_eq_false_iff_ne]; omega
                    have u12 : ¬ ((x.toNat : Int) = 12) := by omega
                    have t13 : ((x.toNat : Int) == 13) = false := by rw [beq_eq_false_iff_ne]; omega
                    have u13 : ¬ ((x.toNat : Int) = 13) := by omega
                    have hn : ∀ c : UInt8, x.toNat ≠ c.toNat → ¬ x = c := fun c hc e => hc (by rw [e])
                    by_cases h32 : x.toNat < 32
                    · have d3 : decide ((x.toNat : Int) < 32) = true := by simp; omega
                      have eq : Js.qb x = [92, 117, 48, 48, Js.hx (x.toNat / 16), Js.hx (x.toNat % 16)] := by
                        unfold Js.qb
                        rw [if_neg (by rintro (e | e); exact hn 34 b34 e; exact hn 92 b92 e), if_neg (hn 8 b8), if_neg (hn 9 b9), if_neg (hn 10 b10), if_neg (hn 12 b12), if_neg (hn 13 b13), if_pos h32]
                      have h1 := hex_at (x.toNat / 16) (by omega)
                      have h2 := hex_at (x.toNat % 16) (by omega)
                      have cc : A ++ (⟨#[92, 117, 48, 48]⟩ : ByteArray) ++ bs [Js.hx (x.toNat / 16)] ++ bs [Js.hx (x.toNat % 16)] = bs (QF s (k + 1)) := by
                        rw [NX.out, eq, ← CT.out, ByteArray.append_assoc, ByteArray.append_assoc]
                        rfl
                      clear NX CT eq hn b34 b92 b8 b9 b10 b12 b13
                      go_wp2
                      go_quiet (fail)
                      go_wp2
                      go_roundg (s.size - (k + 1))
                      case measure => omega
                      case rel => exact ⟨k + 1, Nat.le_refl _, hlt, by go_num, by first | rfl | rw [← cc] | (rw [cc]), Go.below_drewN hbw _⟩
                    · have d3 : decide ((x.toNat : Int) < 32) = false := by simp; omega
                      have eq : Js.qb x = [x] := by
                        unfold Js.qb
                        rw [if_neg (by rintro (e | e); exact hn 34 b34 e; exact hn 92 b92 e), if_neg (hn 8 b8), if_neg (hn 9 b9), if_neg (hn 10 b10), if_neg (hn 12 b12), if_neg (hn 13 b13), if_neg h32]
                      have cc : A ++ bs [x] = bs (QF s (k + 1)) := by rw [NX.out, eq, ← CT.out]
                      clear NX CT eq hn b34 b92 b8 b9 b10 b12 b13
                      go_wp2
                      go_roundg (s.size - (k + 1))
                      case measure => omega
                      case rel => exact ⟨k + 1, Nat.le_refl _, hlt, by go_num, by first | rfl | rw [← cc] | (rw [cc]), hbw⟩
    · obtain rfl : k = s.size := by omega
      have d2 : decide (s.size < s.size) = false := by simp
      have CT := bs_bs (QF s s.size) [34]
      rw [QF_all] at CT
      have zl : (bs (QF s s.size)).size ≤ 60001 := by
        have := QF_len s s.size hk
        show (bs (QF s s.size)).data.size ≤ _
        simp only []
        show (QF s s.size).length ≤ _
        omega
      have cc : bs (QF s s.size) ++ (⟨#[34]⟩ : ByteArray) = bs (Js.quote s.data.toList) := CT
      clear CT
      generalize bs (QF s s.size) = A at *
      go_wp2
      go_ret
      exact ⟨by first | rfl | rw [← cc] | (rw [cc]; rfl), hbw⟩
end Go.Proofs.YtpeioecpilmpiaaGreatDoor
