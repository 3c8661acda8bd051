/-
  YtpeioecpilmpiaaGreatDoor: the texts J25, Q1, D1, D2, D3, one behind the other.
-/
import Derived.Test.YtpeioecpilmpiaaGreatDoorMF19
import Derived.Deep.RegionHeld3
import Derived.WalkKit
import Derived.WalkSpells
import Derived.WalkLawsBesides
import Derived.Deep.LoopGhost
import Derived.Laws.Externs
import Derived.Below
import Derived.BigQuiet
import Derived.Deep.RegionWith
import Derived.OwnWalk
import Derived.Maps.AppendAt
import Derived.WalkSmall
import Derived.Test.YtpeioecpilmpiaaGreatDoorMF16
/-
  Names.
-/
namespace Go.Proofs.YtpeioecpilmpiaaGreatDoor
open Go.RowKit
/-- Names, by plain data. -/
def namesP (b : Js.B) : List Js.B := match Js.of b with
  | .ok x => if x.kind = 6 then x.names else []
  | .error _ => []
theorem namesP_err {b : Js.B} {e : Nat} (h : Js.of b = .error e) : namesP b = [] := by unfold namesP; rw [h]
theorem namesP_no {b : Js.B} {x : Js.X} (h : Js.of b = .ok x) (hn : ¬ x.kind = 6) : namesP b = [] := by
  unfold namesP
  rw [h]
  simp only [if_neg hn]
theorem namesP_yes {b : Js.B} {l : List (Js.B × Js.X)} (h : Js.of b = .ok (Js.mkObj l)) : namesP b = l.map (·.1) := by
  unfold namesP
  rw [h]
  rfl
/-- The answer of Names. -/
def NmA (ls : List Js.B) (w : World) (e : Ending) (w' : World) : Prop := ∃ v, e = .returned v ∧ w'.ownsRow w.heap.size 9 1 v ls.length (strs ls)
theorem NmA.nil (w w' : World) : NmA [] w (.returned (.slice none 0 0)) w' := ⟨_, rfl, World.ownsRow_nil _ _ _ _⟩

set_option maxHeartbeats 3200000 in
set_option maxRecDepth 100000 in
theorem Names_any (s : ByteArray) (w : World) (hs : s.size ≤ 1000000) :
    Calls Tryz.prog 10 #[.string s] w fun e w' => NmA (namesP s.data.toList) w e w' ∧ Below w.heap.size w w' := by
  cases hof : Js.of s.data.toList with
  | error e =>
    have R := asd (read_err s w hs e hof)
    have EQ := asd (namesP_err hof)
    clear hof
    have n55 := asN_55
    rw [EQ.out]
    go_enter Tryz.func10, Tryz.ntmps10
    go_wp2_with (go_at_call 21; refine R.out.mono ?_; rintro en w2 ⟨rfl, hne, b2⟩)
    go_loopg [7, 9, 22] 0 (fun gh s7 s9 s22 wr => s7 = .slice none 0 0 ∧ s22 = .int .i64 0 ∧ Aside (wr = w2))
    case atStart => exact ⟨rfl, rfl, rfl⟩
    case round =>
      obtain ⟨rfl, rfl, hw⟩ := hrel
      go_wp2
      go_ret
      exact ⟨NmA.nil _ _, by rw [hw.out]; exact b2⟩
  | ok x =>
    have R := asd (read_six s w hs x hof)
    have EP : Aside (Js.of s.data.toList = .ok x) := hof
    have HB : Aside (x.form.length ≤ 400) := by
      show _ ≤ _
      have := Js.of_bd _ _ hof
      omega
    clear hof
    by_cases hk : x.kind = 6
    · have HK := asd hk
      have a55 := as55_55
      clear hk
      go_enter Tryz.func10, Tryz.ntmps10
      go_wp2_with (go_at_call 21; refine R.out.mono ?_; rintro en w2 ⟨⟨v, rfl, S⟩, b2⟩; obtain ⟨l, ms, ao, cap, rfl, rfl, S5⟩ := S.obj HK.out)
      have EQ := asd (namesP_yes EP.out)
      have HN : Aside (l.length ≤ 1000) := by
        show _ ≤ _
        have hcnt := count_le (l.map Js.pairB)
        rw [List.length_map] at hcnt
        have hjl : (Js.joins (l.map Js.pairB)).length + 2 = (Js.mkObj l).form.length := by simp [Js.mkObj]
        have hb := HB.out
        omega
      have AT := asd (fun (i : Nat) (hlt : i < l.length) => mem_at S5.out i hlt)
      have B2 := asd b2
      clear b2 S S5 R EP HB
      go_loopg [7, 9, 22] l.length (fun gh s7 s9 s22 wr => ∃ i : Nat, l.length - i ≤ gh ∧ i ≤ l.length ∧ s22 = .int .i64 (i : Int) ∧ Aside (wr.ownsRow w2.heap.size 9 1 s7 ((l.take i).map (·.1)).length (strs ((l.take i).map (·.1))) ∧ Below w2.heap.size w2 wr))
      case atStart => exact ⟨0, by omega, by omega, rfl, ⟨rfl, .inl ⟨rfl, rfl⟩⟩, Below.refl _ _⟩
      case round =>
        obtain ⟨i, hgh, hil, rfl, I⟩ := hrel
        by_cases hlt : i < l.length
        · obtain ⟨g, u, y, rfl, c1, c2, hy, hT⟩ := AT.out i hlt
          have d1 : decide ((i : Int) < l.length) = true := decide_eq_true (by omega)
          have hln : l.length ≤ 1000 := HN.out
          have c1' := cell_below c1 I.out.2
          have c2' := cell_below c2 I.out.2
          have ht : (l.take (i + 1)).map (·.1) = (l.take i).map (·.1) ++ [y.1] := by rw [List.take_add_one, hy]; simp
          have HT := asd ht
          have hll : ((l.take i).map (·.1)).length ≤ 100000 := by rw [List.length_map, List.length_take]; have := HN.out; omega
          obtain ⟨ty, vv, rfl⟩ := hT.isIface
          obtain ⟨v', w4, e1, o3, b4⟩ := pushS_run w2.heap.size (wr.alloc (Obj.cells #[.string (bs y.1), .iface ty vv] 58)) _ _ y.1 (own_frame I.out.1 (fun k hk => alloc_old wr _ k (own_place I.out.1 hk).2)) hll (by have := I.out.2.size; simp; omega) 26
          have hwz : (wr.alloc (Obj.cells #[.string (bs y.1), .iface ty vv] 58)).heap.size = wr.heap.size + 1 := by simp
          rw [hwz] at e1
          clear hwz
          have HRUN := asd e1
          have A3 := asd (And.intro o3 b4)
          clear hT hy ht c1 c2 e1 o3 b4
          go_wp2_with (at_builtin; refine Lib.wpList_append_run _ rfl _ _ _ _ rfl _ _ rfl rfl _ _ HRUN.out ?_)
          go_roundg (l.length - (i + 1))
          case measure => omega
          case rel => exact ⟨i + 1, Nat.le_refl _, hlt, by go_num, by rw [HT.out]; exact A3.out.1, (I.out.2.alloc I.out.2.size _).trans A3.out.2⟩
        · obtain rfl : i = l.length := by omega
          have hd : decide ((l.length : Int) < l.length) = false := decide_eq_false (by omega)
          go_wp2
          go_ret
          refine ⟨⟨_, rfl, ?_⟩, B2.out.trans (I.out.2.mono B2.out.size)⟩
          have O := I.out.1
          rw [List.take_length] at O
          rw [EQ.out]
          exact own_base O B2.out.size
    · have HK := asd hk
      have EQ := asd (namesP_no EP.out hk)
      clear hk
      have a6055 := as60_55
      have a6255 := as62_55
      have a6455 := as64_55
      have a6655 := as66_55
      have a6955 := as69_55
      have a5555 := as55_55
      rw [EQ.out]
      go_enter Tryz.func10, Tryz.ntmps10
      go_wp2_with (go_at_call 21; refine R.out.mono ?_; rintro en w2 ⟨⟨v, rfl, S⟩, b2⟩; rcases S with ⟨rfl, rfl⟩ | ⟨b, rfl, rfl⟩ | ⟨n, rfl, rfl⟩ | ⟨t, rfl, rfl⟩ | ⟨l, vs, ao, cap, rfl, rfl, S⟩ | ⟨l, ms, ao, cap, rfl, rfl, S⟩; all_goals (try exact absurd rfl HK.out))
      all_goals
        go_loopg [7, 9, 22] 0 (fun gh s7 s9 s22 wr => s7 = .slice none 0 0 ∧ s22 = .int .i64 0 ∧ Aside (wr = w2))
        case atStart => exact ⟨rfl, rfl, rfl⟩
        case round =>
          obtain ⟨rfl, rfl, hw⟩ := hrel
          go_wp2
          go_ret
          exact ⟨NmA.nil _ _, by rw [hw.out]; exact b2⟩
end Go.Proofs.YtpeioecpilmpiaaGreatDoor

/-
  The first few calls of each statement answer true.
-/
namespace Go.Proofs.YtpeioecpilmpiaaGreatDoor
open Go.RowKit
def aw1 : Js.B := [32, 123, 34, 98, 34, 58, 91, 49, 44, 45, 48, 93, 44, 32, 34, 97, 34, 58, 34, 92, 117, 48, 48, 101, 57, 92, 110, 34, 125]
def aw2 : Js.B := [123, 34, 97, 34, 58, 34, 195, 169, 92, 110, 34, 44, 34, 98, 34, 58, 91, 49, 44, 48, 93, 125]
theorem aw_form : formP aw1 = (aw2, 0) := by decide +kernel
theorem aw_text : textP [34, 97, 92, 47, 34] = ([97, 47], true) := by decide +kernel
theorem aw_kind : kindP [91, 93] = 5 := by decide +kernel

set_option maxHeartbeats 800000 in
theorem awake_any (w : World) (hV : Vars w) : Calls Tryz.prog 7 #[] w fun e w' => e = .returned (.bool true) ∧ Below w.heap.size w w' := by
  have k1 := Form_any (bs aw1) w (by decide) hV
  have k2 : ∀ u : World, _ := fun u : World => Text_any (bs [34, 97, 92, 47, 34]) u (by decide)
  have k3 : ∀ u : World, _ := fun u : World => Kind_any (bs [91, 93]) u (by decide)
  rw [bs_list, aw_form] at k1
  simp only [aw_text] at k2
  simp only [aw_kind] at k3
  have K1 := asd k1
  have K2 := asd k2
  have K3 := asd k3
  clear k1 k2 k3
  have e1 : bs aw1 = ⟨#[32, 123, 34, 98, 34, 58, 91, 49, 44, 45, 48, 93, 44, 32, 34, 97, 34, 58, 34, 92, 117, 48, 48, 101, 57, 92, 110, 34, 125]⟩ := rfl
  have e2 : bs aw2 = ⟨#[123, 34, 97, 34, 58, 34, 195, 169, 92, 110, 34, 44, 34, 98, 34, 58, 91, 49, 44, 48, 93, 125]⟩ := rfl
  have e3 : bs [97, 47] = ⟨#[97, 47]⟩ := rfl
  rw [e1] at K1
  simp only [e2] at K1
  simp only [e3] at K2
  go_enter Tryz.func7, Tryz.ntmps7
  go_wp2_with (first
    | (go_at_call 8; refine K1.out.mono ?_; rintro e w1 ⟨rfl, hb1⟩; clear K1)
    | (go_at_call 16; refine (K2.out _).mono ?_; rintro e w2 ⟨rfl, hb2⟩; clear K2)
    | (go_at_call 11; refine (K3.out _).mono ?_; rintro e w3 ⟨rfl, hb3⟩; clear K3))
  go_ret
  have b2 := hb1.trans (hb2.mono hb1.size)
  exact ⟨rfl, b2.trans (hb3.mono b2.size)⟩
end Go.Proofs.YtpeioecpilmpiaaGreatDoor

/-
  The document's reader: its block; bad, is.
-/
namespace Go.Proofs.YtpeioecpilmpiaaGreatDoor
open Go.RowKit
/-- The document's reader in block r: its text, where it is, how many are open, its fault. -/
def Rq (r : Nat) (s : ByteArray) (p d e : Nat) (w : World) : Prop := w.heap[r]? = some (.cells #[.string s, .int .i64 (p : Int), .int .i64 (d : Int), .int .i64 (e : Int)] 51 (0, 0))

theorem Rq.c0 {r : Nat} {s : ByteArray} {p d e : Nat} {w : World} (h : Rq r s p d e w) : w.cell? ⟨r, 0, none⟩ = some (.string s) := by rw [cell_of_row w r 0 _ _ _ h]; rfl
theorem Rq.c1 {r : Nat} {s : ByteArray} {p d e : Nat} {w : World} (h : Rq r s p d e w) : w.cell? ⟨r, 1, none⟩ = some (.int .i64 (p : Int)) := by rw [cell_of_row w r 1 _ _ _ h]; rfl
theorem Rq.c2 {r : Nat} {s : ByteArray} {p d e : Nat} {w : World} (h : Rq r s p d e w) : w.cell? ⟨r, 2, none⟩ = some (.int .i64 (d : Int)) := by rw [cell_of_row w r 2 _ _ _ h]; rfl
theorem Rq.c3 {r : Nat} {s : ByteArray} {p d e : Nat} {w : World} (h : Rq r s p d e w) : w.cell? ⟨r, 3, none⟩ = some (.int .i64 (e : Int)) := by rw [cell_of_row w r 3 _ _ _ h]; rfl
theorem Rq.fz {r : Nat} {s : ByteArray} {p d e : Nat} {w : World} (h : Rq r s p d e w) (j : Nat) : w.frozen? ⟨r, j, none⟩ = false := frozen_of_row w r j _ _ h
theorem Rq.lt {r : Nat} {s : ByteArray} {p d e : Nat} {w : World} (h : Rq r s p d e w) : r < w.heap.size := (Array.getElem?_eq_some_iff.1 h).1

theorem Rq.set1 {r : Nat} {s : ByteArray} {p d e : Nat} {w : World} (h : Rq r s p d e w) (q : Nat) : Rq r s q d e (w.setCell ⟨r, 1, none⟩ (.int .i64 (q : Int))) := by unfold Rq; rw [set_same h]; rfl
theorem Rq.set2 {r : Nat} {s : ByteArray} {p d e : Nat} {w : World} (h : Rq r s p d e w) (q : Nat) : Rq r s p q e (w.setCell ⟨r, 2, none⟩ (.int .i64 (q : Int))) := by unfold Rq; rw [set_same h]; rfl
theorem Rq.set3 {r : Nat} {s : ByteArray} {p d e : Nat} {w : World} (h : Rq r s p d e w) (q : Nat) : Rq r s p d q (w.setCell ⟨r, 3, none⟩ (.int .i64 (q : Int))) := by unfold Rq; rw [set_same h]; rfl

theorem Rq.keep {r : Nat} {s : ByteArray} {p d e : Nat} {w w' : World} (h : Rq r s p d e w) (hb : w'.heap[r]? = w.heap[r]?) : Rq r s p d e w' := hb.trans h
theorem Rq.below {r B : Nat} {s : ByteArray} {p d e : Nat} {w w' : World} (h : Rq r s p d e w) (hr : r < B) (hb : Below B w w') : Rq r s p d e w' := (hb.block r hr).trans h


theorem Rq.zero {r : Nat} {s : ByteArray} {p d e : Nat} {w w' : World} (h : Rq r s p d e w) (g : w.grownBy w' none) : Rq r s p d e w' := h.keep (g.block r h.lt (fun e => by cases e))

set_option maxHeartbeats 1000000 in
theorem bad_any (r : Nat) (s : ByteArray) (p d e f : Nat) (w : World) (h' : Rq r s p d e w) :
    Calls Tryz.prog 25 #[.pointer (some ⟨r, 0, none⟩), .int .i64 (f : Int)] w fun en w' => en = .returned (.tuple #[]) ∧ Rq r s p d (fl e f) w' ∧ w.grownBy w' (some r) := by
  have h := asd (h')
  have hs := asd (h'.set3 f)
  have c3 := h'.c3
  have f3 := h'.fz 3
  clear h'
  unfold fl
  by_cases he : e = 0
  · subst he
    go_enter Tryz.func25, Tryz.ntmps25
    go_wp2
    go_end0
    exact ⟨rfl, hs.out, grown_set _ _ _ _⟩
  · have e1 : ¬ ((e : Int) = 0) := by omega
    have e2 : ((e : Int) == 0) = false := by simp; omega
    rw [if_neg he]
    go_enter Tryz.func25, Tryz.ntmps25
    go_wp2
    go_end0
    exact ⟨rfl, h.out, grefl _ _⟩

/-- What is answers. -/
def iz (s : ByteArray) (p e : Nat) (c : UInt8) : Bool := decide (e = 0) && (decide (p < s.size) && (s.get! p == c))
theorem iz_bad (s : ByteArray) (p e : Nat) (c : UInt8) (h : e ≠ 0) : iz s p e c = false := by simp [iz, h]
theorem iz_end (s : ByteArray) (p e : Nat) (c : UInt8) (h : s.size ≤ p) : iz s p e c = false := by
  have : ¬ p < s.size := by omega
  simp [iz, this]
theorem iz_at (s : ByteArray) (p : Nat) (c : UInt8) (h : p < s.size) : iz s p 0 c = (s.get! p == c) := by simp [iz, h]
theorem iz_true {s : ByteArray} {p e : Nat} {c : UInt8} (h : iz s p e c = true) : e = 0 ∧ p < s.size ∧ L s p = c :: L s (p + 1) := by
  simp only [iz, Bool.and_eq_true, decide_eq_true_eq, beq_iff_eq] at h
  exact ⟨h.1, h.2.1, by rw [L_cons s p h.2.1, h.2.2]⟩
theorem iz_false {s : ByteArray} {p : Nat} {c : UInt8} (h : iz s p 0 c = false) : ∀ t, L s p ≠ c :: t := by
  intro t e
  by_cases hp : p < s.size
  · rw [iz_at s p c hp] at h
    rw [L_cons s p hp] at e
    injection e with e1 _
    rw [e1] at h
    simp at h
  · rw [L_end s p (by omega)] at e
    cases e

set_option maxHeartbeats 1000000 in
set_option maxRecDepth 100000 in
theorem is_any (r : Nat) (s : ByteArray) (p d e : Nat) (c : UInt8) (w : World) (h' : Rq r s p d e w) :
    Calls Tryz.prog 36 #[.pointer (some ⟨r, 0, none⟩), .int .u8 (c.toNat : Int)] w fun en w' => en = .returned (.bool (iz s p e c)) ∧ Rq r s p d e w' ∧ w.grownBy w' none := by
  have h := asd h'
  have c0 := h'.c0
  have c1 := h'.c1
  have c3 := h'.c3
  clear h'
  by_cases he : e = 0
  · subst he
    by_cases hlt : p < s.size
    · rw [iz_at s p c hlt, get_at s p hlt]
      have d2 : decide (p < s.size) = true := by simpa using hlt
      have ev : Aside ((s[p] == c) = ((s[p].toNat : Int) == (c.toNat : Int))) := by
        show _ = _
        rw [Bool.eq_iff_iff, beq_iff_eq, beq_iff_eq]
        constructor
        · intro e; rw [e]
        · intro e; exact UInt8.toNat_inj.1 (by omega)
      rw [ev.out]
      go_enter Tryz.func36, Tryz.ntmps36
      go_wp2
      go_quiet (fail)
      go_wp2
      go_ret
      exact ⟨rfl, h.out.keep rfl, ⟨rfl, rfl, rfl, Nat.le_refl _, fun _ _ _ => rfl⟩⟩
    · rw [iz_end s p 0 c (by omega)]
      have d2 : decide (p < s.size) = false := by simpa using hlt
      go_enter Tryz.func36, Tryz.ntmps36
      go_wp2
      go_quiet (fail)
      go_wp2
      go_ret
      exact ⟨rfl, h.out.keep rfl, ⟨rfl, rfl, rfl, Nat.le_refl _, fun _ _ _ => rfl⟩⟩
  · rw [iz_bad s p e c he]
    have d1 : ¬ ((e : Int) = 0) := by omega
    have d2 : decide ((e : Int) = 0) = false := by simp; omega
    have d4 : ((e : Int) == 0) = false := by simp; omega
    go_enter Tryz.func36, Tryz.ntmps36
    go_wp2
    go_quiet (fail)
    go_wp2
    go_ret
    exact ⟨rfl, h.out.keep rfl, ⟨rfl, rfl, rfl, Nat.le_refl _, fun _ _ _ => rfl⟩⟩
end Go.Proofs.YtpeioecpilmpiaaGreatDoor

/-
  The document's reader: blanks.
-/
namespace Go.Proofs.YtpeioecpilmpiaaGreatDoor
open Go.RowKit
theorem Rq.drewN {r : Nat} {s : ByteArray} {p d e : Nat} {w : World} (h : Rq r s p d e w) (n : Nat) : Rq r s p d e (w.drewN n) := h.keep (by rfl)
theorem grown_drewN {w u : World} {r : Option Nat} (h : w.grownBy u r) (n : Nat) : w.grownBy (u.drewN n) r := gtrans h (gbelow (Go.below_drewN (Below.refl _ _) n))

set_option maxHeartbeats 1600000 in
set_option maxRecDepth 100000 in
theorem dblanks_any (r : Nat) (s : ByteArray) (p d e : Nat) (w : World) (h' : Rq r s p d e w) (hp : p ≤ s.size) (hs : s.size ≤ 1000) :
    Calls Tryz.prog 24 #[.pointer (some ⟨r, 0, none⟩)] w fun en w' => en = .returned (.tuple #[]) ∧ ∃ q, q ≤ s.size ∧ L s q = Js.skip (L s p) ∧ Rq r s q d e w' ∧ w.grownBy w' (some r) := by
  have H0 : Aside _ := h'
  clear h'
  go_enter Tryz.func24, Tryz.ntmps24
  go_wp2
  go_loopg [] s.size (fun gh wr => ∃ q : Nat, s.size - q ≤ gh ∧ q ≤ s.size ∧ Aside (Js.skip (L s q) = Js.skip (L s p) ∧ Rq r s q d e wr ∧ w.grownBy wr (some r)))
  case atStart => exact ⟨p, by omega, hp, rfl, H0, grefl _ _⟩
  case round =>
    obtain ⟨q, hgh, hq, I⟩ := hrel
    have c0 := I.out.2.1.c0
    have c1 := I.out.2.1.c1
    have f1 := I.out.2.1.fz 1
    clear H0
    by_cases hlt : q < s.size
    · have d2 : decide (q < s.size) = true := by simpa using hlt
      have SK : Aside (Js.isBl (s[q]) = true → Js.skip (L s (q + 1)) = Js.skip (L s p)) := fun hb => by
        rw [← I.out.1, L_cons s q hlt, get_at s q hlt]
        simp [Js.skip, hb]
      have ST : Aside (Js.isBl (s[q]) = false → L s q = Js.skip (L s p)) := fun hb => by
        rw [← I.out.1, L_cons s q hlt, get_at s q hlt, Js.skip_id _ _ hb]
      have N1 : Aside (∀ u : World, u.heap = wr.heap → wr.grownBy u none → Rq r s (q + 1) d e (u.setCell ⟨r, 1, none⟩ (.int .i64 ((q + 1 : Nat) : Int))) ∧ w.grownBy (u.setCell ⟨r, 1, none⟩ (.int .i64 ((q + 1 : Nat) : Int))) (some r)) := fun u hu hg =>
        ⟨(I.out.2.1.keep (by rw [hu])).set1 (q + 1), gtrans (gtrans I.out.2.2 ⟨hg.os, hg.tape, hg.output, hg.size, fun k hk _ => by rw [hu]⟩) (grown_set _ _ _ _)⟩
      have N0 : Aside (∀ n, Rq r s q d e (wr.drewN n) ∧ w.grownBy (wr.drewN n) (some r)) := fun n => ⟨I.out.2.1.drewN n, grown_drewN I.out.2.2 n⟩
      have G0 : Aside (∀ n, wr.grownBy (wr.drewN n) none) := fun n => gbelow (Go.below_drewN (Below.refl _ _) n)
      generalize hx : s[q] = x at *
      clear I
      by_cases b0 : x.toNat = 32
      · have ex : x = 32 := UInt8.toNat_inj.1 b0
        have t0 : ((x.toNat : Int) == 32) = true := by rw [beq_iff_eq]; omega
        have SK2 : Aside (Js.skip (L s (q + 1)) = Js.skip (L s p)) := SK.out (by rw [ex]; rfl)
        clear SK ST N0 b0 ex
        go_wp2
        go_quiet (fail)
        go_wp2
        go_roundg (s.size - (q + 1))
        case measure => omega
        case rel => exact ⟨q + 1, Nat.le_refl _, hlt, SK2.out, N1.out _ rfl (G0.out _)⟩
      · skip
        by_cases b1 : x.toNat = 9
        · have ex : x = 9 := UInt8.toNat_inj.1 b1
          have t0 : ((x.toNat : Int) == 32) = false := by rw [beq_eq_false_iff_ne]; omega
          have u0 : ¬ ((x.toNat : Int) = 32) := by omega
          have t1 : ((x.toNat : Int) == 9) = true := by rw [beq_iff_eq]; omega
          have SK2 : Aside (Js.skip (L s (q + 1)) = Js.skip (L s p)) := SK.out (by rw [ex]; rfl)
          clear SK ST N0 b1 ex
          go_wp2
          go_quiet (fail)
          go_wp2
          go_roundg (s.size - (q + 1))
          case measure => omega
          case rel => exact ⟨q + 1, Nat.le_refl _, hlt, SK2.out, N1.out _ rfl (G0.out _)⟩
        · skip
          by_cases b2 : x.toNat = 10
          · have ex : x = 10 := UInt8.toNat_inj.1 b2
            have t0 : ((x.toNat : Int) == 32) = false := by rw [beq_eq_false_iff_ne]; omega
            have u0 : ¬ ((x.toNat : Int) = 32) := by omega
            have t1 : ((x.toNat : Int) == 9) = false := by rw [beq_eq_false_iff_ne]; omega
            have u1 : ¬ ((x.toNat : Int) = 9) := by omega
            have t2 : ((x.toNat : Int) == 10) = true := by rw [beq_iff_eq]; omega
            have SK2 : Aside (Js.skip (L s (q + 1)) = Js.skip (L s p)) := SK.out (by rw [ex]; rfl)
            clear SK ST N0 b2 ex
            go_wp2
            go_quiet (fail)
            go_wp2
            go_roundg (s.size - (q + 1))
            case measure => omega
            case rel => exact ⟨q + 1, Nat.le_refl _, hlt, SK2.out, N1.out _ rfl (G0.out _)⟩
          · skip
            by_cases b3 : x.toNat = 13
            · have ex : x = 13 := UInt8.toNat_inj.1 b3
              have t0 : ((x.toNat : Int) == 32) = false := by rw [beq_eq_false_iff_ne]; omega
              have u0 : ¬ ((x.toNat : Int) = 32) := by omega
              have t1 : ((x.toNat : Int) == 9) = false := by rw [beq_eq_false_iff_ne]; omega
              have u1 : ¬ ((x.toNat : Int) = 9) := by omega
              have t2 : ((x.toNat : Int) == 10) = false := by rw [beq_eq_false_iff_ne]; omega
              have u2 : ¬ ((x.toNat : Int) = 10) := by omega
              have t3 : ((x.toNat : Int) == 13) = true := by rw [beq_iff_eq]; omega
              have SK2 : Aside (Js.skip (L s (q + 1)) = Js.skip (L s p)) := SK.out (by rw [ex]; rfl)
              clear SK ST N0 b3 ex
              go_wp2
              go_quiet (fail)
              go_wp2
              go_roundg (s.size - (q + 1))
              case measure => omega
              case rel => exact ⟨q + 1, Nat.le_refl _, hlt, SK2.out, N1.out _ rfl (G0.out _)⟩
            · skip
              have t0 : ((x.toNat : Int) == 32) = false := by rw [beq_eq_false_iff_ne]; omega
              have u0 : ¬ ((x.toNat : Int) = 32) := by omega
              have t1 : ((x.toNat : Int) == 9) = false := by rw [beq_eq_false_iff_ne]; omega
              have u1 : ¬ ((x.toNat : Int) = 9) := by omega
              have t2 : ((x.toNat : Int) == 10) = false := by rw [beq_eq_false_iff_ne]; omega
              have u2 : ¬ ((x.toNat : Int) = 10) := by omega
              have t3 : ((x.toNat : Int) == 13) = false := by rw [beq_eq_false_iff_ne]; omega
              have u3 : ¬ ((x.toNat : Int) = 13) := by omega
              have SE : Aside (L s q = Js.skip (L s p)) := ST.out (by
                simp only [Js.isBl, Bool.or_eq_false_iff, beq_eq_false_iff_ne]
                refine ⟨⟨⟨?_, ?_⟩, ?_⟩, ?_⟩
                all_goals (intro e; subst e; first | exact b0 rfl | exact b1 rfl | exact b2 rfl | exact b3 rfl))
              clear SK ST N1 b0 b1 b2 b3
              go_wp2
              go_quiet (fail)
              go_wp2
              go_end0
              exact ⟨rfl, q, hq, SE.out, (N0.out _).1, (N0.out _).2⟩
    · obtain rfl : q = s.size := by omega
      have d2 : decide (s.size < s.size) = false := by simp
      have SE : Aside (L s s.size = Js.skip (L s p)) := by
        show _ = _
        rw [← I.out.1, L_end s s.size (Nat.le_refl _)]
        rfl
      have N0 : Aside (∀ n, Rq r s s.size d e (wr.drewN n) ∧ w.grownBy (wr.drewN n) (some r)) := fun n => ⟨I.out.2.1.drewN n, grown_drewN I.out.2.2 n⟩
      clear I
      go_wp2
      go_quiet (fail)
      go_wp2
      go_end0
      exact ⟨rfl, s.size, hq, SE.out, (N0.out _).1, (N0.out _).2⟩
end Go.Proofs.YtpeioecpilmpiaaGreatDoor

/-
  The document's reader: open, more.
-/
namespace Go.Proofs.YtpeioecpilmpiaaGreatDoor
open Go.RowKit
theorem iz_le {s : ByteArray} {p e : Nat} {c : UInt8} (h : iz s p e c = true) : p + 1 ≤ s.size := (iz_true h).2.1
/-- Behind the blanks. -/
def sk (s : ByteArray) (p : Nat) : Nat := s.size - (Js.skip (L s p)).length
theorem sk_le (s : ByteArray) (p : Nat) : sk s p ≤ s.size := by unfold sk; omega
theorem sk_eq {s : ByteArray} {p q : Nat} (hq : q ≤ s.size) (h : L s q = Js.skip (L s p)) : q = sk s p := by
  unfold sk
  rw [← h, L_len]
  omega
theorem L_sk (s : ByteArray) (p : Nat) : L s (sk s p) = Js.skip (L s p) := by
  obtain ⟨k, hk, e⟩ := Js.skip_drop (L s p)
  rw [L_len] at hk
  have : sk s p = if p ≤ s.size then p + k else s.size := by
    unfold sk
    rw [e, List.length_drop, L_len]
    split <;> omega
  rw [this]
  split
  · rw [e, L_drop]
  · rw [L_end s p (by omega), L_end s s.size (Nat.le_refl _)]
    rfl

theorem dblanks_sk (r : Nat) (s : ByteArray) (p d e : Nat) (w : World) (h : Rq r s p d e w) (hp : p ≤ s.size) (hs : s.size ≤ 1000) :
    Calls Tryz.prog 24 #[.pointer (some ⟨r, 0, none⟩)] w fun en w' => en = .returned (.tuple #[]) ∧ Rq r s (sk s p) d e w' ∧ w.grownBy w' (some r) := by
  refine (dblanks_any r s p d e w h hp hs).mono ?_
  rintro en w1 ⟨rfl, q, hq, hl, h1, g1⟩
  rw [sk_eq hq hl] at h1
  exact ⟨rfl, h1, g1⟩

theorem Rq.inc1 {r : Nat} {s : ByteArray} {p d e : Nat} {w : World} (h : Rq r s p d e w) : Rq r s (p + 1) d e (w.setCell ⟨r, 1, none⟩ (.int .i64 ((p : Int) + 1))) := by
  have := h.set1 (p + 1)
  rw [show ((p + 1 : Nat) : Int) = (p : Int) + 1 by omega] at this
  exact this
theorem Rq.inc2 {r : Nat} {s : ByteArray} {p d e : Nat} {w : World} (h : Rq r s p d e w) : Rq r s p (d + 1) e (w.setCell ⟨r, 2, none⟩ (.int .i64 ((d : Int) + 1))) := by
  have := h.set2 (d + 1)
  rw [show ((d + 1 : Nat) : Int) = (d : Int) + 1 by omega] at this
  exact this

set_option maxHeartbeats 1000000 in
theorem dmore_any (r : Nat) (s : ByteArray) (p d e : Nat) (c : UInt8) (w : World) (h : Rq r s p (d + 1) e w) (hp : p ≤ s.size) (hs : s.size ≤ 1000) (hd : d ≤ 1000) :
    Calls Tryz.prog 58 #[.pointer (some ⟨r, 0, none⟩), .int .u8 (c.toNat : Int)] w fun en w' => en = .returned (.bool (iz s (sk s p) e 44)) ∧ w.grownBy w' (some r) ∧
      Rq r s (if iz s (sk s p) e 44 || iz s (sk s p) e c then sk s p + 1 else sk s p) (if iz s (sk s p) e 44 then d + 1 else if iz s (sk s p) e c then d else d + 1) (if iz s (sk s p) e 44 || iz s (sk s p) e c then e else fl e 3) w' := by
  have K := asd (dblanks_sk r s p (d + 1) e w h hp hs)
  clear h
  have hq := sk_le s p
  generalize sk s p = q at *
  have K1 := asd (fun w1 h1 => is_any r s q (d + 1) e 44 w1 h1)
  have K2 := asd (fun w1 h1 => is_any r s q (d + 1) e c w1 h1)
  have T := asd trivial
  cases hm : iz s q e 44 with
  | true =>
    rw [hm] at K1
    simp only [Bool.true_or, if_true]
    go_enter Tryz.func58, Tryz.ntmps58
    go_wp2_with (first
      | (go_at_call 24; refine K.out.mono ?_; rintro en w1 ⟨rfl, h1, g1⟩; have H1 := asd (And.intro h1 g1); clear h1 g1 K)
      | (clear T; go_at_call 36; refine (K1.out _ H1.out.1).mono ?_; rintro en w2 ⟨rfl, h2, g2⟩; have H2 := asd (And.intro h2 (gtrans H1.out.2 ⟨g2.os, g2.tape, g2.output, g2.size, fun k hk _ => g2.block k hk (fun e => by cases e)⟩)); have c1 := h2.c1; have f1 := h2.fz 1; clear h2 g2 K1))
    go_ret
    exact ⟨rfl, gtrans H2.out.2 (grown_set _ _ _ _), H2.out.1.set1 (q + 1)⟩
  | false =>
    rw [hm] at K1
    simp only [Bool.false_or, Bool.false_eq_true, if_false]
    cases hn : iz s q e c with
    | true =>
      rw [hn] at K2
      have e1 : ((d + 1 : Nat) : Int) - 1 = d := by omega
      simp only [if_true]
      go_enter Tryz.func58, Tryz.ntmps58
      go_wp2_with (first
        | (go_at_call 24; refine K.out.mono ?_; rintro en w1 ⟨rfl, h1, g1⟩; have H1 := asd (And.intro h1 g1); clear h1 g1 K)
        | (clear T; go_at_call 36; refine (K1.out _ H1.out.1).mono ?_; rintro en w2 ⟨rfl, h2, g2⟩; have H2 := asd (And.intro h2 (gtrans H1.out.2 ⟨g2.os, g2.tape, g2.output, g2.size, fun k hk _ => g2.block k hk (fun e => by cases e)⟩)); clear h2 g2 K1)
        | (go_at_call 36; refine (K2.out _ H2.out.1).mono ?_; rintro en w3 ⟨rfl, h3, g3⟩; have H3 := asd (And.intro h3 (gtrans H2.out.2 ⟨g3.os, g3.tape, g3.output, g3.size, fun k hk _ => g3.block k hk (fun e => by cases e)⟩)); have c1 := h3.c1; have f1 := h3.fz 1; have c2 := h3.inc1.c2; have f2 := h3.inc1.fz 2; clear h3 g3 K2))
      go_ret
      exact ⟨rfl, gtrans (gtrans H3.out.2 (grown_set _ _ _ _)) (grown_set _ _ _ _), (H3.out.1.set1 (q + 1)).set2 d⟩
    | false =>
      rw [hn] at K2
      simp only [Bool.false_eq_true, if_false]
      go_enter Tryz.func58, Tryz.ntmps58
      go_wp2_with (first
        | (go_at_call 24; refine K.out.mono ?_; rintro en w1 ⟨rfl, h1, g1⟩; have H1 := asd (And.intro h1 g1); clear h1 g1 K)
        | (clear T; go_at_call 36; refine (K1.out _ H1.out.1).mono ?_; rintro en w2 ⟨rfl, h2, g2⟩; have H2 := asd (And.intro h2 (gtrans H1.out.2 ⟨g2.os, g2.tape, g2.output, g2.size, fun k hk _ => g2.block k hk (fun e => by cases e)⟩)); clear h2 g2 K1)
        | (go_at_call 36; refine (K2.out _ H2.out.1).mono ?_; rintro en w3 ⟨rfl, h3, g3⟩; have H3 := asd (And.intro h3 (gtrans H2.out.2 ⟨g3.os, g3.tape, g3.output, g3.size, fun k hk _ => g3.block k hk (fun e => by cases e)⟩)); have K3 := asd (bad_any r s q (d + 1) e 3 w3 h3); clear h3 g3 K2)
        | (go_at_call 25; refine K3.out.mono ?_; rintro en w4 ⟨rfl, h4, g4⟩; have H4 := asd (And.intro h4 (gtrans H3.out.2 g4)); clear h4 g4))
      go_ret
      exact ⟨rfl, H4.out.2, H4.out.1⟩

set_option maxHeartbeats 1000000 in
theorem dopen_any (r : Nat) (s : ByteArray) (p d : Nat) (w : World) (h : Rq r s p d 0 w) (hp : p < s.size) (hs : s.size ≤ 1000) (hd : d ≤ 8) :
    Calls Tryz.prog 56 #[.pointer (some ⟨r, 0, none⟩)] w fun en w' => en = .returned (.tuple #[]) ∧ Rq r s (sk s (p + 1)) (d + 1) (if d = 8 then 10 else 0) w' ∧ w.grownBy w' (some r) := by
  have HS := asd (And.intro h.inc2 (grown_set w r 2 (.int .i64 ((d : Int) + 1))))
  have c2 := h.c2
  have f2 := h.fz 2
  have c2' := h.inc2.c2
  have c1' := h.inc2.c1
  have f1' := h.inc2.fz 1
  by_cases h8 : d = 8
  · subst h8
    clear h
    go_enter Tryz.func56, Tryz.ntmps56
    go_wp2_with (first
      | (go_at_call 25; refine (bad_any r s p 9 0 10 _ HS.out.1).mono ?_; rintro en w1 ⟨rfl, h1, g1⟩; have H1 := asd (And.intro h1.inc1 (gtrans (gtrans HS.out.2 g1) (grown_set w1 r 1 (.int .i64 ((p : Int) + 1))))); have cc1 := h1.c1; have ff1 := h1.fz 1; clear h1 g1)
      | (go_at_call 24; refine (dblanks_sk r s (p + 1) 9 10 _ H1.out.1 hp hs).mono ?_; rintro en w2 ⟨rfl, h2, g2⟩; have H2 := asd (And.intro h2 (gtrans H1.out.2 g2)); clear h2 g2))
    go_end0
    exact ⟨rfl, H2.out.1, H2.out.2⟩
  · have d1 : decide (8 < ((d + 1 : Nat) : Int)) = false := by simp; omega
    have d2 : ¬ (8 < ((d + 1 : Nat) : Int)) := by omega
    rw [if_neg h8]
    have HT := asd (And.intro HS.out.1.inc1 (gtrans HS.out.2 (grown_set _ r 1 (.int .i64 ((p : Int) + 1)))))
    clear h
    go_enter Tryz.func56, Tryz.ntmps56
    go_wp2_with (go_at_call 24; refine (dblanks_sk r s (p + 1) (d + 1) 0 _ HT.out.1 hp hs).mono ?_; rintro en w2 ⟨rfl, h2, g2⟩; have H2 := asd (And.intro h2 (gtrans HT.out.2 g2)); clear h2 g2)
    go_end0
    exact ⟨rfl, H2.out.1, H2.out.2⟩
end Go.Proofs.YtpeioecpilmpiaaGreatDoor
