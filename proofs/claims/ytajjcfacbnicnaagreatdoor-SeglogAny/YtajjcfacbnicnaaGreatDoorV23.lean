/-
  YtajjcfacbnicnaaGreatDoor: the texts T1, T3, T4, T2, T5, T6, T7, one behind the other.
-/
import Derived.Test.YtajjcfacbnicnaaGreatDoorV21
import Derived.Test.YtajjcfacbnicnaaGreatDoorV22
import Derived.WalkKit
import Derived.WalkSpells
import Derived.WalkLawsBesides
import Derived.Deep.LoopGhost
import Derived.Laws.Externs
import Derived.Below
import Derived.BigQuiet
import Derived.Deep.RegionWith
import Derived.OwnWalk
import Derived.Maps.AppendAt
import Derived.WalkSmall
import Derived.Test.YtajjcfacbnicnaaGreatDoorV4
import Derived.Test.YtajjcfacbnicnaaGreatDoorV15
/-
  A log of the program in memory; its names, what a limit is brought to, nobody's log.
-/
namespace Go.Proofs.YtajjcfacbnicnaaGreatDoor
open Go.RowKit
set_option maxRecDepth 100000
theorem asd {p : Prop} (h : p) : Aside p := h
def LG : ByteArray := ⟨#[108, 111, 103]⟩
/-- A segment's name. -/
def nmL (n : Int) : ByteArray := nmB LG n
/-- What a segment has; is it there? -/
def tx (s : Dk.St) (n : Int) : ByteArray := (Dk.opRead s (nmL n)).1
def th (s : Dk.St) (n : Int) : Bool := (Dk.opRead s (nmL n)).2 == 0
/-- A log's block: its disk, its first number, its limit. -/
def LgAt (w : World) (l b : Nat) (f m : Int) : Prop := w.heap[l]? = some (.cells #[.pointer (some ⟨b, 0, none⟩), .int .i64 f, .int .i64 m] 75 (0, 0))
theorem LgAt.c0 {w : World} {l b : Nat} {f m : Int} (h : LgAt w l b f m) : w.cell? ⟨l, 0, none⟩ = some (.pointer (some ⟨b, 0, none⟩)) := by rw [cell_of_row w l 0 _ _ _ h]; rfl
theorem LgAt.c1 {w : World} {l b : Nat} {f m : Int} (h : LgAt w l b f m) : w.cell? ⟨l, 1, none⟩ = some (.int .i64 f) := by rw [cell_of_row w l 1 _ _ _ h]; rfl
theorem LgAt.c2 {w : World} {l b : Nat} {f m : Int} (h : LgAt w l b f m) : w.cell? ⟨l, 2, none⟩ = some (.int .i64 m) := by rw [cell_of_row w l 2 _ _ _ h]; rfl
theorem LgAt.lt {w : World} {l b : Nat} {f m : Int} (h : LgAt w l b f m) : l < w.heap.size := (Array.getElem?_eq_some_iff.1 h).1
theorem LgAt.below {w w' : World} {l b : Nat} {f m : Int} (h : LgAt w l b f m) (g : Below w.heap.size w w') : LgAt w' l b f m := (g.block l h.lt).trans h
/-- A log and its disk, in memory. -/
structure Sys (B l b : Nat) (f m : Int) (d : Dk.Ds) (w : World) : Prop where
  rep : Dk.Rep w B b d
  ok : Dk.Ok d.pl
  sz : ∀ n ∈ d.names, n.size ≤ 1000
  lg : LgAt w l b f m
  out : l ∉ d.foot b
  vars : Vars w
  hB : 4 ≤ B
theorem Sys.below {B l b : Nat} {f m : Int} {d : Dk.Ds} {w w' : World} (h : Sys B l b f m d w) (g : Below w.heap.size w w') : Sys B l b f m d w' :=
  ⟨h.rep.below g, h.ok, h.sz, h.lg.below g, h.out, h.vars.below g, h.hB⟩
theorem Vars.keep {B : Nat} {w w' : World} (h : Vars w) (hB : 4 ≤ B) (hb : Below B w w') : Vars w' := by
  have hc : ∀ (g : Nat) (v : Value), g < 4 → w.cell? ⟨g, 0, none⟩ = some v → w'.cell? ⟨g, 0, none⟩ = some v := fun g v hg hv => by
    unfold World.cell? at hv ⊢
    rw [hb.block g (by omega)]
    exact hv
  refine ⟨?_, ?_, ?_⟩
  · have ht := h.tab
    unfold Lib.TabIs World.var? at ht ⊢
    simp only [gPow, Option.bind_some] at ht ⊢
    rw [hb.block 1 (by omega)]
    exact ht
  · obtain ⟨te, pe, e⟩ := h.es
    exact ⟨te, pe, hc _ _ (by decide) e⟩
  · obtain ⟨te, pe, e⟩ := h.er
    exact ⟨te, pe, hc _ _ (by decide) e⟩
/-- The disk is another one. -/
theorem Sys.step {B l b : Nat} {f m : Int} {d d' : Dk.Ds} {w w' : World} (h : Sys B l b f m d w) (r : Dk.Rep w' B b d') (ok : Dk.Ok d'.pl) (sz : ∀ n ∈ d'.names, n.size ≤ 1000) (s : Dk.Step (d.foot b) (d'.foot b) w w') (hs : B ≤ w.heap.size) : Sys B l b f m d' w' :=
  ⟨r, ok, sz, (s.block l h.lg.lt h.out).trans h.lg, fun hh => by
    rcases s.sub l hh with h1 | h1
    · exact h.out h1
    · have := h.lg.lt
      omega, h.vars.keep h.hB (s.below (fun k hk => (h.rep.lt k hk).1) hs), h.hB⟩
theorem Sys.hs {B l b : Nat} {f m : Int} {d : Dk.Ds} {w : World} (h : Sys B l b f m d w) : B ≤ w.heap.size := by
  have := h.rep.lt b Dk.foot_b
  omega
theorem Sys.drewN {B l b : Nat} {f m : Int} {d : Dk.Ds} {w : World} (h : Sys B l b f m d w) (n : Nat) : Sys B l b f m d (w.drewN n) := h.below ⟨rfl, rfl, rfl, Nat.le_refl _, fun _ _ => rfl⟩
theorem drewN_below (w : World) (n : Nat) : Below w.heap.size w (w.drewN n) := ⟨rfl, rfl, rfl, Nat.le_refl _, fun _ _ => rfl⟩

theorem lname_any (n : Int) (w : World) (hv : Vars w) :
    Calls Tryz.prog 36 #[.int .i64 n] w fun e w' => e = .returned (.string (nmL n)) ∧ Below w.heap.size w w' := by
  have k : Calls Tryz.prog 80 #[.string ⟨#[108, 111, 103]⟩, .int .i64 n] w fun e w' => e = .returned (.string (nmL n)) ∧ Below w.heap.size w w' := name_any LG n w hv
  go_enter Tryz.func36, Tryz.ntmps36
  go_wp2_with (go_at_call 80; refine k.mono ?_; rintro e w1 ⟨rfl, b1⟩)
  go_ret
  exact ⟨rfl, b1⟩
/-- Brought to what may be. -/
def wi (n : Int) : Int := min (max n 0) 1073741824
theorem within_any (n : Int) (w : World) : Calls Tryz.prog 37 #[.int .i64 n] w fun e w' => e = .returned (.int .i64 (wi n)) ∧ w' = w := by
  go_enter Tryz.func37, Tryz.ntmps37
  go_wp2
  go_ret
  exact ⟨rfl, rfl⟩
theorem none_nil (w : World) : Calls Tryz.prog 45 #[.pointer none] w fun e w' => e = .returned (.bool true) ∧ w' = w := by
  go_enter Tryz.func45, Tryz.ntmps45
  go_wp2
  go_ret
  exact ⟨rfl, rfl⟩
theorem none_any {w : World} {l b : Nat} {f m : Int} (h : LgAt w l b f m) : Calls Tryz.prog 45 #[.pointer (some ⟨l, 0, none⟩)] w fun e w' => e = .returned (.bool false) ∧ w' = w := by
  have c0 := h.c0
  clear h
  go_enter Tryz.func45, Tryz.ntmps45
  go_wp2
  go_ret
  exact ⟨rfl, rfl⟩
end Go.Proofs.YtajjcfacbnicnaaGreatDoor

/-
  Numbers that are in a row.
-/
namespace Go.Proofs.YtajjcfacbnicnaaGreatDoor
open Go.RowKit
set_option maxRecDepth 100000
open Dk (Later later_some calls_later wp_region_later)
/-- The numbers from one on. -/
def nums (ns : List ByteArray) (f : Int) : List Int := (allOf LG ns).filter fun n => decide (f ≤ n)
/-- Are they first, first + 1, and so on? -/
def rowB (f : Int) : List Int → Bool
  | [] => true
  | n :: r => decide (n = f) && rowB (f + 1) r
theorem rowB_iff : ∀ (l : List Int) (f : Int), rowB f l = true ↔ ∀ i (h : i < l.length), l[i] = f + (i : Int)
  | [], f => by simp [rowB]
  | n :: r, f => by
    simp only [rowB, Bool.and_eq_true, decide_eq_true_eq, rowB_iff r (f + 1)]
    constructor
    · rintro ⟨h1, h2⟩ i hi
      cases i with
      | zero => simpa using h1
      | succ i =>
        have := h2 i (by simpa using hi)
        simp only [List.getElem_cons_succ, this]
        omega
    · intro h
      refine ⟨by have h0 := h 0 (by simp); simp only [List.getElem_cons_zero] at h0; omega, fun i hi => ?_⟩
      have := h (i + 1) (by simpa using hi)
      simp only [List.getElem_cons_succ] at this
      rw [this]
      omega
theorem icells_len (l : List Int) : (icells l).length = l.length := by simp [icells]
theorem icells_at {l : List Int} {k : Nat} (h : k < l.length) : (icells l)[k]? = some (.int .i64 l[k]) := by
  unfold icells
  rw [List.getElem?_map, List.getElem?_eq_getElem h]
  rfl
/-- A slice of numbers in memory, wherever it begins. -/
def Ints (w : World) (v : Value) (l : List Int) : Prop :=
  (v = .slice none 0 0 ∧ l = []) ∨ ∃ g o c, v = .slice (some ⟨g, o, none⟩) l.length c ∧ g < w.heap.size ∧ ∀ j (hj : j < l.length), w.cell? ⟨g, o + j, none⟩ = some (.int .i64 l[j])
theorem Ints.below {w w' : World} {v : Value} {l : List Int} (h : Ints w v l) (g : Below w.heap.size w w') : Ints w' v l := by
  rcases h with h | ⟨a, o, c, h1, h2, h3⟩
  · exact .inl h
  · exact .inr ⟨a, o, c, h1, Nat.lt_of_lt_of_le h2 g.size, fun j hj => by rw [g.cell (by exact h2)]; exact h3 j hj⟩
theorem Ints.form {w : World} {v : Value} {l : List Int} (h : Ints w v l) : ∃ a c, v = .slice a l.length c ∧ ∀ j (hj : j < l.length), ∃ g o, a = some ⟨g, o, none⟩ ∧ w.cell? ⟨g, o + j, none⟩ = some (.int .i64 l[j]) := by
  rcases h with ⟨rfl, rfl⟩ | ⟨g, o, c, rfl, _, h⟩
  · exact ⟨none, 0, rfl, fun j hj => by simp at hj⟩
  · exact ⟨_, c, rfl, fun j hj => ⟨g, o, rfl, h j hj⟩⟩
theorem ints_of {B : Nat} {w : World} {v : Value} {l : List Int} (h : w.ownsRow B 3 1 v l.length (icells l)) : Ints w v l := by
  rcases Nat.eq_zero_or_pos l.length with h0 | hp
  · have hl := List.eq_nil_of_length_eq_zero h0
    subst hl
    obtain ⟨a, c, e⟩ := Dk.own_any h
    rcases h.2 with ⟨e2, _⟩ | ⟨g, cap, cur, e2, _, hh, _⟩
    · exact .inl ⟨e2, rfl⟩
    · exact .inr ⟨g, 0, cap, e2, (Array.getElem?_eq_some_iff.1 hh).1, fun j hj => by simp at hj⟩
  · obtain ⟨g, cap, e, _, _, hg⟩ := Dk.own_form h hp
    refine .inr ⟨g, 0, cap, e, (h.lt g hg).2, fun j hj => ?_⟩
    rw [Nat.zero_add]
    exact Dk.own_cell h hg (icells_at hj)
set_option maxHeartbeats 1000000 in
theorem inRow_any {v : Value} {l : List Int} {w : World} (h : Ints w v l) (hl : l.length ≤ 1000) (f : Int) (hf : 0 ≤ f) (hf2 : f ≤ 1000000) :
    Calls Tryz.prog 39 #[v, .int .i64 f] w fun e w' => e = .returned (.bool (rowB f l)) ∧ w' = w := by
  obtain ⟨a, c, rfl, hc⟩ := h.form
  have HC := asd hc
  have RI := asd (rowB_iff l f)
  clear h hc
  go_enter Tryz.func39, Tryz.ntmps39
  go_wp2
  go_loopg [9] l.length (fun gh s9 wr => ∃ k : Nat, l.length - k ≤ gh ∧ k ≤ l.length ∧ s9 = .int .i64 (k : Int) ∧ Aside (∀ i (h : i < k) (h2 : i < l.length), l[i] = f + (i : Int)) ∧ wr = w)
  case atStart => exact ⟨0, by omega, by omega, rfl, (fun i h => by omega), rfl⟩
  case round =>
    obtain ⟨k, hgh, hk, rfl, PR, rfl⟩ := hrel
    by_cases hlt : k < l.length
    · have dk : decide (k < l.length) = true := by simpa using hlt
      obtain ⟨g, o, e1, k1⟩ := HC.out k hlt
      subst e1
      by_cases hx : l[k] = f + (k : Int)
      · have NX : Aside (∀ i (h : i < k + 1) (h2 : i < l.length), l[i] = f + (i : Int)) := fun i h h2 => by
          by_cases e : i = k
          · subst e; exact hx
          · exact PR.out i (by omega) h2
        rw [hx] at k1
        clear PR hx
        have t1 : ((f + (k : Int)) != (f + (k : Int))) = false := bne_self_eq_false _
        have t2 : ((f + (k : Int)) == (f + (k : Int))) = true := beq_self_eq_true _
        go_wp2
        go_roundg (l.length - (k + 1))
        case measure => omega
        case rel => exact ⟨k + 1, Nat.le_refl _, by omega, by go_num, NX, rfl⟩
      · have rf : rowB f l = false := by
          rw [Bool.eq_false_iff]
          exact fun hh => hx (RI.out.1 hh k hlt)
        generalize l[k] = z at *
        have t1 : (z != (f + (k : Int))) = true := by rw [bne_iff_ne]; exact hx
        have t2 : (z == (f + (k : Int))) = false := by rw [beq_eq_false_iff_ne]; exact hx
        go_wp2
        go_ret
        exact ⟨by rw [rf]; rfl, rfl⟩
    · obtain rfl : k = l.length := by omega
      have dk : decide (l.length < l.length) = false := by simp
      have rt : rowB f l = true := RI.out.2 fun i hi => PR.out i hi hi
      go_wp2
      go_ret
      exact ⟨by rw [rt]; rfl, rfl⟩
end Go.Proofs.YtajjcfacbnicnaaGreatDoor

/-
  slices.BinarySearch over numbers that rise.
-/
namespace Go.Proofs.YtajjcfacbnicnaaGreatDoor
open Go.RowKit
set_option maxRecDepth 100000
theorem isNaNc_any (x : Int) (w : World) : Calls Tryz.prog 118 #[.int .i64 x] w fun e w' => e = .returned (.bool false) ∧ w' = w := by
  have n1 : (x != x) = false := bne_self_eq_false _
  have n2 : (x == x) = true := beq_self_eq_true _
  go_enter Tryz.func118, Tryz.ntmps118
  go_wp2
  go_ret
  exact ⟨rfl, rfl⟩
theorem isNaNs_any (x : Int) (w : World) : Calls Tryz.prog 104 #[.int .i64 x] w fun e w' => e = .returned (.bool false) ∧ w' = w := by
  have n1 : (x != x) = false := bne_self_eq_false _
  have n2 : (x == x) = true := beq_self_eq_true _
  go_enter Tryz.func104, Tryz.ntmps104
  go_wp2
  go_ret
  exact ⟨rfl, rfl⟩
theorem less_any (x y : Int) (w : World) : Calls Tryz.prog 103 #[.int .i64 x, .int .i64 y] w fun e w' => e = .returned (.bool (decide (x < y))) ∧ w' = w := by
  have k := isNaNc_any x
  go_enter Tryz.func103, Tryz.ntmps103
  go_wp2_with (go_at_call 118; refine (k _).mono ?_; rintro e w' ⟨rfl, rfl⟩)
  go_ret
  exact ⟨rfl, rfl⟩
/-- Numbers that rise. -/
def Up (l : List Int) : Prop := ∀ i j (hi : i < l.length) (hj : j < l.length), i ≤ j → l[i] ≤ l[j]
/-- Where the numbers from f on begin. -/
structure At (l : List Int) (f : Int) (i : Nat) : Prop where
  le : i ≤ l.length
  lo : ∀ t (h : t < l.length), t < i → l[t] < f
  hi : ∀ t (h : t < l.length), i ≤ t → f ≤ l[t]
set_option maxHeartbeats 1600000 in
theorem bin_any {v : Value} {l : List Int} {w : World} (h : Ints w v l) (hu : Up l) (hl : l.length ≤ 1000) (f : Int) :
    Calls Tryz.prog 82 #[v, .int .i64 f] w fun e w' => ∃ (i : Nat) (bb : Bool), e = .returned (.tuple #[.int .i64 (i : Int), .bool bb]) ∧ w' = w ∧ At l f i := by
  obtain ⟨a, c, rfl, hc⟩ := h.form
  have HC := asd hc
  have UP := asd hu
  have k3 := fun x u => less_any x f u
  have k4 := fun x u => isNaNs_any x u
  clear h hu hc
  go_enter Tryz.func82, Tryz.ntmps82
  go_wp2
  go_loopg [7, 8] l.length (fun gh s7 s8 wr => ∃ lo hi : Nat, s7 = .int .i64 (lo : Int) ∧ s8 = .int .i64 (hi : Int) ∧ lo ≤ hi ∧ hi ≤ l.length ∧ hi - lo ≤ gh ∧ wr = w ∧ Aside ((∀ t (h : t < l.length), t < lo → l[t] < f) ∧ (∀ t (h : t < l.length), hi ≤ t → f ≤ l[t])))
  case atStart => exact ⟨0, l.length, rfl, rfl, Nat.zero_le _, Nat.le_refl _, by omega, rfl, ⟨fun t _ h => by omega, fun t h h2 => by omega⟩⟩
  case round =>
    obtain ⟨lo, hi, rfl, rfl, hlh, hin, hg2, rfl, I⟩ := hrel
    by_cases hlt : lo < hi
    · have hm : (lo + hi) / 2 < l.length := by omega
      obtain ⟨g, o, e1, k1⟩ := HC.out ((lo + hi) / 2) hm
      subst e1
      have IL : Aside (l[(lo + hi) / 2] < f → (∀ t (h : t < l.length), t < (lo + hi) / 2 + 1 → l[t] < f) ∧ (∀ t (h : t < l.length), hi ≤ t → f ≤ l[t])) := fun hx => ⟨fun t ht h2 => by
        have := UP.out t ((lo + hi) / 2) ht hm (by omega)
        omega, I.out.2⟩
      have IR : Aside (¬ l[(lo + hi) / 2] < f → (∀ t (h : t < l.length), t < lo → l[t] < f) ∧ (∀ t (h : t < l.length), (lo + hi) / 2 ≤ t → f ≤ l[t])) := fun hx => ⟨I.out.1, fun t ht h2 => by
        have := UP.out ((lo + hi) / 2) t hm ht h2
        omega⟩
      clear I
      by_cases hx : l[(lo + hi) / 2] < f
      · have I2 := asd (IL.out hx)
        have dx : decide (l[(lo + hi) / 2] < f) = true := decide_eq_true hx
        clear IL IR hx
        generalize l[(lo + hi) / 2] = z at *
        go_wp2_with (go_at_call 103; refine (k3 _ _).mono ?_; rintro e w' ⟨rfl, rfl⟩)
        go_roundg (hi - ((lo + hi) / 2 + 1))
        case measure => omega
        case rel => exact ⟨(lo + hi) / 2 + 1, hi, by rw [show ((lo : Int) + (hi : Int)) / 2 + 1 = (((lo + hi) / 2 + 1 : Nat) : Int) by omega], rfl, by omega, hin, Nat.le_refl _, rfl, I2⟩
      · have I2 := asd (IR.out hx)
        have dx : decide (l[(lo + hi) / 2] < f) = false := decide_eq_false hx
        clear IL IR hx
        generalize l[(lo + hi) / 2] = z at *
        go_wp2_with (go_at_call 103; refine (k3 _ _).mono ?_; rintro e w' ⟨rfl, rfl⟩)
        go_roundg ((lo + hi) / 2 - lo)
        case measure => omega
        case rel => exact ⟨lo, (lo + hi) / 2, rfl, by rw [show ((lo : Int) + (hi : Int)) / 2 = (((lo + hi) / 2 : Nat) : Int) by omega], by omega, by omega, Nat.le_refl _, rfl, I2⟩
    · obtain rfl : hi = lo := by omega
      have A := asd (At.mk (l := l) (f := f) hin I.out.1 I.out.2)
      clear I
      by_cases hn : hi < l.length
      · have dn : decide (hi < l.length) = true := decide_eq_true hn
        obtain ⟨g, o, e1, k1⟩ := HC.out hi hn
        subst e1
        generalize l[hi] = z at *
        by_cases hz : z = f
        · have t1 : (z == f) = true := by rw [beq_iff_eq]; exact hz
          clear hz
          go_wp2_with (go_at_call 104; refine (k4 _ _).mono ?_; rintro e w' ⟨rfl, rfl⟩)
          go_ret2
          exact ⟨hi, _, rfl, rfl, A.out⟩
        · have t1 : (z == f) = false := by rw [beq_eq_false_iff_ne]; exact hz
          go_wp2_with (go_at_call 104; refine (k4 _ _).mono ?_; rintro e w' ⟨rfl, rfl⟩)
          go_ret2
          exact ⟨hi, _, rfl, rfl, A.out⟩
      · have dn : decide (hi < l.length) = false := decide_eq_false hn
        go_wp2_with (go_at_call 104; refine (k4 _ _).mono ?_; rintro e w' ⟨rfl, rfl⟩)
        go_ret2
        exact ⟨hi, _, rfl, rfl, A.out⟩
end Go.Proofs.YtajjcfacbnicnaaGreatDoor

/-
  What a segment has; whether it is there.
-/
namespace Go.Proofs.YtajjcfacbnicnaaGreatDoor
open Go.RowKit
set_option maxRecDepth 100000
open Dk (Later later_some calls_later wp_region_later)
set_option maxHeartbeats 1000000 in
theorem text_any {B l b : Nat} {f m : Int} {d : Dk.Ds} {w : World} (h : Sys B l b f m d w) (n : Int) :
    Calls Tryz.prog 71 #[.pointer (some ⟨l, 0, none⟩), .int .i64 n] w fun e w' => e = .returned (.string (tx d.pl n)) ∧ Below w.heap.size w w' := by
  have K36 : Aside (∀ q : Later w, Calls Tryz.prog 36 #[.int .i64 n] q.u fun e w' => e = .returned (.string (nmL n)) ∧ Below q.u.heap.size q.u w') := fun q => lname_any n q.u (h.below q.bel).vars
  have K63 : Aside (∀ q : Later w, Calls Tryz.prog 63 #[.pointer (some ⟨b, 0, none⟩), .string (nmL n)] q.u fun e w' => e = .returned (.tuple #[.string (tx d.pl n), .int .i64 (Dk.opRead d.pl (nmL n)).2]) ∧ Below q.u.heap.size q.u w') := fun q => Dk.read_any (h.below q.bel).rep h.ok (nmL n)
  have c0q : ∀ q : Later w, q.u.cell? ⟨l, 0, none⟩ = some (.pointer (some ⟨b, 0, none⟩)) := fun q => (h.below q.bel).lg.c0
  clear h
  generalize (Dk.opRead d.pl (nmL n)).2 = c at *
  generalize tx d.pl n = X at *
  generalize nmL n = N at *
  go_enter Tryz.func71, Tryz.ntmps71
  go_wp2
  have hne := later_some w
  refine wp_region_later (by kernel_rfl) (by kernel_rfl) ?_
  repeat (go_big_quiet_step (first | (go_at_call 36; exact calls_later (K36.out _)) | (go_at_call 63; exact calls_later (K63.out _))))
  refine wpQuiet_nil ?_
  rintro _ ⟨q, rfl⟩
  have b1 := asd q.bel
  generalize q.u = w1 at *
  clear c0q hne
  go_wp2
  go_ret
  exact ⟨rfl, b1.out⟩
set_option maxHeartbeats 1000000 in
theorem there_any {B l b : Nat} {f m : Int} {d : Dk.Ds} {w : World} (h : Sys B l b f m d w) (n : Int) :
    Calls Tryz.prog 53 #[.pointer (some ⟨l, 0, none⟩), .int .i64 n] w fun e w' => e = .returned (.bool (th d.pl n)) ∧ Below w.heap.size w w' := by
  have K36 : Aside (∀ q : Later w, Calls Tryz.prog 36 #[.int .i64 n] q.u fun e w' => e = .returned (.string (nmL n)) ∧ Below q.u.heap.size q.u w') := fun q => lname_any n q.u (h.below q.bel).vars
  have K63 : Aside (∀ q : Later w, Calls Tryz.prog 63 #[.pointer (some ⟨b, 0, none⟩), .string (nmL n)] q.u fun e w' => e = .returned (.tuple #[.string (tx d.pl n), .int .i64 (Dk.opRead d.pl (nmL n)).2]) ∧ Below q.u.heap.size q.u w') := fun q => Dk.read_any (h.below q.bel).rep h.ok (nmL n)
  have c0q : ∀ q : Later w, q.u.cell? ⟨l, 0, none⟩ = some (.pointer (some ⟨b, 0, none⟩)) := fun q => (h.below q.bel).lg.c0
  clear h
  unfold th
  generalize (Dk.opRead d.pl (nmL n)).2 = c at *
  generalize tx d.pl n = X at *
  generalize nmL n = N at *
  go_enter Tryz.func53, Tryz.ntmps53
  go_wp2
  have hne := later_some w
  refine wp_region_later (by kernel_rfl) (by kernel_rfl) ?_
  repeat (go_big_quiet_step (first | (go_at_call 36; exact calls_later (K36.out _)) | (go_at_call 63; exact calls_later (K63.out _))))
  refine wpQuiet_nil ?_
  rintro _ ⟨q, rfl⟩
  have b1 := asd q.bel
  generalize q.u = w1 at *
  clear c0q hne
  go_wp2
  go_ret
  exact ⟨rfl, b1.out⟩
end Go.Proofs.YtajjcfacbnicnaaGreatDoor

/-
  The numbers of the segments from one on.
-/
namespace Go.Proofs.YtajjcfacbnicnaaGreatDoor
open Go.RowKit
set_option maxRecDepth 100000
theorem up_all (ns : List ByteArray) : Up (allOf LG ns) := by
  have h := List.pairwise_mergeSort (le := fun x y : Int => decide (x ≤ y)) (fun a b c h1 h2 => by simp at h1 h2 ⊢; omega) (fun a b => by simp; omega) (numsOf LG ns)
  intro i j hi hj hij
  by_cases e : i = j
  · subst e
    exact Int.le_refl _
  · have := List.pairwise_iff_getElem.1 h i j hi hj (by omega)
    exact of_decide_eq_true this
theorem all_le (ns : List ByteArray) : (allOf LG ns).length ≤ ns.length := by
  have h := nums_len LG ns
  have e : (allOf LG ns).length = (numsOf LG ns).length := by simp [allOf, sortI]
  omega
theorem At.drop {l : List Int} {f : Int} {i : Nat} (h : At l f i) : l.drop i = l.filter fun n => decide (f ≤ n) := by
  have e : l = l.take i ++ l.drop i := (List.take_append_drop i l).symm
  have h1 : (l.take i).filter (fun n => decide (f ≤ n)) = [] := by
    rw [List.filter_eq_nil_iff]
    intro x hx
    obtain ⟨t, ht, rfl⟩ := List.getElem_of_mem hx
    rw [List.length_take] at ht
    rw [List.getElem_take]
    have := h.lo t (by omega) (by omega)
    simp
    omega
  have h2 : (l.drop i).filter (fun n => decide (f ≤ n)) = l.drop i := by
    rw [List.filter_eq_self]
    intro x hx
    obtain ⟨t, ht, rfl⟩ := List.getElem_of_mem hx
    rw [List.length_drop] at ht
    rw [List.getElem_drop]
    have := h.hi (i + t) (by omega) (by omega)
    simp
    exact this
  conv => rhs; rw [e, List.filter_append, h1, h2]
  rfl
theorem ints_drop {B : Nat} {w : World} {v : Value} {l : List Int} (h : w.ownsRow B 3 1 v l.length (icells l)) (k : Nat) (hk : k ≤ l.length) :
    ∃ x, (∀ u : World, (Instr.slice 60 v (some (.int .i64 (k : Int))) none none).run Tryz.prog u = .ok x u) ∧ Ints w x (l.drop k) := by
  have hz : ∀ u : World, (sizeOf (Tryz.prog.elem 60)).run Tryz.prog u = .ok 1 u := fun u => by kernel_rfl
  rcases h.2 with ⟨rfl, h0⟩ | ⟨g, cap, cur, rfl, hg, hh, hnc, _⟩
  · have hl : l = [] := List.eq_nil_of_length_eq_zero h0
    subst hl
    have hk0 : k = 0 := by simpa using hk
    subst hk0
    refine ⟨.slice none 0 0, fun u => ?_, .inl ⟨rfl, rfl⟩⟩
    rw [run_slice_l u 60 none 0 0 (by kernel_rfl) .i64 _ (by omega) (by simp), hz u]
    simp [Result.andThen, sliced]
  · have hcell : ∀ j (hj : j < l.length), w.cell? ⟨g, j, none⟩ = some (.int .i64 l[j]) := fun j hj => Dk.own_cell h rfl (icells_at hj)
    have hgl : g < w.heap.size := (Array.getElem?_eq_some_iff.1 hh).1
    have l2 : (l.drop k).length = l.length - k := List.length_drop
    refine ⟨.slice (if cap = k then some ⟨g, 0, none⟩ else some ⟨g, k, none⟩) (l.length - k) (cap - k), fun u => ?_, ?_⟩
    · rw [run_slice_l u 60 _ l.length cap (by kernel_rfl) .i64 _ (by omega) (by omega), hz u]
      simp [Result.andThen, sliced, Go.WideShapes.add_plain]
    · by_cases hc : cap = k
      · refine .inr ⟨g, 0, cap - k, by rw [if_pos hc, l2], hgl, fun j hj => ?_⟩
        rw [l2] at hj
        omega
      · refine .inr ⟨g, k, cap - k, by rw [if_neg hc, l2], hgl, fun j hj => ?_⟩
        rw [l2] at hj
        rw [hcell (k + j) (by omega), List.getElem_drop]
theorem nums_le {ns : List ByteArray} {f : Int} (h : ns.length ≤ 16) : (nums ns f).length ≤ 16 := by
  unfold nums
  have := List.length_filter_le (fun n => decide (f ≤ n)) (allOf LG ns)
  have := all_le ns
  omega
theorem Sys.few {B l b : Nat} {f m : Int} {d : Dk.Ds} {w : World} (h : Sys B l b f m d w) : d.names.length ≤ 16 := by
  have := h.ok.few
  simpa [Dk.Ds.pl, Dk.Ds.names] using this
set_option maxHeartbeats 1000000 in
theorem numbers_any {B l b : Nat} {f m : Int} {d : Dk.Ds} {w : World} (h : Sys B l b f m d w) :
    Calls Tryz.prog 38 #[.pointer (some ⟨l, 0, none⟩)] w fun e w' => ∃ v, e = .returned v ∧ Ints w' v (nums d.names f) ∧ Below w.heap.size w w' := by
  have k1 : Calls Tryz.prog 81 #[.pointer (some ⟨b, 0, none⟩), .string ⟨#[108, 111, 103]⟩] w fun e w' => ∃ v, e = .returned v ∧ w'.ownsRow w.heap.size 3 1 v (allOf LG d.names).length (icells (allOf LG d.names)) ∧ Below w.heap.size w w' := all_any h.rep h.ok h.sz LG h.vars
  have hl := all_le d.names
  have hfew := h.few
  have c0 := h.lg.c0
  have c1 := h.lg.c1
  have C1 := asd (fun (u : World) (hu : Below w.heap.size w u) => (h.below hu).lg.c1)
  have UP := asd (up_all d.names)
  have EN : Aside (nums d.names f = (allOf LG d.names).filter fun n => decide (f ≤ n)) := rfl
  clear h
  generalize nums d.names f = R at *
  generalize allOf LG d.names = L at *
  go_enter Tryz.func38, Tryz.ntmps38
  go_wp2_with (go_at_call 81; refine k1.mono ?_; rintro e w1 ⟨v, rfl, ho, b1⟩; have HO := asd ho; have B1 := asd b1; have c1' := C1.out w1 b1; clear ho b1 k1 c0 c1)
  have kb := bin_any (ints_of HO.out) UP.out (by omega) f
  go_wp2_with (go_at_call 82; refine kb.mono ?_; rintro e w2 ⟨i, bb, rfl, rfl, AT⟩; have AA := asd AT; obtain ⟨x, hx, hi⟩ := ints_drop HO.out i AT.le; have HI := asd hi; rw [AT.drop, ← EN.out] at HI; clear AT hi kb)
  go_ret
  exact ⟨x, rfl, HI.out, B1.out⟩
end Go.Proofs.YtajjcfacbnicnaaGreatDoor

/-
  First, Last, the segment that a frame goes to; nobody's log.
-/
namespace Go.Proofs.YtajjcfacbnicnaaGreatDoor
open Go.RowKit
set_option maxRecDepth 100000
open Dk (Later later_some calls_later wp_region_later)
theorem lg_text_len {d : Dk.Ds} (ok : Dk.Ok d.pl) (n : Int) : (tx d.pl n).size ≤ 60000 := by
  unfold tx Dk.opRead
  split
  · rename_i hh
    obtain ⟨f, hf, hfn, hm⟩ := Dk.has_get ok.rising hh
    have := ok.bytes hm
    show ((d.pl.bytesOf (nmL n)).toArray).size ≤ 60000
    unfold Dk.St.bytesOf
    rw [hf]
    simpa using this
  · show 0 ≤ 60000
    omega
/-- The greatest number of the segments; the first one, if there is none. -/
def lLast (s : Dk.St) (f : Int) : Int := max (lastOf (allOf LG s.names)) f
/-- The segment that so many bytes go to. -/
def lPlace (s : Dk.St) (m : Int) (last size : Int) : Int := if 0 < (tx s last).size ∧ m < ((tx s last).size : Int) + size then last + 1 else last
/-- Why a segment may not have more. -/
def lRefused (s : Dk.St) (n wanted : Int) : Int :=
  if (nmL n).size = 0 then 10 else if th s n = false ∧ 16 - (s.files.length : Int) < 3 then 2 else if (s.free : Int) < wanted then 2 else 0
theorem first_any {B l b : Nat} {f m : Int} {d : Dk.Ds} {w : World} (h : Sys B l b f m d w) :
    Calls Tryz.prog 22 #[.pointer (some ⟨l, 0, none⟩)] w fun e w' => e = .returned (.int .i64 f) ∧ w' = w := by
  have k0 := none_any h.lg
  have c1 := h.lg.c1
  clear h
  go_enter Tryz.func22, Tryz.ntmps22
  go_wp2_with (go_at_call 45; refine k0.mono ?_; rintro e w1 ⟨rfl, rfl⟩)
  go_ret
  exact ⟨rfl, rfl⟩
theorem first_nil (w : World) : Calls Tryz.prog 22 #[.pointer none] w fun e w' => e = .returned (.int .i64 0) ∧ w' = w := by
  have k0 := none_nil w
  go_enter Tryz.func22, Tryz.ntmps22
  go_wp2_with (go_at_call 45; refine k0.mono ?_; rintro e w1 ⟨rfl, rfl⟩)
  go_ret
  exact ⟨rfl, rfl⟩
theorem last_nil' (w : World) : Calls Tryz.prog 23 #[.pointer none] w fun e w' => e = .returned (.int .i64 0) ∧ w' = w := by
  have k0 := none_nil w
  go_enter Tryz.func23, Tryz.ntmps23
  go_wp2_with (go_at_call 45; refine k0.mono ?_; rintro e w1 ⟨rfl, rfl⟩)
  go_ret
  exact ⟨rfl, rfl⟩
theorem bytes_nil (w : World) : Calls Tryz.prog 24 #[.pointer none] w fun e w' => e = .returned (.int .i64 0) ∧ w' = w := by
  have k0 := none_nil w
  go_enter Tryz.func24, Tryz.ntmps24
  go_wp2_with (go_at_call 45; refine k0.mono ?_; rintro e w1 ⟨rfl, rfl⟩)
  go_ret
  exact ⟨rfl, rfl⟩
theorem sync_nil (w : World) : Calls Tryz.prog 15 #[.pointer none] w fun e w' => e = .returned (.int .i64 1) ∧ w' = w := by
  have k0 := none_nil w
  go_enter Tryz.func15, Tryz.ntmps15
  go_wp2_with (go_at_call 45; refine k0.mono ?_; rintro e w1 ⟨rfl, rfl⟩)
  go_ret
  exact ⟨rfl, rfl⟩
theorem append_nil (s : ByteArray) (r : Int) (w : World) : Calls Tryz.prog 13 #[.pointer none, .string s, .int .i64 r] w fun e w' => e = .returned (.int .i64 1) ∧ w' = w := by
  have k0 := none_nil w
  go_enter Tryz.func13, Tryz.ntmps13
  go_wp2_with (go_at_call 45; refine k0.mono ?_; rintro e w1 ⟨rfl, rfl⟩)
  go_ret
  exact ⟨rfl, rfl⟩
set_option maxHeartbeats 1000000 in
theorem llast_any {B l b : Nat} {f m : Int} {d : Dk.Ds} {w : World} (h : Sys B l b f m d w) :
    Calls Tryz.prog 23 #[.pointer (some ⟨l, 0, none⟩)] w fun e w' => e = .returned (.int .i64 (lLast d.pl f)) ∧ Below w.heap.size w w' := by
  have k0 := none_any h.lg
  have K70 : Aside (∀ q : Later w, Calls Tryz.prog 70 #[.pointer (some ⟨b, 0, none⟩), .string ⟨#[108, 111, 103]⟩] q.u fun e w' => e = .returned (.int .i64 (lastOf (allOf LG d.names))) ∧ Below q.u.heap.size q.u w') := fun q => last_any (h.below q.bel).rep h.ok h.sz LG (h.below q.bel).vars
  have c0q : ∀ q : Later w, q.u.cell? ⟨l, 0, none⟩ = some (.pointer (some ⟨b, 0, none⟩)) := fun q => (h.below q.bel).lg.c0
  have c1q : ∀ q : Later w, q.u.cell? ⟨l, 1, none⟩ = some (.int .i64 f) := fun q => (h.below q.bel).lg.c1
  have EN : Aside (lLast d.pl f = max (lastOf (allOf LG d.names)) f) := by
    show _ = _
    unfold lLast
    rw [Dk.names_pl]
  clear h
  generalize lLast d.pl f = R at *
  generalize lastOf (allOf LG d.names) = A at *
  go_enter Tryz.func23, Tryz.ntmps23
  go_wp2_with (go_at_call 45; refine k0.mono ?_; rintro e w1 ⟨rfl, rfl⟩)
  have hne := later_some w1
  refine wp_region_later (by kernel_rfl) (by kernel_rfl) ?_
  repeat (go_big_quiet_step ((go_at_call 70; exact calls_later (K70.out _))))
  refine wpQuiet_nil ?_
  rintro _ ⟨q, rfl⟩
  have b1 := asd q.bel
  generalize q.u = w2 at *
  clear c0q c1q hne
  go_wp2
  go_ret
  exact ⟨by rw [EN.out]; rfl, b1.out⟩
set_option maxHeartbeats 1000000 in
theorem place_any {B l b : Nat} {f m : Int} {d : Dk.Ds} {w : World} (h : Sys B l b f m d w) (last size : Int) (hl : 0 ≤ last) (hl2 : last ≤ 1000000) (hs : 0 ≤ size) (hs2 : size ≤ 1000000) :
    Calls Tryz.prog 47 #[.pointer (some ⟨l, 0, none⟩), .int .i64 last, .int .i64 size] w fun e w' => e = .returned (.int .i64 (lPlace d.pl m last size)) ∧ Below w.heap.size w w' := by
  have k71 := text_any h last
  have hz := lg_text_len h.ok last
  have C2 := asd (fun (u : World) (hu : Below w.heap.size w u) => (h.below hu).lg.c2)
  unfold lPlace
  clear h
  generalize tx d.pl last = X at *
  by_cases h0 : 0 < X.size
  · have d0 : decide (0 < X.size) = true := decide_eq_true h0
    have d0' : decide ((0 : Int) < (X.size : Int)) = true := decide_eq_true (by omega)
    by_cases h1 : m < (X.size : Int) + size
    · have d1 : decide (m < (X.size : Int) + size) = true := decide_eq_true h1
      rw [if_pos ⟨h0, h1⟩]
      go_enter Tryz.func47, Tryz.ntmps47
      go_wp2_with (go_at_call 71; refine k71.mono ?_; rintro e w1 ⟨rfl, b1⟩; have c2 := C2.out _ b1)
      go_ret
      exact ⟨rfl, b1⟩
    · have d1 : decide (m < (X.size : Int) + size) = false := decide_eq_false h1
      rw [if_neg (fun h => h1 h.2)]
      go_enter Tryz.func47, Tryz.ntmps47
      go_wp2_with (go_at_call 71; refine k71.mono ?_; rintro e w1 ⟨rfl, b1⟩; have c2 := C2.out _ b1)
      go_ret
      exact ⟨rfl, b1⟩
  · have d0 : decide (0 < X.size) = false := decide_eq_false h0
    have d0' : decide ((0 : Int) < (X.size : Int)) = false := decide_eq_false (by omega)
    rw [if_neg (fun h => h0 h.1)]
    go_enter Tryz.func47, Tryz.ntmps47
    go_wp2_with (go_at_call 71; refine k71.mono ?_; rintro e w1 ⟨rfl, b1⟩; have c2 := C2.out _ b1)
    go_ret
    exact ⟨rfl, b1⟩
end Go.Proofs.YtajjcfacbnicnaaGreatDoor

/-
  Names behind each call; why a segment may not have more.
-/
namespace Go.Proofs.YtajjcfacbnicnaaGreatDoor
open Go.RowKit
set_option maxRecDepth 100000
theorem ddl : ∀ (k u : Nat), u < 10 ^ (k + 1) → (Lib.decDigits u).length ≤ k + 1
  | 0, u, h => by rw [Lib.decDigits_one (by simpa using h)]; simp
  | k + 1, u, h => by
    by_cases hu : u < 10
    · rw [Lib.decDigits_one hu]; simp
    · rw [Nat.pow_succ] at h
      have := ddl k (u / 10) (by omega)
      rw [Lib.decDigits, dif_neg hu, List.length_append]
      simp
      omega
theorem nmL_size (n : Int) : (nmL n).size ≤ 9 := by
  show (Fi.nm LG.data.toList n).toArray.size ≤ 9
  rw [List.size_toArray]
  by_cases h : Fi.wd LG.data.toList = true ∧ 1 ≤ n ∧ n ≤ 99999
  · rw [Fi.nm_in h.1 h.2.1 h.2.2, List.length_append, List.length_cons]
    have := ddl 4 n.toNat (by omega)
    have e : LG.data.toList.length = 3 := rfl
    omega
  · rw [Fi.nm_empty.2 h]
    simp
theorem wd_LG : Fi.wd LG.data.toList = true := by decide +kernel
theorem nmL_empty {n : Int} : (nmL n).size = 0 ↔ ¬ (1 ≤ n ∧ n ≤ 99999) := by
  show (Fi.nm LG.data.toList n).toArray.size = 0 ↔ _
  rw [List.size_toArray, List.length_eq_zero_iff, Fi.nm_empty, wd_LG]
  simp
theorem nmL_nil {n : Int} (h : (nmL n).size = 0) : nmL n = ⟨#[]⟩ := by
  apply ByteArray.ext
  exact Array.eq_empty_of_size_eq_zero h
theorem nmL_inj {a b : Int} (h : nmL a = nmL b) (ha : 1 ≤ a) (ha2 : a ≤ 99999) : a = b := by
  have h1 : Fi.nm LG.data.toList a = Fi.nm LG.data.toList b := by
    have := congrArg (fun x : ByteArray => x.data.toList) h
    simpa [nmL, nmB] using this
  refine Fi.nm_inj h1 ?_
  rw [Ne, Fi.nm_empty, wd_LG]
  simp
  omega
theorem names_settle (s : Dk.St) (i k : Nat) : (s.settle i k).names = s.names := by
  unfold Dk.St.settle
  split
  · rename_i f hf
    show ((s.files.set i _).map Dk.F.name) = _
    rw [Dk.names_set (g := ⟨f.name, f.bytes.take k, k⟩) hf rfl]
    rfl
  · rfl
theorem names_sync (s : Dk.St) (n : ByteArray) : (Dk.opSync s n).2.names = s.names := by
  unfold Dk.opSync
  split
  · split
    · exact names_settle _ _ _
    · rfl
  · rfl
theorem names_cut (s : Dk.St) (n : ByteArray) (k : Int) : (Dk.opCut s n k).2.names = s.names := by
  unfold Dk.opCut
  split
  · split
    · exact names_settle _ _ _
    · rfl
  · rfl
theorem names_more (s : Dk.St) (i : Nat) (n x : ByteArray) : (s.more i n x).names = s.names := by
  unfold Dk.St.more
  split
  · rename_i f hf
    show ((s.files.set i _).map Dk.F.name) = _
    rw [Dk.names_set (g := ⟨f.name, f.bytes ++ x.data.toList, f.sure⟩) hf rfl]
    rfl
  · rfl
theorem names_make (s : Dk.St) (n : ByteArray) : (s.make n).names = if Dk.has s.names n then s.names else s.names.take (Dk.place s.names n) ++ n :: s.names.drop (Dk.place s.names n) := by
  unfold Dk.St.make
  split
  · rfl
  · exact Dk.names_mid _ _ _
theorem mem_make {s : Dk.St} {n x : ByteArray} (h : x ∈ (s.make n).names) : x ∈ s.names ∨ x = n := by
  rw [names_make] at h
  split at h
  · exact .inl h
  · rcases List.mem_append.1 h with h | h
    · exact .inl (List.mem_of_mem_take h)
    · rcases List.mem_cons.1 h with h | h
      · exact .inr h
      · exact .inl (List.mem_of_mem_drop h)
theorem mem_append {s : Dk.St} {n y x : ByteArray} (h : x ∈ (Dk.opAppend s n y).2.names) : x ∈ s.names ∨ x = n := by
  unfold Dk.opAppend at h
  split at h
  · split at h
    · split at h
      · exact .inl h
      · simp only at h
        split at h
        · exact mem_make (s := s.spent) h
        · rw [names_more] at h
          exact mem_make (s := s.spent) h
    · exact .inl h
  · exact .inl h
/-- What Sync does. -/
def lSync (s : Dk.St) (f : Int) : Int × Dk.St := if th s (lLast s f) then Dk.opSync s (nmL (lLast s f)) else (0, s)
set_option maxHeartbeats 1000000 in
theorem refused_any {B l b : Nat} {f m : Int} {d : Dk.Ds} {w : World} (h : Sys B l b f m d w) (n wanted : Int) :
    Calls Tryz.prog 48 #[.pointer (some ⟨l, 0, none⟩), .int .i64 n, .int .i64 wanted] w fun e w' => e = .returned (.int .i64 (lRefused d.pl n wanted)) ∧ Below w.heap.size w w' := by
  have k36 := lname_any n w h.vars
  have k53 := asd (fun (u : World) (hu : Below w.heap.size w u) => there_any (h.below hu) n)
  have k69 := asd (fun (u : World) (hu : Below w.heap.size w u) => Dk.holes_any (h.below hu).rep h.ok)
  have k68 := asd (fun (u : World) (hu : Below w.heap.size w u) => Dk.free_any (h.below hu).rep h.ok)
  have C0 := asd (fun (u : World) (hu : Below w.heap.size w u) => (h.below hu).lg.c0)
  have hfew : d.pl.files.length ≤ 16 := h.ok.few
  unfold lRefused
  by_cases h0 : (nmL n).size = 0
  · rw [if_pos h0]
    rw [nmL_nil h0] at k36
    clear h
    go_enter Tryz.func48, Tryz.ntmps48
    go_wp2_with (go_at_call 36; refine k36.mono ?_; rintro e w1 ⟨rfl, b1⟩)
    go_ret
    exact ⟨rfl, b1⟩
  · rw [if_neg h0]
    have hne : ¬ (nmL n).toList = (⟨#[]⟩ : ByteArray).toList := fun e => h0 (by
      rw [ByteArray.toList_eq, ByteArray.toList_eq] at e
      have : nmL n = ⟨#[]⟩ := ByteArray.ext (Array.toList_inj.mp e)
      rw [this]
      rfl)
    have t1 : ((nmL n).toList == (⟨#[]⟩ : ByteArray).toList) = false := by rw [beq_eq_false_iff_ne]; exact hne
    have t0 : (nmL n).toList.isEmpty = false := by
      cases he : (nmL n).toList with
      | nil => exact absurd (by rw [he, ByteArray.toList_eq]) hne
      | cons a b => rfl
    have hne2 : ¬ nmL n = (⟨#[]⟩ : ByteArray) := fun e => h0 (by rw [e]; rfl)
    clear h h0
    generalize nmL n = N at *
    generalize th d.pl n = T at *
    generalize d.pl.files.length = L at *
    generalize d.pl.free = FR at *
    by_cases hf : (FR : Int) < wanted
    · have d2 : decide ((FR : Int) < wanted) = true := decide_eq_true hf
      cases T with
      | true =>
        rw [if_neg (fun h => by cases h.1), if_pos hf]
        go_enter Tryz.func48, Tryz.ntmps48
        go_wp2_with (first
          | (go_at_call 36; refine k36.mono ?_; rintro e w1 ⟨rfl, b1⟩; have c0 := C0.out _ b1)
          | (go_at_call 53; refine (k53.out _ b1).mono ?_; rintro e w2 ⟨rfl, b2⟩; have b2' := b1.trans (b2.mono b1.size); have c0' := C0.out _ b2')
          | (go_at_call 68; refine (k68.out _ b2').mono ?_; rintro e w3 ⟨rfl, b3⟩))
        go_ret
        exact ⟨rfl, b2'.trans (b3.mono b2'.size)⟩
      | false =>
        by_cases hh : 16 - (L : Int) < 3
        · have d3 : decide (16 - (L : Int) < 3) = true := decide_eq_true hh
          rw [if_pos ⟨rfl, hh⟩]
          go_enter Tryz.func48, Tryz.ntmps48
          go_wp2_with (first
            | (go_at_call 36; refine k36.mono ?_; rintro e w1 ⟨rfl, b1⟩; have c0 := C0.out _ b1)
            | (go_at_call 53; refine (k53.out _ b1).mono ?_; rintro e w2 ⟨rfl, b2⟩; have b2' := b1.trans (b2.mono b1.size); have c0' := C0.out _ b2')
            | (go_at_call 69; refine (k69.out _ b2').mono ?_; rintro e w3 ⟨rfl, rfl⟩))
          go_ret
          exact ⟨rfl, b2'⟩
        · have d3 : decide (16 - (L : Int) < 3) = false := decide_eq_false hh
          rw [if_neg (fun h => hh h.2), if_pos hf]
          go_enter Tryz.func48, Tryz.ntmps48
          go_wp2_with (first
            | (go_at_call 36; refine k36.mono ?_; rintro e w1 ⟨rfl, b1⟩; have c0 := C0.out _ b1)
            | (go_at_call 53; refine (k53.out _ b1).mono ?_; rintro e w2 ⟨rfl, b2⟩; have b2' := b1.trans (b2.mono b1.size); have c0' := C0.out _ b2')
            | (go_at_call 69; refine (k69.out _ b2').mono ?_; rintro e w3 ⟨rfl, rfl⟩)
            | (go_at_call 68; refine (k68.out _ b2').mono ?_; rintro e w4 ⟨rfl, b3⟩))
          go_ret
          exact ⟨rfl, b2'.trans (b3.mono b2'.size)⟩
    · have d2 : decide ((FR : Int) < wanted) = false := decide_eq_false hf
      cases T with
      | true =>
        rw [if_neg (fun h => by cases h.1), if_neg hf]
        go_enter Tryz.func48, Tryz.ntmps48
        go_wp2_with (first
          | (go_at_call 36; refine k36.mono ?_; rintro e w1 ⟨rfl, b1⟩; have c0 := C0.out _ b1)
          | (go_at_call 53; refine (k53.out _ b1).mono ?_; rintro e w2 ⟨rfl, b2⟩; have b2' := b1.trans (b2.mono b1.size); have c0' := C0.out _ b2')
          | (go_at_call 68; refine (k68.out _ b2').mono ?_; rintro e w3 ⟨rfl, b3⟩))
        go_ret
        exact ⟨rfl, b2'.trans (b3.mono b2'.size)⟩
      | false =>
        by_cases hh : 16 - (L : Int) < 3
        · have d3 : decide (16 - (L : Int) < 3) = true := decide_eq_true hh
          rw [if_pos ⟨rfl, hh⟩]
          go_enter Tryz.func48, Tryz.ntmps48
          go_wp2_with (first
            | (go_at_call 36; refine k36.mono ?_; rintro e w1 ⟨rfl, b1⟩; have c0 := C0.out _ b1)
            | (go_at_call 53; refine (k53.out _ b1).mono ?_; rintro e w2 ⟨rfl, b2⟩; have b2' := b1.trans (b2.mono b1.size); have c0' := C0.out _ b2')
            | (go_at_call 69; refine (k69.out _ b2').mono ?_; rintro e w3 ⟨rfl, rfl⟩))
          go_ret
          exact ⟨rfl, b2'⟩
        · have d3 : decide (16 - (L : Int) < 3) = false := decide_eq_false hh
          rw [if_neg (fun h => hh h.2), if_neg hf]
          go_enter Tryz.func48, Tryz.ntmps48
          go_wp2_with (first
            | (go_at_call 36; refine k36.mono ?_; rintro e w1 ⟨rfl, b1⟩; have c0 := C0.out _ b1)
            | (go_at_call 53; refine (k53.out _ b1).mono ?_; rintro e w2 ⟨rfl, b2⟩; have b2' := b1.trans (b2.mono b1.size); have c0' := C0.out _ b2')
            | (go_at_call 69; refine (k69.out _ b2').mono ?_; rintro e w3 ⟨rfl, rfl⟩)
            | (go_at_call 68; refine (k68.out _ b2').mono ?_; rintro e w4 ⟨rfl, b3⟩))
          go_ret
          exact ⟨rfl, b2'.trans (b3.mono b2'.size)⟩
end Go.Proofs.YtajjcfacbnicnaaGreatDoor
