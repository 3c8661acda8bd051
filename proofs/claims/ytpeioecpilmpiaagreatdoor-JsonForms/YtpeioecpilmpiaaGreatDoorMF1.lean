/-
  YtpeioecpilmpiaaGreatDoor: the texts JM, one behind the other.
-/
import Derived.Test.YtpeioecpilmpiaaGreatDoorRows
import Derived.Lib.MapLaws
import Derived.Lib.ValidLaws
import Derived.Lib.TrimUEq
import Derived.Lib.Walk
import Derived.Lib.ItoaNum
import Derived.Lib.Small
import Derived.Lib.Join
import Derived.Lib.Bytealg
import Derived.Lib.RuneBytes
/-
  Texts that are values, as plain functions of their bytes: blanks, signs of a string, numbers, lists, objects; their forms.
-/
namespace Go.Proofs.YtpeioecpilmpiaaGreatDoor
namespace Js
abbrev B := List UInt8

def isBl (b : UInt8) : Bool := b == 32 || b == 9 || b == 10 || b == 13
def skip : B → B
  | [] => []
  | b :: r => if isBl b then skip r else b :: r

def hexv (b : UInt8) : Option Nat :=
  if 48 ≤ b.toNat ∧ b.toNat ≤ 57 then some (b.toNat - 48) else if 97 ≤ b.toNat ∧ b.toNat ≤ 102 then some (b.toNat - 97 + 10) else if 65 ≤ b.toNat ∧ b.toNat ≤ 70 then some (b.toNat - 65 + 10) else none

def hexs : Nat → Nat → B → Option (Nat × B)
  | 0, n, l => some (n, l)
  | _ + 1, _, [] => none
  | k + 1, n, b :: r => match hexv b with
    | none => none
    | some d => hexs k (n * 16 + d) r

def uni (r : B) : Option (Nat × B) :=
  match hexs 4 0 r with
  | none => none
  | some (n, r1) =>
    if n < 55296 ∨ 57343 < n then some (n, r1)
    else if 56320 ≤ n then none
    else match r1 with
      | 92 :: 117 :: r2 => (match hexs 4 0 r2 with
        | none => none
        | some (m, r3) => if 56320 ≤ m ∧ m ≤ 57343 then some (65536 + (n - 55296) * 1024 + (m - 56320), r3) else none)
      | _ => none

/-- What stands behind a \: its code point, and what is left. -/
def esc : B → Option (Nat × B)
  | [] => none
  | b :: r =>
    if b = 34 then some (34, r) else if b = 92 then some (92, r) else if b = 47 then some (47, r) else if b = 98 then some (8, r) else if b = 102 then some (12, r)
    else if b = 110 then some (10, r) else if b = 114 then some (13, r) else if b = 116 then some (9, r) else if b = 117 then uni r else none

/-- The signs of a string, behind its first ". -/
def tx : Nat → B → B → Option (B × B)
  | 0, _, _ => none
  | _ + 1, [], _ => none
  | f + 1, b :: r, out =>
    if b = 34 then some (out, r)
    else if b = 92 then (match esc r with
      | none => none
      | some (n, r') => tx f r' (out ++ Lib.encodeRune n))
    else if (Lib.decodeL (b :: r)).1 < 32 ∨ ((Lib.decodeL (b :: r)).1 = 65533 ∧ (Lib.decodeL (b :: r)).2 = 1) then none
    else tx f ((b :: r).drop (Lib.decodeL (b :: r)).2) (out ++ (b :: r).take (Lib.decodeL (b :: r)).2)

def isDg (b : UInt8) : Bool := decide (48 ≤ b.toNat) && decide (b.toNat ≤ 57)
def val (ds : B) : Nat := ds.foldl (fun n b => n * 10 + (b.toNat - 48)) 0
def digs (l : B) : B := l.takeWhile isDg
/-- A number without its -. -/
def nat (l : B) : Option (Nat × B) :=
  match l with
  | 48 :: r => some (0, r)
  | _ => if (digs l).length = 0 ∨ 15 < (digs l).length then none else some (val (digs l), l.drop (digs l).length)
def nu (l : B) : Option (Int × B) :=
  match l with
  | 45 :: r => (nat r).map fun x => (-(x.1 : Int), x.2)
  | _ => (nat l).map fun x => ((x.1 : Int), x.2)

def hx (n : Nat) : UInt8 := if n < 10 then (48 + n).toUInt8 else (87 + n).toUInt8
/-- A byte's form in a string. -/
def qb (b : UInt8) : B :=
  if b = 34 ∨ b = 92 then [92, b] else if b = 8 then [92, 98] else if b = 9 then [92, 116] else if b = 10 then [92, 110] else if b = 12 then [92, 102] else if b = 13 then [92, 114]
  else if b.toNat < 32 then [92, 117, 48, 48, hx (b.toNat / 16), hx (b.toNat % 16)] else [b]
def quote (t : B) : B := 34 :: t.flatMap qb ++ [34]

def dec (n : Int) : B := Lib.itoa n

structure X where
  kind : Nat
  form : B
  text : B
  num : Int
  names : List B
  items : List B
deriving DecidableEq

def nil : X := ⟨0, [], [], 0, [], []⟩
def mkNull : X := { nil with kind := 1, form := [110, 117, 108, 108] }
def mkTruth (b : Bool) : X := { nil with kind := 2, form := if b then [116, 114, 117, 101] else [102, 97, 108, 115, 101] }
def mkNum (n : Int) : X := { nil with kind := 3, form := dec n, num := n }
def mkText (t : B) : X := { nil with kind := 4, form := quote t, text := t }
def joins (l : List B) : B := Lib.join l [44]
def mkList (l : List X) : X := { nil with kind := 5, form := 91 :: joins (l.map X.form) ++ [93], items := l.map X.form }
def pairB (m : B × X) : B := quote m.1 ++ 58 :: m.2.form
def mkObj (l : List (B × X)) : X := { nil with kind := 6, form := 123 :: joins (l.map pairB) ++ [125], names := l.map (·.1), items := l.map (·.2.form) }

/-- The place of a name among those that rise. -/
def place (l : List B) (name : B) : Nat := l.countP fun x => decide (Lib.compareBytes x name < 0)
def ins (l : List (B × X)) (name : B) (x : X) : List (B × X) := l.take (place (l.map (·.1)) name) ++ (name, x) :: l.drop (place (l.map (·.1)) name)

abbrev Ans := Except Nat (X × B)

def li (g : B → Ans) : Nat → B → List X → Except Nat (List X × B)
  | 0, _, _ => .error 3
  | f + 1, l, acc => match g l with
    | .error e => .error e
    | .ok (x, r) => match skip r with
      | 44 :: r' => li g f r' (acc ++ [x])
      | 93 :: r' => .ok (acc ++ [x], r')
      | _ => .error 3

def ob (g : B → Ans) : Nat → B → List (B × X) → Except Nat (List (B × X) × B)
  | 0, _, _ => .error 3
  | f + 1, l, acc => match skip l with
    | 34 :: t => (match tx (t.length + 1) t [] with
      | none => .error 3
      | some (name, r) =>
        if name ∈ acc.map (·.1) then .error 7
        else match skip r with
          | 58 :: r1 => (match g r1 with
            | .error e => .error e
            | .ok (x, r2) => match skip r2 with
              | 44 :: r3 => ob g f r3 (ins acc name x)
              | 125 :: r3 => .ok (ins acc name x, r3)
              | _ => .error 3)
          | _ => .error 3)
    | _ => .error 3

def word (w l : B) (x : X) : Ans := if w.isPrefixOf l then .ok (x, l.drop w.length) else .error 3

/-- A value, at its first byte. -/
def va (sub : Option (B → Ans)) (l : B) : Ans :=
  match l with
  | [] => .error 3
  | b :: t =>
    if b = 110 then word [110, 117, 108, 108] l mkNull
    else if b = 102 then word [102, 97, 108, 115, 101] l (mkTruth false)
    else if b = 116 then word [116, 114, 117, 101] l (mkTruth true)
    else if b = 34 then (match tx (t.length + 1) t [] with
      | none => .error 3
      | some (s, r) => .ok (mkText s, r))
    else if b = 91 then (match sub with
      | none => .error 10
      | some g => match skip t with
        | 93 :: r => .ok (mkList [], r)
        | t' => (li g (t'.length + 1) t' []).map fun x => (mkList x.1, x.2))
    else if b = 123 then (match sub with
      | none => .error 10
      | some g => match skip t with
        | 125 :: r => .ok (mkObj [], r)
        | t' => (ob g (t'.length + 1) t' []).map fun x => (mkObj x.1, x.2))
    else match nu l with
      | none => .error 3
      | some (n, r) => .ok (mkNum n, r)

def pv : Nat → B → Ans
  | 0, l => va none (skip l)
  | n + 1, l => va (some (pv n)) (skip l)

def of (s : B) : Except Nat X :=
  if 400 < s.length then .error 5
  else match pv 8 s with
    | .error e => .error e
    | .ok (x, r) => match skip r with
      | [] => .ok x
      | _ => .error 3

end Js
namespace Js

theorem skip_drop : ∀ l : B, ∃ k, k ≤ l.length ∧ skip l = l.drop k
  | [] => ⟨0, by simp, rfl⟩
  | b :: r => by
    by_cases h : isBl b = true
    · obtain ⟨k, hk, e⟩ := skip_drop r
      exact ⟨k + 1, by simp; omega, by simp [skip, h, e]⟩
    · exact ⟨0, by simp, by simp [skip, h]⟩
theorem skip_len (l : B) : (skip l).length ≤ l.length := by
  obtain ⟨k, _, e⟩ := skip_drop l
  rw [e, List.length_drop]; omega
theorem skip_id (b : UInt8) (r : B) (h : isBl b = false) : skip (b :: r) = b :: r := by simp [skip, h]
theorem skip_skip : ∀ l : B, skip (skip l) = skip l
  | [] => rfl
  | b :: r => by
    by_cases h : isBl b = true
    · simp [skip, h, skip_skip r]
    · simp [skip, h]

theorem hexs_len : ∀ (k n : Nat) (l : B) (m : Nat) (r : B), hexs k n l = some (m, r) → l.length = r.length + k ∧ r = l.drop k
  | 0, n, l, m, r, h => by
    simp only [hexs, Option.some.injEq, Prod.mk.injEq] at h
    rw [h.2]; simp
  | k + 1, n, [], m, r, h => by simp [hexs] at h
  | k + 1, n, b :: t, m, r, h => by
    simp only [hexs] at h
    split at h
    · cases h
    · obtain ⟨e1, e2⟩ := hexs_len k _ t m r h
      exact ⟨by simp; omega, by simpa using e2⟩
theorem hexs_lt : ∀ (k n : Nat) (l : B) (m : Nat) (r : B), hexs k n l = some (m, r) → m < (n + 1) * 16 ^ k
  | 0, n, l, m, r, h => by
    simp only [hexs, Option.some.injEq, Prod.mk.injEq] at h
    omega
  | k + 1, n, [], m, r, h => by simp [hexs] at h
  | k + 1, n, b :: t, m, r, h => by
    simp only [hexs] at h
    split at h
    · cases h
    · rename_i d hd
      have h1 := hexs_lt k _ t m r h
      have h2 : d < 16 := by
        unfold hexv at hd
        have := b.toNat_lt
        repeat' split at hd
        all_goals first | (cases hd; omega) | cases hd
      calc m < (n * 16 + d + 1) * 16 ^ k := h1
        _ ≤ ((n + 1) * 16) * 16 ^ k := Nat.mul_le_mul_right _ (by omega)
        _ = (n + 1) * 16 ^ (k + 1) := by rw [Nat.pow_succ, Nat.mul_assoc, Nat.mul_comm 16]

def isScalar (n : Nat) : Prop := n < 55296 ∨ (57343 < n ∧ n ≤ 1114111)

theorem uni_ok (l : B) (n : Nat) (r : B) (h : uni l = some (n, r)) : r.length + 4 ≤ l.length ∧ isScalar n := by
  unfold uni at h
  split at h
  · cases h
  · rename_i m r1 h1
    have e1 := hexs_len 4 0 l m r1 h1
    have e2 := hexs_lt 4 0 l m r1 h1
    split at h
    · simp only [Option.some.injEq, Prod.mk.injEq] at h
      obtain ⟨rfl, rfl⟩ := h
      exact ⟨by omega, by unfold isScalar; omega⟩
    · split at h
      · cases h
      · split at h
        · rename_i r2
          split at h
          · cases h
          · rename_i m2 r3 h3
            have e3 := hexs_len 4 0 r2 m2 r3 h3
            split at h
            · simp only [Option.some.injEq, Prod.mk.injEq] at h
              obtain ⟨rfl, rfl⟩ := h
              simp only [List.length_cons] at e1
              exact ⟨by omega, by unfold isScalar; omega⟩
            · cases h
        · cases h

theorem esc_ok (l : B) (n : Nat) (r : B) (h : esc l = some (n, r)) : r.length + 1 ≤ l.length ∧ isScalar n := by
  cases l with
  | nil => simp [esc] at h
  | cons b t =>
    simp only [esc] at h
    unfold isScalar
    repeat' split at h
    all_goals first
      | (simp only [Option.some.injEq, Prod.mk.injEq] at h; obtain ⟨rfl, rfl⟩ := h; exact ⟨by simp, by omega⟩)
      | (have := uni_ok t n r h; exact ⟨by simp; omega, this.2⟩)
      | cases h

theorem tx_fuel : ∀ (f f' : Nat) (l out : B), l.length < f → l.length < f' → tx f l out = tx f' l out
  | 0, _, _, _, h, _ => absurd h (Nat.not_lt_zero _)
  | _ + 1, 0, _, _, _, h => absurd h (Nat.not_lt_zero _)
  | f + 1, f' + 1, [], out, _, _ => rfl
  | f + 1, f' + 1, b :: r, out, h, h' => by
    simp only [List.length_cons] at h h'
    simp only [tx]
    split
    · rfl
    · split
      · cases he : esc r with
        | none => rfl
        | some x =>
          have := esc_ok r x.1 x.2 he
          exact tx_fuel f f' x.2 _ (by omega) (by omega)
      · split
        · rfl
        · have hw := Lib.decodeL_width (b :: r)
          exact tx_fuel f f' _ _ (by rw [List.length_drop, List.length_cons]; omega) (by rw [List.length_drop, List.length_cons]; omega)

/-- The signs of a string, with fuel enough. -/
def txx (l out : B) : Option (B × B) := tx (l.length + 1) l out
theorem txx_nil (out : B) : txx [] out = none := rfl
theorem txx_end (r out : B) : txx (34 :: r) out = some (out, r) := by simp [txx, tx]
theorem txx_esc (r out : B) : txx (92 :: r) out = match esc r with | none => none | some (n, r') => txx r' (out ++ Lib.encodeRune n) := by
  unfold txx
  rw [tx]
  simp only [List.length_cons, show ¬ ((92 : UInt8) = 34) by decide, if_false, if_true]
  cases he : esc r with
  | none => rfl
  | some x =>
    have := esc_ok r x.1 x.2 he
    exact tx_fuel _ _ x.2 _ (by omega) (by omega)
theorem txx_bad (b : UInt8) (r out : B) (h1 : b ≠ 34) (h2 : b ≠ 92) (h : (Lib.decodeL (b :: r)).1 < 32 ∨ ((Lib.decodeL (b :: r)).1 = 65533 ∧ (Lib.decodeL (b :: r)).2 = 1)) : txx (b :: r) out = none := by
  unfold txx
  rw [tx, if_neg h1, if_neg h2, if_pos h]
theorem txx_plain (b : UInt8) (r out : B) (h1 : b ≠ 34) (h2 : b ≠ 92) (h : ¬ ((Lib.decodeL (b :: r)).1 < 32 ∨ ((Lib.decodeL (b :: r)).1 = 65533 ∧ (Lib.decodeL (b :: r)).2 = 1))) :
    txx (b :: r) out = txx ((b :: r).drop (Lib.decodeL (b :: r)).2) (out ++ (b :: r).take (Lib.decodeL (b :: r)).2) := by
  unfold txx
  rw [tx, if_neg h1, if_neg h2, if_neg h]
  have hw := Lib.decodeL_width (b :: r)
  exact tx_fuel _ _ _ _ (by rw [List.length_drop, List.length_cons]; omega) (by omega)

theorem txx_len (l out t r : B) (h : txx l out = some (t, r)) : r.length + 1 ≤ l.length := by
  generalize hn : l.length = n
  induction n using Nat.strongRecOn generalizing l out with
  | _ n ih =>
    cases l with
    | nil => simp [txx_nil] at h
    | cons b l =>
      simp only [List.length_cons] at hn
      by_cases h1 : b = 34
      · subst h1
        rw [txx_end] at h
        simp only [Option.some.injEq, Prod.mk.injEq] at h
        obtain ⟨rfl, rfl⟩ := h
        omega
      · by_cases h2 : b = 92
        · subst h2
          rw [txx_esc] at h
          cases he : esc l with
          | none => simp [he] at h
          | some x =>
            have e := esc_ok l x.1 x.2 he
            simp only [he] at h
            have := ih _ (by omega) x.2 _ h rfl
            omega
        · by_cases h3 : (Lib.decodeL (b :: l)).1 < 32 ∨ ((Lib.decodeL (b :: l)).1 = 65533 ∧ (Lib.decodeL (b :: l)).2 = 1)
          · rw [txx_bad b l out h1 h2 h3] at h; cases h
          · rw [txx_plain b l out h1 h2 h3] at h
            have hw := Lib.decodeL_width (b :: l)
            have := ih _ (by rw [List.length_drop, List.length_cons]; omega) _ _ h rfl
            rw [List.length_drop, List.length_cons] at this
            omega

/-! numbers -/
theorem digs_app (l : B) : digs l ++ l.drop (digs l).length = l := by
  unfold digs
  induction l with
  | nil => rfl
  | cons b r ih =>
    rw [List.takeWhile_cons]
    split
    · simpa using ih
    · rfl
theorem nat_ok (l : B) (n : Nat) (r : B) (h : nat l = some (n, r)) : r.length + 1 ≤ l.length := by
  unfold nat at h
  split at h
  · simp only [Option.some.injEq, Prod.mk.injEq] at h
    obtain ⟨rfl, rfl⟩ := h
    simp
  · split at h
    · cases h
    · rename_i hd
      simp only [Option.some.injEq, Prod.mk.injEq] at h
      obtain ⟨rfl, rfl⟩ := h
      have := congrArg List.length (digs_app l)
      rw [List.length_append] at this
      omega
theorem nu_ok (l : B) (n : Int) (r : B) (h : nu l = some (n, r)) : r.length + 1 ≤ l.length := by
  unfold nu at h
  split at h
  · rename_i t
    cases hx : nat t with
    | none => simp [hx] at h
    | some x =>
      simp only [hx, Option.map_some, Option.some.injEq, Prod.mk.injEq] at h
      have := nat_ok t x.1 x.2 hx
      rw [← h.2]
      simp; omega
  · cases hx : nat l with
    | none => simp [hx] at h
    | some x =>
      simp only [hx, Option.map_some, Option.some.injEq, Prod.mk.injEq] at h
      have := nat_ok _ x.1 x.2 hx
      rw [← h.2]
      exact this

/-! lists and objects: fuel -/
def Shr (g : B → Ans) : Prop := ∀ l x r, g l = .ok (x, r) → r.length + 1 ≤ l.length

theorem li_fuel (g : B → Ans) (hg : Shr g) : ∀ (f f' : Nat) (l : B) (acc : List X), l.length < f → l.length < f' → li g f l acc = li g f' l acc
  | 0, _, _, _, h, _ => absurd h (Nat.not_lt_zero _)
  | _ + 1, 0, _, _, _, h => absurd h (Nat.not_lt_zero _)
  | f + 1, f' + 1, l, acc, h, h' => by
    simp only [li]
    cases hx : g l with
    | error e => rfl
    | ok x =>
      have h1 := hg l x.1 x.2 hx
      have h2 := skip_len x.2
      simp only []
      split
      · rename_i r' e
        rw [e, List.length_cons] at h2
        exact li_fuel g hg f f' r' _ (by omega) (by omega)
      · rfl
      · rfl

theorem ob_fuel (g : B → Ans) (hg : Shr g) : ∀ (f f' : Nat) (l : B) (acc : List (B × X)), l.length < f → l.length < f' → ob g f l acc = ob g f' l acc
  | 0, _, _, _, h, _ => absurd h (Nat.not_lt_zero _)
  | _ + 1, 0, _, _, _, h => absurd h (Nat.not_lt_zero _)
  | f + 1, f' + 1, l, acc, h, h' => by
    simp only [ob]
    have h0 := skip_len l
    split
    · rename_i t e
      rw [e, List.length_cons] at h0
      cases hx : tx (t.length + 1) t [] with
      | none => rfl
      | some y =>
        have h1 := txx_len t [] y.1 y.2 hx
        simp only []
        split
        · rfl
        · have h2 := skip_len y.2
          split
          · rename_i r1 e1
            rw [e1, List.length_cons] at h2
            cases hy : g r1 with
            | error e => rfl
            | ok x =>
              have h3 := hg r1 x.1 x.2 hy
              have h4 := skip_len x.2
              simp only []
              split
              · rename_i r3 e3
                rw [e3, List.length_cons] at h4
                exact ob_fuel g hg f f' r3 _ (by omega) (by omega)
              · rfl
              · rfl
          · rfl
    · rfl

def lix (g : B → Ans) (l : B) (acc : List X) := li g (l.length + 1) l acc
def obx (g : B → Ans) (l : B) (acc : List (B × X)) := ob g (l.length + 1) l acc
theorem lix_eq (g : B → Ans) (hg : Shr g) (l : B) (acc : List X) : lix g l acc = match g l with
    | .error e => .error e
    | .ok (x, r) => match skip r with
      | 44 :: r' => lix g r' (acc ++ [x])
      | 93 :: r' => .ok (acc ++ [x], r')
      | _ => .error 3 := by
  unfold lix
  rw [li]
  cases hx : g l with
  | error e => rfl
  | ok x =>
    have h1 := hg l x.1 x.2 hx
    have h2 := skip_len x.2
    simp only []
    split
    · rename_i r' e
      rw [e, List.length_cons] at h2
      exact li_fuel g hg _ _ r' _ (by omega) (by omega)
    · rfl
    · rfl
theorem obx_eq (g : B → Ans) (hg : Shr g) (l : B) (acc : List (B × X)) : obx g l acc = match skip l with
    | 34 :: t => (match txx t [] with
      | none => .error 3
      | some (name, r) =>
        if name ∈ acc.map (·.1) then .error 7
        else match skip r with
          | 58 :: r1 => (match g r1 with
            | .error e => .error e
            | .ok (x, r2) => match skip r2 with
              | 44 :: r3 => obx g r3 (ins acc name x)
              | 125 :: r3 => .ok (ins acc name x, r3)
              | _ => .error 3)
          | _ => .error 3)
    | _ => .error 3 := by
  unfold obx txx
  rw [ob]
  have h0 := skip_len l
  split
  · rename_i t e
    rw [e, List.length_cons] at h0
    cases hx : tx (t.length + 1) t [] with
    | none => rfl
    | some y =>
      have h1 := txx_len t [] y.1 y.2 hx
      simp only []
      split
      · rfl
      · have h2 := skip_len y.2
        split
        · rename_i r1 e1
          rw [e1, List.length_cons] at h2
          cases hy : g r1 with
          | error e => rfl
          | ok x =>
            have h3 := hg r1 x.1 x.2 hy
            have h4 := skip_len x.2
            simp only []
            split
            · rename_i r3 e3
              rw [e3, List.length_cons] at h4
              exact ob_fuel g hg _ _ r3 _ (by omega) (by omega)
            · rfl
            · rfl
        · rfl
  · rfl

theorem li_shr (g : B → Ans) (hg : Shr g) : ∀ (f : Nat) (l : B) (acc xs : List X) (r : B), li g f l acc = .ok (xs, r) → r.length + 1 ≤ l.length
  | 0, _, _, _, _, h => by simp [li] at h
  | f + 1, l, acc, xs, r, h => by
    simp only [li] at h
    cases hx : g l with
    | error e => simp [hx] at h
    | ok x =>
      have h1 := hg l x.1 x.2 hx
      have h2 := skip_len x.2
      simp only [hx] at h
      split at h
      · rename_i r' e
        rw [e, List.length_cons] at h2
        have := li_shr g hg f r' _ xs r h
        omega
      · rename_i r' e
        rw [e, List.length_cons] at h2
        simp only [Except.ok.injEq, Prod.mk.injEq] at h
        rw [← h.2]; omega
      · cases h
theorem ob_shr (g : B → Ans) (hg : Shr g) : ∀ (f : Nat) (l : B) (acc xs : List (B × X)) (r : B), ob g f l acc = .ok (xs, r) → r.length + 1 ≤ l.length
  | 0, _, _, _, _, h => by simp [ob] at h
  | f + 1, l, acc, xs, r, h => by
    simp only [ob] at h
    have h0 := skip_len l
    split at h
    · rename_i t e
      rw [e, List.length_cons] at h0
      cases hx : tx (t.length + 1) t [] with
      | none => simp [hx] at h
      | some y =>
        have h1 := txx_len t [] y.1 y.2 hx
        simp only [hx] at h
        split at h
        · cases h
        · have h2 := skip_len y.2
          split at h
          · rename_i r1 e1
            rw [e1, List.length_cons] at h2
            cases hy : g r1 with
            | error e => simp [hy] at h
            | ok x =>
              have h3 := hg r1 x.1 x.2 hy
              have h4 := skip_len x.2
              simp only [hy] at h
              split at h
              · rename_i r3 e3
                rw [e3, List.length_cons] at h4
                have := ob_shr g hg f r3 _ xs r h
                omega
              · rename_i r3 e3
                rw [e3, List.length_cons] at h4
                simp only [Except.ok.injEq, Prod.mk.injEq] at h
                rw [← h.2]; omega
              · cases h
          · cases h
    · cases h

theorem map_ok {α β : Type} {e : Except Nat α} {f : α → β} {y : β} (h : e.map f = .ok y) : ∃ x, e = .ok x ∧ f x = y := by
  cases e with
  | error k => cases h
  | ok x => exact ⟨x, rfl, by simpa [Except.map] using h⟩

theorem word_shr (w l : B) (x y : X) (r : B) (hw : 1 ≤ w.length) (h : word w l x = .ok (y, r)) : r.length + 1 ≤ l.length := by
  unfold word at h
  split at h
  · rename_i hp
    have := (List.isPrefixOf_iff_prefix.1 hp).length_le
    simp only [Except.ok.injEq, Prod.mk.injEq] at h
    rw [← h.2, List.length_drop]; omega
  · cases h

theorem va_shr (sub : Option (B → Ans)) (hs : ∀ g, sub = some g → Shr g) : Shr (va sub) := by
  intro l x r h
  cases l with
  | nil => simp [va] at h
  | cons b t =>
    simp only [va] at h
    split at h
    · exact word_shr _ _ _ _ _ (by decide) h
    · split at h
      · exact word_shr _ _ _ _ _ (by decide) h
      · split at h
        · exact word_shr _ _ _ _ _ (by decide) h
        · split at h
          · cases hx : tx (t.length + 1) t [] with
            | none => simp [hx] at h
            | some y =>
              have := txx_len t [] y.1 y.2 hx
              simp only [hx, Except.ok.injEq, Prod.mk.injEq] at h
              rw [← h.2, List.length_cons]; omega
          · split at h
            · cases sub with
              | none => cases h
              | some g =>
                have h0 := skip_len t
                simp only [] at h
                split at h
                · rename_i r' e
                  rw [e, List.length_cons] at h0
                  simp only [Except.ok.injEq, Prod.mk.injEq] at h
                  rw [← h.2, List.length_cons]; omega
                · obtain ⟨y, hy, e⟩ := map_ok h
                  have := li_shr g (hs g rfl) _ _ _ _ _ hy
                  simp only [Prod.mk.injEq] at e
                  rw [← e.2, List.length_cons]; omega
            · split at h
              · cases sub with
                | none => cases h
                | some g =>
                  have h0 := skip_len t
                  simp only [] at h
                  split at h
                  · rename_i r' e
                    rw [e, List.length_cons] at h0
                    simp only [Except.ok.injEq, Prod.mk.injEq] at h
                    rw [← h.2, List.length_cons]; omega
                  · obtain ⟨y, hy, e⟩ := map_ok h
                    have := ob_shr g (hs g rfl) _ _ _ _ _ hy
                    simp only [Prod.mk.injEq] at e
                    rw [← e.2, List.length_cons]; omega
              · cases hx : nu (b :: t) with
                | none => simp [hx] at h
                | some y =>
                  have := nu_ok _ y.1 y.2 hx
                  simp only [hx, Except.ok.injEq, Prod.mk.injEq] at h
                  rw [← h.2]; omega
theorem pv_shr : ∀ n, Shr (pv n)
  | 0 => fun l x r h => by
    have := va_shr none (fun g h => by cases h) (skip l) x r h
    have := skip_len l
    omega
  | n + 1 => fun l x r h => by
    have := va_shr (some (pv n)) (fun g h => by cases h; exact pv_shr n) (skip l) x r h
    have := skip_len l
    omega
end Js
end Go.Proofs.YtpeioecpilmpiaaGreatDoor
