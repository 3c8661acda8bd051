/-
  Plain mathematics of paths and methods: parts, how each is read, which are left, how they are written; that a form's form is the same. No condition beside those written at each theorem.
-/
import Derived.Lib.SplitLaws
import Derived.Lib.Case
namespace Go.Proofs.YtkijglkjpgjdaaaDoor.Cn

/-- A byte that is a letter, a digit; one that stands in a path's form as it is. -/
def letter (b : UInt8) : Bool := (decide (65 ≤ b.toNat) && decide (b.toNat ≤ 90)) || (decide (97 ≤ b.toNat) && decide (b.toNat ≤ 122))
def digit (b : UInt8) : Bool := decide (48 ≤ b.toNat) && decide (b.toNat ≤ 57)
def plain (b : UInt8) : Bool := (decide (b.toNat = 45) || decide (b.toNat = 46) || decide (b.toNat = 95) || decide (b.toNat = 126)) || (letter b || digit b)

/-- What a digit to base 16 stands for; -1: it is none. -/
def hexV (b : UInt8) : Int := if 48 ≤ b.toNat ∧ b.toNat ≤ 57 then (b.toNat : Int) - 48 else if 65 ≤ b.toNat ∧ b.toNat ≤ 70 then (b.toNat : Int) - 55 else if 97 ≤ b.toNat ∧ b.toNat ≤ 102 then (b.toNat : Int) - 87 else -1

theorem hexV_range (b : UInt8) : -1 ≤ hexV b ∧ hexV b ≤ 15 := by
  unfold hexV
  repeat' split
  all_goals omega

/-- A part's bytes, read. -/
def readB : List UInt8 → Option (List UInt8)
  | [] => some []
  | 37 :: h :: l :: t => if hexV h < 0 ∨ hexV l < 0 then none else (readB t).map (UInt8.ofNat (hexV h * 16 + hexV l).toNat :: ·)
  | b :: t => if b = 37 then none else (readB t).map (b :: ·)

/-- What is left at a place, behind what was read. -/
def rest (out : List UInt8) (t : List UInt8) : Option (List UInt8) := (readB t).map (out ++ ·)

theorem rest_nil (out : List UInt8) : rest out [] = some out := by simp [rest, readB]
theorem rest_start (t : List UInt8) : rest [] t = readB t := by
  unfold rest
  cases readB t <;> simp
theorem rest_plain (out : List UInt8) (b : UInt8) (t : List UInt8) (h : b ≠ 37) : rest out (b :: t) = rest (out ++ [b]) t := by
  have : readB (b :: t) = (readB t).map (b :: ·) := by
    conv => lhs; unfold readB
    split
    · rename_i h2; cases h2
    · rename_i h2; cases h2; exact absurd rfl h
    · rename_i h2; cases h2; rw [if_neg h]
  unfold rest
  rw [this]
  cases readB t <;> simp
theorem rest_short (out : List UInt8) (t : List UInt8) (h : t.length ≤ 1) : rest out (37 :: t) = none := by
  unfold rest
  match t, h with
  | [], _ => simp [readB]
  | [a], _ => simp [readB]
theorem rest_bad (out : List UInt8) (a b : UInt8) (t : List UInt8) (h : hexV a < 0 ∨ hexV b < 0) : rest out (37 :: a :: b :: t) = none := by
  simp [rest, readB, h]
theorem rest_hex (out : List UInt8) (a b : UInt8) (t : List UInt8) (h : ¬ (hexV a < 0 ∨ hexV b < 0)) : rest out (37 :: a :: b :: t) = rest (out ++ [UInt8.ofNat (hexV a * 16 + hexV b).toNat]) t := by
  unfold rest
  rw [readB, if_neg h]
  cases readB t <;> simp

theorem readB_len : ∀ (n : Nat) (t p : List UInt8), t.length ≤ n → readB t = some p → p.length ≤ t.length
  | 0, [], p, _, h => by simp [readB] at h; subst h; simp
  | n + 1, t, p, hn, h => by
    unfold readB at h
    split at h
    · simp at h; subst h; simp
    · rename_i x y u
      split at h
      · cases h
      · cases hr : readB u with
        | none => rw [hr] at h; cases h
        | some q =>
          rw [hr] at h
          simp at h
          have := readB_len n u q (by simp at hn; omega) hr
          subst h
          simp; omega
    · rename_i b u _
      split at h
      · cases h
      · cases hr : readB u with
        | none => rw [hr] at h; cases h
        | some q =>
          rw [hr] at h
          simp at h
          have := readB_len n u q (by simp at hn; omega) hr
          subst h
          simp; omega

/-- The parts between the bytes 47. -/
def sp : List UInt8 → List (List UInt8)
  | [] => [[]]
  | b :: t => if b = 47 then [] :: sp t else match sp t with
    | [] => [[b]]
    | p :: r => (b :: p) :: r

theorem sp_ne : ∀ t, sp t ≠ []
  | [] => by simp [sp]
  | b :: t => by
    unfold sp
    split
    · simp
    · split <;> simp

theorem sp_slash (t : List UInt8) : sp (47 :: t) = [] :: sp t := by simp [sp]
theorem sp_other (b : UInt8) (t p : List UInt8) (r : List (List UInt8)) (h : b ≠ 47) (e : sp t = p :: r) : sp (b :: t) = (b :: p) :: r := by simp [sp, h, e]

theorem sp_none : ∀ (t : List UInt8), (∀ b ∈ t, b ≠ 47) → sp t = [t]
  | [], _ => rfl
  | b :: t, h => sp_other b t t [] (h b (by simp)) (sp_none t fun x hx => h x (by simp [hx]))

theorem sp_join : ∀ (t u : List UInt8), (∀ b ∈ t, b ≠ 47) → sp (t ++ 47 :: u) = t :: sp u
  | [], u, _ => sp_slash u
  | b :: t, u, h => sp_other b _ t _ (h b (by simp)) (sp_join t u fun x hx => h x (by simp [hx]))

theorem index_slash (t : List UInt8) : Lib.index (47 :: t) [47] = 0 := by simp [Lib.index]
theorem index_other (b : UInt8) (t : List UInt8) (h : b ≠ 47) : Lib.index (b :: t) [47] = if Lib.index t [47] == -1 then -1 else Lib.index t [47] + 1 := by
  have : ([47] : List UInt8).isPrefixOf (b :: t) = false := by
    simp [List.isPrefixOf]
    exact fun e => h e.symm
  rw [Lib.index, this]
  rfl
theorem index_ge : ∀ t : List UInt8, -1 ≤ Lib.index t [47]
  | [] => by simp [Lib.index]
  | b :: t => by
    have := index_ge t
    by_cases h : b = 47
    · subst h; rw [index_slash]; omega
    · rw [index_other b t h]
      split <;> omega
theorem index_some : ∀ t : List UInt8, 1 ≤ t.count 47 → Lib.index t [47] ≠ -1
  | [], h => by simp at h
  | b :: t, h => by
    by_cases hb : b = 47
    · subst hb; rw [index_slash]; decide
    · rw [index_other b t hb]
      have := index_some t (by simpa [List.count_cons, hb] using h)
      have h2 := index_ge t
      simp [this]
      omega

theorem splitK_sp : ∀ t : List UInt8, Lib.splitK [47] 0 (t.count 47) t = sp t
  | [] => rfl
  | b :: t => by
    have ih := splitK_sp t
    by_cases hb : b = 47
    · subst hb
      rw [sp_slash, List.count_cons_self, Lib.splitK, index_slash]
      simp [ih]
    · have hc : (b :: t).count 47 = t.count 47 := by simp [hb]
      rw [hc]
      cases hk : t.count 47 with
      | zero =>
        rw [hk] at ih
        exact (sp_other b t t [] hb (by rw [← ih]; rfl)).symm
      | succ k =>
        rw [hk] at ih
        have h1 := index_some t (by omega)
        have h2 := index_ge t
        have hi : Lib.index (b :: t) [47] = Lib.index t [47] + 1 := by rw [index_other b t hb, if_neg (by simpa using h1)]
        rw [Lib.splitK, if_neg (by simpa using h1)] at ih
        rw [Lib.splitK, hi, if_neg (by simp; omega)]
        obtain ⟨i, hi2⟩ : ∃ i : Nat, Lib.index t [47] = (i : Int) := ⟨(Lib.index t [47]).toNat, by omega⟩
        rw [hi2] at ih ⊢
        rw [sp_other b t _ _ hb ih.symm]
        rw [show ((i : Int) + 1).toNat = i + 1 by omega]
        simp only [List.length_cons, List.length_nil, Int.toNat_natCast, Nat.add_zero, Nat.zero_add, List.take_succ_cons, List.drop_succ_cons]

theorem splitB_sp (s : ByteArray) : (Lib.splitB ⟨#[47]⟩ 0 (s.data.toList.count 47) s).map (·.data.toList) = sp s.data.toList := by
  rw [Lib.splitB_data]
  exact splitK_sp _

/-- A part that may be left. -/
def step (l : List (List UInt8)) (p : List UInt8) : Option (List (List UInt8)) :=
  if p = [] ∨ p = [46] then some l else if p = [46, 46] then (if l = [] then none else some l.dropLast) else some (l ++ [p])

def walk : List (List UInt8) → List (List UInt8) → Option (List (List UInt8))
  | l, [] => some l
  | l, p :: t => match step l p with
    | none => none
    | some l' => walk l' t

/-- A part, read and looked at. -/
def rd (good : List UInt8 → Bool) (raw : List UInt8) : Option (List UInt8) := match readB raw with
  | none => none
  | some p => if good p then some p else none

def all (good : List UInt8 → Bool) : List (List UInt8) → Option (List (List UInt8))
  | [] => some []
  | r :: t => match rd good r with
    | none => none
    | some p => (all good t).map (p :: ·)

def both (good : List UInt8 → Bool) : List (List UInt8) → List (List UInt8) → Option (List (List UInt8))
  | l, [] => some l
  | l, r :: t => match rd good r with
    | none => none
    | some p => match step l p with
      | none => none
      | some l' => both good l' t

theorem both_is (good : List UInt8 → Bool) : ∀ (t l : List (List UInt8)), both good l t = (all good t).bind (walk l)
  | [], l => rfl
  | r :: t, l => by
    unfold both all
    cases h : rd good r with
    | none => rfl
    | some p =>
      dsimp only
      cases hs : step l p with
      | none =>
        cases all good t <;> simp [walk, hs]
      | some l' =>
        dsimp only
        rw [both_is good t l']
        cases all good t <;> simp [walk, hs]

/-- A digit to base 16. -/
def hexC (n : Nat) : UInt8 := UInt8.ofNat (if n < 10 then 48 + n else 55 + n)
def writeB (b : UInt8) : List UInt8 := if plain b then [b] else [37, hexC (b.toNat / 16), hexC (b.toNat % 16)]
def writeP (p : List UInt8) : List UInt8 := p.flatMap writeB
def writes (l : List (List UInt8)) : List UInt8 := l.flatMap fun p => 47 :: writeP p
def form (l : List (List UInt8)) : List UInt8 := if l = [] then [47] else writes l

/-- The form of a path. -/
def path (good : List UInt8 → Bool) (s : List UInt8) : Option (List UInt8) := match s with
  | [] => none
  | b :: t => if s.length ≤ 60 ∧ b = 47 then match (all good (sp t)).bind (walk []) with
      | none => none
      | some l => if (form l).length ≤ 60 then some (form l) else none
    else none

theorem writeB_read (b : UInt8) (t : List UInt8) : readB (writeB b ++ t) = (readB t).map (b :: ·) := by
  unfold writeB
  split
  · rename_i h
    have hb : b ≠ 37 := by rintro rfl; revert h; decide
    have := rest_plain [] b t hb
    rw [rest_start] at this
    rw [List.singleton_append, this]
    rfl
  · have h16 : ∀ n : Fin 16, hexV (hexC n.val) = n.val := by decide
    have hlt := b.toNat_lt
    have h1 := h16 ⟨b.toNat / 16, by omega⟩
    have h2 := h16 ⟨b.toNat % 16, by omega⟩
    dsimp only at h1 h2
    have := rest_hex [] (hexC (b.toNat / 16)) (hexC (b.toNat % 16)) t (by rw [h1, h2]; omega)
    rw [rest_start, h1, h2] at this
    rw [show ([37, hexC (b.toNat / 16), hexC (b.toNat % 16)] ++ t) = 37 :: hexC (b.toNat / 16) :: hexC (b.toNat % 16) :: t from rfl, this]
    have e : UInt8.ofNat (((b.toNat / 16 : Nat) : Int) * 16 + ((b.toNat % 16 : Nat) : Int)).toNat = b := by
      rw [show (((b.toNat / 16 : Nat) : Int) * 16 + ((b.toNat % 16 : Nat) : Int)).toNat = b.toNat by omega]
      simp
    rw [e]
    rfl

theorem writeP_read : ∀ p : List UInt8, readB (writeP p) = some p
  | [] => rfl
  | b :: p => by
    show readB (writeB b ++ writeP p) = _
    rw [writeB_read, writeP_read p]
    rfl

theorem writeB_slash (b : UInt8) : ∀ x ∈ writeB b, x ≠ 47 := by
  unfold writeB
  split
  · rename_i h
    intro x hx
    simp at hx
    subst hx
    rintro rfl
    revert h
    decide
  · have h16 : ∀ n : Fin 16, hexC n.val ≠ 47 := by decide
    have hlt := b.toNat_lt
    intro x hx
    simp at hx
    rcases hx with rfl | rfl | rfl
    · decide
    · exact h16 ⟨b.toNat / 16, by omega⟩
    · exact h16 ⟨b.toNat % 16, by omega⟩

theorem writeP_slash (p : List UInt8) : ∀ x ∈ writeP p, x ≠ 47 := by
  intro x hx
  unfold writeP at hx
  rw [List.mem_flatMap] at hx
  obtain ⟨b, _, h⟩ := hx
  exact writeB_slash b x h

theorem writes_sp : ∀ (p : List UInt8) (l : List (List UInt8)), sp (writeP p ++ writes l) = writeP p :: l.map writeP
  | p, [] => by
    show sp (writeP p ++ []) = _
    rw [List.append_nil]
    exact sp_none _ (writeP_slash p)
  | p, q :: l => by
    show sp (writeP p ++ (47 :: (writeP q ++ writes l))) = _
    rw [sp_join _ _ (writeP_slash p), writes_sp q l]
    rfl

/-- What may stand in a form. -/
def still (good : List UInt8 → Bool) (p : List UInt8) : Prop := p ≠ [] ∧ p ≠ [46] ∧ p ≠ [46, 46] ∧ good p = true

theorem rd_good (good : List UInt8 → Bool) {raw p : List UInt8} (h : rd good raw = some p) : good p = true := by
  unfold rd at h
  split at h
  · cases h
  · split at h
    · simp at h; subst h; assumption
    · cases h

theorem all_good (good : List UInt8 → Bool) : ∀ (t l : List (List UInt8)), all good t = some l → ∀ p ∈ l, good p = true
  | [], l, h, p, hp => by simp [all] at h; subst h; simp at hp
  | r :: t, l, h, p, hp => by
    unfold all at h
    cases hr : rd good r with
    | none => rw [hr] at h; cases h
    | some q =>
      rw [hr] at h
      cases ht : all good t with
      | none => rw [ht] at h; cases h
      | some l' =>
        rw [ht] at h
        simp at h
        subst h
        rcases List.mem_cons.1 hp with rfl | hp
        · exact rd_good good hr
        · exact all_good good t l' ht p hp

theorem walk_still (good : List UInt8 → Bool) : ∀ (t l l' : List (List UInt8)), (∀ p ∈ t, good p = true) → (∀ p ∈ l, still good p) → walk l t = some l' → ∀ p ∈ l', still good p
  | [], l, l', _, hl, h => by simp [walk] at h; subst h; exact hl
  | p :: t, l, l', ht, hl, h => by
    unfold walk at h
    cases hs : step l p with
    | none => rw [hs] at h; cases h
    | some m =>
      rw [hs] at h
      refine walk_still good t m l' (fun q hq => ht q (by simp [hq])) ?_ h
      unfold step at hs
      split at hs
      · simp at hs; subst hs; exact hl
      · split at hs
        · split at hs
          · cases hs
          · simp at hs; subst hs
            exact fun q hq => hl q (List.dropLast_subset _ hq)
        · simp at hs; subst hs
          intro q hq
          rcases List.mem_append.1 hq with hq | hq
          · exact hl q hq
          · simp at hq
            subst hq
            rename_i h1 h2
            exact ⟨fun e => h1 (.inl e), fun e => h1 (.inr e), h2, ht q (by simp)⟩

theorem walk_same (good : List UInt8 → Bool) : ∀ (t l : List (List UInt8)), (∀ p ∈ t, still good p) → walk l t = some (l ++ t)
  | [], l, _ => by simp [walk]
  | p :: t, l, h => by
    obtain ⟨h1, h2, h3, _⟩ := h p (by simp)
    have hs : step l p = some (l ++ [p]) := by
      unfold step
      rw [if_neg (fun e => e.elim h1 h2), if_neg h3]
    unfold walk
    rw [hs]
    dsimp only
    rw [walk_same good t (l ++ [p]) fun q hq => h q (by simp [hq])]
    simp

theorem all_same (good : List UInt8 → Bool) : ∀ t : List (List UInt8), (∀ p ∈ t, still good p) → all good (t.map writeP) = some t
  | [], _ => rfl
  | p :: t, h => by
    have hr : rd good (writeP p) = some p := by
      unfold rd
      rw [writeP_read]
      simp [(h p (by simp)).2.2.2]
    rw [List.map_cons, all, hr]
    dsimp only
    rw [all_same good t fun q hq => h q (by simp [hq])]
    rfl

/-- A form's form is the same. -/
theorem path_form (good : List UInt8 → Bool) (hg : good [] = true) (s f : List UInt8) (h : path good s = some f) : path good f = some f := by
  unfold path at h
  split at h
  · cases h
  · rename_i b t
    split at h
    · cases hb : (all good (sp t)).bind (walk []) with
      | none => rw [hb] at h; cases h
      | some l =>
        rw [hb] at h
        dsimp only at h
        split at h
        · rename_i hl
          simp at h
          subst h
          cases ha : all good (sp t) with
          | none => rw [ha] at hb; cases hb
          | some ps =>
            rw [ha] at hb
            have hst := walk_still good ps [] l (all_good good _ _ ha) (by simp) hb
            cases l with
            | nil =>
              have e : form ([] : List (List UInt8)) = [47] := rfl
              rw [e]
              have : all good (sp []) = some [[]] := by
                simp [sp, all, rd, readB, hg]
              simp [path, this, walk, step, form]
            | cons p l =>
              have e : form (p :: l) = 47 :: (writeP p ++ writes l) := rfl
              rw [e] at hl ⊢
              unfold path
              dsimp only
              rw [if_pos ⟨hl, rfl⟩, writes_sp, ← List.map_cons, all_same good _ hst]
              show (match walk [] (p :: l) with | none => none | some l => if (form l).length ≤ 60 then some (form l) else none) = _
              rw [walk_same good _ _ hst, List.nil_append]
              dsimp only
              rw [e, if_pos hl]
        · cases h
    · cases h

/-- The form of a method. -/
def meth (s : List UInt8) : Option (List UInt8) := if 1 ≤ s.length ∧ s.length ≤ 8 ∧ s.all letter = true then some (Lib.toUpperA s) else none

theorem up_letter : ∀ b : UInt8, letter b = true → letter (Lib.upperB b) = true ∧ Lib.upperB (Lib.upperB b) = Lib.upperB b := by
  intro b
  have h : ∀ n : Fin 256, letter (UInt8.ofNat n.val) = true → letter (Lib.upperB (UInt8.ofNat n.val)) = true ∧ Lib.upperB (Lib.upperB (UInt8.ofNat n.val)) = Lib.upperB (UInt8.ofNat n.val) := by decide +kernel
  have := h ⟨b.toNat, b.toNat_lt⟩
  simpa using this

theorem meth_form (s f : List UInt8) (h : meth s = some f) : meth f = some f := by
  unfold meth at h
  split at h
  · rename_i hs
    simp at h
    subst h
    obtain ⟨h1, h2, h3⟩ := hs
    have hl : (Lib.toUpperA s).length = s.length := by simp [Lib.toUpperA]
    have hall : (Lib.toUpperA s).all letter = true := by
      rw [List.all_eq_true]
      intro x hx
      unfold Lib.toUpperA at hx
      rw [List.mem_map] at hx
      obtain ⟨b, hb, rfl⟩ := hx
      exact (up_letter b (List.all_eq_true.1 h3 b hb)).1
    have hid : Lib.toUpperA (Lib.toUpperA s) = Lib.toUpperA s := by
      unfold Lib.toUpperA
      rw [List.map_map]
      refine List.map_congr_left fun b hb => ?_
      exact (up_letter b (List.all_eq_true.1 h3 b hb)).2
    unfold meth
    rw [if_pos ⟨by omega, by omega, hall⟩, hid]
  · cases h
end Go.Proofs.YtkijglkjpgjdaaaDoor.Cn
