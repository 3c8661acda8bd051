/-
  YtpeioecpilmpiaaGreatDoor: the texts JM4, one behind the other.
-/
import Derived.Test.YtpeioecpilmpiaaGreatDoorMF5
/-
  Numbers, names that rise, and how long a form is.
-/
namespace Go.Proofs.YtpeioecpilmpiaaGreatDoor
namespace Js
open Lib

/-! numbers -/
theorem val_app (a : B) (b : UInt8) : val (a ++ [b]) = val a * 10 + (b.toNat - 48) := by simp [val, List.foldl_append]
theorem isDg_iff (b : UInt8) : isDg b = true ↔ 48 ≤ b.toNat ∧ b.toNat ≤ 57 := by simp [isDg]
theorem dd_rec (u : Nat) (h : ¬ u < 10) : decDigits u = decDigits (u / 10) ++ [UInt8.ofNat (48 + u % 10)] := by rw [decDigits, dif_neg h]
theorem dgb (k : Nat) (h : k < 10) : (UInt8.ofNat (48 + k)).toNat = 48 + k := by simp; omega
theorem dd_all (u : Nat) : (∀ x ∈ decDigits u, isDg x = true) ∧ val (decDigits u) = u ∧ 1 ≤ (decDigits u).length ∧ (u ≠ 0 → ∃ c t, decDigits u = c :: t ∧ c ≠ 48) := by
  induction u using Nat.strongRecOn with
  | _ u ih =>
    by_cases h : u < 10
    · rw [decDigits_one h]
      refine ⟨?_, ?_, by simp, fun hu => ⟨_, _, rfl, fun e => ?_⟩⟩
      · intro x hx
        rw [List.mem_singleton] at hx
        subst hx
        rw [isDg_iff, dgb u h]; omega
      · rw [show [UInt8.ofNat (48 + u)] = [] ++ [UInt8.ofNat (48 + u)] by rfl, val_app, dgb u h]
        simp [val]
      · have := congrArg UInt8.toNat e
        rw [dgb u h] at this
        simp at this
        omega
    · obtain ⟨i1, i2, i3, i4⟩ := ih (u / 10) (by omega)
      rw [dd_rec u h]
      refine ⟨?_, ?_, by simp, fun _ => ?_⟩
      · intro x hx
        rcases List.mem_append.1 hx with hx | hx
        · exact i1 x hx
        · rw [List.mem_singleton] at hx
          subst hx
          rw [isDg_iff, dgb _ (by omega)]; omega
      · rw [val_app, i2, dgb _ (by omega)]; omega
      · obtain ⟨c, t, e, hc⟩ := i4 (by omega)
        exact ⟨c, t ++ [UInt8.ofNat (48 + u % 10)], by rw [e]; rfl, hc⟩
theorem dd_len : ∀ (k u : Nat), u < 10 ^ (k + 1) → (decDigits u).length ≤ k + 1
  | 0, u, h => by rw [decDigits_one (by simpa using h)]; simp
  | k + 1, u, h => by
    by_cases hu : u < 10
    · rw [decDigits_one hu]; simp
    · rw [Nat.pow_succ] at h
      have := dd_len k (u / 10) (by omega)
      rw [dd_rec u hu, List.length_append]
      simpa using this
theorem foldl_pos : ∀ (t : B) (n : Nat), 1 ≤ n → 1 ≤ t.foldl (fun n b => n * 10 + (b.toNat - 48)) n
  | [], n, h => h
  | b :: t, n, h => foldl_pos t (n * 10 + (b.toNat - 48)) (by omega)
theorem val_pos (c : UInt8) (t : B) (hc : isDg c = true) (h0 : c ≠ 48) : 1 ≤ val (c :: t) := by
  rw [isDg_iff] at hc
  have : c.toNat ≠ 48 := fun e => h0 (UInt8.toNat_inj.1 e)
  exact foldl_pos t (0 * 10 + (c.toNat - 48)) (by omega)
theorem val_lt (ds : B) (h : ∀ x ∈ ds, isDg x = true) : val ds < 10 ^ ds.length := by
  generalize hn : ds.length = n
  induction n generalizing ds with
  | zero =>
    obtain rfl := List.eq_nil_of_length_eq_zero hn
    simp [val]
  | succ n ih =>
    obtain ⟨a, b, rfl⟩ : ∃ a b, ds = a ++ [b] := ⟨ds.dropLast, ds.getLast (by intro e; subst e; simp at hn), (List.dropLast_concat_getLast _).symm⟩
    have hb := (isDg_iff b).1 (h b (by simp))
    have := ih a (fun x hx => h x (by simp [hx])) (by simpa using hn)
    rw [val_app, Nat.pow_succ]
    omega
theorem dd_back (ds : B) (h : ∀ x ∈ ds, isDg x = true) (hn : ds ≠ []) (h0 : ∀ t, ds ≠ 48 :: t) : decDigits (val ds) = ds := by
  generalize hk : ds.length = n
  induction n generalizing ds with
  | zero => exact absurd (List.eq_nil_of_length_eq_zero hk) hn
  | succ n ih =>
    obtain ⟨a, b, rfl⟩ : ∃ a b, ds = a ++ [b] := ⟨ds.dropLast, ds.getLast hn, (List.dropLast_concat_getLast _).symm⟩
    have hb := (isDg_iff b).1 (h b (by simp))
    rw [val_app]
    cases a with
    | nil =>
      rw [show val [] = 0 by rfl, Nat.zero_mul, Nat.zero_add, decDigits_one (by omega), show 48 + (b.toNat - 48) = b.toNat by omega]
      simp
    | cons c t =>
      have hc : c ≠ 48 := fun e => h0 (t ++ [b]) (by rw [e]; rfl)
      have h1 := val_pos c t (h c (by simp)) hc
      rw [dd_rec _ (by omega), show (val (c :: t) * 10 + (b.toNat - 48)) / 10 = val (c :: t) by omega, show (val (c :: t) * 10 + (b.toNat - 48)) % 10 = b.toNat - 48 by omega,
        ih (c :: t) (fun x hx => h x (List.mem_append_left _ hx)) (by simp) (fun t' e => hc (by injection e)) (by simpa using hk), show 48 + (b.toNat - 48) = b.toNat by omega]
      simp
theorem digs_all (l : B) : ∀ x ∈ digs l, isDg x = true := fun x hx => by
  unfold digs at hx
  exact List.all_takeWhile (p := isDg) (l := l) |> List.all_eq_true.1 |> fun f => f x hx
theorem digs_head (l : B) (c : UInt8) (t : B) (h : digs l = c :: t) : ∃ t', l = c :: t' := by
  cases l with
  | nil => simp [digs] at h
  | cons b r =>
    unfold digs at h
    rw [List.takeWhile_cons] at h
    split at h
    · injection h with h1 h2
      exact ⟨r, by rw [h1]⟩
    · cases h
theorem nat_bd (l : B) (n : Nat) (r : B) (h : nat l = some (n, r)) : (decDigits n).length + r.length ≤ l.length ∧ n < 1000000000000000 := by
  unfold nat at h
  split at h
  · simp only [Option.some.injEq, Prod.mk.injEq] at h
    obtain ⟨rfl, rfl⟩ := h
    rw [decDigits_one (by omega)]
    exact ⟨by simp; omega, by omega⟩
  · rename_i h48
    split at h
    · cases h
    · rename_i hd
      simp only [Option.some.injEq, Prod.mk.injEq] at h
      obtain ⟨rfl, rfl⟩ := h
      have hb := dd_back (digs l) (digs_all l) (fun e => hd (by rw [e]; simp)) (fun t e => by
        obtain ⟨t', e'⟩ := digs_head l 48 t e
        exact h48 t' e')
      have hl := val_lt (digs l) (digs_all l)
      have h10 : 10 ^ (digs l).length ≤ 10 ^ 15 := Nat.pow_le_pow_right (by omega) (by omega)
      have := congrArg List.length (digs_app l)
      rw [List.length_append] at this
      rw [hb]
      exact ⟨by omega, by omega⟩
theorem itoa_nat (n : Nat) : itoa (n : Int) = decDigits n := by
  unfold itoa
  rw [if_neg (by omega)]
  simp
theorem itoa_neg' (n : Nat) (h : n ≠ 0) : itoa (-(n : Int)) = 45 :: decDigits n := by
  unfold itoa
  rw [if_pos (by omega)]
  simp
theorem nu_bd (l : B) (n : Int) (r : B) (h : nu l = some (n, r)) : (dec n).length + r.length ≤ l.length ∧ n.natAbs < 1000000000000000 := by
  unfold nu at h
  unfold dec
  split at h
  · rename_i t
    cases hx : nat t with
    | none => simp [hx] at h
    | some x =>
      simp only [hx, Option.map_some, Option.some.injEq, Prod.mk.injEq] at h
      obtain ⟨h1, h2⟩ := nat_bd t x.1 x.2 hx
      rw [← h.1, ← h.2]
      by_cases h0 : x.1 = 0
      · rw [h0] at h1 ⊢
        have e : itoa (-((0 : Nat) : Int)) = decDigits 0 := itoa_nat 0
        rw [e, List.length_cons]
        exact ⟨by omega, by simp⟩
      · rw [itoa_neg' _ h0, List.length_cons, List.length_cons]
        exact ⟨by omega, by omega⟩
  · cases hx : nat l with
    | none => simp [hx] at h
    | some x =>
      simp only [hx, Option.map_some, Option.some.injEq, Prod.mk.injEq] at h
      obtain ⟨h1, h2⟩ := nat_bd l x.1 x.2 hx
      rw [← h.1, ← h.2, itoa_nat]
      exact ⟨h1, by omega⟩

/-- What may stand behind a value. -/
def tok (r : B) : Prop := ∀ b t, r = b :: t → isDg b = false
theorem tok_nil : tok [] := fun _ _ h => by cases h
theorem tok_cons (b : UInt8) (t : B) (h : isDg b = false) : tok (b :: t) := fun _ _ e => by injection e with e1 e2; rw [← e1]; exact h
theorem digs_dd (u : Nat) (r : B) (h : tok r) : digs (decDigits u ++ r) = decDigits u := by
  have h1 := (dd_all u).1
  unfold digs
  generalize decDigits u = l at h1
  induction l with
  | nil =>
    cases r with
    | nil => rfl
    | cons b t => simp [h b t rfl]
  | cons a l ih =>
    rw [List.cons_append, List.takeWhile_cons, h1 a (by simp)]
    simp only [if_true]
    rw [ih (fun x hx => h1 x (by simp [hx]))]
theorem nat_back (u : Nat) (r : B) (hu : u < 1000000000000000) (h : tok r) : nat (decDigits u ++ r) = some (u, r) := by
  by_cases h0 : u = 0
  · subst h0
    rw [decDigits_one (by omega)]
    rfl
  · obtain ⟨_, e2, e3, e4⟩ := dd_all u
    obtain ⟨c, t, e, hc⟩ := e4 h0
    have hl := dd_len 14 u (by simpa using hu)
    have hd := digs_dd u r h
    unfold nat
    split
    · rename_i t' e'
      rw [e, List.cons_append] at e'
      injection e' with e1 _
      exact absurd e1 hc
    · rw [hd, if_neg (by omega), e2, List.drop_left]
theorem nu_back (n : Int) (r : B) (hn : n.natAbs < 1000000000000000) (h : tok r) : nu (dec n ++ r) = some (n, r) := by
  unfold dec
  by_cases h0 : n < 0
  · obtain ⟨k, rfl⟩ : ∃ k : Nat, n = -(k : Int) := ⟨n.natAbs, by omega⟩
    rw [itoa_neg' k (by omega), List.cons_append]
    unfold nu
    simp only []
    rw [nat_back k r (by omega) h]
    rfl
  · obtain ⟨k, rfl⟩ : ∃ k : Nat, n = (k : Int) := ⟨n.natAbs, by omega⟩
    rw [itoa_nat k]
    unfold nu
    split
    · rename_i t e
      obtain ⟨e1, _, e3, _⟩ := dd_all k
      cases hd : decDigits k with
      | nil => rw [hd] at e3; simp at e3
      | cons c t' =>
        rw [hd] at e e1
        rw [List.cons_append] at e
        injection e with e4 _
        have := (isDg_iff c).1 (e1 c (by simp))
        rw [e4] at this
        simp at this
    · rw [nat_back k r (by omega) h]
      rfl

/-! the order of names -/
def cb := compareBytes
theorem cb_self : ∀ a : B, cb a a = 0
  | [] => rfl
  | x :: a => by
    have h : ¬ x < x := UInt8.lt_irrefl x
    have := cb_self a
    unfold cb at this ⊢
    simp [Lib.compareBytes, h, this]
theorem cb_zero : ∀ a b : B, cb a b = 0 → a = b
  | [], [], _ => rfl
  | [], _ :: _, h => by simp [cb, Lib.compareBytes] at h
  | _ :: _, [], h => by simp [cb, Lib.compareBytes] at h
  | x :: a, y :: b, h => by
    unfold cb Lib.compareBytes at h
    by_cases h1 : x < y
    · simp [h1] at h
    · by_cases h2 : y < x
      · simp [h1, h2] at h
      · have e : x = y := UInt8.le_antisymm (UInt8.not_lt.1 h2) (UInt8.not_lt.1 h1)
        simp [h1, h2] at h
        rw [e, cb_zero a b h]
theorem cb_swap : ∀ a b : B, cb b a = - cb a b
  | [], [] => rfl
  | [], _ :: _ => rfl
  | _ :: _, [] => rfl
  | x :: a, y :: b => by
    have ih := cb_swap a b
    unfold cb at ih ⊢
    unfold Lib.compareBytes
    by_cases h1 : x < y
    · have h2 : ¬ y < x := fun h => UInt8.lt_irrefl _ (UInt8.lt_trans h1 h)
      simp [h1, h2]
    · by_cases h2 : y < x
      · simp [h1, h2]
      · simp [h1, h2, ih]
theorem cb_trans : ∀ a b c : B, cb a b < 0 → cb b c < 0 → cb a c < 0
  | [], [], _, h, _ => by simp [cb, Lib.compareBytes] at h
  | [], _ :: _, [], _, h => by simp [cb, Lib.compareBytes] at h
  | [], _ :: _, _ :: _, _, _ => by simp [cb, Lib.compareBytes]
  | _ :: _, [], _, h, _ => by simp [cb, Lib.compareBytes] at h
  | _ :: _, _ :: _, [], _, h => by simp [cb, Lib.compareBytes] at h
  | x :: a, y :: b, z :: c, h1, h2 => by
    have ih := cb_trans a b c
    unfold cb at ih h1 h2 ⊢
    unfold Lib.compareBytes at h1 h2 ⊢
    by_cases hxy : x < y
    · by_cases hyz : y < z
      · simp [UInt8.lt_trans hxy hyz]
      · by_cases hzy : z < y
        · simp [hyz, hzy] at h2
        · have e : y = z := UInt8.le_antisymm (UInt8.not_lt.1 hzy) (UInt8.not_lt.1 hyz)
          subst e
          simp [hxy]
    · by_cases hyx : y < x
      · simp [hxy, hyx] at h1
      · have e : x = y := UInt8.le_antisymm (UInt8.not_lt.1 hyx) (UInt8.not_lt.1 hxy)
        subst e
        simp only [hxy, if_false] at h1
        by_cases hyz : x < z
        · simp [hyz]
        · by_cases hzy : z < x
          · simp [hyz, hzy] at h2
          · simp only [hyz, hzy, if_false] at h2 ⊢
            exact ih h1 h2
theorem less_cb : ∀ a b : B, Op.bytesLess a b = decide (cb a b < 0)
  | [], [] => rfl
  | [], _ :: _ => rfl
  | _ :: _, [] => by simp [Op.bytesLess, cb, Lib.compareBytes]
  | x :: a, y :: b => by
    have ih := less_cb a b
    unfold cb at ih ⊢
    unfold Op.bytesLess Lib.compareBytes
    by_cases h1 : x < y
    · simp [h1]
    · by_cases h2 : y < x
      · have h3 : ¬ x = y := fun e => UInt8.lt_irrefl y (e ▸ h2)
        simp [h1, h2, h3]
      · have e : x = y := UInt8.le_antisymm (UInt8.not_lt.1 h2) (UInt8.not_lt.1 h1)
        subst e
        simp [h1, ih]

/-- Names rise. -/
def Rise : List B → Prop
  | [] => True
  | a :: r => (∀ x ∈ r, cb a x < 0) ∧ Rise r
theorem place_le (l : List B) (n : B) : place l n ≤ l.length := List.countP_le_length
theorem place_lt {a n : B} (l : List B) (h : cb a n < 0) : place (a :: l) n = place l n + 1 := by unfold cb at h; simp [place, h]
theorem place_zero {a n : B} {l : List B} (hr : Rise (a :: l)) (h : ¬ cb a n < 0) : place (a :: l) n = 0 := by
  unfold place
  rw [List.countP_eq_zero]
  intro x hx hc
  have hc' : cb x n < 0 := by simpa [cb] using hc
  rcases List.mem_cons.1 hx with rfl | hx
  · exact h hc'
  · exact h (cb_trans _ _ _ (hr.1 x hx) hc')
theorem Rise.mono {l : List B} (hr : Rise l) (n : B) : ∀ a b, a ≤ b → b < l.length → cb l[b]! n < 0 → cb l[a]! n < 0 := by
  induction l with
  | nil => intro a b _ hb; simp at hb
  | cons x r ih =>
    intro a b hab hb hc
    cases b with
    | zero =>
      obtain rfl : a = 0 := by omega
      exact hc
    | succ b =>
      have hb' : b < r.length := by simpa using hb
      have hc' : cb r[b]! n < 0 := by simpa using hc
      cases a with
      | zero =>
        have hm : r[b]! ∈ r := by rw [getElem!_pos r b hb']; exact List.getElem_mem hb'
        simpa using cb_trans _ _ _ (hr.1 _ hm) hc'
      | succ a => simpa using ih hr.2 a b (by omega) hb' hc'
theorem place_at : ∀ {l : List B}, Rise l → ∀ i, i < l.length → place l l[i]! = i
  | [], _, i, h => by simp at h
  | a :: r, hr, 0, _ => by
    have := place_zero hr (n := a) (by rw [cb_self]; omega)
    simpa using this
  | a :: r, hr, i + 1, h => by
    have hi : i < r.length := by simpa using h
    have hm : r[i]! ∈ r := by rw [getElem!_pos r i hi]; exact List.getElem_mem hi
    have := place_lt r (hr.1 _ hm)
    rw [place_at hr.2 i hi] at this
    simpa using this
theorem place_mem {l : List B} (hr : Rise l) (n : B) : n ∈ l ↔ place l n < l.length ∧ l[place l n]! = n := by
  constructor
  · intro h
    obtain ⟨i, hi, rfl⟩ := List.getElem_of_mem h
    have := place_at hr i hi
    rw [getElem!_pos l i hi] at this
    rw [this]
    exact ⟨hi, getElem!_pos l i hi⟩
  · rintro ⟨h, e⟩
    rw [← e, getElem!_pos l _ h]
    exact List.getElem_mem h
theorem Rise.insert : ∀ {l : List B}, Rise l → ∀ n, n ∉ l → Rise (l.take (place l n) ++ n :: l.drop (place l n))
  | [], _, n, _ => by simp [place, Rise]
  | a :: r, hr, n, hn => by
    by_cases h : cb a n < 0
    · rw [place_lt r h]
      have ih := Rise.insert hr.2 n (fun hm => hn (List.mem_cons_of_mem _ hm))
      refine ⟨?_, ih⟩
      intro x hx
      rcases List.mem_append.1 hx with hx | hx
      · exact hr.1 x (List.mem_of_mem_take hx)
      · rcases List.mem_cons.1 hx with rfl | hx
        · exact h
        · exact hr.1 x (List.mem_of_mem_drop hx)
    · rw [place_zero hr h]
      have hne : cb a n ≠ 0 := fun e => hn (by rw [cb_zero _ _ e]; exact List.mem_cons_self)
      have hlt : cb n a < 0 := by rw [cb_swap a n]; omega
      refine ⟨?_, hr⟩
      intro x hx
      rcases List.mem_cons.1 hx with rfl | hx
      · exact hlt
      · exact cb_trans _ _ _ hlt (hr.1 x hx)
theorem Rise.last : ∀ {l : List B}, Rise l → ∀ n, (∀ x ∈ l, cb x n < 0) → place l n = l.length
  | [], _, _, _ => rfl
  | a :: r, hr, n, h => by
    rw [place_lt r (h a (by simp)), Rise.last hr.2 n (fun x hx => h x (by simp [hx]))]
    rfl
theorem ins_names (l : List (B × X)) (n : B) (x : X) : (ins l n x).map (·.1) = (l.map (·.1)).take (place (l.map (·.1)) n) ++ n :: (l.map (·.1)).drop (place (l.map (·.1)) n) := by
  unfold ins
  simp

/-! lists -/
theorem joins_one (x : B) : joins [x] = x := by simp [joins, Lib.join, List.intercalate]
theorem joins_two (x y : B) (t : List B) : joins (x :: y :: t) = x ++ 44 :: joins (y :: t) := by simp [joins, Lib.join, List.intercalate]
def S (ls : List B) : Nat := (ls.map fun f => f.length + 1).sum
theorem S_app (a b : List B) : S (a ++ b) = S a + S b := by simp [S, List.sum_append]
theorem S_cons (x : B) (t : List B) : S (x :: t) = x.length + 1 + S t := by simp [S]
theorem joins_len : ∀ ls : List B, ls ≠ [] → (joins ls).length + 1 = S ls
  | [], h => absurd rfl h
  | [x], _ => by rw [joins_one]; simp [S]
  | x :: y :: t, _ => by
    have := joins_len (y :: t) (by simp)
    rw [joins_two, S_cons, ← this, List.length_append, List.length_cons]
    omega

/-! values that were read -/
def Scalar (x : X) : Prop := x = mkNull ∨ (∃ b, x = mkTruth b) ∨ (∃ n : Int, n.natAbs < 1000000000000000 ∧ x = mkNum n) ∨ (∃ t, validD t = true ∧ x = mkText t)
def Good : Nat → X → Prop
  | 0, x => Scalar x
  | n + 1, x => Scalar x ∨ (∃ l, x = mkList l ∧ ∀ y ∈ l, Good n y) ∨ (∃ l, x = mkObj l ∧ Rise (l.map (·.1)) ∧ ∀ m ∈ l, validD m.1 = true ∧ Good n m.2)
theorem Good.scalar {n : Nat} {x : X} (h : Scalar x) : Good n x := by
  cases n with
  | zero => exact h
  | succ n => exact .inl h

def Bd (g : B → Ans) (n : Nat) : Prop := ∀ l x r, g l = .ok (x, r) → x.form.length + r.length ≤ l.length ∧ Good n x

theorem li_bd (g : B → Ans) (n : Nat) (hg : Bd g n) : ∀ (f : Nat) (l : B) (acc xs : List X) (r : B), li g f l acc = .ok (xs, r) → (∀ y ∈ acc, Good n y) →
    S (xs.map X.form) + r.length ≤ S (acc.map X.form) + l.length ∧ xs ≠ [] ∧ ∀ y ∈ xs, Good n y
  | 0, _, _, _, _, h, _ => by simp [li] at h
  | f + 1, l, acc, xs, r, h, ha => by
    simp only [li] at h
    cases hx : g l with
    | error e => simp [hx] at h
    | ok x =>
      obtain ⟨h1, h1g⟩ := hg l x.1 x.2 hx
      have h2 := skip_len x.2
      have ha' : ∀ y ∈ acc ++ [x.1], Good n y := fun y hy => by
        rcases List.mem_append.1 hy with hy | hy
        · exact ha y hy
        · rw [List.mem_singleton] at hy; rw [hy]; exact h1g
      have hS : S ((acc ++ [x.1]).map X.form) = S (acc.map X.form) + (x.1.form.length + 1) := by rw [List.map_append, S_app]; simp [S]
      simp only [hx] at h
      split at h
      · rename_i r' e
        rw [e, List.length_cons] at h2
        have := li_bd g n hg f r' _ xs r h ha'
        rw [hS] at this
        exact ⟨by omega, this.2⟩
      · rename_i r' e
        rw [e, List.length_cons] at h2
        simp only [Except.ok.injEq, Prod.mk.injEq] at h
        rw [← h.1, ← h.2, hS]
        exact ⟨by omega, by simp, ha'⟩
      · cases h

theorem ins_sum (l : List (B × X)) (n : B) (x : X) : S ((ins l n x).map pairB) = S (l.map pairB) + ((pairB (n, x)).length + 1) := by
  unfold ins
  generalize place _ _ = k
  have := S_app ((l.take k).map pairB) ((l.drop k).map pairB)
  rw [← List.map_append, List.take_append_drop] at this
  rw [List.map_append, S_app, List.map_cons, S_cons, this]
  omega
theorem ins_mem (l : List (B × X)) (n : B) (x : X) (P : B × X → Prop) (h : ∀ m ∈ l, P m) (hn : P (n, x)) : ∀ m ∈ ins l n x, P m := by
  intro m hm
  unfold ins at hm
  rcases List.mem_append.1 hm with hm | hm
  · exact h m (List.mem_of_mem_take hm)
  · rcases List.mem_cons.1 hm with rfl | hm
    · exact hn
    · exact h m (List.mem_of_mem_drop hm)

theorem ob_bd (g : B → Ans) (n : Nat) (hg : Bd g n) : ∀ (f : Nat) (l : B) (acc xs : List (B × X)) (r : B), ob g f l acc = .ok (xs, r) → Rise (acc.map (·.1)) → (∀ m ∈ acc, validD m.1 = true ∧ Good n m.2) →
    S (xs.map pairB) + r.length ≤ S (acc.map pairB) + l.length ∧ xs ≠ [] ∧ Rise (xs.map (·.1)) ∧ ∀ m ∈ xs, validD m.1 = true ∧ Good n m.2
  | 0, _, _, _, _, h, _, _ => by simp [ob] at h
  | f + 1, l, acc, xs, r, h, hr, ha => by
    simp only [ob] at h
    have h0 := skip_len l
    split at h
    · rename_i t e
      rw [e, List.length_cons] at h0
      cases hx : tx (t.length + 1) t [] with
      | none => simp [hx] at h
      | some y =>
        obtain ⟨h1, hv⟩ := txx_q t [] y.1 y.2 hx rfl
        simp only [hx] at h
        split at h
        · cases h
        · rename_i hni
          have h2 := skip_len y.2
          split at h
          · rename_i r1 e1
            rw [e1, List.length_cons] at h2
            cases hy : g r1 with
            | error e => simp [hy] at h
            | ok x =>
              obtain ⟨h3, h3g⟩ := hg r1 x.1 x.2 hy
              have h4 := skip_len x.2
              simp only [hy] at h
              have hr' : Rise ((ins acc y.1 x.1).map (·.1)) := by
                rw [ins_names]
                exact Rise.insert hr y.1 hni
              have ha' := ins_mem acc y.1 x.1 _ ha ⟨hv, h3g⟩
              have hS := ins_sum acc y.1 x.1
              have hp : (pairB (y.1, x.1)).length = (q y.1).length + 3 + x.1.form.length := by simp [pairB, quote_q]; omega
              have hq0 : (q []).length = 0 := rfl
              split at h
              · rename_i r3 e3
                rw [e3, List.length_cons] at h4
                have := ob_bd g n hg f r3 _ xs r h hr' ha'
                rw [hS, hp] at this
                exact ⟨by omega, this.2⟩
              · rename_i r3 e3
                rw [e3, List.length_cons] at h4
                simp only [Except.ok.injEq, Prod.mk.injEq] at h
                rw [← h.1, ← h.2, hS, hp]
                exact ⟨by omega, by simp [ins], hr', ha'⟩
              · cases h
          · cases h
    · cases h

theorem word_bd (w l : B) (x y : X) (r : B) (hw : x.form = w) (h : word w l x = .ok (y, r)) : y.form.length + r.length ≤ l.length ∧ y = x := by
  unfold word at h
  split at h
  · rename_i hp
    have := (List.isPrefixOf_iff_prefix.1 hp).length_le
    simp only [Except.ok.injEq, Prod.mk.injEq] at h
    rw [← h.2, ← h.1, List.length_drop, hw]
    exact ⟨by omega, rfl⟩
  · cases h
theorem list_len (xs : List X) (h : xs ≠ []) : (mkList xs).form.length = S (xs.map X.form) + 1 := by
  have := joins_len (xs.map X.form) (by simpa using h)
  simp only [mkList, List.length_cons, List.length_append, List.length_nil]
  omega
theorem obj_len (xs : List (B × X)) (h : xs ≠ []) : (mkObj xs).form.length = S (xs.map pairB) + 1 := by
  have := joins_len (xs.map pairB) (by simpa using h)
  simp only [mkObj, List.length_cons, List.length_append, List.length_nil]
  omega
theorem va_bd (sub : Option (B → Ans)) (n : Nat) (hs : ∀ g, sub = some g → ∃ k, n = k + 1 ∧ Bd g k) : Bd (va sub) n := by
  intro l x r h
  cases l with
  | nil => simp [va] at h
  | cons b t =>
    simp only [va] at h
    split at h
    · obtain ⟨a, e⟩ := word_bd _ _ mkNull _ _ rfl h
      exact ⟨a, Good.scalar (.inl e)⟩
    · split at h
      · obtain ⟨a, e⟩ := word_bd _ _ (mkTruth false) _ _ rfl h
        exact ⟨a, Good.scalar (.inr (.inl ⟨_, e⟩))⟩
      · split at h
        · obtain ⟨a, e⟩ := word_bd _ _ (mkTruth true) _ _ rfl h
          exact ⟨a, Good.scalar (.inr (.inl ⟨_, e⟩))⟩
        · split at h
          · cases hx : tx (t.length + 1) t [] with
            | none => simp [hx] at h
            | some y =>
              obtain ⟨h1, hv⟩ := txx_q t [] y.1 y.2 hx rfl
              have hq0 : (q []).length = 0 := rfl
              simp only [hx, Except.ok.injEq, Prod.mk.injEq] at h
              rw [← h.2, ← h.1]
              exact ⟨by simp only [mkText, quote_q, List.length_cons, List.length_append, List.length_nil]; omega, Good.scalar (.inr (.inr (.inr ⟨_, hv, rfl⟩)))⟩
          · split at h
            · cases sub with
              | none => cases h
              | some g =>
                obtain ⟨k, rfl, hb⟩ := hs g rfl
                have h0 := skip_len t
                simp only [] at h
                split at h
                · rename_i r' e
                  rw [e, List.length_cons] at h0
                  simp only [Except.ok.injEq, Prod.mk.injEq] at h
                  rw [← h.2, ← h.1, List.length_cons]
                  exact ⟨by simp [mkList, joins, Lib.join]; omega, .inr (.inl ⟨[], rfl, fun y hy => by simp at hy⟩)⟩
                · obtain ⟨y, hy, e⟩ := map_ok h
                  obtain ⟨c1, c2, c3⟩ := li_bd g k hb _ _ _ _ _ hy (fun y hy => by simp at hy)
                  have hS0 : S (([] : List X).map X.form) = 0 := rfl
                  simp only [Prod.mk.injEq] at e
                  rw [← e.2, ← e.1, List.length_cons, list_len _ c2]
                  exact ⟨by omega, .inr (.inl ⟨_, rfl, c3⟩)⟩
            · split at h
              · cases sub with
                | none => cases h
                | some g =>
                  obtain ⟨k, rfl, hb⟩ := hs g rfl
                  have h0 := skip_len t
                  simp only [] at h
                  split at h
                  · rename_i r' e
                    rw [e, List.length_cons] at h0
                    simp only [Except.ok.injEq, Prod.mk.injEq] at h
                    rw [← h.2, ← h.1, List.length_cons]
                    exact ⟨by simp [mkObj, joins, Lib.join]; omega, .inr (.inr ⟨[], rfl, trivial, fun y hy => by simp at hy⟩)⟩
                  · obtain ⟨y, hy, e⟩ := map_ok h
                    obtain ⟨c1, c2, c3, c4⟩ := ob_bd g k hb _ _ _ _ _ hy trivial (fun y hy => by simp at hy)
                    have hS0 : S (([] : List (B × X)).map pairB) = 0 := rfl
                    simp only [Prod.mk.injEq] at e
                    rw [← e.2, ← e.1, List.length_cons, obj_len _ c2]
                    exact ⟨by omega, .inr (.inr ⟨_, rfl, c3, c4⟩)⟩
              · cases hx : nu (b :: t) with
                | none => simp [hx] at h
                | some y =>
                  obtain ⟨h1, h2⟩ := nu_bd _ y.1 y.2 hx
                  simp only [hx, Except.ok.injEq, Prod.mk.injEq] at h
                  rw [← h.2, ← h.1]
                  exact ⟨h1, Good.scalar (.inr (.inr (.inl ⟨_, h2, rfl⟩)))⟩
theorem pv_bd : ∀ n, Bd (pv n) n
  | 0 => fun l x r h => by
    obtain ⟨h1, h2⟩ := va_bd none 0 (fun g h => by cases h) (skip l) x r h
    have := skip_len l
    exact ⟨by omega, h2⟩
  | n + 1 => fun l x r h => by
    obtain ⟨h1, h2⟩ := va_bd (some (pv n)) (n + 1) (fun g h => by cases h; exact ⟨n, rfl, pv_bd n⟩) (skip l) x r h
    have := skip_len l
    exact ⟨by omega, h2⟩
theorem of_bd (s : B) (x : X) (h : of s = .ok x) : s.length ≤ 400 ∧ x.form.length ≤ s.length ∧ Good 8 x := by
  unfold of at h
  split at h
  · cases h
  · rename_i h4
    cases hx : pv 8 s with
    | error e => simp [hx] at h
    | ok y =>
      obtain ⟨h1, h2⟩ := pv_bd 8 s y.1 y.2 hx
      simp only [hx] at h
      split at h
      · simp only [Except.ok.injEq] at h
        rw [← h]
        exact ⟨by omega, by omega, h2⟩
      · cases h
end Js
end Go.Proofs.YtpeioecpilmpiaaGreatDoor
