/-
  Ytnmamaeoghgegaa: the texts MFMath, MK1, MK2, MK3, MQ, MK4, MK5, MF1, MF2, one behind the other.
-/
import GoSem.Op.String
import Derived.Test.YtnmamaeoghgegaaRows
import Derived.WalkKit
import Derived.WalkSpells
import Derived.WalkLawsBesides
import Derived.Outline
import Derived.BigRegion
import Derived.Deep.LoopGhost
import Derived.BigQuiet
import Derived.Laws.BytesArg
import Derived.WalkSmall
/-
  Plain mathematics: check sums (their state's step is one to one and goes over xor), frames, what is read of a frame, of many, of those that are cut, of those of which one byte is turned. No condition beside those written at each theorem.
-/
namespace Go.Proofs.Ytnmamaeoghgegaa.Fm
set_option maxRecDepth 100000
namespace Cr

/-- One bit out of the state. -/
def g (x : Nat) : Nat := if x % 2 = 1 then (x / 2) ^^^ 3988292384 else x / 2

/-- So many bits out of it. -/
def gn : Nat → Nat → Nat
  | 0, x => x
  | n + 1, x => gn n (g x)

/-- The state behind so many bytes. -/
def st (x : Nat) (l : List UInt8) : Nat := l.foldl (fun y b => gn 8 (y ^^^ b.toNat)) x

/-- The sum. -/
def sum (l : List UInt8) : Nat := 4294967295 - st 4294967295 l

theorem xor_mod_two (x y : Nat) : (x ^^^ y) % 2 = (x % 2 ^^^ y % 2) := by
  have := Nat.xor_mod_two_pow (a := x) (b := y) (n := 1)
  simpa using this

theorem xor_half (x y : Nat) : (x ^^^ y) / 2 = (x / 2 ^^^ y / 2) := by
  have := Nat.xor_div_two_pow (a := x) (b := y) (n := 1)
  simpa using this

theorem bit_cases (x : Nat) : x % 2 = 0 ∨ x % 2 = 1 := by omega

theorem xor_lt {x y : Nat} (hx : x < 4294967296) (hy : y < 4294967296) : x ^^^ y < 4294967296 := Nat.xor_lt_two_pow (n := 32) hx hy

theorem g_lt {x : Nat} (h : x < 4294967296) : g x < 4294967296 := by
  unfold g
  split
  · exact xor_lt (by omega) (by decide)
  · omega

theorem gn_lt : ∀ (n : Nat) {x : Nat}, x < 4294967296 → gn n x < 4294967296
  | 0, _, h => h
  | n + 1, _, h => gn_lt n (g_lt h)

theorem g_xor (x y : Nat) : g (x ^^^ y) = (g x ^^^ g y) := by
  unfold g
  rw [xor_mod_two, xor_half]
  rcases bit_cases x with hx | hx <;> rcases bit_cases y with hy | hy <;> simp only [hx, hy]
  · simp
  · simp [Nat.xor_assoc]
  · simp
    rw [Nat.xor_assoc, Nat.xor_comm (y / 2), ← Nat.xor_assoc]
  · simp
    rw [Nat.xor_comm (y / 2) 3988292384, ← Nat.xor_assoc, Nat.xor_assoc (x / 2), Nat.xor_self, Nat.xor_zero]

theorem gn_xor : ∀ (n x y : Nat), gn n (x ^^^ y) = (gn n x ^^^ gn n y)
  | 0, _, _ => rfl
  | n + 1, x, y => by
    show gn n (g (x ^^^ y)) = (gn n (g x) ^^^ gn n (g y))
    rw [g_xor, gn_xor n]

theorem gn_add : ∀ (m n x : Nat), gn (m + n) x = gn n (gn m x)
  | 0, n, x => by rw [Nat.zero_add]; rfl
  | m + 1, n, x => by
    rw [Nat.add_right_comm]
    exact gn_add m n (g x)

theorem gn_succ (n x : Nat) : gn (n + 1) x = g (gn n x) := by rw [gn_add]; rfl

theorem gn_zero : ∀ n : Nat, gn n 0 = 0
  | 0 => rfl
  | n + 1 => gn_zero n

theorem g_ne {x : Nat} (h : x < 4294967296) (h0 : x ≠ 0) : g x ≠ 0 := by
  unfold g
  split
  · intro he
    have h1 : x / 2 = 3988292384 := by
      have := congrArg (fun y => y ^^^ 3988292384) he
      simpa [Nat.xor_assoc] using this
    omega
  · omega

theorem gn_ne : ∀ (n : Nat) {x : Nat}, x < 4294967296 → x ≠ 0 → gn n x ≠ 0
  | 0, _, _, h0 => h0
  | n + 1, _, h, h0 => gn_ne n (g_lt h) (g_ne h h0)

theorem g_two (x : Nat) : g (2 * x) = x := by
  unfold g
  rw [if_neg (by omega)]
  omega

theorem gn_pow : ∀ k : Nat, gn k (2 ^ k) = 1
  | 0 => rfl
  | k + 1 => by
    show gn k (g (2 ^ (k + 1))) = 1
    rw [Nat.pow_succ, Nat.mul_comm, g_two, gn_pow k]

theorem gn_pow_le (k n : Nat) (h : k ≤ n) : gn n (2 ^ k) = gn (n - k) 1 := by
  obtain ⟨m, rfl⟩ := Nat.exists_eq_add_of_le h
  rw [gn_add, gn_pow, Nat.add_sub_cancel_left]

theorem st_append (x : Nat) (a b : List UInt8) : st x (a ++ b) = st (st x a) b := by
  unfold st
  rw [List.foldl_append]

theorem st_cons (x : Nat) (b : UInt8) (l : List UInt8) : st x (b :: l) = st (gn 8 (x ^^^ b.toNat)) l := rfl

theorem st_snoc (x : Nat) (a : List UInt8) (b : UInt8) : st x (a ++ [b]) = gn 8 (st x a ^^^ b.toNat) := by
  rw [st_append]
  rfl

theorem byte_lt (b : UInt8) : b.toNat < 4294967296 := by
  have := b.toNat_lt
  omega

theorem st_lt : ∀ (l : List UInt8) {x : Nat}, x < 4294967296 → st x l < 4294967296
  | [], _, h => h
  | b :: l, _, h => st_lt l (gn_lt 8 (xor_lt h (byte_lt b)))

theorem st_xor : ∀ (l : List UInt8) (x d : Nat), st (x ^^^ d) l = (st x l ^^^ gn (8 * l.length) d)
  | [], _, _ => rfl
  | b :: l, x, d => by
    rw [st_cons, st_cons]
    rw [show x ^^^ d ^^^ b.toNat = ((x ^^^ b.toNat) ^^^ d) by rw [Nat.xor_assoc, Nat.xor_comm d, ← Nat.xor_assoc]]
    rw [gn_xor, st_xor l]
    rw [← gn_add]
    rw [List.length_cons, show 8 + 8 * l.length = 8 * (l.length + 1) by omega]

/-- What one turned bit does. -/
theorem st_flip (l : List UInt8) (x i : Nat) (h : i < 8 * l.length) (b c : UInt8) (hb : l[i / 8]? = some b) (hc : c.toNat = b.toNat ^^^ 2 ^ (i % 8)) :
    st x (l.set (i / 8) c) = (st x l ^^^ gn (8 * l.length - i) 1) := by
  have hi : i / 8 < l.length := by omega
  have hb' : l[i / 8] = b := by
    rw [List.getElem?_eq_getElem hi] at hb
    exact Option.some.inj hb
  have e1 : l = l.take (i / 8) ++ b :: l.drop (i / 8 + 1) := by
    rw [← hb', List.getElem_cons_drop, List.take_append_drop]
  have e2 : l.set (i / 8) c = l.take (i / 8) ++ c :: l.drop (i / 8 + 1) := List.set_eq_take_append_cons_drop.trans (if_pos hi)
  rw [e2]
  conv => rhs; rw [e1]
  rw [st_append, st_append, st_cons, st_cons, hc, ← Nat.xor_assoc, gn_xor, st_xor]
  congr 1
  · rw [gn_pow_le (i % 8) 8 (by omega), ← gn_add]
    congr 1
    simp
    omega

theorem sum_lt (l : List UInt8) : sum l < 4294967296 := by
  unfold sum
  omega

/-- Two sums are the same just if the end states are. -/
theorem sum_eq_iff (a b : List UInt8) : sum a = sum b ↔ st 4294967295 a = st 4294967295 b := by
  have ha := st_lt a (x := 4294967295) (by omega)
  have hb := st_lt b (x := 4294967295) (by omega)
  unfold sum
  omega

/-- A text whose end state differs by what a number below 2 ^ 32 makes: another sum, just if the number isn't 0. -/
theorem sum_turned (a b : List UInt8) (n d : Nat) (hd : d < 4294967296) (h : st 4294967295 b = (st 4294967295 a ^^^ gn n d)) : (sum b ≠ sum a) ↔ d ≠ 0 := by
  rw [ne_eq, sum_eq_iff, h]
  constructor
  · rintro h1 rfl
    exact h1 (by rw [gn_zero, Nat.xor_zero])
  · intro h0 h1
    refine gn_ne n hd h0 ?_
    have h2 := congrArg (fun y => st 4294967295 a ^^^ y) h1
    simpa [← Nat.xor_assoc] using h2

/-- One bit out of the state, the text's bit held against it. -/
def rb (x b : Nat) : Nat := if (b % 2 ^^^ x % 2) = 1 then (x / 2) ^^^ 3988292384 else x / 2

theorem rb_step (x b : Nat) : g (x ^^^ b) = (rb x b ^^^ b / 2) := by
  unfold g rb
  rw [xor_mod_two, xor_half, Nat.xor_comm (b % 2)]
  split
  · rw [Nat.xor_assoc, Nat.xor_comm (b / 2), ← Nat.xor_assoc]
  · rfl

theorem rb_lt {x : Nat} (b : Nat) (h : x < 4294967296) : rb x b < 4294967296 := by
  unfold rb
  split
  · exact xor_lt (by omega) (by decide)
  · omega
end Cr
namespace Fr
abbrev B := List UInt8
def sb4 (x : Nat) : B := [UInt8.ofNat (x / 16777216), UInt8.ofNat (x / 65536), UInt8.ofNat (x / 256), UInt8.ofNat x]
def four (l : B) : B := sb4 (Cr.sum l)
/-- With its sum behind it. -/
def sl (l : B) : B := l ++ four l
def two (n : Nat) : B := [UInt8.ofNat (n / 256), UInt8.ofNat n]
/-- A frame. -/
def mk (s : B) : B := sl (two s.length) ++ sl s
def cnt (l : B) : Nat := (l.getD 0 0).toNat * 256 + (l.getD 1 0).toNat
/-- What is read at the beginning: the content, how many bytes, the fault. -/
def first (l : B) : B × Nat × Nat :=
  if l.length < 6 then ([], 0, 3)
  else if sl (l.take 2) ≠ l.take 6 then ([], 0, 4)
  else if 2000 < cnt l then ([], 0, 5)
  else if l.length < cnt l + 10 then ([], 0, 3)
  else if sl ((l.drop 6).take (cnt l)) ≠ (l.drop 6).take (cnt l + 4) then ([], 0, 4)
  else ((l.drop 6).take (cnt l), cnt l + 10, 0)

theorem sb4_inj {x y : Nat} (hx : x < 4294967296) (hy : y < 4294967296) (h : sb4 x = sb4 y) : x = y := by
  unfold sb4 at h
  simp only [List.cons.injEq, and_true] at h
  obtain ⟨h0, h1, h2, h3⟩ := h
  have e0 := congrArg UInt8.toNat h0
  have e1 := congrArg UInt8.toNat h1
  have e2 := congrArg UInt8.toNat h2
  have e3 := congrArg UInt8.toNat h3
  simp only [UInt8.toNat_ofNat'] at e0 e1 e2 e3
  omega
theorem four_len (l : B) : (four l).length = 4 := rfl
theorem sl_len (l : B) : (sl l).length = l.length + 4 := by simp [sl, four_len]
theorem mk_len (s : B) : (mk s).length = s.length + 10 := by
  simp only [mk, List.length_append, sl_len]
  simp [two]
  omega
theorem sl_take (l : B) : (sl l).take l.length = l := by simp [sl]

theorem first_bad {l : B} (h : (first l).2.2 ≠ 0) : (first l).1 = [] ∧ (first l).2.1 = 0 := by
  unfold first at *
  repeat' split
  all_goals first | exact ⟨rfl, rfl⟩ | (simp_all)
theorem first_ok {l : B} (h : (first l).2.2 = 0) : 10 ≤ (first l).2.1 ∧ (first l).2.1 ≤ l.length ∧ (first l).1.length ≤ 2000 := by
  unfold first at *
  split at h
  · simp at h
  · split at h
    · simp at h
    · split at h
      · simp at h
      · split at h
        · simp at h
        · split at h
          · simp at h
          · rename_i h1 h2 h3 h4 h5
            rw [if_neg h1, if_neg h2, if_neg h3, if_neg h4, if_neg h5]
            refine ⟨by simp, by simp; omega, ?_⟩
            simp
            omega
theorem first_le (l : B) : (first l).2.1 ≤ l.length := by
  by_cases h : (first l).2.2 = 0
  · exact (first_ok h).2.1
  · rw [(first_bad h).2]; omega
theorem first_e (l : B) : (first l).2.2 ≤ 5 := by
  unfold first
  repeat' split
  all_goals simp

theorem cnt_two (n : Nat) (r : B) (h : n < 65536) : cnt (two n ++ r) = n := by
  simp [cnt, two]
  omega

/-- What is read of a head that is right. -/
theorem first_head (n : Nat) (r : B) (hn : n ≤ 2000) : first (sl (two n) ++ r) = if r.length < n + 4 then ([], 0, 3) else if sl (r.take n) ≠ r.take (n + 4) then ([], 0, 4) else (r.take n, n + 10, 0) := by
  have e6 : (sl (two n)).length = 6 := by rw [sl_len]; rfl
  have t6 : (sl (two n) ++ r).take 6 = sl (two n) := by rw [← e6]; simp
  have d6 : (sl (two n) ++ r).drop 6 = r := by rw [← e6]; simp
  have t2 : (sl (two n) ++ r).take 2 = two n := by
    unfold sl
    rw [List.append_assoc]
    have : (two n).length = 2 := rfl
    rw [← this, List.take_left]
  have ec : cnt (sl (two n) ++ r) = n := by
    unfold sl
    rw [List.append_assoc]
    exact cnt_two n _ (by omega)
  unfold first
  rw [t2, t6, d6, ec, List.length_append, e6, if_neg (by omega), if_neg (by simp), if_neg (by omega)]
  by_cases h : r.length < n + 4
  · rw [if_pos (by omega), if_pos h]
  · rw [if_neg (by omega), if_neg h]

theorem first_mk (s r : B) (hs : s.length ≤ 2000) : first (mk s ++ r) = (s, s.length + 10, 0) := by
  unfold mk
  rw [List.append_assoc, first_head _ _ hs]
  have h1 : (sl s ++ r).take s.length = s := by
    unfold sl
    rw [List.append_assoc]
    simp
  have h2 : (sl s ++ r).take (s.length + 4) = sl s := by
    rw [← sl_len]; simp
  rw [if_neg (by rw [List.length_append, sl_len]; omega), h1, h2, if_neg (by simp)]

/-- A frame that is cut. -/
theorem first_cut (s : B) (j : Nat) (hs : s.length ≤ 2000) (hj : j < s.length + 10) : first ((mk s).take j) = ([], 0, 3) := by
  by_cases h : j < 6
  · unfold first
    rw [if_pos (by rw [List.length_take]; omega)]
  · have e : (mk s).take j = sl (two s.length) ++ (sl s).take (j - 6) := by
      unfold mk
      rw [List.take_append]
      have : (sl (two s.length)).length = 6 := by rw [sl_len]; rfl
      rw [this, List.take_of_length_le (by omega)]
    rw [e, first_head _ _ hs, if_pos (by rw [List.length_take, sl_len]; omega)]

/-! one byte that is turned -/
theorem st_inj (l : B) {x y : Nat} (hx : x < 4294967296) (hy : y < 4294967296) (h : Cr.st x l = Cr.st y l) : x = y := by
  have e : Cr.st (x ^^^ (x ^^^ y)) l = (Cr.st x l ^^^ Cr.gn (8 * l.length) (x ^^^ y)) := Cr.st_xor l x _
  rw [← Nat.xor_assoc, Nat.xor_self, Nat.zero_xor, ← h] at e
  by_cases hd : x ^^^ y = 0
  · have := congrArg (fun z => z ^^^ y) hd
    simpa [Nat.xor_assoc] using this
  · exfalso
    have h1 := Cr.gn_ne (8 * l.length) (Cr.xor_lt hx hy) hd
    apply h1
    have := congrArg (fun z => Cr.st x l ^^^ z) e
    rw [← Nat.xor_assoc, Nat.xor_self, Nat.zero_xor] at this
    exact this.symm
theorem gn_inj (n : Nat) {x y : Nat} (hx : x < 4294967296) (hy : y < 4294967296) (h : Cr.gn n x = Cr.gn n y) : x = y := by
  have e := Cr.gn_xor n x y
  rw [h, Nat.xor_self] at e
  by_cases hd : x ^^^ y = 0
  · have := congrArg (fun z => z ^^^ y) hd
    simpa [Nat.xor_assoc] using this
  · exact absurd e (Cr.gn_ne n (Cr.xor_lt hx hy) hd)
theorem sum_set (l : B) (i : Nat) (c : UInt8) (hi : i < l.length) (hc : l[i] ≠ c) : Cr.sum (l.set i c) ≠ Cr.sum l := by
  intro h
  have e1 : l = l.take i ++ l[i] :: l.drop (i + 1) := by rw [List.getElem_cons_drop, List.take_append_drop]
  have e2 : l.set i c = l.take i ++ c :: l.drop (i + 1) := List.set_eq_take_append_cons_drop.trans (if_pos hi)
  have hst : Cr.st 4294967295 (l.set i c) = Cr.st 4294967295 l := by
    unfold Cr.sum at h
    have h1 := Cr.st_lt (l.set i c) (x := 4294967295) (by decide)
    have h2 := Cr.st_lt l (x := 4294967295) (by decide)
    omega
  have ha := Cr.st_lt (l.take i) (x := 4294967295) (by decide)
  rw [e2] at hst
  conv at hst => rhs; rw [e1]
  rw [Cr.st_append, Cr.st_append, Cr.st_cons, Cr.st_cons] at hst
  have h3 := st_inj _ (Cr.gn_lt 8 (Cr.xor_lt ha (Cr.byte_lt c))) (Cr.gn_lt 8 (Cr.xor_lt ha (Cr.byte_lt l[i]))) hst
  have h4 := gn_inj 8 (Cr.xor_lt ha (Cr.byte_lt c)) (Cr.xor_lt ha (Cr.byte_lt l[i])) h3
  have h5 := congrArg (fun z => Cr.st 4294967295 (l.take i) ^^^ z) h4
  simp only [← Nat.xor_assoc, Nat.xor_self, Nat.zero_xor] at h5
  exact hc (UInt8.toNat_inj.1 h5.symm)

/-- What is sealed, with one byte turned. -/
theorem sl_set (t : B) (i : Nat) (c : UInt8) (hi : i < (sl t).length) (hc : (sl t)[i]? ≠ some c) : sl (((sl t).set i c).take t.length) ≠ (sl t).set i c := by
  intro h
  by_cases hl : i < t.length
  · have e1 : (sl t).set i c = t.set i c ++ four t := by
      unfold sl
      rw [List.set_append_left _ _ hl]
    have e2 : ((sl t).set i c).take t.length = t.set i c := by
      rw [e1]
      have : (t.set i c).length = t.length := by simp
      rw [← this, List.take_left]
    rw [e2, e1] at h
    unfold sl at h
    have h2 := List.append_cancel_left h
    have h3 := sb4_inj (Cr.sum_lt _) (Cr.sum_lt _) h2
    refine sum_set t i c hl ?_ h3
    intro e
    apply hc
    unfold sl
    rw [List.getElem?_append_left hl, List.getElem?_eq_getElem hl, e]
  · have e1 : (sl t).set i c = t ++ (four t).set (i - t.length) c := by
      unfold sl
      rw [List.set_append_right _ _ (by omega)]
    have e2 : ((sl t).set i c).take t.length = t := by rw [e1, List.take_left]
    rw [e2] at h
    have := congrArg (fun z => z[i]?) h
    simp only [List.getElem?_set_self hi] at this
    exact hc this

theorem first_rot (s r : B) (j : Nat) (c : UInt8) (hs : s.length ≤ 2000) (hj : j < (mk s).length) (hc : (mk s)[j]? ≠ some c) : first ((mk s).set j c ++ r) = ([], 0, 4) := by
  have e6 : (sl (two s.length)).length = 6 := by rw [sl_len]; rfl
  have hj2 := hj
  rw [mk_len] at hj2
  by_cases h : j < 6
  · have e : (mk s).set j c ++ r = (sl (two s.length)).set j c ++ (sl s ++ r) := by
      unfold mk
      rw [List.set_append_left _ _ (by omega), List.append_assoc]
    have el : ((sl (two s.length)).set j c).length = 6 := by rw [List.length_set, e6]
    have t6 : ((sl (two s.length)).set j c ++ (sl s ++ r)).take 6 = (sl (two s.length)).set j c := by rw [← el, List.take_left]
    have t2 : ((sl (two s.length)).set j c ++ (sl s ++ r)).take 2 = ((sl (two s.length)).set j c).take 2 := by
      rw [List.take_append_of_le_length (by omega)]
    have hne := sl_set (two s.length) j c (by omega) (fun e => hc (by rw [← e]; unfold mk; rw [List.getElem?_append_left (by omega)]))
    rw [e]
    unfold first
    rw [t2, t6, if_neg (by rw [List.length_append, el]; omega)]
    exact if_pos hne
  · have e : (mk s).set j c ++ r = sl (two s.length) ++ ((sl s).set (j - 6) c ++ r) := by
      unfold mk
      rw [List.set_append_right _ _ (by omega), e6, List.append_assoc]
    have el : ((sl s).set (j - 6) c).length = s.length + 4 := by rw [List.length_set, sl_len]
    rw [e, first_head _ _ hs, if_neg (by rw [List.length_append, el]; omega)]
    have t1 : ((sl s).set (j - 6) c ++ r).take (s.length + 4) = (sl s).set (j - 6) c := by rw [← el, List.take_left]
    have t2 : ((sl s).set (j - 6) c ++ r).take s.length = ((sl s).set (j - 6) c).take s.length := by rw [List.take_append_of_le_length (by omega)]
    rw [t1, t2]
    refine if_pos (sl_set s (j - 6) c (by rw [sl_len]; omega) fun e => hc ?_)
    rw [← e]
    unfold mk
    rw [List.getElem?_append_right (by omega), e6]

/-! many frames -/
def sp : Nat → B → List B → Nat → List B × Nat × Nat
  | 0, _, acc, pos => (acc, pos, 0)
  | f + 1, l, acc, pos => if l = [] then (acc, pos, 0) else if (first l).2.2 ≠ 0 then (acc, pos, (first l).2.2) else sp f (l.drop (first l).2.1) (acc ++ [(first l).1]) (pos + (first l).2.1)
theorem sp_fuel : ∀ (f g : Nat) (l : B) (acc : List B) (pos : Nat), l.length < f → l.length < g → sp f l acc pos = sp g l acc pos
  | 0, _, _, _, _, h, _ => absurd h (Nat.not_lt_zero _)
  | _ + 1, 0, _, _, _, _, h => absurd h (Nat.not_lt_zero _)
  | f + 1, g + 1, l, acc, pos, h, h' => by
    simp only [sp]
    split
    · rfl
    · split
      · rfl
      · rename_i h1 h2
        have := first_ok (l := l) (by simpa using h2)
        exact sp_fuel f g _ _ _ (by rw [List.length_drop]; omega) (by rw [List.length_drop]; omega)
def spx (l : B) (acc : List B) (pos : Nat) := sp (l.length + 1) l acc pos
theorem spx_nil (acc : List B) (pos : Nat) : spx [] acc pos = (acc, pos, 0) := by simp [spx, sp]
theorem spx_bad {l : B} (acc : List B) (pos : Nat) (hl : l ≠ []) (h : (first l).2.2 ≠ 0) : spx l acc pos = (acc, pos, (first l).2.2) := by
  unfold spx
  rw [sp, if_neg hl, if_pos h]
theorem spx_ok {l : B} (acc : List B) (pos : Nat) (hl : l ≠ []) (h : (first l).2.2 = 0) : spx l acc pos = spx (l.drop (first l).2.1) (acc ++ [(first l).1]) (pos + (first l).2.1) := by
  unfold spx
  rw [sp, if_neg hl, if_neg (by simpa using h)]
  have := first_ok h
  exact sp_fuel _ _ _ _ _ (by rw [List.length_drop]; omega) (by rw [List.length_drop]; omega)
theorem spx_pos {l : B} {acc : List B} {pos : Nat} : (spx l acc pos).2.1 ≤ pos + l.length := by
  generalize hn : l.length = n
  induction n using Nat.strongRecOn generalizing l acc pos with
  | _ n ih =>
    by_cases hl : l = []
    · subst hl; rw [spx_nil]; simp
    · by_cases h : (first l).2.2 = 0
      · rw [spx_ok acc pos hl h]
        have h1 := first_ok h
        have := ih (l.drop (first l).2.1).length (by rw [List.length_drop]; omega) (l := l.drop (first l).2.1) (acc := acc ++ [(first l).1]) (pos := pos + (first l).2.1) rfl
        rw [List.length_drop] at this
        omega
      · rw [spx_bad acc pos hl h]; simp

/-- Frames, one behind the other. -/
def mks : List B → B
  | [] => []
  | s :: l => mk s ++ mks l
theorem mks_app : ∀ a b : List B, mks (a ++ b) = mks a ++ mks b
  | [], b => rfl
  | s :: a, b => by simp [mks, mks_app a b]
theorem mks_one (s : B) : mks [s] = mk s := by simp [mks]
theorem mk_ne (s : B) : mk s ≠ [] := by
  intro h
  have := congrArg List.length h
  rw [mk_len] at this
  simp at this
theorem spx_mks : ∀ (l : List B) (r : B) (acc : List B) (pos : Nat), (∀ s ∈ l, s.length ≤ 2000) → spx (mks l ++ r) acc pos = spx r (acc ++ l) (pos + (mks l).length)
  | [], r, acc, pos, _ => by simp [mks]
  | s :: l, r, acc, pos, h => by
    have hs := h s (by simp)
    have ef : first (mks (s :: l) ++ r) = (s, s.length + 10, 0) := by
      simp only [mks, List.append_assoc]
      exact first_mk s _ hs
    rw [spx_ok acc pos (by simp [mks, mk_ne]) (by rw [ef]), ef]
    have ed : (mks (s :: l) ++ r).drop (s.length + 10) = mks l ++ r := by
      simp only [mks, List.append_assoc]
      rw [← mk_len, List.drop_left]
    simp only [ed]
    rw [spx_mks l r _ _ (fun x hx => h x (by simp [hx]))]
    simp [mks, mk_len, Nat.add_assoc]
theorem split_mks (l : List B) (h : ∀ s ∈ l, s.length ≤ 2000) : spx (mks l) [] 0 = (l, (mks l).length, 0) := by
  have := spx_mks l [] [] 0 h
  rw [List.append_nil] at this
  rw [this, spx_nil]
  simp

/-- Where the first k frames end. -/
def en (l : List B) (k : Nat) : Nat := (mks (l.take k)).length
theorem en_zero (l : List B) : en l 0 = 0 := rfl
theorem en_succ (l : List B) (k : Nat) (h : k < l.length) : en l (k + 1) = en l k + l[k].length + 10 := by
  unfold en
  rw [List.take_succ_eq_append_getElem h, mks_app, mks_one, List.length_append, mk_len]
  omega
theorem en_all (l : List B) : en l l.length = (mks l).length := by unfold en; rw [List.take_length]
theorem mks_split (l : List B) (k : Nat) (h : k < l.length) : mks l = mks (l.take k) ++ (mk l[k] ++ mks (l.drop (k + 1))) := by
  conv => lhs; rw [← List.take_append_drop k l, List.drop_eq_getElem_cons h]
  rw [mks_app]
  rfl

theorem split_cut (l : List B) (h : ∀ s ∈ l, s.length ≤ 2000) (left k : Nat) (hk : k ≤ l.length) (h1 : en l k ≤ left) (h2 : ∀ _ : k < l.length, left < en l (k + 1)) (hle : left ≤ (mks l).length) :
    spx ((mks l).take left) [] 0 = (l.take k, en l k, if en l k = left then 0 else 3) := by
  have hm : ∀ s ∈ l.take k, s.length ≤ 2000 := fun s hs => h s (List.mem_of_mem_take hs)
  by_cases hlt : k < l.length
  · have h3 := h2 hlt
    rw [en_succ l k hlt] at h3
    have e : (mks l).take left = mks (l.take k) ++ (mk l[k]).take (left - en l k) := by
      rw [mks_split l k hlt, List.take_append]
      rw [List.take_of_length_le (by exact h1)]
      congr 1
      rw [List.take_append_of_le_length (by rw [mk_len]; exact Nat.sub_le_of_le_add (by unfold en at *; omega))]
      rfl
    rw [e, spx_mks _ _ _ _ hm]
    simp only [List.nil_append, Nat.zero_add]
    by_cases hz : en l k = left
    · rw [if_pos hz, hz, Nat.sub_self, List.take_zero, spx_nil]
      show (_, en l k, _) = _
      rw [hz]
    · rw [if_neg hz]
      have hf := first_cut l[k] (left - en l k) (h _ (List.getElem_mem hlt)) (by omega)
      rw [spx_bad _ _ _ (by rw [hf]; decide), hf]
      · rfl
      · intro e
        have := congrArg List.length e
        rw [List.length_take, mk_len] at this
        simp at this
        omega
  · obtain rfl : k = l.length := by omega
    rw [en_all] at h1
    obtain rfl : left = (mks l).length := by omega
    rw [en_all, List.take_length, List.take_length, split_mks l h, if_pos rfl]

theorem split_rot (l : List B) (h : ∀ s ∈ l, s.length ≤ 2000) (i k : Nat) (c : UInt8) (hk : k < l.length) (h1 : en l k ≤ i) (h2 : i < en l (k + 1)) (hc : (mks l)[i]? ≠ some c) :
    spx ((mks l).set i c) [] 0 = (l.take k, en l k, 4) := by
  have hm : ∀ s ∈ l.take k, s.length ≤ 2000 := fun s hs => h s (List.mem_of_mem_take hs)
  rw [en_succ l k hk] at h2
  have e : (mks l).set i c = mks (l.take k) ++ ((mk l[k]).set (i - en l k) c ++ mks (l.drop (k + 1))) := by
    rw [mks_split l k hk, List.set_append_right _ _ h1, List.set_append_left _ _ (by rw [mk_len]; unfold en at *; omega)]
    rfl
  have hj : i - en l k < (mk l[k]).length := by rw [mk_len]; omega
  have hg : (mk l[k])[i - en l k]? ≠ some c := by
    intro e
    apply hc
    rw [mks_split l k hk, List.getElem?_append_right h1, List.getElem?_append_left (by exact hj)]
    exact e
  have hf := first_rot l[k] (mks (l.drop (k + 1))) (i - en l k) c (h _ (List.getElem_mem hk)) hj hg
  rw [e, spx_mks _ _ _ _ hm, spx_bad _ _ _ (by rw [hf]; decide), hf]
  · simp only [List.nil_append, Nat.zero_add]
    rfl
  · intro e
    have := congrArg List.length e
    rw [List.length_append, List.length_set, mk_len] at this
    simp at this
end Fr
end Go.Proofs.Ytnmamaeoghgegaa.Fm

/-
  The state's step, and the sum of what comes behind a sum, as the program has them.
-/
namespace Go.Proofs.Ytnmamaeoghgegaa.Fm
open Go.RowKit
set_option maxRecDepth 100000

theorem wraps_u32 (n : Int) (h₀ : 0 ≤ n) (h₁ : n < 2 ^ 32) : IntKind.u32.wrap n = n := by
  rw [IntKind.wrap_u32]
  omega

theorem xor32 (a b : Nat) (ha : a < 4294967296) (hb : b < 4294967296) : bits BinOp.xor IntKind.u32 (a : Int) (b : Int) = ((a ^^^ b : Nat) : Int) := by
  have hx : a ^^^ b < 2 ^ 32 := Nat.xor_lt_two_pow (by omega) (by omega)
  have h1 : (BitVec.ofInt 32 (a : Int)).toNat = a := by
    rw [BitVec.ofInt_natCast, BitVec.toNat_ofNat]; exact Nat.mod_eq_of_lt (by omega)
  have h2 : (BitVec.ofInt 32 (b : Int)).toNat = b := by
    rw [BitVec.ofInt_natCast, BitVec.toNat_ofNat]; exact Nat.mod_eq_of_lt (by omega)
  show IntKind.u32.wrap ((BitVec.ofInt 32 (a : Int) ^^^ BitVec.ofInt 32 (b : Int)).toNat : Int) = _
  rw [BitVec.toNat_xor, h1, h2, IntKind.wrap_u32]
  omega

theorem and1_32 (a : Nat) (ha : a < 4294967296) : bits BinOp.and IntKind.u32 (a : Int) 1 = ((a % 2 : Nat) : Int) := by
  have e := bits_mask .u32 32 (by decide) wraps_u32 1 (by decide) (a : Int) (by omega) (by omega)
  simpa using e

set_option maxHeartbeats 1600000 in
set_option maxRecDepth 100000 in
theorem step_any (x : Nat) (w : World) (hx : x < 4294967296) :
    Calls Try.prog 107 #[.int .u32 (x : Int)] w fun e w' => e = .returned (.int .u32 (Cr.gn 8 x : Nat)) ∧ w' = w := by
  go_enter Try.func107, Try.ntmps107
  go_wp2
  go_loopg [0, 4] 8 (fun gh s0 s4 wr => ∃ k y : Nat, 8 - k ≤ gh ∧ k ≤ 8 ∧ s0 = .int .u32 (y : Int) ∧ s4 = .int .i64 (k : Int) ∧ y < 4294967296 ∧ Cr.gn (8 - k) y = Cr.gn 8 x ∧ wr = w)
  case atStart => exact ⟨0, x, by omega, by omega, rfl, rfl, hx, rfl, rfl⟩
  case round =>
    obtain ⟨k, y, hgh, hk, rfl, rfl, hy, hg, rfl⟩ := hrel
    have HG : Aside (Cr.gn (8 - k) y = Cr.gn 8 x) := hg
    clear hg
    by_cases hlt : k < 8
    · have d1 : decide ((k : Int) < 8) = true := by simp; omega
      have ha := and1_32 y hy
      have hgs : Aside (Cr.gn (8 - (k + 1)) (Cr.g y) = Cr.gn 8 x) := by
        have := HG.out
        rw [show 8 - k = (8 - (k + 1)) + 1 by omega] at this
        exact this
      by_cases h1 : y % 2 = 1
      · have d2 : (bits BinOp.and IntKind.u32 (y : Int) 1 == 1) = true := by rw [ha]; simp; omega
        have hxo : bits BinOp.xor IntKind.u32 ((y : Int) / 2) 3988292384 = ((Cr.g y : Nat) : Int) := by
          have := xor32 (y / 2) 3988292384 (by omega) (by decide)
          unfold Cr.g
          rw [if_pos h1]
          simpa using this
        clear ha
        go_wp2_with fail
        go_roundg (8 - (k + 1))
        case measure => omega
        case rel => exact ⟨k + 1, Cr.g y, Nat.le_refl _, by omega, by go_num, by go_num, Cr.g_lt hy, hgs.out, rfl⟩
      · have d2 : (bits BinOp.and IntKind.u32 (y : Int) 1 == 1) = false := by rw [ha]; simp; omega
        have e0 : Cr.g y = y / 2 := by unfold Cr.g; rw [if_neg h1]
        clear ha
        go_wp2_with fail
        go_roundg (8 - (k + 1))
        case measure => omega
        case rel => exact ⟨k + 1, Cr.g y, Nat.le_refl _, by omega, by rw [e0]; go_num, by go_num, Cr.g_lt hy, hgs.out, rfl⟩
    · obtain rfl : k = 8 := by omega
      go_wp2
      go_ret
      exact ⟨by have := HG.out; simp [Cr.gn] at this; simp [Cr.gn, this], rfl⟩
end Go.Proofs.Ytnmamaeoghgegaa.Fm

/-
  The sum of what comes behind a sum; the sum of a text.
-/
namespace Go.Proofs.Ytnmamaeoghgegaa.Fm
open Go.RowKit
set_option maxRecDepth 100000

theorem take_snoc (s : ByteArray) (k : Nat) (h : k < s.size) : s.data.toList.take (k + 1) = s.data.toList.take k ++ [s[k]] := by
  have hk : k < s.data.toList.length := by simpa using h
  rw [List.take_succ_eq_append_getElem hk]
  simp
  rfl

theorem not32 (x : Nat) (hx : x < 4294967296) : bits BinOp.xor IntKind.u32 IntKind.u32.max (x : Int) = ((4294967295 - x : Nat) : Int) := by
  have h := xor32 4294967295 x (by decide) hx
  have e : 4294967295 ^^^ x = 4294967295 - x := by
    have := BitVec.toNat_not (x := BitVec.ofNat 32 x)
    rw [← BitVec.xor_allOnes, BitVec.toNat_xor] at this
    simp at this
    rw [Nat.mod_eq_of_lt (by omega)] at this
    rw [Nat.xor_comm]
    exact this
  rw [← e, ← h]
  rfl

set_option maxHeartbeats 1600000 in
set_option maxRecDepth 100000 in
theorem next_any (x : Nat) (s : ByteArray) (w : World) (hx : x < 4294967296) (hs : s.size ≤ 1000000) :
    Calls Try.prog 102 #[.int .u32 (x : Int), .string s] w fun e w' => e = .returned (.int .u32 ((4294967295 - Cr.st (4294967295 - x) s.data.toList : Nat) : Int)) ∧ w' = w := by
  have hn := not32 x hx
  go_enter Try.func102, Try.ntmps102
  go_wp2
  go_loopg [5, 11] s.size (fun gh s5 s11 wr => ∃ k y : Nat, s.size - k ≤ gh ∧ k ≤ s.size ∧ s5 = .int .u32 (y : Int) ∧ s11 = .int .i64 (k : Int) ∧ y < 4294967296 ∧ y = Cr.st (4294967295 - x) (s.data.toList.take k) ∧ wr = w)
  case atStart => exact ⟨0, 4294967295 - x, by omega, by omega, rfl, rfl, by omega, rfl, rfl⟩
  case round =>
    obtain ⟨k, y, hgh, hk, rfl, rfl, hy, hg, rfl⟩ := hrel
    have HG : Aside (y = Cr.st (4294967295 - x) (s.data.toList.take k)) := hg
    clear hg
    by_cases hlt : k < s.size
    · have hxo : bits BinOp.xor IntKind.u32 (y : Int) ((s[k].toNat : Int) % 4294967296) = ((y ^^^ s[k].toNat : Nat) : Int) := by
        have := Cr.byte_lt s[k]
        rw [Int.emod_eq_of_lt (by omega) (by omega)]
        exact xor32 y s[k].toNat hy (Cr.byte_lt _)
      have hst := step_any (y ^^^ s[k].toNat) wr (Cr.xor_lt hy (Cr.byte_lt _))
      have R : Aside (Cr.gn 8 (y ^^^ s[k].toNat) = Cr.st (4294967295 - x) (s.data.toList.take (k + 1))) := by
        have h0 := HG.out
        show _ = _
        rw [take_snoc s k hlt, Cr.st_snoc, ← h0]
      have hl : Cr.gn 8 (y ^^^ s[k].toNat) < 4294967296 := Cr.gn_lt _ (Cr.xor_lt hy (Cr.byte_lt _))
      go_wp2_with (go_at_call 107; refine hst.mono ?_; rintro e w1 ⟨rfl, rfl⟩)
      go_roundg (s.size - (k + 1))
      case measure => omega
      case rel => exact ⟨k + 1, Cr.gn 8 (y ^^^ s[k].toNat), Nat.le_refl _, by omega, rfl, by go_num, hl, R.out, rfl⟩
    · obtain rfl : k = s.size := by omega
      have hm := not32 y hy
      go_wp2
      go_ret
      have h0 := HG.out
      rw [List.take_of_length_le (by simp)] at h0
      exact ⟨by rw [h0]; rfl, rfl⟩

theorem of_any (s : ByteArray) (w : World) (hs : s.size ≤ 1000000) :
    Calls Try.prog 92 #[.string s] w fun e w' => e = .returned (.int .u32 (Cr.sum s.data.toList : Nat)) ∧ w' = w := by
  have h := next_any 0 s w (by decide) hs
  go_enter Try.func92, Try.ntmps92
  go_wp2_with (go_at_call 102; refine h.mono ?_; rintro e w1 ⟨rfl, rfl⟩)
  go_ret
  exact ⟨rfl, rfl⟩
end Go.Proofs.Ytnmamaeoghgegaa.Fm

/-
  The four bytes of a sum; a text with its sum behind it.
-/
namespace Go.Proofs.Ytnmamaeoghgegaa.Fm
open Go.RowKit
set_option maxRecDepth 100000

/-- A number's four bytes, the highest first. -/
def sb (x : Nat) : ByteArray := ⟨#[UInt8.ofNat (x / 16777216), UInt8.ofNat (x / 65536), UInt8.ofNat (x / 256), UInt8.ofNat x]⟩

theorem sb_size (x : Nat) : (sb x).size = 4 := rfl

theorem byte_mod (x : Nat) : UInt8.ofNat (x % 256) = UInt8.ofNat x := by
  rw [← UInt8.toNat_inj]
  simp

theorem sb_nums (x : Nat) : strOfNums [(x : Int) / 16777216, (x : Int) / 65536 % 256, (x : Int) / 256 % 256, (x : Int) % 256] = sb x := by
  have e0 : ((x : Int) / 16777216).toNat = x / 16777216 := by omega
  have e1 : ((x : Int) / 65536 % 256).toNat = x / 65536 % 256 := by omega
  have e2 : ((x : Int) / 256 % 256).toNat = x / 256 % 256 := by omega
  have e3 : ((x : Int) % 256).toNat = x % 256 := by omega
  unfold strOfNums sb
  simp only [List.map_cons, List.map_nil, e0, e1, e2, e3, byte_mod]

theorem conv4 (w : World) (a b c d : Int) :
    (convert 49 9 (.slice (some ⟨w.heap.size, 0, none⟩) 4 4)).run Try.prog (w.alloc (.cells #[.int .u8 a, .int .u8 b, .int .u8 c, .int .u8 d] 5)) =
      .ok (.string (strOfNums [a, b, c, d])) (w.alloc (.cells #[.int .u8 a, .int .u8 b, .int .u8 c, .int .u8 d] 5)) := by
  refine run_convert_bytes_arg _ 49 5 Try.underlying49 Try.underlying5 w.heap.size 0 4 4 _ rfl (fun i hi => ?_) 9 Try.underlying9
  match i, hi with
  | 0, _ => simp
  | 1, _ => simp
  | 2, _ => simp
  | 3, _ => simp
  | n + 4, h => exact absurd h (by omega)

theorem sumBytes_any (x : Nat) (w : World) (hx : x < 4294967296) :
    Calls Try.prog 91 #[.int .u32 (x : Int)] w fun e w' => e = .returned (.string (sb x)) ∧ Below w.heap.size w w' := by
  have hc := conv4 w ((x : Int) / 16777216) ((x : Int) / 65536 % 256) ((x : Int) / 256 % 256) ((x : Int) % 256)
  rw [sb_nums] at hc
  go_enter Try.func91, Try.ntmps91
  go_wp2
  go_ret
  exact ⟨rfl, (Below.refl _ _).alloc (Nat.le_refl _) _⟩

/-- What is sealed. -/
def sealed (s : ByteArray) : ByteArray := s ++ sb (Cr.sum s.data.toList)

theorem seal_any (s : ByteArray) (w : World) (hs : s.size ≤ 1000000) :
    Calls Try.prog 65 #[.string s] w fun e w' => e = .returned (.string (sealed s)) ∧ Below w.heap.size w w' := by
  have h1 := of_any s w hs
  have h2 := sumBytes_any (Cr.sum s.data.toList) w (Cr.sum_lt _)
  have h3 := sb_size (Cr.sum s.data.toList)
  go_enter Try.func65, Try.ntmps65
  go_wp2_with (first
    | (go_at_call 92; refine h1.mono ?_; rintro e w1 ⟨rfl, rfl⟩)
    | (go_at_call 91; refine h2.mono ?_; rintro e w2 ⟨rfl, hb⟩))
  go_ret
  exact ⟨rfl, hb⟩
end Go.Proofs.Ytnmamaeoghgegaa.Fm

/-
  A region whose order is left open, whose operations only read and whose callees may make memory of their own: one walk, in the order of the text, serves every order.
-/
namespace Go.Proofs.Ytnmamaeoghgegaa.Fm
open Go.RowKit
set_option maxRecDepth 100000

/-- A world that has come of w: what lay in w is as it was. -/
structure Later (w : World) where
  u : World
  bel : Below w.heap.size w u

theorem later_some (w : World) : Nonempty (Later w) := ⟨⟨w, Below.refl _ _⟩⟩

theorem wp_region_later {P : Program} {id : Nat} {Q : Exit → Act → World → Prop} {a : Act} {w : World} {l : List Oper} (hm : P.follows .mixedOrders = true) (hB : Region.lexB .any l.toArray = true)
    (h : wpQuiet P l.toArray (fun w' => ∃ q : Later w, w' = q.u) (fun a' => ∀ w', (∃ q : Later w, w' = q.u) → Q .normal a' w') l a) : (Code.region id l.toArray true).wp P Q a w :=
  wp_region_quiet (C := fun w' => ∃ q : Later w, w' = q.u) hm hB ⟨⟨_, (Below.refl _ _).drew⟩, rfl⟩ (by simpa using h)

theorem calls_later {P : Program} {f : FuncId} {args : Array Value} {w : World} {q : Later w} {v : Value} (h : Calls P f args q.u fun e w' => e = .returned v ∧ Below q.u.heap.size q.u w') :
    Calls P f args q.u fun e w' => e = .returned v ∧ ∃ p : Later w, w' = p.u :=
  h.mono fun _ w' ⟨he, hb⟩ => ⟨he, ⟨w', q.bel.trans (hb.mono q.bel.size)⟩, rfl⟩
end Go.Proofs.Ytnmamaeoghgegaa.Fm

/-
  What is opened.
-/
namespace Go.Proofs.Ytnmamaeoghgegaa.Fm
open Go.RowKit
set_option maxRecDepth 100000

theorem open_short (s : ByteArray) (w : World) (hs : s.size < 4) :
    Calls Try.prog 74 #[.string s] w fun e w' => e = .returned (.tuple #[.string ⟨#[]⟩, .bool false]) ∧ w' = w := by
  go_enter Try.func74, Try.ntmps74
  go_wp2
  go_ret2
  exact ⟨rfl, rfl⟩

set_option maxHeartbeats 1600000 in
theorem open_yes (s b t : ByteArray) (w : World) (h4 : 4 ≤ s.size) (hs : s.size ≤ 1000000) (hb : s.extract 0 (s.size - 4) = b) (ht : s.extract (s.size - 4) s.size = t) (he : t = sb (Cr.sum b.data.toList)) :
    Calls Try.prog 74 #[.string s] w fun e w' => e = .returned (.tuple #[.string b, .bool true]) ∧ Below w.heap.size w w' := by
  have hbs : b.size ≤ 1000000 := by rw [← hb]; simp; omega
  have k1 : ∀ q : Later w, _ := fun q => of_any b q.u hbs
  have k2 : ∀ q : Later w, _ := fun q => sumBytes_any (Cr.sum b.data.toList) q.u (Cr.sum_lt _)
  have be : (t.toList == (sb (Cr.sum b.data.toList)).toList) = true := by rw [he]; exact beq_self_eq_true _
  clear he
  go_enter Try.func74, Try.ntmps74
  go_wp2_with fail
  have hne := later_some w
  refine wp_region_later (by kernel_rfl) (by kernel_rfl) ?_
  repeat (go_big_quiet_step ((first | (go_at_call 92; exact (k1 _).mono (fun _ w' h => ⟨h.1, _, h.2⟩)) | (go_at_call 91; exact calls_later (k2 _)))))
  refine wpQuiet_nil ?_
  rintro _ ⟨q, rfl⟩
  have hq := q.bel
  clear hne
  go_wp2
  go_ret2
  exact ⟨by rw [hb]; rfl, hq⟩

set_option maxHeartbeats 1600000 in
theorem open_no (s b t : ByteArray) (w : World) (h4 : 4 ≤ s.size) (hs : s.size ≤ 1000000) (hb : s.extract 0 (s.size - 4) = b) (ht : s.extract (s.size - 4) s.size = t) (he : t ≠ sb (Cr.sum b.data.toList)) :
    Calls Try.prog 74 #[.string s] w fun e w' => e = .returned (.tuple #[.string ⟨#[]⟩, .bool false]) ∧ Below w.heap.size w w' := by
  have hbs : b.size ≤ 1000000 := by rw [← hb]; simp; omega
  have k1 : ∀ q : Later w, _ := fun q => of_any b q.u hbs
  have k2 : ∀ q : Later w, _ := fun q => sumBytes_any (Cr.sum b.data.toList) q.u (Cr.sum_lt _)
  have be : (t.toList == (sb (Cr.sum b.data.toList)).toList) = false := by
    rw [beq_eq_false_iff_ne]
    intro h
    apply he
    rw [ByteArray.toList_eq, ByteArray.toList_eq] at h
    exact ByteArray.ext (Array.toList_inj.mp h)
  clear he
  go_enter Try.func74, Try.ntmps74
  go_wp2_with fail
  have hne := later_some w
  refine wp_region_later (by kernel_rfl) (by kernel_rfl) ?_
  repeat (go_big_quiet_step ((first | (go_at_call 92; exact (k1 _).mono (fun _ w' h => ⟨h.1, _, h.2⟩)) | (go_at_call 91; exact calls_later (k2 _)))))
  refine wpQuiet_nil ?_
  rintro _ ⟨q, rfl⟩
  have hq := q.bel
  clear hne
  go_wp2
  go_ret2
  exact ⟨rfl, hq⟩
end Go.Proofs.Ytnmamaeoghgegaa.Fm

/-
  The document's own sum, and its sealed text: the same as the program's.
-/
namespace Go.Proofs.Ytnmamaeoghgegaa.Fm
open Go.RowKit
set_option maxRecDepth 100000

/-- What the document's loop has behind k bits of a byte. -/
theorem rb_all (x b k y : Nat) (h : Cr.gn k (x ^^^ b) = (y ^^^ b / 2 ^ k)) : Cr.gn (k + 1) (x ^^^ b) = (Cr.rb y (b / 2 ^ k) ^^^ b / 2 ^ (k + 1)) := by
  rw [Cr.gn_succ, h, Cr.rb_step, Nat.div_div_eq_div_mul, ← Nat.pow_succ]

theorem ref_bit (b z j : Nat) : bits BinOp.xor IntKind.u32 (((b : Int) / 2 ^ j).tmod 2) ((z : Int) % 2) = (((b / 2 ^ j) % 2 ^^^ z % 2 : Nat) : Int) := by
  have h := xor32 ((b / 2 ^ j) % 2) (z % 2) (by omega) (by omega)
  rw [← h]
  have e : ((b : Int) / 2 ^ j) = ((b / 2 ^ j : Nat) : Int) := by simp
  rw [e, Int.tmod_eq_emod_of_nonneg (Int.natCast_nonneg _)]
  simp

set_option maxHeartbeats 1600000 in
set_option maxRecDepth 100000 in
theorem refOf_any (s : ByteArray) (w : World) (hs : s.size ≤ 1000000) :
    Calls Try.prog 100 #[.string s] w fun e w' => e = .returned (.int .u32 (Cr.sum s.data.toList : Nat)) ∧ w' = w := by
  go_enter Try.func100, Try.ntmps100
  go_wp2
  go_loopg [3, 4] s.size (fun gh s3 s4 wr => ∃ k y : Nat, s.size - k ≤ gh ∧ k ≤ s.size ∧ s3 = .int .u32 (y : Int) ∧ s4 = .int .i64 (k : Int) ∧ y < 4294967296 ∧ y = Cr.st 4294967295 (s.data.toList.take k) ∧ wr = w)
  case atStart => exact ⟨0, 4294967295, by omega, by omega, rfl, rfl, by omega, rfl, rfl⟩
  case round =>
    obtain ⟨k, y, hgh, hk, rfl, rfl, hy, hg, rfl⟩ := hrel
    have HG : Aside (y = Cr.st 4294967295 (s.data.toList.take k)) := hg
    clear hg
    by_cases hlt : k < s.size
    · have R : Aside (Cr.gn 8 (y ^^^ s[k].toNat) = Cr.st 4294967295 (s.data.toList.take (k + 1))) := by
        have h0 := HG.out
        show _ = _
        rw [take_snoc s k hlt, Cr.st_snoc, ← h0]
      have hb8 := s[k].toNat_lt
      go_wp2
      go_loopg [3, 5] 8 (fun g2 s3 s5 wr2 => ∃ j z : Nat, 8 - j ≤ g2 ∧ j ≤ 8 ∧ s3 = .int .u32 (z : Int) ∧ s5 = .int .i64 (j : Int) ∧ z < 4294967296 ∧ Cr.gn j (y ^^^ s[k].toNat) = (z ^^^ s[k].toNat / 2 ^ j) ∧ wr2 = wr)
      case atStart => exact ⟨0, y, by omega, by omega, rfl, rfl, hy, by simp [Cr.gn], rfl⟩
      case round =>
        obtain ⟨j, z, hg2, hj, rfl, rfl, hz, hgz, rfl⟩ := hrel
        have HZ : Aside (Cr.gn j (y ^^^ s[k].toNat) = (z ^^^ s[k].toNat / 2 ^ j)) := hgz
        clear hgz
        by_cases hjl : j < 8
        · have d1 : decide ((j : Int) < 8) = true := by simp; omega
          have hr := ref_bit s[k].toNat z j
          have hnx := rb_all y s[k].toNat j z HZ.out
          by_cases h1 : ((s[k].toNat / 2 ^ j) % 2 ^^^ z % 2) = 1
          · have d2 : (bits BinOp.xor IntKind.u32 (((s[k].toNat : Int) / 2 ^ j).tmod 2) ((z : Int) % 2) == 1) = true := by rw [hr, h1]; rfl
            have hxo : bits BinOp.xor IntKind.u32 ((z : Int) / 2) 3988292384 = ((Cr.rb z (s[k].toNat / 2 ^ j) : Nat) : Int) := by
              have := xor32 (z / 2) 3988292384 (by omega) (by decide)
              unfold Cr.rb
              rw [if_pos h1]
              simpa using this
            have HN : Aside (Cr.gn (j + 1) (y ^^^ s[k].toNat) = (Cr.rb z (s[k].toNat / 2 ^ j) ^^^ s[k].toNat / 2 ^ (j + 1))) := hnx
            clear hr hnx h1
            go_wp2_with fail
            go_roundg (8 - (j + 1))
            case measure => omega
            case rel => exact ⟨j + 1, Cr.rb z (s[k].toNat / 2 ^ j), Nat.le_refl _, by omega, by go_num, by go_num, Cr.rb_lt _ hz, HN.out, rfl⟩
          · have d2 : (bits BinOp.xor IntKind.u32 (((s[k].toNat : Int) / 2 ^ j).tmod 2) ((z : Int) % 2) == 1) = false := by
              rw [hr, beq_eq_false_iff_ne]
              omega
            have e0 : Cr.rb z (s[k].toNat / 2 ^ j) = z / 2 := by unfold Cr.rb; rw [if_neg h1]
            rw [e0] at hnx
            have HN : Aside (Cr.gn (j + 1) (y ^^^ s[k].toNat) = (z / 2 ^^^ s[k].toNat / 2 ^ (j + 1))) := hnx
            clear hr hnx h1 e0
            go_wp2_with fail
            go_roundg (8 - (j + 1))
            case measure => omega
            case rel => exact ⟨j + 1, z / 2, Nat.le_refl _, by omega, by go_num, by go_num, by omega, HN.out, rfl⟩
        · obtain rfl : j = 8 := by omega
          have e8 : z = Cr.st 4294967295 (s.data.toList.take (k + 1)) := by
            rw [← R.out, HZ.out, Nat.div_eq_of_lt hb8, Nat.xor_zero]
          have HE : Aside (z = Cr.st 4294967295 (s.data.toList.take (k + 1))) := e8
          clear e8 R HZ
          go_wp2
          go_roundg (s.size - (k + 1))
          case measure => omega
          case rel => exact ⟨k + 1, z, Nat.le_refl _, by omega, rfl, by go_num, hz, HE.out, rfl⟩
    · obtain rfl : k = s.size := by omega
      go_wp2
      go_ret
      have h0 := HG.out
      rw [List.take_of_length_le (by simp)] at h0
      exact ⟨by unfold Cr.sum; rw [← h0]; refine congrArg Ending.returned ?_; go_num, rfl⟩

theorem four_any (s : ByteArray) (w : World) (hs : s.size ≤ 1000000) :
    Calls Try.prog 82 #[.string s] w fun e w' => e = .returned (.string (sb (Cr.sum s.data.toList))) ∧ Below w.heap.size w w' := by
  have h1 := refOf_any s w hs
  have hc := conv4 w ((Cr.sum s.data.toList : Int) / 16777216) ((Cr.sum s.data.toList : Int) / 65536 % 256) ((Cr.sum s.data.toList : Int) / 256 % 256) ((Cr.sum s.data.toList : Int) % 256)
  rw [sb_nums] at hc
  have hl := Cr.sum_lt s.data.toList
  go_enter Try.func82, Try.ntmps82
  go_wp2_with (go_at_call 100; refine h1.mono ?_; rintro e w1 ⟨rfl, rfl⟩)
  go_ret
  exact ⟨rfl, (Below.refl _ _).alloc (Nat.le_refl _) _⟩
end Go.Proofs.Ytnmamaeoghgegaa.Fm

/-
  Texts as lists; the head of a frame, and Make.
-/
namespace Go.Proofs.Ytnmamaeoghgegaa.Fm
open Go.RowKit
set_option maxRecDepth 100000
def bs (l : List UInt8) : ByteArray := ⟨l.toArray⟩
theorem bs_list (l : List UInt8) : (bs l).data.toList = l := by simp [bs]
theorem bs_data (s : ByteArray) : bs s.data.toList = s := by
  apply ByteArray.ext
  simp [bs]
theorem bs_size (l : List UInt8) : (bs l).size = l.length := by
  show (bs l).data.size = _
  simp [bs]
theorem list_len (s : ByteArray) : s.data.toList.length = s.size := rfl
theorem bs_app (a b : List UInt8) : bs a ++ bs b = bs (a ++ b) := by
  apply ByteArray.ext
  rw [ByteArray.data_append]
  simp [bs]
theorem list_app (a b : ByteArray) : (a ++ b).data.toList = a.data.toList ++ b.data.toList := by
  rw [ByteArray.data_append, Array.toList_append]
theorem bs_inj {a b : List UInt8} (h : bs a = bs b) : a = b := by
  have := congrArg (fun s : ByteArray => s.data.toList) h
  simpa [bs_list] using this
theorem list_ext {a b : ByteArray} (h : a.data.toList = b.data.toList) : a = b := ByteArray.ext (Array.toList_inj.1 h)
theorem list_cut (s : ByteArray) (a b : Nat) : (s.extract a b).data.toList = (s.data.toList.take b).drop a := by
  rw [ByteArray.data_extract]
  simp [List.drop_take]
theorem sb_bs (x : Nat) : sb x = bs (Fr.sb4 x) := rfl
theorem sealed_list (s : ByteArray) : (sealed s).data.toList = Fr.sl s.data.toList := by
  unfold sealed
  rw [list_app]
  rfl
theorem sealed_bs (l : List UInt8) : sealed (bs l) = bs (Fr.sl l) := by
  apply list_ext
  rw [sealed_list, bs_list, bs_list]

theorem conv2 (w : World) (a b : Int) :
    (convert 49 9 (.slice (some ⟨w.heap.size, 0, none⟩) 2 2)).run Try.prog (w.alloc (.cells #[.int .u8 a, .int .u8 b] 5)) =
      .ok (.string (strOfNums [a, b])) (w.alloc (.cells #[.int .u8 a, .int .u8 b] 5)) := by
  refine run_convert_bytes_arg _ 49 5 Try.underlying49 Try.underlying5 w.heap.size 0 2 2 _ rfl (fun i hi => ?_) 9 Try.underlying9
  match i, hi with
  | 0, _ => simp
  | 1, _ => simp
  | n + 2, h => exact absurd h (by omega)
theorem two_nums (n : Nat) : strOfNums [(n : Int) / 256, (n : Int) % 256] = bs (Fr.two n) := by
  have e0 : ((n : Int) / 256).toNat = n / 256 := by omega
  have e1 : ((n : Int) % 256).toNat = n % 256 := by omega
  simp only [strOfNums, List.map_cons, List.map_nil, e0, e1, byte_mod]
  rfl

theorem head_any (n : Nat) (w : World) (hn : n < 65536) :
    Calls Try.prog 64 #[.int .i64 (n : Int)] w fun e w' => e = .returned (.string (bs (Fr.sl (Fr.two n)))) ∧ Below w.heap.size w w' := by
  have hc := conv2 w ((n : Int) / 256) ((n : Int) % 256)
  rw [two_nums] at hc
  have k : Aside (∀ u : World, Calls Try.prog 65 #[.string (bs (Fr.two n))] u fun e w' => e = .returned (.string (bs (Fr.sl (Fr.two n)))) ∧ Below u.heap.size u w') := fun u => by
    have := seal_any (bs (Fr.two n)) u (by rw [bs_size]; show 2 ≤ 1000000; decide)
    rw [sealed_bs] at this
    exact this
  go_enter Try.func64, Try.ntmps64
  go_wp2_with (go_at_call 65; refine (k.out _).mono ?_; rintro e w1 ⟨rfl, hb1⟩)
  go_ret
  have b1 := (Below.refl w.heap.size w).alloc (Nat.le_refl _) (.cells #[.int .u8 ((n : Int) / 256), .int .u8 ((n : Int) % 256)] 5)
  exact ⟨rfl, b1.trans (hb1.mono b1.size)⟩

theorem mk_parts (s : ByteArray) : bs (Fr.sl (Fr.two s.size)) ++ sealed s = bs (Fr.mk s.data.toList) := by
  apply list_ext
  rw [list_app, sealed_list, bs_list, bs_list]
  rfl

/-- What Make answers. -/
def mkS (s : ByteArray) : ByteArray := if 2000 < s.size then ⟨#[]⟩ else bs (Fr.mk s.data.toList)
def mkE (s : ByteArray) : Nat := if 2000 < s.size then 5 else 0

theorem make_any (s : ByteArray) (w : World) (hs : s.size ≤ 1000000) :
    Calls Try.prog 24 #[.string s] w fun e w' => e = .returned (.tuple #[.string (mkS s), .int .i64 (mkE s : Nat)]) ∧ Below w.heap.size w w' := by
  unfold mkS mkE
  by_cases h : 2000 < s.size
  · have d1 : decide (2000 < (s.size : Int)) = true := by simp; omega
    rw [if_pos h, if_pos h]
    go_enter Try.func24, Try.ntmps24
    go_wp2
    go_ret2
    exact ⟨rfl, Below.refl _ _⟩
  · have d1 : decide (2000 < (s.size : Int)) = false := by simp; omega
    rw [if_neg h, if_neg h, ← mk_parts]
    have k1 := head_any s.size w (by omega)
    have k2 : Aside (∀ u : World, _) := fun u : World => seal_any s u hs
    have z1 : (bs (Fr.sl (Fr.two s.size))).size = 6 := by rw [bs_size, Fr.sl_len]; rfl
    have z2 : (sealed s).size = s.size + 4 := by
      have := congrArg List.length (sealed_list s)
      rw [Fr.sl_len] at this
      exact this
    generalize bs (Fr.sl (Fr.two s.size)) = H at *
    generalize sealed s = S at *
    go_enter Try.func24, Try.ntmps24
    go_wp2_with (first
      | (go_at_call 64; refine k1.mono ?_; rintro e w1 ⟨rfl, hb1⟩)
      | (go_at_call 65; refine (k2.out _).mono ?_; rintro e w2 ⟨rfl, hb2⟩))
    go_ret2
    exact ⟨rfl, hb1.trans (hb2.mono hb1.size)⟩
end Go.Proofs.Ytnmamaeoghgegaa.Fm

/-
  What the head of a frame tells.
-/
namespace Go.Proofs.Ytnmamaeoghgegaa.Fm
open Go.RowKit
set_option maxRecDepth 100000
/-- What Open answers of bytes in parts: the content b, and behind it t. -/
theorem open_list (s : ByteArray) (w : World) (h4 : 4 ≤ s.size) (hs : s.size ≤ 1000000) :
    Calls Try.prog 74 #[.string s] w fun e w' => e = .returned (.tuple #[.string (if Fr.sl (s.data.toList.take (s.size - 4)) = s.data.toList then s.extract 0 (s.size - 4) else ⟨#[]⟩), .bool (decide (Fr.sl (s.data.toList.take (s.size - 4)) = s.data.toList))]) ∧ Below w.heap.size w w' := by
  have e0 : (s.extract 0 (s.size - 4)).data.toList = s.data.toList.take (s.size - 4) := by rw [list_cut]; simp
  have e1 : (s.extract (s.size - 4) s.size).data.toList = s.data.toList.drop (s.size - 4) := by
    rw [list_cut, List.take_of_length_le (by rw [list_len]; omega)]
  by_cases h : Fr.sl (s.data.toList.take (s.size - 4)) = s.data.toList
  · rw [if_pos h, decide_eq_true h]
    refine open_yes s _ _ w h4 hs rfl rfl ?_
    apply list_ext
    rw [e1, e0, sb_bs, bs_list]
    have h2 : s.data.toList.take (s.size - 4) ++ Fr.four (s.data.toList.take (s.size - 4)) = s.data.toList.take (s.size - 4) ++ s.data.toList.drop (s.size - 4) := by
      rw [List.take_append_drop]
      exact h
    exact (List.append_cancel_left h2).symm
  · rw [if_neg h, decide_eq_false h]
    refine open_no s _ _ w h4 hs rfl rfl fun he => h ?_
    have := congrArg (fun x : ByteArray => x.data.toList) he
    simp only [e1, e0, sb_bs, bs_list] at this
    unfold Fr.sl
    conv => rhs; rw [← List.take_append_drop (s.size - 4) s.data.toList, this]
    rfl

theorem or8 (a b : Nat) (ha : a < 256) (hb : b < 256) : bits .or .i64 ((a : Int) * 256) (b : Int) = ((a * 256 + b : Nat) : Int) := by
  show IntKind.i64.wrap ((BitVec.ofInt 64 ((a : Int) * 256) ||| BitVec.ofInt 64 (b : Int)).toNat : Int) = _
  have e : (a : Int) * 256 = ((a * 256 : Nat) : Int) := by omega
  rw [e, BitVec.toNat_or]
  have h1 : (BitVec.ofInt 64 ((a * 256 : Nat) : Int)).toNat = a * 256 := by
    rw [BitVec.ofInt_natCast, BitVec.toNat_ofNat]; exact Nat.mod_eq_of_lt (by omega)
  have h2 : (BitVec.ofInt 64 (b : Int)).toNat = b := by
    rw [BitVec.ofInt_natCast, BitVec.toNat_ofNat]; exact Nat.mod_eq_of_lt (by omega)
  rw [h1, h2]
  have := Nat.two_pow_add_eq_or_of_lt (i := 8) (b := b) (by omega) a
  rw [show a * 256 = 2 ^ 8 * a by omega, ← this]
  rw [IntKind.wrap_i64]
  omega

theorem w64 (x : Int) (h0 : 0 ≤ x) (h1 : x < 1000000000000) : wrap64 x = x := by
  have := IntKind.wrap_i64 x
  unfold IntKind.wrap at this
  simp at this
  unfold wrap64
  omega
theorem or8w (a b : Nat) (ha : a < 256) (hb : b < 256) : bits .or .i64 (wrap64 (wrap64 (a : Int) * 256)) (wrap64 (b : Int)) = ((a * 256 + b : Nat) : Int) := by
  rw [w64 (a : Int) (by omega) (by omega), w64 ((a : Int) * 256) (by omega) (by omega), w64 (b : Int) (by omega) (by omega)]
  exact or8 a b ha hb

/-- What the head tells: how many, and the fault. -/
def told (l : List UInt8) : Nat × Nat :=
  if l.length < 6 then (0, 3) else if Fr.sl (l.take 2) ≠ l.take 6 then (0, 4) else if 2000 < Fr.cnt l then (0, 5) else (Fr.cnt l, 0)


theorem cnt_index (b : ByteArray) (l : List UInt8) (hl : b.data.toList = l.take 2) (z2 : b.size = 2) : Fr.cnt l = b[0].toNat * 256 + b[1].toNat := by
  have e : Fr.cnt l = Fr.cnt (l.take 2) := by
    unfold Fr.cnt
    simp [List.getD]
  have hz : b.data.size = 2 := z2
  rw [e, ← hl]
  unfold Fr.cnt
  simp [List.getD, hz]
  rfl

theorem told_over (s b : ByteArray) (c : Nat) (w : World) (hs : s.size ≤ 1000000) (h6 : 6 ≤ s.size) (d1 : decide ((s.size : Int) < 6) = false) (z2 : b.size = 2) (k : Calls Try.prog 74 #[.string (s.extract 0 6)] w fun e w' => e = .returned (.tuple #[.string b, .bool true]) ∧ Below w.heap.size w w') (ho : bits .or .i64 (wrap64 (wrap64 (b[0].toNat : Int) * 256)) (wrap64 (b[1].toNat : Int)) = (c : Int)) (d3 : decide (2000 < (c : Int)) = true) :
    Calls Try.prog 72 #[.string s] w fun e w' => e = .returned (.tuple #[.int .i64 0, .int .i64 5]) ∧ Below w.heap.size w w' := by
  go_enter Try.func72, Try.ntmps72
  go_wp2_with (go_at_call 74; refine k.mono ?_; rintro e w1 ⟨rfl, hb1⟩)
  clear k
  go_quiet (fail)
  go_wp2
  go_ret2
  exact ⟨rfl, below_drewN hb1 _⟩

theorem told_fits (s b : ByteArray) (c : Nat) (w : World) (hs : s.size ≤ 1000000) (h6 : 6 ≤ s.size) (d1 : decide ((s.size : Int) < 6) = false) (z2 : b.size = 2) (k : Calls Try.prog 74 #[.string (s.extract 0 6)] w fun e w' => e = .returned (.tuple #[.string b, .bool true]) ∧ Below w.heap.size w w') (ho : bits .or .i64 (wrap64 (wrap64 (b[0].toNat : Int) * 256)) (wrap64 (b[1].toNat : Int)) = (c : Int)) (d3 : decide (2000 < (c : Int)) = false) :
    Calls Try.prog 72 #[.string s] w fun e w' => e = .returned (.tuple #[.int .i64 (c : Int), .int .i64 0]) ∧ Below w.heap.size w w' := by
  go_enter Try.func72, Try.ntmps72
  go_wp2_with (go_at_call 74; refine k.mono ?_; rintro e w1 ⟨rfl, hb1⟩)
  clear k
  go_quiet (fail)
  go_wp2
  go_ret2
  exact ⟨rfl, below_drewN hb1 _⟩

theorem told_rot (s b : ByteArray) (w : World) (hs : s.size ≤ 1000000) (h6 : 6 ≤ s.size) (d1 : decide ((s.size : Int) < 6) = false) (k : Calls Try.prog 74 #[.string (s.extract 0 6)] w fun e w' => e = .returned (.tuple #[.string b, .bool false]) ∧ Below w.heap.size w w') :
    Calls Try.prog 72 #[.string s] w fun e w' => e = .returned (.tuple #[.int .i64 0, .int .i64 4]) ∧ Below w.heap.size w w' := by
  go_enter Try.func72, Try.ntmps72
  go_wp2_with (go_at_call 74; refine k.mono ?_; rintro e w1 ⟨rfl, hb1⟩)
  clear k
  go_wp2
  go_ret2
  exact ⟨rfl, hb1⟩

theorem told_any (s : ByteArray) (w : World) (hs : s.size ≤ 1000000) :
    Calls Try.prog 72 #[.string s] w fun e w' => e = .returned (.tuple #[.int .i64 ((told s.data.toList).1 : Nat), .int .i64 ((told s.data.toList).2 : Nat)]) ∧ Below w.heap.size w w' := by
  unfold told
  rw [list_len]
  by_cases h6 : s.size < 6
  · have d1 : decide ((s.size : Int) < 6) = true := by simp; omega
    rw [if_pos h6]
    go_enter Try.func72, Try.ntmps72
    go_wp2
    go_ret2
    exact ⟨rfl, Below.refl _ _⟩
  · have d1 : decide ((s.size : Int) < 6) = false := by simp; omega
    rw [if_neg h6]
    have z6 : (s.extract 0 6).size = 6 := by simp; omega
    have k := open_list (s.extract 0 6) w (by omega) (by omega)
    have l6 : (s.extract 0 6).data.toList = s.data.toList.take 6 := by rw [list_cut]; simp
    have l2 : ((s.extract 0 6).extract 0 2).data.toList = s.data.toList.take 2 := by
      rw [list_cut, l6]
      simp [List.take_take]
    rw [z6, l6, show 6 - 4 = 2 by rfl, List.take_take, show min 2 6 = 2 by rfl] at k
    by_cases hs2 : Fr.sl (s.data.toList.take 2) = s.data.toList.take 6
    · rw [if_pos hs2, decide_eq_true hs2] at k
      rw [if_neg (by simpa using hs2)]
      have z2 : ((s.extract 0 6).extract 0 2).size = 2 := by simp; omega
      have ec := cnt_index _ _ l2 z2
      have ho := or8w ((s.extract 0 6).extract 0 2)[0].toNat ((s.extract 0 6).extract 0 2)[1].toNat (UInt8.toNat_lt _) (UInt8.toNat_lt _)
      rw [← ec] at ho
      by_cases hc : 2000 < Fr.cnt s.data.toList
      · rw [if_pos hc]
        exact told_over s _ _ w hs (by omega) d1 z2 k ho (by simp; omega)
      · rw [if_neg hc]
        exact told_fits s _ _ w hs (by omega) d1 z2 k ho (by simp; omega)
    · rw [if_neg hs2, decide_eq_false hs2] at k
      rw [if_pos hs2]
      exact told_rot s _ w hs (by omega) d1 k
end Go.Proofs.Ytnmamaeoghgegaa.Fm
