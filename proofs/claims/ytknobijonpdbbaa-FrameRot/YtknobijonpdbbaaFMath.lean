/-
  Plain mathematics: check sums (their state's step is one to one and goes over xor), frames, what is read of a frame, of many, of those that are cut, of those of which one byte is turned. No condition beside those written at each theorem.
-/
import GoSem.Op.String
namespace Go.Proofs.Ytknobijonpdbbaa
namespace Cr

/-- One bit out of the state. -/
def g (x : Nat) : Nat := if x % 2 = 1 then (x / 2) ^^^ 3988292384 else x / 2

/-- So many bits out of it. -/
def gn : Nat → Nat → Nat
  | 0, x => x
  | n + 1, x => gn n (g x)

/-- The state behind so many bytes. -/
def st (x : Nat) (l : List UInt8) : Nat := l.foldl (fun y b => gn 8 (y ^^^ b.toNat)) x

/-- The sum. -/
def sum (l : List UInt8) : Nat := 4294967295 - st 4294967295 l

theorem xor_mod_two (x y : Nat) : (x ^^^ y) % 2 = (x % 2 ^^^ y % 2) := by
  have := Nat.xor_mod_two_pow (a := x) (b := y) (n := 1)
  simpa using this

theorem xor_half (x y : Nat) : (x ^^^ y) / 2 = (x / 2 ^^^ y / 2) := by
  have := Nat.xor_div_two_pow (a := x) (b := y) (n := 1)
  simpa using this

theorem bit_cases (x : Nat) : x % 2 = 0 ∨ x % 2 = 1 := by omega

theorem xor_lt {x y : Nat} (hx : x < 4294967296) (hy : y < 4294967296) : x ^^^ y < 4294967296 := Nat.xor_lt_two_pow (n := 32) hx hy

theorem g_lt {x : Nat} (h : x < 4294967296) : g x < 4294967296 := by
  unfold g
  split
  · exact xor_lt (by omega) (by decide)
  · omega

theorem gn_lt : ∀ (n : Nat) {x : Nat}, x < 4294967296 → gn n x < 4294967296
  | 0, _, h => h
  | n + 1, _, h => gn_lt n (g_lt h)

theorem g_xor (x y : Nat) : g (x ^^^ y) = (g x ^^^ g y) := by
  unfold g
  rw [xor_mod_two, xor_half]
  rcases bit_cases x with hx | hx <;> rcases bit_cases y with hy | hy <;> simp only [hx, hy]
  · simp
  · simp [Nat.xor_assoc]
  · simp
    rw [Nat.xor_assoc, Nat.xor_comm (y / 2), ← Nat.xor_assoc]
  · simp
    rw [Nat.xor_comm (y / 2) 3988292384, ← Nat.xor_assoc, Nat.xor_assoc (x / 2), Nat.xor_self, Nat.xor_zero]

theorem gn_xor : ∀ (n x y : Nat), gn n (x ^^^ y) = (gn n x ^^^ gn n y)
  | 0, _, _ => rfl
  | n + 1, x, y => by
    show gn n (g (x ^^^ y)) = (gn n (g x) ^^^ gn n (g y))
    rw [g_xor, gn_xor n]

theorem gn_add : ∀ (m n x : Nat), gn (m + n) x = gn n (gn m x)
  | 0, n, x => by rw [Nat.zero_add]; rfl
  | m + 1, n, x => by
    rw [Nat.add_right_comm]
    exact gn_add m n (g x)

theorem gn_succ (n x : Nat) : gn (n + 1) x = g (gn n x) := by rw [gn_add]; rfl

theorem gn_zero : ∀ n : Nat, gn n 0 = 0
  | 0 => rfl
  | n + 1 => gn_zero n

theorem g_ne {x : Nat} (h : x < 4294967296) (h0 : x ≠ 0) : g x ≠ 0 := by
  unfold g
  split
  · intro he
    have h1 : x / 2 = 3988292384 := by
      have := congrArg (fun y => y ^^^ 3988292384) he
      simpa [Nat.xor_assoc] using this
    omega
  · omega

theorem gn_ne : ∀ (n : Nat) {x : Nat}, x < 4294967296 → x ≠ 0 → gn n x ≠ 0
  | 0, _, _, h0 => h0
  | n + 1, _, h, h0 => gn_ne n (g_lt h) (g_ne h h0)

theorem g_two (x : Nat) : g (2 * x) = x := by
  unfold g
  rw [if_neg (by omega)]
  omega

theorem gn_pow : ∀ k : Nat, gn k (2 ^ k) = 1
  | 0 => rfl
  | k + 1 => by
    show gn k (g (2 ^ (k + 1))) = 1
    rw [Nat.pow_succ, Nat.mul_comm, g_two, gn_pow k]

theorem gn_pow_le (k n : Nat) (h : k ≤ n) : gn n (2 ^ k) = gn (n - k) 1 := by
  obtain ⟨m, rfl⟩ := Nat.exists_eq_add_of_le h
  rw [gn_add, gn_pow, Nat.add_sub_cancel_left]

theorem st_append (x : Nat) (a b : List UInt8) : st x (a ++ b) = st (st x a) b := by
  unfold st
  rw [List.foldl_append]

theorem st_cons (x : Nat) (b : UInt8) (l : List UInt8) : st x (b :: l) = st (gn 8 (x ^^^ b.toNat)) l := rfl

theorem st_snoc (x : Nat) (a : List UInt8) (b : UInt8) : st x (a ++ [b]) = gn 8 (st x a ^^^ b.toNat) := by
  rw [st_append]
  rfl

theorem byte_lt (b : UInt8) : b.toNat < 4294967296 := by
  have := b.toNat_lt
  omega

theorem st_lt : ∀ (l : List UInt8) {x : Nat}, x < 4294967296 → st x l < 4294967296
  | [], _, h => h
  | b :: l, _, h => st_lt l (gn_lt 8 (xor_lt h (byte_lt b)))

theorem st_xor : ∀ (l : List UInt8) (x d : Nat), st (x ^^^ d) l = (st x l ^^^ gn (8 * l.length) d)
  | [], _, _ => rfl
  | b :: l, x, d => by
    rw [st_cons, st_cons]
    rw [show x ^^^ d ^^^ b.toNat = ((x ^^^ b.toNat) ^^^ d) by rw [Nat.xor_assoc, Nat.xor_comm d, ← Nat.xor_assoc]]
    rw [gn_xor, st_xor l]
    rw [← gn_add]
    rw [List.length_cons, show 8 + 8 * l.length = 8 * (l.length + 1) by omega]

/-- What one turned bit does. -/
theorem st_flip (l : List UInt8) (x i : Nat) (h : i < 8 * l.length) (b c : UInt8) (hb : l[i / 8]? = some b) (hc : c.toNat = b.toNat ^^^ 2 ^ (i % 8)) :
    st x (l.set (i / 8) c) = (st x l ^^^ gn (8 * l.length - i) 1) := by
  have hi : i / 8 < l.length := by omega
  have hb' : l[i / 8] = b := by
    rw [List.getElem?_eq_getElem hi] at hb
    exact Option.some.inj hb
  have e1 : l = l.take (i / 8) ++ b :: l.drop (i / 8 + 1) := by
    rw [← hb', List.getElem_cons_drop, List.take_append_drop]
  have e2 : l.set (i / 8) c = l.take (i / 8) ++ c :: l.drop (i / 8 + 1) := List.set_eq_take_append_cons_drop.trans (if_pos hi)
  rw [e2]
  conv => rhs; rw [e1]
  rw [st_append, st_append, st_cons, st_cons, hc, ← Nat.xor_assoc, gn_xor, st_xor]
  congr 1
  · rw [gn_pow_le (i % 8) 8 (by omega), ← gn_add]
    congr 1
    simp
    omega

theorem sum_lt (l : List UInt8) : sum l < 4294967296 := by
  unfold sum
  omega

/-- Two sums are the same just if the end states are. -/
theorem sum_eq_iff (a b : List UInt8) : sum a = sum b ↔ st 4294967295 a = st 4294967295 b := by
  have ha := st_lt a (x := 4294967295) (by omega)
  have hb := st_lt b (x := 4294967295) (by omega)
  unfold sum
  omega

/-- A text whose end state differs by what a number below 2 ^ 32 makes: another sum, just if the number isn't 0. -/
theorem sum_turned (a b : List UInt8) (n d : Nat) (hd : d < 4294967296) (h : st 4294967295 b = (st 4294967295 a ^^^ gn n d)) : (sum b ≠ sum a) ↔ d ≠ 0 := by
  rw [ne_eq, sum_eq_iff, h]
  constructor
  · rintro h1 rfl
    exact h1 (by rw [gn_zero, Nat.xor_zero])
  · intro h0 h1
    refine gn_ne n hd h0 ?_
    have h2 := congrArg (fun y => st 4294967295 a ^^^ y) h1
    simpa [← Nat.xor_assoc] using h2

/-- One bit out of the state, the text's bit held against it. -/
def rb (x b : Nat) : Nat := if (b % 2 ^^^ x % 2) = 1 then (x / 2) ^^^ 3988292384 else x / 2

theorem rb_step (x b : Nat) : g (x ^^^ b) = (rb x b ^^^ b / 2) := by
  unfold g rb
  rw [xor_mod_two, xor_half, Nat.xor_comm (b % 2)]
  split
  · rw [Nat.xor_assoc, Nat.xor_comm (b / 2), ← Nat.xor_assoc]
  · rfl

theorem rb_lt {x : Nat} (b : Nat) (h : x < 4294967296) : rb x b < 4294967296 := by
  unfold rb
  split
  · exact xor_lt (by omega) (by decide)
  · omega
end Cr
namespace Fr
abbrev B := List UInt8
def sb4 (x : Nat) : B := [UInt8.ofNat (x / 16777216), UInt8.ofNat (x / 65536), UInt8.ofNat (x / 256), UInt8.ofNat x]
def four (l : B) : B := sb4 (Cr.sum l)
/-- With its sum behind it. -/
def sl (l : B) : B := l ++ four l
def two (n : Nat) : B := [UInt8.ofNat (n / 256), UInt8.ofNat n]
/-- A frame. -/
def mk (s : B) : B := sl (two s.length) ++ sl s
def cnt (l : B) : Nat := (l.getD 0 0).toNat * 256 + (l.getD 1 0).toNat
/-- What is read at the beginning: the content, how many bytes, the fault. -/
def first (l : B) : B × Nat × Nat :=
  if l.length < 6 then ([], 0, 3)
  else if sl (l.take 2) ≠ l.take 6 then ([], 0, 4)
  else if 2000 < cnt l then ([], 0, 5)
  else if l.length < cnt l + 10 then ([], 0, 3)
  else if sl ((l.drop 6).take (cnt l)) ≠ (l.drop 6).take (cnt l + 4) then ([], 0, 4)
  else ((l.drop 6).take (cnt l), cnt l + 10, 0)

theorem sb4_inj {x y : Nat} (hx : x < 4294967296) (hy : y < 4294967296) (h : sb4 x = sb4 y) : x = y := by
  unfold sb4 at h
  simp only [List.cons.injEq, and_true] at h
  obtain ⟨h0, h1, h2, h3⟩ := h
  have e0 := congrArg UInt8.toNat h0
  have e1 := congrArg UInt8.toNat h1
  have e2 := congrArg UInt8.toNat h2
  have e3 := congrArg UInt8.toNat h3
  simp only [UInt8.toNat_ofNat'] at e0 e1 e2 e3
  omega
theorem four_len (l : B) : (four l).length = 4 := rfl
theorem sl_len (l : B) : (sl l).length = l.length + 4 := by simp [sl, four_len]
theorem mk_len (s : B) : (mk s).length = s.length + 10 := by
  simp only [mk, List.length_append, sl_len]
  simp [two]
  omega
theorem sl_take (l : B) : (sl l).take l.length = l := by simp [sl]

theorem first_bad {l : B} (h : (first l).2.2 ≠ 0) : (first l).1 = [] ∧ (first l).2.1 = 0 := by
  unfold first at *
  repeat' split
  all_goals first | exact ⟨rfl, rfl⟩ | (simp_all)
theorem first_ok {l : B} (h : (first l).2.2 = 0) : 10 ≤ (first l).2.1 ∧ (first l).2.1 ≤ l.length ∧ (first l).1.length ≤ 2000 := by
  unfold first at *
  split at h
  · simp at h
  · split at h
    · simp at h
    · split at h
      · simp at h
      · split at h
        · simp at h
        · split at h
          · simp at h
          · rename_i h1 h2 h3 h4 h5
            rw [if_neg h1, if_neg h2, if_neg h3, if_neg h4, if_neg h5]
            refine ⟨by simp, by simp; omega, ?_⟩
            simp
            omega
theorem first_le (l : B) : (first l).2.1 ≤ l.length := by
  by_cases h : (first l).2.2 = 0
  · exact (first_ok h).2.1
  · rw [(first_bad h).2]; omega
theorem first_e (l : B) : (first l).2.2 ≤ 5 := by
  unfold first
  repeat' split
  all_goals simp

theorem cnt_two (n : Nat) (r : B) (h : n < 65536) : cnt (two n ++ r) = n := by
  simp [cnt, two]
  omega

/-- What is read of a head that is right. -/
theorem first_head (n : Nat) (r : B) (hn : n ≤ 2000) : first (sl (two n) ++ r) = if r.length < n + 4 then ([], 0, 3) else if sl (r.take n) ≠ r.take (n + 4) then ([], 0, 4) else (r.take n, n + 10, 0) := by
  have e6 : (sl (two n)).length = 6 := by rw [sl_len]; rfl
  have t6 : (sl (two n) ++ r).take 6 = sl (two n) := by rw [← e6]; simp
  have d6 : (sl (two n) ++ r).drop 6 = r := by rw [← e6]; simp
  have t2 : (sl (two n) ++ r).take 2 = two n := by
    unfold sl
    rw [List.append_assoc]
    have : (two n).length = 2 := rfl
    rw [← this, List.take_left]
  have ec : cnt (sl (two n) ++ r) = n := by
    unfold sl
    rw [List.append_assoc]
    exact cnt_two n _ (by omega)
  unfold first
  rw [t2, t6, d6, ec, List.length_append, e6, if_neg (by omega), if_neg (by simp), if_neg (by omega)]
  by_cases h : r.length < n + 4
  · rw [if_pos (by omega), if_pos h]
  · rw [if_neg (by omega), if_neg h]

theorem first_mk (s r : B) (hs : s.length ≤ 2000) : first (mk s ++ r) = (s, s.length + 10, 0) := by
  unfold mk
  rw [List.append_assoc, first_head _ _ hs]
  have h1 : (sl s ++ r).take s.length = s := by
    unfold sl
    rw [List.append_assoc]
    simp
  have h2 : (sl s ++ r).take (s.length + 4) = sl s := by
    rw [← sl_len]; simp
  rw [if_neg (by rw [List.length_append, sl_len]; omega), h1, h2, if_neg (by simp)]

/-- A frame that is cut. -/
theorem first_cut (s : B) (j : Nat) (hs : s.length ≤ 2000) (hj : j < s.length + 10) : first ((mk s).take j) = ([], 0, 3) := by
  by_cases h : j < 6
  · unfold first
    rw [if_pos (by rw [List.length_take]; omega)]
  · have e : (mk s).take j = sl (two s.length) ++ (sl s).take (j - 6) := by
      unfold mk
      rw [List.take_append]
      have : (sl (two s.length)).length = 6 := by rw [sl_len]; rfl
      rw [this, List.take_of_length_le (by omega)]
    rw [e, first_head _ _ hs, if_pos (by rw [List.length_take, sl_len]; omega)]

/-! one byte that is turned -/
theorem st_inj (l : B) {x y : Nat} (hx : x < 4294967296) (hy : y < 4294967296) (h : Cr.st x l = Cr.st y l) : x = y := by
  have e : Cr.st (x ^^^ (x ^^^ y)) l = (Cr.st x l ^^^ Cr.gn (8 * l.length) (x ^^^ y)) := Cr.st_xor l x _
  rw [← Nat.xor_assoc, Nat.xor_self, Nat.zero_xor, ← h] at e
  by_cases hd : x ^^^ y = 0
  · have := congrArg (fun z => z ^^^ y) hd
    simpa [Nat.xor_assoc] using this
  · exfalso
    have h1 := Cr.gn_ne (8 * l.length) (Cr.xor_lt hx hy) hd
    apply h1
    have := congrArg (fun z => Cr.st x l ^^^ z) e
    rw [← Nat.xor_assoc, Nat.xor_self, Nat.zero_xor] at this
    exact this.symm
theorem gn_inj (n : Nat) {x y : Nat} (hx : x < 4294967296) (hy : y < 4294967296) (h : Cr.gn n x = Cr.gn n y) : x = y := by
  have e := Cr.gn_xor n x y
  rw [h, Nat.xor_self] at e
  by_cases hd : x ^^^ y = 0
  · have := congrArg (fun z => z ^^^ y) hd
    simpa [Nat.xor_assoc] using this
  · exact absurd e (Cr.gn_ne n (Cr.xor_lt hx hy) hd)
theorem sum_set (l : B) (i : Nat) (c : UInt8) (hi : i < l.length) (hc : l[i] ≠ c) : Cr.sum (l.set i c) ≠ Cr.sum l := by
  intro h
  have e1 : l = l.take i ++ l[i] :: l.drop (i + 1) := by rw [List.getElem_cons_drop, List.take_append_drop]
  have e2 : l.set i c = l.take i ++ c :: l.drop (i + 1) := List.set_eq_take_append_cons_drop.trans (if_pos hi)
  have hst : Cr.st 4294967295 (l.set i c) = Cr.st 4294967295 l := by
    unfold Cr.sum at h
    have h1 := Cr.st_lt (l.set i c) (x := 4294967295) (by decide)
    have h2 := Cr.st_lt l (x := 4294967295) (by decide)
    omega
  have ha := Cr.st_lt (l.take i) (x := 4294967295) (by decide)
  rw [e2] at hst
  conv at hst => rhs; rw [e1]
  rw [Cr.st_append, Cr.st_append, Cr.st_cons, Cr.st_cons] at hst
  have h3 := st_inj _ (Cr.gn_lt 8 (Cr.xor_lt ha (Cr.byte_lt c))) (Cr.gn_lt 8 (Cr.xor_lt ha (Cr.byte_lt l[i]))) hst
  have h4 := gn_inj 8 (Cr.xor_lt ha (Cr.byte_lt c)) (Cr.xor_lt ha (Cr.byte_lt l[i])) h3
  have h5 := congrArg (fun z => Cr.st 4294967295 (l.take i) ^^^ z) h4
  simp only [← Nat.xor_assoc, Nat.xor_self, Nat.zero_xor] at h5
  exact hc (UInt8.toNat_inj.1 h5.symm)

/-- What is sealed, with one byte turned. -/
theorem sl_set (t : B) (i : Nat) (c : UInt8) (hi : i < (sl t).length) (hc : (sl t)[i]? ≠ some c) : sl (((sl t).set i c).take t.length) ≠ (sl t).set i c := by
  intro h
  by_cases hl : i < t.length
  · have e1 : (sl t).set i c = t.set i c ++ four t := by
      unfold sl
      rw [List.set_append_left _ _ hl]
    have e2 : ((sl t).set i c).take t.length = t.set i c := by
      rw [e1]
      have : (t.set i c).length = t.length := by simp
      rw [← this, List.take_left]
    rw [e2, e1] at h
    unfold sl at h
    have h2 := List.append_cancel_left h
    have h3 := sb4_inj (Cr.sum_lt _) (Cr.sum_lt _) h2
    refine sum_set t i c hl ?_ h3
    intro e
    apply hc
    unfold sl
    rw [List.getElem?_append_left hl, List.getElem?_eq_getElem hl, e]
  · have e1 : (sl t).set i c = t ++ (four t).set (i - t.length) c := by
      unfold sl
      rw [List.set_append_right _ _ (by omega)]
    have e2 : ((sl t).set i c).take t.length = t := by rw [e1, List.take_left]
    rw [e2] at h
    have := congrArg (fun z => z[i]?) h
    simp only [List.getElem?_set_self hi] at this
    exact hc this

theorem first_rot (s r : B) (j : Nat) (c : UInt8) (hs : s.length ≤ 2000) (hj : j < (mk s).length) (hc : (mk s)[j]? ≠ some c) : first ((mk s).set j c ++ r) = ([], 0, 4) := by
  have e6 : (sl (two s.length)).length = 6 := by rw [sl_len]; rfl
  have hj2 := hj
  rw [mk_len] at hj2
  by_cases h : j < 6
  · have e : (mk s).set j c ++ r = (sl (two s.length)).set j c ++ (sl s ++ r) := by
      unfold mk
      rw [List.set_append_left _ _ (by omega), List.append_assoc]
    have el : ((sl (two s.length)).set j c).length = 6 := by rw [List.length_set, e6]
    have t6 : ((sl (two s.length)).set j c ++ (sl s ++ r)).take 6 = (sl (two s.length)).set j c := by rw [← el, List.take_left]
    have t2 : ((sl (two s.length)).set j c ++ (sl s ++ r)).take 2 = ((sl (two s.length)).set j c).take 2 := by
      rw [List.take_append_of_le_length (by omega)]
    have hne := sl_set (two s.length) j c (by omega) (fun e => hc (by rw [← e]; unfold mk; rw [List.getElem?_append_left (by omega)]))
    rw [e]
    unfold first
    rw [t2, t6, if_neg (by rw [List.length_append, el]; omega)]
    exact if_pos hne
  · have e : (mk s).set j c ++ r = sl (two s.length) ++ ((sl s).set (j - 6) c ++ r) := by
      unfold mk
      rw [List.set_append_right _ _ (by omega), e6, List.append_assoc]
    have el : ((sl s).set (j - 6) c).length = s.length + 4 := by rw [List.length_set, sl_len]
    rw [e, first_head _ _ hs, if_neg (by rw [List.length_append, el]; omega)]
    have t1 : ((sl s).set (j - 6) c ++ r).take (s.length + 4) = (sl s).set (j - 6) c := by rw [← el, List.take_left]
    have t2 : ((sl s).set (j - 6) c ++ r).take s.length = ((sl s).set (j - 6) c).take s.length := by rw [List.take_append_of_le_length (by omega)]
    rw [t1, t2]
    refine if_pos (sl_set s (j - 6) c (by rw [sl_len]; omega) fun e => hc ?_)
    rw [← e]
    unfold mk
    rw [List.getElem?_append_right (by omega), e6]

/-! many frames -/
def sp : Nat → B → List B → Nat → List B × Nat × Nat
  | 0, _, acc, pos => (acc, pos, 0)
  | f + 1, l, acc, pos => if l = [] then (acc, pos, 0) else if (first l).2.2 ≠ 0 then (acc, pos, (first l).2.2) else sp f (l.drop (first l).2.1) (acc ++ [(first l).1]) (pos + (first l).2.1)
theorem sp_fuel : ∀ (f g : Nat) (l : B) (acc : List B) (pos : Nat), l.length < f → l.length < g → sp f l acc pos = sp g l acc pos
  | 0, _, _, _, _, h, _ => absurd h (Nat.not_lt_zero _)
  | _ + 1, 0, _, _, _, _, h => absurd h (Nat.not_lt_zero _)
  | f + 1, g + 1, l, acc, pos, h, h' => by
    simp only [sp]
    split
    · rfl
    · split
      · rfl
      · rename_i h1 h2
        have := first_ok (l := l) (by simpa using h2)
        exact sp_fuel f g _ _ _ (by rw [List.length_drop]; omega) (by rw [List.length_drop]; omega)
def spx (l : B) (acc : List B) (pos : Nat) := sp (l.length + 1) l acc pos
theorem spx_nil (acc : List B) (pos : Nat) : spx [] acc pos = (acc, pos, 0) := by simp [spx, sp]
theorem spx_bad {l : B} (acc : List B) (pos : Nat) (hl : l ≠ []) (h : (first l).2.2 ≠ 0) : spx l acc pos = (acc, pos, (first l).2.2) := by
  unfold spx
  rw [sp, if_neg hl, if_pos h]
theorem spx_ok {l : B} (acc : List B) (pos : Nat) (hl : l ≠ []) (h : (first l).2.2 = 0) : spx l acc pos = spx (l.drop (first l).2.1) (acc ++ [(first l).1]) (pos + (first l).2.1) := by
  unfold spx
  rw [sp, if_neg hl, if_neg (by simpa using h)]
  have := first_ok h
  exact sp_fuel _ _ _ _ _ (by rw [List.length_drop]; omega) (by rw [List.length_drop]; omega)
theorem spx_pos {l : B} {acc : List B} {pos : Nat} : (spx l acc pos).2.1 ≤ pos + l.length := by
  generalize hn : l.length = n
  induction n using Nat.strongRecOn generalizing l acc pos with
  | _ n ih =>
    by_cases hl : l = []
    · subst hl; rw [spx_nil]; simp
    · by_cases h : (first l).2.2 = 0
      · rw [spx_ok acc pos hl h]
        have h1 := first_ok h
        have := ih (l.drop (first l).2.1).length (by rw [List.length_drop]; omega) (l := l.drop (first l).2.1) (acc := acc ++ [(first l).1]) (pos := pos + (first l).2.1) rfl
        rw [List.length_drop] at this
        omega
      · rw [spx_bad acc pos hl h]; simp

/-- Frames, one behind the other. -/
def mks : List B → B
  | [] => []
  | s :: l => mk s ++ mks l
theorem mks_app : ∀ a b : List B, mks (a ++ b) = mks a ++ mks b
  | [], b => rfl
  | s :: a, b => by simp [mks, mks_app a b]
theorem mks_one (s : B) : mks [s] = mk s := by simp [mks]
theorem mk_ne (s : B) : mk s ≠ [] := by
  intro h
  have := congrArg List.length h
  rw [mk_len] at this
  simp at this
theorem spx_mks : ∀ (l : List B) (r : B) (acc : List B) (pos : Nat), (∀ s ∈ l, s.length ≤ 2000) → spx (mks l ++ r) acc pos = spx r (acc ++ l) (pos + (mks l).length)
  | [], r, acc, pos, _ => by simp [mks]
  | s :: l, r, acc, pos, h => by
    have hs := h s (by simp)
    have ef : first (mks (s :: l) ++ r) = (s, s.length + 10, 0) := by
      simp only [mks, List.append_assoc]
      exact first_mk s _ hs
    rw [spx_ok acc pos (by simp [mks, mk_ne]) (by rw [ef]), ef]
    have ed : (mks (s :: l) ++ r).drop (s.length + 10) = mks l ++ r := by
      simp only [mks, List.append_assoc]
      rw [← mk_len, List.drop_left]
    simp only [ed]
    rw [spx_mks l r _ _ (fun x hx => h x (by simp [hx]))]
    simp [mks, mk_len, Nat.add_assoc]
theorem split_mks (l : List B) (h : ∀ s ∈ l, s.length ≤ 2000) : spx (mks l) [] 0 = (l, (mks l).length, 0) := by
  have := spx_mks l [] [] 0 h
  rw [List.append_nil] at this
  rw [this, spx_nil]
  simp

/-- Where the first k frames end. -/
def en (l : List B) (k : Nat) : Nat := (mks (l.take k)).length
theorem en_zero (l : List B) : en l 0 = 0 := rfl
theorem en_succ (l : List B) (k : Nat) (h : k < l.length) : en l (k + 1) = en l k + l[k].length + 10 := by
  unfold en
  rw [List.take_succ_eq_append_getElem h, mks_app, mks_one, List.length_append, mk_len]
  omega
theorem en_all (l : List B) : en l l.length = (mks l).length := by unfold en; rw [List.take_length]
theorem mks_split (l : List B) (k : Nat) (h : k < l.length) : mks l = mks (l.take k) ++ (mk l[k] ++ mks (l.drop (k + 1))) := by
  conv => lhs; rw [← List.take_append_drop k l, List.drop_eq_getElem_cons h]
  rw [mks_app]
  rfl

theorem split_cut (l : List B) (h : ∀ s ∈ l, s.length ≤ 2000) (left k : Nat) (hk : k ≤ l.length) (h1 : en l k ≤ left) (h2 : ∀ _ : k < l.length, left < en l (k + 1)) (hle : left ≤ (mks l).length) :
    spx ((mks l).take left) [] 0 = (l.take k, en l k, if en l k = left then 0 else 3) := by
  have hm : ∀ s ∈ l.take k, s.length ≤ 2000 := fun s hs => h s (List.mem_of_mem_take hs)
  by_cases hlt : k < l.length
  · have h3 := h2 hlt
    rw [en_succ l k hlt] at h3
    have e : (mks l).take left = mks (l.take k) ++ (mk l[k]).take (left - en l k) := by
      rw [mks_split l k hlt, List.take_append]
      rw [List.take_of_length_le (by exact h1)]
      congr 1
      rw [List.take_append_of_le_length (by rw [mk_len]; exact Nat.sub_le_of_le_add (by unfold en at *; omega))]
      rfl
    rw [e, spx_mks _ _ _ _ hm]
    simp only [List.nil_append, Nat.zero_add]
    by_cases hz : en l k = left
    · rw [if_pos hz, hz, Nat.sub_self, List.take_zero, spx_nil]
      show (_, en l k, _) = _
      rw [hz]
    · rw [if_neg hz]
      have hf := first_cut l[k] (left - en l k) (h _ (List.getElem_mem hlt)) (by omega)
      rw [spx_bad _ _ _ (by rw [hf]; decide), hf]
      · rfl
      · intro e
        have := congrArg List.length e
        rw [List.length_take, mk_len] at this
        simp at this
        omega
  · obtain rfl : k = l.length := by omega
    rw [en_all] at h1
    obtain rfl : left = (mks l).length := by omega
    rw [en_all, List.take_length, List.take_length, split_mks l h, if_pos rfl]

theorem split_rot (l : List B) (h : ∀ s ∈ l, s.length ≤ 2000) (i k : Nat) (c : UInt8) (hk : k < l.length) (h1 : en l k ≤ i) (h2 : i < en l (k + 1)) (hc : (mks l)[i]? ≠ some c) :
    spx ((mks l).set i c) [] 0 = (l.take k, en l k, 4) := by
  have hm : ∀ s ∈ l.take k, s.length ≤ 2000 := fun s hs => h s (List.mem_of_mem_take hs)
  rw [en_succ l k hk] at h2
  have e : (mks l).set i c = mks (l.take k) ++ ((mk l[k]).set (i - en l k) c ++ mks (l.drop (k + 1))) := by
    rw [mks_split l k hk, List.set_append_right _ _ h1, List.set_append_left _ _ (by rw [mk_len]; unfold en at *; omega)]
    rfl
  have hj : i - en l k < (mk l[k]).length := by rw [mk_len]; omega
  have hg : (mk l[k])[i - en l k]? ≠ some c := by
    intro e
    apply hc
    rw [mks_split l k hk, List.getElem?_append_right h1, List.getElem?_append_left (by exact hj)]
    exact e
  have hf := first_rot l[k] (mks (l.drop (k + 1))) (i - en l k) c (h _ (List.getElem_mem hk)) hj hg
  rw [e, spx_mks _ _ _ _ hm, spx_bad _ _ _ (by rw [hf]; decide), hf]
  · simp only [List.nil_append, Nat.zero_add]
    rfl
  · intro e
    have := congrArg List.length e
    rw [List.length_append, List.length_set, mk_len] at this
    simp at this
end Fr
end Go.Proofs.Ytknobijonpdbbaa
