/-
  Plain mathematics of the check sum: a step of the state is one to one and goes over xor, so that what differs stays so; a bit that is turned turns the end state by a number of its own. No condition beside those written at each theorem.
-/
import GoSem.Op.String
namespace Go.Proofs.Ytojcocbfgfgklaa.Cr

/-- One bit out of the state. -/
def g (x : Nat) : Nat := if x % 2 = 1 then (x / 2) ^^^ 3988292384 else x / 2

/-- So many bits out of it. -/
def gn : Nat → Nat → Nat
  | 0, x => x
  | n + 1, x => gn n (g x)

/-- The state behind so many bytes. -/
def st (x : Nat) (l : List UInt8) : Nat := l.foldl (fun y b => gn 8 (y ^^^ b.toNat)) x

/-- The sum. -/
def sum (l : List UInt8) : Nat := 4294967295 - st 4294967295 l

theorem xor_mod_two (x y : Nat) : (x ^^^ y) % 2 = (x % 2 ^^^ y % 2) := by
  have := Nat.xor_mod_two_pow (a := x) (b := y) (n := 1)
  simpa using this

theorem xor_half (x y : Nat) : (x ^^^ y) / 2 = (x / 2 ^^^ y / 2) := by
  have := Nat.xor_div_two_pow (a := x) (b := y) (n := 1)
  simpa using this

theorem bit_cases (x : Nat) : x % 2 = 0 ∨ x % 2 = 1 := by omega

theorem xor_lt {x y : Nat} (hx : x < 4294967296) (hy : y < 4294967296) : x ^^^ y < 4294967296 := Nat.xor_lt_two_pow (n := 32) hx hy

theorem g_lt {x : Nat} (h : x < 4294967296) : g x < 4294967296 := by
  unfold g
  split
  · exact xor_lt (by omega) (by decide)
  · omega

theorem gn_lt : ∀ (n : Nat) {x : Nat}, x < 4294967296 → gn n x < 4294967296
  | 0, _, h => h
  | n + 1, _, h => gn_lt n (g_lt h)

theorem g_xor (x y : Nat) : g (x ^^^ y) = (g x ^^^ g y) := by
  unfold g
  rw [xor_mod_two, xor_half]
  rcases bit_cases x with hx | hx <;> rcases bit_cases y with hy | hy <;> simp only [hx, hy]
  · simp
  · simp [Nat.xor_assoc]
  · simp
    rw [Nat.xor_assoc, Nat.xor_comm (y / 2), ← Nat.xor_assoc]
  · simp
    rw [Nat.xor_comm (y / 2) 3988292384, ← Nat.xor_assoc, Nat.xor_assoc (x / 2), Nat.xor_self, Nat.xor_zero]

theorem gn_xor : ∀ (n x y : Nat), gn n (x ^^^ y) = (gn n x ^^^ gn n y)
  | 0, _, _ => rfl
  | n + 1, x, y => by
    show gn n (g (x ^^^ y)) = (gn n (g x) ^^^ gn n (g y))
    rw [g_xor, gn_xor n]

theorem gn_add : ∀ (m n x : Nat), gn (m + n) x = gn n (gn m x)
  | 0, n, x => by rw [Nat.zero_add]; rfl
  | m + 1, n, x => by
    rw [Nat.add_right_comm]
    exact gn_add m n (g x)

theorem gn_succ (n x : Nat) : gn (n + 1) x = g (gn n x) := by rw [gn_add]; rfl

theorem gn_zero : ∀ n : Nat, gn n 0 = 0
  | 0 => rfl
  | n + 1 => gn_zero n

theorem g_ne {x : Nat} (h : x < 4294967296) (h0 : x ≠ 0) : g x ≠ 0 := by
  unfold g
  split
  · intro he
    have h1 : x / 2 = 3988292384 := by
      have := congrArg (fun y => y ^^^ 3988292384) he
      simpa [Nat.xor_assoc] using this
    omega
  · omega

theorem gn_ne : ∀ (n : Nat) {x : Nat}, x < 4294967296 → x ≠ 0 → gn n x ≠ 0
  | 0, _, _, h0 => h0
  | n + 1, _, h, h0 => gn_ne n (g_lt h) (g_ne h h0)

theorem g_two (x : Nat) : g (2 * x) = x := by
  unfold g
  rw [if_neg (by omega)]
  omega

theorem gn_pow : ∀ k : Nat, gn k (2 ^ k) = 1
  | 0 => rfl
  | k + 1 => by
    show gn k (g (2 ^ (k + 1))) = 1
    rw [Nat.pow_succ, Nat.mul_comm, g_two, gn_pow k]

theorem gn_pow_le (k n : Nat) (h : k ≤ n) : gn n (2 ^ k) = gn (n - k) 1 := by
  obtain ⟨m, rfl⟩ := Nat.exists_eq_add_of_le h
  rw [gn_add, gn_pow, Nat.add_sub_cancel_left]

theorem st_append (x : Nat) (a b : List UInt8) : st x (a ++ b) = st (st x a) b := by
  unfold st
  rw [List.foldl_append]

theorem st_cons (x : Nat) (b : UInt8) (l : List UInt8) : st x (b :: l) = st (gn 8 (x ^^^ b.toNat)) l := rfl

theorem st_snoc (x : Nat) (a : List UInt8) (b : UInt8) : st x (a ++ [b]) = gn 8 (st x a ^^^ b.toNat) := by
  rw [st_append]
  rfl

theorem byte_lt (b : UInt8) : b.toNat < 4294967296 := by
  have := b.toNat_lt
  omega

theorem st_lt : ∀ (l : List UInt8) {x : Nat}, x < 4294967296 → st x l < 4294967296
  | [], _, h => h
  | b :: l, _, h => st_lt l (gn_lt 8 (xor_lt h (byte_lt b)))

theorem st_xor : ∀ (l : List UInt8) (x d : Nat), st (x ^^^ d) l = (st x l ^^^ gn (8 * l.length) d)
  | [], _, _ => rfl
  | b :: l, x, d => by
    rw [st_cons, st_cons]
    rw [show x ^^^ d ^^^ b.toNat = ((x ^^^ b.toNat) ^^^ d) by rw [Nat.xor_assoc, Nat.xor_comm d, ← Nat.xor_assoc]]
    rw [gn_xor, st_xor l]
    rw [← gn_add]
    rw [List.length_cons, show 8 + 8 * l.length = 8 * (l.length + 1) by omega]

/-- What one turned bit does. -/
theorem st_flip (l : List UInt8) (x i : Nat) (h : i < 8 * l.length) (b c : UInt8) (hb : l[i / 8]? = some b) (hc : c.toNat = b.toNat ^^^ 2 ^ (i % 8)) :
    st x (l.set (i / 8) c) = (st x l ^^^ gn (8 * l.length - i) 1) := by
  have hi : i / 8 < l.length := by omega
  have hb' : l[i / 8] = b := by
    rw [List.getElem?_eq_getElem hi] at hb
    exact Option.some.inj hb
  have e1 : l = l.take (i / 8) ++ b :: l.drop (i / 8 + 1) := by
    rw [← hb', List.getElem_cons_drop, List.take_append_drop]
  have e2 : l.set (i / 8) c = l.take (i / 8) ++ c :: l.drop (i / 8 + 1) := List.set_eq_take_append_cons_drop.trans (if_pos hi)
  rw [e2]
  conv => rhs; rw [e1]
  rw [st_append, st_append, st_cons, st_cons, hc, ← Nat.xor_assoc, gn_xor, st_xor]
  congr 1
  · rw [gn_pow_le (i % 8) 8 (by omega), ← gn_add]
    congr 1
    simp
    omega

theorem sum_lt (l : List UInt8) : sum l < 4294967296 := by
  unfold sum
  omega

/-- Two sums are the same just if the end states are. -/
theorem sum_eq_iff (a b : List UInt8) : sum a = sum b ↔ st 4294967295 a = st 4294967295 b := by
  have ha := st_lt a (x := 4294967295) (by omega)
  have hb := st_lt b (x := 4294967295) (by omega)
  unfold sum
  omega

/-- A text whose end state differs by what a number below 2 ^ 32 makes: another sum, just if the number isn't 0. -/
theorem sum_turned (a b : List UInt8) (n d : Nat) (hd : d < 4294967296) (h : st 4294967295 b = (st 4294967295 a ^^^ gn n d)) : (sum b ≠ sum a) ↔ d ≠ 0 := by
  rw [ne_eq, sum_eq_iff, h]
  constructor
  · rintro h1 rfl
    exact h1 (by rw [gn_zero, Nat.xor_zero])
  · intro h0 h1
    refine gn_ne n hd h0 ?_
    have h2 := congrArg (fun y => st 4294967295 a ^^^ y) h1
    simpa [← Nat.xor_assoc] using h2

/-- One bit out of the state, the text's bit held against it. -/
def rb (x b : Nat) : Nat := if (b % 2 ^^^ x % 2) = 1 then (x / 2) ^^^ 3988292384 else x / 2

theorem rb_step (x b : Nat) : g (x ^^^ b) = (rb x b ^^^ b / 2) := by
  unfold g rb
  rw [xor_mod_two, xor_half, Nat.xor_comm (b % 2)]
  split
  · rw [Nat.xor_assoc, Nat.xor_comm (b / 2), ← Nat.xor_assoc]
  · rfl

theorem rb_lt {x : Nat} (b : Nat) (h : x < 4294967296) : rb x b < 4294967296 := by
  unfold rb
  split
  · exact xor_lt (by omega) (by decide)
  · omega
end Go.Proofs.Ytojcocbfgfgklaa.Cr
