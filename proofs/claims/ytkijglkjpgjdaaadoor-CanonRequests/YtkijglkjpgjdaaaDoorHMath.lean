/-
  The digest as plain mathematics over natural numbers; that bytes which come one by one give what the padded bytes give block by block.
-/
namespace Go.Proofs.YtkijglkjpgjdaaaDoor.Ha.Sh

/-- x turned right by n bits. -/
def rr (x n : Nat) : Nat := (x / 2 ^ n) ||| (x * 2 ^ (32 - n) % 4294967296)

theorem rr_lt {x n : Nat} (h : x < 4294967296) : rr x n < 4294967296 :=
  Nat.or_lt_two_pow (n := 32) (Nat.lt_of_le_of_lt (Nat.div_le_self _ _) h) (Nat.mod_lt _ (by decide))

def bs1 (e : Nat) : Nat := rr e 6 ^^^ rr e 11 ^^^ rr e 25
def bs0 (a : Nat) : Nat := rr a 2 ^^^ rr a 13 ^^^ rr a 22
def ss0 (x : Nat) : Nat := rr x 7 ^^^ rr x 18 ^^^ x / 8
def ss1 (x : Nat) : Nat := rr x 17 ^^^ rr x 19 ^^^ x / 1024
def ch (e f g : Nat) : Nat := (e &&& f) ^^^ ((4294967295 - e) &&& g)
def maj (a b c : Nat) : Nat := (a &&& b) ^^^ (a &&& c) ^^^ (b &&& c)

theorem xor_lt {a b : Nat} (ha : a < 4294967296) (hb : b < 4294967296) : a ^^^ b < 4294967296 := Nat.xor_lt_two_pow (n := 32) ha hb
theorem and_lt {a b : Nat} (ha : a < 4294967296) : a &&& b < 4294967296 := Nat.lt_of_le_of_lt Nat.and_le_left ha

theorem bs1_lt {e : Nat} (h : e < 4294967296) : bs1 e < 4294967296 := xor_lt (xor_lt (rr_lt h) (rr_lt h)) (rr_lt h)
theorem bs0_lt {e : Nat} (h : e < 4294967296) : bs0 e < 4294967296 := xor_lt (xor_lt (rr_lt h) (rr_lt h)) (rr_lt h)
theorem ss0_lt {e : Nat} (h : e < 4294967296) : ss0 e < 4294967296 := xor_lt (xor_lt (rr_lt h) (rr_lt h)) (by omega)
theorem ss1_lt {e : Nat} (h : e < 4294967296) : ss1 e < 4294967296 := xor_lt (xor_lt (rr_lt h) (rr_lt h)) (by omega)
theorem ch_lt {e f g : Nat} (h : e < 4294967296) : ch e f g < 4294967296 := xor_lt (and_lt h) (and_lt (by omega))
theorem maj_lt {a b c : Nat} (ha : a < 4294967296) (hb : b < 4294967296) : maj a b c < 4294967296 := xor_lt (xor_lt (and_lt ha) (and_lt ha)) (and_lt hb)

/-- Eight words. -/
structure V8 where
  a : Nat
  b : Nat
  c : Nat
  d : Nat
  e : Nat
  f : Nat
  g : Nat
  h : Nat

structure V8.Ok (v : V8) : Prop where
  a : v.a < 4294967296
  b : v.b < 4294967296
  c : v.c < 4294967296
  d : v.d < 4294967296
  e : v.e < 4294967296
  f : v.f < 4294967296
  g : v.g < 4294967296
  h : v.h < 4294967296

def tOf (v : V8) (k w : Nat) : Nat := (v.h + bs1 v.e + ch v.e v.f v.g + k + w) % 4294967296
def uOf (v : V8) : Nat := (bs0 v.a + maj v.a v.b v.c) % 4294967296
def rnd (v : V8) (k w : Nat) : V8 := ⟨(tOf v k w + uOf v) % 4294967296, v.a, v.b, v.c, (v.d + tOf v k w) % 4294967296, v.e, v.f, v.g⟩

theorem rnd_ok {v : V8} (h : v.Ok) (k w : Nat) : (rnd v k w).Ok :=
  ⟨Nat.mod_lt _ (by decide), h.a, h.b, h.c, Nat.mod_lt _ (by decide), h.e, h.f, h.g⟩

def K : List Nat := [1116352408, 1899447441, 3049323471, 3921009573, 961987163, 1508970993, 2453635748, 2870763221, 3624381080, 310598401, 607225278, 1426881987, 1925078388, 2162078206, 2614888103, 3248222580,
  3835390401, 4022224774, 264347078, 604807628, 770255983, 1249150122, 1555081692, 1996064986, 2554220882, 2821834349, 2952996808, 3210313671, 3336571891, 3584528711, 113926993, 338241895,
  666307205, 773529912, 1294757372, 1396182291, 1695183700, 1986661051, 2177026350, 2456956037, 2730485921, 2820302411, 3259730800, 3345764771, 3516065817, 3600352804, 4094571909, 275423344,
  430227734, 506948616, 659060556, 883997877, 958139571, 1322822218, 1537002063, 1747873779, 1955562222, 2024104815, 2227730452, 2361852424, 2428436474, 2756734187, 3204031479, 3329325298]

theorem K_len : K.length = 64 := rfl

def rounds (v : V8) (ws : List Nat) : Nat → V8
  | 0 => v
  | n + 1 => rnd (rounds v ws n) (K.getD n 0) (ws.getD n 0)

theorem rounds_ok {v : V8} (h : v.Ok) (ws : List Nat) : ∀ n, (rounds v ws n).Ok
  | 0 => h
  | n + 1 => rnd_ok (rounds_ok h ws n) _ _

/-- A block's word i, of four bytes. -/
def word (b : List Nat) (i : Nat) : Nat := ((b.getD (4 * i) 0 * 256 + b.getD (4 * i + 1) 0) * 256 + b.getD (4 * i + 2) 0) * 256 + b.getD (4 * i + 3) 0

/-- The next word behind these. -/
def wnext (l : List Nat) : Nat := (l.getD (l.length - 16) 0 + ss0 (l.getD (l.length - 15) 0) + l.getD (l.length - 7) 0 + ss1 (l.getD (l.length - 2) 0)) % 4294967296

def ws (b : List Nat) : Nat → List Nat
  | 0 => (List.range 16).map (word b)
  | n + 1 => ws b n ++ [wnext (ws b n)]

theorem ws_len (b : List Nat) : ∀ n, (ws b n).length = 16 + n
  | 0 => by simp [ws]
  | n + 1 => by simp [ws, ws_len b n]; omega

def addV (v x : V8) : V8 := ⟨(v.a + x.a) % 4294967296, (v.b + x.b) % 4294967296, (v.c + x.c) % 4294967296, (v.d + x.d) % 4294967296, (v.e + x.e) % 4294967296, (v.f + x.f) % 4294967296, (v.g + x.g) % 4294967296, (v.h + x.h) % 4294967296⟩

theorem addV_ok (v x : V8) : (addV v x).Ok :=
  ⟨Nat.mod_lt _ (by decide), Nat.mod_lt _ (by decide), Nat.mod_lt _ (by decide), Nat.mod_lt _ (by decide), Nat.mod_lt _ (by decide), Nat.mod_lt _ (by decide), Nat.mod_lt _ (by decide), Nat.mod_lt _ (by decide)⟩

/-- The eight words behind one block more. -/
def mix (v : V8) (b : List Nat) : V8 := addV v (rounds v (ws b 48) 64)

theorem mix_ok (v : V8) (b : List Nat) : (mix v b).Ok := addV_ok _ _

def start : V8 := ⟨1779033703, 3144134277, 1013904242, 2773480762, 1359893119, 2600822924, 528734635, 1541459225⟩
def zeroV : V8 := ⟨0, 0, 0, 0, 0, 0, 0, 0⟩
theorem start_ok : start.Ok := by constructor <;> decide
theorem zeroV_ok : zeroV.Ok := by constructor <;> decide

/-- The words behind q blocks. -/
def cm (p : List Nat) : Nat → V8
  | 0 => start
  | q + 1 => mix (cm p q) ((p.drop (64 * q)).take 64)

theorem cm_ok (p : List Nat) : ∀ q, (cm p q).Ok
  | 0 => start_ok
  | _ + 1 => mix_ok _ _

/-- What takes bytes one by one. -/
structure HS where
  v : V8
  blk : List Nat
  n : Nat

def h0 : HS := ⟨zeroV, List.replicate 64 0, 0⟩

def put (h : HS) (b : Nat) : HS :=
  let v := if h.n = 0 then start else h.v
  let blk := h.blk.set (h.n % 64) b
  ⟨if (h.n + 1) % 64 = 0 then mix v blk else v, blk, h.n + 1⟩

structure HS.Ok (h : HS) : Prop where
  v : h.v.Ok
  blk : h.blk.length = 64
  byte : ∀ x ∈ h.blk, x < 256

theorem h0_ok : h0.Ok := ⟨zeroV_ok, by simp [h0], by simp [h0]⟩

theorem put_ok {h : HS} (k : h.Ok) {b : Nat} (hb : b < 256) : (put h b).Ok := by
  refine ⟨?_, by simpa [put] using k.blk, fun x hx => ?_⟩
  · show V8.Ok (if (h.n + 1) % 64 = 0 then mix _ _ else _)
    split
    · exact mix_ok _ _
    · split
      · exact start_ok
      · exact k.v
  · rcases List.mem_or_eq_of_mem_set (show x ∈ h.blk.set (h.n % 64) b from hx) with h1 | h1
    · exact k.byte x h1
    · omega

theorem put_n (h : HS) (b : Nat) : (put h b).n = h.n + 1 := rfl

def putAll (h : HS) (l : List Nat) : HS := l.foldl put h

theorem putAll_nil (h : HS) : putAll h [] = h := rfl
theorem putAll_snoc (h : HS) (l : List Nat) (b : Nat) : putAll h (l ++ [b]) = put (putAll h l) b := by simp [putAll]
theorem putAll_append (h : HS) (l m : List Nat) : putAll h (l ++ m) = putAll (putAll h l) m := by simp [putAll]

theorem putAll_ok {h : HS} (k : h.Ok) (l : List Nat) (hl : ∀ x ∈ l, x < 256) : (putAll h l).Ok := by
  induction l generalizing h with
  | nil => exact k
  | cons x l ih => exact ih (put_ok k (hl x (by simp))) fun y hy => hl y (by simp [hy])

theorem putAll_n (h : HS) (l : List Nat) : (putAll h l).n = h.n + l.length := by
  induction l generalizing h with
  | nil => rfl
  | cons x l ih =>
    show (putAll (put h x) l).n = _
    rw [ih, put_n]
    simp
    omega

structure At (p : List Nat) (k : Nat) (h : HS) : Prop where
  n : h.n = k
  len : h.blk.length = 64
  v : 0 < k → h.v = cm p (k / 64)
  blk : ∀ j, j < k % 64 → h.blk.getD j 0 = p.getD (64 * (k / 64) + j) 0

theorem at_all (p : List Nat) : ∀ k, k ≤ p.length → At p k (putAll h0 (p.take k))
  | 0, _ => ⟨rfl, by simp [putAll, h0], fun h => absurd h (by omega), fun j hj => absurd hj (by omega)⟩
  | k + 1, hk => by
    have ih := at_all p k (by omega)
    have hk' : k < p.length := by omega
    have e : p.take (k + 1) = p.take k ++ [p[k]] := by rw [List.take_succ_eq_append_getElem hk']
    rw [e, putAll_snoc]
    generalize putAll h0 (p.take k) = h at ih
    have hv : (if h.n = 0 then start else h.v) = cm p (k / 64) := by
      rw [ih.n]
      by_cases h0 : k = 0
      · subst h0
        rfl
      · rw [if_neg h0]
        exact ih.v (by omega)
    have hb : ∀ j, j < k % 64 + 1 → (h.blk.set (k % 64) p[k]).getD j 0 = p.getD (64 * (k / 64) + j) 0 := by
      intro j hj
      by_cases hjk : j = k % 64
      · subst hjk
        have h1 : 64 * (k / 64) + k % 64 = k := by omega
        have h2 : k % 64 < h.blk.length := by rw [ih.len]; omega
        simp [List.getD, h1, h2, hk']
      · have := ih.blk j (by omega)
        rw [← this]
        simp [List.getD, Ne.symm hjk]
    refine ⟨by rw [put_n, ih.n], by simp [put, ih.len], fun _ => ?_, fun j hj => ?_⟩
    · show (if (h.n + 1) % 64 = 0 then mix (if h.n = 0 then start else h.v) (h.blk.set (h.n % 64) p[k]) else (if h.n = 0 then start else h.v)) = _
      rw [hv, ih.n]
      by_cases hm : (k + 1) % 64 = 0
      · rw [if_pos hm, show (k + 1) / 64 = k / 64 + 1 by omega]
        show mix _ _ = mix _ _
        congr 1
        apply List.ext_getElem
        · simp [ih.len]
          omega
        · intro i h1 h2
          have h3 : i < 64 := by simpa [ih.len] using h1
          have := hb i (by omega)
          have h4 : 64 * (k / 64) + i < p.length := by omega
          simp only [List.getD, List.getElem?_eq_getElem h1, List.getElem?_eq_getElem h4, Option.getD_some] at this
          rw [this]
          simp
      · rw [if_neg hm, show (k + 1) / 64 = k / 64 by omega]
    · show (h.blk.set (h.n % 64) p[k]).getD j 0 = _
      rw [ih.n]
      have h1 : (k + 1) / 64 = k / 64 := by omega
      rw [h1]
      exact hb j (by omega)

theorem all_blocks (p : List Nat) (q : Nat) (hq : 0 < q) (hp : p.length = 64 * q) : (putAll h0 p).v = cm p q := by
  have h := (at_all p (64 * q) (by omega)).v (by omega)
  rw [List.take_of_length_le (by omega), show 64 * q / 64 = q by omega] at h
  exact h

/-- How many bytes 0 stand behind the byte 128. -/
def zs (n : Nat) : Nat := (119 - n % 64) % 64

theorem zs_is (n : Nat) : (n + 1 + zs n) % 64 = 56 := by unfold zs; omega
theorem zs_least (n k : Nat) (hk : k < zs n) : (n + 1 + k) % 64 ≠ 56 := by unfold zs at hk; omega
theorem zs_lt (n : Nat) : zs n < 64 := Nat.mod_lt _ (by decide)

/-- The first i of a number's eight bytes. -/
def be (n i : Nat) : List Nat := (List.range i).map fun j => n / 2 ^ (56 - 8 * j) % 256

theorem be_succ (n i : Nat) : be n (i + 1) = be n i ++ [n / 2 ^ (56 - 8 * i) % 256] := by simp [be, List.range_succ]
theorem be_len (n i : Nat) : (be n i).length = i := by simp [be]

/-- With its end. -/
def padded (l : List Nat) : List Nat := l ++ [128] ++ List.replicate (zs l.length) 0 ++ be (8 * l.length) 8

theorem padded_len (l : List Nat) : (padded l).length = 64 * ((l.length + 72) / 64) := by
  simp only [padded, List.length_append, List.length_replicate, be_len, List.length_cons, List.length_nil]
  unfold zs
  omega

def wordB (x : Nat) : List Nat := [x / 16777216, x / 65536 % 256, x / 256 % 256, x % 256]
def dig (v : V8) : List Nat := wordB v.a ++ wordB v.b ++ wordB v.c ++ wordB v.d ++ wordB v.e ++ wordB v.f ++ wordB v.g ++ wordB v.h

/-- The digest. -/
def sha (l : List Nat) : List Nat := dig (cm (padded l) ((l.length + 72) / 64))

theorem sha_put (l : List Nat) : dig (putAll h0 (padded l)).v = sha l := by
  rw [all_blocks (padded l) ((l.length + 72) / 64) (by omega) (padded_len l)]
  rfl

theorem dig_len (v : V8) : (dig v).length = 32 := rfl

theorem abc : sha [97, 98, 99] = [186, 120, 22, 191, 143, 1, 207, 234, 65, 65, 64, 222, 93, 174, 34, 35, 176, 3, 97, 163, 150, 23, 122, 156, 180, 16, 255, 97, 242, 0, 21, 173] := by decide +kernel
end Go.Proofs.YtkijglkjpgjdaaaDoor.Ha.Sh
