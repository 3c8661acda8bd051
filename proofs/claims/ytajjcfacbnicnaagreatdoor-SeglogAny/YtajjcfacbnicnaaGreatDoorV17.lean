/-
  YtajjcfacbnicnaaGreatDoor: the texts FMath, FS, F1, F2, one behind the other.
-/
import Derived.Lib.IndexMore
import Derived.Lib.AtoiAll
import Derived.Lib.ItoaNum
import Derived.Shelf.Strings.Cut
import Derived.Shelf.Strconv.Itoa3
import Derived.Shelf.Strconv.AtoiAll
import Derived.Shelf.Sort.Plain
import Derived.Lib.LaidTab
import Derived.Lib.LaidU8
import Derived.Test.YtajjcfacbnicnaaGreatDoorRows
import Derived.WalkKit
import Derived.WalkSpells
import Derived.WalkLawsBesides
import Derived.Deep.LoopGhost
import Derived.Deep.RegionWith
import Derived.BigQuiet
import Derived.Deep.QuietTactic
import Derived.Laws.BytesArg
import Derived.Below
/-
  Names with numbers, as plain lists of bytes: the name of a word and a number, the number of a name; both readers find it.
-/
namespace Go.Proofs.YtajjcfacbnicnaaGreatDoor.Fi
open Go.Lib
set_option maxRecDepth 100000

/-- A word. -/
def wd (l : List UInt8) : Bool := decide (1 ≤ l.length) && decide (l.length ≤ 5) && l.all fun b => decide (97 ≤ b.toNat) && decide (b.toNat ≤ 122)

/-- A name. -/
def nm (w : List UInt8) (n : Int) : List UInt8 := if (wd w && decide (1 ≤ n) && decide (n ≤ 99999)) = true then w ++ 46 :: decDigits n.toNat else []

/-- By the program: what stands behind the first point, read, and written anew. -/
def numP (w name : List UInt8) : Int × Bool := match atoiAll (cut name [46]).2.1 with
  | .ok v => if nm w v = name then (v, true) else (0, false)
  | _ => (0, false)

/-- Digits, while the number is below 100000. -/
def rd : Nat → List UInt8 → Option Nat
  | n, [] => some n
  | n, c :: r => if n < 100000 then (if 48 ≤ c.toNat ∧ c.toNat ≤ 57 then rd (n * 10 + (c.toNat - 48)) r else none) else some n

/-- By the document: what stands behind the word's length and one more. -/
def numR (w name : List UInt8) : Nat := match rd 0 (name.drop (w.length + 1)) with
  | some v => if name = [] ∨ nm w v ≠ name then 0 else v
  | none => 0

theorem wd_iff {l : List UInt8} : wd l = true ↔ 1 ≤ l.length ∧ l.length ≤ 5 ∧ ∀ b ∈ l, 97 ≤ b.toNat ∧ b.toNat ≤ 122 := by
  simp [wd, List.all_eq_true, and_assoc]

theorem nm_in {w : List UInt8} {n : Int} (hw : wd w = true) (h1 : 1 ≤ n) (h2 : n ≤ 99999) : nm w n = w ++ 46 :: decDigits n.toNat := by
  simp [nm, hw, h1, h2]

theorem nm_out {w : List UInt8} {n : Int} (h : nm w n ≠ []) : wd w = true ∧ 1 ≤ n ∧ n ≤ 99999 := by
  unfold nm at h
  split at h
  · rename_i h1
    simpa [and_assoc] using h1
  · exact absurd rfl h

theorem nm_empty {w : List UInt8} {n : Int} : nm w n = [] ↔ ¬ (wd w = true ∧ 1 ≤ n ∧ n ≤ 99999) := by
  constructor
  · rintro h ⟨a, b, c⟩
    rw [nm_in a b c] at h
    simp at h
  · intro h
    apply Classical.byContradiction
    intro h1
    exact h (nm_out h1)

theorem pu_snoc : ∀ (l : List UInt8) (acc : Nat) (c : UInt8), parseUint10 acc (l ++ [c]) = match parseUint10 acc l with | .ok u => parseUint10 u [c] | .syntax => .syntax | .range => .range
  | [], acc, c => by simp [parseUint10]
  | b :: r, acc, c => by
    rw [List.cons_append]
    unfold parseUint10
    split
    · split
      · rfl
      · split
        · rfl
        · exact pu_snoc r _ c
    · rfl

theorem dig_nat {k : Nat} (h : k < 10) : (UInt8.ofNat (48 + k)).toNat = 48 + k := by
  rw [UInt8.toNat_ofNat']
  omega

theorem pu_dec (n : Nat) (h : n ≤ 99999) : parseUint10 0 (decDigits n) = .ok n := by
  induction n using Nat.strongRecOn with
  | _ n ih =>
    rw [decDigits]
    split
    · rename_i h1
      simp only [parseUint10, dig_nat h1]
      rw [if_pos (by omega), if_neg (by omega), if_neg (by omega)]
      congr 1
      omega
    · rename_i h1
      rw [pu_snoc, ih (n / 10) (by omega) (by omega)]
      simp only [parseUint10, dig_nat (Nat.mod_lt n (by omega : 0 < 10))]
      rw [if_pos (by omega), if_neg (by omega), if_neg (by omega)]
      congr 1
      omega

theorem rd_snoc : ∀ (l : List UInt8) (acc : Nat) (c : UInt8), rd acc (l ++ [c]) = (rd acc l).bind fun u => rd u [c]
  | [], acc, c => by simp [rd]
  | b :: r, acc, c => by
    rw [List.cons_append]
    unfold rd
    split
    · rename_i hlt
      split
      · rw [rd_snoc r _ c]
        simp [rd]
      · rfl
    · rename_i hlt
      simp [hlt]

theorem rd_dec (n : Nat) (h : n ≤ 99999) : rd 0 (decDigits n) = some n := by
  induction n using Nat.strongRecOn with
  | _ n ih =>
    rw [decDigits]
    split
    · rename_i h1
      simp only [rd, dig_nat h1]
      rw [if_pos (by omega), if_pos (by omega)]
      congr 1
      omega
    · rename_i h1
      rw [rd_snoc, ih (n / 10) (by omega) (by omega)]
      simp only [Option.bind, rd, dig_nat (Nat.mod_lt n (by omega : 0 < 10))]
      rw [if_pos (by omega), if_pos (by omega)]
      congr 1
      omega

theorem dec_head (n : Nat) : ∃ c r, decDigits n = c :: r ∧ 48 ≤ c.toNat ∧ c.toNat ≤ 57 := by
  induction n using Nat.strongRecOn with
  | _ n ih =>
    rw [decDigits]
    split
    · rename_i h1
      exact ⟨_, _, rfl, by rw [dig_nat h1]; omega⟩
    · obtain ⟨c, r, e, h2⟩ := ih (n / 10) (by omega)
      exact ⟨c, r ++ _, by rw [e]; rfl, h2⟩

theorem atoi_dec (n : Nat) (h : n ≤ 99999) : atoiAll (decDigits n) = .ok (n : Int) := by
  have hp := pu_dec n h
  obtain ⟨c, r, e, h1, h2⟩ := dec_head n
  rw [e] at hp ⊢
  unfold atoiAll
  simp only
  rw [if_neg (by omega)]
  unfold parseMag
  rw [if_neg (by simp), hp]
  simp only
  rw [if_neg (by omega), if_neg (by omega), if_neg (by omega)]

theorem index_word : ∀ (w ds : List UInt8), (∀ b ∈ w, 97 ≤ b.toNat) → index (w ++ 46 :: ds) [46] = w.length
  | [], ds, _ => by simp [index, List.isPrefixOf]
  | b :: w, ds, h => by
    have ih := index_word w ds fun x hx => h x (List.mem_cons_of_mem _ hx)
    have hb : (46 == b) = false := by
      rw [beq_eq_false_iff_ne]
      intro e
      have := h b (List.mem_cons_self ..)
      rw [← e] at this
      exact absurd this (by decide)
    rw [List.cons_append]
    unfold index
    simp only [List.isPrefixOf, hb, Bool.false_and]
    rw [ih]
    simp

theorem cut_word (w ds : List UInt8) (h : ∀ b ∈ w, 97 ≤ b.toNat) : (cut (w ++ 46 :: ds) [46]).2.1 = ds := by
  unfold cut
  rw [index_word w ds h, if_pos (by omega)]
  simp

/-- Of a name both readers find the number. -/
theorem numP_in {w : List UInt8} {n : Int} (hw : wd w = true) (h1 : 1 ≤ n) (h2 : n ≤ 99999) : numP w (nm w n) = (n, true) := by
  have hn : ((n.toNat : Nat) : Int) = n := by omega
  rw [nm_in hw h1 h2]
  unfold numP
  rw [cut_word _ _ fun b hb => ((wd_iff.1 hw).2.2 b hb).1, atoi_dec _ (by omega), hn]
  simp only
  rw [if_pos (nm_in hw h1 h2)]

theorem numR_in {w : List UInt8} {n : Int} (hw : wd w = true) (h1 : 1 ≤ n) (h2 : n ≤ 99999) : (numR w (nm w n) : Int) = n := by
  have hn : ((n.toNat : Nat) : Int) = n := by omega
  rw [nm_in hw h1 h2]
  unfold numR
  have : (w ++ 46 :: decDigits n.toNat).drop (w.length + 1) = decDigits n.toNat := by
    rw [← List.drop_drop, List.drop_left]; rfl
  rw [this, rd_dec _ (by omega)]
  simp only
  rw [hn, nm_in hw h1 h2, if_neg (by simp), hn]

/-- What is no name has none. -/
theorem numP_out {w name : List UInt8} (h : ∀ n, nm w n = name → name = []) : numP w name = (0, false) := by
  unfold numP
  split
  · rename_i v hv
    split
    · rename_i e
      have := h v e
      subst this
      have : (cut [] [46]).2.1 = [] := by decide
      rw [this] at hv
      simp [atoiAll] at hv
    · rfl
  · rfl

theorem numR_out {w name : List UInt8} (h : ∀ n, nm w n = name → name = []) : numR w name = 0 := by
  unfold numR
  split
  · split
    · rfl
    · rename_i h1
      exact absurd (Or.inl (h _ (by
        apply Classical.byContradiction
        intro h2
        exact h1 (Or.inr h2)))) h1
  · rfl

theorem num_both (w name : List UInt8) : numP w name = ((numR w name : Int), decide (0 < numR w name)) := by
  by_cases h : ∃ n, nm w n = name ∧ name ≠ []
  · obtain ⟨n, rfl, hne⟩ := h
    obtain ⟨a, b, c⟩ := nm_out hne
    have h1 := numR_in a b c
    rw [numP_in a b c, h1]
    simp
    omega
  · have h' : ∀ n, nm w n = name → name = [] := fun n e => by
      apply Classical.byContradiction
      intro hne
      exact h ⟨n, e, hne⟩
    rw [numP_out h', numR_out h']
    rfl

theorem num_back (w : List UInt8) (n : Int) : numP w (nm w n) = if nm w n = [] then (0, false) else (n, true) := by
  split
  · rename_i h
    rw [h]
    unfold numP
    have : (cut [] [46]).2.1 = [] := by decide
    rw [this]
    simp [atoiAll]
  · rename_i h
    obtain ⟨a, b, c⟩ := nm_out h
    exact numP_in a b c

/-- A number is of one name of a word alone. -/
theorem nm_inj {w : List UInt8} {m n : Int} (h : nm w m = nm w n) (hne : nm w m ≠ []) : m = n := by
  have h1 := num_back w m
  have h2 := num_back w n
  rw [if_neg hne] at h1
  rw [if_neg (h ▸ hne), ← h, h1] at h2
  exact congrArg Prod.fst h2

/-- The document's digits, one more ahead of what is written. -/
theorem dec_more {n : Nat} (out : List UInt8) (h : 0 < n) : (if n / 10 = 0 then [] else decDigits (n / 10)) ++ UInt8.ofNat (48 + n % 10) :: out = decDigits n ++ out := by
  conv => rhs; rw [decDigits]
  split
  · rename_i h1
    rw [dif_pos (by omega)]
    simp [Nat.mod_eq_of_lt (show n < 10 by omega)]
  · rw [dif_neg (by omega)]
    simp
end Go.Proofs.YtajjcfacbnicnaaGreatDoor.Fi

/-
  strings.Cut (at one byte), strconv.Itoa and strconv.Atoi, by the contracts that lie ready, at this program's numbers.
-/
namespace Go.Proofs.YtajjcfacbnicnaaGreatDoor
open Go.Shelf Go.RowKit
set_option maxRecDepth 100000
def lays171_ren : Go.Shelf.Ren := ⟨fun | 129 => 140 | 171 => 100 | 243 => 113 | 246 => 127 | 283 => 143 | 284 => 144 | 285 => 145 | 286 => 146 | 317 => 158 | 318 => 159 | 319 => 160 | 320 => 161 | 337 => 170 | 338 => 171 | n => n, fun | 0 => 0 | 2 => 2 | 3 => 3 | 4 => 4 | 5 => 5 | 9 => 9 | 20 => 20 | 37 => 46 | 46 => 122 | 51 => 127 | 53 => 156 | 171 => 159 | 173 => 161 | 212 => 176 | 213 => 177 | 232 => 193 | 233 => 194 | n => n, fun | 17 => 1 | 18 => 4 | 19 => 5 | n => n⟩
theorem lays171 : Go.Proofs.LaysM.n171 Tryz.prog lays171_ren := {
  mixed := by kernel_rfl
  f129 := Tryz.func140.trans (congrArg some (by kernel_rfl))
  f171 := Tryz.func100.trans (congrArg some (by kernel_rfl))
  f243 := Tryz.func113.trans (congrArg some (by kernel_rfl))
  f246 := Tryz.func127.trans (congrArg some (by kernel_rfl))
  f283 := Tryz.func143.trans (congrArg some (by kernel_rfl))
  f284 := Tryz.func144.trans (congrArg some (by kernel_rfl))
  f285 := Tryz.func145.trans (congrArg some (by kernel_rfl))
  f286 := Tryz.func146.trans (congrArg some (by kernel_rfl))
  f317 := Tryz.func158.trans (congrArg some (by kernel_rfl))
  f318 := Tryz.func159.trans (congrArg some (by kernel_rfl))
  f319 := Tryz.func160.trans (congrArg some (by kernel_rfl))
  f320 := Tryz.func161.trans (congrArg some (by kernel_rfl))
  f337 := Tryz.func170.trans (congrArg some (by kernel_rfl))
  f338 := Tryz.func171.trans (congrArg some (by kernel_rfl))
  t0 := Tryz.underlying0
  a0 := Tryz.isAgg0
  z0 := Tryz.sizeOf0
  v0 := Tryz.zeroValue0
  t2 := Tryz.underlying2
  a2 := Tryz.isAgg2
  z2 := Tryz.sizeOf2
  v2 := Tryz.zeroValue2
  t3 := Tryz.underlying3
  a3 := Tryz.isAgg3
  z3 := Tryz.sizeOf3
  v3 := Tryz.zeroValue3
  t4 := Tryz.underlying4
  a4 := Tryz.isAgg4
  z4 := Tryz.sizeOf4
  v4 := Tryz.zeroValue4
  t5 := Tryz.underlying5
  a5 := Tryz.isAgg5
  z5 := Tryz.sizeOf5
  v5 := Tryz.zeroValue5
  t9 := Tryz.underlying9
  a9 := Tryz.isAgg9
  z9 := Tryz.sizeOf9
  v9 := Tryz.zeroValue9
  t20 := Tryz.underlying20
  a20 := Tryz.isAgg20
  z20 := Tryz.sizeOf20
  v20 := Tryz.zeroValue20
  t37 := Tryz.underlying46
  a37 := Tryz.isAgg46
  z37 := Tryz.sizeOf46
  v37 := Tryz.zeroValue46
  t46 := Tryz.underlying122
  a46 := Tryz.isAgg122
  z46 := Tryz.sizeOf122
  v46 := Tryz.zeroValue122
  t51 := Tryz.underlying127
  a51 := Tryz.isAgg127
  z51 := Tryz.sizeOf127
  v51 := Tryz.zeroValue127
  t53 := Tryz.underlying156
  a53 := Tryz.isAgg156
  z53 := Tryz.sizeOf156
  v53 := Tryz.zeroValue156
  t171 := Tryz.underlying159
  a171 := Tryz.isAgg159
  z171 := Tryz.sizeOf159
  v171 := Tryz.zeroValue159
  t173 := Tryz.underlying161
  a173 := Tryz.isAgg161
  z173 := Tryz.sizeOf161
  v173 := Tryz.zeroValue161
  t212 := Tryz.underlying176
  a212 := Tryz.isAgg176
  z212 := Tryz.sizeOf176
  v212 := Tryz.zeroValue176
  t213 := Tryz.underlying177
  a213 := Tryz.isAgg177
  z213 := Tryz.sizeOf177
  t232 := Tryz.underlying193
  a232 := Tryz.isAgg193
  z232 := Tryz.sizeOf193
  v232 := Tryz.zeroValue193
  t233 := Tryz.underlying194
  a233 := Tryz.isAgg194
  z233 := Tryz.sizeOf194
  v233 := Tryz.zeroValue194
  g17 := by kernel_rfl
  g18 := by kernel_rfl
  g19 := by kernel_rfl
  i0 := by kernel_rfl
  i2 := by kernel_rfl
  i3 := by kernel_rfl
  i4 := by kernel_rfl
  i5 := by kernel_rfl
  i9 := by kernel_rfl
  i20 := by kernel_rfl
  i37 := by kernel_rfl
  i46 := by kernel_rfl
  i51 := by kernel_rfl
  i53 := by kernel_rfl
  i171 := by kernel_rfl
  i173 := by kernel_rfl
  i212 := by kernel_rfl
  i232 := by kernel_rfl
  i233 := by kernel_rfl
  m17 := by kernel_rfl
  m18 := by kernel_rfl
  m19 := by kernel_rfl }
def lays172_ren : Go.Shelf.Ren := ⟨fun | 129 => 140 | 171 => 100 | 172 => 115 | 205 => 168 | 243 => 113 | 244 => 129 | 245 => 130 | 246 => 127 | 247 => 148 | 279 => 149 | 280 => 150 | 281 => 151 | 282 => 152 | 283 => 143 | 284 => 144 | 285 => 145 | 286 => 146 | 287 => 166 | 316 => 167 | 317 => 158 | 318 => 159 | 319 => 160 | 320 => 161 | 321 => 174 | 322 => 175 | 337 => 170 | 338 => 171 | n => n, fun | 0 => 0 | 2 => 2 | 3 => 3 | 4 => 4 | 5 => 5 | 9 => 9 | 20 => 20 | 21 => 21 | 37 => 46 | 46 => 122 | 51 => 127 | 53 => 156 | 75 => 135 | 76 => 136 | 80 => 195 | 85 => 164 | 127 => 189 | 143 => 190 | 145 => 192 | 167 => 163 | 168 => 166 | 171 => 159 | 173 => 161 | 175 => 179 | 210 => 182 | 212 => 176 | 213 => 177 | 232 => 193 | 233 => 194 | n => n, fun | 15 => 2 | 16 => 3 | 17 => 1 | 18 => 4 | 19 => 5 | n => n⟩
theorem lays172 : Go.Proofs.LaysC.n172 Tryz.prog lays172_ren := {
  mixed := by kernel_rfl
  f129 := Tryz.func140.trans (congrArg some (by kernel_rfl))
  f171 := Tryz.func100.trans (congrArg some (by kernel_rfl))
  f172 := Tryz.func115.trans (congrArg some (by kernel_rfl))
  f205 := Tryz.func168.trans (congrArg some (by kernel_rfl))
  f243 := Tryz.func113.trans (congrArg some (by kernel_rfl))
  f244 := Tryz.func129.trans (congrArg some (by kernel_rfl))
  f245 := Tryz.func130.trans (congrArg some (by kernel_rfl))
  f246 := Tryz.func127.trans (congrArg some (by kernel_rfl))
  f247 := Tryz.func148.trans (congrArg some (by kernel_rfl))
  f279 := Tryz.func149.trans (congrArg some (by kernel_rfl))
  f280 := Tryz.func150.trans (congrArg some (by kernel_rfl))
  f281 := Tryz.func151.trans (congrArg some (by kernel_rfl))
  f282 := Tryz.func152.trans (congrArg some (by kernel_rfl))
  f283 := Tryz.func143.trans (congrArg some (by kernel_rfl))
  f284 := Tryz.func144.trans (congrArg some (by kernel_rfl))
  f285 := Tryz.func145.trans (congrArg some (by kernel_rfl))
  f286 := Tryz.func146.trans (congrArg some (by kernel_rfl))
  f287 := Tryz.func166.trans (congrArg some (by kernel_rfl))
  f316 := Tryz.func167.trans (congrArg some (by kernel_rfl))
  f317 := Tryz.func158.trans (congrArg some (by kernel_rfl))
  f318 := Tryz.func159.trans (congrArg some (by kernel_rfl))
  f319 := Tryz.func160.trans (congrArg some (by kernel_rfl))
  f320 := Tryz.func161.trans (congrArg some (by kernel_rfl))
  f321 := Tryz.func174.trans (congrArg some (by kernel_rfl))
  f322 := Tryz.func175.trans (congrArg some (by kernel_rfl))
  f337 := Tryz.func170.trans (congrArg some (by kernel_rfl))
  f338 := Tryz.func171.trans (congrArg some (by kernel_rfl))
  t0 := Tryz.underlying0
  a0 := Tryz.isAgg0
  z0 := Tryz.sizeOf0
  v0 := Tryz.zeroValue0
  t2 := Tryz.underlying2
  a2 := Tryz.isAgg2
  z2 := Tryz.sizeOf2
  v2 := Tryz.zeroValue2
  t3 := Tryz.underlying3
  a3 := Tryz.isAgg3
  z3 := Tryz.sizeOf3
  v3 := Tryz.zeroValue3
  t4 := Tryz.underlying4
  a4 := Tryz.isAgg4
  z4 := Tryz.sizeOf4
  v4 := Tryz.zeroValue4
  t5 := Tryz.underlying5
  a5 := Tryz.isAgg5
  z5 := Tryz.sizeOf5
  v5 := Tryz.zeroValue5
  t9 := Tryz.underlying9
  a9 := Tryz.isAgg9
  z9 := Tryz.sizeOf9
  v9 := Tryz.zeroValue9
  t20 := Tryz.underlying20
  a20 := Tryz.isAgg20
  z20 := Tryz.sizeOf20
  v20 := Tryz.zeroValue20
  t21 := Tryz.underlying21
  a21 := Tryz.isAgg21
  z21 := Tryz.sizeOf21
  v21 := Tryz.zeroValue21
  t37 := Tryz.underlying46
  a37 := Tryz.isAgg46
  z37 := Tryz.sizeOf46
  v37 := Tryz.zeroValue46
  t46 := Tryz.underlying122
  a46 := Tryz.isAgg122
  z46 := Tryz.sizeOf122
  v46 := Tryz.zeroValue122
  t51 := Tryz.underlying127
  a51 := Tryz.isAgg127
  z51 := Tryz.sizeOf127
  v51 := Tryz.zeroValue127
  t53 := Tryz.underlying156
  a53 := Tryz.isAgg156
  z53 := Tryz.sizeOf156
  v53 := Tryz.zeroValue156
  t75 := Tryz.underlying135
  a75 := Tryz.isAgg135
  z75 := Tryz.sizeOf135
  v75 := Tryz.zeroValue135
  t76 := Tryz.underlying136
  a76 := Tryz.isAgg136
  z76 := Tryz.sizeOf136
  v76 := Tryz.zeroValue136
  t85 := Tryz.underlying164
  a85 := Tryz.isAgg164
  z85 := Tryz.sizeOf164
  v85 := Tryz.zeroValue164
  t127 := Tryz.underlying189
  a127 := Tryz.isAgg189
  z127 := Tryz.sizeOf189
  v127 := Tryz.zeroValue189
  t143 := Tryz.underlying190
  a143 := Tryz.isAgg190
  z143 := Tryz.sizeOf190
  v143 := Tryz.zeroValue190
  t145 := Tryz.underlying192
  a145 := Tryz.isAgg192
  z145 := Tryz.sizeOf192
  v145 := Tryz.zeroValue192
  t167 := Tryz.underlying163
  a167 := Tryz.isAgg163
  z167 := Tryz.sizeOf163
  v167 := Tryz.zeroValue163
  t168 := Tryz.underlying166
  a168 := Tryz.isAgg166
  z168 := Tryz.sizeOf166
  v168 := Tryz.zeroValue166
  t171 := Tryz.underlying159
  a171 := Tryz.isAgg159
  z171 := Tryz.sizeOf159
  v171 := Tryz.zeroValue159
  t173 := Tryz.underlying161
  a173 := Tryz.isAgg161
  z173 := Tryz.sizeOf161
  v173 := Tryz.zeroValue161
  t175 := Tryz.underlying179
  a175 := Tryz.isAgg179
  z175 := Tryz.sizeOf179
  v175 := Tryz.zeroValue179
  t210 := Tryz.underlying182
  a210 := Tryz.isAgg182
  z210 := Tryz.sizeOf182
  v210 := Tryz.zeroValue182
  t212 := Tryz.underlying176
  a212 := Tryz.isAgg176
  z212 := Tryz.sizeOf176
  v212 := Tryz.zeroValue176
  t213 := Tryz.underlying177
  a213 := Tryz.isAgg177
  z213 := Tryz.sizeOf177
  t232 := Tryz.underlying193
  a232 := Tryz.isAgg193
  z232 := Tryz.sizeOf193
  v232 := Tryz.zeroValue193
  t233 := Tryz.underlying194
  a233 := Tryz.isAgg194
  z233 := Tryz.sizeOf194
  v233 := Tryz.zeroValue194
  g15 := by kernel_rfl
  g16 := by kernel_rfl
  g17 := by kernel_rfl
  g18 := by kernel_rfl
  g19 := by kernel_rfl
  t80 := Tryz.underlying195
  a80 := Tryz.isAgg195
  z80 := Tryz.sizeOf195
  v80 := Tryz.zeroValue195
  i0 := by kernel_rfl
  i2 := by kernel_rfl
  i3 := by kernel_rfl
  i4 := by kernel_rfl
  i5 := by kernel_rfl
  i9 := by kernel_rfl
  i20 := by kernel_rfl
  i21 := by kernel_rfl
  i37 := by kernel_rfl
  i46 := by kernel_rfl
  i51 := by kernel_rfl
  i53 := by kernel_rfl
  i75 := by kernel_rfl
  i76 := by kernel_rfl
  i80 := by kernel_rfl
  i85 := by kernel_rfl
  i127 := by kernel_rfl
  i143 := by kernel_rfl
  i145 := by kernel_rfl
  i167 := by kernel_rfl
  i168 := by kernel_rfl
  i171 := by kernel_rfl
  i173 := by kernel_rfl
  i175 := by kernel_rfl
  i210 := by kernel_rfl
  i212 := by kernel_rfl
  i232 := by kernel_rfl
  i233 := by kernel_rfl
  m15 := by kernel_rfl
  m16 := by kernel_rfl
  m17 := by kernel_rfl
  m18 := by kernel_rfl
  m19 := by kernel_rfl
  c0 := by kernel_rfl
  c2 := by kernel_rfl
  c3 := by kernel_rfl
  c4 := by kernel_rfl
  c5 := by kernel_rfl
  c9 := by kernel_rfl
  c20 := by kernel_rfl
  c21 := by kernel_rfl
  c37 := by kernel_rfl
  c46 := by kernel_rfl
  c51 := by kernel_rfl
  c53 := by kernel_rfl
  c75 := by kernel_rfl
  c76 := by kernel_rfl
  c80 := by kernel_rfl
  c85 := by kernel_rfl
  c127 := by kernel_rfl
  c143 := by kernel_rfl
  c145 := by kernel_rfl
  c167 := by kernel_rfl
  c168 := by kernel_rfl
  c171 := by kernel_rfl
  c173 := by kernel_rfl
  c175 := by kernel_rfl
  c210 := by kernel_rfl
  c212 := by kernel_rfl
  c213 := by kernel_rfl
  c232 := by kernel_rfl
  c233 := by kernel_rfl }
def lays145_ren : Go.Shelf.Ren := ⟨fun | 145 => 114 | 217 => 162 | 219 => 147 | 220 => 128 | 224 => 164 | 225 => 163 | 266 => 172 | 267 => 165 | 314 => 173 | n => n, fun | 3 => 3 | 4 => 4 | 5 => 5 | 9 => 9 | 46 => 122 | 51 => 127 | 59 => 132 | 146 => 186 | n => n, fun | 1 => 0 | n => n⟩
theorem lays145 : Go.Proofs.Lays.n145 Tryz.prog lays145_ren := {
  mixed := by kernel_rfl
  f145 := Tryz.func114.trans (congrArg some (by kernel_rfl))
  f217 := Tryz.func162.trans (congrArg some (by kernel_rfl))
  f219 := Tryz.func147.trans (congrArg some (by kernel_rfl))
  f220 := Tryz.func128.trans (congrArg some (by kernel_rfl))
  f224 := Tryz.func164.trans (congrArg some (by kernel_rfl))
  f225 := Tryz.func163.trans (congrArg some (by kernel_rfl))
  f266 := Tryz.func172.trans (congrArg some (by kernel_rfl))
  f267 := Tryz.func165.trans (congrArg some (by kernel_rfl))
  f314 := Tryz.func173.trans (congrArg some (by kernel_rfl))
  t3 := Tryz.underlying3
  a3 := Tryz.isAgg3
  z3 := Tryz.sizeOf3
  v3 := Tryz.zeroValue3
  t4 := Tryz.underlying4
  a4 := Tryz.isAgg4
  z4 := Tryz.sizeOf4
  v4 := Tryz.zeroValue4
  t5 := Tryz.underlying5
  a5 := Tryz.isAgg5
  z5 := Tryz.sizeOf5
  v5 := Tryz.zeroValue5
  t9 := Tryz.underlying9
  a9 := Tryz.isAgg9
  z9 := Tryz.sizeOf9
  v9 := Tryz.zeroValue9
  t46 := Tryz.underlying122
  a46 := Tryz.isAgg122
  z46 := Tryz.sizeOf122
  v46 := Tryz.zeroValue122
  t51 := Tryz.underlying127
  a51 := Tryz.isAgg127
  z51 := Tryz.sizeOf127
  v51 := Tryz.zeroValue127
  t59 := Tryz.underlying132
  a59 := Tryz.isAgg132
  z59 := Tryz.sizeOf132
  v59 := Tryz.zeroValue132
  t146 := Tryz.underlying186
  a146 := Tryz.isAgg186
  z146 := Tryz.sizeOf186
  v146 := Tryz.zeroValue186
  g1 := by kernel_rfl }
def lays189_ren : Go.Shelf.Ren := ⟨fun | 125 => 117 | 128 => 139 | 129 => 140 | 189 => 102 | 215 => 118 | 216 => 103 | 257 => 116 | 294 => 131 | 295 => 132 | 296 => 133 | 297 => 134 | 298 => 135 | 299 => 136 | 300 => 137 | 301 => 138 | 328 => 153 | 329 => 154 | 330 => 155 | 331 => 156 | 332 => 157 | 343 => 169 | n => n, fun | 0 => 0 | 3 => 3 | 4 => 4 | 5 => 5 | 9 => 9 | 28 => 60 | 46 => 122 | 51 => 127 | 53 => 156 | 131 => 80 | 182 => 148 | 183 => 149 | 218 => 169 | 222 => 173 | 228 => 184 | 229 => 92 | n => n, fun | n => n⟩
theorem lays189 : Go.Proofs.Lays.n189 Tryz.prog lays189_ren := {
  mixed := by kernel_rfl
  f125 := Tryz.func117.trans (congrArg some (by kernel_rfl))
  f128 := Tryz.func139.trans (congrArg some (by kernel_rfl))
  f129 := Tryz.func140.trans (congrArg some (by kernel_rfl))
  f189 := Tryz.func102.trans (congrArg some (by kernel_rfl))
  f215 := Tryz.func118.trans (congrArg some (by kernel_rfl))
  f216 := Tryz.func103.trans (congrArg some (by kernel_rfl))
  f257 := Tryz.func116.trans (congrArg some (by kernel_rfl))
  f294 := Tryz.func131.trans (congrArg some (by kernel_rfl))
  f295 := Tryz.func132.trans (congrArg some (by kernel_rfl))
  f296 := Tryz.func133.trans (congrArg some (by kernel_rfl))
  f297 := Tryz.func134.trans (congrArg some (by kernel_rfl))
  f298 := Tryz.func135.trans (congrArg some (by kernel_rfl))
  f299 := Tryz.func136.trans (congrArg some (by kernel_rfl))
  f300 := Tryz.func137.trans (congrArg some (by kernel_rfl))
  f301 := Tryz.func138.trans (congrArg some (by kernel_rfl))
  f328 := Tryz.func153.trans (congrArg some (by kernel_rfl))
  f329 := Tryz.func154.trans (congrArg some (by kernel_rfl))
  f330 := Tryz.func155.trans (congrArg some (by kernel_rfl))
  f331 := Tryz.func156.trans (congrArg some (by kernel_rfl))
  f332 := Tryz.func157.trans (congrArg some (by kernel_rfl))
  f343 := Tryz.func169.trans (congrArg some (by kernel_rfl))
  t0 := Tryz.underlying0
  a0 := Tryz.isAgg0
  z0 := Tryz.sizeOf0
  v0 := Tryz.zeroValue0
  t3 := Tryz.underlying3
  a3 := Tryz.isAgg3
  z3 := Tryz.sizeOf3
  v3 := Tryz.zeroValue3
  t4 := Tryz.underlying4
  a4 := Tryz.isAgg4
  z4 := Tryz.sizeOf4
  v4 := Tryz.zeroValue4
  t5 := Tryz.underlying5
  a5 := Tryz.isAgg5
  z5 := Tryz.sizeOf5
  v5 := Tryz.zeroValue5
  t9 := Tryz.underlying9
  a9 := Tryz.isAgg9
  z9 := Tryz.sizeOf9
  v9 := Tryz.zeroValue9
  t28 := Tryz.underlying60
  a28 := Tryz.isAgg60
  z28 := Tryz.sizeOf60
  v28 := Tryz.zeroValue60
  t46 := Tryz.underlying122
  a46 := Tryz.isAgg122
  z46 := Tryz.sizeOf122
  v46 := Tryz.zeroValue122
  t51 := Tryz.underlying127
  a51 := Tryz.isAgg127
  z51 := Tryz.sizeOf127
  v51 := Tryz.zeroValue127
  t53 := Tryz.underlying156
  a53 := Tryz.isAgg156
  z53 := Tryz.sizeOf156
  v53 := Tryz.zeroValue156
  t131 := Tryz.underlying80
  a131 := Tryz.isAgg80
  z131 := Tryz.sizeOf80
  v131 := Tryz.zeroValue80
  t182 := Tryz.underlying148
  a182 := Tryz.isAgg148
  z182 := Tryz.sizeOf148
  v182 := Tryz.zeroValue148
  t183 := Tryz.underlying149
  a183 := Tryz.isAgg149
  z183 := Tryz.sizeOf149
  v183 := Tryz.zeroValue149
  t218 := Tryz.underlying169
  a218 := Tryz.isAgg169
  z218 := Tryz.sizeOf169
  v218 := Tryz.zeroValue169
  t222 := Tryz.underlying173
  a222 := Tryz.isAgg173
  z222 := Tryz.sizeOf173
  v222 := Tryz.zeroValue173
  t228 := Tryz.underlying184
  a228 := Tryz.isAgg184
  z228 := Tryz.sizeOf184
  v228 := Tryz.zeroValue184
  t229 := Tryz.underlying92
  a229 := Tryz.isAgg92
  z229 := Tryz.sizeOf92
  v229 := Tryz.zeroValue92 }
theorem grow_below (w : World) (k : Nat) (os : Array Obj) : Below w.heap.size w (Go.Sort.grow (w.drewN k) os) :=
  ⟨rfl, rfl, rfl, by show w.heap.size ≤ (w.heap ++ os).size; rw [Array.size_append]; omega, fun j hj => by show (w.heap ++ os)[j]? = _; rw [Array.getElem?_append_left hj]⟩

/-- What the calls ask of the variables. -/
structure Vars (w : World) : Prop where
  tab : Lib.TabIs Tryz.prog w "internal/strconv.uint64pow10" .u64 Lib.pow10Tab
  es : ∃ te pe, w.cell? ⟨2, 0, none⟩ = some (.iface te pe)
  er : ∃ te pe, w.cell? ⟨3, 0, none⟩ = some (.iface te pe)

theorem gPow : Tryz.prog.globalNamed "internal/strconv.uint64pow10" = some 1 := by kernel_rfl

theorem Vars.below {w w' : World} (h : Vars w) (hb : Below w.heap.size w w') : Vars w' := by
  have hc : ∀ (g : Nat) (v : Value), w.cell? ⟨g, 0, none⟩ = some v → w'.cell? ⟨g, 0, none⟩ = some v := fun g v hv => by
    have hlt : g < w.heap.size := by
      rcases Nat.lt_or_ge g w.heap.size with h' | h'
      · exact h'
      · unfold World.cell? at hv
        rw [Array.getElem?_eq_none h'] at hv
        simp at hv
    unfold World.cell? at hv ⊢
    rw [hb.block g hlt]
    exact hv
  refine ⟨?_, ?_, ?_⟩
  · have ht := h.tab
    unfold Lib.TabIs World.var? at ht ⊢
    simp only [gPow, Option.bind_some] at ht ⊢
    have hlt : 1 < w.heap.size := by
      rcases Nat.lt_or_ge 1 w.heap.size with h' | h'
      · exact h'
      · rw [Array.getElem?_eq_none h'] at ht; simp at ht
    rw [hb.block 1 hlt]
    exact ht
  · obtain ⟨te, pe, e⟩ := h.es
    exact ⟨te, pe, hc _ _ e⟩
  · obtain ⟨te, pe, e⟩ := h.er
    exact ⟨te, pe, hc _ _ e⟩

set_option maxHeartbeats 2000000 in
set_option maxRecDepth 100000 in
theorem cutS_any (s : ByteArray) (hs : s.size ≤ 1000000) (w : World) :
    Calls Tryz.prog 128 #[.string s, .string ⟨#[46]⟩] w fun e w' => e = .returned (.tuple #[.string ⟨(Lib.cut s.data.toList [46]).1.toArray⟩, .string ⟨(Lib.cut s.data.toList [46]).2.1.toArray⟩, .bool (Lib.cut s.data.toList [46]).2.2]) ∧ ∃ n, w' = w.drewN n := by
  have K := Any.stringslite_Index_one { lays145 with } s 46
  rw [← Lib.index_one] at K
  rcases Lib.indexB_cases s ⟨#[46]⟩ with hix | ⟨i, hix, hroom⟩
  · obtain ⟨e1, e2, e3⟩ := Lib.cutB_miss s ⟨#[46]⟩ hix
    rw [show Lib.cut s.data.toList [46] = Lib.cut s.data.toList (ByteArray.mk #[46]).data.toList from rfl, e1, e2, e3]
    rw [show Lib.index s.data.toList [46] = -1 from hix] at K
    go_enter Tryz.func128, Tryz.ntmps128
    go_wp2_with (go_at_call 147; refine (K _).mono ?_; rintro e w' ⟨rfl, rfl⟩)
    go_ret3
    exact ⟨rfl, 0, rfl⟩
  · obtain ⟨e1, e2, e3⟩ := Lib.cutB_hit s ⟨#[46]⟩ i hix
    rw [show Lib.cut s.data.toList [46] = Lib.cut s.data.toList (ByteArray.mk #[46]).data.toList from rfl, e1, e2, e3]
    have hz : (ByteArray.mk #[46]).size = 1 := rfl
    have c1 : (0 : Int) ≤ ↑i := by omega
    have c2 : (↑i : Int) ≤ ↑s.size := by omega
    have c3 : (0 : Int) ≤ ↑i + 1 := by omega
    have c4 : (↑i + 1 : Int) ≤ ↑s.size := by omega
    rw [show Lib.index s.data.toList [46] = (i : Int) from hix] at K
    go_enter Tryz.func128, Tryz.ntmps128
    go_wp2_with (go_at_call 147; refine (K _).mono ?_; rintro e w' ⟨rfl, rfl⟩)
    go_region
    go_wp2
    go_ret3
    exact ⟨rfl, 1, rfl⟩

set_option maxHeartbeats 1000000 in
theorem cut_any (s : ByteArray) (hs : s.size ≤ 1000000) (w : World) :
    Calls Tryz.prog 114 #[.string s, .string ⟨#[46]⟩] w fun e w' => e = .returned (.tuple #[.string ⟨(Lib.cut s.data.toList [46]).1.toArray⟩, .string ⟨(Lib.cut s.data.toList [46]).2.1.toArray⟩, .bool (Lib.cut s.data.toList [46]).2.2]) ∧ Below w.heap.size w w' := by
  go_enter Tryz.func114, Tryz.ntmps114
  go_wp2_with (go_at_call 128; refine (cutS_any s hs _).mono ?_; rintro e w' ⟨rfl, n, rfl⟩)
  go_ret3
  exact ⟨rfl, rfl, rfl, rfl, Nat.le_refl _, fun _ _ => rfl⟩

theorem itoa_any (n : Int) (h1 : 1 ≤ n) (h2 : n ≤ 99999) (w : World) (hv : Vars w) :
    Calls Tryz.prog 100 #[.int .i64 n] w fun e w' => e = .returned (.string ⟨(Lib.decDigits n.toNat).toArray⟩) ∧ Below w.heap.size w w' := by
  refine (Any.strconv_Itoa lays171 n (by omega) (by omega) w hv.tab).mono ?_
  rintro e w' ⟨rfl, k, os, rfl⟩
  refine ⟨?_, grow_below w k os⟩
  unfold Lib.itoa
  rw [if_neg (by omega)]

/-- How it ends: a number, or an error that isn't nil. -/
def Atoied (s : ByteArray) (e : Ending) : Prop := (∃ v, Lib.atoiAll s.data.toList = .ok v ∧ e = .returned (.tuple #[.int .i64 v, .nilIface])) ∨ ((∀ v, Lib.atoiAll s.data.toList ≠ .ok v) ∧ ∃ x N, e = .returned (.tuple #[.int .i64 x, .iface 166 (.pointer (some ⟨N, 0, none⟩))]))

theorem atoi_any (s : ByteArray) (hs : s.size ≤ 1000) (w : World) (hv : Vars w) :
    Calls Tryz.prog 115 #[.string s] w fun e w' => Atoied s e ∧ Below w.heap.size w w' := by
  cases h : Lib.atoiAll s.data.toList with
  | ok v =>
    refine (Any.strconv_Atoi_ok lays172 s (by omega) v h w).mono ?_
    rintro e w' ⟨rfl, hw⟩
    refine ⟨Or.inl ⟨v, h, rfl⟩, ?_⟩
    rcases hw with rfl | ⟨t, rfl⟩
    · exact ⟨rfl, rfl, rfl, Nat.le_refl _, fun _ _ => rfl⟩
    · exact Lib.bytesWorld_below _ _ _
  | «syntax» =>
    obtain ⟨te, pe, hc⟩ := hv.es
    refine (Any.strconv_Atoi_syntax lays172 s (by omega) h _ w hc (Or.inr ⟨te, pe, rfl⟩)).mono ?_
    rintro e w' ⟨N, rfl, _, _, hb⟩
    exact ⟨Or.inr ⟨fun v hv => (by rw [h] at hv; cases hv), _, N, rfl⟩, hb⟩
  | range =>
    obtain ⟨te, pe, hc⟩ := hv.er
    refine (Any.strconv_Atoi_range lays172 s (by omega) h _ w hc (Or.inr ⟨te, pe, rfl⟩)).mono ?_
    rintro e w' ⟨N, rfl, _, _, hb⟩
    exact ⟨Or.inr ⟨fun v hv => (by rw [h] at hv; cases hv), _, N, rfl⟩, hb⟩
end Go.Proofs.YtajjcfacbnicnaaGreatDoor

/-
  Words, digits and names, by the program and by the document.
-/
namespace Go.Proofs.YtajjcfacbnicnaaGreatDoor
open Go.RowKit
set_option maxRecDepth 100000

def wb (b : UInt8) : Bool := decide (97 ≤ b.toNat) && decide (b.toNat ≤ 122)

theorem ba_get (n : ByteArray) (i : Nat) (h : i < n.size) : n.data.toList[i]? = some n[i] := by
  show n.data.toList[i]? = some n.data[i]
  rw [Array.getElem?_toList]
  exact Array.getElem?_eq_getElem h

theorem all_of_get {n : ByteArray} (p : UInt8 → Bool) (h : ∀ i, (hi : i < n.size) → p n[i] = true) : n.data.toList.all p = true := by
  rw [List.all_eq_true]
  intro x hx
  obtain ⟨i, hi, rfl⟩ := List.getElem_of_mem hx
  exact h i (by simpa using hi)
theorem all_not_get {n : ByteArray} (p : UInt8 → Bool) (i : Nat) (hi : i < n.size) (h : p n[i] = false) : n.data.toList.all p = false := by
  rw [List.all_eq_false]
  exact ⟨n[i], List.mem_of_getElem? (ba_get n i hi), by simp [h]⟩

theorem wd_is (s : ByteArray) : Fi.wd s.data.toList = (decide (1 ≤ s.size) && decide (s.size ≤ 5) && s.data.toList.all wb) := rfl

theorem mk_append (a b : List UInt8) : (ByteArray.mk a.toArray) ++ ⟨b.toArray⟩ = ⟨(a ++ b).toArray⟩ := by
  apply ByteArray.ext
  simp [ByteArray.data_append]

theorem mk_data (s : ByteArray) : (⟨s.data.toList.toArray⟩ : ByteArray) = s := by
  apply ByteArray.ext
  simp

theorem size_mk (l : List UInt8) : (ByteArray.mk l.toArray).size = l.length := by simp [ByteArray.size]

theorem conv_one (w : World) (x : Int) :
    (convert 46 9 (.slice (some ⟨w.heap.size, 0, none⟩) 1 1)).run Tryz.prog (w.alloc (.cells #[.int .u8 x] 5)) = .ok (.string ⟨#[UInt8.ofNat x.toNat]⟩) (w.alloc (.cells #[.int .u8 x] 5)) := by
  refine run_convert_bytes_arg _ 46 5 Tryz.underlying46 Tryz.underlying5 w.heap.size 0 1 1 [x] rfl (fun i hi => ?_) 9 Tryz.underlying9
  obtain rfl : i = 0 := by omega
  rw [cell_of_row _ _ _ _ _ (0, 0) (heap_alloc_new w _)]
  rfl

theorem index_str (t : ByteArray) (n : Nat) (h : n < t.size) (z : Int) (hz : z = (n : Int)) (w : World) : (Instr.index 9 (.string t) (.int .i64 z)).run Tryz.prog w = .ok (.int .u8 (t[n].toNat : Int)) w := by
  subst hz
  have h0 : (0 : Int) ≤ (n : Int) := by omega
  have h1 : t[n]? = some t[n] := getElem?_pos t n h
  simp only [Instr.index, asIntOf, Sem.run_bind, Sem.run_pure, Result.andThen_ok, run_underlying Tryz.underlying9, h0, if_true, Int.toNat_natCast, h1]

theorem wb_ways {b : UInt8} {x : Nat} (hx : b.toNat = x) (h : wb b = false) : x < 97 ∨ (97 ≤ x ∧ 122 < x) := by
  unfold wb at h
  rw [hx] at h
  simp at h
  omega

set_option maxHeartbeats 1600000 in
theorem isWord_any (s : ByteArray) (w : World) :
    Calls Tryz.prog 99 #[.string s] w fun e w' => e = .returned (.bool (Fi.wd s.data.toList)) ∧ w' = w := by
  rw [wd_is]
  by_cases h1 : s.size < 1
  · go_enter Tryz.func99, Tryz.ntmps99
    go_wp2
    go_ret
    exact ⟨by simp; omega, rfl⟩
  · by_cases h2 : 5 < s.size
    · have d1 : decide ((s.size : Int) < 1) = false := by simp; omega
      go_enter Tryz.func99, Tryz.ntmps99
      go_wp2
      go_ret
      exact ⟨by simp; omega, rfl⟩
    · have d1 : decide ((s.size : Int) < 1) = false := by simp; omega
      have d2 : decide (5 < (s.size : Int)) = false := by simp; omega
      have e1 : (decide (1 ≤ s.size) && decide (s.size ≤ 5)) = true := by simp; omega
      rw [e1, Bool.true_and]
      clear e1
      go_enter Tryz.func99, Tryz.ntmps99
      go_wp2
      go_loopg [14] s.size (fun gh v wr => ∃ k : Nat, s.size - k ≤ gh ∧ k ≤ s.size ∧ v = .int .i64 (k : Int) ∧ wr = w ∧ Aside (∀ i, i < k → (hi : i < s.size) → wb s[i] = true))
      case atStart => exact ⟨0, by omega, by omega, rfl, rfl, (fun i hi _ => absurd hi (Nat.not_lt_zero _) : ∀ i, i < 0 → (hi : i < s.size) → wb s[i] = true)⟩
      case round =>
        obtain ⟨k, hgh, hk, rfl, rfl, I⟩ := hrel
        by_cases hlt : k < s.size
        · have d3 : decide (k < s.size) = true := by simpa using hlt
          have d3' : decide ((k : Int) < (s.size : Int)) = true := by simpa using hlt
          cases hq : wb s[k] with
          | true =>
            have I2 : Aside (∀ i, i < k + 1 → (hi : i < s.size) → wb s[i] = true) := fun i hi hs => by
              by_cases h : i = k
              · subst h; exact hq
              · exact I.out i (by omega) hs
            have x0 := index_str s k hlt (k : Int) rfl
            obtain ⟨x, hx⟩ : ∃ x, s[k].toNat = x := ⟨_, rfl⟩
            have hx' : 97 ≤ x ∧ x ≤ 122 := by
              unfold wb at hq
              rw [hx] at hq
              simpa using hq
            rw [hx] at x0
            have d4 : decide ((x : Int) < 97) = false := by simp; omega
            have d5 : decide (122 < (x : Int)) = false := by simp; omega
            clear hq I hx
            go_wp2
            go_roundg (s.size - (k + 1))
            case measure => omega
            case rel => exact ⟨k + 1, Nat.le_refl _, by omega, by go_num, rfl, I2⟩
          | false =>
            have F : Aside (s.data.toList.all wb = false) := all_not_get wb k hlt hq
            have x0 := index_str s k hlt (k : Int) rfl
            obtain ⟨x, hx⟩ : ∃ x, s[k].toNat = x := ⟨_, rfl⟩
            have hx' := wb_ways hx hq
            rw [hx] at x0
            clear hq I hx
            rcases hx' with hx' | ⟨hx', hx''⟩
            · have d4 : decide ((x : Int) < 97) = true := by simp; omega
              go_wp2
              go_ret
              exact ⟨by rw [F.out]; rfl, rfl⟩
            · have d4 : decide ((x : Int) < 97) = false := by simp; omega
              have d5 : decide (122 < (x : Int)) = true := by simp; omega
              go_wp2
              go_ret
              exact ⟨by rw [F.out]; rfl, rfl⟩
        · have d3 : decide (k < s.size) = false := by simpa using hlt
          have d3' : decide ((k : Int) < (s.size : Int)) = false := by simpa using hlt
          have F : Aside (s.data.toList.all wb = true) := all_of_get wb fun i hi => I.out i (by omega) hi
          clear I
          go_wp2
          go_ret
          exact ⟨by rw [F.out]; rfl, rfl⟩

/-- What holds at each round's head of the loop. -/
def DRel (n : Nat) (w : World) (s0 v : Value) (wr : World) (m : Nat) : Prop :=
  ∃ (l : List UInt8), s0 = .int .i64 (m : Int) ∧ v = .string ⟨l.toArray⟩ ∧ l.length + (if m = 0 then [] else Lib.decDigits m).length ≤ 20 ∧ (if m = 0 then [] else Lib.decDigits m) ++ l = Lib.decDigits n ∧ Below w.heap.size w wr

theorem dec_len (n : Nat) (h : n ≤ 99999) : (Lib.decDigits n).length ≤ 5 := by
  rw [Lib.decDigits_length]
  by_cases h1 : n < 10
  · rw [Lib.nDigits_small h1]; omega
  rw [Lib.nDigits_big h1]
  by_cases h2 : n / 10 < 10
  · rw [Lib.nDigits_small h2]; omega
  rw [Lib.nDigits_big h2]
  by_cases h3 : n / 10 / 10 < 10
  · rw [Lib.nDigits_small h3]; omega
  rw [Lib.nDigits_big h3]
  by_cases h4 : n / 10 / 10 / 10 < 10
  · rw [Lib.nDigits_small h4]; omega
  rw [Lib.nDigits_big h4]
  rw [Lib.nDigits_small (by omega)]
  omega

theorem dec_step {n m : Nat} {l : List UInt8} (h : 0 < m) (hc : (if m = 0 then [] else Lib.decDigits m) ++ l = Lib.decDigits n) : (if m / 10 = 0 then [] else Lib.decDigits (m / 10)) ++ UInt8.ofNat (48 + m % 10) :: l = Lib.decDigits n := by
  rw [Fi.dec_more l h]
  rw [if_neg (by omega)] at hc
  exact hc

theorem dec_cat {n m : Nat} {l : List UInt8} (hn : n ≤ 99999) (hc : (if m = 0 then [] else Lib.decDigits m) ++ l = Lib.decDigits n) : l.length + (if m = 0 then [] else Lib.decDigits m).length ≤ 20 := by
  have h1 := congrArg List.length hc
  have h2 := dec_len n hn
  rw [List.length_append] at h1
  omega

set_option maxHeartbeats 1600000 in
set_option maxRecDepth 1000000 in
theorem digits_any (n : Nat) (w : World) (h0 : 0 < n) (hn : n ≤ 99999) :
    Calls Tryz.prog 72 #[.int .i64 (n : Int)] w fun e w' => e = .returned (.string ⟨(Lib.decDigits n).toArray⟩) ∧ Below w.heap.size w w' := by
  have hc := conv_one
  have S0 : Aside ((if n / 10 = 0 then [] else Lib.decDigits (n / 10)) ++ [UInt8.ofNat (48 + n % 10)] = Lib.decDigits n) := dec_step (l := []) h0 (by rw [if_neg (by omega)]; simp)
  go_enter Tryz.func72, Tryz.ntmps72
  go_wp2
  go_loopg [0, 3] (n / 10) (fun gh s0 v wr => ∃ m, m ≤ gh ∧ m ≤ 99999 ∧ DRel n w s0 v wr m)
  case atStart =>
    refine ⟨n / 10, Nat.le_refl _, by omega, [UInt8.ofNat (48 + n % 10)], by simp, ?_, dec_cat hn S0.out, S0.out, (Below.refl _ _).alloc (Nat.le_refl _) _⟩
    simp
  case round =>
    obtain ⟨m, hgh, hm, l, rfl, rfl, hl, hcat, hbel⟩ := hrel
    by_cases hlt : 0 < m
    · have R : Aside (∀ o : Obj, DRel n w (.int .i64 ((m : Int) / 10)) (.string (⟨#[48 + UInt8.ofNat (m % 10)]⟩ ++ ⟨l.toArray⟩)) (wr.alloc o) (m / 10)) := fun o => by
        have hs := dec_step hlt hcat
        exact ⟨UInt8.ofNat (48 + m % 10) :: l, by simp, by rw [show (48 : UInt8) + UInt8.ofNat (m % 10) = UInt8.ofNat (48 + m % 10) from (UInt8.ofNat_add 48 _).symm, show (ByteArray.mk #[UInt8.ofNat (48 + m % 10)]) ++ ⟨l.toArray⟩ = ⟨(UInt8.ofNat (48 + m % 10) :: l).toArray⟩ from mk_append [_] l], dec_cat hn hs, hs, hbel.alloc hbel.size _⟩
      have hll : l.length ≤ 20 := by omega
      have hsz := size_mk l
      clear hl hcat hbel S0
      go_wp2
      go_roundg (m / 10)
      case measure => omega
      case rel =>
        exact ⟨m / 10, Nat.le_refl _, by omega, R.out _⟩
    · obtain rfl : m = 0 := by omega
      rw [if_pos rfl, List.nil_append] at hcat
      subst hcat
      go_wp2
      go_ret
      exact ⟨rfl, hbel⟩
end Go.Proofs.YtajjcfacbnicnaaGreatDoor

/-
  The name of a word and a number, by the program and by the document.
-/
namespace Go.Proofs.YtajjcfacbnicnaaGreatDoor
open Go.RowKit
set_option maxRecDepth 100000

def nmB (s : ByteArray) (n : Int) : ByteArray := ⟨(Fi.nm s.data.toList n).toArray⟩

theorem nmB_none {s : ByteArray} {n : Int} (h : ¬ (Fi.wd s.data.toList = true ∧ 1 ≤ n ∧ n ≤ 99999)) : nmB s n = ⟨#[]⟩ := by
  unfold nmB
  rw [Fi.nm_empty.2 h]

theorem nmB_some {s : ByteArray} {n : Int} (hw : Fi.wd s.data.toList = true) (h1 : 1 ≤ n) (h2 : n ≤ 99999) : nmB s n = (s ++ ⟨#[46]⟩) ++ ⟨(Lib.decDigits n.toNat).toArray⟩ := by
  unfold nmB
  rw [Fi.nm_in hw h1 h2]
  conv => rhs; rw [← mk_data s]
  rw [show (ByteArray.mk #[46]) = ⟨[46].toArray⟩ from rfl, mk_append, mk_append]
  simp

theorem wd_size {s : ByteArray} (h : Fi.wd s.data.toList = true) : 1 ≤ s.size ∧ s.size ≤ 5 := by
  have := Fi.wd_iff.1 h
  exact ⟨this.1, this.2.1⟩

set_option maxHeartbeats 1600000 in
theorem name_any (s : ByteArray) (n : Int) (w : World) (hv : Vars w) :
    Calls Tryz.prog 80 #[.string s, .int .i64 n] w fun e w' => e = .returned (.string (nmB s n)) ∧ Below w.heap.size w w' := by
  have k0 := isWord_any s w
  cases hw : Fi.wd s.data.toList with
  | false =>
    rw [hw] at k0
    rw [nmB_none (by rw [hw]; simp)]
    clear hw hv
    go_enter Tryz.func80, Tryz.ntmps80
    go_wp2_with (go_at_call 99; refine k0.mono ?_; rintro e w1 ⟨rfl, rfl⟩)
    go_ret
    exact ⟨rfl, Below.refl _ _⟩
  | true =>
    rw [hw] at k0
    by_cases h1 : n < 1
    · rw [nmB_none (by omega)]
      have d1 : decide (n < 1) = true := decide_eq_true h1
      clear hw hv
      go_enter Tryz.func80, Tryz.ntmps80
      go_wp2_with (go_at_call 99; refine k0.mono ?_; rintro e w1 ⟨rfl, rfl⟩)
      go_ret
      exact ⟨rfl, Below.refl _ _⟩
    · have d1 : decide (n < 1) = false := decide_eq_false h1
      by_cases h2 : 99999 < n
      · rw [nmB_none (by omega)]
        have d2 : decide (99999 < n) = true := decide_eq_true h2
        clear hw hv
        go_enter Tryz.func80, Tryz.ntmps80
        go_wp2_with (go_at_call 99; refine k0.mono ?_; rintro e w1 ⟨rfl, rfl⟩)
        go_ret
        exact ⟨rfl, Below.refl _ _⟩
      · have d2 : decide (99999 < n) = false := decide_eq_false h2
        have k1 := itoa_any n (by omega) (by omega) w hv
        have E : Aside (nmB s n = (s ++ ⟨#[46]⟩) ++ ⟨(Lib.decDigits n.toNat).toArray⟩) := nmB_some hw (by omega) (by omega)
        have hz := wd_size hw
        have hd := dec_len n.toNat (by omega)
        have hsz : (ByteArray.mk (Lib.decDigits n.toNat).toArray).size = (Lib.decDigits n.toNat).length := size_mk _
        have hs1 : (s ++ ⟨#[46]⟩).size = s.size + 1 := by rw [ByteArray.size_append]; rfl
        clear hw hv
        generalize ByteArray.mk (Lib.decDigits n.toNat).toArray = D at *
        generalize (Lib.decDigits n.toNat).length = DL at *
        go_enter Tryz.func80, Tryz.ntmps80
        go_wp2_with (first
          | (go_at_call 99; refine k0.mono ?_; rintro e w1 ⟨rfl, rfl⟩)
          | (go_at_call 100; refine k1.mono ?_; rintro e w2 ⟨rfl, hb⟩))
        go_ret
        exact ⟨by rw [E.out]; rfl, hb⟩

set_option maxHeartbeats 3200000 in
theorem refName_any (s : ByteArray) (n : Int) (w : World) :
    Calls Tryz.prog 32 #[.string s, .int .i64 n] w fun e w' => e = .returned (.string (nmB s n)) ∧ Below w.heap.size w w' := by
  have H0 : ∀ h : ¬ (Fi.wd s.data.toList = true ∧ 1 ≤ n ∧ n ≤ 99999), nmB s n = ⟨#[]⟩ := fun h => nmB_none h
  by_cases g1 : s.size < 1
  · rw [H0 fun h => by have := wd_size h.1; omega]
    have d1 : decide ((s.size : Int) < 1) = true := by simp; omega
    clear H0
    go_enter Tryz.func32, Tryz.ntmps32
    go_wp2
    go_ret
    exact ⟨rfl, Below.refl _ _⟩
  have d1 : decide ((s.size : Int) < 1) = false := by simp; omega
  by_cases g2 : 5 < s.size
  · rw [H0 fun h => by have := wd_size h.1; omega]
    have d2 : decide (5 < (s.size : Int)) = true := by simp; omega
    clear H0
    go_enter Tryz.func32, Tryz.ntmps32
    go_wp2
    go_ret
    exact ⟨rfl, Below.refl _ _⟩
  have d2 : decide (5 < (s.size : Int)) = false := by simp; omega
  by_cases g3 : n < 1
  · rw [H0 fun h => by omega]
    have d3 : decide (n < 1) = true := decide_eq_true g3
    clear H0
    go_enter Tryz.func32, Tryz.ntmps32
    go_wp2
    go_ret
    exact ⟨rfl, Below.refl _ _⟩
  have d3 : decide (n < 1) = false := decide_eq_false g3
  by_cases g4 : 99999 < n
  · rw [H0 fun h => by omega]
    have d4 : decide (99999 < n) = true := decide_eq_true g4
    clear H0
    go_enter Tryz.func32, Tryz.ntmps32
    go_wp2
    go_ret
    exact ⟨rfl, Below.refl _ _⟩
  have d4 : decide (99999 < n) = false := decide_eq_false g4
  have hwd : Fi.wd s.data.toList = s.data.toList.all wb := by
    rw [wd_is, show (decide (1 ≤ s.size) && decide (s.size ≤ 5)) = true by simp; omega, Bool.true_and]
  obtain ⟨m, hm⟩ : ∃ m : Nat, n = (m : Int) := ⟨n.toNat, by omega⟩
  subst hm
  have K : Aside (∀ u, Calls Tryz.prog 72 #[.int .i64 (m : Int)] u fun e w' => e = .returned (.string ⟨(Lib.decDigits m).toArray⟩) ∧ Below u.heap.size u w') := fun u => digits_any m u (by omega) (by omega)
  have E : Aside (s.data.toList.all wb = true → nmB s (m : Int) = (s ++ ⟨#[46]⟩) ++ ⟨(Lib.decDigits m).toArray⟩) := fun h => by
    have := nmB_some (n := (m : Int)) (hwd.trans h) (by omega) (by omega)
    exact this
  have N : Aside (s.data.toList.all wb = false → nmB s (m : Int) = ⟨#[]⟩) := fun h => H0 fun h' => by rw [hwd, h] at h'; exact absurd h'.1 (by simp)
  have hd := dec_len m (by omega)
  have hsz : (ByteArray.mk (Lib.decDigits m).toArray).size = (Lib.decDigits m).length := size_mk _
  have hs1 : (s ++ ⟨#[46]⟩).size = s.size + 1 := by rw [ByteArray.size_append]; rfl
  clear H0 hwd
  generalize ByteArray.mk (Lib.decDigits m).toArray = D at *
  generalize (Lib.decDigits m).length = DL at *
  go_enter Tryz.func32, Tryz.ntmps32
  go_wp2
  go_loopg [5] s.size (fun gh v wr => ∃ k : Nat, s.size - k ≤ gh ∧ k ≤ s.size ∧ v = .int .i64 (k : Int) ∧ wr = w ∧ Aside (∀ i, i < k → (hi : i < s.size) → wb s[i] = true))
  case atStart => exact ⟨0, by omega, by omega, rfl, rfl, (fun i hi _ => absurd hi (Nat.not_lt_zero _) : ∀ i, i < 0 → (hi : i < s.size) → wb s[i] = true)⟩
  case round =>
    obtain ⟨k, hgh, hk, rfl, rfl, I⟩ := hrel
    by_cases hlt : k < s.size
    · have e3 : decide (k < s.size) = true := by simpa using hlt
      have e3' : decide ((k : Int) < (s.size : Int)) = true := by simpa using hlt
      cases hq : wb s[k] with
      | true =>
        have I2 : Aside (∀ i, i < k + 1 → (hi : i < s.size) → wb s[i] = true) := fun i hi hs => by
          by_cases h : i = k
          · subst h; exact hq
          · exact I.out i (by omega) hs
        have x0 := index_str s k hlt (k : Int) rfl
        obtain ⟨x, hx⟩ : ∃ x, s[k].toNat = x := ⟨_, rfl⟩
        have hx' : 97 ≤ x ∧ x ≤ 122 := by
          unfold wb at hq
          rw [hx] at hq
          simpa using hq
        rw [hx] at x0
        have e4 : decide ((x : Int) < 97) = false := by simp; omega
        have e5 : decide (122 < (x : Int)) = false := by simp; omega
        clear hq I hx
        go_wp2
        go_roundg (s.size - (k + 1))
        case measure => omega
        case rel => exact ⟨k + 1, Nat.le_refl _, by omega, by go_num, rfl, I2⟩
      | false =>
        have F : Aside (nmB s (m : Int) = ⟨#[]⟩) := N.out (all_not_get wb k hlt hq)
        have x0 := index_str s k hlt (k : Int) rfl
        obtain ⟨x, hx⟩ : ∃ x, s[k].toNat = x := ⟨_, rfl⟩
        have hx' := wb_ways hx hq
        rw [hx] at x0
        clear hq I hx
        rcases hx' with hx' | ⟨hx', hx''⟩
        · have e4 : decide ((x : Int) < 97) = true := by simp; omega
          go_wp2
          go_ret
          exact ⟨by rw [F.out]; rfl, Below.refl _ _⟩
        · have e4 : decide ((x : Int) < 97) = false := by simp; omega
          have e5 : decide (122 < (x : Int)) = true := by simp; omega
          go_wp2
          go_ret
          exact ⟨by rw [F.out]; rfl, Below.refl _ _⟩
    · have e3 : decide (k < s.size) = false := by simpa using hlt
      have e3' : decide ((k : Int) < (s.size : Int)) = false := by simpa using hlt
      have F : Aside (nmB s (m : Int) = (s ++ ⟨#[46]⟩) ++ D) := E.out (all_of_get wb fun i hi => I.out i (by omega) hi)
      clear I
      go_wp2_with (go_at_call 72; refine (K.out _).mono ?_; rintro e w2 ⟨rfl, hb⟩)
      go_ret
      exact ⟨by rw [F.out]; rfl, hb⟩
end Go.Proofs.YtajjcfacbnicnaaGreatDoor
