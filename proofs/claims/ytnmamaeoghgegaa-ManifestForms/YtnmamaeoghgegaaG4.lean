/-
  Ytnmamaeoghgegaa: the texts PMath3, PB4, PQ, PR1, one behind the other.
-/
import Derived.Test.YtnmamaeoghgegaaG1
import Derived.WalkKit
import Derived.BigQuiet
/-
  Plain mathematics: the document's reader of a number answers for any bytes as the program's reader does.
-/
namespace Go.Proofs.Ytnmamaeoghgegaa.Pa.Pk

/-- The document's reader of s, from the k-th byte on, m being read. -/
def fscan (s : List UInt8) : List UInt8 → Nat → Nat → Nat × Nat
  | [], _, _ => (0, 0)
  | c :: t, m, k =>
    if 9 ≤ k then (0, 0)
    else if c.toNat < 128 then
      if 4611686018427387904 < m * 128 + c.toNat % 128 then (0, 0)
      else if numB (m * 128 + c.toNat % 128) = s.take (k + 1) then (m * 128 + c.toNat % 128, k + 1) else (0, 0)
    else fscan s t (m * 128 + c.toNat % 128) (k + 1)

theorem fscan_big (s : List UInt8) : ∀ (t : List UInt8) (m k : Nat), 36028797018963968 < m → fscan s t m k = (0, 0)
  | [], _, _, _ => rfl
  | c :: t, m, k, h => by
    rw [fscan]
    by_cases h9 : 9 ≤ k
    · rw [if_pos h9]
    · rw [if_neg h9]
      by_cases hc : c.toNat < 128
      · rw [if_pos hc, if_pos (by omega)]
      · rw [if_neg hc]
        exact fscan_big s t _ _ (by omega)

theorem scan_big (c : UInt8) (t : List UInt8) (m k : Nat) (h : 36028797018963968 < m) : scan (c :: t) m k = (0, 0) := by
  rw [scan, if_pos h]

/-- What has been read is a number's beginning. -/
def Began (pre : List UInt8) (m k : Nat) : Prop := pre.length = k ∧ ((k = 0 ∧ m = 0) ∨ (hi k m = pre ∧ m ≠ 0 ∧ m < 128 ^ k))

theorem numB_end {pre : List UInt8} {m k : Nat} (h : Began pre m k) (hk : k < 9) (c : UInt8) (hc : c.toNat < 128) : numB (m * 128 + c.toNat % 128) = pre ++ [c] := by
  unfold numB
  have e1 : (m * 128 + c.toNat % 128) / 128 = m := by omega
  have e2 : (m * 128 + c.toNat % 128) % 128 = c.toNat := by omega
  rw [e1, e2]
  congr 1
  · rcases h.2 with ⟨h1, h2⟩ | ⟨h1, h2, h3⟩
    · rw [h2, hi_zero]
      have := h.1
      rw [h1] at this
      exact (List.length_eq_zero_iff.1 this).symm
    · rw [← h1]
      refine hi_room 9 k m ?_ h3
      exact Nat.lt_of_lt_of_le h3 (Nat.pow_le_pow_right (by omega) (by omega))
  · simp

theorem began_step {pre : List UInt8} {m k : Nat} (h : Began pre m k) (c : UInt8) (hc : 128 ≤ c.toNat) (h0 : k = 0 → c ≠ 128) : Began (pre ++ [c]) (m * 128 + c.toNat % 128) (k + 1) := by
  have hl := c.toNat_lt
  refine ⟨by rw [List.length_append, h.1]; rfl, Or.inr ?_⟩
  rcases h.2 with ⟨h1, h2⟩ | ⟨h1, h2, h3⟩
  · subst h1 h2
    have hp : pre = [] := List.length_eq_zero_iff.1 h.1
    have h1 : c.toNat ≠ 128 := fun e => h0 rfl (by rw [← UInt8.toNat_inj]; exact e)
    rw [hp, hi_one 0 c hc (h0 rfl)]
    refine ⟨rfl, by omega, ?_⟩
    simp
    omega
  · rw [hi_snoc k m h2 c hc, h1]
    refine ⟨rfl, by omega, ?_⟩
    rw [Nat.pow_succ]
    omega

theorem began_big {pre : List UInt8} {m k : Nat} (h : Began pre m k) (hk : 9 ≤ k) : 36028797018963968 < m := by
  rcases h.2 with ⟨h1, _⟩ | ⟨h1, h2, h3⟩
  · omega
  · obtain ⟨_, _, a⟩ := hi_spec k m h3 h2
    rw [h1, h.1] at a
    have := Nat.pow_le_pow_right (n := 128) (by omega) (show 8 ≤ k - 1 by omega)
    rw [pow8] at this
    omega

theorem fscan_scan (s : List UInt8) (hs : s.head? ≠ some 128) : ∀ (t pre : List UInt8) (m k : Nat), Began pre m k → s = pre ++ t → fscan s t m k = scan t m k
  | [], _, _, _, _, _ => rfl
  | c :: t, pre, m, k, hb, he => by
    by_cases hbig : 36028797018963968 < m
    · rw [fscan_big s _ _ _ hbig, scan_big c t m k hbig]
    · have h9 : ¬ 9 ≤ k := fun h => hbig (began_big hb h)
      have hcl := c.toNat_lt
      rw [fscan, scan, if_neg h9, if_neg hbig]
      by_cases hc : c.toNat < 128
      · rw [if_pos hc, if_pos hc]
        have ht : s.take (k + 1) = pre ++ [c] := by
          rw [he, ← hb.1, List.take_append, List.take_of_length_le (by omega)]
          simp
        rw [ht, numB_end hb (by omega) c hc, if_pos rfl]
      · rw [if_neg hc, if_neg hc]
        by_cases h62 : 4611686018427387904 < m * 128 + c.toNat % 128
        · rw [if_pos h62, fscan_big s t _ _ (by omega)]
        · rw [if_neg h62]
          refine fscan_scan s hs t (pre ++ [c]) _ _ (began_step hb c (by omega) ?_) (by rw [he]; simp)
          intro hk
          subst hk
          have hp : pre = [] := List.length_eq_zero_iff.1 hb.1
          rw [he, hp] at hs
          simpa using hs

theorem numB_head {n : Nat} (hn : n ≤ 4611686018427387904) (h : (numB n).head? = some 128) : False := by
  have := headB_numB n [] hn
  rw [List.append_nil] at this
  unfold headB at this
  rw [if_pos h] at this
  have hl := numB_len hn
  simp at this
  rw [← this.2] at hl
  simp at hl

theorem fscan_128 (s : List UInt8) (hs : s.head? = some 128) : ∀ (t : List UInt8) (m k : Nat), fscan s t m k = (0, 0)
  | [], _, _ => rfl
  | c :: t, m, k => by
    rw [fscan]
    by_cases h9 : 9 ≤ k
    · rw [if_pos h9]
    · rw [if_neg h9]
      by_cases hc : c.toNat < 128
      · rw [if_pos hc]
        by_cases h62 : 4611686018427387904 < m * 128 + c.toNat % 128
        · rw [if_pos h62]
        · rw [if_neg h62, if_neg]
          intro e
          refine numB_head (n := m * 128 + c.toNat % 128) (by omega) ?_
          rw [e]
          cases s with
          | nil => simp at hs
          | cons a s => simpa using hs
      · rw [if_neg hc]
        exact fscan_128 s hs t _ _

/-- The two readers answer alike. -/
theorem first_head (s : List UInt8) : fscan s s 0 0 = headB s := by
  unfold headB
  by_cases h : s.head? = some 128
  · rw [if_pos h]
    exact fscan_128 s h s 0 0
  · rw [if_neg h]
    exact fscan_scan s h s [] 0 0 ⟨rfl, Or.inl ⟨rfl, rfl⟩⟩ rfl
end Go.Proofs.Ytnmamaeoghgegaa.Pa.Pk

/-
  What was laid is read: a number, a text, bytes at the beginning of what an Opener holds.
-/
namespace Go.Proofs.Ytnmamaeoghgegaa.Pa
open Go.RowKit

theorem ext_drop (a b : List UInt8) (n : Nat) (hn : n = a.length) : (ByteArray.mk (a ++ b).toArray).extract n (ByteArray.mk (a ++ b).toArray).size = ⟨b.toArray⟩ := by
  apply ByteArray.ext
  apply Array.toList_inj.1
  rw [ByteArray.data_extract, size_mk]
  simp [hn]

theorem ext_take (a b : List UInt8) (n : Nat) (hn : n = a.length) : (ByteArray.mk (a ++ b).toArray).extract 0 n = ⟨a.toArray⟩ := by
  apply ByteArray.ext
  apply Array.toList_inj.1
  rw [ByteArray.data_extract]
  simp [hn]

theorem readNum (b n : Nat) (t : List UInt8) (most : Int) (w : World) (h : At w b 114 ⟨(Pk.numB n ++ t).toArray⟩ false) (hn : n ≤ 4611686018427387904) (hm : (n : Int) ≤ most) (hs : (Pk.numB n ++ t).length ≤ 1000000) :
    Calls Try.prog 77 #[.pointer (some ⟨b, 0, none⟩), .int .i64 most] w fun e w' => e = .returned (.int .i64 (n : Int)) ∧ At w' b 114 ⟨t.toArray⟩ false ∧ Upd b w w' := by
  have hl := Pk.numB_len hn
  have k := oNum_yes b _ most w h (by rw [size_mk]; exact hs) (n, (Pk.numB n).length) (Pk.headB_numB n t hn).symm (by show (Pk.numB n).length ≠ 0; omega) hm
  rw [ext_drop _ _ _ rfl] at k
  exact k

theorem readRaw (b : Nat) (s : ByteArray) (t : List UInt8) (w : World) (h : At w b 114 ⟨(s.data.toList ++ t).toArray⟩ false) (hs : (s.data.toList ++ t).length ≤ 1000000) :
    Calls Try.prog 76 #[.pointer (some ⟨b, 0, none⟩), .int .i64 (s.size : Int)] w fun e w' => e = .returned (.string s) ∧ At w' b 114 ⟨t.toArray⟩ false ∧ Upd b w w' := by
  have hd : s.data.toList.length = s.size := by rw [Array.length_toList]; rfl
  have k := oRaw_yes b s.size _ w h (by rw [size_mk (s.data.toList ++ t), List.length_append]; omega) (by rw [size_mk]; exact hs)
  rw [ext_drop _ _ _ hd.symm, ext_take _ _ _ hd.symm, mk_data] at k
  exact k

/-- The bytes of m items from the k-th on. -/
def rst (kd : Nat → Nat) (nm : Nat → Int) (st : Nat → ByteArray) : Nat → Nat → List UInt8
  | 0, _ => []
  | m + 1, k => encI (kd k) (nm k) (st k) ++ rst kd nm st m (k + 1)

theorem cat_rst (kd : Nat → Nat) (nm : Nat → Int) (st : Nat → ByteArray) : ∀ m k, cat kd nm st k ++ rst kd nm st m k = cat kd nm st (k + m)
  | 0, k => by simp [rst]
  | m + 1, k => by
    rw [rst, ← List.append_assoc, ← cat, cat_rst kd nm st m (k + 1)]
    congr 1
    omega

theorem okk_all (kd : Nat → Nat) (nm : Nat → Int) : ∀ len, okk kd nm len = true → ∀ j, j < len → okI (kd j) (nm j) = true
  | 0, _, j, hj => by omega
  | n + 1, h, j, hj => by
    rw [okk, Bool.and_eq_true] at h
    rcases Nat.lt_succ_iff_lt_or_eq.1 hj with h1 | h1
    · exact okk_all kd nm n h.1 j h1
    · rw [h1]
      exact h.2

theorem okI_num {kd : Nat} {n : Int} (h : okI kd n = true) (h0 : kd % 3 = 0) : 0 ≤ n ∧ n ≤ 4611686018427387904 := by
  unfold okI at h
  rw [Bool.not_eq_true', decide_eq_false_iff_not] at h
  omega
end Go.Proofs.Ytnmamaeoghgegaa.Pa

/-
  A region whose order is left open, whose operations only read and whose callees may make memory of their own: one walk, in the order of the text, serves every order.
-/
namespace Go.Proofs.Ytnmamaeoghgegaa.Pa
open Go.RowKit

/-- A world that has come of w: what lay in w is as it was. -/
structure Later (w : World) where
  u : World
  bel : Below w.heap.size w u

theorem later_some (w : World) : Nonempty (Later w) := ⟨⟨w, Below.refl _ _⟩⟩

theorem wp_region_later {P : Program} {id : Nat} {Q : Exit → Act → World → Prop} {a : Act} {w : World} {l : List Oper} (hm : P.follows .mixedOrders = true) (hB : Region.lexB .any l.toArray = true)
    (h : wpQuiet P l.toArray (fun w' => ∃ q : Later w, w' = q.u) (fun a' => ∀ w', (∃ q : Later w, w' = q.u) → Q .normal a' w') l a) : (Code.region id l.toArray true).wp P Q a w :=
  wp_region_quiet (C := fun w' => ∃ q : Later w, w' = q.u) hm hB ⟨⟨_, (Below.refl _ _).drew⟩, rfl⟩ (by simpa using h)

theorem calls_later {P : Program} {f : FuncId} {args : Array Value} {w : World} {q : Later w} {v : Value} (h : Calls P f args q.u fun e w' => e = .returned v ∧ Below q.u.heap.size q.u w') :
    Calls P f args q.u fun e w' => e = .returned v ∧ ∃ p : Later w, w' = p.u :=
  h.mono fun _ w' ⟨he, hb⟩ => ⟨he, ⟨w', q.bel.trans (hb.mono q.bel.size)⟩, rfl⟩
end Go.Proofs.Ytnmamaeoghgegaa.Pa

/-
  The document's reader of a number's bytes, walked.
-/
namespace Go.Proofs.Ytnmamaeoghgegaa.Pa
open Go.RowKit

theorem below_drewN {w : World} (n : Nat) : Below w.heap.size w (w.drewN n) := ⟨rfl, rfl, rfl, Nat.le_refl _, fun _ _ => rfl⟩

set_option maxHeartbeats 1600000 in
set_option maxRecDepth 100000 in
theorem first_core (s : ByteArray) (w : World) (hs : s.size ≤ 1000000) (p : Nat × Nat) (HP : Hid (p = Pk.fscan s.data.toList s.data.toList 0 0)) :
    Calls Try.prog 42 #[.string s] w fun e w' => e = .returned (.tuple #[.int .i64 (p.1 : Int), .int .i64 (p.2 : Int)]) ∧ Below w.heap.size w w' := by
  go_enter Try.func42, Try.ntmps42
  go_wp2
  go_loopg [4, 5] s.size (fun gh v4 v5 wr => ∃ k m : Nat, s.size - k ≤ gh ∧ k ≤ s.size ∧ k ≤ 9 ∧ v5 = .int .i64 (k : Int) ∧ v4 = .int .i64 (m : Int) ∧ m < 128 ^ k ∧ p = Pk.fscan s.data.toList (s.data.toList.drop k) m k ∧ wr = w)
  case atStart => exact ⟨0, 0, by omega, by omega, by omega, rfl, rfl, by decide, HP.out, rfl⟩
  case round =>
    obtain ⟨k, m, hgh, hk, hk9, rfl, rfl, hm, hpk, rfl⟩ := hrel
    have HK : Hid (p = Pk.fscan s.data.toList (s.data.toList.drop k) m k ∧ m < 128 ^ k) := ⟨hpk, hm⟩
    clear hpk hm
    by_cases hlt : k < s.size
    · have d1 : decide ((k : Int) < (s.size : Int)) = true := by simpa using hlt
      by_cases h9 : k < 9
      · have d2 : decide ((k : Int) < 9) = true := by simp; omega
        have hm63 : m < 72057594037927936 := by
          have h1 := HK.out.2
          have h2 := Nat.pow_le_pow_right (n := 128) (by omega) (show k ≤ 8 by omega)
          rw [Pk.pow8] at h2
          omega
        have hcl := s[k].toNat_lt
        by_cases hc : (s[k].toNat : Int) < 128
        · by_cases h62 : 4611686018427387904 < m * 128 + s[k].toNat % 128
          · have d3 : decide (4611686018427387904 < (m : Int) * 128 + (s[k].toNat : Int) % 128) = true := by simp; omega
            go_wp2_with fail
            go_quiet (fail)
            go_wp2
            go_ret2
            have hp0 := HK.out.1
            rw [drop_cons s k hlt, Pk.fscan, if_neg (by omega), if_pos (by omega), if_pos h62] at hp0
            exact ⟨ret2_int (by rw [hp0]; rfl) (by rw [hp0]; rfl), below_drewN _⟩
          · have d3 : decide (4611686018427387904 < (m : Int) * 128 + (s[k].toNat : Int) % 128) = false := by simp; omega
            have d4 : decide ((m : Int) * 128 + (s[k].toNat : Int) % 128 < 0) = false := by simp; omega
            have K8 : Aside (∀ u, Calls Try.prog 35 #[.int .i64 ((m : Int) * 128 + (s[k].toNat : Int) % 128)] u fun e w' => e = .returned (.string ⟨(Pk.numB (m * 128 + s[k].toNat % 128)).toArray⟩) ∧ Below u.heap.size u w') := fun u => by
              have q := refNum_any (m * 128 + s[k].toNat % 128) u (by omega)
              simpa using q
            have ext : (s.extract 0 (k + 1)).toList = s.data.toList.take (k + 1) := by
              rw [ByteArray.toList_eq, ByteArray.data_extract]
              simp
            have hpd := HK.out.1
            rw [drop_cons s k hlt, Pk.fscan, if_neg (by omega), if_pos (by omega), if_neg h62] at hpd
            by_cases heq : Pk.numB (m * 128 + s[k].toNat % 128) = s.data.toList.take (k + 1)
            · have be : (Pk.numB (m * 128 + s[k].toNat % 128) == (s.extract 0 (k + 1)).toList) = true := by
                rw [ext, heq]
                exact beq_self_eq_true _
              rw [if_pos heq] at hpd
              have HD : Hid (p = (m * 128 + s[k].toNat % 128, k + 1)) := hpd
              clear hpd heq ext
              go_wp2_with fail
              have hne := later_some wr
              refine wp_region_later (by kernel_rfl) (by kernel_rfl) ?_
              repeat (go_big_quiet_step ((go_at_call 35; exact calls_later (K8.out _))))
              refine wpQuiet_nil ?_
              rintro _ ⟨q, rfl⟩
              have hq := q.bel
              clear hne
              go_wp2
              go_ret2
              exact ⟨ret2_int (by rw [HD.out]; simp) (by rw [HD.out]; simp), hq⟩
            · have be : (Pk.numB (m * 128 + s[k].toNat % 128) == (s.extract 0 (k + 1)).toList) = false := by
                rw [ext, beq_eq_false_iff_ne]
                exact heq
              rw [if_neg heq] at hpd
              have HD : Hid (p = (0, 0)) := hpd
              clear hpd heq ext
              go_wp2_with fail
              have hne := later_some wr
              refine wp_region_later (by kernel_rfl) (by kernel_rfl) ?_
              repeat (go_big_quiet_step ((go_at_call 35; exact calls_later (K8.out _))))
              refine wpQuiet_nil ?_
              rintro _ ⟨q, rfl⟩
              have hq := q.bel
              clear hne
              go_wp2
              go_ret2
              exact ⟨ret2_int (by rw [HD.out]; rfl) (by rw [HD.out]; rfl), hq⟩
        · have hpd := HK.out.1
          rw [drop_cons s k hlt, Pk.fscan, if_neg (by omega), if_neg (by omega)] at hpd
          have HD : Hid (p = Pk.fscan s.data.toList (s.data.toList.drop (k + 1)) (m * 128 + s[k].toNat % 128) (k + 1)) := hpd
          clear hpd
          go_wp2
          go_roundg (s.size - (k + 1))
          case measure => omega
          case rel => exact ⟨k + 1, m * 128 + s[k].toNat % 128, Nat.le_refl _, by omega, by omega, by go_num, by go_num, by have := HK.out.2; rw [Nat.pow_succ]; omega, HD.out, rfl⟩
      · have d2 : decide ((k : Int) < 9) = false := by simp; omega
        go_wp2
        go_ret2
        have hp0 := HK.out.1
        rw [drop_cons s k hlt, Pk.fscan, if_pos (by omega)] at hp0
        exact ⟨ret2_int (by rw [hp0]; rfl) (by rw [hp0]; rfl), Below.refl _ _⟩
    · have d1 : decide ((k : Int) < (s.size : Int)) = false := by simp; omega
      go_wp2
      go_ret2
      have hp0 := HK.out.1
      rw [List.drop_eq_nil_of_le (by simp; omega), Pk.fscan] at hp0
      exact ⟨ret2_int (by rw [hp0]; rfl) (by rw [hp0]; rfl), Below.refl _ _⟩
theorem first_any (s : ByteArray) (w : World) (hs : s.size ≤ 1000000) (p : Nat × Nat) (HP : Hid (p = Pk.headB s.data.toList)) :
    Calls Try.prog 42 #[.string s] w fun e w' => e = .returned (.tuple #[.int .i64 (p.1 : Int), .int .i64 (p.2 : Int)]) ∧ Below w.heap.size w w' :=
  first_core s w hs p (show p = _ by rw [Pk.first_head]; exact HP.out)
end Go.Proofs.Ytnmamaeoghgegaa.Pa
