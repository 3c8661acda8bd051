/-
  YtpeioecpilmpiaaGreatDoor: the texts JM3, one behind the other.
-/
import Derived.Test.YtpeioecpilmpiaaGreatDoorMF1
/-
  Signs that are quoted, and read again.
-/
namespace Go.Proofs.YtpeioecpilmpiaaGreatDoor
namespace Js
open Lib

/-! signs -/
set_option maxRecDepth 100000 in
theorem decode_same (l l' : B) (hne : l ≠ []) (hv : ¬ ((decodeL l).1 = 65533 ∧ (decodeL l).2 = 1)) (h : l'.take (decodeL l).2 = l.take (decodeL l).2) : decodeL l' = decodeL l ∧ (decodeL l).2 ≤ l.length ∧ (decodeL l).2 ≤ l'.length := by
  have hl : 0 < l.length := List.length_pos_iff.2 hne
  have hg : ∀ j, j < (decodeL l).2 → l'.getD j 0 = l.getD j 0 := fun j hj => by rw [← getD_takeU l' _ j hj, h, getD_takeU l _ j hj]
  have hlen := congrArg List.length h
  rw [List.length_take, List.length_take] at hlen
  have k0 := (l.getD 0 0).toNat_lt
  rw [decodeL_N l'] 
  rw [decodeL_N l] at hv hg hlen ⊢
  rcases decodeN_shape l.length (l.getD 0 0).toNat (l.getD 1 0).toNat (l.getD 2 0).toNat (l.getD 3 0).toNat with ⟨c, e⟩ | ⟨c1, c2, c3, cv, e⟩ | ⟨c1, c2, c3, c4, cv, cs, e⟩ | ⟨c1, c2, c3, c4, c5, cv, cw, e⟩ | e
  · rw [e] at hg hlen ⊢
    dsimp only at hg hlen ⊢
    rw [hg 0 (by omega)]
    exact ⟨decodeN_ascii _ _ _ _ _ c, by omega, by omega⟩
  · rw [e] at hg hlen ⊢
    dsimp only at hg hlen ⊢
    rw [hg 0 (by omega), hg 1 (by omega)]
    refine ⟨?_, by omega, by omega⟩
    unfold decodeN
    repeat' split
    all_goals first | rfl | (exfalso; omega)
  · rw [e] at hg hlen ⊢
    dsimp only at hg hlen ⊢
    rw [hg 0 (by omega), hg 1 (by omega), hg 2 (by omega)]
    refine ⟨?_, by omega, by omega⟩
    unfold decodeN
    repeat' split
    all_goals first | rfl | (exfalso; omega)
  · rw [e] at hg hlen ⊢
    dsimp only at hg hlen ⊢
    rw [hg 0 (by omega), hg 1 (by omega), hg 2 (by omega), hg 3 (by omega)]
    refine ⟨?_, by omega, by omega⟩
    unfold decodeN
    repeat' split
    all_goals first | rfl | (exfalso; omega)
  · rw [e] at hv
    exact absurd ⟨rfl, rfl⟩ hv

theorem validD_app : ∀ (a b : B), validD a = true → validD b = true → validD (a ++ b) = true := by
  intro a b ha hb
  generalize hn : a.length = n
  induction n using Nat.strongRecOn generalizing a with
  | _ n ih =>
    by_cases hne : a = []
    · subst hne; exact hb
    · rw [validD_step a hne] at ha
      split at ha
      · cases ha
      · rename_i hv
        have hlen : (decodeL a).2 ≤ a.length := (decode_same a a hne hv rfl).2.1
        have hw := decodeL_width a
        obtain ⟨e, _, _⟩ := decode_same a (a ++ b) hne hv (by rw [List.take_append_of_le_length hlen])
        rw [validD_step (a ++ b) (by simp [hne]), e, if_neg hv, List.drop_append_of_le_length hlen]
        exact ih _ (by rw [List.length_drop]; omega) _ ha rfl
theorem validD_take (a : B) (hne : a ≠ []) (hv : ¬ ((decodeL a).1 = 65533 ∧ (decodeL a).2 = 1)) : validD (a.take (decodeL a).2) = true := by
  have hw := decodeL_width a
  have hl : 0 < a.length := List.length_pos_iff.2 hne
  obtain ⟨e, h1, h2⟩ := decode_same a (a.take (decodeL a).2) hne hv (by rw [List.take_take, Nat.min_self])
  rw [validD_step _ (by intro h; have := congrArg List.length h; rw [List.length_take, List.length_nil] at this; omega), e, if_neg hv, List.drop_of_length_le (by rw [List.length_take]; omega)]
  rfl
theorem toU8 (z : Int) (_h0 : 0 ≤ z) (h1 : z < 256) : (z.toNat.toUInt8).toNat = z.toNat := by
  simp [Nat.toUInt8]; omega
theorem decode_enc (n : Nat) (h : isScalar n) : decodeL (encodeRune n) = (n, (encodeRune n).length) := by
  unfold isScalar at h
  rw [decodeL_N]
  unfold encodeRune
  by_cases h1 : n ≤ 127
  · rw [encodeRuneZ_one (by omega) (by omega)]
    simp only [List.map_cons, List.map_nil, List.length_cons, List.length_nil, List.getD_cons_zero]
    rw [toU8 _ (by omega) (by omega), decodeN_ascii _ _ _ _ _ (by omega)]
    simp
  · by_cases h2 : n ≤ 2047
    · rw [encodeRuneZ_two (by omega) (by omega)]
      simp only [List.map_cons, List.map_nil, List.length_cons, List.length_nil, List.getD_cons_zero, List.getD_cons_succ]
      rw [toU8 _ (by omega) (by omega), toU8 _ (by omega) (by omega)]
      unfold decodeN
      repeat' split
      all_goals first | (exfalso; omega) | (refine Prod.ext ?_ ?_ <;> simp only [] <;> omega)
    · by_cases h3 : n ≤ 65535
      · rw [encodeRuneZ_three (by omega)]
        simp only [List.map_cons, List.map_nil, List.length_cons, List.length_nil, List.getD_cons_zero, List.getD_cons_succ]
        rw [toU8 _ (by omega) (by omega), toU8 _ (by omega) (by omega), toU8 _ (by omega) (by omega)]
        unfold decodeN
        repeat' split
        all_goals first | (exfalso; omega) | (refine Prod.ext ?_ ?_ <;> simp only [] <;> omega)
      · rw [encodeRuneZ_four (by omega) (by omega)]
        simp only [List.map_cons, List.map_nil, List.length_cons, List.length_nil, List.getD_cons_zero, List.getD_cons_succ]
        rw [toU8 _ (by omega) (by omega), toU8 _ (by omega) (by omega), toU8 _ (by omega) (by omega), toU8 _ (by omega) (by omega)]
        unfold decodeN
        repeat' split
        all_goals first | (exfalso; omega) | (refine Prod.ext ?_ ?_ <;> simp only [] <;> omega)
theorem enc_len (n : Int) : 1 ≤ (encodeRune n).length ∧ (encodeRune n).length ≤ 4 := by
  unfold encodeRune
  rw [List.length_map]
  exact encodeRuneZ_length n
theorem enc_ne (n : Int) : encodeRune n ≠ [] := fun h => by have := (enc_len n).1; rw [h] at this; simp at this
theorem enc_good (n : Nat) (h : isScalar n) : ¬ ((decodeL (encodeRune n)).1 = 65533 ∧ (decodeL (encodeRune n)).2 = 1) := by
  rw [decode_enc n h]
  rintro ⟨h1, h2⟩
  dsimp only at h1 h2
  subst h1
  revert h2
  decide
theorem validD_enc (n : Nat) (h : isScalar n) : validD (encodeRune n) = true := by
  rw [validD_step _ (enc_ne _), if_neg (enc_good n h), decode_enc n h]
  dsimp only
  rw [List.drop_of_length_le (Nat.le_refl _)]
  rfl

/-! quoting -/
def q (t : B) : B := t.flatMap qb
theorem q_app (a b : B) : q (a ++ b) = q a ++ q b := by simp [q]
theorem quote_q (t : B) : quote t = 34 :: q t ++ [34] := rfl
theorem qb_id (x : UInt8) (h1 : 32 ≤ x.toNat) (h2 : x ≠ 34) (h3 : x ≠ 92) : qb x = [x] := by
  have e : ∀ k : Nat, k < 32 → x ≠ UInt8.ofNat k := fun k hk e => by rw [e] at h1; simp at h1; omega
  unfold qb
  rw [if_neg (by simp [h2, h3]), if_neg (show ¬ x = 8 from e 8 (by omega)), if_neg (show ¬ x = 9 from e 9 (by omega)), if_neg (show ¬ x = 10 from e 10 (by omega)), if_neg (show ¬ x = 12 from e 12 (by omega)), if_neg (show ¬ x = 13 from e 13 (by omega)), if_neg (by omega)]
theorem qb_hi (x : UInt8) (h : 128 ≤ x.toNat) : qb x = [x] := qb_id x (by omega) (fun e => by rw [e] at h; simp at h) (fun e => by rw [e] at h; simp at h)
theorem qb_len (x : UInt8) : 1 ≤ (qb x).length ∧ (qb x).length ≤ 6 := by
  unfold qb
  repeat' split
  all_goals simp
theorem q_id : ∀ t : B, (∀ x ∈ t, qb x = [x]) → q t = t
  | [], _ => rfl
  | a :: r, h => by
    have := q_id r (fun x hx => h x (by simp [hx]))
    unfold q at this ⊢
    rw [List.flatMap_cons, this, h a (by simp)]
    rfl
theorem q_len (t : B) : t.length ≤ (q t).length := by
  induction t with
  | nil => simp
  | cons a r ih =>
    have := (qb_len a).1
    unfold q at ih ⊢
    rw [List.flatMap_cons, List.length_append, List.length_cons]
    omega
theorem enc_hi (n : Nat) (h : 128 ≤ n) : ∀ x ∈ encodeRune n, 128 ≤ x.toNat := by
  intro x hx
  unfold encodeRune at hx
  obtain ⟨z, hz, rfl⟩ := List.mem_map.1 hx
  have hb := encodeRuneZ_byte n z hz
  rw [toU8 z hb.1 hb.2]
  unfold encodeRuneZ at hz
  repeat' split at hz
  all_goals (simp at hz; omega)
theorem q_enc_len (n : Nat) : (q (encodeRune n)).length ≤ 6 := by
  by_cases h : 128 ≤ n
  · rw [q_id _ (fun x hx => qb_hi x (enc_hi n h x hx))]
    have := (enc_len n).2
    omega
  · have : encodeRune n = [n.toUInt8] := by
      unfold encodeRune
      rw [encodeRuneZ_one (by omega) (by omega)]
      simp
    rw [this]
    have := (qb_len n.toUInt8).2
    simpa [q] using this
theorem plain_take (b : UInt8) (r : B) (h1 : b ≠ 34) (h2 : b ≠ 92) (h : ¬ ((decodeL (b :: r)).1 < 32 ∨ ((decodeL (b :: r)).1 = 65533 ∧ (decodeL (b :: r)).2 = 1))) :
    q ((b :: r).take (decodeL (b :: r)).2) = (b :: r).take (decodeL (b :: r)).2 := by
  refine q_id _ ?_
  intro x hx
  have hne : (b :: r) ≠ [] := by simp
  have hv : ¬ ((decodeL (b :: r)).1 = 65533 ∧ (decodeL (b :: r)).2 = 1) := fun e => h (.inr e)
  have e := encode_decode (b :: r) hne hv
  by_cases hb : b.toNat < 128
  · rw [decodeL_ascii b r hb] at hx h
    simp only [List.take_succ_cons, List.take_zero, List.mem_cons, List.not_mem_nil, or_false] at hx
    subst hx
    dsimp only at h
    exact qb_id x (by omega) h1 h2
  · refine qb_hi x ?_
    rw [← e] at hx
    refine enc_hi _ ?_ x hx
    rw [decodeL_N] at hv ⊢
    have hb0 : ((b :: r).getD 0 0).toNat = b.toNat := rfl
    have k0 := b.toNat_lt
    rw [hb0] at hv ⊢
    rcases decodeN_shape (b :: r).length b.toNat ((b :: r).getD 1 0).toNat ((b :: r).getD 2 0).toNat ((b :: r).getD 3 0).toNat with ⟨c, e⟩ | ⟨c1, c2, c3, cv, e⟩ | ⟨c1, c2, c3, c4, cv, cs, e⟩ | ⟨c1, c2, c3, c4, c5, cv, cw, e⟩ | e
    · omega
    · rw [e]; exact cv
    · rw [e]; dsimp only; omega
    · rw [e]; dsimp only; omega
    · rw [e] at hv; exact absurd ⟨rfl, rfl⟩ hv

theorem esc_q (l : B) (n : Nat) (r : B) (h : esc l = some (n, r)) : (q (encodeRune n)).length + r.length ≤ 1 + l.length := by
  cases l with
  | nil => simp [esc] at h
  | cons b t =>
    simp only [esc] at h
    repeat' split at h
    all_goals first
      | (simp only [Option.some.injEq, Prod.mk.injEq] at h; obtain ⟨rfl, rfl⟩ := h; have e : (q (encodeRune ((34 : Nat) : Int))).length = 2 := by decide
         first
          | (rw [e, List.length_cons]; omega)
          | (rw [show (q (encodeRune ((92 : Nat) : Int))).length = 2 by decide, List.length_cons]; omega)
          | (rw [show (q (encodeRune ((47 : Nat) : Int))).length = 1 by decide, List.length_cons]; omega)
          | (rw [show (q (encodeRune ((8 : Nat) : Int))).length = 2 by decide, List.length_cons]; omega)
          | (rw [show (q (encodeRune ((12 : Nat) : Int))).length = 2 by decide, List.length_cons]; omega)
          | (rw [show (q (encodeRune ((10 : Nat) : Int))).length = 2 by decide, List.length_cons]; omega)
          | (rw [show (q (encodeRune ((13 : Nat) : Int))).length = 2 by decide, List.length_cons]; omega)
          | (rw [show (q (encodeRune ((9 : Nat) : Int))).length = 2 by decide, List.length_cons]; omega))
      | (have h1 := uni_ok t n r h; have h2 := q_enc_len n; rw [List.length_cons]; omega)
      | cases h

theorem txx_q (l out t r : B) (h : txx l out = some (t, r)) (hv : validD out = true) : (q t).length + 1 + r.length ≤ (q out).length + l.length ∧ validD t = true := by
  generalize hn : l.length = n
  induction n using Nat.strongRecOn generalizing l out with
  | _ n ih =>
    cases l with
    | nil => simp [txx_nil] at h
    | cons b l =>
      simp only [List.length_cons] at hn
      by_cases h1 : b = 34
      · subst h1
        rw [txx_end] at h
        simp only [Option.some.injEq, Prod.mk.injEq] at h
        obtain ⟨rfl, rfl⟩ := h
        exact ⟨by omega, hv⟩
      · by_cases h2 : b = 92
        · subst h2
          rw [txx_esc] at h
          cases he : esc l with
          | none => simp [he] at h
          | some x =>
            have e := esc_ok l x.1 x.2 he
            have e2 := esc_q l x.1 x.2 he
            simp only [he] at h
            have := ih _ (by omega) x.2 _ h (validD_app _ _ hv (validD_enc _ e.2)) rfl
            rw [q_app, List.length_append] at this
            exact ⟨by omega, this.2⟩
        · by_cases h3 : (decodeL (b :: l)).1 < 32 ∨ ((decodeL (b :: l)).1 = 65533 ∧ (decodeL (b :: l)).2 = 1)
          · rw [txx_bad b l out h1 h2 h3] at h; cases h
          · rw [txx_plain b l out h1 h2 h3] at h
            have hw := decodeL_width (b :: l)
            have hv2 : ¬ ((decodeL (b :: l)).1 = 65533 ∧ (decodeL (b :: l)).2 = 1) := fun e => h3 (.inr e)
            have hp := plain_take b l h1 h2 h3
            have := ih _ (by rw [List.length_drop, List.length_cons]; omega) _ _ h (validD_app _ _ hv (validD_take _ (by simp) hv2)) rfl
            rw [q_app, List.length_append, hp, List.length_drop, List.length_take, List.length_cons] at this
            exact ⟨by omega, this.2⟩

/-- What is quoted is read again. -/
theorem hex_back : ∀ k : Fin 32, hexv (hx (k.val / 16)) = some (k.val / 16) ∧ hexv (hx (k.val % 16)) = some (k.val % 16) := by decide
theorem esc_back (b : UInt8) (r : B) (h : qb b ≠ [b]) : ∃ s, qb b = 92 :: s ∧ esc (s ++ r) = some (b.toNat, r) ∧ b.toNat < 128 := by
  unfold qb at h ⊢
  by_cases h34 : b = 34
  · subst h34; exact ⟨[34], rfl, rfl, by decide⟩
  by_cases h92 : b = 92
  · subst h92; exact ⟨[92], rfl, rfl, by decide⟩
  rw [if_neg (by simp [h34, h92])] at h ⊢
  by_cases h8 : b = 8
  · subst h8; exact ⟨[98], rfl, rfl, by decide⟩
  rw [if_neg h8] at h ⊢
  by_cases h9 : b = 9
  · subst h9; exact ⟨[116], rfl, rfl, by decide⟩
  rw [if_neg h9] at h ⊢
  by_cases h10 : b = 10
  · subst h10; exact ⟨[110], rfl, rfl, by decide⟩
  rw [if_neg h10] at h ⊢
  by_cases h12 : b = 12
  · subst h12; exact ⟨[102], rfl, rfl, by decide⟩
  rw [if_neg h12] at h ⊢
  by_cases h13 : b = 13
  · subst h13; exact ⟨[114], rfl, rfl, by decide⟩
  rw [if_neg h13] at h ⊢
  by_cases hlt : b.toNat < 32
  · rw [if_pos hlt] at h ⊢
    refine ⟨[117, 48, 48, hx (b.toNat / 16), hx (b.toNat % 16)], rfl, ?_, by omega⟩
    obtain ⟨e1, e2⟩ := hex_back ⟨b.toNat, hlt⟩
    dsimp only at e1 e2
    have e0 : hexv 48 = some 0 := by decide
    have hh : hexs 4 0 (48 :: 48 :: hx (b.toNat / 16) :: hx (b.toNat % 16) :: r) = some (b.toNat, r) := by
      simp only [hexs, e0, e1, e2]
      rw [show (((0 * 16 + 0) * 16 + 0) * 16 + b.toNat / 16) * 16 + b.toNat % 16 = b.toNat by omega]
    simp only [List.cons_append, List.nil_append, esc]
    rw [if_neg (by decide), if_neg (by decide), if_neg (by decide), if_neg (by decide), if_neg (by decide), if_neg (by decide), if_neg (by decide), if_neg (by decide), if_pos trivial]
    unfold uni
    rw [hh]
    simp only []
    rw [if_pos (by omega)]
  · rw [if_neg hlt] at h
    exact absurd rfl h
theorem enc_ascii (b : UInt8) (h : b.toNat < 128) : encodeRune (b.toNat : Nat) = [b] := by
  unfold encodeRune
  rw [encodeRuneZ_one (by omega) (by omega)]
  simp
theorem qb_id_iff (b : UInt8) (h : qb b = [b]) : b ≠ 34 ∧ b ≠ 92 ∧ 32 ≤ b.toNat := by
  refine ⟨fun e => by subst e; simp [qb] at h, fun e => by subst e; simp [qb] at h, ?_⟩
  refine Nat.not_lt.1 fun hlt => ?_
  revert h
  have : ∀ k : Fin 32, qb (UInt8.ofNat k.val) ≠ [UInt8.ofNat k.val] := by decide
  have := this ⟨b.toNat, hlt⟩
  simpa using this

theorem txx_back (t r out : B) (hv : validD t = true) : txx (q t ++ 34 :: r) out = some (out ++ t, r) := by
  generalize hn : t.length = n
  induction n using Nat.strongRecOn generalizing t out with
  | _ n ih =>
    cases t with
    | nil => simp [q, txx_end]
    | cons b l =>
      simp only [List.length_cons] at hn
      rw [validD_step _ (by simp)] at hv
      split at hv
      · cases hv
      · rename_i hg
        by_cases hb : b.toNat < 128
        · rw [decodeL_ascii b l hb] at hv
          simp only [List.drop_succ_cons, List.drop_zero] at hv
          have hq : q (b :: l) = qb b ++ q l := by simp [q]
          by_cases hi : qb b = [b]
          · obtain ⟨i1, i2, i3⟩ := qb_id_iff b hi
            rw [hq, hi]
            have hd := decodeL_ascii b (q l ++ 34 :: r) hb
            rw [List.append_assoc, List.cons_append, List.nil_append, txx_plain b _ out i1 i2 (by rw [hd]; dsimp only; omega), hd]
            simp only [List.drop_succ_cons, List.drop_zero, List.take_succ_cons, List.take_zero]
            rw [ih _ (by omega) l (out ++ [b]) hv rfl]
            simp
          · obtain ⟨s, e1, e2, e3⟩ := esc_back b (q l ++ 34 :: r) hi
            rw [hq, e1, List.append_assoc, List.cons_append, txx_esc, e2]
            simp only []
            rw [enc_ascii b e3, ih _ (by omega) l (out ++ [b]) hv rfl]
            simp
        · have hw := decodeL_width (b :: l)
          obtain ⟨_, hk, _⟩ := decode_same (b :: l) (b :: l) (by simp) hg rfl
          have hp34 : b ≠ 34 := fun e => by subst e; simp at hb
          have hp92 : b ≠ 92 := fun e => by subst e; simp at hb
          have h32 : ¬ ((decodeL (b :: l)).1 < 32 ∨ ((decodeL (b :: l)).1 = 65533 ∧ (decodeL (b :: l)).2 = 1)) := by
            rintro (h | h)
            · have e := encode_decode (b :: l) (by simp) hg
              have hx := enc_ascii ((decodeL (b :: l)).1.toUInt8) (by simp; omega)
              have hm : ((decodeL (b :: l)).1.toUInt8).toNat = (decodeL (b :: l)).1 := by simp; omega
              rw [hm] at hx
              rw [hx] at e
              have h0 : ((b :: l).take (decodeL (b :: l)).2).getD 0 0 = b := by rw [getD_takeU _ _ 0 (by omega)]; rfl
              rw [← e] at h0
              simp only [List.getD_cons_zero] at h0
              rw [← h0, hm] at hb
              omega
            · exact hg h
          have hp := plain_take b l hp34 hp92 h32
          have hspl : q (b :: l) = (b :: l).take (decodeL (b :: l)).2 ++ q ((b :: l).drop (decodeL (b :: l)).2) := by
            rw [← hp, ← q_app, List.take_append_drop]
          generalize hK : (decodeL (b :: l)).2 = k at *
          have hne : (b :: l).take k ≠ [] := fun e => by have := congrArg List.length e; rw [List.length_take, List.length_nil] at this; simp at this; omega
          rw [hspl, List.append_assoc]
          generalize hT : q ((b :: l).drop k) ++ 34 :: r = T
          have htk : ((b :: l).take k ++ T).take k = (b :: l).take k := by
            rw [List.take_append_of_le_length (by rw [List.length_take]; omega), List.take_take, Nat.min_self]
          have hdr : ((b :: l).take k ++ T).drop k = T := List.drop_left' (by rw [List.length_take]; omega)
          obtain ⟨e, _, _⟩ := decode_same (b :: l) ((b :: l).take k ++ T) (by simp) (by rw [hK]; exact hg) (by rw [hK]; exact htk)
          obtain ⟨c, cs, hc⟩ : ∃ cs, ∃ c', (b :: l).take k ++ T = b :: cs ∧ c' = cs := by
            obtain ⟨k', rfl⟩ : ∃ k', k = k' + 1 := ⟨k - 1, by omega⟩
            exact ⟨l.take k' ++ T, _, by simp, rfl⟩
          have hcc := hc.1
          rw [hcc] at e htk hdr ⊢
          rw [txx_plain b c out hp34 hp92 (by rw [e, hK]; exact h32), e, hK, htk, hdr, ← hT, ih _ (by rw [List.length_drop, List.length_cons]; omega) _ _ hv rfl, List.append_assoc, List.take_append_drop]
end Js
end Go.Proofs.YtpeioecpilmpiaaGreatDoor
