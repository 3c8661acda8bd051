/-
  The form of a path, as the program tells it.
-/
import Derived.Test.YtkijglkjpgjdaaaDoorC11
namespace Go.Proofs.YtkijglkjpgjdaaaDoor
namespace Cn
theorem writeB_len (b : UInt8) : (writeB b).length ≤ 3 := by
  unfold writeB
  split <;> simp
theorem writeP_len : ∀ p : List UInt8, (writeP p).length ≤ 3 * p.length
  | [] => by simp [writeP]
  | b :: p => by
    have h1 := writeB_len b
    have h2 := writeP_len p
    rw [writeP_cons, List.length_append, List.length_cons]
    omega
theorem writes_len (m : Nat) : ∀ l : List (List UInt8), (∀ p ∈ l, p.length ≤ m) → (writes l).length ≤ l.length * (1 + 3 * m)
  | [], _ => by simp [writes]
  | p :: l, h => by
    have h1 := writeP_len p
    have h2 := writes_len m l fun q hq => h q (by simp [hq])
    have h3 := h p (by simp)
    rw [writes_cons, List.length_cons, List.length_append, List.length_cons, Nat.succ_mul]
    omega
theorem walk_sub : ∀ (t l l' : List (List UInt8)), walk l t = some l' → (∀ p ∈ l', p ∈ l ∨ p ∈ t) ∧ l'.length ≤ l.length + t.length
  | [], l, l', h => by simp [walk] at h; subst h; simp
  | p :: t, l, l', h => by
    unfold walk at h
    cases hs : step l p with
    | none => rw [hs] at h; cases h
    | some m =>
      rw [hs] at h
      obtain ⟨h1, h2⟩ := walk_sub t m l' h
      have hm : (∀ q ∈ m, q ∈ l ∨ q = p) ∧ m.length ≤ l.length + 1 := by
        unfold step at hs
        split at hs
        · simp at hs; subst hs; exact ⟨fun q hq => .inl hq, by omega⟩
        · split at hs
          · split at hs
            · cases hs
            · simp at hs; subst hs
              exact ⟨fun q hq => .inl (List.dropLast_subset _ hq), by rw [List.length_dropLast]; omega⟩
          · simp at hs; subst hs
            refine ⟨fun q hq => ?_, by simp⟩
            rcases List.mem_append.1 hq with hq | hq
            · exact .inl hq
            · simp at hq; exact .inr hq
      refine ⟨fun q hq => ?_, by simp; omega⟩
      rcases h1 q hq with h | h
      · rcases hm.1 q h with h | h
        · exact .inl h
        · exact .inr (by simp [h])
      · exact .inr (by simp [h])
theorem all_len (good : List UInt8 → Bool) (m : Nat) : ∀ (t l : List (List UInt8)), (∀ r ∈ t, r.length ≤ m) → all good t = some l → l.length = t.length ∧ ∀ p ∈ l, p.length ≤ m
  | [], l, _, h => by simp [all] at h; subst h; simp
  | r :: t, l, hm, h => by
    unfold all at h
    cases hr : rd good r with
    | none => rw [hr] at h; cases h
    | some q =>
      rw [hr] at h
      cases ht : all good t with
      | none => rw [ht] at h; cases h
      | some l' =>
        rw [ht] at h
        simp at h
        subst h
        obtain ⟨h1, h2⟩ := all_len good m t l' (fun x hx => hm x (by simp [hx])) ht
        have hq : q.length ≤ r.length := by
          unfold rd at hr
          cases hb : readB r with
          | none => rw [hb] at hr; cases hr
          | some q' =>
            rw [hb] at hr
            simp at hr
            obtain ⟨_, rfl⟩ := hr
            exact readB_len _ _ _ (Nat.le_refl _) hb
        refine ⟨by simp [h1], fun p hp => ?_⟩
        rcases List.mem_cons.1 hp with rfl | hp
        · exact Nat.le_trans hq (hm r (by simp))
        · exact h2 p hp
end Cn
open Go.RowKit

/-- The form of a path, as a text. -/
def pathO (s : ByteArray) : Option (List UInt8) := Cn.path goodP s.data.toList

theorem path_long (s : ByteArray) (h : 60 < s.size) : pathO s = none := by
  have hl : s.data.toList.length = s.size := rfl
  unfold pathO Cn.path
  split
  · rfl
  · rw [if_neg (by rintro ⟨h1, _⟩; omega)]

theorem path_other (s : ByteArray) (h : Lib.hasPrefix s.data.toList [47] = false) : pathO s = none := by
  unfold pathO Cn.path
  split
  · rfl
  · rename_i b t e
    rw [e] at h
    rw [if_neg (by
      rintro ⟨_, rfl⟩
      simp [Lib.hasPrefix] at h)]

theorem path_first (s : ByteArray) (h : Lib.hasPrefix s.data.toList [47] = true) : 1 ≤ s.size ∧ s.data.toList = 47 :: (s.extract 1 s.size).data.toList := by
  have hl : s.data.toList.length = s.size := rfl
  cases e : s.data.toList with
  | nil => rw [e] at h; simp [Lib.hasPrefix] at h
  | cons b t =>
    rw [e] at h hl
    have hb : b = 47 := by
      simp [Lib.hasPrefix] at h
      exact h.symm
    subst hb
    refine ⟨by simp at hl; omega, ?_⟩
    rw [Lib.extract_data, e]
    simp only [List.length_cons] at hl
    show 47 :: t = 47 :: List.take (s.size - 1) t
    rw [List.take_of_length_le (by omega)]

theorem path_is (s : ByteArray) (h : Lib.hasPrefix s.data.toList [47] = true) (h60 : s.size ≤ 60) : pathO s = match (Cn.all goodP (Cn.sp (s.extract 1 s.size).data.toList)).bind (Cn.walk []) with
      | none => none
      | some l => if (Cn.form l).length ≤ 60 then some (Cn.form l) else none := by
  have hl : s.data.toList.length = s.size := rfl
  obtain ⟨h1, h2⟩ := path_first s h
  unfold pathO
  rw [h2] at hl ⊢
  unfold Cn.path
  dsimp only
  rw [if_pos ⟨by omega, rfl⟩]
  cases (Cn.all goodP (Cn.sp (s.extract 1 s.size).data.toList)).bind (Cn.walk []) <;> rfl

set_option maxHeartbeats 1600000 in
theorem path_any (s : ByteArray) (w : World) :
    Calls Tryd.prog 8 #[.string s] w fun e w' => e = .returned (opt (pathO s)) ∧ Below w.heap.size w w' := by
  by_cases h60 : s.size ≤ 60
  · have d1 : decide (60 < (s.size : Int)) = false := by simp; omega
    have kp := hasPrefix_call s ⟨#[47]⟩
    have kp : ∀ u, Calls Tryd.prog 18 #[.string s, .string ⟨#[47]⟩] u fun e w' => e = .returned (.bool (Lib.hasPrefix s.data.toList [47])) ∧ w' = u := kp
    cases hh : Lib.hasPrefix s.data.toList [47] with
    | false =>
      rw [hh] at kp
      rw [path_other s hh]
      clear hh
      go_enter Tryd.func8, Tryd.ntmps8
      go_wp2_with (go_at_call 18; refine (kp _).mono ?_; rintro e w1 ⟨rfl, rfl⟩)
      go_ret2
      exact ⟨rfl, Below.refl _ _⟩
    | true =>
      obtain ⟨h1, h2⟩ := path_first s hh
      have hl : s.data.toList.length = s.size := rfl
      rw [path_is s hh h60]
      rw [hh] at kp
      have hts : (s.extract 1 s.size).size = s.size - 1 := Si.cut_size s 1 s.size (Nat.le_refl _)
      have hsl := Cn.sp_len (s.extract 1 s.size).data.toList
      have htl : (s.extract 1 s.size).data.toList.length = s.size - 1 := hts
      have kr := readParts_any (s.extract 1 s.size) w (by omega)
      clear hh h2 hl
      cases ha : Cn.all goodP (Cn.sp (s.extract 1 s.size).data.toList) with
      | none =>
        rw [ha] at kr
        clear ha hsl htl
        go_enter Tryd.func8, Tryd.ntmps8
        go_wp2_with (first
          | (go_at_call 18; refine (kp _).mono ?_; rintro e w1 ⟨rfl, rfl⟩)
          | (go_at_call 19; refine kr.mono ?_; rintro e w2 ⟨⟨v, rfl, -⟩, hb2⟩; simp only [Option.isSome]))
        go_ret2
        exact ⟨rfl, hb2⟩
      | some ps =>
        obtain ⟨n1, n2⟩ := Cn.all_len goodP 60 _ ps (fun r hr => by have := hsl.1 r hr; omega) ha
        have n3 : ps.length ≤ 60 := by omega
        rw [ha] at kr
        have e0 : (some ps).bind (Cn.walk []) = Cn.walk [] ps := rfl
        rw [e0]
        clear ha hsl htl e0 n1
        have kw : Aside (∀ u v, Si.Strs u.heap.size v (ps.map txt) u → Calls Tryd.prog 20 #[v] u fun e w' => ListOf (Cn.walk [] ps) e u w') := fun u v hv => walk_any v ps u hv (by omega)
        cases hwk : Cn.walk [] ps with
        | none =>
          rw [hwk] at kw
          clear hwk
          go_enter Tryd.func8, Tryd.ntmps8
          go_wp2_with (first
            | (go_at_call 18; refine (kp _).mono ?_; rintro e w1 ⟨rfl, rfl⟩)
            | (go_at_call 19; refine kr.mono ?_; rintro e w2 ⟨⟨v, rfl, hv⟩, hb2⟩; simp only [Option.isSome]; have hv2 := hv ps rfl; clear hv)
            | (go_at_call 20; refine (kw.out _ _ hv2).mono ?_; rintro e w3 ⟨⟨v3, rfl, -⟩, hb3⟩; simp only [Option.isSome]))
          go_ret2
          exact ⟨rfl, hb2.trans (hb3.mono hb2.size)⟩
        | some l =>
          rw [hwk] at kw
          obtain ⟨s1, s2⟩ := Cn.walk_sub ps [] l hwk
          have l1 : l.length ≤ 60 := by simp at s2; omega
          have l2 : ∀ p ∈ l, p.length ≤ 60 := fun p hp => by
            rcases s1 p hp with h | h
            · cases h
            · exact n2 p h
          have l3 := Cn.writes_len 60 l l2
          have l4 : (Cn.writes l).length ≤ 900000 := by
            have : l.length * (1 + 3 * 60) ≤ 60 * (1 + 3 * 60) := Nat.mul_le_mul_right _ l1
            omega
          have ku : Aside (∀ u v, Si.Strs u.heap.size v (l.map txt) u → Calls Tryd.prog 21 #[v] u fun e w' => e = .returned (.string ⟨(Cn.form l).toArray⟩) ∧ Below u.heap.size u w') := fun u v hv => writeParts_any v l u hv (by omega) l4 (fun p hp => by have := l2 p hp; omega)
          clear hwk s1 s2 l2 l3 l4 n2
          have hz : (ByteArray.mk (Cn.form l).toArray).size = (Cn.form l).length := mk_size _
          dsimp only
          generalize Cn.form l = F at *
          by_cases hf : F.length ≤ 60
          · rw [if_pos hf]
            have d2 : decide (60 < ((ByteArray.mk F.toArray).size : Int)) = false := by rw [hz]; simp; omega
            have E : Aside (opt (some F) = .tuple #[.string ⟨F.toArray⟩, .bool true]) := rfl
            generalize ByteArray.mk F.toArray = P at *
            go_enter Tryd.func8, Tryd.ntmps8
            go_wp2_with (first
              | (go_at_call 18; refine (kp _).mono ?_; rintro e w1 ⟨rfl, rfl⟩)
              | (go_at_call 19; refine kr.mono ?_; rintro e w2 ⟨⟨v, rfl, hv⟩, hb2⟩; simp only [Option.isSome]; have hv2 := hv ps rfl; clear hv)
              | (go_at_call 20; refine (kw.out _ _ hv2).mono ?_; rintro e w3 ⟨⟨v3, rfl, hv⟩, hb3⟩; simp only [Option.isSome]; have hv3 := hv l rfl; clear hv)
              | (go_at_call 21; refine (ku.out _ _ hv3).mono ?_; rintro e w4 ⟨rfl, hb4⟩))
            go_ret2
            have b3 := hb2.trans (hb3.mono hb2.size)
            exact ⟨by rw [E.out]; rfl, b3.trans (hb4.mono b3.size)⟩
          · rw [if_neg hf]
            have d2 : decide (60 < ((ByteArray.mk F.toArray).size : Int)) = true := by rw [hz]; simp; omega
            generalize ByteArray.mk F.toArray = P at *
            go_enter Tryd.func8, Tryd.ntmps8
            go_wp2_with (first
              | (go_at_call 18; refine (kp _).mono ?_; rintro e w1 ⟨rfl, rfl⟩)
              | (go_at_call 19; refine kr.mono ?_; rintro e w2 ⟨⟨v, rfl, hv⟩, hb2⟩; simp only [Option.isSome]; have hv2 := hv ps rfl; clear hv)
              | (go_at_call 20; refine (kw.out _ _ hv2).mono ?_; rintro e w3 ⟨⟨v3, rfl, hv⟩, hb3⟩; simp only [Option.isSome]; have hv3 := hv l rfl; clear hv)
              | (go_at_call 21; refine (ku.out _ _ hv3).mono ?_; rintro e w4 ⟨rfl, hb4⟩))
            go_ret2
            have b3 := hb2.trans (hb3.mono hb2.size)
            exact ⟨rfl, b3.trans (hb4.mono b3.size)⟩
  · have d1 : decide (60 < (s.size : Int)) = true := by simp; omega
    rw [path_long s (by omega)]
    go_enter Tryd.func8, Tryd.ntmps8
    go_wp2
    go_ret2
    exact ⟨rfl, Below.refl _ _⟩
end Go.Proofs.YtkijglkjpgjdaaaDoor
