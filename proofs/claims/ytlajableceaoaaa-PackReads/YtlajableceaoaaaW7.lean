/-
  Reading a number, a text, bytes by an Opener.
-/
import Derived.Test.YtlajableceaoaaaW5
import Derived.Test.YtlajableceaoaaaW6
namespace Go.Proofs.Ytlajableceaoaaa
open Go.RowKit

theorem oNum_bad (b : Nat) (s : ByteArray) (n : Int) (w : World) (h : At w b 45 s true) :
    Calls Try.prog 15 #[.pointer (some ⟨b, 0, none⟩), .int .i64 n] w fun e w' => e = .returned (.int .i64 0) ∧ w' = w := by
  have ho := oOk_at b s true w h
  clear h
  go_enter Try.func15, Try.ntmps15
  go_wp2_with (go_at_call 18; refine ho.mono ?_; rintro e w1 ⟨rfl, rfl⟩)
  go_ret
  exact ⟨rfl, rfl⟩

theorem oNum_no (b : Nat) (s : ByteArray) (most : Int) (w : World) (h : At w b 45 s false) (hs : s.size ≤ 1000000) (p : Nat × Nat) (HP : Hid (p = Pk.headB s.data.toList)) (hno : p.2 = 0 ∨ most < (p.1 : Int)) :
    Calls Try.prog 15 #[.pointer (some ⟨b, 0, none⟩), .int .i64 most] w fun e w' => e = .returned (.int .i64 0) ∧ At w' b 45 ⟨#[]⟩ true ∧ Upd b w w' := by
  have c0 := h.c0
  have ho := oOk_at b s false w h
  have hh := headNum_any s w hs p HP
  have hsp := spoil_at b s false w h
  clear h HP hs
  by_cases hz : ((p.2 : Int) == 0) = true
  · clear hno
    go_enter Try.func15, Try.ntmps15
    go_wp2_with (first
      | (go_at_call 18; refine ho.mono ?_; rintro e w1 ⟨rfl, rfl⟩)
      | (go_at_call 26; refine hh.mono ?_; rintro e w1 ⟨rfl, rfl⟩)
      | (go_at_call 27; refine hsp.mono ?_; rintro e w2 ⟨rfl, ha2, hu2⟩))
    go_ret
    exact ⟨rfl, ha2, hu2⟩
  · have hz' : ((p.2 : Int) == 0) = false := by simpa using hz
    have hlt : most < (p.1 : Int) := by
      rcases hno with h | h
      · exfalso
        apply hz
        rw [h]
        rfl
      · exact h
    clear hno hz
    go_enter Try.func15, Try.ntmps15
    go_wp2_with (first
      | (go_at_call 18; refine ho.mono ?_; rintro e w1 ⟨rfl, rfl⟩)
      | (go_at_call 26; refine hh.mono ?_; rintro e w1 ⟨rfl, rfl⟩)
      | (go_at_call 27; refine hsp.mono ?_; rintro e w2 ⟨rfl, ha2, hu2⟩))
    go_ret
    exact ⟨rfl, ha2, hu2⟩

theorem oNum_yes (b : Nat) (s : ByteArray) (most : Int) (w : World) (h : At w b 45 s false) (hs : s.size ≤ 1000000) (p : Nat × Nat) (HP : Hid (p = Pk.headB s.data.toList)) (h1 : p.2 ≠ 0) (h2 : (p.1 : Int) ≤ most) :
    Calls Try.prog 15 #[.pointer (some ⟨b, 0, none⟩), .int .i64 most] w fun e w' => e = .returned (.int .i64 (p.1 : Int)) ∧ At w' b 45 (s.extract p.2 s.size) false ∧ Upd b w w' := by
  have c0 := h.c0
  have f0 := h.f 0
  have ho := oOk_at b s false w h
  have hh := headNum_any s w hs p HP
  have hz' : ((p.2 : Int) == 0) = false := by
    rw [beq_eq_false_iff_ne]
    omega
  have hle : p.2 ≤ s.size := by
    rw [HP.out]
    exact (Pk.headB_le _).1
  have A : Aside (At w b 45 s false) := h
  clear h HP h1
  go_enter Try.func15, Try.ntmps15
  go_wp2_with (first
    | (go_at_call 18; refine ho.mono ?_; rintro e w1 ⟨rfl, rfl⟩)
    | (go_at_call 26; refine hh.mono ?_; rintro e w1 ⟨rfl, rfl⟩))
  go_ret
  exact ⟨rfl, A.out.set0 _, Upd.set _ _ _ _⟩

theorem oRaw_bad (b : Nat) (s : ByteArray) (n : Int) (w : World) (h : At w b 45 s true) :
    Calls Try.prog 17 #[.pointer (some ⟨b, 0, none⟩), .int .i64 n] w fun e w' => e = .returned (.string ⟨#[]⟩) ∧ w' = w := by
  have ho := oOk_at b s true w h
  clear h
  go_enter Try.func17, Try.ntmps17
  go_wp2_with (go_at_call 18; refine ho.mono ?_; rintro e w1 ⟨rfl, rfl⟩)
  go_ret
  exact ⟨rfl, rfl⟩

theorem oRaw_neg (b : Nat) (s : ByteArray) (n : Int) (w : World) (h : At w b 45 s false) (hn : n < 0) :
    Calls Try.prog 17 #[.pointer (some ⟨b, 0, none⟩), .int .i64 n] w fun e w' => e = .returned (.string ⟨#[]⟩) ∧ w' = w := by
  have ho := oOk_at b s false w h
  clear h
  go_enter Try.func17, Try.ntmps17
  go_wp2_with (go_at_call 18; refine ho.mono ?_; rintro e w1 ⟨rfl, rfl⟩)
  go_ret
  exact ⟨rfl, rfl⟩

theorem oRaw_no (b : Nat) (s : ByteArray) (n : Int) (w : World) (h : At w b 45 s false) (hn0 : 0 ≤ n) (hn : (s.size : Int) < n) :
    Calls Try.prog 17 #[.pointer (some ⟨b, 0, none⟩), .int .i64 n] w fun e w' => e = .returned (.string ⟨#[]⟩) ∧ At w' b 45 ⟨#[]⟩ true ∧ Upd b w w' := by
  have c0 := h.c0
  have ho := oOk_at b s false w h
  have hsp := spoil_at b s false w h
  clear h
  go_enter Try.func17, Try.ntmps17
  go_wp2_with (first
    | (go_at_call 18; refine ho.mono ?_; rintro e w1 ⟨rfl, rfl⟩)
    | (go_at_call 27; refine hsp.mono ?_; rintro e w2 ⟨rfl, ha2, hu2⟩))
  go_ret
  exact ⟨rfl, ha2, hu2⟩

theorem oRaw_yes (b n : Nat) (s : ByteArray) (w : World) (h : At w b 45 s false) (hn : n ≤ s.size) (_hs : s.size ≤ 1000000) :
    Calls Try.prog 17 #[.pointer (some ⟨b, 0, none⟩), .int .i64 (n : Int)] w fun e w' => e = .returned (.string (s.extract 0 n)) ∧ At w' b 45 (s.extract n s.size) false ∧ Upd b w w' := by
  have c0 := h.c0
  have f0 := h.f 0
  have ho := oOk_at b s false w h
  have A : Aside (At w b 45 s false) := h
  clear h
  go_enter Try.func17, Try.ntmps17
  go_wp2_with (go_at_call 18; refine ho.mono ?_; rintro e w1 ⟨rfl, rfl⟩)
  go_ret
  exact ⟨rfl, A.out.set0 _, Upd.set _ _ _ _⟩
end Go.Proofs.Ytlajableceaoaaa
