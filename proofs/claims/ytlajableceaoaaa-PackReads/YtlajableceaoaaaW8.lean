/-
  Reading a text by an Opener; the few calls that each statement makes first.
-/
import Derived.Test.YtlajableceaoaaaW7
namespace Go.Proofs.Ytlajableceaoaaa
open Go.RowKit

theorem oText_bad (b : Nat) (s : ByteArray) (n : Int) (w : World) (h : At w b 45 s true) :
    Calls Try.prog 16 #[.pointer (some ⟨b, 0, none⟩), .int .i64 n] w fun e w' => e = .returned (.string ⟨#[]⟩) ∧ w' = w := by
  have h1 := oNum_bad b s n w h
  have h2 := oRaw_bad b s 0 w h
  clear h
  go_enter Try.func16, Try.ntmps16
  go_wp2_with (first
    | (go_at_call 15; refine h1.mono ?_; rintro e w1 ⟨rfl, rfl⟩)
    | (go_at_call 17; refine h2.mono ?_; rintro e w1 ⟨rfl, rfl⟩))
  go_ret
  exact ⟨rfl, rfl⟩

theorem oText_no (b : Nat) (s : ByteArray) (most : Int) (w : World) (h : At w b 45 s false) (hs : s.size ≤ 1000000) (p : Nat × Nat) (HP : Hid (p = Pk.headB s.data.toList)) (hno : p.2 = 0 ∨ most < (p.1 : Int)) :
    Calls Try.prog 16 #[.pointer (some ⟨b, 0, none⟩), .int .i64 most] w fun e w' => e = .returned (.string ⟨#[]⟩) ∧ At w' b 45 ⟨#[]⟩ true ∧ Upd b w w' := by
  have h1 := oNum_no b s most w h hs p HP hno
  clear h HP hno hs
  go_enter Try.func16, Try.ntmps16
  go_wp2_with (first
    | (go_at_call 15; refine h1.mono ?_; rintro e w1 ⟨rfl, ha1, hu1⟩; have h2 := oRaw_bad b _ 0 w1 ha1)
    | (go_at_call 17; refine h2.mono ?_; rintro e w2 ⟨rfl, rfl⟩))
  go_ret
  exact ⟨rfl, ha1, hu1⟩

theorem oText_short (b : Nat) (s : ByteArray) (most : Int) (w : World) (h : At w b 45 s false) (hs : s.size ≤ 1000000) (p : Nat × Nat) (HP : Hid (p = Pk.headB s.data.toList)) (h1 : p.2 ≠ 0) (h2 : (p.1 : Int) ≤ most) (h3 : (s.extract p.2 s.size).size < p.1) :
    Calls Try.prog 16 #[.pointer (some ⟨b, 0, none⟩), .int .i64 most] w fun e w' => e = .returned (.string ⟨#[]⟩) ∧ At w' b 45 ⟨#[]⟩ true ∧ Upd b w w' := by
  have k1 := oNum_yes b s most w h hs p HP h1 h2
  have H3 : Hid ((s.extract p.2 s.size).size < p.1) := h3
  clear h HP h1 h2 hs h3
  generalize s.extract p.2 s.size = t at k1 H3
  go_enter Try.func16, Try.ntmps16
  go_wp2_with (first
    | (go_at_call 15; refine k1.mono ?_; rintro e w1 ⟨rfl, ha1, hu1⟩; have k2 := oRaw_no b _ (p.1 : Int) w1 ha1 (by omega) (by have := H3.out; omega))
    | (go_at_call 17; refine k2.mono ?_; rintro e w2 ⟨rfl, ha2, hu2⟩))
  go_ret
  exact ⟨rfl, ha2, hu1.trans hu2⟩

theorem oText_yes (b : Nat) (s : ByteArray) (most : Int) (w : World) (h : At w b 45 s false) (hs : s.size ≤ 1000000) (p : Nat × Nat) (HP : Hid (p = Pk.headB s.data.toList)) (h1 : p.2 ≠ 0) (h2 : (p.1 : Int) ≤ most) (t : ByteArray) (HT : Hid (t = s.extract p.2 s.size)) (h3 : p.1 ≤ t.size) :
    Calls Try.prog 16 #[.pointer (some ⟨b, 0, none⟩), .int .i64 most] w fun e w' => e = .returned (.string (t.extract 0 p.1)) ∧ At w' b 45 (t.extract p.1 t.size) false ∧ Upd b w w' := by
  have k1 := oNum_yes b s most w h hs p HP h1 h2
  have hts : t.size ≤ 1000000 := by
    rw [HT.out, ByteArray.size_extract]
    omega
  rw [← HT.out] at k1
  have X : Aside (p.1 ≤ t.size ∧ t.size ≤ 1000000) := ⟨h3, hts⟩
  clear h HP h1 h2 hs h3 HT hts
  go_enter Try.func16, Try.ntmps16
  go_wp2_with (first
    | (go_at_call 15; refine k1.mono ?_; rintro e w1 ⟨rfl, ha1, hu1⟩; have k2 := oRaw_yes b p.1 t w1 ha1 X.out.1 X.out.2)
    | (go_at_call 17; refine k2.mono ?_; rintro e w2 ⟨rfl, ha2, hu2⟩))
  go_ret
  exact ⟨rfl, ha2, hu1.trans hu2⟩

theorem aw1 (b : Nat) (w : World) (h : At w b 25 ⟨#[]⟩ false) :
    Calls Try.prog 7 #[.pointer (some ⟨b, 0, none⟩), .int .i64 300] w fun e w' => e = .returned (.pointer (some ⟨b, 0, none⟩)) ∧ At w' b 25 ⟨#[130, 44]⟩ false ∧ Upd b w w' := by
  have k := num_at b 300 ⟨#[]⟩ w h (by decide) (by decide)
  have e : (⟨#[]⟩ : ByteArray) ++ ⟨(Pk.numB 300).toArray⟩ = ⟨#[130, 44]⟩ := by decide
  rw [e] at k
  exact k

theorem aw2 (b : Nat) (w : World) (h : At w b 25 ⟨#[130, 44]⟩ false) :
    Calls Try.prog 9 #[.pointer (some ⟨b, 0, none⟩), .string ⟨#[97, 98]⟩] w fun e w' => e = .returned (.pointer (some ⟨b, 0, none⟩)) ∧ At w' b 25 ⟨#[130, 44, 2, 97, 98]⟩ false ∧ Upd b w w' := by
  have k := text_at b ⟨#[130, 44]⟩ ⟨#[97, 98]⟩ w h (by decide) (by decide)
  have e : (⟨#[130, 44]⟩ : ByteArray) ++ ((⟨(Pk.numB (ByteArray.mk #[97, 98]).size).toArray⟩ : ByteArray) ++ ⟨#[97, 98]⟩) = ⟨#[130, 44, 2, 97, 98]⟩ := by decide
  rw [e] at k
  exact k

theorem aw3 (b : Nat) (w : World) (h : At w b 45 ⟨#[130, 44, 2, 97, 98]⟩ false) :
    Calls Try.prog 15 #[.pointer (some ⟨b, 0, none⟩), .int .i64 300] w fun e w' => e = .returned (.int .i64 300) ∧ At w' b 45 ⟨#[2, 97, 98]⟩ false ∧ Upd b w w' := by
  have e : Pk.headB (ByteArray.mk #[130, 44, 2, 97, 98]).data.toList = (300, 2) := by decide
  have k := oNum_yes b _ 300 w h (by decide) (300, 2) e.symm (by decide) (by decide)
  have e2 : (ByteArray.mk #[130, 44, 2, 97, 98]).extract (300, 2).2 (ByteArray.mk #[130, 44, 2, 97, 98]).size = ⟨#[2, 97, 98]⟩ := by decide
  rw [e2] at k
  exact k

theorem aw4 (b : Nat) (w : World) (h : At w b 45 ⟨#[2, 97, 98]⟩ false) :
    Calls Try.prog 16 #[.pointer (some ⟨b, 0, none⟩), .int .i64 2] w fun e w' => e = .returned (.string ⟨#[97, 98]⟩) ∧ At w' b 45 ⟨#[]⟩ false ∧ Upd b w w' := by
  have e : Pk.headB (ByteArray.mk #[2, 97, 98]).data.toList = (2, 1) := by decide
  have e2 : (ByteArray.mk #[2, 97, 98]).extract (2, 1).2 (ByteArray.mk #[2, 97, 98]).size = ⟨#[97, 98]⟩ := by decide
  have k := oText_yes b _ 2 w h (by decide) (2, 1) e.symm (by decide) (by decide) ⟨#[97, 98]⟩ e2.symm (by decide)
  have e3 : (ByteArray.mk #[97, 98]).extract 0 (2, 1).1 = ⟨#[97, 98]⟩ := by decide
  have e4 : (ByteArray.mk #[97, 98]).extract (2, 1).1 (ByteArray.mk #[97, 98]).size = ⟨#[]⟩ := by decide
  rw [e3, e4] at k
  exact k
end Go.Proofs.Ytlajableceaoaaa
