/-
  YtajjcfacbnicnaaGreatDoor: the texts DX12, one behind the other.
-/
import Derived.Test.YtajjcfacbnicnaaGreatDoorU20
/-
  Append, whatever comes.
-/
namespace Go.Proofs.YtajjcfacbnicnaaGreatDoor.Dk
open Go.RowKit
set_option maxRecDepth 100000

theorem append_any {w : World} {B b : Nat} {d : Ds} (h : Rep w B b d) (ok : Ok d.pl) (n x : ByteArray) :
    Calls Tryz.prog 33 #[.pointer (some ⟨b, 0, none⟩), .string n, .string x] w fun e w' => e = .returned (.int .i64 (opAppend d.pl n x).1) ∧ ∃ d', Rep w' B b d' ∧ d'.pl = (opAppend d.pl n x).2 ∧ Step (d.foot b) (d'.foot b) w w' := by
  have hl : d.pl.files.length = d.files.length := by simp [Ds.pl]
  have hr : d.pl.room = d.room := rfl
  unfold opAppend St.full
  rw [power_pl, names_pl, hl, hr]
  cases hp : d.power with
  | false =>
    refine (append_early h ok n x (.inl hp)).mono ?_
    rintro e w' ⟨rfl, h1, s1⟩
    rw [hp]
    exact ⟨rfl, d.spent, h1, rfl, s1⟩
  | true =>
    cases hm : mayBe n with
    | false =>
      refine (append_early h ok n x (.inr hm)).mono ?_
      rintro e w' ⟨rfl, h1, s1⟩
      rw [hp]
      exact ⟨rfl, d.spent, h1, rfl, s1⟩
    | true =>
      simp only [if_true]
      have full : ∀ c : Bool, c = true → (Calls Tryz.prog 33 #[.pointer (some ⟨b, 0, none⟩), .string n, .string x] w fun e w' => e = .returned (.int .i64 2) ∧ Rep w' B b d.spent ∧ Step (d.foot b) (d.foot b) w w') → Calls Tryz.prog 33 #[.pointer (some ⟨b, 0, none⟩), .string n, .string x] w fun e w' => e = .returned (.int .i64 (if c = true then (2, d.pl.spent) else (0, if x.size = 0 then d.pl.spent.make n else (d.pl.spent.make n).more (place d.names n) n x) : Int × St).1) ∧ ∃ d', Rep w' B b d' ∧ d'.pl = (if c = true then (2, d.pl.spent) else (0, if x.size = 0 then d.pl.spent.make n else (d.pl.spent.make n).more (place d.names n) n x) : Int × St).2 ∧ Step (d.foot b) (d'.foot b) w w' := by
        intro c hc hk
        refine hk.mono ?_
        rintro e w' ⟨rfl, h1, s1⟩
        rw [if_pos hc]
        exact ⟨rfl, d.spent, h1, rfl, s1⟩
      have free : ∀ c : Bool, c = false → (Calls Tryz.prog 33 #[.pointer (some ⟨b, 0, none⟩), .string n, .string x] w fun e w' => e = .returned (.int .i64 0) ∧ ∃ d', Rep w' B b d' ∧ d'.pl = (if x.size = 0 then d.pl.spent.make n else (d.pl.spent.make n).more (place d.names n) n x) ∧ Step (d.foot b) (d'.foot b) w w') → Calls Tryz.prog 33 #[.pointer (some ⟨b, 0, none⟩), .string n, .string x] w fun e w' => e = .returned (.int .i64 (if c = true then (2, d.pl.spent) else (0, if x.size = 0 then d.pl.spent.make n else (d.pl.spent.make n).more (place d.names n) n x) : Int × St).1) ∧ ∃ d', Rep w' B b d' ∧ d'.pl = (if c = true then (2, d.pl.spent) else (0, if x.size = 0 then d.pl.spent.make n else (d.pl.spent.make n).more (place d.names n) n x) : Int × St).2 ∧ Step (d.foot b) (d'.foot b) w w' := by
        intro c hc hk
        subst hc
        exact hk
      by_cases hf : d.room < d.pl.total + x.size
      · refine full _ (by simp [hf]) ?_
        cases hh : has d.names n with
        | true => exact append_fullB h ok n x hp hm hh hf
        | false =>
          by_cases hN : d.files.length = 16
          · exact append_fullC h ok n x hp hm hh hN
          · exact append_fullE h ok n x hp hm hh hN hf
      · cases hh : has d.names n with
        | true =>
          refine free _ (by simp [hf]) ?_
          by_cases hx : x.size = 0
          · rw [if_pos hx]
            exact append_A0 h ok n x hp hm hh hf hx
          · rw [if_neg hx]
            exact append_A1 h ok n x hp hm hh hf hx
        | false =>
          by_cases hN : d.files.length = 16
          · refine full _ (by simp [hN]) ?_
            exact append_fullC h ok n x hp hm hh hN
          · refine free _ (by simp [hf, hN]) ?_
            by_cases hx : x.size = 0
            · rw [if_pos hx]
              exact append_D0 h ok n x hp hm hh hN hf hx
            · rw [if_neg hx]
              exact append_D1 h ok n x hp hm hh hN hf hx
end Go.Proofs.YtajjcfacbnicnaaGreatDoor.Dk
