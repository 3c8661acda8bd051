/-
  Words, digits and names, by the program and by the document.
-/
import Derived.Test.YtblhkhgcaheplaaGreatDoorFS
import Derived.WalkKit
import Derived.WalkSpells
import Derived.WalkLawsBesides
import Derived.Deep.LoopGhost
import Derived.Deep.RegionWith
import Derived.BigQuiet
import Derived.Deep.QuietTactic
import Derived.Laws.BytesArg
import Derived.Below
namespace Go.Proofs.YtblhkhgcaheplaaGreatDoor
open Go.RowKit
set_option maxRecDepth 100000

def wb (b : UInt8) : Bool := decide (97 ≤ b.toNat) && decide (b.toNat ≤ 122)

theorem ba_get (n : ByteArray) (i : Nat) (h : i < n.size) : n.data.toList[i]? = some n[i] := by
  show n.data.toList[i]? = some n.data[i]
  rw [Array.getElem?_toList]
  exact Array.getElem?_eq_getElem h

theorem all_of_get {n : ByteArray} (p : UInt8 → Bool) (h : ∀ i, (hi : i < n.size) → p n[i] = true) : n.data.toList.all p = true := by
  rw [List.all_eq_true]
  intro x hx
  obtain ⟨i, hi, rfl⟩ := List.getElem_of_mem hx
  exact h i (by simpa using hi)
theorem all_not_get {n : ByteArray} (p : UInt8 → Bool) (i : Nat) (hi : i < n.size) (h : p n[i] = false) : n.data.toList.all p = false := by
  rw [List.all_eq_false]
  exact ⟨n[i], List.mem_of_getElem? (ba_get n i hi), by simp [h]⟩

theorem wd_is (s : ByteArray) : Fi.wd s.data.toList = (decide (1 ≤ s.size) && decide (s.size ≤ 5) && s.data.toList.all wb) := rfl

theorem mk_append (a b : List UInt8) : (ByteArray.mk a.toArray) ++ ⟨b.toArray⟩ = ⟨(a ++ b).toArray⟩ := by
  apply ByteArray.ext
  simp [ByteArray.data_append]

theorem mk_data (s : ByteArray) : (⟨s.data.toList.toArray⟩ : ByteArray) = s := by
  apply ByteArray.ext
  simp

theorem size_mk (l : List UInt8) : (ByteArray.mk l.toArray).size = l.length := by simp [ByteArray.size]

theorem conv_one (w : World) (x : Int) :
    (convert 30 9 (.slice (some ⟨w.heap.size, 0, none⟩) 1 1)).run Tryz.prog (w.alloc (.cells #[.int .u8 x] 5)) = .ok (.string ⟨#[UInt8.ofNat x.toNat]⟩) (w.alloc (.cells #[.int .u8 x] 5)) := by
  refine run_convert_bytes_arg _ 30 5 Tryz.underlying30 Tryz.underlying5 w.heap.size 0 1 1 [x] rfl (fun i hi => ?_) 9 Tryz.underlying9
  obtain rfl : i = 0 := by omega
  rw [cell_of_row _ _ _ _ _ (0, 0) (heap_alloc_new w _)]
  rfl

theorem index_str (t : ByteArray) (n : Nat) (h : n < t.size) (z : Int) (hz : z = (n : Int)) (w : World) : (Instr.index 9 (.string t) (.int .i64 z)).run Tryz.prog w = .ok (.int .u8 (t[n].toNat : Int)) w := by
  subst hz
  have h0 : (0 : Int) ≤ (n : Int) := by omega
  have h1 : t[n]? = some t[n] := getElem?_pos t n h
  simp only [Instr.index, asIntOf, Sem.run_bind, Sem.run_pure, Result.andThen_ok, run_underlying Tryz.underlying9, h0, if_true, Int.toNat_natCast, h1]

theorem wb_ways {b : UInt8} {x : Nat} (hx : b.toNat = x) (h : wb b = false) : x < 97 ∨ (97 ≤ x ∧ 122 < x) := by
  unfold wb at h
  rw [hx] at h
  simp at h
  omega

set_option maxHeartbeats 1600000 in
theorem isWord_any (s : ByteArray) (w : World) :
    Calls Tryz.prog 28 #[.string s] w fun e w' => e = .returned (.bool (Fi.wd s.data.toList)) ∧ w' = w := by
  rw [wd_is]
  by_cases h1 : s.size < 1
  · go_enter Tryz.func28, Tryz.ntmps28
    go_wp2
    go_ret
    exact ⟨by simp; omega, rfl⟩
  · by_cases h2 : 5 < s.size
    · have d1 : decide ((s.size : Int) < 1) = false := by simp; omega
      go_enter Tryz.func28, Tryz.ntmps28
      go_wp2
      go_ret
      exact ⟨by simp; omega, rfl⟩
    · have d1 : decide ((s.size : Int) < 1) = false := by simp; omega
      have d2 : decide (5 < (s.size : Int)) = false := by simp; omega
      have e1 : (decide (1 ≤ s.size) && decide (s.size ≤ 5)) = true := by simp; omega
      rw [e1, Bool.true_and]
      clear e1
      go_enter Tryz.func28, Tryz.ntmps28
      go_wp2
      go_loopg [14] s.size (fun gh v wr => ∃ k : Nat, s.size - k ≤ gh ∧ k ≤ s.size ∧ v = .int .i64 (k : Int) ∧ wr = w ∧ Aside (∀ i, i < k → (hi : i < s.size) → wb s[i] = true))
      case atStart => exact ⟨0, by omega, by omega, rfl, rfl, (fun i hi _ => absurd hi (Nat.not_lt_zero _) : ∀ i, i < 0 → (hi : i < s.size) → wb s[i] = true)⟩
      case round =>
        obtain ⟨k, hgh, hk, rfl, rfl, I⟩ := hrel
        by_cases hlt : k < s.size
        · have d3 : decide (k < s.size) = true := by simpa using hlt
          have d3' : decide ((k : Int) < (s.size : Int)) = true := by simpa using hlt
          cases hq : wb s[k] with
          | true =>
            have I2 : Aside (∀ i, i < k + 1 → (hi : i < s.size) → wb s[i] = true) := fun i hi hs => by
              by_cases h : i = k
              · subst h; exact hq
              · exact I.out i (by omega) hs
            have x0 := index_str s k hlt (k : Int) rfl
            obtain ⟨x, hx⟩ : ∃ x, s[k].toNat = x := ⟨_, rfl⟩
            have hx' : 97 ≤ x ∧ x ≤ 122 := by
              unfold wb at hq
              rw [hx] at hq
              simpa using hq
            rw [hx] at x0
            have d4 : decide ((x : Int) < 97) = false := by simp; omega
            have d5 : decide (122 < (x : Int)) = false := by simp; omega
            clear hq I hx
            go_wp2
            go_roundg (s.size - (k + 1))
            case measure => omega
            case rel => exact ⟨k + 1, Nat.le_refl _, by omega, by go_num, rfl, I2⟩
          | false =>
            have F : Aside (s.data.toList.all wb = false) := all_not_get wb k hlt hq
            have x0 := index_str s k hlt (k : Int) rfl
            obtain ⟨x, hx⟩ : ∃ x, s[k].toNat = x := ⟨_, rfl⟩
            have hx' := wb_ways hx hq
            rw [hx] at x0
            clear hq I hx
            rcases hx' with hx' | ⟨hx', hx''⟩
            · have d4 : decide ((x : Int) < 97) = true := by simp; omega
              go_wp2
              go_ret
              exact ⟨by rw [F.out]; rfl, rfl⟩
            · have d4 : decide ((x : Int) < 97) = false := by simp; omega
              have d5 : decide (122 < (x : Int)) = true := by simp; omega
              go_wp2
              go_ret
              exact ⟨by rw [F.out]; rfl, rfl⟩
        · have d3 : decide (k < s.size) = false := by simpa using hlt
          have d3' : decide ((k : Int) < (s.size : Int)) = false := by simpa using hlt
          have F : Aside (s.data.toList.all wb = true) := all_of_get wb fun i hi => I.out i (by omega) hi
          clear I
          go_wp2
          go_ret
          exact ⟨by rw [F.out]; rfl, rfl⟩

/-- What holds at each round's head of the loop. -/
def DRel (n : Nat) (w : World) (s0 v : Value) (wr : World) (m : Nat) : Prop :=
  ∃ (l : List UInt8), s0 = .int .i64 (m : Int) ∧ v = .string ⟨l.toArray⟩ ∧ l.length + (if m = 0 then [] else Lib.decDigits m).length ≤ 20 ∧ (if m = 0 then [] else Lib.decDigits m) ++ l = Lib.decDigits n ∧ Below w.heap.size w wr

theorem dec_len (n : Nat) (h : n ≤ 99999) : (Lib.decDigits n).length ≤ 5 := by
  rw [Lib.decDigits_length]
  by_cases h1 : n < 10
  · rw [Lib.nDigits_small h1]; omega
  rw [Lib.nDigits_big h1]
  by_cases h2 : n / 10 < 10
  · rw [Lib.nDigits_small h2]; omega
  rw [Lib.nDigits_big h2]
  by_cases h3 : n / 10 / 10 < 10
  · rw [Lib.nDigits_small h3]; omega
  rw [Lib.nDigits_big h3]
  by_cases h4 : n / 10 / 10 / 10 < 10
  · rw [Lib.nDigits_small h4]; omega
  rw [Lib.nDigits_big h4]
  rw [Lib.nDigits_small (by omega)]
  omega

theorem dec_step {n m : Nat} {l : List UInt8} (h : 0 < m) (hc : (if m = 0 then [] else Lib.decDigits m) ++ l = Lib.decDigits n) : (if m / 10 = 0 then [] else Lib.decDigits (m / 10)) ++ UInt8.ofNat (48 + m % 10) :: l = Lib.decDigits n := by
  rw [Fi.dec_more l h]
  rw [if_neg (by omega)] at hc
  exact hc

theorem dec_cat {n m : Nat} {l : List UInt8} (hn : n ≤ 99999) (hc : (if m = 0 then [] else Lib.decDigits m) ++ l = Lib.decDigits n) : l.length + (if m = 0 then [] else Lib.decDigits m).length ≤ 20 := by
  have h1 := congrArg List.length hc
  have h2 := dec_len n hn
  rw [List.length_append] at h1
  omega

set_option maxHeartbeats 1600000 in
set_option maxRecDepth 1000000 in
theorem digits_any (n : Nat) (w : World) (h0 : 0 < n) (hn : n ≤ 99999) :
    Calls Tryz.prog 36 #[.int .i64 (n : Int)] w fun e w' => e = .returned (.string ⟨(Lib.decDigits n).toArray⟩) ∧ Below w.heap.size w w' := by
  have hc := conv_one
  have S0 : Aside ((if n / 10 = 0 then [] else Lib.decDigits (n / 10)) ++ [UInt8.ofNat (48 + n % 10)] = Lib.decDigits n) := dec_step (l := []) h0 (by rw [if_neg (by omega)]; simp)
  go_enter Tryz.func36, Tryz.ntmps36
  go_wp2
  go_loopg [0, 3] (n / 10) (fun gh s0 v wr => ∃ m, m ≤ gh ∧ m ≤ 99999 ∧ DRel n w s0 v wr m)
  case atStart =>
    refine ⟨n / 10, Nat.le_refl _, by omega, [UInt8.ofNat (48 + n % 10)], by simp, ?_, dec_cat hn S0.out, S0.out, (Below.refl _ _).alloc (Nat.le_refl _) _⟩
    simp
  case round =>
    obtain ⟨m, hgh, hm, l, rfl, rfl, hl, hcat, hbel⟩ := hrel
    by_cases hlt : 0 < m
    · have R : Aside (∀ o : Obj, DRel n w (.int .i64 ((m : Int) / 10)) (.string (⟨#[48 + UInt8.ofNat (m % 10)]⟩ ++ ⟨l.toArray⟩)) (wr.alloc o) (m / 10)) := fun o => by
        have hs := dec_step hlt hcat
        exact ⟨UInt8.ofNat (48 + m % 10) :: l, by simp, by rw [show (48 : UInt8) + UInt8.ofNat (m % 10) = UInt8.ofNat (48 + m % 10) from (UInt8.ofNat_add 48 _).symm, show (ByteArray.mk #[UInt8.ofNat (48 + m % 10)]) ++ ⟨l.toArray⟩ = ⟨(UInt8.ofNat (48 + m % 10) :: l).toArray⟩ from mk_append [_] l], dec_cat hn hs, hs, hbel.alloc hbel.size _⟩
      have hll : l.length ≤ 20 := by omega
      have hsz := size_mk l
      clear hl hcat hbel S0
      go_wp2
      go_roundg (m / 10)
      case measure => omega
      case rel =>
        exact ⟨m / 10, Nat.le_refl _, by omega, R.out _⟩
    · obtain rfl : m = 0 := by omega
      rw [if_pos rfl, List.nil_append] at hcat
      subst hcat
      go_wp2
      go_ret
      exact ⟨rfl, hbel⟩
end Go.Proofs.YtblhkhgcaheplaaGreatDoor
