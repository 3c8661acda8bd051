/-
  A part, read and looked at: as the program does it, and as the document does.
-/
import Derived.Test.YtkijglkjpgjdaaaDoorC6
namespace Go.Proofs.YtkijglkjpgjdaaaDoor
open Go.RowKit

/-- May a part be? -/
def goodP (p : List UInt8) : Bool := decide (p = []) || Si.Sg.calm ⟨p.toArray⟩ 0

theorem mk_size (l : List UInt8) : (ByteArray.mk l.toArray).size = l.length := Pa.size_mk l

theorem rd_none {raw : List UInt8} (h : Cn.readB raw = none) : Cn.rd goodP raw = none := by simp [Cn.rd, h]
theorem rd_some {raw p : List UInt8} (h : Cn.readB raw = some p) : Cn.rd goodP raw = if goodP p then some p else none := by simp [Cn.rd, h]

theorem right_len (l : List UInt8) (n : Int) (h0 : l ≠ []) (hn : (l.length : Int) ≤ n) : Si.right ⟨l.toArray⟩ n = goodP l := by
  have h1 : 1 ≤ l.length := by
    cases l with
    | nil => exact absurd rfl h0
    | cons a t => simp
  unfold Si.right goodP
  rw [mk_size]
  simp [h0, h1, hn]

set_option maxHeartbeats 1600000 in
theorem readPart_any (s : ByteArray) (w : World) (hs : s.size ≤ 200000) :
    Calls Tryd.prog 37 #[.string s] w fun e w' => e = .returned (opt (Cn.rd goodP s.data.toList)) ∧ Below w.heap.size w w' := by
  have k1 := readBytes_any s w (by omega)
  cases hr : Cn.readB s.data.toList with
  | none =>
    rw [hr] at k1
    rw [rd_none hr]
    clear hr
    go_enter Tryd.func37, Tryd.ntmps37
    go_wp2_with (go_at_call 62; refine k1.mono ?_; rintro e w1 ⟨rfl, hb1⟩; simp only [opt])
    go_ret2
    exact ⟨rfl, hb1⟩
  | some p =>
    have hl := Cn.readB_len _ _ _ (Nat.le_refl _) hr
    have hl2 : p.length ≤ s.size := hl
    rw [hr] at k1
    rw [rd_some hr]
    clear hr hl
    by_cases h0 : p = []
    · subst h0
      have e : goodP [] = true := rfl
      rw [e]
      go_enter Tryd.func37, Tryd.ntmps37
      go_wp2_with (go_at_call 62; refine k1.mono ?_; rintro e w1 ⟨rfl, hb1⟩; simp only [opt])
      go_ret2
      exact ⟨rfl, hb1⟩
    · have kr : Aside (∀ u : World, _) := fun u => Si.right_any ⟨p.toArray⟩ ((ByteArray.mk p.toArray).size : Int) u (by rw [mk_size]; omega)
      rw [right_len p _ h0 (by rw [mk_size]; omega)] at kr
      have hz : 1 ≤ (ByteArray.mk p.toArray).size := by
        rw [mk_size]
        cases p with
        | nil => exact absurd rfl h0
        | cons a t => simp
      generalize goodP p = G at *
      have d1 := Si.toList_some hz
      have E : Aside (∀ u : World, Below w.heap.size w u → opt (some p) = .tuple #[.string ⟨p.toArray⟩, .bool true]) := fun _ _ => rfl
      have k2 : Aside (Calls Tryd.prog 62 #[.string s] w fun e w' => e = .returned (.tuple #[.string ⟨p.toArray⟩, .bool true]) ∧ Below w.heap.size w w') := k1
      clear k1 h0 hl2
      cases G with
      | true =>
        have F : Aside ((if (true = true) then some p else none) = some p) := rfl
        generalize (if (true = true) then some p else none) = o at *
        generalize hP : ByteArray.mk p.toArray = P at *
        have d1b : (P.toList != []) = true := by simpa using d1
        go_enter Tryd.func37, Tryd.ntmps37
        go_wp2_with (first
          | (go_at_call 62; refine k2.out.mono ?_; rintro e w1 ⟨rfl, hb1⟩)
          | (go_at_call 63; refine (kr.out _).mono ?_; rintro e w2 ⟨rfl, hb2⟩))
        go_ret2
        exact ⟨by rw [F.out, E.out w (Below.refl _ _)]; rfl, hb1.trans (hb2.mono hb1.size)⟩
      | false =>
        have F : Aside ((if (false = true) then some p else none) = none) := rfl
        generalize (if (false = true) then some p else none) = o at *
        generalize hP : ByteArray.mk p.toArray = P at *
        have d1b : (P.toList != []) = true := by simpa using d1
        go_enter Tryd.func37, Tryd.ntmps37
        go_wp2_with (first
          | (go_at_call 62; refine k2.out.mono ?_; rintro e w1 ⟨rfl, hb1⟩)
          | (go_at_call 63; refine (kr.out _).mono ?_; rintro e w2 ⟨rfl, hb2⟩))
        go_ret2
        exact ⟨by rw [F.out]; rfl, hb1.trans (hb2.mono hb1.size)⟩

theorem cut_one (s : ByteArray) (k : Nat) (h : k < s.size) : s.extract k (k + 1) = ⟨#[s[k]]⟩ := by
  apply ByteArray.ext
  apply Array.toList_inj.1
  rw [Lib.extract_data]
  have e := byte_at s k h
  simp [List.take_drop, e]
  
theorem grow_one (L : List UInt8) (b : UInt8) : (ByteArray.mk L.toArray) ++ ⟨#[b]⟩ = ⟨(L ++ [b]).toArray⟩ := Pa.mk_append L [b]

theorem conv_one_drew (w : World) (x : Int) :
    (convert 41 9 (.slice (some ⟨w.heap.size, 0, none⟩) 1 1)).run Tryd.prog (w.alloc (.cells #[.int .u8 x] 5)).drew = .ok (.string ⟨#[UInt8.ofNat x.toNat]⟩) (w.alloc (.cells #[.int .u8 x] 5)).drew := by
  refine run_convert_bytes_arg _ 41 5 Tryd.underlying41 Tryd.underlying5 w.heap.size 0 1 1 [x] rfl (fun i hi => ?_) 9 Tryd.underlying9
  obtain rfl : i = 0 := by omega
  show (w.alloc (.cells #[.int .u8 x] 5)).cell? _ = _
  rw [cell_of_row _ _ _ _ _ (0, 0) (heap_alloc_new w _)]
  rfl

theorem wrap_byte (z : Int) (h0 : 0 ≤ z) (h1 : z < 256) : IntKind.u8.wrap z = z := by
  rw [IntKind.wrap_u8]
  omega

theorem isEmpty_mk (L : List UInt8) : ((ByteArray.mk L.toArray).toList == []) = decide (L = []) := by
  rw [Bool.eq_iff_iff, beq_iff_eq, decide_eq_true_eq, ByteArray.toList_eq]

/-- What holds at each round's head. -/
def FRel (s : ByteArray) (w : World) (s4 s5 : Value) (wr : World) (k : Nat) : Prop :=
  ∃ L : List UInt8, s4 = .string ⟨L.toArray⟩ ∧ s5 = .int .i64 (k : Int) ∧ k ≤ s.size ∧ L.length ≤ k ∧ Below w.heap.size w wr ∧ Cn.rest L (s.data.toList.drop k) = Cn.readB s.data.toList

set_option maxHeartbeats 1600000 in
set_option maxRecDepth 1000000 in
theorem refRead_any (s : ByteArray) (w : World) (hs : s.size ≤ 60) :
    Calls Tryd.prog 22 #[.string s] w fun e w' => ∃ X, e = .returned (.tuple #[.string X, .bool (Cn.rd goodP s.data.toList).isSome]) ∧ (∀ p, Cn.rd goodP s.data.toList = some p → X = ⟨p.toArray⟩) ∧ Below w.heap.size w w' := by
  have k39 : Aside (∀ (b : UInt8) (u : World), _) := fun b u => digitRef_any b u
  go_enter Tryd.func22, Tryd.ntmps22
  go_wp2
  go_loopg [4, 5] s.size (fun gh s4 s5 wr => ∃ k : Nat, s.size - k ≤ gh ∧ FRel s w s4 s5 wr k)
  case atStart => exact ⟨0, by omega, [], rfl, rfl, by omega, by simp, Below.refl _ _, Cn.rest_start _⟩
  case round =>
    obtain ⟨k, hgh, L, rfl, rfl, hk, hL, hbw, hr⟩ := hrel
    have hsz := hbw.size
    have hmz := mk_size L
    by_cases hp : k < s.size
    · rw [byte_at s k hp] at hr
      by_cases hc : s[k] = 37
      · rw [hc] at hr
        have d1 : ((s[k].toNat : Int) != 37) = false := by rw [hc]; rfl
        by_cases h2 : k + 2 < s.size
        · have d2 : decide ((s.size : Int) ≤ (k : Int) + 2) = false := by simp; omega
          rw [byte_at s (k + 1) (by omega), byte_at s (k + 1 + 1) (by omega)] at hr
          clear hc
          have r1 := Cn.hexV_range s[k + 1]
          have r2 := Cn.hexV_range s[k + 2]
          have hr2 : Cn.rest L (37 :: s[k + 1] :: s[k + 2] :: s.data.toList.drop (k + 3)) = Cn.readB s.data.toList := hr
          clear hr
          by_cases hx : Cn.hexV s[k + 1] < 0 ∨ Cn.hexV s[k + 2] < 0
          · have A : Aside (Cn.rd goodP s.data.toList = none) := rd_none (by
              rw [← hr2]
              exact Cn.rest_bad _ _ _ _ hx)
            clear hr2
            generalize Cn.hexV = F at *
            clear r1 r2
            by_cases hy : F s[k + 1] < 0
            · have d3 : decide (F s[k + 1] < 0) = true := by simpa using hy
              go_wp2_with (go_at_call 39; refine (k39.out _ _).mono ?_; rintro e w1 ⟨rfl, rfl⟩)
              go_ret2
              exact ⟨_, by rw [A.out]; rfl, fun p hp => (by rw [A.out] at hp; cases hp), hbw⟩
            · have d3 : decide (F s[k + 1] < 0) = false := by simpa using hy
              have d4 : decide (F s[k + 2] < 0) = true := by simp; omega
              go_wp2_with (go_at_call 39; refine (k39.out _ _).mono ?_; rintro e w1 ⟨rfl, rfl⟩)
              go_ret2
              exact ⟨_, by rw [A.out]; rfl, fun p hp => (by rw [A.out] at hp; cases hp), hbw⟩
          · rw [Cn.rest_hex _ _ _ _ hx] at hr2
            have A : Aside (Cn.rest (L ++ [UInt8.ofNat (Cn.hexV s[k + 1] * 16 + Cn.hexV s[k + 2]).toNat]) (s.data.toList.drop (k + 3)) = Cn.readB s.data.toList) := hr2
            clear hr2
            generalize Cn.hexV = F at *
            have d3 : decide (F s[k + 1] < 0) = false := by simp; omega
            have d4 : decide (F s[k + 2] < 0) = false := by simp; omega
            have x1 := index_str s (k + 1) (by omega) ((k : Int) + 1) (by omega)
            have x2 := index_str s (k + 2) (by omega) ((k : Int) + 2) (by omega)
            have y1 := wrap_small ((k : Int) + 1) (by omega) (by omega)
            have y2 := wrap_small ((k : Int) + 2) (by omega) (by omega)
            have hcv := conv_one_drew
            have q1 : ¬ 9223372036854775807 < L.length + 1 := by omega
            have y3 := wrap_small (F s[k + 1] * 16) (by omega) (by omega)
            have y4 := wrap_small (F s[k + 1] * 16 + F s[k + 2]) (by omega) (by omega)
            have y5 := wrap_byte (F s[k + 1] * 16 + F s[k + 2]) (by omega) (by omega)
            have G : Aside ((ByteArray.mk L.toArray) ++ ⟨#[UInt8.ofNat (F s[k + 1] * 16 + F s[k + 2]).toNat]⟩ = ⟨(L ++ [UInt8.ofNat (F s[k + 1] * 16 + F s[k + 2]).toNat]).toArray⟩) := grow_one L _
            go_wp2_with (go_at_call 39; refine (k39.out _ _).mono ?_; rintro e w1 ⟨rfl, rfl⟩)
            go_region_with (go_at_call 39; refine (k39.out _ _).mono ?_; rintro e w1 ⟨rfl, rfl⟩)
            all_goals first
              | (exfalso; omega)
              | (go_wp2
                 go_roundg (s.size - (k + 3))
                 case measure => omega
                 case rel => exact ⟨k + 3, Nat.le_refl _, L ++ [UInt8.ofNat (F s[k + 1] * 16 + F s[k + 2]).toNat], by rw [← G.out], by go_num, by omega, by simp; omega, (hbw.alloc hsz _).drew, A.out⟩)
        · have d2 : decide ((s.size : Int) ≤ (k : Int) + 2) = true := by simp; omega
          have A : Aside (Cn.rd goodP s.data.toList = none) := rd_none (by
            rw [← hr]
            exact Cn.rest_short _ _ (by have : s.data.toList.length = s.size := rfl; rw [List.length_drop]; omega))
          clear hr hc
          go_wp2
          go_ret2
          exact ⟨_, by rw [A.out]; rfl, fun p hp => (by rw [A.out] at hp; cases hp), hbw⟩
      · have d1 : ((s[k].toNat : Int) != 37) = true := by
          simp
          intro h
          exact hc (UInt8.toNat_inj.1 (by have : (37 : UInt8).toNat = 37 := rfl; omega))
        rw [Cn.rest_plain _ _ _ hc] at hr
        have A : Aside (Cn.rest (L ++ [s[k]]) (s.data.toList.drop (k + 1)) = Cn.readB s.data.toList ∧ (ByteArray.mk L.toArray) ++ s.extract k (k + 1) = ⟨(L ++ [s[k]]).toArray⟩) := ⟨hr, by rw [cut_one s k hp]; exact grow_one L _⟩
        have hq := Si.cut_size s k (k + 1) hp
        clear hr hc
        go_wp2
        go_roundg (s.size - (k + 1))
        case measure => omega
        case rel => exact ⟨k + 1, Nat.le_refl _, L ++ [s[k]], by rw [← A.out.2], by go_num, by omega, by simp; omega, hbw, A.out.1⟩
    · obtain rfl : k = s.size := by omega
      have hd : s.data.toList.drop s.size = [] := List.drop_eq_nil_of_le (Nat.le_refl _)
      rw [hd, Cn.rest_nil] at hr
      have hrd := rd_some hr.symm
      by_cases h0 : L = []
      · subst h0
        have A : Aside (Cn.rd goodP s.data.toList = some []) := hrd
        clear hr hd hrd
        go_wp2
        go_ret2
        exact ⟨_, by rw [A.out]; rfl, fun p hp => (by rw [A.out] at hp; cases hp; rfl), hbw⟩
      · have d5 : ((ByteArray.mk L.toArray).toList == []) = false := by rw [isEmpty_mk]; simpa using h0
        have d6 : (ByteArray.mk L.toArray).toList.isEmpty = false := by simpa using d5
        have kr := Si.refRight_any ⟨L.toArray⟩ 60 wr (by omega)
        rw [right_len L 60 h0 (by omega)] at kr
        have A : Aside (Cn.rd goodP s.data.toList = if goodP L then some L else none) := hrd
        clear hr hd hrd h0
        have E : Aside ((Cn.rd goodP s.data.toList).isSome = goodP L ∧ ∀ p, Cn.rd goodP s.data.toList = some p → (ByteArray.mk L.toArray) = ⟨p.toArray⟩) := by
          rw [A.out]
          constructor
          · cases goodP L <;> rfl
          · intro p hp
            cases hg : goodP L with
            | true => rw [hg] at hp; cases hp; rfl
            | false => rw [hg] at hp; cases hp
        clear A
        generalize goodP L = G at *
        generalize hP : ByteArray.mk L.toArray = P at *
        go_wp2_with (go_at_call 40; refine kr.mono ?_; rintro e w1 ⟨rfl, hb1⟩)
        go_ret2
        exact ⟨_, by rw [E.out.1]; rfl, E.out.2, hbw.trans (hb1.mono hsz)⟩
end Go.Proofs.YtkijglkjpgjdaaaDoor
