/-
  YtpeioecpilmpiaaGreatDoor: the texts D7, one behind the other.
-/
import Derived.Test.YtpeioecpilmpiaaGreatDoorMF23
import Derived.WalkKit
import Derived.WalkSpells
import Derived.WalkLawsBesides
import Derived.Deep.LoopGhost
import Derived.Laws.Externs
import Derived.Below
import Derived.BigQuiet
import Derived.Deep.RegionWith
import Derived.OwnWalk
import Derived.Maps.AppendAt
import Derived.WalkSmall
/-
  The document's reader: a sign that begins with a \.
-/
namespace Go.Proofs.YtpeioecpilmpiaaGreatDoor
open Go.RowKit
/-- What a sign behind a \ leaves. -/
def EO (s : ByteArray) (p q e : Nat) (t : ByteArray) : Prop :=
  q ≤ s.size ∧ t.size ≤ 4 ∧ ((e = 0 ∧ ∃ n : Nat, Js.esc (L s (p + 1)) = some (n, L s q) ∧ t = ⟨(Lib.encodeRune n).toArray⟩ ∧ p + 2 ≤ q) ∨ (e = 3 ∧ Js.esc (L s (p + 1)) = none))
theorem EO.bad {s : ByteArray} {p : Nat} (hp : p ≤ s.size) (h : Js.esc (L s (p + 1)) = none) : EO s p p 3 ⟨#[]⟩ := ⟨hp, by decide, .inr ⟨rfl, h⟩⟩
theorem EO.ok {s : ByteArray} {p q n : Nat} (hq : q ≤ s.size) (hpq : p + 2 ≤ q) (h : Js.esc (L s (p + 1)) = some (n, L s q)) : EO s p q 0 ⟨(Lib.encodeRune n).toArray⟩ :=
  ⟨hq, by have := denc_len n
          show (Lib.encodeRune n).toArray.size ≤ 4
          simpa using this, .inl ⟨rfl, n, h, rfl, hpq⟩⟩
theorem ext_get (s : ByteArray) (p k : Nat) (h : p + k < s.size) : (s.extract p s.size).get! k = s.get! (p + k) := by
  have hz : (s.extract p s.size).size = s.size - p := by simp
  rw [get_at _ k (by omega), get_at _ (p + k) h]
  simp [ByteArray.getElem_extract]
theorem L_ext (s : ByteArray) (p k : Nat) : L (s.extract p s.size) k = L s (p + k) := by
  have := ext_list s p
  unfold L at *
  rw [this, List.drop_drop]
theorem hexI_neg {l : Js.B} (h : Js.hexs 4 0 l = none) : hexI l = -1 := by unfold hexI; rw [h]
theorem hexI_some {l : Js.B} {n : Nat} {r : Js.B} (h : Js.hexs 4 0 l = some (n, r)) : hexI l = (n : Int) := by unfold hexI; rw [h]
theorem esc_cons (s : ByteArray) (p : Nat) (h : p + 1 < s.size) : L s (p + 1) = s.get! (p + 1) :: L s (p + 2) := L_cons s (p + 1) h

/-- No letter that has one sign. -/
def NoL (x : UInt8) : Prop := x.toNat ≠ 34 ∧ x.toNat ≠ 92 ∧ x.toNat ≠ 47 ∧ x.toNat ≠ 98 ∧ x.toNat ≠ 102 ∧ x.toNat ≠ 110 ∧ x.toNat ≠ 114 ∧ x.toNat ≠ 116
theorem esc_other {x : UInt8} (h : NoL x) (h2 : x.toNat ≠ 117) (l : Js.B) : Js.esc (x :: l) = none := by
  unfold NoL at h
  have hn : ∀ c : UInt8, x.toNat ≠ c.toNat → ¬ x = c := fun c hc e => hc (by rw [e])
  simp only [Js.esc]
  rw [if_neg (hn 34 h.1), if_neg (hn 92 h.2.1), if_neg (hn 47 h.2.2.1), if_neg (hn 98 h.2.2.2.1), if_neg (hn 102 h.2.2.2.2.1), if_neg (hn 110 h.2.2.2.2.2.1), if_neg (hn 114 h.2.2.2.2.2.2.1), if_neg (hn 116 h.2.2.2.2.2.2.2), if_neg (hn 117 h2)]
theorem esc_u {x : UInt8} (h2 : x.toNat = 117) (l : Js.B) : Js.esc (x :: l) = Js.uni l := by
  obtain rfl : x = 117 := UInt8.toNat_inj.1 h2
  rfl
theorem esc_l0 {x : UInt8} (h2 : x.toNat = 34) (l : Js.B) : Js.esc (x :: l) = some (34, l) := by
  obtain rfl : x = 34 := UInt8.toNat_inj.1 h2
  rfl
theorem esc_l1 {x : UInt8} (h2 : x.toNat = 92) (l : Js.B) : Js.esc (x :: l) = some (92, l) := by
  obtain rfl : x = 92 := UInt8.toNat_inj.1 h2
  rfl
theorem esc_l2 {x : UInt8} (h2 : x.toNat = 47) (l : Js.B) : Js.esc (x :: l) = some (47, l) := by
  obtain rfl : x = 47 := UInt8.toNat_inj.1 h2
  rfl
theorem esc_l3 {x : UInt8} (h2 : x.toNat = 98) (l : Js.B) : Js.esc (x :: l) = some (8, l) := by
  obtain rfl : x = 98 := UInt8.toNat_inj.1 h2
  rfl
theorem esc_l4 {x : UInt8} (h2 : x.toNat = 102) (l : Js.B) : Js.esc (x :: l) = some (12, l) := by
  obtain rfl : x = 102 := UInt8.toNat_inj.1 h2
  rfl
theorem esc_l5 {x : UInt8} (h2 : x.toNat = 110) (l : Js.B) : Js.esc (x :: l) = some (10, l) := by
  obtain rfl : x = 110 := UInt8.toNat_inj.1 h2
  rfl
theorem esc_l6 {x : UInt8} (h2 : x.toNat = 114) (l : Js.B) : Js.esc (x :: l) = some (13, l) := by
  obtain rfl : x = 114 := UInt8.toNat_inj.1 h2
  rfl
theorem esc_l7 {x : UInt8} (h2 : x.toNat = 116) (l : Js.B) : Js.esc (x :: l) = some (9, l) := by
  obtain rfl : x = 116 := UInt8.toNat_inj.1 h2
  rfl

/-- What holds at each round's head. -/
def ER (x : UInt8) (k : Nat) : Prop := (0 < k → x.toNat ≠ 34) ∧ (1 < k → x.toNat ≠ 92) ∧ (2 < k → x.toNat ≠ 47) ∧ (3 < k → x.toNat ≠ 98) ∧ (4 < k → x.toNat ≠ 102) ∧ (5 < k → x.toNat ≠ 110) ∧ (6 < k → x.toNat ≠ 114) ∧ (7 < k → x.toNat ≠ 116)

theorem uni_none {l : Js.B} (h : Js.hexs 4 0 l = none) : Js.uni l = none := by unfold Js.uni; rw [h]
theorem uni_one {l r : Js.B} {n : Nat} (h : Js.hexs 4 0 l = some (n, r)) (hn : n < 55296 ∨ 57343 < n) : Js.uni l = some (n, r) := by unfold Js.uni; rw [h]; simp only []; rw [if_pos hn]
theorem uni_low {l r : Js.B} {n : Nat} (h : Js.hexs 4 0 l = some (n, r)) (h1 : 56320 ≤ n) (h2 : n ≤ 57343) : Js.uni l = none := by unfold Js.uni; rw [h]; simp only []; rw [if_neg (by omega), if_pos h1]
theorem uni_alone {l r : Js.B} {n : Nat} (h : Js.hexs 4 0 l = some (n, r)) (h1 : 55296 ≤ n) (h2 : n < 56320) (hr : ∀ t, r ≠ 92 :: 117 :: t) : Js.uni l = none := by
  unfold Js.uni
  rw [h]
  simp only []
  rw [if_neg (by omega), if_neg (by omega)]
theorem uni_two {l r r2 : Js.B} {n : Nat} (h : Js.hexs 4 0 l = some (n, r)) (h1 : 55296 ≤ n) (h2 : n < 56320) (hr : r = 92 :: 117 :: r2) : Js.uni l = match Js.hexs 4 0 r2 with | none => none | some (m, r3) => if 56320 ≤ m ∧ m ≤ 57343 then some (65536 + (n - 55296) * 1024 + (m - 56320), r3) else none := by
  subst hr
  unfold Js.uni
  rw [h]
  simp only []
  rw [if_neg (by omega), if_neg (by omega)]
  rfl
theorem hexs_at {s : ByteArray} {q n : Nat} {r : Js.B} (h : Js.hexs 4 0 (L s q) = some (n, r)) : r = L s (q + 4) ∧ q + 4 ≤ s.size ∧ n < 65536 := by
  obtain ⟨e1, e2⟩ := Js.hexs_len _ _ _ _ _ h
  have e3 := Js.hexs_lt _ _ _ _ _ h
  rw [L_drop] at e2
  rw [L_len] at e1
  exact ⟨e2, by omega, by simpa using e3⟩
theorem hexI_cases (l : Js.B) : (Js.hexs 4 0 l = none ∧ hexI l = -1) ∨ ∃ n r, Js.hexs 4 0 l = some (n, r) ∧ hexI l = (n : Int) := by
  cases h : Js.hexs 4 0 l with
  | none => exact .inl ⟨rfl, hexI_neg h⟩
  | some x => exact .inr ⟨x.1, x.2, rfl, hexI_some (r := x.2) (by rw [h])⟩

set_option maxHeartbeats 4000000 in
set_option maxRecDepth 100000 in
theorem descape_any (r : Nat) (s : ByteArray) (p d : Nat) (w : World) (h' : Rq r s p d 0 w) (hp : p < s.size) (hs : s.size ≤ 1000) :
    Calls Tryz.prog 59 #[.pointer (some ⟨r, 0, none⟩)] w fun en w' => ∃ (t : ByteArray) (q e' : Nat), en = .returned (.string t) ∧ EO s p q e' t ∧ Rq r s q d e' w' ∧ w.grownBy w' (some r) := by
  have c0 := h'.c0
  have c1 := h'.c1
  have I0 : Aside (∀ n, Rq r s p d 0 (w.drewN n) ∧ w.grownBy (w.drewN n) (some r)) := fun n => ⟨h'.drewN n, grown_drewN (grefl _ _) n⟩
  clear h'
  have hz : (s.extract p s.size).size = s.size - p := by simp
  by_cases h2 : s.size < p + 2
  · have d1 : decide (((s.extract p s.size).size : Int) < 2) = true := by simp; omega
    have E := asd (EO.bad (s := s) (p := p) (by omega) (by rw [L_end s (p + 1) (by omega)]; rfl))
    generalize hr : s.extract p s.size = R at *
    go_enter Tryz.func59, Tryz.ntmps59
    go_wp2
    go_quiet (fail)
    go_wp2_with (go_at_call 25; refine (bad_any r s p d 0 3 _ (I0.out _).1).mono ?_; rintro en w4 ⟨rfl, h4, g4⟩; have H4 := asd (And.intro h4 (gtrans (I0.out _).2 g4)); clear h4 g4)
    go_ret
    exact ⟨_, p, 3, rfl, E.out, H4.out.1, H4.out.2⟩
  · have d1 : decide (((s.extract p s.size).size : Int) < 2) = false := by simp; omega
    have hp1 : p + 1 < s.size := by omega
    have hx1 := Si.index_str (s.extract p s.size) 1 (by omega) 1 rfl
    rw [ext_get s p 1 hp1] at hx1
    have ec := asd (esc_cons s p hp1)
    have kH1 := asd (fun u : World => dhex_any (s.extract p s.size) 2 u (by omega) (by omega))
    have kH2 := asd (fun u : World => dhex_any (s.extract p s.size) 8 u (by omega) (by omega))
    rw [L_ext] at kH1 kH2
    have hx6 : Aside (p + 6 < s.size → ∀ u, (Instr.index 9 (.string (s.extract p s.size)) (.int .i64 6)).run Tryz.prog u = .ok (.int .u8 ((s.get! (p + 6)).toNat : Int)) u) := fun h u => by
      have := Si.index_str (s.extract p s.size) 6 (by omega) 6 rfl u
      rw [ext_get s p 6 h] at this
      exact this
    have hx7 : Aside (p + 7 < s.size → ∀ u, (Instr.index 9 (.string (s.extract p s.size)) (.int .i64 7)).run Tryz.prog u = .ok (.int .u8 ((s.get! (p + 7)).toNat : Int)) u) := fun h u => by
      have := Si.index_str (s.extract p s.size) 7 (by omega) 7 rfl u
      rw [ext_get s p 7 h] at this
      exact this
    generalize hx0 : s.get! (p + 1) = x at *
    clear hx0
    generalize hr : s.extract p s.size = R at *
    have hxl := x.toNat_lt
    go_enter Tryz.func59, Tryz.ntmps59
    go_wp2
    go_quiet (fail)
    go_wp2
    go_loopg [6] 8 (fun gh s6 wr => ∃ k : Nat, 8 - k ≤ gh ∧ k ≤ 8 ∧ s6 = .int .i64 (k : Int) ∧ Aside (ER x k) ∧ Aside (Rq r s p d 0 wr ∧ w.grownBy wr (some r)))
    case atStart => exact ⟨0, by omega, by omega, rfl, by unfold Aside ER; simp, I0.out _⟩
    case round =>
      obtain ⟨k, hgh, hk, rfl, EK, I⟩ := hrel
      have c1r := I.out.1.c1
      have f1r := I.out.1.fz 1
      have ID := asd (fun n => And.intro (I.out.1.drewN n) (grown_drewN I.out.2 n))
      clear I0 c0 c1
      by_cases hk0 : k = 0
      · subst hk0
        have hi : ∀ u, (Instr.index 9 (.string ⟨#[34, 92, 47, 98, 102, 110, 114, 116]⟩) (.int .i64 0)).run Tryz.prog u = .ok (.int .u8 34) u := fun u => Si.index_str ⟨#[34, 92, 47, 98, 102, 110, 114, 116]⟩ 0 (by decide) 0 rfl u
        by_cases hx : x.toNat = 34
        · have tx : ((x.toNat : Int) == 34) = true := by rw [beq_iff_eq]; omega
          have E := asd (EO.ok (s := s) (p := p) (q := p + 2) (n := 34) (by omega) (by omega) (by rw [ec.out]; exact esc_l0 hx _))
          have eb : (⟨(Lib.encodeRune ((34 : Nat) : Int)).toArray⟩ : ByteArray) = ⟨#[34]⟩ := by rfl
          rw [eb] at E
          have H4 := asd (fun n => And.intro ((ID.out n).1.set1 (p + 2)) (gtrans (ID.out n).2 (grown_set _ r 1 (.int .i64 ((p + 2 : Nat) : Int)))))
          clear hx ec kH1 kH2 hx6 hx7 EK I ID
          go_wp2
          go_quiet (fail)
          go_wp2
          go_ret
          exact ⟨_, p + 2, 0, rfl, E.out, (H4.out _).1, (H4.out _).2⟩
        · have tx : ((x.toNat : Int) == 34) = false := by rw [beq_eq_false_iff_ne]; omega
          have tx2 : ¬ ((x.toNat : Int) = 34) := by omega
          have E2 : Aside (ER x 1) := by
            have := EK.out
            unfold Aside ER at *
            omega
          clear hx ec kH1 kH2 hx6 hx7 EK I
          go_wp2
          go_quiet (fail)
          go_wp2
          go_roundg (8 - 1)
          case measure => omega
          case rel => exact ⟨1, by omega, by omega, by go_num, E2, ID.out _⟩
      by_cases hk1 : k = 1
      · subst hk1
        have hi : ∀ u, (Instr.index 9 (.string ⟨#[34, 92, 47, 98, 102, 110, 114, 116]⟩) (.int .i64 1)).run Tryz.prog u = .ok (.int .u8 92) u := fun u => Si.index_str ⟨#[34, 92, 47, 98, 102, 110, 114, 116]⟩ 1 (by decide) 1 rfl u
        by_cases hx : x.toNat = 92
        · have tx : ((x.toNat : Int) == 92) = true := by rw [beq_iff_eq]; omega
          have E := asd (EO.ok (s := s) (p := p) (q := p + 2) (n := 92) (by omega) (by omega) (by rw [ec.out]; exact esc_l1 hx _))
          have eb : (⟨(Lib.encodeRune ((92 : Nat) : Int)).toArray⟩ : ByteArray) = ⟨#[92]⟩ := by rfl
          rw [eb] at E
          have H4 := asd (fun n => And.intro ((ID.out n).1.set1 (p + 2)) (gtrans (ID.out n).2 (grown_set _ r 1 (.int .i64 ((p + 2 : Nat) : Int)))))
          clear hx ec kH1 kH2 hx6 hx7 EK I ID
          go_wp2
          go_quiet (fail)
          go_wp2
          go_ret
          exact ⟨_, p + 2, 0, rfl, E.out, (H4.out _).1, (H4.out _).2⟩
        · have tx : ((x.toNat : Int) == 92) = false := by rw [beq_eq_false_iff_ne]; omega
          have tx2 : ¬ ((x.toNat : Int) = 92) := by omega
          have E2 : Aside (ER x 2) := by
            have := EK.out
            unfold Aside ER at *
            omega
          clear hx ec kH1 kH2 hx6 hx7 EK I
          go_wp2
          go_quiet (fail)
          go_wp2
          go_roundg (8 - 2)
          case measure => omega
          case rel => exact ⟨2, by omega, by omega, by go_num, E2, ID.out _⟩
      by_cases hk2 : k = 2
      · subst hk2
        have hi : ∀ u, (Instr.index 9 (.string ⟨#[34, 92, 47, 98, 102, 110, 114, 116]⟩) (.int .i64 2)).run Tryz.prog u = .ok (.int .u8 47) u := fun u => Si.index_str ⟨#[34, 92, 47, 98, 102, 110, 114, 116]⟩ 2 (by decide) 2 rfl u
        by_cases hx : x.toNat = 47
        · have tx : ((x.toNat : Int) == 47) = true := by rw [beq_iff_eq]; omega
          have E := asd (EO.ok (s := s) (p := p) (q := p + 2) (n := 47) (by omega) (by omega) (by rw [ec.out]; exact esc_l2 hx _))
          have eb : (⟨(Lib.encodeRune ((47 : Nat) : Int)).toArray⟩ : ByteArray) = ⟨#[47]⟩ := by rfl
          rw [eb] at E
          have H4 := asd (fun n => And.intro ((ID.out n).1.set1 (p + 2)) (gtrans (ID.out n).2 (grown_set _ r 1 (.int .i64 ((p + 2 : Nat) : Int)))))
          clear hx ec kH1 kH2 hx6 hx7 EK I ID
          go_wp2
          go_quiet (fail)
          go_wp2
          go_ret
          exact ⟨_, p + 2, 0, rfl, E.out, (H4.out _).1, (H4.out _).2⟩
        · have tx : ((x.toNat : Int) == 47) = false := by rw [beq_eq_false_iff_ne]; omega
          have tx2 : ¬ ((x.toNat : Int) = 47) := by omega
          have E2 : Aside (ER x 3) := by
            have := EK.out
            unfold Aside ER at *
            omega
          clear hx ec kH1 kH2 hx6 hx7 EK I
          go_wp2
          go_quiet (fail)
          go_wp2
          go_roundg (8 - 3)
          case measure => omega
          case rel => exact ⟨3, by omega, by omega, by go_num, E2, ID.out _⟩
      by_cases hk3 : k = 3
      · subst hk3
        have hi : ∀ u, (Instr.index 9 (.string ⟨#[34, 92, 47, 98, 102, 110, 114, 116]⟩) (.int .i64 3)).run Tryz.prog u = .ok (.int .u8 98) u := fun u => Si.index_str ⟨#[34, 92, 47, 98, 102, 110, 114, 116]⟩ 3 (by decide) 3 rfl u
        by_cases hx : x.toNat = 98
        · have tx : ((x.toNat : Int) == 98) = true := by rw [beq_iff_eq]; omega
          have E := asd (EO.ok (s := s) (p := p) (q := p + 2) (n := 8) (by omega) (by omega) (by rw [ec.out]; exact esc_l3 hx _))
          have eb : (⟨(Lib.encodeRune ((8 : Nat) : Int)).toArray⟩ : ByteArray) = ⟨#[8]⟩ := by rfl
          rw [eb] at E
          have H4 := asd (fun n => And.intro ((ID.out n).1.set1 (p + 2)) (gtrans (ID.out n).2 (grown_set _ r 1 (.int .i64 ((p + 2 : Nat) : Int)))))
          clear hx ec kH1 kH2 hx6 hx7 EK I ID
          go_wp2
          go_quiet (fail)
          go_wp2
          go_ret
          exact ⟨_, p + 2, 0, rfl, E.out, (H4.out _).1, (H4.out _).2⟩
        · have tx : ((x.toNat : Int) == 98) = false := by rw [beq_eq_false_iff_ne]; omega
          have tx2 : ¬ ((x.toNat : Int) = 98) := by omega
          have E2 : Aside (ER x 4) := by
            have := EK.out
            unfold Aside ER at *
            omega
          clear hx ec kH1 kH2 hx6 hx7 EK I
          go_wp2
          go_quiet (fail)
          go_wp2
          go_roundg (8 - 4)
          case measure => omega
          case rel => exact ⟨4, by omega, by omega, by go_num, E2, ID.out _⟩
      by_cases hk4 : k = 4
      · subst hk4
        have hi : ∀ u, (Instr.index 9 (.string ⟨#[34, 92, 47, 98, 102, 110, 114, 116]⟩) (.int .i64 4)).run Tryz.prog u = .ok (.int .u8 102) u := fun u => Si.index_str ⟨#[34, 92, 47, 98, 102, 110, 114, 116]⟩ 4 (by decide) 4 rfl u
        by_cases hx : x.toNat = 102
        · have tx : ((x.toNat : Int) == 102) = true := by rw [beq_iff_eq]; omega
          have E := asd (EO.ok (s := s) (p := p) (q := p + 2) (n := 12) (by omega) (by omega) (by rw [ec.out]; exact esc_l4 hx _))
          have eb : (⟨(Lib.encodeRune ((12 : Nat) : Int)).toArray⟩ : ByteArray) = ⟨#[12]⟩ := by rfl
          rw [eb] at E
          have H4 := asd (fun n => And.intro ((ID.out n).1.set1 (p + 2)) (gtrans (ID.out n).2 (grown_set _ r 1 (.int .i64 ((p + 2 : Nat) : Int)))))
          clear hx ec kH1 kH2 hx6 hx7 EK I ID
          go_wp2
          go_quiet (fail)
          go_wp2
          go_ret
          exact ⟨_, p + 2, 0, rfl, E.out, (H4.out _).1, (H4.out _).2⟩
        · have tx : ((x.toNat : Int) == 102) = false := by rw [beq_eq_false_iff_ne]; omega
          have tx2 : ¬ ((x.toNat : Int) = 102) := by omega
          have E2 : Aside (ER x 5) := by
            have := EK.out
            unfold Aside ER at *
            omega
          clear hx ec kH1 kH2 hx6 hx7 EK I
          go_wp2
          go_quiet (fail)
          go_wp2
          go_roundg (8 - 5)
          case measure => omega
          case rel => exact ⟨5, by omega, by omega, by go_num, E2, ID.out _⟩
      by_cases hk5 : k = 5
      · subst hk5
        have hi : ∀ u, (Instr.index 9 (.string ⟨#[34, 92, 47, 98, 102, 110, 114, 116]⟩) (.int .i64 5)).run Tryz.prog u = .ok (.int .u8 110) u := fun u => Si.index_str ⟨#[34, 92, 47, 98, 102, 110, 114, 116]⟩ 5 (by decide) 5 rfl u
        by_cases hx : x.toNat = 110
        · have tx : ((x.toNat : Int) == 110) = true := by rw [beq_iff_eq]; omega
          have E := asd (EO.ok (s := s) (p := p) (q := p + 2) (n := 10) (by omega) (by omega) (by rw [ec.out]; exact esc_l5 hx _))
          have eb : (⟨(Lib.encodeRune ((10 : Nat) : Int)).toArray⟩ : ByteArray) = ⟨#[10]⟩ := by rfl
          rw [eb] at E
          have H4 := asd (fun n => And.intro ((ID.out n).1.set1 (p + 2)) (gtrans (ID.out n).2 (grown_set _ r 1 (.int .i64 ((p + 2 : Nat) : Int)))))
          clear hx ec kH1 kH2 hx6 hx7 EK I ID
          go_wp2
          go_quiet (fail)
          go_wp2
          go_ret
          exact ⟨_, p + 2, 0, rfl, E.out, (H4.out _).1, (H4.out _).2⟩
        · have tx : ((x.toNat : Int) == 110) = false := by rw [beq_eq_false_iff_ne]; omega
          have tx2 : ¬ ((x.toNat : Int) = 110) := by omega
          have E2 : Aside (ER x 6) := by
            have := EK.out
            unfold Aside ER at *
            omega
          clear hx ec kH1 kH2 hx6 hx7 EK I
          go_wp2
          go_quiet (fail)
          go_wp2
          go_roundg (8 - 6)
          case measure => omega
          case rel => exact ⟨6, by omega, by omega, by go_num, E2, ID.out _⟩
      by_cases hk6 : k = 6
      · subst hk6
        have hi : ∀ u, (Instr.index 9 (.string ⟨#[34, 92, 47, 98, 102, 110, 114, 116]⟩) (.int .i64 6)).run Tryz.prog u = .ok (.int .u8 114) u := fun u => Si.index_str ⟨#[34, 92, 47, 98, 102, 110, 114, 116]⟩ 6 (by decide) 6 rfl u
        by_cases hx : x.toNat = 114
        · have tx : ((x.toNat : Int) == 114) = true := by rw [beq_iff_eq]; omega
          have E := asd (EO.ok (s := s) (p := p) (q := p + 2) (n := 13) (by omega) (by omega) (by rw [ec.out]; exact esc_l6 hx _))
          have eb : (⟨(Lib.encodeRune ((13 : Nat) : Int)).toArray⟩ : ByteArray) = ⟨#[13]⟩ := by rfl
          rw [eb] at E
          have H4 := asd (fun n => And.intro ((ID.out n).1.set1 (p + 2)) (gtrans (ID.out n).2 (grown_set _ r 1 (.int .i64 ((p + 2 : Nat) : Int)))))
          clear hx ec kH1 kH2 hx6 hx7 EK I ID
          go_wp2
          go_quiet (fail)
          go_wp2
          go_ret
          exact ⟨_, p + 2, 0, rfl, E.out, (H4.out _).1, (H4.out _).2⟩
        · have tx : ((x.toNat : Int) == 114) = false := by rw [beq_eq_false_iff_ne]; omega
          have tx2 : ¬ ((x.toNat : Int) = 114) := by omega
          have E2 : Aside (ER x 7) := by
            have := EK.out
            unfold Aside ER at *
            omega
          clear hx ec kH1 kH2 hx6 hx7 EK I
          go_wp2
          go_quiet (fail)
          go_wp2
          go_roundg (8 - 7)
          case measure => omega
          case rel => exact ⟨7, by omega, by omega, by go_num, E2, ID.out _⟩
      by_cases hk7 : k = 7
      · subst hk7
        have hi : ∀ u, (Instr.index 9 (.string ⟨#[34, 92, 47, 98, 102, 110, 114, 116]⟩) (.int .i64 7)).run Tryz.prog u = .ok (.int .u8 116) u := fun u => Si.index_str ⟨#[34, 92, 47, 98, 102, 110, 114, 116]⟩ 7 (by decide) 7 rfl u
        by_cases hx : x.toNat = 116
        · have tx : ((x.toNat : Int) == 116) = true := by rw [beq_iff_eq]; omega
          have E := asd (EO.ok (s := s) (p := p) (q := p + 2) (n := 9) (by omega) (by omega) (by rw [ec.out]; exact esc_l7 hx _))
          have eb : (⟨(Lib.encodeRune ((9 : Nat) : Int)).toArray⟩ : ByteArray) = ⟨#[9]⟩ := by rfl
          rw [eb] at E
          have H4 := asd (fun n => And.intro ((ID.out n).1.set1 (p + 2)) (gtrans (ID.out n).2 (grown_set _ r 1 (.int .i64 ((p + 2 : Nat) : Int)))))
          clear hx ec kH1 kH2 hx6 hx7 EK I ID
          go_wp2
          go_quiet (fail)
          go_wp2
          go_ret
          exact ⟨_, p + 2, 0, rfl, E.out, (H4.out _).1, (H4.out _).2⟩
        · have tx : ((x.toNat : Int) == 116) = false := by rw [beq_eq_false_iff_ne]; omega
          have tx2 : ¬ ((x.toNat : Int) = 116) := by omega
          have E2 : Aside (ER x 8) := by
            have := EK.out
            unfold Aside ER at *
            omega
          clear hx ec kH1 kH2 hx6 hx7 EK I
          go_wp2
          go_quiet (fail)
          go_wp2
          go_roundg (8 - 8)
          case measure => omega
          case rel => exact ⟨8, by omega, by omega, by go_num, E2, ID.out _⟩
      · obtain rfl : k = 8 := by omega
        clear hk0 hk1 hk2 hk3 hk4 hk5 hk6 hk7
        have NL : NoL x := by
          have := EK.out
          unfold ER at this
          unfold NoL
          omega
        have T0 := asd trivial
        have J : ∀ y : Nat, x.toNat = y → ((x.toNat : Int) == 117) = decide (y = 117) := fun y hy => by
          rw [Bool.eq_iff_iff, beq_iff_eq, decide_eq_true_eq]; omega
        clear J EK ID hgh hk
        by_cases hu : x.toNat = 117
        · have tu : ((x.toNat : Int) == 117) = true := by rw [beq_iff_eq]; omega
          have eu : Js.esc (L s (p + 1)) = Js.uni (L s (p + 2)) := by rw [ec.out]; exact esc_u hu _
          clear hu NL
          rcases hexI_cases (L s (p + 2)) with ⟨hn, hv⟩ | ⟨n, r1, hn, hv⟩
          · have E := asd (EO.bad (s := s) (p := p) (by omega) (by rw [eu]; exact uni_none hn))
            rw [hv] at kH1
            clear hn hv eu ec hx6 hx7
            go_wp2_with (first
              | (clear T0; go_at_call 76; refine (kH1.out _).mono ?_; rintro en wh ⟨rfl, rfl⟩)
              | (go_at_call 76; refine (kH2.out _).mono ?_; rintro en wh ⟨rfl, rfl⟩)
              | (go_at_call 25; refine (bad_any r s p d 0 3 _ I.out.1).mono ?_; rintro en w4 ⟨rfl, h4, g4⟩; have H4 := asd (And.intro h4 (gtrans I.out.2 g4)); clear h4 g4))
            go_ret
            exact ⟨_, p, 3, rfl, E.out, H4.out.1, H4.out.2⟩
          · obtain ⟨er1, hq4, hn16⟩ := hexs_at hn
            rw [hv] at kH1
            have d0 : decide ((0 : Int) ≤ (n : Int)) = true := by simp
            by_cases hs1 : n < 55296
            · have g1 : decide ((n : Int) < 55296) = true := by simp; omega
              have E := asd (EO.ok (s := s) (p := p) (q := p + 6) (n := n) (by omega) (by omega) (by rw [eu, uni_one hn (.inl hs1), er1]))
              have kB := asd (fun u : World => dbytes_any n u (.inl hs1))
              clear hn hv eu ec hx6 hx7 er1 hs1
              have N1 := asd (And.intro (I.out.1.set1 (p + 6)) (gtrans I.out.2 (grown_set _ r 1 (.int .i64 ((p + 6 : Nat) : Int)))))
              have ea : ((p + 6 : Nat) : Int) = (p : Int) + 6 := by omega
              rw [ea] at N1
              clear ea
              go_wp2_with (first
                | (clear T0; go_at_call 76; refine (kH1.out _).mono ?_; rintro en wh ⟨rfl, rfl⟩)
                | (go_at_call 76; refine (kH2.out _).mono ?_; rintro en wh ⟨rfl, rfl⟩)
                | (go_at_call 77; refine (kB.out _).mono ?_; rintro en w4 ⟨rfl, b4⟩; have H4 := asd (And.intro (N1.out.1.keep (b4.block r N1.out.1.lt)) (gtrans N1.out.2 (gbelow b4))); clear b4))
              go_ret
              exact ⟨_, p + 6, 0, rfl, E.out, H4.out.1, H4.out.2⟩
            · have g1 : decide ((n : Int) < 55296) = false := by simp; omega
              by_cases hs2 : 57343 < n
              · have g2 : decide ((57343 : Int) < (n : Int)) = true := by simp; omega
                have E := asd (EO.ok (s := s) (p := p) (q := p + 6) (n := n) (by omega) (by omega) (by rw [eu, uni_one hn (.inr hs2), er1]))
                have kB := asd (fun u : World => dbytes_any n u (.inr ⟨hs2, by omega⟩))
                clear hn hv eu ec hx6 hx7 er1 hs1 hs2
                have N1 := asd (And.intro (I.out.1.set1 (p + 6)) (gtrans I.out.2 (grown_set _ r 1 (.int .i64 ((p + 6 : Nat) : Int)))))
                have ea : ((p + 6 : Nat) : Int) = (p : Int) + 6 := by omega
                rw [ea] at N1
                clear ea
                go_wp2_with (first
                  | (clear T0; go_at_call 76; refine (kH1.out _).mono ?_; rintro en wh ⟨rfl, rfl⟩)
                  | (go_at_call 76; refine (kH2.out _).mono ?_; rintro en wh ⟨rfl, rfl⟩)
                  | (go_at_call 77; refine (kB.out _).mono ?_; rintro en w4 ⟨rfl, b4⟩; have H4 := asd (And.intro (N1.out.1.keep (b4.block r N1.out.1.lt)) (gtrans N1.out.2 (gbelow b4))); clear b4))
                go_ret
                exact ⟨_, p + 6, 0, rfl, E.out, H4.out.1, H4.out.2⟩
              · have g2 : decide ((57343 : Int) < (n : Int)) = false := by simp; omega
                have g3 : decide ((55296 : Int) ≤ (n : Int)) = true := by simp; omega
                by_cases hs3 : 56320 ≤ n
                · have g4 : decide ((n : Int) < 56320) = false := by simp; omega
                  have E := asd (EO.bad (s := s) (p := p) (by omega) (by rw [eu]; exact uni_low hn hs3 (by omega)))
                  clear hn hv eu ec hx6 hx7 er1 hs1 hs2 hs3
                  go_wp2_with (first
                    | (clear T0; go_at_call 76; refine (kH1.out _).mono ?_; rintro en wh ⟨rfl, rfl⟩)
                    | (go_at_call 76; refine (kH2.out _).mono ?_; rintro en wh ⟨rfl, rfl⟩)
                    | (go_at_call 25; refine (bad_any r s p d 0 3 _ I.out.1).mono ?_; rintro en w4 ⟨rfl, h4, g4⟩; have H4 := asd (And.intro h4 (gtrans I.out.2 g4)); clear h4 g4))
                  go_ret
                  exact ⟨_, p, 3, rfl, E.out, H4.out.1, H4.out.2⟩
                · have g4 : decide ((n : Int) < 56320) = true := by simp; omega
                  have L6 : L s (p + 6) = r1 := er1.symm
                  by_cases h8 : s.size < p + 8
                  · have g5 : decide ((8 : Int) ≤ (R.size : Int)) = false := by simp; omega
                    clear hz hr
                    have E := asd (EO.bad (s := s) (p := p) (by omega) (by rw [eu]; exact uni_alone hn (by omega) (by omega) (fun t e => by
                      have := congrArg List.length (L6.trans e)
                      rw [L_len] at this
                      simp at this
                      omega)))
                    clear hn hv eu ec hx6 hx7 er1 hs1 hs2 hs3 L6
                    go_wp2_with (first
                      | (clear T0; go_at_call 76; refine (kH1.out _).mono ?_; rintro en wh ⟨rfl, rfl⟩)
                      | (go_at_call 76; refine (kH2.out _).mono ?_; rintro en wh ⟨rfl, rfl⟩)
                      | (go_at_call 25; refine (bad_any r s p d 0 3 _ I.out.1).mono ?_; rintro en w4 ⟨rfl, h4, g4⟩; have H4 := asd (And.intro h4 (gtrans I.out.2 g4)); clear h4 g4))
                    go_ret
                    exact ⟨_, p, 3, rfl, E.out, H4.out.1, H4.out.2⟩
                  · have g5 : decide ((8 : Int) ≤ (R.size : Int)) = true := by simp; omega
                    clear hz hr
                    have i6 := hx6.out (by omega)
                    have i7 := hx7.out (by omega)
                    have C6 : L s (p + 6) = s.get! (p + 6) :: s.get! (p + 7) :: L s (p + 8) := by rw [L_cons s (p + 6) (by omega), L_cons s (p + 6 + 1) (by omega)]
                    generalize s.get! (p + 6) = y at *
                    generalize s.get! (p + 7) = z at *
                    by_cases h6 : y.toNat = 92
                    · have t6 : ((y.toNat : Int) == 92) = true := by rw [beq_iff_eq]; omega
                      by_cases h7 : z.toNat = 117
                      · have t7 : ((z.toNat : Int) == 117) = true := by rw [beq_iff_eq]; omega
                        obtain rfl : y = 92 := UInt8.toNat_inj.1 h6
                        obtain rfl : z = 117 := UInt8.toNat_inj.1 h7
                        have eu2 := eu.trans (uni_two hn (by omega) (by omega) (L6.symm.trans C6))
                        rcases hexI_cases (L s (p + 8)) with ⟨hm, hvm⟩ | ⟨m, r2, hm, hvm⟩
                        · have E := asd (EO.bad (s := s) (p := p) (by omega) (by rw [eu2, hm]))
                          rw [hvm] at kH2
                          clear hn hv eu ec hx6 hx7 er1 hs1 hs2 hs3 L6 C6 hm hvm eu2 h6 h7
                          go_wp2_with (first
                            | (clear T0; go_at_call 76; refine (kH1.out _).mono ?_; rintro en wh ⟨rfl, rfl⟩)
                            | (go_at_call 76; refine (kH2.out _).mono ?_; rintro en wh ⟨rfl, rfl⟩)
                            | (go_at_call 25; refine (bad_any r s p d 0 3 _ I.out.1).mono ?_; rintro en w4 ⟨rfl, h4, g4⟩; have H4 := asd (And.intro h4 (gtrans I.out.2 g4)); clear h4 g4))
                          go_ret
                          exact ⟨_, p, 3, rfl, E.out, H4.out.1, H4.out.2⟩
                        · obtain ⟨er2, hq8, hm16⟩ := hexs_at hm
                          rw [hvm] at kH2
                          rw [hm] at eu2
                          by_cases hm1 : 56320 ≤ m
                          · have g6 : decide ((56320 : Int) ≤ (m : Int)) = true := by simp; omega
                            by_cases hm2 : m ≤ 57343
                            · have g7 : decide ((m : Int) ≤ 57343) = true := by simp; omega
                              have E := asd (EO.ok (s := s) (p := p) (q := p + 12) (n := 65536 + (n - 55296) * 1024 + (m - 56320)) (by omega) (by omega) (by rw [eu2]; simp only []; rw [if_pos ⟨hm1, hm2⟩, er2]))
                              have kB := asd (fun u : World => dbytes_any (65536 + (n - 55296) * 1024 + (m - 56320)) u (.inr ⟨by omega, by omega⟩))
                              have ev : ((65536 + (n - 55296) * 1024 + (m - 56320) : Nat) : Int) = 65536 + ((n : Int) - 55296) * 1024 + (m : Int) - 56320 := by omega
                              rw [ev] at kB E
                              generalize hW : (⟨(Lib.encodeRune (65536 + ((n : Int) - 55296) * 1024 + (m : Int) - 56320)).toArray⟩ : ByteArray) = W at *
                              clear hn hv eu ec hx6 hx7 er1 hs1 hs2 hs3 L6 C6 hm hvm eu2 h6 h7 er2 hW ev
                              have N1 := asd (And.intro (I.out.1.set1 (p + 12)) (gtrans I.out.2 (grown_set _ r 1 (.int .i64 ((p + 12 : Nat) : Int)))))
                              have ea : ((p + 12 : Nat) : Int) = (p : Int) + 12 := by omega
                              rw [ea] at N1
                              clear ea
                              go_wp2_with (first
                                | (clear T0; go_at_call 76; refine (kH1.out _).mono ?_; rintro en wh ⟨rfl, rfl⟩)
                                | (go_at_call 76; refine (kH2.out _).mono ?_; rintro en wh ⟨rfl, rfl⟩)
                                | (go_at_call 77; refine (kB.out _).mono ?_; rintro en w4 ⟨rfl, b4⟩; have H4 := asd (And.intro (N1.out.1.keep (b4.block r N1.out.1.lt)) (gtrans N1.out.2 (gbelow b4))); clear b4))
                              go_ret
                              exact ⟨_, p + 12, 0, rfl, E.out, H4.out.1, H4.out.2⟩
                            · have g7 : decide ((m : Int) ≤ 57343) = false := by simp; omega
                              have E := asd (EO.bad (s := s) (p := p) (by omega) (by rw [eu2]; simp only []; rw [if_neg (by omega)]))
                              clear hn hv eu ec hx6 hx7 er1 hs1 hs2 hs3 L6 C6 hm hvm eu2 h6 h7 er2
                              go_wp2_with (first
                                | (clear T0; go_at_call 76; refine (kH1.out _).mono ?_; rintro en wh ⟨rfl, rfl⟩)
                                | (go_at_call 76; refine (kH2.out _).mono ?_; rintro en wh ⟨rfl, rfl⟩)
                                | (go_at_call 25; refine (bad_any r s p d 0 3 _ I.out.1).mono ?_; rintro en w4 ⟨rfl, h4, g4⟩; have H4 := asd (And.intro h4 (gtrans I.out.2 g4)); clear h4 g4))
                              go_ret
                              exact ⟨_, p, 3, rfl, E.out, H4.out.1, H4.out.2⟩
                          · have g6 : decide ((56320 : Int) ≤ (m : Int)) = false := by simp; omega
                            have E := asd (EO.bad (s := s) (p := p) (by omega) (by rw [eu2]; simp only []; rw [if_neg (by omega)]))
                            clear hn hv eu ec hx6 hx7 er1 hs1 hs2 hs3 L6 C6 hm hvm eu2 h6 h7 er2
                            go_wp2_with (first
                              | (clear T0; go_at_call 76; refine (kH1.out _).mono ?_; rintro en wh ⟨rfl, rfl⟩)
                              | (go_at_call 76; refine (kH2.out _).mono ?_; rintro en wh ⟨rfl, rfl⟩)
                              | (go_at_call 25; refine (bad_any r s p d 0 3 _ I.out.1).mono ?_; rintro en w4 ⟨rfl, h4, g4⟩; have H4 := asd (And.intro h4 (gtrans I.out.2 g4)); clear h4 g4))
                            go_ret
                            exact ⟨_, p, 3, rfl, E.out, H4.out.1, H4.out.2⟩
                      · have t7 : ((z.toNat : Int) == 117) = false := by rw [beq_eq_false_iff_ne]; omega
                        have E := asd (EO.bad (s := s) (p := p) (by omega) (by rw [eu]; exact uni_alone hn (by omega) (by omega) (fun t e => by
                          have := (C6.symm.trans (L6.trans e))
                          injection this with _ e2
                          injection e2 with e3 _
                          exact h7 (by rw [e3]; rfl))))
                        clear hn hv eu ec hx6 hx7 er1 hs1 hs2 hs3 L6 C6 h6 h7
                        go_wp2_with (first
                          | (clear T0; go_at_call 76; refine (kH1.out _).mono ?_; rintro en wh ⟨rfl, rfl⟩)
                          | (go_at_call 76; refine (kH2.out _).mono ?_; rintro en wh ⟨rfl, rfl⟩)
                          | (go_at_call 25; refine (bad_any r s p d 0 3 _ I.out.1).mono ?_; rintro en w4 ⟨rfl, h4, g4⟩; have H4 := asd (And.intro h4 (gtrans I.out.2 g4)); clear h4 g4))
                        go_ret
                        exact ⟨_, p, 3, rfl, E.out, H4.out.1, H4.out.2⟩
                    · have t6 : ((y.toNat : Int) == 92) = false := by rw [beq_eq_false_iff_ne]; omega
                      have E := asd (EO.bad (s := s) (p := p) (by omega) (by rw [eu]; exact uni_alone hn (by omega) (by omega) (fun t e => by
                        have := (C6.symm.trans (L6.trans e))
                        injection this with e3 _
                        exact h6 (by rw [e3]; rfl))))
                      clear hn hv eu ec hx6 hx7 er1 hs1 hs2 hs3 L6 C6 h6
                      go_wp2_with (first
                        | (clear T0; go_at_call 76; refine (kH1.out _).mono ?_; rintro en wh ⟨rfl, rfl⟩)
                        | (go_at_call 76; refine (kH2.out _).mono ?_; rintro en wh ⟨rfl, rfl⟩)
                        | (go_at_call 25; refine (bad_any r s p d 0 3 _ I.out.1).mono ?_; rintro en w4 ⟨rfl, h4, g4⟩; have H4 := asd (And.intro h4 (gtrans I.out.2 g4)); clear h4 g4))
                      go_ret
                      exact ⟨_, p, 3, rfl, E.out, H4.out.1, H4.out.2⟩
        · have tu : ((x.toNat : Int) == 117) = false := by rw [beq_eq_false_iff_ne]; omega
          have tu2 : ¬ ((x.toNat : Int) = 117) := by omega
          have E := asd (EO.bad (s := s) (p := p) (by omega) (by rw [ec.out]; exact esc_other NL hu _))
          clear hu NL ec hx6 hx7
          go_wp2_with (first
            | (clear T0; go_at_call 76; refine (kH1.out _).mono ?_; rintro en wh ⟨rfl, rfl⟩)
            | (go_at_call 76; refine (kH2.out _).mono ?_; rintro en wh ⟨rfl, rfl⟩)
            | (go_at_call 25; refine (bad_any r s p d 0 3 _ I.out.1).mono ?_; rintro en w4 ⟨rfl, h4, g4⟩; have H4 := asd (And.intro h4 (gtrans I.out.2 g4)); clear h4 g4))
          go_ret
          exact ⟨_, p, 3, rfl, E.out, H4.out.1, H4.out.2⟩

end Go.Proofs.YtpeioecpilmpiaaGreatDoor
