/-
  Ytnmamaeoghgegaa: the texts DR2, DR3, DR4, DX11, DX13, one behind the other.
-/
import Derived.Test.YtnmamaeoghgegaaG11
/-
  What is asked of the document's disk: At, Right, Used, Free, Sure; New.
-/
namespace Go.Proofs.Ytnmamaeoghgegaa.Dk
open Go.RowKit
set_option maxRecDepth 100000

def atOf (l : List ByteArray) (n : ByteArray) : Int := if has l n then ((l.findIdx fun x => decide (cmp x n = 0) : Nat) : Int) else -1

theorem gnames_get (l : List Gv) (t : Nat) (h : t < l.length) : (l.map Gv.name)[t]! = l[t]!.name := by
  rw [getElem!_pos _ t (by simpa using h), getElem!_pos l t h]
  simp

set_option maxHeartbeats 800000 in
theorem at_any {w : World} {B b : Nat} {d : Rs} (h : RRep w B b d) (hl : d.files.length ≤ 1000) (n : ByteArray) :
    Calls Try.prog 48 #[.pointer (some ⟨b, 0, none⟩), .string n] w fun e w' => e = .returned (.int .i64 (atOf d.names n)) ∧ w' = w := by
  have c0 := h.c0
  obtain ⟨a, cap, ev, hc'⟩ := h.row
  have hc : Aside (∀ t, t < d.files.length → ∃ g a' c' a'' c'', a = some ⟨g, 0, none⟩ ∧ w.cell? ⟨g, t * 3, none⟩ = some (.string d.files[t]!.name) ∧ w.cell? ⟨g, t * 3 + 1, none⟩ = some (.slice a' d.files[t]!.bytes.length c') ∧ w.cell? ⟨g, t * 3 + 2, none⟩ = some (.slice a'' d.files[t]!.late.length c'') ∧ ∀ k, k < d.files[t]!.late.length → ∃ gl, a'' = some ⟨gl, 0, none⟩ ∧ w.cell? ⟨gl, k, none⟩ = some (.int .i64 (d.files[t]!.late[k]! : Int))) := hc'
  rw [ev] at c0
  unfold Rs.names
  clear hc' h ev
  generalize d.files = l at *
  go_enter Try.func48, Try.ntmps48
  go_wp2
  go_loopg [5] l.length (fun gh s5 wr => ∃ k : Nat, l.length - k ≤ gh ∧ k ≤ l.length ∧ s5 = .int .i64 (k : Int) ∧ w = wr ∧ Aside (∀ i, i < k → ¬ cmp l[i]!.name n = 0))
  case atStart => exact ⟨0, by omega, by omega, rfl, rfl, (fun i hi => absurd hi (Nat.not_lt_zero _) : ∀ i, i < 0 → ¬ cmp l[i]!.name n = 0)⟩
  case round =>
    obtain ⟨k, hgh, hk, rfl, rfl, I⟩ := hrel
    by_cases hlt : k < l.length
    · have d3 : decide (k < l.length) = true := by simpa using hlt
      obtain ⟨g, a', c', a'', c'', rfl, e0, _, _, _⟩ := hc.out k hlt
      by_cases hq : cmp l[k]!.name n = 0
      · have hqb := eq_bytes l[k]!.name n
        rw [decide_eq_true hq] at hqb
        have F : Aside (atOf (l.map Gv.name) n = (k : Int)) := by
          show atOf (l.map Gv.name) n = (k : Int)
          have hkl : k < (l.map Gv.name).length := by simpa using hlt
          have ha : has (l.map Gv.name) n = true := by
            unfold has
            rw [List.any_eq_true]
            exact ⟨l[k]!.name, List.mem_map.2 ⟨l[k]!, List.mem_of_getElem? (getbang l k hlt), rfl⟩, decide_eq_true hq⟩
          have hf : (l.map Gv.name).findIdx (fun x => decide (cmp x n = 0)) = k := by
            rw [List.findIdx_eq hkl]
            refine ⟨by rw [← getElem!_pos (l.map Gv.name) k hkl, gnames_get l k hlt]; exact decide_eq_true hq, fun j hj => ?_⟩
            have := I.out j hj
            rw [← getElem!_pos (l.map Gv.name) j (by omega), gnames_get l j (by omega)]
            exact decide_eq_false this
          rw [atOf, if_pos ha, hf]
        generalize l[k]! = y at *
        clear hq
        go_wp2
        go_ret
        exact ⟨by rw [F.out]; rfl, rfl⟩
      · have hqb := eq_bytes l[k]!.name n
        rw [decide_eq_false hq] at hqb
        have HQ : Aside (¬ cmp l[k]!.name n = 0) := hq
        clear hq
        generalize hy : l[k]! = y at e0 hqb
        clear hy
        go_wp2
        go_roundg (l.length - (k + 1))
        case measure => omega
        case rel =>
          have I2 : Aside (∀ i, i < k + 1 → ¬ cmp l[i]!.name n = 0) := fun i hi => by
            by_cases h : i = k
            · subst h; exact HQ.out
            · exact I.out i (by omega)
          exact ⟨k + 1, Nat.le_refl _, by omega, by go_num, rfl, I2⟩
    · obtain rfl : k = l.length := by omega
      have d3 : decide (l.length < l.length) = false := by simp
      have F : Aside (atOf (l.map Gv.name) n = -1) := by
        show atOf (l.map Gv.name) n = -1
        have ha : ¬ has (l.map Gv.name) n = true := by
          rw [has_iff]
          intro hm
          obtain ⟨x, hx, e⟩ := List.mem_map.1 hm
          obtain ⟨i, hi, rfl⟩ := List.getElem_of_mem hx
          have := I.out i hi
          rw [getElem!_pos l i hi] at this
          exact this (by rw [e]; exact cmp_self n)
        rw [atOf, if_neg ha]
      go_wp2
      go_ret
      exact ⟨by rw [F.out]; rfl, rfl⟩

/-- Where names rise, that is the place. -/
theorem at_place {l : List ByteArray} (hr : Rising l) (n : ByteArray) : atOf l n = if has l n then (place l n : Int) else -1 := by
  unfold atOf
  cases hh : has l n with
  | false => rfl
  | true =>
    simp only [if_true]
    obtain ⟨h1, h2⟩ := (place_mem hr n).1 (has_iff.1 hh)
    have : l.findIdx (fun x => decide (cmp x n = 0)) = place l n := by
      rw [List.findIdx_eq h1]
      refine ⟨by rw [← getElem!_pos l _ h1, h2]; exact decide_eq_true (cmp_self n), fun j hj => ?_⟩
      have hjl : j < l.length := by omega
      refine decide_eq_false fun e => ?_
      have e2 := cmp_zero.1 e
      have e3 := place_at hr j hjl
      rw [getElem!_pos l j hjl, e2] at e3
      omega
    rw [this]

set_option maxHeartbeats 1600000 in
theorem right_any (n : ByteArray) (hn : n.size ≤ 1000000) (w : World) :
    Calls Try.prog 87 #[.string n] w fun e w' => e = .returned (.bool (mayBe n)) ∧ w' = w := by
  unfold mayBe
  generalize hAB : n.data.toList.all (fun b => nb b.toNat) = AB
  have HAB : Aside (n.data.toList.all (fun b => nb b.toNat) = AB) := hAB
  clear hAB
  go_enter Try.func87, Try.ntmps87
  go_wp2
  go_loopg [3, 4] n.size (fun gh s _ wr => ∃ k : Nat, n.size - k ≤ gh ∧ k ≤ n.size ∧ s = .int .i64 (k : Int) ∧ w = wr ∧ Aside (∀ i, i < k → (hi : i < n.size) → nb n[i].toNat = true))
  case atStart => exact ⟨0, by omega, by omega, rfl, rfl, (fun i hi _ => absurd hi (Nat.not_lt_zero _) : ∀ i, i < 0 → (hi : i < n.size) → nb n[i].toNat = true)⟩
  case round =>
    obtain ⟨k, hgh, hk, rfl, rfl, I⟩ := hrel
    by_cases hlt : k < n.size
    · have d3 : decide (k < n.size) = true := by simpa using hlt
      obtain ⟨x, hx⟩ : ∃ x, n[k].toNat = x := ⟨_, rfl⟩
      cases hq : nb x with
      | true =>
        have I2 : Aside (∀ i, i < k + 1 → (hi : i < n.size) → nb n[i].toNat = true) := fun i hi hs => by
          by_cases h : i = k
          · subst h; rw [hx]; exact hq
          · exact I.out i (by omega) hs
        unfold nb at hq
        by_cases h1 : 97 ≤ x <;> by_cases h2 : x ≤ 122 <;> by_cases h3 : 48 ≤ x <;> by_cases h4 : x ≤ 57 <;> by_cases h5 : x = 46 <;> first
          | (exfalso; omega)
          | (exfalso; simp [h1, h2, h3, h4, h5] at hq; done)
          | (clear hq
             first | have q1 : decide ((97 : Int) ≤ (x : Int)) = true := (by simp; omega) | have q1 : decide ((97 : Int) ≤ (x : Int)) = false := (by simp; omega)
             first | have q2 : decide ((x : Int) ≤ 122) = true := (by simp; omega) | have q2 : decide ((x : Int) ≤ 122) = false := (by simp; omega)
             first | have q3 : decide ((48 : Int) ≤ (x : Int)) = true := (by simp; omega) | have q3 : decide ((48 : Int) ≤ (x : Int)) = false := (by simp; omega)
             first | have q4 : decide ((x : Int) ≤ 57) = true := (by simp; omega) | have q4 : decide ((x : Int) ≤ 57) = false := (by simp; omega)
             first | have q5 : ((x : Int) == 46) = true := (by simp; omega) | have q5 : ((x : Int) == 46) = false := (by simp; omega)
             clear h1 h2 h3 h4 h5
             go_wp2
             go_roundg (n.size - (k + 1))
             case measure => omega
             case rel => exact ⟨k + 1, Nat.le_refl _, by omega, by go_num, rfl, I2⟩)
      | false =>
        have F : Aside (AB = false) := HAB.out.symm.trans (all_not_get (fun b => nb b.toNat) k hlt (by rw [hx]; exact hq))
        unfold nb at hq
        by_cases h1 : 97 ≤ x <;> by_cases h2 : x ≤ 122 <;> by_cases h3 : 48 ≤ x <;> by_cases h4 : x ≤ 57 <;> by_cases h5 : x = 46 <;> first
          | (exfalso; omega)
          | (exfalso; simp [h1, h2, h3, h4, h5] at hq; done)
          | (clear hq
             first | have q1 : decide ((97 : Int) ≤ (x : Int)) = true := (by simp; omega) | have q1 : decide ((97 : Int) ≤ (x : Int)) = false := (by simp; omega)
             first | have q2 : decide ((x : Int) ≤ 122) = true := (by simp; omega) | have q2 : decide ((x : Int) ≤ 122) = false := (by simp; omega)
             first | have q3 : decide ((48 : Int) ≤ (x : Int)) = true := (by simp; omega) | have q3 : decide ((48 : Int) ≤ (x : Int)) = false := (by simp; omega)
             first | have q4 : decide ((x : Int) ≤ 57) = true := (by simp; omega) | have q4 : decide ((x : Int) ≤ 57) = false := (by simp; omega)
             first | have q5 : ((x : Int) == 46) = true := (by simp; omega) | have q5 : ((x : Int) == 46) = false := (by simp; omega)
             clear h1 h2 h3 h4 h5
             go_wp2
             go_ret
             exact ⟨by rw [F.out]; simp, rfl⟩)
    · obtain rfl : k = n.size := by omega
      have d3 : decide (n.size < n.size) = false := by simp
      have F : Aside (AB = true) := HAB.out.symm.trans (all_of_get (fun b => nb b.toNat) fun i hi => I.out i (by omega) hi)
      by_cases h1 : 1 ≤ n.size <;> by_cases h2 : n.size ≤ 12
      · have k1 : decide ((1 : Int) ≤ (n.size : Int)) = true := by simp; omega
        have k2 : decide ((n.size : Int) ≤ 12) = true := by simp; omega
        go_wp2
        go_ret
        exact ⟨by rw [F.out]; simp [h1, h2], rfl⟩
      · have k1 : decide ((1 : Int) ≤ (n.size : Int)) = true := by simp; omega
        have k2 : decide ((n.size : Int) ≤ 12) = false := by simp; omega
        go_wp2
        go_ret
        exact ⟨by rw [F.out]; simp [h1, h2], rfl⟩
      · have k1 : decide ((1 : Int) ≤ (n.size : Int)) = false := by simp; omega
        go_wp2
        go_ret
        exact ⟨by rw [F.out]; simp [h1], rfl⟩
      · exfalso; omega

def lateN (l : List Nat) : Nat := l.countP fun n => decide (0 < n)
def sureN (l : List Nat) : Nat := l.countP fun n => decide (n = 0)
def usedG (l : List Gv) : Nat := (l.map fun f => f.bytes.length).sum
def lateG (l : List Gv) : Nat := (l.map fun f => lateN f.late).sum
theorem usedG_next (l : List Gv) (k : Nat) (h : k < l.length) : usedG (l.take (k + 1)) = usedG (l.take k) + l[k]!.bytes.length := by
  rw [take_next l k h]
  simp [usedG]
theorem lateG_next (l : List Gv) (k : Nat) (h : k < l.length) : lateG (l.take (k + 1)) = lateG (l.take k) + lateN l[k]!.late := by
  rw [take_next l k h]
  simp [lateG]
theorem usedG_take (l : List Gv) (k : Nat) : usedG (l.take k) ≤ usedG l := by
  have := congrArg usedG (List.take_append_drop k l)
  unfold usedG at this ⊢
  rw [List.map_append, List.sum_append] at this
  omega
theorem lateG_take (l : List Gv) (k : Nat) : lateG (l.take k) ≤ lateG l := by
  have := congrArg lateG (List.take_append_drop k l)
  unfold lateG at this ⊢
  rw [List.map_append, List.sum_append] at this
  omega
theorem lateN_next (l : List Nat) (k : Nat) (h : k < l.length) : lateN (l.take (k + 1)) = lateN (l.take k) + if 0 < l[k]! then 1 else 0 := by
  rw [take_next l k h]
  unfold lateN
  rw [List.countP_append]
  simp [List.countP_cons]
theorem sureN_next (l : List Nat) (k : Nat) (h : k < l.length) : sureN (l.take (k + 1)) = sureN (l.take k) + if l[k]! = 0 then 1 else 0 := by
  rw [take_next l k h]
  unfold sureN
  rw [List.countP_append]
  simp [List.countP_cons]
theorem lateN_take (l : List Nat) (k : Nat) : lateN (l.take k) ≤ lateN l := (List.take_sublist _ _).countP_le
theorem sureN_take (l : List Nat) (k : Nat) : sureN (l.take k) ≤ l.length := Nat.le_trans List.countP_le_length (by rw [List.length_take]; omega)

/-- What a disk of the document may be. -/
structure ROk (s : RS) : Prop where
  few : s.files.length ≤ 16
  most : s.most ≤ 60000
  left : s.left ≤ 9223372036854775807
  used : (s.files.map fun f => f.bytes.length).sum ≤ 60000
  lates : ∀ f ∈ s.files, f.late.length = f.bytes.length
  count : s.count ≤ 1000000
  small : ∀ f ∈ s.files, ∀ n ∈ f.late, n ≤ s.count

def RS.used (s : RS) : Nat := (s.files.map fun f => f.bytes.length).sum
def RS.lates (s : RS) : Nat := (s.files.map fun f => lateN f.late).sum
theorem rused_pl (d : Rs) : d.pl.used = usedG d.files := by
  unfold RS.used usedG Rs.pl
  simp only [List.map_map]
  rfl
theorem rlates_pl (d : Rs) : d.pl.lates = lateG d.files := by
  unfold RS.lates lateG Rs.pl
  simp only [List.map_map]
  rfl
theorem ROk.late_le {s : RS} (h : ROk s) : s.lates ≤ 60000 := by
  refine Nat.le_trans (sum_le_map _ _ _ fun f hf => ?_) h.used
  rw [← h.lates f hf]
  exact List.countP_le_length

set_option maxHeartbeats 1600000 in
theorem rused_any {w : World} {B b : Nat} {d : Rs} (h : RRep w B b d) (ok : ROk d.pl) :
    Calls Try.prog 60 #[.pointer (some ⟨b, 0, none⟩)] w fun e w' => e = .returned (.tuple #[.int .i64 (d.pl.used : Nat), .int .i64 (d.pl.lates : Nat)]) ∧ w' = w := by
  have c0 := h.c0
  obtain ⟨a, cap, ev, hc'⟩ := h.row
  have hc : Aside (∀ t, t < d.files.length → ∃ g a' c' a'' c'', a = some ⟨g, 0, none⟩ ∧ w.cell? ⟨g, t * 3, none⟩ = some (.string d.files[t]!.name) ∧ w.cell? ⟨g, t * 3 + 1, none⟩ = some (.slice a' d.files[t]!.bytes.length c') ∧ w.cell? ⟨g, t * 3 + 2, none⟩ = some (.slice a'' d.files[t]!.late.length c'') ∧ ∀ k, k < d.files[t]!.late.length → ∃ gl, a'' = some ⟨gl, 0, none⟩ ∧ w.cell? ⟨gl, k, none⟩ = some (.int .i64 (d.files[t]!.late[k]! : Int))) := hc'
  rw [ev] at c0
  have hu : usedG d.files ≤ 60000 := by rw [← rused_pl]; exact ok.used
  have hla : lateG d.files ≤ 60000 := by rw [← rlates_pl]; exact ok.late_le
  have hfew : d.files.length ≤ 16 := by simpa [Rs.pl] using ok.few
  have hlen : Aside (∀ t, t < d.files.length → d.files[t]!.late.length ≤ 60000) := fun t ht => by
    have hm := List.mem_of_getElem? (getbang d.files t ht)
    have h1 := ok.lates (d.files[t]!).pl (List.mem_map.2 ⟨_, hm, rfl⟩)
    have h2 := mem_le_sum d.pl.files (fun f => f.bytes.length) (x := (d.files[t]!).pl) (List.mem_map.2 ⟨_, hm, rfl⟩)
    have h3 := ok.used
    simp only [Gv.pl] at h1 h2
    omega
  rw [rused_pl, rlates_pl]
  clear hc' h ok ev
  generalize d.files = l at *
  go_enter Try.func60, Try.ntmps60
  go_wp2
  go_loopg [4, 5, 6, 7] l.length (fun gh s4 s5 s6 _ wr => ∃ k : Nat, l.length - k ≤ gh ∧ k ≤ l.length ∧ s4 = .int .i64 (usedG (l.take k) : Nat) ∧ s5 = .int .i64 (lateG (l.take k) : Nat) ∧ s6 = .int .i64 (k : Int) ∧ w = wr)
  case atStart => exact ⟨0, by omega, by omega, rfl, rfl, rfl, rfl⟩
  case round =>
    obtain ⟨k, hgh, hk, rfl, rfl, rfl, rfl⟩ := hrel
    by_cases hlt : k < l.length
    · have d3 : decide (k < l.length) = true := by simpa using hlt
      obtain ⟨g, a', c', a'', c'', rfl, e0, e1, e2, e3⟩ := hc.out k hlt
      have E3 : Aside _ := e3
      have hle := hlen.out k hlt
      have hn := usedG_next l k hlt
      have hn2 := lateG_next l k hlt
      have hl1 := usedG_take l (k + 1)
      have hl2 := lateG_take l (k + 1)
      generalize hy : l[k]! = y at *
      clear hy e3
      have HN : Aside (usedG (l.take (k + 1)) = usedG (l.take k) + y.bytes.length) := hn
      have HN2 : Aside (lateG (l.take (k + 1)) = lateG (l.take k) + lateN y.late) := hn2
      have hadd : usedG (l.take k) + y.bytes.length ≤ 60000 := by omega
      have hadd2 : lateG (l.take k) + lateN y.late ≤ 60000 := by omega
      clear hn hn2 hl1 hl2
      go_wp2
      go_loopg [5, 7] y.late.length (fun gj s5 s7 wq => ∃ j : Nat, y.late.length - j ≤ gj ∧ j ≤ y.late.length ∧ s5 = .int .i64 ((lateG (l.take k) + lateN (y.late.take j) : Nat) : Int) ∧ s7 = .int .i64 (j : Int) ∧ w = wq)
      case atStart => exact ⟨0, by omega, by omega, by simp [lateN], rfl, rfl⟩
      case round =>
        obtain ⟨j, hgj, hj, rfl, rfl, rfl⟩ := hrel
        by_cases hjl : j < y.late.length
        · have d4 : decide (j < y.late.length) = true := by simpa using hjl
          obtain ⟨gl, rfl, e4⟩ := E3.out j hjl
          have hm := lateN_next y.late j hjl
          have hm2 := lateN_take y.late (j + 1)
          generalize y.late[j]! = v at *
          by_cases hv : 0 < v
          · have d5 : decide ((0 : Int) < (v : Int)) = true := by simp; omega
            have d5' : decide (0 < v) = true := by simpa using hv
            rw [if_pos hv] at hm
            have HM : Aside (lateN (y.late.take (j + 1)) = lateN (y.late.take j) + 1) := hm
            have hb : lateG (l.take k) + lateN (y.late.take j) + 1 ≤ 60000 := by omega
            clear hm hm2
            go_wp2
            go_roundg (y.late.length - (j + 1))
            case measure => omega
            case rel => exact ⟨j + 1, Nat.le_refl _, by omega, by rw [HM.out]; go_num, by go_num, rfl⟩
          · have d5 : decide ((0 : Int) < (v : Int)) = false := by simp; omega
            have d5' : decide (0 < v) = false := by simpa using hv
            rw [if_neg hv] at hm
            have HM : Aside (lateN (y.late.take (j + 1)) = lateN (y.late.take j) + 0) := hm
            clear hm hm2
            go_wp2
            go_roundg (y.late.length - (j + 1))
            case measure => omega
            case rel => exact ⟨j + 1, Nat.le_refl _, by omega, by rw [HM.out, Nat.add_zero], by go_num, rfl⟩
        · obtain rfl : j = y.late.length := by omega
          have d4 : decide (y.late.length < y.late.length) = false := by simp
          rw [List.take_of_length_le (Nat.le_refl y.late.length)]
          go_wp2
          go_roundg (l.length - (k + 1))
          case measure => omega
          case rel => exact ⟨k + 1, Nat.le_refl _, by omega, by rw [HN.out]; go_num, by rw [HN2.out], by go_num, rfl⟩
    · obtain rfl : k = l.length := by omega
      have d3 : decide (l.length < l.length) = false := by simp
      rw [List.take_of_length_le (Nat.le_refl _)]
      go_wp2
      go_ret2
      exact ⟨rfl, rfl⟩
end Go.Proofs.Ytnmamaeoghgegaa.Dk

/-
  What is asked of the document's disk: Free, Sure; New.
-/
namespace Go.Proofs.Ytnmamaeoghgegaa.Dk
open Go.RowKit
set_option maxRecDepth 100000

theorem ROk.dfew {d : Rs} (h : ROk d.pl) : d.files.length ≤ 16 := by simpa [Rs.pl] using h.few
theorem ROk.dlate {d : Rs} (ok : ROk d.pl) {f : Gv} (hm : f ∈ d.files) : f.late.length = f.bytes.length ∧ f.bytes.length ≤ 60000 := by
  have h1 := ok.lates f.pl (List.mem_map.2 ⟨_, hm, rfl⟩)
  have h2 := mem_le_sum d.pl.files (fun f => f.bytes.length) (x := f.pl) (List.mem_map.2 ⟨_, hm, rfl⟩)
  have h3 := ok.used
  simp only [Gv.pl] at h1 h2
  omega

theorem rfree_any {w : World} {B b : Nat} {d : Rs} (h : RRep w B b d) (ok : ROk d.pl) :
    Calls Try.prog 61 #[.pointer (some ⟨b, 0, none⟩)] w fun e w' => e = .returned (.tuple #[.int .i64 ((d.pl.most - d.pl.used : Nat) : Int), .int .i64 (16 - (d.pl.files.length : Int))]) ∧ Below w.heap.size w w' := by
  have c0 := h.c0
  have c2 := h.c2
  have ku := rused_any h ok
  obtain ⟨a, cap, ev⟩ := own_any h.tab
  rw [ev] at c0
  have hl : d.pl.files.length = d.files.length := by simp [Rs.pl]
  have hm : d.pl.most = d.most := rfl
  have hmost : d.most ≤ 60000 := ok.most
  have hu : d.pl.used ≤ 60000 := ok.used
  have hfew := ok.dfew
  rw [hl, hm]
  clear h ok ev hl hm
  generalize d.pl.used = U at *
  generalize d.pl.lates = LT at *
  generalize d.most = M at *
  generalize d.files.length = N at *
  have hw : IntKind.i64.wrap ((M : Int) - (U : Int)) = (M : Int) - (U : Int) := by rw [IntKind.wrap_i64]; omega
  by_cases hlt : (M : Int) - (U : Int) < 0
  · have d1 : decide ((M : Int) - (U : Int) < 0) = true := by simpa using hlt
    have E : Aside (((M - U : Nat) : Int) = 0) := (by omega : ((M - U : Nat) : Int) = 0)
    rw [E.out]
    clear hlt
    go_enter Try.func61, Try.ntmps61
    go_wp2_with (go_at_call 60; refine ku.mono ?_; rintro e w1 ⟨rfl, rfl⟩)
    go_region
    all_goals
      go_wp2
      go_ret2
      exact ⟨rfl, (Below.refl _ _).drew⟩
  · have d1 : decide ((M : Int) - (U : Int) < 0) = false := by simpa using hlt
    have E : Aside (((M - U : Nat) : Int) = (M : Int) - (U : Int)) := (by omega : ((M - U : Nat) : Int) = (M : Int) - (U : Int))
    rw [E.out]
    clear hlt
    go_enter Try.func61, Try.ntmps61
    go_wp2_with (go_at_call 60; refine ku.mono ?_; rintro e w1 ⟨rfl, rfl⟩)
    go_region
    all_goals
      go_wp2
      go_ret2
      exact ⟨rfl, (Below.refl _ _).drew⟩

theorem atOf_get {d : Rs} {n : ByteArray} (hh : has d.names n = true) : ∃ (i : Nat) (f : Gv), atOf d.names n = (i : Int) ∧ d.files[i]? = some f ∧ f.name = n ∧ f ∈ d.files := by
  have hi : d.names.findIdx (fun x => decide (cmp x n = 0)) < d.names.length := by
    rw [List.findIdx_lt_length]
    exact ⟨n, has_iff.1 hh, decide_eq_true (cmp_self n)⟩
  have hp := List.findIdx_getElem (w := hi)
  have hl : d.names.findIdx (fun x => decide (cmp x n = 0)) < d.files.length := by simpa [Rs.names] using hi
  refine ⟨_, d.files[d.names.findIdx (fun x => decide (cmp x n = 0))], by rw [atOf, if_pos hh], List.getElem?_eq_getElem hl, ?_, List.getElem_mem hl⟩
  have := cmp_zero.1 (of_decide_eq_true hp)
  refine Eq.trans ?_ this
  simp [Rs.names]

def rSure (s : RS) (n : ByteArray) : Nat := match s.files[(atOf s.names n).toNat]?, has s.names n with
  | some f, true => sureN f.late
  | _, _ => 0

set_option maxHeartbeats 1600000 in
theorem rsure_any {w : World} {B b : Nat} {d : Rs} (h : RRep w B b d) (ok : ROk d.pl) (n : ByteArray) :
    Calls Try.prog 59 #[.pointer (some ⟨b, 0, none⟩), .string n] w fun e w' => e = .returned (.int .i64 (rSure d.pl n : Nat)) ∧ w' = w := by
  have ka := at_any h (by have := ok.dfew; omega) n
  unfold rSure
  rw [rnames_pl]
  cases hh : has d.names n with
  | false =>
    have hat : atOf d.names n = -1 := by rw [atOf, if_neg (by rw [hh]; simp)]
    rw [hat] at ka ⊢
    have e0 : (match d.pl.files[((-1 : Int)).toNat]?, false with | some f, true => sureN f.late | _, _ => 0) = 0 := by cases d.pl.files[((-1 : Int)).toNat]? <;> rfl
    rw [e0]
    clear h ok hat e0 hh
    go_enter Try.func59, Try.ntmps59
    go_wp2_with (go_at_call 48; refine ka.mono ?_; rintro e w1 ⟨rfl, rfl⟩)
    go_loopg [6, 7] 1 (fun gh s6 s7 wr => s6 = .int .i64 0 ∧ s7 = .int .i64 0 ∧ w1 = wr)
    case atStart => exact ⟨rfl, rfl, rfl⟩
    case round =>
      obtain ⟨rfl, rfl, rfl⟩ := hrel
      go_wp2
      go_ret
      exact ⟨rfl, rfl⟩
  | true =>
    obtain ⟨i, f, hat, hf, hfn, hfm⟩ := atOf_get hh
    rw [hat] at ka ⊢
    rw [Int.toNat_natCast, rpl_get hf]
    show Calls Try.prog 59 _ w fun e w' => e = .returned (.int .i64 (sureN f.late : Nat)) ∧ w' = w
    obtain ⟨g, cap, ev, hcap, hcm, hg⟩ := h.vf_form hf
    have hfew := ok.dfew
    have hi : i < d.files.length := (List.getElem?_eq_some_iff.1 hf).1
    obtain ⟨hl1, hl2⟩ := ok.dlate hfm
    have c0 := h.c0
    obtain ⟨e0, e1, e2⟩ := h.fcells hf hg
    obtain ⟨al, cl, eal⟩ := own_any (h.rl f hfm)
    have E3 : Aside (∀ k, k < f.late.length → ∃ gl, al = some ⟨gl, 0, none⟩ ∧ w.cell? ⟨gl, k, none⟩ = some (.int .i64 (f.late[k]! : Int))) := fun k hk => by
      obtain ⟨gl, cl', el, _, _, hgl⟩ := own_form (h.rl f hfm) (by omega)
      rw [eal] at el
      injection el with el1 el2 el3
      refine ⟨gl, el1, own_cell (h.rl f hfm) hgl ?_⟩
      unfold lcells
      rw [List.getElem?_map, getbang _ k hk]
      rfl
    rw [ev] at c0
    rw [eal] at e2
    have hll : f.late.length ≤ 60000 := by omega
    clear h ok hat hh hf hfn hfm ev eal hg e1 hl1 hl2
    generalize f.late = L at *
    generalize d.files.length = N at *
    go_enter Try.func59, Try.ntmps59
    go_wp2_with (go_at_call 48; refine ka.mono ?_; rintro e w1 ⟨rfl, rfl⟩)
    go_loopg [6, 7] L.length (fun gh s6 s7 wr => ∃ k : Nat, L.length - k ≤ gh ∧ k ≤ L.length ∧ s6 = .int .i64 (sureN (L.take k) : Nat) ∧ s7 = .int .i64 (k : Int) ∧ w1 = wr)
    case atStart => exact ⟨0, by omega, by omega, rfl, rfl, rfl⟩
    case round =>
      obtain ⟨k, hgh, hk, rfl, rfl, rfl⟩ := hrel
      by_cases hlt : k < L.length
      · have d3 : decide (k < L.length) = true := by simpa using hlt
        obtain ⟨gl, rfl, e4⟩ := E3.out k hlt
        have hm := sureN_next L k hlt
        have hm2 := sureN_take L (k + 1)
        generalize L[k]! = v at *
        by_cases hv : v = 0
        · subst hv
          rw [if_pos rfl] at hm
          have HM : Aside (sureN (L.take (k + 1)) = sureN (L.take k) + 1) := hm
          have hb : sureN (L.take k) + 1 ≤ 60000 := by omega
          clear hm hm2
          go_wp2
          go_roundg (L.length - (k + 1))
          case measure => omega
          case rel => exact ⟨k + 1, Nat.le_refl _, by omega, by rw [HM.out]; go_num, by go_num, rfl⟩
        · have d5 : ((v : Int) == 0) = false := by simp; omega
          rw [if_neg hv] at hm
          have HM : Aside (sureN (L.take (k + 1)) = sureN (L.take k) + 0) := hm
          clear hm hm2
          go_wp2
          go_roundg (L.length - (k + 1))
          case measure => omega
          case rel => exact ⟨k + 1, Nat.le_refl _, by omega, by rw [HM.out, Nat.add_zero], by go_num, rfl⟩
      · obtain rfl : k = L.length := by omega
        have d3 : decide (L.length < L.length) = false := by simp
        rw [List.take_of_length_le (Nat.le_refl L.length)]
        go_wp2
        go_ret
        exact ⟨rfl, rfl⟩

def rEmpty : RS := ⟨[], 0, 0, -1, false⟩
theorem rnew_any (n : Int) (w : World) (B : Nat) (hB : B ≤ w.heap.size) :
    Calls Try.prog 17 #[.int .i64 n] w fun e w' => ∃ b d, e = .returned (.pointer (some ⟨b, 0, none⟩)) ∧ RRep w' B b d ∧ d.pl = rRoom rEmpty n ∧ (∀ k ∈ d.foot b, w.heap.size ≤ k) ∧ Below w.heap.size w w' := by
  have kr : Aside (∀ u : World, RRep u B w.heap.size ⟨[], .slice none 0 0, 0, 0, -1, false⟩ → _) := fun (u : World) hu => rroom_any hu n
  have h0 : Aside (RRep (w.alloc (.cells #[.slice none 0 0, .int .i64 0, .int .i64 0, .int .i64 (-1), .bool false] 82)) B w.heap.size ⟨[], .slice none 0 0, 0, 0, -1, false⟩) :=
    ⟨hB, heap_alloc_new w _, World.ownsRow_nil _ _ _ _, fun f hf => by simp at hf, fun f hf => by simp at hf, by simp [Rs.foot, ob, Value.ownBlock]⟩
  go_enter Try.func17, Try.ntmps17
  go_wp2_with (go_at_call 43; refine (kr.out _ h0.out).mono ?_; rintro e w1 ⟨rfl, d, hr, hp, hs⟩)
  go_ret
  refine ⟨w.heap.size, d, rfl, hr, hp, fun k hk => ?_, ?_⟩
  · rcases hs.sub k hk with h | h
    · simp [Rs.foot, ob, Value.ownBlock] at h
      omega
    · have : w.heap.size + 1 ≤ k := by simpa using h
      omega
  · exact ((Below.refl w.heap.size w).alloc (Nat.le_refl _) _).trans (hs.below (fun k hk => by simp [Rs.foot, ob, Value.ownBlock] at hk; omega) (by simp))
end Go.Proofs.Ytnmamaeoghgegaa.Dk

/-
  The document's disk: a file is another one; the table is another one.
-/
namespace Go.Proofs.Ytnmamaeoghgegaa.Dk
open Go.RowKit
set_option maxRecDepth 100000

theorem nodup_change {A X C Y : List Nat} (h : (A ++ (X ++ C)).Nodup) (hY : Y.Nodup) (hs : ∀ k ∈ Y, k ∈ X ∨ (k ∉ A ∧ k ∉ C)) : (A ++ (Y ++ C)).Nodup := by
  obtain ⟨a, b, c⟩ := List.nodup_append.1 h
  obtain ⟨b1, b2, b3⟩ := List.nodup_append.1 b
  refine List.nodup_append.2 ⟨a, List.nodup_append.2 ⟨hY, b2, ?_⟩, ?_⟩
  · intro x hx y hy e
    subst e
    rcases hs x hx with h1 | ⟨_, h1⟩
    · exact b3 x h1 x hy rfl
    · exact h1 hy
  · intro x hx y hy e
    subst e
    rcases List.mem_append.1 hy with hy | hy
    · rcases hs x hy with h1 | ⟨h1, _⟩
      · exact c x hx x (List.mem_append_left _ h1) rfl
      · exact h1 hx
    · exact c x hx x (List.mem_append_right _ hy) rfl

/-- A file is another one. -/
theorem RRep.reset {w w' : World} {B b g i : Nat} {d : Rs} {f f' : Gv} (h : RRep w B b d) (hf : d.files[i]? = some f) (hg : d.vf.ownBlock = some g)
    (ht : w'.ownsRow B 89 3 d.vf d.files.length ((d.files.set i f').flatMap Gv.cells)) (hb : w'.ownsRow B 5 1 f'.vb f'.bytes.length (bcells f'.bytes)) (hl : w'.ownsRow B 3 1 f'.vl f'.late.length (lcells f'.late))
    (keep : ∀ k, k < w.heap.size → k ≠ g → k ∉ f.obs → w'.heap[k]? = w.heap[k]?) (hs : ∀ k ∈ f'.obs, k ∈ f.obs ∨ w.heap.size ≤ k) (hn : f'.obs.Nodup)
    (e1 : w'.os = w.os) (e2 : w'.tape = w.tape) (e3 : w'.output = w.output) (e4 : w.heap.size ≤ w'.heap.size) :
    RRep w' B b { d with files := d.files.set i f' } ∧ Step (d.foot b) (Rs.foot b { d with files := d.files.set i f' }) w w' := by
  have hm : f ∈ d.files := List.mem_of_getElem? hf
  have hlt := h.lt
  obtain ⟨A, C, ea, eb, _⟩ := split_at hf f'
  have hfoot : d.foot b = ([b] ++ ob d.vf ++ A.flatMap Gv.obs) ++ (f.obs ++ C.flatMap Gv.obs) := by unfold Rs.foot; rw [ea]; simp
  have hfoot' : Rs.foot b { d with files := d.files.set i f' } = ([b] ++ ob d.vf ++ A.flatMap Gv.obs) ++ (f'.obs ++ C.flatMap Gv.obs) := by unfold Rs.foot; simp only; rw [eb]; simp
  have hn0 := h.nodup
  rw [hfoot] at hn0
  have hAC : ∀ x, x ∈ A ∨ x ∈ C → ∀ k ∈ x.obs, k ∉ f.obs := by
    intro x hx k hk hfk
    rcases hx with hx | hx
    · exact (List.nodup_append.1 hn0).2.2 k (List.mem_append_right _ (List.mem_flatMap.2 ⟨x, hx, hk⟩)) k (List.mem_append_left _ hfk) rfl
    · exact app_ne (List.nodup_append.1 hn0).2.1 hfk (List.mem_flatMap.2 ⟨x, hx, hk⟩)
  have hin : ∀ x, x ∈ A ∨ x ∈ C → x ∈ d.files := fun x hx => by
    rw [ea]
    rcases hx with hx | hx
    · exact List.mem_append_left _ hx
    · exact List.mem_append_right _ (List.mem_cons_of_mem _ hx)
  have hmem : ∀ x, x ∈ d.files.set i f' → x = f' ∨ (x ∈ A ∨ x ∈ C) := fun x hx => by
    rw [eb] at hx
    rcases List.mem_append.1 hx with hx | hx
    · exact .inr (.inl hx)
    · rcases List.mem_cons.1 hx with hx | hx
      · exact .inl hx
      · exact .inr (.inr hx)
  refine ⟨⟨h.ge, ?_, by simpa using ht, ?_, ?_, ?_⟩, ?_⟩
  · exact (keep b h.b_lt (fun e => h.b_vf hg e.symm) (fun e => h.b_f hm e rfl)).trans h.blk
  · intro x hx
    rcases hmem x hx with rfl | hx
    · exact hb
    · exact own_frame (h.rb x (hin x hx)) fun k hk => keep k ((h.rb x (hin x hx)).lt k hk).2 (fun e => h.vf_f (hin x hx) hg (e ▸ obs_b hk)) (hAC x hx k (obs_b hk))
  · intro x hx
    rcases hmem x hx with rfl | hx
    · exact hl
    · exact own_frame (h.rl x (hin x hx)) fun k hk => keep k ((h.rl x (hin x hx)).lt k hk).2 (fun e => h.vf_f (hin x hx) hg (e ▸ obs_l hk)) (hAC x hx k (obs_l hk))
  · rw [hfoot']
    refine nodup_change hn0 hn fun k hk => ?_
    rcases hs k hk with e | e
    · exact .inl e
    · refine .inr ⟨fun hm => ?_, fun hm => ?_⟩
      · have := (hlt k (by rw [hfoot]; exact List.mem_append_left _ hm)).2
        omega
      · have := (hlt k (by rw [hfoot]; exact List.mem_append_right _ (List.mem_append_right _ hm))).2
        omega
  · refine ⟨e1, e2, e3, e4, fun k hk hn => keep k hk (fun e => hn (rfoot_vf (e ▸ hg))) (fun e => hn (rfoot_f hm e)), fun k hk => ?_⟩
    rw [hfoot'] at hk
    rcases List.mem_append.1 hk with hk | hk
    · exact .inl (by rw [hfoot]; exact List.mem_append_left _ hk)
    · rcases List.mem_append.1 hk with hk | hk
      · rcases hs k hk with e | e
        · exact .inl (rfoot_f hm e)
        · exact .inr e
      · exact .inl (by rw [hfoot]; exact List.mem_append_right _ (List.mem_append_right _ hk))

/-- The table is another one. -/
theorem RRep.table {w w1 : World} {B b : Nat} {d : Rs} {v' : Value} {L : List Gv} (h : RRep w B b d) (ho : w1.ownsRow B 89 3 v' L.length (L.flatMap Gv.cells)) (hat : At w d.vf v') (hgr : w.grownBy w1 d.vf.ownBlock)
    (hb : ∀ f ∈ L, w.ownsRow B 5 1 f.vb f.bytes.length (bcells f.bytes)) (hl : ∀ f ∈ L, w.ownsRow B 3 1 f.vl f.late.length (lcells f.late))
    (hn : (L.flatMap Gv.obs).Nodup) (hout : ∀ f ∈ L, ∀ k ∈ f.obs, k ≠ b ∧ d.vf.ownBlock ≠ some k ∧ k < w.heap.size) :
    RRep (w1.setCell ⟨b, 0, none⟩ v') B b { d with files := L, vf := v' } ∧ Step (d.foot b ++ L.flatMap Gv.obs) (Rs.foot b { d with files := L, vf := v' }) w (w1.setCell ⟨b, 0, none⟩ v') := by
  have hblk : w1.heap[b]? = some (.cells d.cells 82 (0, 0)) := (hgr.block b h.b_lt (fun e => h.b_vf e.symm rfl)).trans h.blk
  have keep : ∀ k, k < w.heap.size → k ≠ b → d.vf.ownBlock ≠ some k → (w1.setCell ⟨b, 0, none⟩ v').heap[k]? = w.heap[k]? := fun k hk hb hp =>
    (Below.heap_setCell w1 ⟨b, 0, none⟩ v' k hb).trans (hgr.block k hk (fun e => hp e.symm))
  have hvb : ∀ k, v'.ownBlock = some k → k ≠ b := fun k hk e => hat.ne h.b_lt (fun e' => h.b_vf e' rfl) (e ▸ hk)
  refine ⟨⟨h.ge, set_same hblk rfl, own_frame ho fun k hk => Below.heap_setCell w1 ⟨b, 0, none⟩ v' k (hvb k hk), fun f hf => own_frame (hb f hf) fun k hk => keep k ((hb f hf).lt k hk).2 (hout f hf k (obs_b hk)).1 (hout f hf k (obs_b hk)).2.1, fun f hf => own_frame (hl f hf) fun k hk => keep k ((hl f hf).lt k hk).2 (hout f hf k (obs_l hk)).1 (hout f hf k (obs_l hk)).2.1, ?_⟩, ?_⟩
  · refine List.nodup_cons.2 ⟨fun hm => ?_, List.nodup_append.2 ⟨?_, hn, ?_⟩⟩
    · rcases List.mem_append.1 hm with hm | hm
      · exact hvb b (mem_ob.1 hm) rfl
      · obtain ⟨f, hf, hk⟩ := List.mem_flatMap.1 hm
        exact (hout f hf b hk).1 rfl
    · show (ob v').Nodup
      unfold ob
      cases v'.ownBlock <;> simp
    · intro x hx y hy e
      subst e
      obtain ⟨f, hf, hk⟩ := List.mem_flatMap.1 hy
      obtain ⟨_, h2, h3⟩ := hout f hf x hk
      exact hat.ne h3 h2 (mem_ob.1 hx)
  · refine ⟨hgr.os, hgr.tape, hgr.output, by simpa using hgr.size, fun k hk hn => keep k hk (fun e => hn (List.mem_append_left _ (e ▸ rfoot_b))) (fun e => hn (List.mem_append_left _ (rfoot_vf e))), fun k hk => ?_⟩
    rcases List.mem_cons.1 hk with rfl | hk
    · exact .inl (List.mem_append_left _ rfoot_b)
    · rcases List.mem_append.1 hk with hk | hk
      · rcases hat.sub (mem_ob.1 hk) with e | e
        · exact .inl (List.mem_append_left _ (rfoot_vf e))
        · exact .inr e
      · exact .inl (List.mem_append_right _ hk)

theorem RRep.tabcell {w w1 : World} {B b : Nat} {d : Rs} (h : RRep w B b d) (hg : w.grownBy w1 d.vf.ownBlock) : w1.cell? ⟨b, 0, none⟩ = some d.vf ∧ w1.frozen? ⟨b, 0, none⟩ = false := by
  have hblk : w1.heap[b]? = some (.cells d.cells 82 (0, 0)) := (hg.block b h.b_lt (fun e => h.b_vf e.symm rfl)).trans h.blk
  exact ⟨by rw [cell_of_row w1 b 0 _ _ _ hblk]; rfl, frozen_of_row w1 b 0 _ _ hblk⟩

theorem gflat_take (l : List Gv) (i : Nat) : (l.flatMap Gv.cells).take (i * 3) = (l.take i).flatMap Gv.cells := by
  induction l generalizing i with
  | nil => simp
  | cons a r ih =>
    cases i with
    | zero => simp
    | succ i =>
      rw [List.take_succ_cons, List.flatMap_cons, List.flatMap_cons, ← ih i, show (i + 1) * 3 = a.cells.length + i * 3 by simp [Gv.cells]; omega, List.take_length_add_append]
theorem gflat_drop (l : List Gv) (i : Nat) : (l.flatMap Gv.cells).drop (i * 3) = (l.drop i).flatMap Gv.cells := by
  induction l generalizing i with
  | nil => simp
  | cons a r ih =>
    cases i with
    | zero => simp
    | succ i =>
      rw [List.drop_succ_cons, List.flatMap_cons, ← ih i, show (i + 1) * 3 = a.cells.length + i * 3 by simp [Gv.cells]; omega, List.drop_length_add_append]

def zg : Value := .agg #[.string ⟨#[]⟩, .slice none 0 0, .slice none 0 0]
theorem info60 : (Try.prog.info? 89).map (fun i => (i.zero, i.size, i.bytes)) = some (some zg, 3, 64) := by kernel_rfl
theorem size60 : (Try.prog.info? 89).map (·.size) = some 3 := by kernel_rfl

theorem gcells_one {w : World} {B b : Nat} {d : Rs} (h : RRep w B b d) : ∀ v ∈ d.files.flatMap Gv.cells, v.oneCell' = true := by
  intro v hv
  obtain ⟨x, hx, hv⟩ := List.mem_flatMap.1 hv
  simp only [Gv.cells, List.mem_cons, List.not_mem_nil, or_false] at hv
  rcases hv with rfl | rfl | rfl
  · rfl
  · exact own_one (h.rb x hx)
  · exact own_one (h.rl x hx)

/-- The first of a row. -/
theorem own_front {w : World} {base : Nat} {e : TypeId} {v : Value} {n size : Nat} {xs : List Value} (h : w.ownsRow base e size v n xs) (i : Nat) (hi : i ≤ n) : w.ownsRow base e size (cutV v i) i (xs.take (i * size)) ∧ (cutV v i).ownBlock = v.ownBlock := by
  rcases h.2 with ⟨rfl, rfl⟩ | ⟨g, cap, cur, rfl, _⟩
  · obtain rfl : i = 0 := by omega
    exact ⟨by simpa [cutV] using World.ownsRow_nil w base e size, rfl⟩
  · exact ⟨own_cut h i hi, rfl⟩

/-- Some files of a table, put behind others. -/
theorem append_files {w : World} {B : Nat} {v : Value} {n : Nat} {xs : List Value} (h : w.ownsRow B 89 3 v n xs) (hB : B ≤ w.heap.size) (a : Addr) (m c : Nat) (news : List Value) (hl : news.length = m * 3) (hnews : ∀ j u, news[j]? = some u → w.cell? (a.add j) = some u) (h1 : ∀ u ∈ news, u.oneCell' = true) (hs : n + m ≤ 1000) (ty : TypeId) :
    ∃ v' w', (Builtin.append_ #[80, 80] ty #[v, .slice (some a) m c]).run Try.prog w = .ok v' w' ∧ w'.ownsRow B 89 3 v' (n + m) (xs ++ news) ∧ w.grownBy w' v.ownBlock ∧ At w v v' := by
  obtain ⟨i0, hi0, hz0, hzs, hzb⟩ := info_parts info60
  obtain ⟨v', w', hr, h2, h3, _, h5⟩ := run_append_own_at (P := Try.prog) w B 80 ty 89 i0 zg 3 64 Try.underlying80 hi0 hz0 hzs hzb rfl (by omega) v n xs h a m c news hl hnews h1 (by unfold maxLen; omega) (by omega) hB
  refine ⟨v', w', hr, h2, h3, ?_⟩
  rcases h5 with e | e
  · exact .inl e
  · exact .inr ⟨_, e, Nat.le_refl _⟩
theorem append_nofiles {w : World} {v : Value} {B n : Nat} {xs : List Value} (h : w.ownsRow B 89 3 v n xs) (ty : TypeId) :
    (Builtin.append_ #[80, 80] ty #[v, .slice none 0 0]).run Try.prog w = .ok v w := by
  obtain ⟨i0, hi0, hz0, hzs, hzb⟩ := info_parts info60
  rcases h.2 with ⟨rfl, rfl⟩ | ⟨g, cap, cur, rfl, _, _, h3, _⟩
  · simp [Builtin.append_, run_underlying Try.underlying80, sizeOf, typeInfo, hi0, Builtin.lenOf, Builtin.firstCells]
  · simp [Builtin.append_, run_underlying Try.underlying80, sizeOf, typeInfo, hi0, Builtin.lenOf, Builtin.firstCells, h3, storeCells]
end Go.Proofs.Ytnmamaeoghgegaa.Dk

/-
  Crash, as plain data; Rot; Rename.
-/
namespace Go.Proofs.Ytnmamaeoghgegaa.Dk
open Go.RowKit
set_option maxRecDepth 100000

/-- So many bytes more of a file are sure. -/
def surer (l : List F) (n : ByteArray) (k : Nat) : List F := l.map fun f => if cmp f.name n = 0 then ⟨f.name, f.bytes, f.sure + k⟩ else f
/-- What lasts, piece by piece. -/
def lasts : List F → List Pc → Nat → List F
  | l, [], _ => l
  | l, p :: r, left => lasts (surer l p.name (min p.size left)) r (left - min p.size left)
def cutAll (l : List F) : List F := l.map fun f => ⟨f.name, f.bytes.take f.sure, f.sure⟩
def opCrash (s : St) (last : Int) : St := ⟨cutAll (lasts s.files s.pieces last.toNat), [], s.room, false, 0, false⟩

def opRot (s : St) (file at_ by_ : Int) : Bool × St :=
  if 0 ≤ file ∧ 0 ≤ at_ then match s.files[file.toNat]? with
    | some f => if at_ < f.sure then (true, { s with files := s.files.set file.toNat ⟨f.name, f.bytes.set at_.toNat (f.bytes[at_.toNat]! ^^^ UInt8.ofNat (by_ % 256).toNat), f.sure⟩ }) else (false, s)
    | none => (false, s)
  else (false, s)
end Go.Proofs.Ytnmamaeoghgegaa.Dk

/-
  Rename.
-/
namespace Go.Proofs.Ytnmamaeoghgegaa.Dk
open Go.RowKit
set_option maxRecDepth 100000

def St.putAt (s : St) (i : Nat) (f : F) : St := { s with files := s.files.take i ++ f :: s.files.drop i }
/-- What is there is dropped. -/
def St.free1 (s : St) (n : ByteArray) : St := if has s.names n then s.drop (place s.names n) else s
def opRename (s : St) (n t : ByteArray) : Int × St :=
  if s.power then if mayBe t then match s.files[place s.names n]?, has s.names n with
    | some f, true => if f.sure < f.bytes.length then (8, s.spent) else if cmp n t = 0 then (0, s.spent) else
        (0, ((s.spent.drop (place s.names n)).free1 t).putAt (place (s.spent.drop (place s.names n)).names t) ⟨t, f.bytes, f.sure⟩)
    | _, _ => (6, s.spent)
  else (1, s.spent) else (12, s.spent)

theorem rename_early {w : World} {B b : Nat} {d : Ds} (h : Rep w B b d) (ok : Ok d.pl) (n t : ByteArray) (hq : d.power = false ∨ mayBe t = false) :
    Calls Try.prog 30 #[.pointer (some ⟨b, 0, none⟩), .string n, .string t] w fun e w' => e = .returned (.int .i64 (if d.power then 1 else 12)) ∧ Rep w' B b d.spent ∧ Step (d.foot b) (d.foot b) w w' := by
  have kb := begin_any h ok.fuse
  have km := mayBe_any t
  clear h ok
  cases hp : d.power with
  | false =>
    rw [hp] at kb
    go_enter Try.func30, Try.ntmps30
    go_wp2_with (go_at_call 36; refine kb.mono ?_; rintro e w1 ⟨rfl, h1, s1⟩)
    go_ret
    exact ⟨rfl, h1, s1⟩
  | true =>
    rw [hp] at kb hq
    rcases hq with hq | hq
    · cases hq
    · rw [hq] at km
      go_enter Try.func30, Try.ntmps30
      go_wp2_with (first
        | (go_at_call 36; refine kb.mono ?_; rintro e w1 ⟨rfl, h1, s1⟩)
        | (go_at_call 37; refine (km _).mono ?_; rintro e w2 ⟨rfl, rfl⟩))
      go_ret
      exact ⟨rfl, h1, s1⟩

theorem rename_none {w : World} {B b : Nat} {d : Ds} (h : Rep w B b d) (ok : Ok d.pl) (n t : ByteArray) (hp : d.power = true) (hm : mayBe t = true) (hh : has d.names n = false) :
    Calls Try.prog 30 #[.pointer (some ⟨b, 0, none⟩), .string n, .string t] w fun e w' => e = .returned (.int .i64 6) ∧ Rep w' B b d.spent ∧ Step (d.foot b) (d.foot b) w w' := by
  have kb := begin_any h ok.fuse
  have km := mayBe_any t
  have kf : Aside (∀ u : World, Rep u B b d.spent → _) := fun (u : World) (hu : Rep u B b d.spent) => find_any hu (show Rising d.spent.names from ok.rise) (by have := ok.dfew; show d.files.length ≤ 1000; omega) n
  have en : d.spent.names = d.names := rfl
  rw [hp] at kb
  rw [hm] at km
  rw [en, hh] at kf
  clear h ok hp hm hh en
  go_enter Try.func30, Try.ntmps30
  go_wp2_with (first
    | (go_at_call 36; refine kb.mono ?_; rintro e w1 ⟨rfl, h1, s1⟩)
    | (go_at_call 37; refine (km _).mono ?_; rintro e w1' ⟨rfl, rfl⟩)
    | (go_at_call 33; refine (kf.out _ h1).mono ?_; rintro e w2 ⟨rfl, hb2⟩))
  go_ret
  exact ⟨rfl, h1.below hb2, s1.trans (Step.ofBelow hb2)⟩

theorem eq_bytes' {a b : ByteArray} (h : cmp a b ≠ 0) : (a.toList == b.toList) = false := by rw [eq_bytes]; simpa using h
theorem eq_bytes'' {a b : ByteArray} (h : cmp a b = 0) : (a.toList == b.toList) = true := by rw [eq_bytes]; simpa using h

set_option maxHeartbeats 1600000 in
theorem rename_stay {w : World} {B b : Nat} {d : Ds} {f : Fv} (h : Rep w B b d) (ok : Ok d.pl) (n t : ByteArray) (hp : d.power = true) (hm : mayBe t = true) (hh : has d.names n = true) (hf : d.files[place d.names n]? = some f) (hc : f.sure < f.bytes.length ∨ cmp n t = 0) :
    Calls Try.prog 30 #[.pointer (some ⟨b, 0, none⟩), .string n, .string t] w fun e w' => e = .returned (.int .i64 (if f.sure < f.bytes.length then 8 else 0)) ∧ Rep w' B b d.spent ∧ Step (d.foot b) (d.foot b) w w' := by
  have kb := begin_any h ok.fuse
  have km := mayBe_any t
  have kf : Aside (∀ u : World, Rep u B b d.spent → _) := fun (u : World) (hu : Rep u B b d.spent) => find_any hu (show Rising d.spent.names from ok.rise) (by have := ok.dfew; show d.files.length ≤ 1000; omega) n
  have en : d.spent.names = d.names := rfl
  rw [hp] at kb
  rw [hm] at km
  rw [en, hh] at kf
  have hfew := ok.dfew
  have hi : place d.names n < d.files.length := (List.getElem?_eq_some_iff.1 hf).1
  obtain ⟨g, cap, ev, hcap, hcm, hg⟩ := h.vf_form hf
  obtain ⟨a, c, ea⟩ := own_any (h.rows f (List.mem_of_getElem? hf))
  have hfc : Aside (∀ u : World, Rep u B b d.spent → u.cell? ⟨b, 0, none⟩ = some (.slice (some ⟨g, 0, none⟩) d.files.length cap) ∧ u.cell? ⟨g, place d.names n * 3, none⟩ = some (.string f.name) ∧ u.cell? ⟨g, place d.names n * 3 + 1, none⟩ = some (.slice a f.bytes.length c) ∧ u.cell? ⟨g, place d.names n * 3 + 2, none⟩ = some (.int .i64 (f.sure : Int))) := fun (u : World) hu => by
    have := hu.fcells (d := d.spent) hf hg
    rw [ea] at this
    exact ⟨by rw [← ev]; exact hu.c0, this⟩
  clear h ok hp hm hh en hf ev
  generalize place d.names n = I at *
  by_cases hlt : f.sure < f.bytes.length
  · have d1 : decide ((f.sure : Int) < (f.bytes.length : Int)) = true := by simp; omega
    have d1' : decide (f.sure < f.bytes.length) = true := by simpa using hlt
    rw [if_pos hlt]
    go_enter Try.func30, Try.ntmps30
    go_wp2_with (first
      | (go_at_call 36; refine kb.mono ?_; rintro e w1 ⟨rfl, h1, s1⟩)
      | (go_at_call 37; refine (km _).mono ?_; rintro e w1' ⟨rfl, rfl⟩)
      | (go_at_call 33; refine (kf.out _ h1).mono ?_; rintro e w2 ⟨rfl, hb2⟩; obtain ⟨x0, x1, x2, x3⟩ := hfc.out _ (h1.below hb2)))
    go_ret
    exact ⟨rfl, (h1.below hb2).below ((Below.refl _ _).alloc (Nat.le_refl _) _), (s1.trans (Step.ofBelow hb2)).trans (Step.ofBelow ((Below.refl _ _).alloc (Nat.le_refl _) _))⟩
  · have d1 : decide ((f.sure : Int) < (f.bytes.length : Int)) = false := by simp; omega
    have d1' : decide (f.sure < f.bytes.length) = false := by simpa using hlt
    rw [if_neg hlt]
    have hc' := eq_bytes'' (hc.resolve_left hlt)
    clear hc
    go_enter Try.func30, Try.ntmps30
    go_wp2_with (first
      | (go_at_call 36; refine kb.mono ?_; rintro e w1 ⟨rfl, h1, s1⟩)
      | (go_at_call 37; refine (km _).mono ?_; rintro e w1' ⟨rfl, rfl⟩)
      | (go_at_call 33; refine (kf.out _ h1).mono ?_; rintro e w2 ⟨rfl, hb2⟩; obtain ⟨x0, x1, x2, x3⟩ := hfc.out _ (h1.below hb2)))
    go_ret
    exact ⟨rfl, (h1.below hb2).below ((Below.refl _ _).alloc (Nat.le_refl _) _), (s1.trans (Step.ofBelow hb2)).trans (Step.ofBelow ((Below.refl _ _).alloc (Nat.le_refl _) _))⟩
end Go.Proofs.Ytnmamaeoghgegaa.Dk
