/-
  The frames of a list of contents, and where each ends, as the laws reckon them.
-/
import Derived.Test.YtknobijonpdbbaaF7
namespace Go.Proofs.Ytknobijonpdbbaa
open Go.RowKit
theorem info3 : (Try.prog.info? 3).map (fun i => (i.zero, i.size, i.bytes)) = some (some (.int .i64 0), 1, 8) := by kernel_rfl
def cellsI (l : List Nat) : List Value := l.map fun n : Nat => Value.int .i64 (n : Int)
theorem cellsI_snoc (l : List Nat) (x : Nat) : cellsI l ++ [.int .i64 (x : Int)] = cellsI (l ++ [x]) := by simp [cellsI]
def lists (L : List ByteArray) : List (List UInt8) := L.map fun s => s.data.toList
/-- Where the first k frames end, one by one. -/
def ends (l : List (List UInt8)) (k : Nat) : List Nat := (List.range k).map fun i => Fr.en l (i + 1)
theorem ends_len (l : List (List UInt8)) (k : Nat) : (ends l k).length = k := by simp [ends]
theorem ends_succ (l : List (List UInt8)) (k : Nat) : ends l (k + 1) = ends l k ++ [Fr.en l (k + 1)] := by simp [ends, List.range_succ]
theorem ends_at (l : List (List UInt8)) (k j : Nat) (h : j < k) : (ends l k)[j]? = some (Fr.en l (j + 1)) := by simp [ends, h]

def okL (L : List ByteArray) : Prop := L.length ≤ 20 ∧ ∀ s ∈ L, s.size ≤ 200
theorem okL_lists {L : List ByteArray} (h : okL L) : ∀ s ∈ lists L, s.length ≤ 2000 := by
  intro s hs
  simp only [lists, List.mem_map] at hs
  obtain ⟨t, ht, rfl⟩ := hs
  have := h.2 t ht
  rw [list_len]
  omega
theorem en_le (l : List (List UInt8)) (m : Nat) (h : ∀ s ∈ l, s.length ≤ m) : ∀ k, k ≤ l.length → Fr.en l k ≤ k * (m + 10)
  | 0, _ => by simp [Fr.en_zero]
  | k + 1, hk => by
    have h1 := en_le l m h k (by omega)
    rw [Fr.en_succ l k (by omega)]
    have h2 := h l[k] (List.getElem_mem _)
    rw [Nat.add_mul, Nat.one_mul]
    omega

/-- What whole answers. -/
def Wh (w w' : World) (e : Ending) (L : List ByteArray) : Prop :=
  Below w.heap.size w w' ∧ ((okL L ∧ ∃ v, e = .returned (.tuple #[.string (bs (Fr.mks (lists L))), v, .bool true]) ∧ w'.ownsRow w.heap.size 3 1 v L.length (cellsI (ends (lists L) L.length))) ∨
    (¬ okL L ∧ e = .returned (.tuple #[.string ⟨#[]⟩, .slice none 0 0, .bool false])))

def WRel (L : List ByteArray) (w : World) (s5 v6 s14 : Value) (wr : World) (k : Nat) : Prop :=
  s14 = .int .i64 (k : Int) ∧ s5 = .string (bs (Fr.mks ((lists L).take k))) ∧ wr.ownsRow w.heap.size 3 1 v6 k (cellsI (ends (lists L) k)) ∧ Below w.heap.size w wr ∧ (∀ j (h : j < L.length), j < k → L[j].size ≤ 200) ∧ k ≤ L.length

theorem whole_step (L : List ByteArray) (k : Nat) (h : k < L.length) : bs (Fr.mks ((lists L).take k)) ++ bs (Fr.mk L[k].data.toList) = bs (Fr.mks ((lists L).take (k + 1))) := by
  rw [bs_app, List.take_succ_eq_append_getElem (by simpa [lists] using h), Fr.mks_app, Fr.mks_one]
  simp [lists]

set_option maxHeartbeats 1600000 in
set_option maxRecDepth 1000000 in
theorem whole_any (v0 : Value) (L : List ByteArray) (w : World) (hv : Strs w.heap.size v0 L w) :
    Calls Try.prog 9 #[v0] w fun e w' => Wh w w' e L := by
  obtain ⟨a, c, rfl, hc⟩ := hv
  by_cases h20 : 20 < L.length
  · have d1 : decide (20 < (L.length : Int)) = true := by simp; omega
    have hno : ¬ okL L := fun h => by have := h.1; omega
    go_enter Try.func9, Try.ntmps9
    go_wp2
    go_ret3
    exact ⟨Below.refl _ _, .inr ⟨hno, rfl⟩⟩
  · have d1 : decide (20 < (L.length : Int)) = false := by simp; omega
    obtain ⟨i0, hi, hz0, hz1, hz2⟩ := info_parts info3
    unfold Wh
    go_enter Try.func9, Try.ntmps9
    go_wp2
    go_loopg [5, 6, 14] L.length (fun gh s5 v6 s14 wr => ∃ k : Nat, L.length - k ≤ gh ∧ WRel L w s5 v6 s14 wr k)
    case atStart => exact ⟨0, by omega, rfl, rfl, World.ownsRow_nil _ _ _ _, Below.refl _ _, fun j h hj => by omega, by omega⟩
    case round =>
      obtain ⟨k, hgh, rfl, rfl, hown, hbw, hsm, hk⟩ := hrel
      by_cases hp : k < L.length
      · have dk : decide (k < L.length) = true := by simpa using hp
        obtain ⟨g, o, rfl, hg, hcell⟩ := hc k hp
        rw [← hbw.cell (by exact hg)] at hcell
        have eX : L.getD k ⟨#[]⟩ = L[k] := by rw [List.getD_eq_getElem?_getD, List.getElem?_eq_getElem hp]; rfl
        rw [eX] at hcell
        by_cases hbig : 200 < L[k].size
        · have d2 : decide (200 < (L[k].size : Int)) = true := by simp; omega
          have hno : ¬ okL L := fun h => by have := h.2 L[k] (List.getElem_mem _); omega
          clear hc hsm
          generalize L[k] = X at *
          go_wp2
          go_ret3
          exact ⟨hbw, .inr ⟨hno, rfl⟩⟩
        · have d2 : decide (200 < (L[k].size : Int)) = false := by simp; omega
          have HS := asd (whole_step L k hp)
          have hsz := hbw.size
          have K : Aside (∀ u : World, _) := fun u : World => refMake_any L[k] u (by omega)
          have SM : Aside (∀ j (h : j < L.length), j < k + 1 → L[j].size ≤ 200) := fun j h hj => by
            by_cases e : j = k
            · subst e; omega
            · exact hsm j h (by omega)
          have zl : ∀ j, j ≤ k → Fr.en (lists L) j ≤ j * 210 := by
            intro j
            induction j with
            | zero => intro _; simp [Fr.en_zero]
            | succ j ih =>
              intro hj
              have h1 := ih (by omega)
              have hjl : j < (lists L).length := by simp [lists]; omega
              rw [Fr.en_succ _ j hjl]
              have h2 := hsm j (by omega) (by omega)
              have e : (lists L)[j].length = L[j].size := by simp [lists]
              omega
          have zk := zl k (Nat.le_refl _)
          have zA : (bs (Fr.mks ((lists L).take k))).size = Fr.en (lists L) k := bs_size _
          have zM : (bs (Fr.mk L[k].data.toList)).size = L[k].size + 10 := by rw [bs_size, Fr.mk_len, list_len]
          have zN : (bs (Fr.mks ((lists L).take k)) ++ bs (Fr.mk L[k].data.toList)).size = Fr.en (lists L) (k + 1) := by rw [HS.out]; exact bs_size _
          have eN : ((Fr.en (lists L) k : Nat) : Int) + ((L[k].size + 10 : Nat) : Int) = ((Fr.en (lists L) (k + 1) : Nat) : Int) := by
            rw [ByteArray.size_append, zA, zM] at zN
            omega
          have eE := asd (ends_succ (lists L) k)
          have zE := asd (ends_len (lists L) k)
          clear hc hsm zl
          generalize bs (Fr.mk L[k].data.toList) = M at *
          generalize bs (Fr.mks ((lists L).take k)) = A at *
          generalize Fr.en (lists L) (k + 1) = ek at *
          generalize Fr.en (lists L) k = ej at *
          generalize L[k] = X at *
          go_wp2_with (first
            | (go_at_call 15; refine (K.out _).mono ?_; rintro e w1 ⟨rfl, hb1⟩; have p1 := own_below hown hb1; clear K)
            | (at_builtin; refine wpList_append_own _ rfl (.tmp 25) (.tmp 28) 24 rfl w.heap.size 3 i0 (.int .i64 0) 1 8 Try.underlying24 hi hz0 hz1 hz2 rfl (by decide) _ _ _ rfl (p1.alloc _) ⟨_, 0, none⟩ 1 1 [.int .i64 (ek : Int)] rfl rfl ?c1 ?c2 ?c3 ?c4 ?c5 ?_))
          case c1 => exact (cell_one_new _ _ _)
          case c2 => intro u hu; simp at hu; subst hu; rfl
          case c3 => unfold maxLen; omega
          case c4 => omega
          case c5 => have t1 := hb1.size; simp; omega
          intro v' w2 hown' hgrow _
          go_wp2
          go_roundg (L.length - (k + 1))
          case measure => omega
          case rel =>
            have t1 := hb1.size
            refine ⟨k + 1, Nat.le_refl _, by go_num, by rw [HS.out], ?_, ?_, SM.out, by omega⟩
            · rw [eE.out, ← cellsI_snoc]
              exact hown'
            · exact (((hbw.trans (hb1.mono hsz)).alloc (by omega) _).grown hgrow (by simp; omega) (fun j hj => (p1.lt j hj).1))
      · obtain rfl : k = L.length := by omega
        have dk : decide (L.length < L.length) = false := by simp
        have hyes : okL L := ⟨by omega, fun s hs => by
          obtain ⟨j, hj, rfl⟩ := List.getElem_of_mem hs
          exact hsm j hj hj⟩
        rw [List.take_of_length_le (by simp [lists])]
        clear hc hsm
        go_wp2
        go_ret3
        exact ⟨hbw, .inl ⟨hyes, _, rfl, hown⟩⟩
end Go.Proofs.Ytknobijonpdbbaa
