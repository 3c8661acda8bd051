/-
  Plain mathematics: the order of names, files and pieces as lists.
-/
import Derived.Test.YtblhkhgcaheplaaGreatDoorDW1
namespace Go.Proofs.YtblhkhgcaheplaaGreatDoor.Dk
open Go.RowKit
set_option maxRecDepth 100000

theorem cb_self : ∀ a : List UInt8, Lib.compareBytes a a = 0
  | [] => rfl
  | x :: a => by
    have h : ¬ x < x := UInt8.lt_irrefl x
    simp [Lib.compareBytes, h, cb_self a]

theorem cb_zero : ∀ a b : List UInt8, Lib.compareBytes a b = 0 → a = b
  | [], [], _ => rfl
  | [], _ :: _, h => by simp [Lib.compareBytes] at h
  | _ :: _, [], h => by simp [Lib.compareBytes] at h
  | x :: a, y :: b, h => by
    unfold Lib.compareBytes at h
    by_cases h1 : x < y
    · simp [h1] at h
    · by_cases h2 : y < x
      · simp [h1, h2] at h
      · have e : x = y := UInt8.le_antisymm (UInt8.not_lt.1 h2) (UInt8.not_lt.1 h1)
        simp [h1, h2] at h
        rw [e, cb_zero a b h]

theorem cb_swap : ∀ a b : List UInt8, Lib.compareBytes b a = - Lib.compareBytes a b
  | [], [] => rfl
  | [], _ :: _ => rfl
  | _ :: _, [] => rfl
  | x :: a, y :: b => by
    unfold Lib.compareBytes
    by_cases h1 : x < y
    · have h2 : ¬ y < x := fun h => UInt8.lt_irrefl _ (UInt8.lt_trans h1 h)
      simp [h1, h2]
    · by_cases h2 : y < x
      · simp [h1, h2]
      · simp [h1, h2, cb_swap a b]

theorem cb_trans : ∀ a b c : List UInt8, Lib.compareBytes a b < 0 → Lib.compareBytes b c < 0 → Lib.compareBytes a c < 0
  | [], [], _, h, _ => by simp [Lib.compareBytes] at h
  | [], _ :: _, [], _, h => by simp [Lib.compareBytes] at h
  | [], _ :: _, _ :: _, _, _ => by simp [Lib.compareBytes]
  | _ :: _, [], _, h, _ => by simp [Lib.compareBytes] at h
  | _ :: _, _ :: _, [], _, h => by simp [Lib.compareBytes] at h
  | x :: a, y :: b, z :: c, h1, h2 => by
    unfold Lib.compareBytes at h1 h2 ⊢
    by_cases hxy : x < y
    · by_cases hyz : y < z
      · simp [UInt8.lt_trans hxy hyz]
      · by_cases hzy : z < y
        · simp [hyz, hzy] at h2
        · have e : y = z := UInt8.le_antisymm (UInt8.not_lt.1 hzy) (UInt8.not_lt.1 hyz)
          subst e
          simp [hxy]
    · by_cases hyx : y < x
      · simp [hxy, hyx] at h1
      · have e : x = y := UInt8.le_antisymm (UInt8.not_lt.1 hyx) (UInt8.not_lt.1 hxy)
        subst e
        simp only [hxy, if_false] at h1
        by_cases hyz : x < z
        · simp [hyz]
        · by_cases hzy : z < x
          · simp [hyz, hzy] at h2
          · simp only [hyz, hzy, if_false] at h2 ⊢
            exact cb_trans a b c h1 h2

theorem ba_ext {a b : ByteArray} (h : a.data.toList = b.data.toList) : a = b := by
  obtain ⟨⟨x⟩⟩ := a
  obtain ⟨⟨y⟩⟩ := b
  simp at h
  rw [h]

theorem cmp_self (a : ByteArray) : cmp a a = 0 := cb_self _
theorem cmp_zero {a b : ByteArray} : cmp a b = 0 ↔ a = b := ⟨fun h => ba_ext (cb_zero _ _ h), fun h => h ▸ cmp_self a⟩
theorem cmp_swap (a b : ByteArray) : cmp b a = - cmp a b := cb_swap _ _
theorem cmp_trans {a b c : ByteArray} (h : cmp a b < 0) (k : cmp b c < 0) : cmp a c < 0 := cb_trans _ _ _ h k

theorem less_cmp : ∀ a b : List UInt8, Op.bytesLess a b = decide (Lib.compareBytes a b < 0)
  | [], [] => rfl
  | [], _ :: _ => rfl
  | _ :: _, [] => by simp [Op.bytesLess, Lib.compareBytes]
  | x :: a, y :: b => by
    unfold Op.bytesLess Lib.compareBytes
    by_cases h1 : x < y
    · simp [h1]
    · by_cases h2 : y < x
      · have h3 : ¬ x = y := fun e => UInt8.lt_irrefl y (e ▸ h2)
        simp [h1, h2, h3]
      · have e : x = y := UInt8.le_antisymm (UInt8.not_lt.1 h2) (UInt8.not_lt.1 h1)
        subst e
        simp [h1, less_cmp a b]

theorem less_any (a b : ByteArray) : Op.bytesLess a.toList b.toList = decide (cmp a b < 0) := by
  rw [ByteArray.toList_eq, ByteArray.toList_eq]
  exact less_cmp _ _

/-- A file as it lies in a table: its bytes' slice is v. -/
structure Fv where
  name : ByteArray
  bytes : List UInt8
  sure : Nat
  v : Value

/-- What isn't sure, piece by piece. -/
structure Pc where
  name : ByteArray
  size : Nat

instance : Inhabited Fv := ⟨⟨⟨#[]⟩, [], 0, .slice none 0 0⟩⟩
instance : Inhabited Pc := ⟨⟨⟨#[]⟩, 0⟩⟩

/-- The files' names rise. -/
def Rising : List ByteArray → Prop
  | [] => True
  | a :: r => (∀ x ∈ r, cmp a x < 0) ∧ Rising r

/-- How many names are ahead of a name. -/
def place (l : List ByteArray) (n : ByteArray) : Nat := l.countP fun x => decide (cmp x n < 0)

theorem place_le (l : List ByteArray) (n : ByteArray) : place l n ≤ l.length := List.countP_le_length

theorem place_cons_lt {a n : ByteArray} (l : List ByteArray) (h : cmp a n < 0) : place (a :: l) n = place l n + 1 := by simp [place, h]
theorem place_cons_ge {a n : ByteArray} (l : List ByteArray) (h : ¬ cmp a n < 0) : place (a :: l) n = place l n := by simp [place, h]
theorem place_zero {a n : ByteArray} {l : List ByteArray} (hr : Rising (a :: l)) (h : ¬ cmp a n < 0) : place (a :: l) n = 0 := by
  unfold place
  rw [List.countP_eq_zero]
  intro x hx hc
  rcases List.mem_cons.1 hx with rfl | hx
  · exact h (by simpa using hc)
  · have hc' : cmp x n < 0 := by simpa using hc
    exact h (cmp_trans (hr.1 x hx) hc')

theorem Rising.mono {l : List ByteArray} (hr : Rising l) (n : ByteArray) : ∀ a b, a ≤ b → b < l.length → cmp l[b]! n < 0 → cmp l[a]! n < 0 := by
  induction l with
  | nil => intro a b _ hb; simp at hb
  | cons x r ih =>
    intro a b hab hb hc
    cases b with
    | zero =>
      obtain rfl : a = 0 := by omega
      exact hc
    | succ b =>
      have hb' : b < r.length := by simpa using hb
      have hc' : cmp r[b]! n < 0 := by simpa using hc
      cases a with
      | zero =>
        have hm : r[b]! ∈ r := by rw [getElem!_pos r b hb']; exact List.getElem_mem hb'
        simpa using cmp_trans (hr.1 _ hm) hc'
      | succ a => simpa using ih hr.2 a b (by omega) hb' hc'

/-- Where a name that is there stands. -/
theorem place_at : ∀ {l : List ByteArray}, Rising l → ∀ i, i < l.length → place l l[i]! = i
  | [], _, i, h => by simp at h
  | a :: r, hr, 0, _ => by
    have := place_zero hr (n := a) (by rw [cmp_self]; omega)
    simpa using this
  | a :: r, hr, i + 1, h => by
    have hi : i < r.length := by simpa using h
    have hm : r[i]! ∈ r := by rw [getElem!_pos r i hi]; exact List.getElem_mem hi
    have := place_cons_lt r (hr.1 _ hm)
    rw [place_at hr.2 i hi] at this
    simpa using this

/-- A name that isn't at its place isn't there at all. -/
theorem place_mem {l : List ByteArray} (hr : Rising l) (n : ByteArray) : n ∈ l ↔ place l n < l.length ∧ l[place l n]! = n := by
  constructor
  · intro h
    obtain ⟨i, hi, rfl⟩ := List.getElem_of_mem h
    have := place_at hr i hi
    rw [getElem!_pos l i hi] at this
    rw [this]
    exact ⟨hi, getElem!_pos l i hi⟩
  · rintro ⟨h, e⟩
    rw [← e, getElem!_pos l _ h]
    exact List.getElem_mem h

theorem Rising.nodup : ∀ {l : List ByteArray}, Rising l → l.Nodup
  | [], _ => List.nodup_nil
  | a :: r, h => List.nodup_cons.2 ⟨fun hm => by have := h.1 a hm; rw [cmp_self] at this; omega, Rising.nodup h.2⟩

theorem Rising.sub : ∀ {l l' : List ByteArray}, l'.Sublist l → Rising l → Rising l'
  | _, _, .slnil, _ => trivial
  | _, _, .cons _ h, hr => Rising.sub h hr.2
  | _, _, .cons_cons _ h, hr => ⟨fun x hx => hr.1 x (h.subset hx), Rising.sub h hr.2⟩

/-- A name put at its place, where it isn't there. -/
theorem Rising.insert : ∀ {l : List ByteArray}, Rising l → ∀ n, n ∉ l → Rising (l.take (place l n) ++ n :: l.drop (place l n))
  | [], _, n, _ => by simp [place, Rising]
  | a :: r, hr, n, hn => by
    by_cases h : cmp a n < 0
    · rw [place_cons_lt r h]
      have ih := Rising.insert hr.2 n (fun hm => hn (List.mem_cons_of_mem _ hm))
      refine ⟨?_, ih⟩
      intro x hx
      rcases List.mem_append.1 hx with hx | hx
      · exact hr.1 x (List.mem_of_mem_take hx)
      · rcases List.mem_cons.1 hx with rfl | hx
        · exact h
        · exact hr.1 x (List.mem_of_mem_drop hx)
    · rw [place_zero hr h]
      have hne : cmp a n ≠ 0 := fun e => hn (by rw [cmp_zero.1 e]; exact List.mem_cons_self)
      have hlt : cmp n a < 0 := by rw [cmp_swap]; omega
      refine ⟨?_, hr⟩
      intro x hx
      rcases List.mem_cons.1 hx with rfl | hx
      · exact hlt
      · exact cmp_trans hlt (hr.1 x hx)
end Go.Proofs.YtblhkhgcaheplaaGreatDoor.Dk
