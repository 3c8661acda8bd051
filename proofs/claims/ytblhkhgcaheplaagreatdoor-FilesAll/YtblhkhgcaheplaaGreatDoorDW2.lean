/-
  A file is looked for by its name.
-/
import Derived.Test.YtblhkhgcaheplaaGreatDoorDD1
namespace Go.Proofs.YtblhkhgcaheplaaGreatDoor.Dk
open Go.RowKit
set_option maxRecDepth 100000

theorem cell_below {w w' : World} {a : Addr} {v : Value} (h : w.cell? a = some v) (hb : Below w.heap.size w w') : w'.cell? a = some v := by
  rw [hb.cell (World.block_lt_of_cell? w a h)]
  exact h

theorem names_get (l : List Fv) (t : Nat) (h : t < l.length) : (l.map Fv.name)[t]! = l[t]!.name := by
  rw [getElem!_pos _ t (by simpa using h), getElem!_pos l t h]
  simp

/-- Is a name there? -/
def has (l : List ByteArray) (n : ByteArray) : Bool := l.any fun x => decide (cmp x n = 0)
theorem has_iff {l : List ByteArray} {n : ByteArray} : has l n = true ↔ n ∈ l := by
  unfold has
  rw [List.any_eq_true]
  constructor
  · rintro ⟨x, hx, hc⟩
    rw [← cmp_zero.1 (of_decide_eq_true hc)]
    exact hx
  · intro h
    exact ⟨n, h, decide_eq_true (cmp_self n)⟩
theorem has_not {l : List ByteArray} {n : ByteArray} : has l n = false ↔ n ∉ l := by
  rw [← has_iff]
  simp

theorem mem_decide {l : List ByteArray} (hr : Rising l) (n : ByteArray) : has l n = (decide (place l n < l.length) && decide (cmp l[place l n]! n = 0)) := by
  have := place_mem hr n
  by_cases h : n ∈ l
  · obtain ⟨h1, h2⟩ := this.1 h
    rw [has_iff.2 h, h2, cmp_self]
    simp [h1]
  · rw [has_not.2 h]
    by_cases h1 : place l n < l.length
    · have h2 : ¬ cmp l[place l n]! n = 0 := fun e => h (this.2 ⟨h1, cmp_zero.1 e⟩)
      rw [decide_eq_false h2]
      simp
    · simp [h1]

theorem place_boundary {l : List ByteArray} {n : ByteArray} {i : Nat} (hi : i ≤ l.length) (h1 : ∀ t, t < i → cmp l[t]! n < 0) (h2 : ∀ t, i ≤ t → t < l.length → 0 ≤ cmp l[t]! n) : place l n = i := by
  induction l generalizing i with
  | nil => simp at hi; simp [hi, place]
  | cons a r ih =>
    cases i with
    | zero =>
      unfold place
      rw [List.countP_eq_zero]
      intro x hx
      obtain ⟨t, ht, rfl⟩ := List.getElem_of_mem hx
      have := h2 t (Nat.zero_le _) ht
      rw [getElem!_pos (a :: r) t ht] at this
      simp; omega
    | succ i =>
      have ha : cmp a n < 0 := by simpa using h1 0 (Nat.succ_pos _)
      rw [place_cons_lt r ha, ih (by simpa using hi) (fun t ht => by simpa using h1 (t + 1) (by omega)) (fun t h3 h4 => by simpa using h2 (t + 1) (by omega) (by simpa using h4))]

set_option maxHeartbeats 1600000 in
theorem search_any (B : Nat) (v : Value) (l : List Fv) (n : ByteArray) (w : World) (h : w.ownsRow B 52 3 v l.length (l.flatMap Fv.cells)) (hr : Rising (l.map Fv.name)) (hl : l.length ≤ 1000) :
    Calls Tryz.prog 31 #[v, .string n, .func (.func 32) #[] #[]] w fun e w' =>
      e = .returned (.tuple #[.int .i64 (place (l.map Fv.name) n : Nat), .bool (has (l.map Fv.name) n)]) ∧ Below w.heap.size w w' := by
  rw [mem_decide hr]
  have M : Aside _ := hr.mono n
  obtain ⟨a, cap, rfl⟩ := own_any h
  have hc : Aside (∀ t, t < l.length → ∃ g, a = some ⟨g, 0, none⟩ ∧ w.cell? ⟨g, t * 3, none⟩ = some (.string l[t]!.name) ∧ w.cell? ⟨g, t * 3 + 1, none⟩ = some l[t]!.v ∧ w.cell? ⟨g, t * 3 + 2, none⟩ = some (.int .i64 (l[t]!.sure : Int))) := by
    intro t ht
    obtain ⟨g, c', e, _, _, hg⟩ := own_form h (by omega)
    have hf : l[t]? = some l[t]! := by rw [getElem!_pos l t ht]; exact List.getElem?_eq_getElem ht
    obtain ⟨c0, c1, c2⟩ := flat_at hf
    injection e with e1 e2 e3
    exact ⟨g, e1, own_cell h hg c0, own_cell h hg c1, own_cell h hg c2⟩
  clear h hr
  generalize hcnt : place (l.map Fv.name) n = cnt
  have CN : Aside (place (l.map Fv.name) n = cnt) := hcnt
  clear hcnt
  generalize hfin : (decide (cnt < (l.map Fv.name).length) && decide (cmp (l.map Fv.name)[cnt]! n = 0)) = fin
  have FIN : Aside ((decide (cnt < (l.map Fv.name).length) && decide (cmp (l.map Fv.name)[cnt]! n = 0)) = fin) := hfin
  clear hfin
  go_enter Tryz.func31, Tryz.ntmps31
  go_wp2
  go_loopg [9, 10] l.length (fun kx s9 s10 wr => ∃ lo hi : Nat, s9 = .int .i64 lo ∧ s10 = .int .i64 hi ∧ lo ≤ hi ∧ hi ≤ l.length ∧ hi - lo ≤ kx ∧ Below w.heap.size w wr ∧
    Aside ((∀ t, t < lo → cmp l[t]!.name n < 0) ∧ (∀ t, hi ≤ t → t < l.length → 0 ≤ cmp l[t]!.name n)))
  case atStart => exact ⟨0, l.length, rfl, rfl, Nat.zero_le _, Nat.le_refl _, by omega, Below.refl _ _, (⟨fun t ht => absurd ht (Nat.not_lt_zero _), fun t h1 h2 => by omega⟩ : (∀ t, t < 0 → cmp l[t]!.name n < 0) ∧ (∀ t, l.length ≤ t → t < l.length → 0 ≤ cmp l[t]!.name n))⟩
  case round =>
    obtain ⟨lo, hi, rfl, rfl, hlh, hin, hg2, hb, I⟩ := hrel
    by_cases hlt : lo < hi
    · obtain ⟨g, rfl, e0, e1, e2⟩ := hc.out ((lo + hi) / 2) (by omega)
      replace e0 := cell_below e0 hb
      replace e1 := cell_below e1 hb
      replace e2 := cell_below e2 hb
      generalize hy : l[(lo + hi) / 2]! = y at e0 e1 e2
      have Y : Aside (l[(lo + hi) / 2]! = y) := hy
      clear hy
      have hk := findCmp_any y.name n y.v (.int .i64 y.sure)
      have hsz := hb.size
      by_cases hyx : cmp y.name n < 0
      · go_wp2_with (go_at_call 32; refine (hk _).mono ?_; rintro e w' ⟨rfl, rfl⟩)
        go_roundg (hi - ((lo + hi) / 2 + 1))
        case measure => omega
        case rel =>
          have I2 : Aside ((∀ t, t < (lo + hi) / 2 + 1 → cmp l[t]!.name n < 0) ∧ (∀ t, hi ≤ t → t < l.length → 0 ≤ cmp l[t]!.name n)) := ⟨fun t ht => by
            have := M.out t ((lo + hi) / 2) (by omega) (by simp; omega)
            rw [names_get l _ (by omega), names_get l _ (by omega), Y.out] at this
            exact this hyx, I.out.2⟩
          exact ⟨(lo + hi) / 2 + 1, hi, by rw [show ((lo : Int) + (hi : Int)) / 2 + 1 = (((lo + hi) / 2 + 1 : Nat) : Int) by omega], rfl, by omega, hin, Nat.le_refl _, hb.alloc hsz _, I2⟩
      · go_wp2_with (go_at_call 32; refine (hk _).mono ?_; rintro e w' ⟨rfl, rfl⟩)
        go_roundg ((lo + hi) / 2 - lo)
        case measure => omega
        case rel =>
          have I2 : Aside ((∀ t, t < lo → cmp l[t]!.name n < 0) ∧ (∀ t, (lo + hi) / 2 ≤ t → t < l.length → 0 ≤ cmp l[t]!.name n)) := ⟨I.out.1, fun t ht htn => Int.not_lt.1 fun hh => by
            have := M.out ((lo + hi) / 2) t ht (by simpa using htn)
            rw [names_get l _ (by omega), names_get l _ (by omega), Y.out] at this
            have := this hh
            omega⟩
          exact ⟨lo, (lo + hi) / 2, rfl, by rw [show ((lo : Int) + (hi : Int)) / 2 = (((lo + hi) / 2 : Nat) : Int) by omega], by omega, by omega, Nat.le_refl _, hb.alloc hsz _, I2⟩
    · obtain rfl : hi = lo := by omega
      have ecnt : cnt = hi := by
        rw [← CN.out]
        exact place_boundary (by simpa using hin) (fun t ht => by rw [names_get l t (by omega)]; exact I.out.1 t ht) (fun t h3 h4 => by
          have h4' : t < l.length := by simpa using h4
          rw [names_get l t h4']; exact I.out.2 t h3 h4')
      subst ecnt
      have hsz := hb.size
      by_cases hn : cnt < l.length
      · obtain ⟨g, rfl, e0, e1, e2⟩ := hc.out cnt hn
        replace e0 := cell_below e0 hb
        replace e1 := cell_below e1 hb
        replace e2 := cell_below e2 hb
        have en := names_get l cnt hn
        generalize hy : l[cnt]! = y at e0 e1 e2 en
        have EN : Aside ((l.map Fv.name)[cnt]! = y.name) := en
        clear hy en
        have hk := findCmp_any y.name n y.v (.int .i64 y.sure)
        by_cases hyx : cmp y.name n = 0
        · go_wp2_with (go_at_call 32; refine (hk _).mono ?_; rintro e w' ⟨rfl, rfl⟩)
          go_ret2
          exact ⟨by rw [← FIN.out, EN.out]; simp [hn, hyx], hb.alloc hsz _⟩
        · go_wp2_with (go_at_call 32; refine (hk _).mono ?_; rintro e w' ⟨rfl, rfl⟩)
          go_ret2
          exact ⟨by rw [← FIN.out, EN.out]; simp [hn, hyx], hb.alloc hsz _⟩
      · go_wp2
        go_ret2
        exact ⟨by rw [← FIN.out]; simp [hn], hb⟩

theorem Rep.c0 {w : World} {B b : Nat} {d : Ds} (h : Rep w B b d) : w.cell? ⟨b, 0, none⟩ = some d.vf := by rw [cell_of_row w b 0 _ _ _ h.blk]; rfl
theorem Rep.c1 {w : World} {B b : Nat} {d : Ds} (h : Rep w B b d) : w.cell? ⟨b, 1, none⟩ = some d.vp := by rw [cell_of_row w b 1 _ _ _ h.blk]; rfl
theorem Rep.c2 {w : World} {B b : Nat} {d : Ds} (h : Rep w B b d) : w.cell? ⟨b, 2, none⟩ = some (.int .i64 (d.room : Int)) := by rw [cell_of_row w b 2 _ _ _ h.blk]; rfl
theorem Rep.c3 {w : World} {B b : Nat} {d : Ds} (h : Rep w B b d) : w.cell? ⟨b, 3, none⟩ = some (.bool d.fused) := by rw [cell_of_row w b 3 _ _ _ h.blk]; rfl
theorem Rep.c4 {w : World} {B b : Nat} {d : Ds} (h : Rep w B b d) : w.cell? ⟨b, 4, none⟩ = some (.int .i64 (d.fuse : Int)) := by rw [cell_of_row w b 4 _ _ _ h.blk]; rfl
theorem Rep.c5 {w : World} {B b : Nat} {d : Ds} (h : Rep w B b d) : w.cell? ⟨b, 5, none⟩ = some (.bool d.down) := by rw [cell_of_row w b 5 _ _ _ h.blk]; rfl
theorem Rep.fz {w : World} {B b : Nat} {d : Ds} (h : Rep w B b d) (j : Nat) : w.frozen? ⟨b, j, none⟩ = false := frozen_of_row w b j _ _ h.blk

theorem find_any {w : World} {B b : Nat} {d : Ds} (h : Rep w B b d) (hr : Rising d.names) (hl : d.files.length ≤ 1000) (n : ByteArray) :
    Calls Tryz.prog 18 #[.pointer (some ⟨b, 0, none⟩), .string n] w fun e w' =>
      e = .returned (.tuple #[.int .i64 (place d.names n : Nat), .bool (has d.names n)]) ∧ Below w.heap.size w w' := by
  have c0 := h.c0
  have hs := search_any B d.vf d.files n w h.tab hr hl
  clear h hr
  go_enter Tryz.func18, Tryz.ntmps18
  go_wp2_with (go_at_call 31; refine hs.mono ?_; rintro e w' ⟨rfl, hb⟩)
  go_ret2
  exact ⟨rfl, hb⟩
end Go.Proofs.YtblhkhgcaheplaaGreatDoor.Dk
