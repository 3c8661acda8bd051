/-
  YtpeioecpilmpiaaGreatDoor: the texts J8, one behind the other.
-/
import Derived.Test.YtpeioecpilmpiaaGreatDoorMF11
import Derived.WalkKit
import Derived.WalkSpells
import Derived.WalkLawsBesides
import Derived.Deep.LoopGhost
import Derived.Laws.Externs
import Derived.Below
import Derived.BigQuiet
import Derived.Deep.RegionWith
import Derived.OwnWalk
import Derived.Maps.AppendAt
/-
  A value that was read, in memory: lists and objects that grow; find.
-/
namespace Go.Proofs.YtpeioecpilmpiaaGreatDoor
open Go.RowKit
/-- The comparison that find hands on: of a member with a name. -/
theorem findCmp_any (a n : Js.B) (v : Value) (w : World) :
    Calls Tryz.prog 43 #[.agg #[.string (bs a), v], .string (bs n)] w fun e w' => e = .returned (.int .i64 (Js.cb a n)) ∧ w' = w.alloc (.cells #[.string (bs a), v] 58) := by
  have K : Aside (∀ w1, Calls Tryz.prog 44 #[.string (bs a), .string (bs n)] w1 fun e w' => e = .returned (.int .i64 (Js.cb a n)) ∧ w' = w1) := fun w1 => by
    have := compare_call (bs a) (bs n) w1
    rw [bs_list, bs_list] at this
    exact this
  go_enter Tryz.func43, Tryz.ntmps43
  go_wp2_with (go_at_call 44; refine (K.out _).mono ?_; rintro e w' ⟨rfl, rfl⟩)
  go_ret
  exact ⟨rfl, rfl⟩

theorem cell_below {w w' : World} {a : Addr} {v : Value} (h : w.cell? a = some v) (hb : Below w.heap.size w w') : w'.cell? a = some v := by
  rw [hb.cell (World.block_lt_of_cell? w a h)]
  exact h
theorem names_get (l : List Mb) (t : Nat) (h : t < l.length) : (l.map Mb.name)[t]! = l[t]!.name := by
  rw [getElem!_pos _ t (by simpa using h), getElem!_pos l t h]
  simp

theorem mem_decide {l : List Js.B} (hr : Js.Rise l) (n : Js.B) : decide (n ∈ l) = (decide (Js.place l n < l.length) && decide (Js.cb l[Js.place l n]! n = 0)) := by
  have := Js.place_mem hr n
  by_cases h : n ∈ l
  · obtain ⟨h1, h2⟩ := this.1 h
    rw [decide_eq_true h, h2, Js.cb_self]
    simp [h1]
  · rw [decide_eq_false h]
    by_cases h1 : Js.place l n < l.length
    · have h2 : ¬ Js.cb l[Js.place l n]! n = 0 := fun e => h (this.2 ⟨h1, Js.cb_zero _ _ e⟩)
      rw [decide_eq_false h2]
      simp
    · simp [h1]

theorem place_boundary {l : List Js.B} {n : Js.B} {i : Nat} (hi : i ≤ l.length) (h1 : ∀ t, t < i → Js.cb l[t]! n < 0) (h2 : ∀ t, i ≤ t → t < l.length → 0 ≤ Js.cb l[t]! n) : Js.place l n = i := by
  induction l generalizing i with
  | nil => simp at hi; simp [hi, Js.place]
  | cons a r ih =>
    cases i with
    | zero =>
      unfold Js.place
      rw [List.countP_eq_zero]
      intro x hx
      obtain ⟨t, ht, rfl⟩ := List.getElem_of_mem hx
      have := h2 t (Nat.zero_le _) ht
      rw [getElem!_pos (a :: r) t ht] at this
      unfold Js.cb at this
      rw [decide_eq_true_eq]; omega
    | succ i =>
      have ha : Js.cb a n < 0 := by simpa using h1 0 (Nat.succ_pos _)
      rw [Js.place_lt r ha, ih (by simpa using hi) (fun t ht => by simpa using h1 (t + 1) (by omega)) (fun t h3 h4 => by simpa using h2 (t + 1) (by omega) (by simpa using h4))]

set_option maxHeartbeats 1600000 in
theorem search_any (B : Nat) (v : Value) (l : List Mb) (n : Js.B) (w : World) (h : w.ownsRow B 58 2 v l.length (l.flatMap Mb.cells)) (hr : Js.Rise (l.map Mb.name)) (hl : l.length ≤ 1000) :
    Calls Tryz.prog 42 #[v, .string (bs n), .func (.func 43) #[] #[]] w fun e w' =>
      e = .returned (.tuple #[.int .i64 (Js.place (l.map Mb.name) n : Nat), .bool (decide (n ∈ l.map Mb.name))]) ∧ Below w.heap.size w w' := by
  rw [mem_decide hr]
  have M : Aside _ := hr.mono n
  obtain ⟨a, cap, rfl⟩ := own_any h
  have hc : Aside (∀ t, t < l.length → ∃ g, a = some ⟨g, 0, none⟩ ∧ w.cell? ⟨g, t * 2, none⟩ = some (.string (bs l[t]!.name)) ∧ w.cell? ⟨g, t * 2 + 1, none⟩ = some l[t]!.v) := by
    intro t ht
    obtain ⟨g, c', e, _, _, hg⟩ := own_form h (by omega)
    have hf : l[t]? = some l[t]! := by rw [getElem!_pos l t ht]; exact List.getElem?_eq_getElem ht
    obtain ⟨c0, c1⟩ := flat_at hf
    injection e with e1 e2 e3
    exact ⟨g, e1, own_cell h hg c0, own_cell h hg c1⟩
  clear h hr
  generalize hcnt : Js.place (l.map Mb.name) n = cnt
  have CN : Aside (Js.place (l.map Mb.name) n = cnt) := hcnt
  clear hcnt
  generalize hfin : (decide (cnt < (l.map Mb.name).length) && decide (Js.cb (l.map Mb.name)[cnt]! n = 0)) = fin
  have FIN : Aside ((decide (cnt < (l.map Mb.name).length) && decide (Js.cb (l.map Mb.name)[cnt]! n = 0)) = fin) := hfin
  clear hfin
  go_enter Tryz.func42, Tryz.ntmps42
  go_wp2
  go_loopg [9, 10] l.length (fun kx s9 s10 wr => ∃ lo hi : Nat, s9 = .int .i64 lo ∧ s10 = .int .i64 hi ∧ lo ≤ hi ∧ hi ≤ l.length ∧ hi - lo ≤ kx ∧ Below w.heap.size w wr ∧
    Aside ((∀ t, t < lo → Js.cb l[t]!.name n < 0) ∧ (∀ t, hi ≤ t → t < l.length → 0 ≤ Js.cb l[t]!.name n)))
  case atStart => exact ⟨0, l.length, rfl, rfl, Nat.zero_le _, Nat.le_refl _, by omega, Below.refl _ _, (⟨fun t ht => absurd ht (Nat.not_lt_zero _), fun t h1 h2 => by omega⟩ : (∀ t, t < 0 → Js.cb l[t]!.name n < 0) ∧ (∀ t, l.length ≤ t → t < l.length → 0 ≤ Js.cb l[t]!.name n))⟩
  case round =>
    obtain ⟨lo, hi, rfl, rfl, hlh, hin, hg2, hb, I⟩ := hrel
    by_cases hlt : lo < hi
    · obtain ⟨g, rfl, e0, e1⟩ := hc.out ((lo + hi) / 2) (by omega)
      replace e0 := cell_below e0 hb
      replace e1 := cell_below e1 hb
      generalize hy : l[(lo + hi) / 2]! = y at e0 e1
      have Y : Aside (l[(lo + hi) / 2]! = y) := hy
      clear hy
      have hk := findCmp_any y.name n y.v
      have hsz := hb.size
      by_cases hyx : Js.cb y.name n < 0
      · go_wp2_with (go_at_call 43; refine (hk _).mono ?_; rintro e w' ⟨rfl, rfl⟩)
        go_roundg (hi - ((lo + hi) / 2 + 1))
        case measure => omega
        case rel =>
          have I2 : Aside ((∀ t, t < (lo + hi) / 2 + 1 → Js.cb l[t]!.name n < 0) ∧ (∀ t, hi ≤ t → t < l.length → 0 ≤ Js.cb l[t]!.name n)) := ⟨fun t ht => by
            have := M.out t ((lo + hi) / 2) (by omega) (by simp; omega)
            rw [names_get l _ (by omega), names_get l _ (by omega), Y.out] at this
            exact this hyx, I.out.2⟩
          exact ⟨(lo + hi) / 2 + 1, hi, by rw [show ((lo : Int) + (hi : Int)) / 2 + 1 = (((lo + hi) / 2 + 1 : Nat) : Int) by omega], rfl, by omega, hin, Nat.le_refl _, hb.alloc hsz _, I2⟩
      · go_wp2_with (go_at_call 43; refine (hk _).mono ?_; rintro e w' ⟨rfl, rfl⟩)
        go_roundg ((lo + hi) / 2 - lo)
        case measure => omega
        case rel =>
          have I2 : Aside ((∀ t, t < lo → Js.cb l[t]!.name n < 0) ∧ (∀ t, (lo + hi) / 2 ≤ t → t < l.length → 0 ≤ Js.cb l[t]!.name n)) := ⟨I.out.1, fun t ht htn => Int.not_lt.1 fun hh => by
            have := M.out ((lo + hi) / 2) t ht (by simpa using htn)
            rw [names_get l _ (by omega), names_get l _ (by omega), Y.out] at this
            have := this hh
            omega⟩
          exact ⟨lo, (lo + hi) / 2, rfl, by rw [show ((lo : Int) + (hi : Int)) / 2 = (((lo + hi) / 2 : Nat) : Int) by omega], by omega, by omega, Nat.le_refl _, hb.alloc hsz _, I2⟩
    · obtain rfl : hi = lo := by omega
      have ecnt : cnt = hi := by
        rw [← CN.out]
        exact place_boundary (by simpa using hin) (fun t ht => by rw [names_get l t (by omega)]; exact I.out.1 t ht) (fun t h3 h4 => by
          have h4' : t < l.length := by simpa using h4
          rw [names_get l t h4']; exact I.out.2 t h3 h4')
      subst ecnt
      have hsz := hb.size
      by_cases hn : cnt < l.length
      · obtain ⟨g, rfl, e0, e1⟩ := hc.out cnt hn
        replace e0 := cell_below e0 hb
        replace e1 := cell_below e1 hb
        have en := names_get l cnt hn
        generalize hy : l[cnt]! = y at e0 e1 en
        have EN : Aside ((l.map Mb.name)[cnt]! = y.name) := en
        clear hy en
        have hk := findCmp_any y.name n y.v
        by_cases hyx : Js.cb y.name n = 0
        · go_wp2_with (go_at_call 43; refine (hk _).mono ?_; rintro e w' ⟨rfl, rfl⟩)
          go_ret2
          exact ⟨by rw [← FIN.out, EN.out]; simp [hn, hyx], hb.alloc hsz _⟩
        · go_wp2_with (go_at_call 43; refine (hk _).mono ?_; rintro e w' ⟨rfl, rfl⟩)
          go_ret2
          exact ⟨by rw [← FIN.out, EN.out]; simp [hn, hyx], hb.alloc hsz _⟩
      · go_wp2
        go_ret2
        exact ⟨by rw [← FIN.out]; simp [hn], hb⟩

theorem find_any (B : Nat) (v : Value) (l : List Mb) (n : Js.B) (w : World) (h : w.ownsRow B 58 2 v l.length (l.flatMap Mb.cells)) (hr : Js.Rise (l.map Mb.name)) (hl : l.length ≤ 1000) :
    Calls Tryz.prog 26 #[v, .string (bs n)] w fun e w' =>
      e = .returned (.tuple #[.int .i64 (Js.place (l.map Mb.name) n : Nat), .bool (decide (n ∈ l.map Mb.name))]) ∧ Below w.heap.size w w' := by
  have K := asd (search_any B v l n w h hr hl)
  clear h hr
  generalize Js.place (l.map Mb.name) n = x at *
  generalize decide (n ∈ l.map Mb.name) = y at *
  go_enter Tryz.func26, Tryz.ntmps26
  go_wp2_with (go_at_call 42; refine K.out.mono ?_; rintro e w' ⟨rfl, hb⟩)
  go_ret2
  exact ⟨rfl, hb⟩
theorem own_base {w : World} {b b' : Nat} {e : TypeId} {size : Nat} {v : Value} {n : Nat} {xs : List Value} (h : w.ownsRow b e size v n xs) (hb : b' ≤ b) : w.ownsRow b' e size v n xs := by
  obtain ⟨h1, h2⟩ := h
  refine ⟨h1, ?_⟩
  rcases h2 with h2 | ⟨g, cap, cur, hv, hg, r⟩
  · exact .inl h2
  · exact .inr ⟨g, cap, cur, hv, Nat.le_trans hb hg, r⟩
theorem own_place {w : World} {b g : Nat} {e : TypeId} {size : Nat} {v : Value} {n : Nat} {xs : List Value} (h : w.ownsRow b e size v n xs) (hg : v.ownBlock = some g) : b ≤ g ∧ g < w.heap.size := by
  rcases h.2 with ⟨rfl, _⟩ | ⟨g', cap, cur, rfl, hb, hh, _⟩
  · simp [Value.ownBlock] at hg
  · simp only [Value.ownBlock, Option.some.injEq] at hg
    subst hg
    exact ⟨hb, (Array.getElem?_eq_some_iff.1 hh).1⟩

/-! a value that was read, in memory -/
def ScV (v : Value) (x : Js.X) : Prop :=
  (x = Js.mkNull ∧ v = .iface 60 (.agg #[])) ∨ (∃ b, x = Js.mkTruth b ∧ v = .iface 62 (.bool b)) ∨ (∃ n : Int, n.natAbs < 1000000000000000 ∧ x = Js.mkNum n ∧ v = .iface 64 (.int .i64 n)) ∨ (∃ t, Lib.validD t = true ∧ x = Js.mkText t ∧ v = .iface 66 (.string (bs t)))

/-- The value v is x, n deep; its blocks are among F. -/
def Tv : Nat → (Nat → Prop) → World → Value → Js.X → Prop
  | 0, _, _, v, x => ScV v x
  | n + 1, F, w, v, x => ScV v x ∨
      (∃ (l : List Js.X) (vs : List Value) (sl : Value), x = Js.mkList l ∧ v = .iface 69 sl ∧ w.ownsRow 0 20 1 sl vs.length vs ∧ vs.length = l.length ∧ (∀ g, sl.ownBlock = some g → F g) ∧
        ∀ p ∈ vs.zip l, Tv n (fun k => F k ∧ sl.ownBlock ≠ some k) w p.1 p.2) ∨
      (∃ (l : List (Js.B × Js.X)) (ms : List Mb) (sl : Value), x = Js.mkObj l ∧ v = .iface 55 sl ∧ w.ownsRow 0 58 2 sl ms.length (ms.flatMap Mb.cells) ∧ ms.map Mb.name = l.map (·.1) ∧ (∀ g, sl.ownBlock = some g → F g) ∧ (∀ m ∈ ms, Lib.validD m.name = true) ∧
        ∀ p ∈ ms.zip l, Tv n (fun k => F k ∧ sl.ownBlock ≠ some k) w p.1.v p.2.2)

theorem Tv.frame : ∀ {n : Nat} {F F' : Nat → Prop} {w w' : World} {v : Value} {x : Js.X}, Tv n F w v x → (∀ k, F k → F' k) → (∀ k, F k → w'.heap[k]? = w.heap[k]?) → Tv n F' w' v x
  | 0, _, _, _, _, _, _, h, _, _ => h
  | n + 1, F, F', w, w', v, x, h, hF, hw => by
    rcases h with h | ⟨l, vs, sl, e1, e2, ho, hl, hg, hi⟩ | ⟨l, ms, sl, e1, e2, ho, hl, hg, hvd, hi⟩
    · exact .inl h
    · exact .inr (.inl ⟨l, vs, sl, e1, e2, own_frame ho (fun k hk => hw k (hg k hk)), hl, fun g h => hF g (hg g h), fun p hp => (hi p hp).frame (fun k hk => ⟨hF k hk.1, hk.2⟩) (fun k hk => hw k hk.1)⟩)
    · exact .inr (.inr ⟨l, ms, sl, e1, e2, own_frame ho (fun k hk => hw k (hg k hk)), hl, fun g h => hF g (hg g h), hvd, fun p hp => (hi p hp).frame (fun k hk => ⟨hF k hk.1, hk.2⟩) (fun k hk => hw k hk.1)⟩)

theorem Tv.one : ∀ {n : Nat} {F : Nat → Prop} {w : World} {v : Value} {x : Js.X}, Tv n F w v x → v.oneCell' = true := by
  intro n F w v x h
  have hs : ScV v x → v.oneCell' = true := by
    rintro (⟨_, rfl⟩ | ⟨b, _, rfl⟩ | ⟨k, _, _, rfl⟩ | ⟨t, _, _, rfl⟩) <;> rfl
  cases n with
  | zero => exact hs h
  | succ n =>
    rcases h with h | ⟨l, vs, sl, _, rfl, _⟩ | ⟨l, vs, sl, _, rfl, _⟩
    · exact hs h
    · rfl
    · rfl

abbrev Bt (a b : Nat) : Nat → Prop := fun k => a ≤ k ∧ k < b

/-- A list that grows. -/
structure LI (n B : Nat) (w : World) (sl : Value) (vs : List Value) (l : List Js.X) : Prop where
  own : w.ownsRow B 20 1 sl vs.length vs
  len : vs.length = l.length
  items : ∀ p ∈ vs.zip l, Tv n (fun k => Bt B w.heap.size k ∧ sl.ownBlock ≠ some k) w p.1 p.2
theorem LI.nil (n B : Nat) (w : World) : LI n B w (.slice none 0 0) [] [] := ⟨⟨rfl, .inl ⟨rfl, rfl⟩⟩, rfl, fun p hp => by simp at hp⟩
theorem LI.kept {n B r : Nat} {w w' : World} {sl : Value} {vs : List Value} {l : List Js.X} (h : LI n B w sl vs l) (hr : r < B) (hg : w.grownBy w' (some r)) : LI n B w' sl vs l := by
  have hb : ∀ k, B ≤ k → k < w.heap.size → w'.heap[k]? = w.heap[k]? := fun k h1 h2 => hg.block k h2 (fun e => by injection e; omega)
  have hz := hg.size
  exact ⟨own_frame h.own (fun k hk => hb k (own_place h.own hk).1 (own_place h.own hk).2), h.len,
    fun p hp => (h.items p hp).frame (fun k hk => ⟨⟨hk.1.1, by have := hk.1.2; omega⟩, hk.2⟩) (fun k hk => hb k hk.1.1 hk.1.2)⟩
theorem LI.done {n B : Nat} {w : World} {sl : Value} {vs : List Value} {l : List Js.X} (h : LI n B w sl vs l) : Tv (n + 1) (Bt B w.heap.size) w (.iface 69 sl) (Js.mkList l) :=
  .inr (.inl ⟨l, vs, sl, rfl, rfl, own_base h.own (Nat.zero_le _), h.len, fun _ hg => own_place h.own hg, h.items⟩)

theorem info20 : (Tryz.prog.info? 20).map (fun i => (i.zero, i.size, i.bytes)) = some (some .nilIface, 1, 16) := by kernel_rfl

theorem push_run (B : Nat) (w : World) (sl u : Value) (vs : List Value) (h : w.ownsRow B 20 1 sl vs.length vs) (h1 : u.oneCell' = true) (hl : vs.length ≤ 1000) (hB : B ≤ w.heap.size) (ty : TypeId) :
    ∃ v' w', (Builtin.append_ #[69, 69] ty #[sl, .slice (some ⟨w.heap.size, 0, none⟩) 1 1]).run Tryz.prog (w.alloc (.cells #[u] 20)) = .ok v' w' ∧ w'.ownsRow B 20 1 v' (vs.length + 1) (vs ++ [u]) ∧ Below B w w' ∧
      (∀ k, k < w.heap.size → sl.ownBlock ≠ some k → w'.heap[k]? = w.heap[k]?) ∧ (v'.ownBlock = sl.ownBlock ∨ v'.ownBlock = some (w.heap.size + 1)) := by
  obtain ⟨i0, hi0, hz0, hzs, hzb⟩ := info_parts info20
  have ho : (w.alloc (.cells #[u] 20)).ownsRow B 20 1 sl vs.length vs := own_frame h (fun k hk => alloc_old w _ k (own_place h hk).2)
  obtain ⟨v', w', e1, e2, e3, _, e5⟩ := run_append_own_at (P := Tryz.prog) (w.alloc (.cells #[u] 20)) B 69 ty 20 i0 .nilIface 1 16 Tryz.underlying69 hi0 hz0 hzs hzb rfl (by omega) sl vs.length vs ho ⟨w.heap.size, 0, none⟩ 1 1 [u] rfl (fun j x hj => by
      rw [Addr.add_lit, Nat.zero_add, cell_of_row _ w.heap.size j _ _ _ (heap_alloc_new w _), ← hj, ← Array.getElem?_toList]) (by simpa using h1) (by unfold maxLen; omega) (by omega) (by simp; omega)
  have hk : ∀ k, k < w.heap.size → sl.ownBlock ≠ some k → w'.heap[k]? = w.heap[k]? := fun k hk hn => (e3.block k (by simp; omega) (fun e => hn e.symm)).trans (alloc_old w _ k hk)
  have hz : (w.alloc (.cells #[u] 20)).heap.size = w.heap.size + 1 := by simp
  refine ⟨v', w', e1, e2, ⟨e3.os, e3.tape, e3.output, by have := e3.size; omega, fun k hkB => hk k (by omega) (fun e => by have := (own_place h e).1; omega)⟩, hk, ?_⟩
  rw [hz] at e5
  exact e5

theorem LI.push {n B r : Nat} {w w2 : World} {sl u : Value} {vs : List Value} {l : List Js.X} {y : Js.X} (h : LI n B w sl vs l) (hr : r < B) (hg : w.grownBy w2 (some r)) (hy : Tv n (Bt w.heap.size w2.heap.size) w2 u y) (hl : vs.length ≤ 1000) (hB : B ≤ w.heap.size) (ty : TypeId) :
    ∃ v' w', (Builtin.append_ #[69, 69] ty #[sl, .slice (some ⟨w2.heap.size, 0, none⟩) 1 1]).run Tryz.prog (w2.alloc (.cells #[u] 20)) = .ok v' w' ∧ LI n B w' v' (vs ++ [u]) (l ++ [y]) ∧ Below B w2 w' := by
  have h2 := h.kept hr hg
  have hz := hg.size
  obtain ⟨v', w', e1, e2, e3, e4, e5⟩ := push_run B w2 sl u vs h2.own hy.one hl (by omega) ty
  have hz3 : w2.heap.size ≤ w'.heap.size := e3.size
  refine ⟨v', w', e1, ⟨by rw [List.length_append]; exact e2, by rw [List.length_append, List.length_append, h.len]; rfl, ?_⟩, e3⟩
  rw [List.zip_append h.len]
  intro p hp
  rcases List.mem_append.1 hp with hp | hp
  · refine (h2.items p hp).frame (fun k hk => ⟨⟨hk.1.1, by have := hk.1.2; omega⟩, ?_⟩) (fun k hk => e4 k hk.1.2 hk.2)
    rcases e5 with e5 | e5
    · rw [e5]; exact hk.2
    · rw [e5]; intro e; injection e; have := hk.1.2; omega
  · simp only [List.zip_cons_cons, List.zip_nil_right, List.mem_singleton] at hp
    subst hp
    have hne : ∀ k, Bt w.heap.size w2.heap.size k → sl.ownBlock ≠ some k := fun k hk e => by have := (own_place h.own e).2; have := hk.1; omega
    refine hy.frame (fun k hk => ⟨⟨by have := hk.1; omega, by have := hk.2; omega⟩, ?_⟩) (fun k hk => e4 k hk.2 (hne k hk))
    rcases e5 with e5 | e5
    · rw [e5]; exact hne k hk
    · rw [e5]; intro e; injection e; have := hk.2; omega

/-- An object that grows. -/
structure MI (n B : Nat) (w : World) (sl : Value) (ms : List Mb) (l : List (Js.B × Js.X)) : Prop where
  own : w.ownsRow B 58 2 sl ms.length (ms.flatMap Mb.cells)
  names : ms.map Mb.name = l.map (·.1)
  rise : Js.Rise (l.map (·.1))
  one : ∀ m ∈ ms, m.v.oneCell' = true
  vd : ∀ m ∈ ms, Lib.validD m.name = true
  items : ∀ p ∈ ms.zip l, Tv n (fun k => Bt B w.heap.size k ∧ sl.ownBlock ≠ some k) w p.1.v p.2.2
theorem MI.nil (n B : Nat) (w : World) : MI n B w (.slice none 0 0) [] [] := ⟨⟨rfl, .inl ⟨rfl, rfl⟩⟩, rfl, trivial, fun m hm => by simp at hm, fun m hm => by simp at hm, fun p hp => by simp at hp⟩
theorem MI.len {n B : Nat} {w : World} {sl : Value} {ms : List Mb} {l : List (Js.B × Js.X)} (h : MI n B w sl ms l) : ms.length = l.length := by
  have := congrArg List.length h.names
  simpa using this
theorem MI.kept {n B r : Nat} {w w' : World} {sl : Value} {ms : List Mb} {l : List (Js.B × Js.X)} (h : MI n B w sl ms l) (hr : r < B) (hg : w.grownBy w' (some r)) : MI n B w' sl ms l := by
  have hb : ∀ k, B ≤ k → k < w.heap.size → w'.heap[k]? = w.heap[k]? := fun k h1 h2 => hg.block k h2 (fun e => by injection e; omega)
  have hz := hg.size
  exact ⟨own_frame h.own (fun k hk => hb k (own_place h.own hk).1 (own_place h.own hk).2), h.names, h.rise, h.one, h.vd,
    fun p hp => (h.items p hp).frame (fun k hk => ⟨⟨hk.1.1, by have := hk.1.2; omega⟩, hk.2⟩) (fun k hk => hb k hk.1.1 hk.1.2)⟩
theorem MI.done {n B : Nat} {w : World} {sl : Value} {ms : List Mb} {l : List (Js.B × Js.X)} (h : MI n B w sl ms l) : Tv (n + 1) (Bt B w.heap.size) w (.iface 55 sl) (Js.mkObj l) :=
  .inr (.inr ⟨l, ms, sl, rfl, rfl, own_base h.own (Nat.zero_le _), h.names, fun _ hg => own_place h.own hg, h.vd, h.items⟩)

theorem zip_take {α β : Type} : ∀ (a : List α) (b : List β) (i : Nat), (a.take i).zip (b.take i) = (a.zip b).take i
  | [], _, i => by cases i <;> simp
  | _ :: _, [], i => by cases i <;> simp
  | x :: a, y :: b, 0 => by simp
  | x :: a, y :: b, i + 1 => by simp [zip_take a b i]
theorem zip_drop {α β : Type} : ∀ (a : List α) (b : List β) (i : Nat), (a.drop i).zip (b.drop i) = (a.zip b).drop i
  | [], _, i => by cases i <;> simp
  | _ :: _, [], i => by cases i <;> simp
  | x :: a, y :: b, 0 => by simp
  | x :: a, y :: b, i + 1 => by simp [zip_drop a b i]

/-- What Insert leaves. -/
theorem MI.put {n B r : Nat} {w w2 w' : World} {sl v' u : Value} {ms : List Mb} {l : List (Js.B × Js.X)} {nm : Js.B} {y : Js.X} (h : MI n B w sl ms l) (hr : r < B) (hg : w.grownBy w2 (some r)) (hy : Tv n (Bt w.heap.size w2.heap.size) w2 u y) (hB : B ≤ w.heap.size) (hn : nm ∉ l.map (·.1)) (hvd : Lib.validD nm = true)
    (o : w'.ownsRow B 58 2 v' (ms.length + 1) ((ms.take (Js.place (l.map (·.1)) nm) ++ ⟨nm, u⟩ :: ms.drop (Js.place (l.map (·.1)) nm)).flatMap Mb.cells))
    (ob : v'.ownBlock = sl.ownBlock ∨ v'.ownBlock = some (w2.heap.size + 1)) (kb : ∀ k, k < w2.heap.size → sl.ownBlock ≠ some k → w'.heap[k]? = w2.heap[k]?) (hz3 : w2.heap.size ≤ w'.heap.size) :
    MI n B w' v' (ms.take (Js.place (l.map (·.1)) nm) ++ ⟨nm, u⟩ :: ms.drop (Js.place (l.map (·.1)) nm)) (Js.ins l nm y) := by
  have h2 := h.kept hr hg
  have hz := hg.size
  have hlen := h.len
  have hp := Js.place_le (l.map (·.1)) nm
  rw [List.length_map] at hp
  refine ⟨?_, ?_, ?_, ?_, ?_, ?_⟩
  · rw [List.length_append, List.length_cons, List.length_take, List.length_drop, show min (Js.place (l.map (·.1)) nm) ms.length + (ms.length - Js.place (l.map (·.1)) nm + 1) = ms.length + 1 by omega]
    exact o
  · rw [Js.ins_names, List.map_append, List.map_cons, List.map_take, List.map_drop, h.names]
  · rw [Js.ins_names]
    exact Js.Rise.insert h.rise nm hn
  · intro m hm
    rcases List.mem_append.1 hm with hm | hm
    · exact h.one m (List.mem_of_mem_take hm)
    · rcases List.mem_cons.1 hm with rfl | hm
      · exact hy.one
      · exact h.one m (List.mem_of_mem_drop hm)
  · intro m hm
    rcases List.mem_append.1 hm with hm | hm
    · exact h.vd m (List.mem_of_mem_take hm)
    · rcases List.mem_cons.1 hm with rfl | hm
      · exact hvd
      · exact h.vd m (List.mem_of_mem_drop hm)
  · unfold Js.ins
    rw [List.zip_append (by rw [List.length_take, List.length_take, hlen]), List.zip_cons_cons, zip_take, zip_drop]
    have old : ∀ p ∈ ms.zip l, Tv n (fun k => Bt B w'.heap.size k ∧ v'.ownBlock ≠ some k) w' p.1.v p.2.2 := fun p hp => by
      refine (h2.items p hp).frame (fun k hk => ⟨⟨hk.1.1, by have := hk.1.2; omega⟩, ?_⟩) (fun k hk => kb k hk.1.2 hk.2)
      rcases ob with e5 | e5
      · rw [e5]; exact hk.2
      · rw [e5]; intro e; injection e; have := hk.1.2; omega
    intro p hp
    rcases List.mem_append.1 hp with hp | hp
    · exact old p (List.mem_of_mem_take hp)
    · rcases List.mem_cons.1 hp with rfl | hp
      · have hne : ∀ k, Bt w.heap.size w2.heap.size k → sl.ownBlock ≠ some k := fun k hk e => by have := (own_place h.own e).2; have := hk.1; omega
        refine hy.frame (fun k hk => ⟨⟨by have := hk.1; omega, by have := hk.2; omega⟩, ?_⟩) (fun k hk => kb k hk.2 (hne k hk))
        rcases ob with e5 | e5
        · rw [e5]; exact hne k hk
        · rw [e5]; intro e; injection e; have := hk.2; omega
      · exact old p (List.mem_of_mem_drop hp)
end Go.Proofs.YtpeioecpilmpiaaGreatDoor
