/-
  YtpeioecpilmpiaaGreatDoor: the texts JM5, one behind the other.
-/
import Derived.Test.YtpeioecpilmpiaaGreatDoorMF8
/-
  A form's form is the same; the order of two members.
-/
namespace Go.Proofs.YtpeioecpilmpiaaGreatDoor
namespace Js
open Lib

/-- What is written is read again, wherever it stands: or it is too deep. -/
def Reads (g : B → Ans) (x : X) : Prop := ∀ r, tok r → g (x.form ++ r) = .ok (x, r)
def Deep (g : B → Ans) (x : X) : Prop := ∀ r, tok r → g (x.form ++ r) = .error 10

theorem form_head (n : Nat) (x : X) (h : Good n x) : ∃ b t, x.form = b :: t ∧ isBl b = false ∧ b ≠ 93 ∧ b ≠ 125 := by
  have hs : Scalar x → ∃ b t, x.form = b :: t ∧ isBl b = false ∧ b ≠ 93 ∧ b ≠ 125 := by
    rintro (rfl | ⟨b, rfl⟩ | ⟨k, hk, rfl⟩ | ⟨t, ht, rfl⟩)
    · exact ⟨_, _, rfl, by decide, by decide, by decide⟩
    · cases b
      · exact ⟨_, _, rfl, by decide, by decide, by decide⟩
      · exact ⟨_, _, rfl, by decide, by decide, by decide⟩
    · show ∃ b t, itoa k = b :: t ∧ _
      unfold itoa
      split
      · exact ⟨_, _, rfl, by decide, by decide, by decide⟩
      · obtain ⟨e1, _, e3, _⟩ := dd_all k.toNat
        cases hd : decDigits k.toNat with
        | nil => rw [hd] at e3; simp at e3
        | cons c t =>
          rw [hd] at e1
          have hc := (isDg_iff c).1 (e1 c (by simp))
          have hne : ∀ z : UInt8, (z.toNat < 48 ∨ 57 < z.toNat) → c ≠ z := fun z hz e => by rw [e] at hc; omega
          refine ⟨c, t, rfl, ?_, hne 93 (by decide), hne 125 (by decide)⟩
          simp only [isBl, Bool.or_eq_false_iff, beq_eq_false_iff_ne]
          exact ⟨⟨⟨hne 32 (by decide), hne 9 (by decide)⟩, hne 10 (by decide)⟩, hne 13 (by decide)⟩
    · exact ⟨_, _, rfl, by decide, by decide, by decide⟩
  cases n with
  | zero => exact hs h
  | succ n =>
    rcases h with h | ⟨l, rfl, _⟩ | ⟨l, rfl, _⟩
    · exact hs h
    · exact ⟨_, _, rfl, by decide, by decide, by decide⟩
    · exact ⟨_, _, rfl, by decide, by decide, by decide⟩
theorem skip_form {n : Nat} {x : X} (h : Good n x) (r : B) : skip (x.form ++ r) = x.form ++ r := by
  obtain ⟨b, t, e, h1, _⟩ := form_head n x h
  rw [e, List.cons_append, skip_id _ _ h1]

theorem word_back (w r : B) (x : X) : word w (w ++ r) x = .ok (x, r) := by
  unfold word
  rw [if_pos (List.isPrefixOf_iff_prefix.2 (List.prefix_append w r)), List.drop_left]
theorem va_scalar (sub : Option (B → Ans)) (x : X) (h : Scalar x) : Reads (va sub) x := by
  intro r hr
  rcases h with rfl | ⟨b, rfl⟩ | ⟨k, hk, rfl⟩ | ⟨t, ht, rfl⟩
  · exact word_back [110, 117, 108, 108] r mkNull
  · cases b
    · exact word_back [102, 97, 108, 115, 101] r (mkTruth false)
    · exact word_back [116, 114, 117, 101] r (mkTruth true)
  · have hb := nu_back k r hk hr
    show va sub (dec k ++ r) = _
    have hh : ∃ b t, dec k ++ r = b :: t ∧ (b = 45 ∨ isDg b = true) := by
      unfold dec itoa
      split
      · exact ⟨45, _, rfl, .inl rfl⟩
      · obtain ⟨e1, _, e3, _⟩ := dd_all k.toNat
        cases hd : decDigits k.toNat with
        | nil => rw [hd] at e3; simp at e3
        | cons c t => exact ⟨c, t ++ r, rfl, .inr (e1 c (by rw [hd]; simp))⟩
    obtain ⟨b, t, e, hb2⟩ := hh
    have hne : ∀ z : UInt8, z ≠ 45 → (z.toNat < 48 ∨ 57 < z.toNat) → b ≠ z := fun z h45 hz e => by
      subst e
      rcases hb2 with hb2 | hb2
      · exact h45 hb2
      · rw [isDg_iff] at hb2; omega
    rw [e] at hb ⊢
    simp only [va]
    rw [if_neg (hne 110 (by decide) (by decide)), if_neg (hne 102 (by decide) (by decide)), if_neg (hne 116 (by decide) (by decide)), if_neg (hne 34 (by decide) (by decide)), if_neg (hne 91 (by decide) (by decide)), if_neg (hne 123 (by decide) (by decide)), hb]
  · show va sub (34 :: q t ++ [34] ++ r) = _
    have := txx_back t r [] ht
    rw [List.append_assoc, List.cons_append]
    simp only [va]
    rw [if_neg (by decide), if_neg (by decide), if_neg (by decide), if_pos trivial]
    unfold txx at this
    rw [List.nil_append] at this
    show (match tx ((q t ++ 34 :: r).length + 1) (q t ++ 34 :: r) [] with
      | none => Except.error 3
      | some (s, r) => Except.ok (mkText s, r)) = _
    rw [this]

theorem li_back (g : B → Ans) (hg : Shr g) : ∀ (ys acc : List X) (r : B), ys ≠ [] → (∀ y ∈ ys, Reads g y ∨ Deep g y) →
    ((∀ y ∈ ys, Reads g y) → lix g (joins (ys.map X.form) ++ 93 :: r) acc = .ok (acc ++ ys, r)) ∧ (¬ (∀ y ∈ ys, Reads g y) → lix g (joins (ys.map X.form) ++ 93 :: r) acc = .error 10)
  | [], _, _, h, _ => absurd rfl h
  | [y], acc, r, _, h => by
    rw [List.map_cons, List.map_nil, joins_one, lix_eq g hg]
    rcases h y (by simp) with hy | hy
    · refine ⟨fun _ => ?_, fun hn => absurd (fun z hz => by rw [List.mem_singleton] at hz; rw [hz]; exact hy) hn⟩
      rw [hy _ (tok_cons 93 r (by decide))]
      simp only [skip_id 93 r (by decide)]
    · refine ⟨fun ha => ?_, fun _ => ?_⟩
      · rw [ha y (by simp) _ (tok_cons 93 r (by decide))]
        simp only [skip_id 93 r (by decide)]
      · rw [hy _ (tok_cons 93 r (by decide))]
  | y :: z :: t, acc, r, _, h => by
    have ih := fun acc => li_back g hg (z :: t) acc r (by simp) (fun x hx => h x (List.mem_cons_of_mem _ hx))
    rw [List.map_cons, List.map_cons, joins_two, List.append_assoc, List.cons_append, lix_eq g hg]
    rw [List.map_cons] at ih
    generalize joins (z.form :: List.map X.form t) ++ 93 :: r = T at ih ⊢
    have step : Reads g y → lix g (y.form ++ 44 :: T) acc = lix g T (acc ++ [y]) := fun hy => by
      rw [lix_eq g hg, hy _ (tok_cons 44 _ (by decide))]
      simp only [skip_id 44 _ (by decide)]
    rw [← lix_eq g hg]
    rcases h y (by simp) with hy | hy
    · rw [step hy]
      refine ⟨fun ha => ?_, fun hn => (ih (acc ++ [y])).2 fun ha => hn fun x hx => ?_⟩
      · rw [(ih (acc ++ [y])).1 (fun x hx => ha x (List.mem_cons_of_mem _ hx))]
        simp
      · rcases List.mem_cons.1 hx with rfl | hx
        · exact hy
        · exact ha x hx
    · refine ⟨fun ha => ?_, fun _ => ?_⟩
      · rw [step (ha y (by simp)), (ih (acc ++ [y])).1 (fun x hx => ha x (List.mem_cons_of_mem _ hx))]
        simp
      · rw [lix_eq g hg, hy _ (tok_cons 44 _ (by decide))]

theorem ins_last (acc : List (B × X)) (n : B) (x : X) (h : Rise (acc.map (·.1))) (ha : ∀ m ∈ acc, cb m.1 n < 0) : ins acc n x = acc ++ [(n, x)] := by
  unfold ins
  rw [Rise.last h n (fun k hk => by obtain ⟨m, hm, rfl⟩ := List.mem_map.1 hk; exact ha m hm), List.length_map, List.take_of_length_le (Nat.le_refl _), List.drop_of_length_le (Nat.le_refl _)]
theorem Rise.app : ∀ {a b : List B}, Rise (a ++ b) → Rise a ∧ Rise b ∧ ∀ x ∈ a, ∀ y ∈ b, cb x y < 0
  | [], b, h => ⟨trivial, h, fun x hx => by simp at hx⟩
  | c :: a, b, h => by
    obtain ⟨h1, h2, h3⟩ := Rise.app (a := a) (b := b) h.2
    refine ⟨⟨fun x hx => h.1 x (List.mem_append_left _ hx), h1⟩, h2, ?_⟩
    intro x hx y hy
    rcases List.mem_cons.1 hx with rfl | hx
    · exact h.1 y (List.mem_append_right _ hy)
    · exact h3 x hx y hy

theorem ob_step (g : B → Ans) (hg : Shr g) (acc : List (B × X)) (m : B × X) (T : B) (c : UInt8) (hc : c = 44 ∨ c = 125) (hr : Rise ((acc ++ [m]).map (·.1))) (hv : validD m.1 = true) :
    (Reads g m.2 → obx g (pairB m ++ c :: T) acc = if c = 44 then obx g T (acc ++ [m]) else .ok (acc ++ [m], T)) ∧ (Deep g m.2 → obx g (pairB m ++ c :: T) acc = .error 10) := by
  rw [List.map_append] at hr
  obtain ⟨h1, _, h3⟩ := Rise.app hr
  have hlt : ∀ k ∈ acc, cb k.1 m.1 < 0 := fun k hk => h3 k.1 (List.mem_map.2 ⟨k, hk, rfl⟩) m.1 (by simp)
  have hni : m.1 ∉ acc.map (·.1) := fun hm => by
    obtain ⟨k, hk, e⟩ := List.mem_map.1 hm
    have := hlt k hk
    rw [e, cb_self] at this
    omega
  have hins := ins_last acc m.1 m.2 h1 hlt
  have he : pairB m ++ c :: T = 34 :: (q m.1 ++ 34 :: 58 :: (m.2.form ++ c :: T)) := by simp [pairB, quote_q]
  have htk : tok (c :: T) := tok_cons c T (by rcases hc with rfl | rfl <;> decide)
  have hsk : skip (c :: T) = c :: T := skip_id c T (by rcases hc with rfl | rfl <;> decide)
  have ht := txx_back m.1 (58 :: (m.2.form ++ c :: T)) [] hv
  rw [List.nil_append] at ht
  rw [he, obx_eq g hg, skip_id 34 _ (by decide)]
  simp only [ht]
  rw [if_neg hni, skip_id 58 _ (by decide)]
  simp only []
  refine ⟨fun hy => ?_, fun hy => ?_⟩
  · rw [hy _ htk]
    simp only [hsk, hins]
    rcases hc with rfl | rfl
    · rfl
    · rfl
  · rw [hy _ htk]

theorem ob_back (g : B → Ans) (hg : Shr g) : ∀ (ys acc : List (B × X)) (r : B), ys ≠ [] → Rise ((acc ++ ys).map (·.1)) → (∀ m ∈ ys, validD m.1 = true) → (∀ m ∈ ys, Reads g m.2 ∨ Deep g m.2) →
    ((∀ m ∈ ys, Reads g m.2) → obx g (joins (ys.map pairB) ++ 125 :: r) acc = .ok (acc ++ ys, r)) ∧ (¬ (∀ m ∈ ys, Reads g m.2) → obx g (joins (ys.map pairB) ++ 125 :: r) acc = .error 10)
  | [], _, _, h, _, _, _ => absurd rfl h
  | [y], acc, r, _, hr, hv, h => by
    obtain ⟨s1, s2⟩ := ob_step g hg acc y r 125 (.inr rfl) hr (hv y (by simp))
    rw [List.map_cons, List.map_nil, joins_one]
    rcases h y (by simp) with hy | hy
    · exact ⟨fun _ => by rw [s1 hy]; rfl, fun hn => absurd (fun z hz => by rw [List.mem_singleton] at hz; rw [hz]; exact hy) hn⟩
    · exact ⟨fun ha => by rw [s1 (ha y (by simp))]; rfl, fun _ => s2 hy⟩
  | y :: z :: t, acc, r, _, hr, hv, h => by
    have hr2 : Rise (((acc ++ [y]) ++ z :: t).map (·.1)) := by rw [List.append_assoc]; exact hr
    have hr1 : Rise ((acc ++ [y]).map (·.1)) := by
      rw [List.map_append] at hr2
      exact (Rise.app hr2).1
    have ih := ob_back g hg (z :: t) (acc ++ [y]) r (by simp) hr2 (fun m hm => hv m (List.mem_cons_of_mem _ hm)) (fun x hx => h x (List.mem_cons_of_mem _ hx))
    rw [List.map_cons, List.map_cons, joins_two, List.append_assoc, List.cons_append]
    rw [List.map_cons] at ih
    generalize joins (pairB z :: List.map pairB t) ++ 125 :: r = T at ih ⊢
    obtain ⟨s1, s2⟩ := ob_step g hg acc y T 44 (.inl rfl) hr1 (hv y (by simp))
    have hap : acc ++ y :: z :: t = acc ++ [y] ++ z :: t := by simp
    rcases h y (by simp) with hy | hy
    · rw [s1 hy, if_pos rfl, hap]
      refine ⟨fun ha => ih.1 (fun x hx => ha x (List.mem_cons_of_mem _ hx)), fun hn => ih.2 fun ha => hn fun x hx => ?_⟩
      rcases List.mem_cons.1 hx with rfl | hx
      · exact hy
      · exact ha x hx
    · refine ⟨fun ha => ?_, fun _ => s2 hy⟩
      rw [s1 (ha y (by simp)), if_pos rfl, hap]
      exact ih.1 (fun x hx => ha x (List.mem_cons_of_mem _ hx))

theorem skip_nb {l : B} (b : UInt8) (t : B) (e : l = b :: t) (h : isBl b = false) : skip l = l := by rw [e, skip_id b t h]

theorem va_list (g : B → Ans) (hg : Shr g) (n : Nat) (l : List X) (hn : ∀ y ∈ l, Good n y) (h : ∀ y ∈ l, Reads g y ∨ Deep g y) :
    ((∀ y ∈ l, Reads g y) → Reads (va (some g)) (mkList l)) ∧ (¬ (∀ y ∈ l, Reads g y) → Deep (va (some g)) (mkList l)) := by
  cases l with
  | nil =>
    refine ⟨fun _ r _ => ?_, fun hn => absurd (fun y hy => by simp at hy) hn⟩
    show va (some g) (91 :: 93 :: r) = _
    rfl
  | cons y t =>
    have key : ∀ r, va (some g) ((mkList (y :: t)).form ++ r) = (lix g (joins ((y :: t).map X.form) ++ 93 :: r) []).map fun x => (mkList x.1, x.2) := fun r => by
      have e : (mkList (y :: t)).form ++ r = 91 :: (joins ((y :: t).map X.form) ++ 93 :: r) := by simp [mkList]
      obtain ⟨b, s, hb, h1, h2, _⟩ := form_head n y (hn y (by simp))
      have hj : ∃ s', joins ((y :: t).map X.form) ++ 93 :: r = b :: s' := by
        cases t with
        | nil => exact ⟨s ++ 93 :: r, by rw [List.map_cons, List.map_nil, joins_one, hb]; rfl⟩
        | cons z t => exact ⟨_, by rw [List.map_cons, List.map_cons, joins_two, hb]; rfl⟩
      obtain ⟨s', hj⟩ := hj
      rw [e]
      simp only [va]
      rw [if_neg (by decide), if_neg (by decide), if_neg (by decide), if_neg (by decide), if_pos trivial, skip_nb b s' hj h1]
      rw [hj]
      split
      · rename_i e
        injection e with e _
        exact absurd e h2
      · rfl
    have hb := fun r => li_back g hg (y :: t) [] r (by simp) h
    refine ⟨fun ha r _ => ?_, fun hn r _ => ?_⟩
    · rw [key r, (hb r).1 ha]; rfl
    · rw [key r, (hb r).2 hn]; rfl
theorem va_obj (g : B → Ans) (hg : Shr g) (l : List (B × X)) (hr : Rise (l.map (·.1))) (hv : ∀ m ∈ l, validD m.1 = true) (h : ∀ m ∈ l, Reads g m.2 ∨ Deep g m.2) :
    ((∀ m ∈ l, Reads g m.2) → Reads (va (some g)) (mkObj l)) ∧ (¬ (∀ m ∈ l, Reads g m.2) → Deep (va (some g)) (mkObj l)) := by
  cases l with
  | nil =>
    refine ⟨fun _ r _ => ?_, fun hn => absurd (fun y hy => by simp at hy) hn⟩
    show va (some g) (123 :: 125 :: r) = _
    rfl
  | cons y t =>
    have key : ∀ r, va (some g) ((mkObj (y :: t)).form ++ r) = (obx g (joins ((y :: t).map pairB) ++ 125 :: r) []).map fun x => (mkObj x.1, x.2) := fun r => by
      have e : (mkObj (y :: t)).form ++ r = 123 :: (joins ((y :: t).map pairB) ++ 125 :: r) := by simp [mkObj]
      have hj : ∃ s', joins ((y :: t).map pairB) ++ 125 :: r = 34 :: s' := by
        cases t with
        | nil => exact ⟨_, by rw [List.map_cons, List.map_nil, joins_one]; rfl⟩
        | cons z t => exact ⟨_, by rw [List.map_cons, List.map_cons, joins_two]; rfl⟩
      obtain ⟨s', hj⟩ := hj
      rw [e]
      simp only [va]
      rw [if_neg (by decide), if_neg (by decide), if_neg (by decide), if_neg (by decide), if_neg (by decide), if_pos trivial, skip_nb 34 s' hj (by decide)]
      rw [hj]
      split
      · rename_i e
        injection e with e _
        exact absurd e (by decide)
      · rfl
    have hb := fun r => ob_back g hg (y :: t) [] r (by simp) hr hv h
    refine ⟨fun ha r _ => ?_, fun hn r _ => ?_⟩
    · rw [key r, (hb r).1 ha]; rfl
    · rw [key r, (hb r).2 hn]; rfl

theorem reads_skip {n : Nat} {x : X} {sub : Option (B → Ans)} (hx : Good n x) (h : Reads (va sub) x) : Reads (fun l => va sub (skip l)) x := fun r hr => by
  show va sub (skip _) = _
  rw [skip_form hx, h r hr]
theorem deep_skip {n : Nat} {x : X} {sub : Option (B → Ans)} (hx : Good n x) (h : Deep (va sub) x) : Deep (fun l => va sub (skip l)) x := fun r hr => by
  show va sub (skip _) = _
  rw [skip_form hx, h r hr]

theorem pv_back : ∀ (m n : Nat) (x : X), Good n x → (n ≤ m → Reads (pv m) x) ∧ (Reads (pv m) x ∨ Deep (pv m) x)
  | 0, n, x, h => by
    have hs : Scalar x → Reads (pv 0) x := fun hs => reads_skip h (va_scalar none x hs)
    cases n with
    | zero => exact ⟨fun _ => hs h, .inl (hs h)⟩
    | succ n =>
      rcases id h with h' | ⟨l, rfl, hl⟩ | ⟨l, rfl, hl⟩
      · exact ⟨fun _ => hs h', .inl (hs h')⟩
      · exact ⟨fun h => by omega, .inr (deep_skip h fun r _ => rfl)⟩
      · exact ⟨fun h => by omega, .inr (deep_skip h fun r _ => rfl)⟩
  | m + 1, n, x, h => by
    have hs : Scalar x → Reads (pv (m + 1)) x := fun hs => reads_skip h (va_scalar _ x hs)
    cases n with
    | zero => exact ⟨fun _ => hs h, .inl (hs h)⟩
    | succ n =>
      rcases id h with h' | ⟨l, rfl, hl⟩ | ⟨l, rfl, hr, hl⟩
      · exact ⟨fun _ => hs h', .inl (hs h')⟩
      · have ih := fun y hy => pv_back m n y (hl y hy)
        obtain ⟨a1, a2⟩ := va_list (pv m) (pv_shr m) n l hl (fun y hy => (ih y hy).2)
        refine ⟨fun hle => reads_skip h (a1 fun y hy => (ih y hy).1 (by omega)), ?_⟩
        by_cases hall : ∀ y ∈ l, Reads (pv m) y
        · exact .inl (reads_skip h (a1 hall))
        · exact .inr (deep_skip h (a2 hall))
      · have ih := fun k hk => pv_back m n (k : B × X).2 (hl k hk).2
        obtain ⟨a1, a2⟩ := va_obj (pv m) (pv_shr m) l hr (fun k hk => (hl k hk).1) (fun k hk => (ih k hk).2)
        refine ⟨fun hle => reads_skip h (a1 fun y hy => (ih y hy).1 (by omega)), ?_⟩
        by_cases hall : ∀ k ∈ l, Reads (pv m) k.2
        · exact .inl (reads_skip h (a1 hall))
        · exact .inr (deep_skip h (a2 hall))

/-- A form's form is the same. -/
theorem of_form (x : X) (h : Good 8 x) (hl : x.form.length ≤ 400) : of x.form = .ok x := by
  have := (pv_back 8 8 x h).1 (Nat.le_refl _) [] tok_nil
  rw [List.append_nil] at this
  unfold of
  rw [if_neg (by omega), this]
  rfl
theorem of_again (s : B) (x : X) (h : of s = .ok x) : of x.form = .ok x := by
  obtain ⟨h1, h2, h3⟩ := of_bd s x h
  exact of_form x h3 (by omega)

/-- In which order two members stand makes no other form. -/
theorem of_order (x y : X) (hx : Good 8 x) (hy : Good 8 y) :
    of ([123, 34, 120, 34, 58] ++ x.form ++ [44, 34, 121, 34, 58, 32] ++ y.form ++ [125]) = of ([123, 34, 121, 34, 32, 58] ++ y.form ++ [44, 34, 120, 34, 58] ++ x.form ++ [125]) := by
  have hl : ([123, 34, 120, 34, 58] ++ x.form ++ [44, 34, 121, 34, 58, 32] ++ y.form ++ [125]).length = ([123, 34, 121, 34, 32, 58] ++ y.form ++ [44, 34, 120, 34, 58] ++ x.form ++ [125]).length := by
    simp only [List.length_append, List.length_cons, List.length_nil]; omega
  unfold of
  rw [hl]
  split
  · rfl
  · have c1 := (pv_back 7 8 x hx).2
    have c2 := (pv_back 7 8 y hy).2
    have hsx := fun r => skip_form hx r
    have hsy := fun r => skip_form hy r
    have t44 : ∀ T : B, tok (44 :: T) := fun T => tok_cons 44 T (by decide)
    have t125 : tok [125] := tok_cons 125 [] (by decide)
    have e0 : ∀ T : B, pv 8 (123 :: 34 :: T) = (obx (pv 7) (34 :: T) []).map fun x => (mkObj x.1, x.2) := fun T => rfl
    have e1 : ∀ (c : UInt8) (T : B) (acc : List (B × X)), c ≠ 34 → c ≠ 92 → 32 ≤ c.toNat → c.toNat < 128 → [c] ∉ acc.map (·.1) → obx (pv 7) (34 :: c :: 34 :: T) acc = (match skip T with
          | 58 :: r1 => (match pv 7 r1 with
            | .error e => .error e
            | .ok (x, r2) => match skip r2 with
              | 44 :: r3 => obx (pv 7) r3 (ins acc [c] x)
              | 125 :: r3 => .ok (ins acc [c] x, r3)
              | _ => .error 3)
          | _ => .error 3) := fun c T acc h1 h2 h3 h4 hni => by
      have ht : txx (c :: 34 :: T) [] = some ([c], T) := by
        rw [txx_plain c _ [] h1 h2 (by rw [decodeL_ascii c _ h4]; dsimp only; omega), decodeL_ascii c _ h4]
        simp only [List.drop_succ_cons, List.drop_zero, List.take_succ_cons, List.take_zero]
        rw [txx_end]
        rfl
      rw [obx_eq (pv 7) (pv_shr 7), skip_id 34 _ (by decide)]
      simp only [ht]
      rw [if_neg hni]
      rfl
    have ps : ∀ (T : B), pv 7 (32 :: T) = pv 7 T := fun T => rfl
    have hA : pv 8 ([123, 34, 120, 34, 58] ++ x.form ++ [44, 34, 121, 34, 58, 32] ++ y.form ++ [125]) =
        (match pv 7 (x.form ++ 44 :: 34 :: 121 :: 34 :: 58 :: 32 :: (y.form ++ [125])) with
          | .error e => .error e
          | .ok (x', r2) => match skip r2 with
              | 44 :: r3 => obx (pv 7) r3 (ins [] [120] x')
              | 125 :: r3 => .ok (ins [] [120] x', r3)
              | _ => .error 3 : Except Nat (List (B × X) × B)).map fun x => (mkObj x.1, x.2) := by
      rw [show [123, 34, 120, 34, 58] ++ x.form ++ [44, 34, 121, 34, 58, 32] ++ y.form ++ [125] = 123 :: 34 :: 120 :: 34 :: 58 :: (x.form ++ 44 :: 34 :: 121 :: 34 :: 58 :: 32 :: (y.form ++ [125])) by simp, e0,
        e1 120 _ [] (by decide) (by decide) (by decide) (by decide) (by simp), skip_id 58 _ (by decide)]
      rfl
    have hB : pv 8 ([123, 34, 121, 34, 32, 58] ++ y.form ++ [44, 34, 120, 34, 58] ++ x.form ++ [125]) =
        (match pv 7 (y.form ++ 44 :: 34 :: 120 :: 34 :: 58 :: (x.form ++ [125])) with
          | .error e => .error e
          | .ok (x', r2) => match skip r2 with
              | 44 :: r3 => obx (pv 7) r3 (ins [] [121] x')
              | 125 :: r3 => .ok (ins [] [121] x', r3)
              | _ => .error 3 : Except Nat (List (B × X) × B)).map fun x => (mkObj x.1, x.2) := by
      rw [show [123, 34, 121, 34, 32, 58] ++ y.form ++ [44, 34, 120, 34, 58] ++ x.form ++ [125] = 123 :: 34 :: 121 :: 34 :: 32 :: 58 :: (y.form ++ 44 :: 34 :: 120 :: 34 :: 58 :: (x.form ++ [125])) by simp, e0,
        e1 121 _ [] (by decide) (by decide) (by decide) (by decide) (by simp)]
      rfl
    rw [hA, hB]
    rcases c1 with c1 | c1
    · rw [c1 _ (t44 _)]
      simp only [skip_id 44 _ (by decide : isBl 44 = false)]
      rw [e1 121 _ _ (by decide) (by decide) (by decide) (by decide) (by simp [ins]), skip_id 58 _ (by decide)]
      simp only [ps]
      rcases c2 with c2 | c2
      · rw [c2 _ t125, c2 _ (t44 _)]
        simp only [skip_id 44 _ (by decide : isBl 44 = false), skip_id 125 _ (by decide : isBl 125 = false)]
        rw [e1 120 _ _ (by decide) (by decide) (by decide) (by decide) (by simp [ins]), skip_id 58 _ (by decide)]
        simp only [c1 _ t125, skip_id 125 _ (by decide : isBl 125 = false)]
        rfl
      · rw [c2 _ t125, c2 _ (t44 _)]
    · rw [c1 _ (t44 _)]
      rcases c2 with c2 | c2
      · rw [c2 _ (t44 _)]
        simp only [skip_id 44 _ (by decide : isBl 44 = false)]
        rw [e1 120 _ _ (by decide) (by decide) (by decide) (by decide) (by simp [ins]), skip_id 58 _ (by decide)]
        simp only [c1 _ t125]
      · rw [c2 _ (t44 _)]

/-- A string of right signs, quoted, is the form of a value that has these signs. -/
theorem of_quote (t : B) (hv : validD t = true) (h : (quote t).length ≤ 400) : of (quote t) = .ok (mkText t) := of_form (mkText t) (Good.scalar (.inr (.inr (.inr ⟨t, hv, rfl⟩)))) h
end Js
end Go.Proofs.YtpeioecpilmpiaaGreatDoor
