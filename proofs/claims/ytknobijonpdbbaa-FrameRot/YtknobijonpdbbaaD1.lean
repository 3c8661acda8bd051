/-
  FrameCut's walk; the first texts of a list; numbers.
-/
import Derived.Test.YtknobijonpdbbaaC2
import Derived.Laws.Slices
namespace Go.Proofs.Ytknobijonpdbbaa
open Go.ChangeShapes Go.WideShapes Go.ChangeAt Go.RowKit
open Go.ChangeMaps (open_string shut_string)
theorem open_cap {H : Type} {enc : TypeId × Value → H} {W : World} {ad : Option Addr} {n cap : Nat} {d : DataW H} {p : List MemPlace} (h : DataW.Trod enc Try.prog W 0 (fun _ => true) true 22 (.slice ad n cap) d p) : n ≤ cap := by
  obtain ⟨fuel, hf⟩ := h
  rcases open_strings Try.underlying22 Try.underlying9 cells9 hf with ⟨hcs, _⟩ | ⟨a, len, cap', ss, hcs, _, hl, _, hm, _, hx, _⟩
  · simp [Value.cells] at hcs
    omega
  · simp [Value.cells] at hcs
    omega

/-- The first k texts of a list, as a slice. -/
theorem Strs.cut {B : Nat} {a : Option Addr} {c : Nat} {L : List ByteArray} {w : World} (h : Strs B (.slice a L.length c) L w) (k : Nat) (hk : k ≤ L.length) (hc : L.length ≤ c) :
    ∃ a', (∀ u : World, (Instr.slice 22 (.slice a L.length c) none (some (.int .i64 (k : Int))) none).run Try.prog u = .ok (.slice a' k c) u) ∧ Strs B (.slice a' k c) (L.take k) w := by
  obtain ⟨a0, c0, e0, h0⟩ := h
  simp only [Value.slice.injEq, true_and] at e0
  obtain ⟨rfl, rfl⟩ := e0
  have hz : ∀ u : World, (sizeOf (Try.prog.elem 22)).run Try.prog u = .ok 1 u := fun u => by kernel_rfl
  refine ⟨if c = 0 then a else a.map (·.add (0 * 1)), fun u => ?_, ?_⟩
  · rw [run_slice_h u 22 a L.length c (by kernel_rfl) .i64 (k : Int) (by omega) (by omega), hz u]
    simp [Result.andThen, sliced]
  · have hlen : (L.take k).length = k := by rw [List.length_take]; omega
    refine ⟨_, c, by rw [hlen], fun j hj => ?_⟩
    rw [hlen] at hj
    obtain ⟨g, o, h1, h2, h3⟩ := h0 j (by omega)
    subst h1
    refine ⟨g, o, ?_, h2, ?_⟩
    · rw [if_neg (by omega)]
      simp [Go.WideShapes.add_plain]
    · rw [h3]
      congr 2
      rw [List.getD_eq_getElem?_getD, List.getD_eq_getElem?_getD, List.getElem?_take, if_pos hj]

/-- What a slice of numbers holds. -/
theorem ints_of {w : World} {base n : Nat} {v : Value} {l : List Nat} (h : w.ownsRow base 3 1 v n (cellsI l)) (hn : l.length = n) : ∃ a c, v = .slice a n c ∧ ∀ j (_hj : j < n), ∃ g, a = some ⟨g, 0, none⟩ ∧ g < w.heap.size ∧ w.cell? ⟨g, j, none⟩ = some (.int .i64 ((l.getD j 0 : Nat) : Int)) := by
  subst hn
  rcases h.2 with ⟨rfl, h0⟩ | ⟨g, cap, cur, rfl, hg, hh, _⟩
  · exact ⟨none, 0, by rw [h0], fun j hj => absurd hj (by omega)⟩
  · refine ⟨_, cap, rfl, fun j hj => ⟨g, rfl, (Array.getElem?_eq_some_iff.1 hh).1, ?_⟩⟩
    rw [h.cellAt j (by omega)]
    simp [cellsI, List.getD, List.getElem?_eq_getElem hj]

theorem cut_no (v : Value) (L : List ByteArray) (left : Int) (w : World) (hv : Strs w.heap.size v L w) (h : ¬ okL L) :
    Calls Try.prog 6 #[v, .int .i64 left] w fun e w' => e = .returned (.bool true) ∧ Below w.heap.size w w' := by
  have k0 := awake_any w
  have k1 : Aside (∀ u : World, Below w.heap.size w u → _) := fun (u : World) (hu : Below w.heap.size w u) => whole_any v L u ((hv.later hu).wider hu.size)
  have HN := asd h
  clear h hv
  go_enter Try.func6, Try.ntmps6
  go_wp2_with (first
    | (go_at_call 8; refine k0.mono ?_; rintro e w1 ⟨rfl, hb1⟩; clear k0)
    | (go_at_call 9; refine (k1.out _ hb1).mono ?_; rintro e w2 ⟨hb2, h2⟩; obtain ⟨_, rfl⟩ := h2.resolve_left (fun h => HN.out h.1); clear h2 k1))
  go_ret
  exact ⟨rfl, hb1.trans (hb2.mono hb1.size)⟩

theorem cut_out (v : Value) (L : List ByteArray) (left : Int) (w : World) (hv : Strs w.heap.size v L w) (h : okL L) (hl : left < 0 ∨ ((Fr.mks (lists L)).length : Int) < left) :
    Calls Try.prog 6 #[v, .int .i64 left] w fun e w' => e = .returned (.bool true) ∧ Below w.heap.size w w' := by
  have k0 := awake_any w
  have k1 : Aside (∀ u : World, Below w.heap.size w u → _) := fun (u : World) (hu : Below w.heap.size w u) => whole_any v L u ((hv.later hu).wider hu.size)
  have HY := asd h
  have zs : (bs (Fr.mks (lists L))).size = (Fr.mks (lists L)).length := bs_size _
  clear h hv
  rw [← zs] at hl
  clear zs
  by_cases h0 : left < 0
  · have d0 : decide (left < 0) = true := by simpa using h0
    go_enter Try.func6, Try.ntmps6
    go_wp2_with (first
      | (go_at_call 8; refine k0.mono ?_; rintro e w1 ⟨rfl, hb1⟩; clear k0)
      | (go_at_call 9; refine (k1.out _ hb1).mono ?_; rintro e w2 ⟨hb2, h2⟩; obtain ⟨_, ve, rfl, ho⟩ := h2.resolve_right (fun h => h.1 HY.out); clear h2 k1 ho))
    go_ret
    exact ⟨rfl, hb1.trans (hb2.mono hb1.size)⟩
  · have d0 : decide (left < 0) = false := by simpa using h0
    have hl2 := hl.resolve_left h0
    have d1 : decide (((bs (Fr.mks (lists L))).size : Int) < left) = true := by simpa using hl2
    go_enter Try.func6, Try.ntmps6
    go_wp2_with (first
      | (go_at_call 8; refine k0.mono ?_; rintro e w1 ⟨rfl, hb1⟩; clear k0)
      | (go_at_call 9; refine (k1.out _ hb1).mono ?_; rintro e w2 ⟨hb2, h2⟩; obtain ⟨_, ve, rfl, ho⟩ := h2.resolve_right (fun h => h.1 HY.out); clear h2 k1 ho))
    go_ret
    exact ⟨rfl, hb1.trans (hb2.mono hb1.size)⟩

/-- So many whole frames, and no more, lie ahead of left. -/
structure CutAt (L : List ByteArray) (left k : Nat) : Prop where
  le : k ≤ L.length
  at_ : Fr.en (lists L) k ≤ left
theorem cut_facts (L : List ByteArray) (h : okL L) (left k : Nat) (hle : left ≤ (Fr.mks (lists L)).length) (c : CutAt L left k) (hn : ∀ _ : k < L.length, left < Fr.en (lists L) (k + 1)) :
    Fr.spx ((bs (Fr.mks (lists L))).extract 0 left).data.toList [] 0 = ((lists L).take k, Fr.en (lists L) k, if Fr.en (lists L) k = left then 0 else 3) := by
  have hll : (lists L).length = L.length := by simp [lists]
  have e : ((bs (Fr.mks (lists L))).extract 0 left).data.toList = (Fr.mks (lists L)).take left := by
    rw [list_cut, bs_list, List.drop_zero]
  rw [e]
  exact Fr.split_cut (lists L) (okL_lists h) left k (by rw [hll]; exact c.le) c.at_ (fun hk => hn (by rw [← hll]; exact hk)) hle

set_option maxHeartbeats 1600000 in
set_option maxRecDepth 1000000 in
theorem cut_yes (v : Value) (L : List ByteArray) (left : Nat) (w : World) (hv : Strs w.heap.size v L w) (hcap : ∀ a n c, v = .slice a n c → n ≤ c) (h : okL L) (hl : left ≤ (Fr.mks (lists L)).length) :
    Calls Try.prog 6 #[v, .int .i64 (left : Int)] w fun e w' => e = .returned (.bool true) ∧ Below w.heap.size w w' := by
  have k0 := awake_any w
  have k1 : Aside (∀ u : World, Below w.heap.size w u → _) := fun (u : World) (hu : Below w.heap.size w u) => whole_any v L u ((hv.later hu).wider hu.size)
  have HV := asd hv
  have HY := asd h
  obtain ⟨a, c, rfl, hc⟩ := hv
  have hcp := hcap a _ c rfl
  have zs : (bs (Fr.mks (lists L))).size = (Fr.mks (lists L)).length := bs_size _
  have h20 := h.1
  have hbig : (Fr.mks (lists L)).length ≤ 20 * 210 := by
    have := en_le (lists L) 200 (fun s hs => by
      simp only [lists, List.mem_map] at hs
      obtain ⟨t, ht, rfl⟩ := hs
      have := h.2 t ht
      rw [list_len]
      exact this) (lists L).length (Nat.le_refl _)
    rw [Fr.en_all] at this
    have hll : (lists L).length = L.length := by simp [lists]
    rw [hll] at this
    omega
  have CF := asd (cut_facts L h left)
  have HL := asd hl
  have d0 : decide ((left : Int) < 0) = false := by simp
  have d1 : decide (((bs (Fr.mks (lists L))).size : Int) < (left : Int)) = false := by simp; omega
  clear h hc hcap
  go_enter Try.func6, Try.ntmps6
  go_wp2_with (first
    | (go_at_call 8; refine k0.mono ?_; rintro e w1 ⟨rfl, hb1⟩; clear k0)
    | (go_at_call 9; refine (k1.out _ hb1).mono ?_; rintro e w2 ⟨hb2, h2⟩; obtain ⟨_, ve, rfl, ho⟩ := h2.resolve_right (fun h => h.1 HY.out); obtain ⟨ae, ce, rfl, hce⟩ := ints_of ho (ends_len _ _); clear h2 k1 ho))
  have B2 := asd (hb1.trans (hb2.mono hb1.size))
  clear hb1 hb2
  go_loopg [8, 9] L.length (fun gh s8 s9 wr => ∃ k : Nat, L.length - k ≤ gh ∧ Aside (CutAt L left k) ∧ s8 = .int .i64 (k : Int) ∧ s9 = .int .i64 (Fr.en (lists L) k : Nat) ∧ wr = w2)
  case atStart => exact ⟨0, by omega, ⟨by omega, by rw [Fr.en_zero]; omega⟩, rfl, by rw [Fr.en_zero]; rfl, rfl⟩
  case round =>
    obtain ⟨k, hgh, C, rfl, rfl, rfl⟩ := hrel
    have hk := C.out.le
    by_cases hp : k < L.length
    · have dk : decide (k < L.length) = true := by simpa using hp
      obtain ⟨g, rfl, hg, hcell⟩ := hce k hp
      have eX : (ends (lists L) L.length).getD k 0 = Fr.en (lists L) (k + 1) := by rw [List.getD_eq_getElem?_getD, ends_at _ _ _ hp]; rfl
      rw [eX] at hcell
      by_cases hx : Fr.en (lists L) (k + 1) ≤ left
      · have dx : decide (((Fr.en (lists L) (k + 1) : Nat) : Int) ≤ (left : Int)) = true := by simp; omega
        have C2 : Aside (CutAt L left (k + 1)) := ⟨hp, hx⟩
        clear C hce
        generalize hek : Fr.en (lists L) (k + 1) = ek at *
        have HE := asd hek
        clear hek
        generalize Fr.en (lists L) k = ej at *
        go_wp2
        go_roundg (L.length - (k + 1))
        case measure => omega
        case rel => exact ⟨k + 1, Nat.le_refl _, C2, by go_num, by rw [HE.out], rfl⟩
      · have dx : decide (((Fr.en (lists L) (k + 1) : Nat) : Int) ≤ (left : Int)) = false := by simp; omega
        have hgt : left < Fr.en (lists L) (k + 1) := by omega
        have cf := CF.out k HL.out C.out (by first | (intro _; omega) | (intro h; exact absurd h (by omega)))
        have ks : ∀ u : World, _ := fun u : World => split_any ((bs (Fr.mks (lists L))).extract 0 left) u (by simp; omega)
        rw [cf] at ks
        have KS := asd ks
        have em : ((lists L).take k).map bs = L.take k := by rw [List.map_take, bs_lists]
        obtain ⟨a', hsl, hst⟩ := HV.out.cut k hk hcp
        have KV : Aside (∀ u : World, Below w.heap.size w u → Strs u.heap.size (.slice a' k c) (L.take k) u) := fun u hu => (hst.later hu).wider hu.size
        have hlk : (L.take k).length ≤ 1000000 := by rw [List.length_take]; omega
        clear ks cf hce CF HV hst
        have e1 : (((Fr.en (lists L) k : Nat) : Int) != ((Fr.en (lists L) k : Nat) : Int)) = false := by simp
        generalize Fr.en (lists L) k = ej at *
        by_cases hj : ej = left
        · subst hj
          have e2 : ((ej : Int) == (ej : Int)) = true := by simp
          simp only [if_true] at KS
          go_wp2_with (first
            | (go_at_call 12; refine (KS.out _).mono ?_; rintro e w3 h3; obtain ⟨v3, rfl, hs3, hb3⟩ := spl_strs h3; have B4 := asd (B2.out.trans (hb3.mono B2.out.size)); have K5 := asd (same_yes v3 (.slice a' k c) (L.take k) w3 (by rw [em] at hs3; exact hs3) (KV.out _ B4.out) hlk); clear hb3 h3 hs3 KS)
            | (go_at_call 13; refine K5.out.mono ?_; rintro e w5 ⟨rfl, hb5⟩; have B5 := asd (B4.out.trans (hb5.mono B4.out.size)); clear hb5))
          go_ret
          exact ⟨rfl, B5.out⟩
        · have e2 : ((ej : Int) == (left : Int)) = false := by rw [beq_eq_false_iff_ne]; omega
          have e3 : ¬ ((ej : Int) = (left : Int)) := by omega
          simp only [if_neg hj] at KS
          go_wp2_with (first
            | (go_at_call 12; refine (KS.out _).mono ?_; rintro e w3 h3; obtain ⟨v3, rfl, hs3, hb3⟩ := spl_strs h3; have B4 := asd (B2.out.trans (hb3.mono B2.out.size)); have K5 := asd (same_yes v3 (.slice a' k c) (L.take k) w3 (by rw [em] at hs3; exact hs3) (KV.out _ B4.out) hlk); clear hb3 h3 hs3 KS)
            | (go_at_call 13; refine K5.out.mono ?_; rintro e w5 ⟨rfl, hb5⟩; have B5 := asd (B4.out.trans (hb5.mono B4.out.size)); clear hb5))
          go_ret
          exact ⟨rfl, B5.out⟩
    · obtain rfl : k = L.length := by omega
      have dk : decide (L.length < L.length) = false := by simp
      have cf := CF.out L.length HL.out C.out (by first | (intro _; omega) | (intro h; exact absurd h (by omega)))
      have ks : ∀ u : World, _ := fun u : World => split_any ((bs (Fr.mks (lists L))).extract 0 left) u (by simp; omega)
      rw [cf] at ks
      have KS := asd ks
      have em : ((lists L).take L.length).map bs = L.take L.length := by rw [List.map_take, bs_lists]
      obtain ⟨a', hsl, hst⟩ := HV.out.cut L.length hk hcp
      have KV : Aside (∀ u : World, Below w.heap.size w u → Strs u.heap.size (.slice a' L.length c) (L.take L.length) u) := fun u hu => (hst.later hu).wider hu.size
      have hlk : (L.take L.length).length ≤ 1000000 := by rw [List.length_take]; omega
      clear ks cf hce CF HV hst
      have e1 : (((Fr.en (lists L) L.length : Nat) : Int) != ((Fr.en (lists L) L.length : Nat) : Int)) = false := by simp
      generalize Fr.en (lists L) L.length = ej at *
      by_cases hj : ej = left
      · subst hj
        have e2 : ((ej : Int) == (ej : Int)) = true := by simp
        simp only [if_true] at KS
        go_wp2_with (first
          | (go_at_call 12; refine (KS.out _).mono ?_; rintro e w3 h3; obtain ⟨v3, rfl, hs3, hb3⟩ := spl_strs h3; have B4 := asd (B2.out.trans (hb3.mono B2.out.size)); have K5 := asd (same_yes v3 (.slice a' L.length c) (L.take L.length) w3 (by rw [em] at hs3; exact hs3) (KV.out _ B4.out) hlk); clear hb3 h3 hs3 KS)
          | (go_at_call 13; refine K5.out.mono ?_; rintro e w5 ⟨rfl, hb5⟩; have B5 := asd (B4.out.trans (hb5.mono B4.out.size)); clear hb5))
        go_ret
        exact ⟨rfl, B5.out⟩
      · have e2 : ((ej : Int) == (left : Int)) = false := by rw [beq_eq_false_iff_ne]; omega
        have e3 : ¬ ((ej : Int) = (left : Int)) := by omega
        simp only [if_neg hj] at KS
        go_wp2_with (first
          | (go_at_call 12; refine (KS.out _).mono ?_; rintro e w3 h3; obtain ⟨v3, rfl, hs3, hb3⟩ := spl_strs h3; have B4 := asd (B2.out.trans (hb3.mono B2.out.size)); have K5 := asd (same_yes v3 (.slice a' L.length c) (L.take L.length) w3 (by rw [em] at hs3; exact hs3) (KV.out _ B4.out) hlk); clear hb3 h3 hs3 KS)
          | (go_at_call 13; refine K5.out.mono ?_; rintro e w5 ⟨rfl, hb5⟩; have B5 := asd (B4.out.trans (hb5.mono B4.out.size)); clear hb5))
        go_ret
        exact ⟨rfl, B5.out⟩
end Go.Proofs.Ytknobijonpdbbaa
