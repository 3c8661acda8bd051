/-
  FrameBack's walk; lists of texts that came in.
-/
import Derived.Test.YtknobijonpdbbaaC1
import Derived.ProofKit
import Derived.OpenShut
import Derived.SliceStrings
namespace Go.Proofs.Ytknobijonpdbbaa
open Go.ChangeShapes Go.WideShapes Go.ChangeAt Go.RowKit
open Go.ChangeMaps (open_string shut_string)
theorem cells9 : Try.prog.cellsOf 9 = 1 := by kernel_rfl
theorem laidOut : laidOutB Try.prog = true := by kernel_rfl

theorem open_names {H : Type} {enc : TypeId × Value → H} {W : World} {ad : Option Addr} {n cap : Nat} {d : DataW H} {p : List MemPlace} (h : DataW.Trod enc Try.prog W 0 (fun _ => true) true 22 (.slice ad n cap) d p) : ∃ L : List ByteArray, Strs W.heap.size (.slice ad n cap) L W := by
  obtain ⟨fuel, hf⟩ := h
  rcases open_strings Try.underlying22 Try.underlying9 cells9 hf with ⟨hcs, _⟩ | ⟨a, len, cap', ss, hcs, _, hl, _, hm, _, hx, _⟩
  · simp [Value.cells] at hcs
    obtain ⟨rfl, rfl, rfl⟩ := hcs
    exact ⟨[], _, _, rfl, fun j hj => absurd hj (by simp)⟩
  · simp [Value.cells] at hcs
    obtain ⟨rfl, rfl, rfl⟩ := hcs
    have hm' : ss.length = cap := by simpa using hm
    have hlen : (ss.take n).length = n := by rw [List.length_take]; omega
    refine ⟨ss.take n, some a, cap, by rw [hlen], fun j hj => ?_⟩
    rw [hlen] at hj
    obtain ⟨g, o, spot⟩ := a
    have h00 := hx 0 (by omega)
    have hspot : spot = none := by simpa [Addr.add] using World.cell?_spot h00
    subst hspot
    have hadd : ∀ k, (⟨g, o, none⟩ : Addr).add k = ⟨g, o + k, none⟩ := fun k => by
      unfold Addr.add
      split
      · simp_all
      · rfl
    have := hx j (by omega)
    rw [hadd] at this
    refine ⟨g, o, rfl, World.block_lt_of_cell? W _ this, ?_⟩
    rw [this]
    congr 2
    rw [List.getD_eq_getElem?_getD, List.getD_eq_getElem?_getD, List.getElem?_take, if_pos hj]
    rfl

theorem bs_lists (L : List ByteArray) : (lists L).map bs = L := by
  simp only [lists, List.map_map]
  conv => rhs; rw [← List.map_id L]
  refine List.map_congr_left fun s _ => ?_
  exact bs_data s

theorem back_no (v : Value) (L : List ByteArray) (w : World) (hv : Strs w.heap.size v L w) (h : ¬ okL L) :
    Calls Try.prog 3 #[v] w fun e w' => e = .returned (.bool true) ∧ Below w.heap.size w w' := by
  have k0 := awake_any w
  have k1 : Aside (∀ u : World, Below w.heap.size w u → _) := fun (u : World) (hu : Below w.heap.size w u) => whole_any v L u ((hv.later hu).wider hu.size)
  have HN := asd h
  clear h hv
  go_enter Try.func3, Try.ntmps3
  go_wp2_with (first
    | (go_at_call 8; refine k0.mono ?_; rintro e w1 ⟨rfl, hb1⟩; clear k0)
    | (go_at_call 9; refine (k1.out _ hb1).mono ?_; rintro e w2 ⟨hb2, h2⟩; obtain ⟨_, rfl⟩ := h2.resolve_left (fun h => HN.out h.1); clear h2 k1))
  go_ret
  exact ⟨rfl, hb1.trans (hb2.mono hb1.size)⟩

set_option maxHeartbeats 1600000 in
set_option maxRecDepth 1000000 in
theorem back_yes (v : Value) (L : List ByteArray) (w : World) (hv : Strs w.heap.size v L w) (h : okL L) :
    Calls Try.prog 3 #[v] w fun e w' => e = .returned (.bool true) ∧ Below w.heap.size w w' := by
  have k0 := awake_any w
  have k1 : Aside (∀ u : World, Below w.heap.size w u → _) := fun (u : World) (hu : Below w.heap.size w u) => whole_any v L u ((hv.later hu).wider hu.size)
  have HV := asd hv
  have HY := asd h
  obtain ⟨a, c, rfl, hc⟩ := hv
  clear h
  go_enter Try.func3, Try.ntmps3
  go_wp2_with (first
    | (go_at_call 8; refine k0.mono ?_; rintro e w1 ⟨rfl, hb1⟩; clear k0)
    | (go_at_call 9; refine (k1.out _ hb1).mono ?_; rintro e w2 ⟨hb2, h2⟩; obtain ⟨_, ve, rfl, ho⟩ := h2.resolve_right (fun h => h.1 HY.out); clear h2 k1 ho))
  have B2 := asd (hb1.trans (hb2.mono hb1.size))
  clear hb1 hb2
  have hle : ∀ k, k ≤ L.length → Fr.en (lists L) k ≤ k * 210 := fun k hk => en_le (lists L) 200 (fun s hs => by
    simp only [lists, List.mem_map] at hs
    obtain ⟨t, ht, rfl⟩ := hs
    have := HY.out.2 t ht
    rw [list_len]
    exact this) k (by simpa [lists] using hk)
  have h20 := HY.out.1
  go_loopg [6, 26] L.length (fun gh s6 s26 wr => ∃ k : Nat, L.length - k ≤ gh ∧ k ≤ L.length ∧ s26 = .int .i64 (k : Int) ∧ s6 = .string (bs (Fr.mks ((lists L).take k))) ∧ Below w2.heap.size w2 wr)
  case atStart => exact ⟨0, by omega, by omega, rfl, rfl, Below.refl _ _⟩
  case round =>
    obtain ⟨k, hgh, hk, rfl, rfl, hbw⟩ := hrel
    have B3 := asd (B2.out.trans (hbw.mono B2.out.size))
    by_cases hp : k < L.length
    · have dk : decide (k < L.length) = true := by simpa using hp
      obtain ⟨g, o, rfl, hg, hcell⟩ := hc k hp
      rw [← B3.out.cell (by exact hg)] at hcell
      have eX : L.getD k ⟨#[]⟩ = L[k] := by rw [List.getD_eq_getElem?_getD, List.getElem?_eq_getElem hp]; rfl
      rw [eX] at hcell
      have hsm := HY.out.2 L[k] (List.getElem_mem _)
      have HS := asd (whole_step L k hp)
      have K := fun u : World => make_any L[k] u (by omega)
      unfold mkS mkE at K
      simp only [if_neg (show ¬ 2000 < L[k].size by omega)] at K
      have KA := asd K
      have k5 : ∀ u : World, _ := fun u : World => size_any (L[k].size : Int) u
      rw [if_neg (by omega)] at k5
      have K5 := asd k5
      have zM : (bs (Fr.mk L[k].data.toList)).size = L[k].size + 10 := by rw [bs_size, Fr.mk_len, list_len]
      have zA : (bs (Fr.mks ((lists L).take k))).size = Fr.en (lists L) k := bs_size _
      have zl := hle k hk
      clear K k5 hc hle
      generalize bs (Fr.mk L[k].data.toList) = M at *
      generalize bs (Fr.mks ((lists L).take k)) = A at *
      generalize L[k] = X at *
      have e1 : ((X.size : Int) + 10 != (M.size : Int)) = false := by rw [zM]; simp
      have e2 : ((X.size : Int) + 10 != ((X.size + 10 : Nat) : Int)) = false := by simp
      go_wp2_with (first
        | (go_at_call 10; refine (KA.out _).mono ?_; rintro e w3 ⟨rfl, hb3⟩; clear KA)
        | (go_at_call 11; refine (K5.out _).mono ?_; rintro e w4 ⟨rfl, rfl⟩; clear K5))
      go_roundg (L.length - (k + 1))
      case measure => omega
      case rel => exact ⟨k + 1, Nat.le_refl _, by omega, by go_num, by rw [HS.out], hbw.trans (hb3.mono hbw.size)⟩
    · obtain rfl : k = L.length := by omega
      have dk : decide (L.length < L.length) = false := by simp
      rw [List.take_of_length_le (by simp [lists])]
      have zs : (bs (Fr.mks (lists L))).size = (Fr.mks (lists L)).length := bs_size _
      have hz := hle L.length (Nat.le_refl _)
      have hen := Fr.en_all (lists L)
      have hll : (lists L).length = L.length := by simp [lists]
      rw [hll] at hen
      have ks : ∀ u : World, _ := fun u : World => split_any (bs (Fr.mks (lists L))) u (by omega)
      rw [bs_list, Fr.split_mks (lists L) (okL_lists HY.out)] at ks
      have KS := asd ks
      have e1 := beq_strs' (rfl : bs (Fr.mks (lists L)) = bs (Fr.mks (lists L)))
      rw [← zs] at KS
      clear ks hc hle hen hz
      generalize bs (Fr.mks (lists L)) = A at *
      have KV : Aside (∀ u : World, Below w.heap.size w u → Strs u.heap.size (.slice a L.length c) L u) := fun u hu => (HV.out.later hu).wider hu.size
      go_wp2_with (first
        | (go_at_call 12; refine (KS.out _).mono ?_; rintro e w3 h3; obtain ⟨v3, rfl, hs3, hb3⟩ := spl_strs h3; have B4 := asd (B3.out.trans (hb3.mono B3.out.size)); have K5 := asd (same_yes v3 (.slice a L.length c) L w3 (by rw [bs_lists] at hs3; exact hs3) (KV.out _ B4.out) (by omega)); clear hb3 h3 hs3 KS)
        | (go_at_call 13; refine K5.out.mono ?_; rintro e w5 ⟨rfl, hb5⟩; have B5 := asd (B4.out.trans (hb5.mono B4.out.size)); clear hb5))
      go_ret
      exact ⟨rfl, B5.out⟩
end Go.Proofs.Ytknobijonpdbbaa
