/-
  FrameRot's walk.
-/
import Derived.Test.YtknobijonpdbbaaD1
import Derived.Laws.IdiomStrings
import Derived.WideShapes
namespace Go.Proofs.Ytknobijonpdbbaa
open Go.ChangeShapes Go.WideShapes Go.ChangeAt Go.RowKit
open Go.ChangeMaps (open_string shut_string)
/-- A block's first cells are these bytes, and may be written. -/
def Row (w : World) (g : Nat) (l : List UInt8) : Prop :=
  ∀ j (h : j < l.length), w.cell? ⟨g, j, none⟩ = some (.int .u8 (l[j].toNat : Int)) ∧ w.frozen? ⟨g, j, none⟩ = false

theorem Row.new (w : World) (s : ByteArray) (cap : Nat) :
    Row (w.drew.alloc (.cells (bytesRow s cap) 5 ((bytesRow s cap).size, (bytesRow s cap).size + 1))) w.heap.size s.data.toList := by
  intro j hj
  have hj' : j < s.data.size := by simpa using hj
  have hb : j < (bytesRow s cap).size := by
    unfold bytesRow
    simp
    have : s.size = s.data.size := rfl
    omega
  constructor
  · have h1 : (w.drew.alloc (.cells (bytesRow s cap) 5 ((bytesRow s cap).size, (bytesRow s cap).size + 1))).cell? ⟨w.heap.size, j, none⟩ = (bytesRow s cap)[j]? := World.cell?_alloc_mark w.drew _ _ _ j
    rw [h1, bytesRow_at s cap j hj']
    simp
  · have h1 : (w.drew.alloc (.cells (bytesRow s cap) 5 ((bytesRow s cap).size, (bytesRow s cap).size + 1))).frozen? ⟨w.heap.size, j, none⟩ = (decide ((bytesRow s cap).size ≤ j) && decide (j < (bytesRow s cap).size + 1)) := World.frozen?_alloc_mark w.drew _ _ _ _ j
    rw [h1, decide_eq_false (by omega)]
    rfl

theorem Row.put {w : World} {g : Nat} {l : List UInt8} (h : Row w g l) (q : Nat) (hq : q < l.length) (c : UInt8) : Row (w.setCell ⟨g, q, none⟩ (.int .u8 (c.toNat : Int))) g (l.set q c) := by
  intro j hj
  have hj' : j < l.length := by simpa using hj
  refine ⟨?_, by rw [World.frozen?_setCell]; exact (h j hj').2⟩
  by_cases e : q = j
  · subst e
    rw [World.cell?_setCell_same _ _ _ (h q hq).1]
    simp
  · rw [World.cell?_setCell_other _ _ _ _ (fun h => e (Addr.mk.inj h).2.1), (h j hj').1]
    rw [List.getElem_set_ne e]

theorem Row.back {w : World} {g : Nat} {l : List UInt8} (h : Row w g l) (n cap : Nat) (hn : l.length = n) : (convert 35 9 (.slice (some ⟨g, 0, none⟩) n cap)).run Try.prog w = .ok (.string (bs l)) w := by
  subst hn
  refine run_convert_bytes_back w 35 9 5 ⟨g, 0, none⟩ cap l Try.underlying35 Try.underlying5 Try.underlying9 fun j hj => ?_
  rw [Go.WideShapes.add_plain, Nat.zero_add]
  exact (h j hj).1

theorem xor8 (a b : Nat) (ha : a < 256) (hb : b < 256) : bits BinOp.xor IntKind.u8 (a : Int) (b : Int) = ((a ^^^ b : Nat) : Int) := by
  have hx : a ^^^ b < 2 ^ 8 := Nat.xor_lt_two_pow (by omega) (by omega)
  have h1 : (BitVec.ofInt 8 (a : Int)).toNat = a := by
    rw [BitVec.ofInt_natCast, BitVec.toNat_ofNat]; exact Nat.mod_eq_of_lt (by omega)
  have h2 : (BitVec.ofInt 8 (b : Int)).toNat = b := by
    rw [BitVec.ofInt_natCast, BitVec.toNat_ofNat]; exact Nat.mod_eq_of_lt (by omega)
  show IntKind.u8.wrap ((BitVec.ofInt 8 (a : Int) ^^^ BitVec.ofInt 8 (b : Int)).toNat : Int) = _
  rw [BitVec.toNat_xor, h1, h2, IntKind.wrap_u8]
  omega
/-- A byte that is turned. -/
theorem turned (x y : UInt8) (hy : y ≠ 0) : bits BinOp.xor IntKind.u8 (x.toNat : Int) (y.toNat : Int) = ((x ^^^ y).toNat : Int) ∧ x ^^^ y ≠ x := by
  refine ⟨by rw [xor8 _ _ x.toNat_lt y.toNat_lt, UInt8.toNat_xor], fun e => hy ?_⟩
  have := congrArg (fun z => x ^^^ z) e
  simpa [← UInt8.xor_assoc] using this

theorem rot_no (v : Value) (L : List ByteArray) (at_ : Int) (y : UInt8) (w : World) (hv : Strs w.heap.size v L w) (h : ¬ okL L) :
    Calls Try.prog 7 #[v, .int .i64 at_, .int .u8 (y.toNat : Int)] w fun e w' => e = .returned (.bool true) ∧ Below w.heap.size w w' := by
  have k0 := awake_any w
  have k1 : Aside (∀ u : World, Below w.heap.size w u → _) := fun (u : World) (hu : Below w.heap.size w u) => whole_any v L u ((hv.later hu).wider hu.size)
  have HN := asd h
  clear h hv
  go_enter Try.func7, Try.ntmps7
  go_wp2_with (first
    | (go_at_call 8; refine k0.mono ?_; rintro e w1 ⟨rfl, hb1⟩; clear k0)
    | (go_at_call 9; refine (k1.out _ hb1).mono ?_; rintro e w2 ⟨hb2, h2⟩; obtain ⟨_, rfl⟩ := h2.resolve_left (fun h => HN.out h.1); clear h2 k1))
  go_ret
  exact ⟨rfl, hb1.trans (hb2.mono hb1.size)⟩

theorem rot_out (v : Value) (L : List ByteArray) (at_ : Int) (y : UInt8) (w : World) (hv : Strs w.heap.size v L w) (h : okL L) (hl : at_ < 0 ∨ ((Fr.mks (lists L)).length : Int) ≤ at_ ∨ y = 0) :
    Calls Try.prog 7 #[v, .int .i64 at_, .int .u8 (y.toNat : Int)] w fun e w' => e = .returned (.bool true) ∧ Below w.heap.size w w' := by
  have k0 := awake_any w
  have k1 : Aside (∀ u : World, Below w.heap.size w u → _) := fun (u : World) (hu : Below w.heap.size w u) => whole_any v L u ((hv.later hu).wider hu.size)
  have HY := asd h
  have zs : (bs (Fr.mks (lists L))).size = (Fr.mks (lists L)).length := bs_size _
  clear h hv
  rw [← zs] at hl
  clear zs
  by_cases h0 : at_ < 0
  · have d0 : decide (at_ < 0) = true := by simpa using h0
    go_enter Try.func7, Try.ntmps7
    go_wp2_with (first
      | (go_at_call 8; refine k0.mono ?_; rintro e w1 ⟨rfl, hb1⟩; clear k0)
      | (go_at_call 9; refine (k1.out _ hb1).mono ?_; rintro e w2 ⟨hb2, h2⟩; obtain ⟨_, ve, rfl, ho⟩ := h2.resolve_right (fun h => h.1 HY.out); clear h2 k1 ho))
    go_ret
    exact ⟨rfl, hb1.trans (hb2.mono hb1.size)⟩
  · have d0 : decide (at_ < 0) = false := by simpa using h0
    by_cases h1 : ((bs (Fr.mks (lists L))).size : Int) ≤ at_
    · have d1 : decide (((bs (Fr.mks (lists L))).size : Int) ≤ at_) = true := by simpa using h1
      go_enter Try.func7, Try.ntmps7
      go_wp2_with (first
        | (go_at_call 8; refine k0.mono ?_; rintro e w1 ⟨rfl, hb1⟩; clear k0)
        | (go_at_call 9; refine (k1.out _ hb1).mono ?_; rintro e w2 ⟨hb2, h2⟩; obtain ⟨_, ve, rfl, ho⟩ := h2.resolve_right (fun h => h.1 HY.out); clear h2 k1 ho))
      go_ret
      exact ⟨rfl, hb1.trans (hb2.mono hb1.size)⟩
    · have d1 : decide (((bs (Fr.mks (lists L))).size : Int) ≤ at_) = false := by simpa using h1
      obtain rfl := (hl.resolve_left h0).resolve_left h1
      have ey : ((0 : UInt8).toNat : Int) = 0 := rfl
      rw [ey]
      go_enter Try.func7, Try.ntmps7
      go_wp2_with (first
        | (go_at_call 8; refine k0.mono ?_; rintro e w1 ⟨rfl, hb1⟩; clear k0)
        | (go_at_call 9; refine (k1.out _ hb1).mono ?_; rintro e w2 ⟨hb2, h2⟩; obtain ⟨_, ve, rfl, ho⟩ := h2.resolve_right (fun h => h.1 HY.out); clear h2 k1 ho))
      go_ret
      exact ⟨rfl, hb1.trans (hb2.mono hb1.size)⟩

/-- The world in which a text's bytes lie in a block of their own. -/
abbrev rowW (w : World) (A : ByteArray) : World := w.alloc (.cells (bytesRow A (grownCap w A.size 0 5)) 5 ((bytesRow A (grownCap w A.size 0 5)).size, (bytesRow A (grownCap w A.size 0 5)).size + 1))

theorem rot_facts (L : List ByteArray) (h : okL L) (i k : Nat) (c : UInt8) (hk : k < L.length) (h1 : Fr.en (lists L) k ≤ i) (h2 : i < Fr.en (lists L) (k + 1)) (hc : (Fr.mks (lists L))[i]? ≠ some c) :
    Fr.spx ((Fr.mks (lists L)).set i c) [] 0 = ((lists L).take k, Fr.en (lists L) k, 4) :=
  Fr.split_rot (lists L) (okL_lists h) i k c (by simpa [lists] using hk) h1 h2 hc

set_option maxHeartbeats 1600000 in
set_option maxRecDepth 1000000 in
theorem rot_yes (v : Value) (L : List ByteArray) (i : Nat) (y : UInt8) (w : World) (hv : Strs w.heap.size v L w) (hcap : ∀ a n c, v = .slice a n c → n ≤ c) (h : okL L) (hi : i < (Fr.mks (lists L)).length) (x : UInt8) (hx0 : (Fr.mks (lists L))[i]? = some x) (hy : y ≠ 0) :
    Calls Try.prog 7 #[v, .int .i64 (i : Int), .int .u8 (y.toNat : Int)] w fun e w' => e = .returned (.bool true) ∧ Below w.heap.size w w' := by
  have k0 := awake_any w
  have k1 : Aside (∀ u : World, Below w.heap.size w u → _) := fun (u : World) (hu : Below w.heap.size w u) => whole_any v L u ((hv.later hu).wider hu.size)
  have HV := asd hv
  have HY := asd h
  obtain ⟨a, c, rfl, hc⟩ := hv
  have hcp := hcap a _ c rfl
  have zs : (bs (Fr.mks (lists L))).size = (Fr.mks (lists L)).length := bs_size _
  have hll : (lists L).length = L.length := by simp [lists]
  have h20 := h.1
  have hbig : (Fr.mks (lists L)).length ≤ 20 * 210 := by
    have := en_le (lists L) 200 (fun s hs => by
      simp only [lists, List.mem_map] at hs
      obtain ⟨t, ht, rfl⟩ := hs
      have := h.2 t ht
      rw [list_len]
      exact this) (lists L).length (Nat.le_refl _)
    rw [Fr.en_all] at this
    rw [hll] at this
    omega
  have HI := asd hi
  have hen : Aside (Fr.en (lists L) L.length = (Fr.mks (lists L)).length) := by
    have := Fr.en_all (lists L)
    rw [hll] at this
    exact this
  have RF := asd (fun k => rot_facts L h i k (x ^^^ y))
  obtain ⟨tb, tn⟩ := turned x y hy
  generalize x ^^^ y = z at *
  have TN : Aside ((Fr.mks (lists L))[i]? ≠ some (z)) := fun e => tn (by
    rw [hx0] at e
    exact (Option.some.inj e).symm)
  have d0 : decide ((i : Int) < 0) = false := by simp
  have d1 : decide (((bs (Fr.mks (lists L))).size : Int) ≤ (i : Int)) = false := by simp; omega
  have d2 : ((y.toNat : Int) == 0) = false := by
    rw [beq_eq_false_iff_ne]
    intro e
    exact hy (UInt8.toNat_inj.1 (by have : y.toNat = 0 := by omega
                                    rw [this]; rfl))
  have NR : Aside (∀ u : World, Row (rowW u (bs (Fr.mks (lists L)))) u.heap.size (Fr.mks (lists L))) := fun u => by
    have := Row.new u (bs (Fr.mks (lists L))) (grownCap u (bs (Fr.mks (lists L))).size 0 5)
    rw [bs_list] at this
    exact this
  have NC : Aside (∀ u : World, (rowW u (bs (Fr.mks (lists L)))).cell? ⟨u.heap.size, i, none⟩ = some (.int .u8 (x.toNat : Int)) ∧ (rowW u (bs (Fr.mks (lists L)))).frozen? ⟨u.heap.size, i, none⟩ = false) := fun u => by
    have := NR.out u i HI.out
    have e : (Fr.mks (lists L))[i]'HI.out = x := by
      rw [List.getElem?_eq_getElem HI.out] at hx0
      exact Option.some.inj hx0
    rw [e] at this
    exact this
  have di : decide ((i : Int) < ((bs (Fr.mks (lists L))).size : Int)) = true := by simp; omega
  have di2 : i < (bs (Fr.mks (lists L))).size := by omega
  have hbig2 : (bs (Fr.mks (lists L))).size ≤ 4200 := by omega
  clear h hc hcap tn hx0 zs hi hbig hll
  go_enter Try.func7, Try.ntmps7
  go_wp2_with (first
    | (go_at_call 8; refine k0.mono ?_; rintro e w1 ⟨rfl, hb1⟩; clear k0)
    | (go_at_call 9; refine (k1.out _ hb1).mono ?_; rintro e w2 ⟨hb2, h2⟩; obtain ⟨_, ve, rfl, ho⟩ := h2.resolve_right (fun h => h.1 HY.out); obtain ⟨ae, ce, rfl, hce⟩ := ints_of ho (ends_len _ _); have hcv := run_bytes_of_string (P := Try.prog) w2 9 35 5 (bs (Fr.mks (lists L))) Try.underlying9 Try.underlying35 Try.underlying5; obtain ⟨hr1, hr2⟩ := NC.out w2; clear h2 k1 ho))
  have hB2 := hb2.size
  have F4 : Aside (Row ((rowW w2 (bs (Fr.mks (lists L)))).setCell ⟨w2.heap.size, i, none⟩ (.int .u8 ((z).toNat : Int))).drew w2.heap.size ((Fr.mks (lists L)).set i (z)) ∧ Below w2.heap.size w2 ((rowW w2 (bs (Fr.mks (lists L)))).setCell ⟨w2.heap.size, i, none⟩ (.int .u8 ((z).toNat : Int))).drew) := by
    refine ⟨?_, (((Below.refl _ _).alloc (Nat.le_refl _) _).setCell (Nat.le_refl _) _).drew⟩
    exact (NR.out w2).put i HI.out (z)
  generalize ((rowW w2 (bs (Fr.mks (lists L)))).setCell ⟨w2.heap.size, i, none⟩ (.int .u8 ((z).toNat : Int))).drew = w4 at *
  clear hcv hr1 hr2 NR NC tb d0 d1 d2 di
  have B4 := asd (show Below w.heap.size w w4 from (hb1.trans (hb2.mono hb1.size)).trans (F4.out.2.mono (Nat.le_trans hb1.size hB2)))
  have hce4 : Aside (∀ j, j < L.length → ∃ g, ae = some ⟨g, 0, none⟩ ∧ w4.cell? ⟨g, j, none⟩ = some (.int .i64 ((Fr.en (lists L) (j + 1) : Nat) : Int))) := fun j hj => by
    obtain ⟨g, h1, h2, h3⟩ := hce j hj
    have eX : (ends (lists L) L.length).getD j 0 = Fr.en (lists L) (j + 1) := by rw [List.getD_eq_getElem?_getD, ends_at _ _ _ hj]; rfl
    rw [eX] at h3
    exact ⟨g, h1, by rw [F4.out.2.cell (by exact h2)]; exact h3⟩
  clear hce hb1 hb2 hB2
  have zC : ((Fr.mks (lists L)).set i (z)).length = (bs (Fr.mks (lists L))).size := by rw [List.length_set, bs_size]
  have hbk := asd (F4.out.1.back (bs (Fr.mks (lists L))).size (grownCap w2 (bs (Fr.mks (lists L))).size 0 5) zC)
  have F4b : Aside (Below w2.heap.size w2 w4) := F4.out.2
  have zD : Aside ((bs ((Fr.mks (lists L)).set i (z))).size = (bs (Fr.mks (lists L))).size) := by show _ = _; rw [bs_size, zC]
  have LC : Aside ((bs ((Fr.mks (lists L)).set i (z))).data.toList = (Fr.mks (lists L)).set i (z)) := bs_list _
  have TL : Aside (i < Fr.en (lists L) L.length) := by rw [hen.out]; exact HI.out
  clear F4 zC
  go_loopg [11, 12] L.length (fun gh s11 s12 wr => ∃ k : Nat, L.length - k ≤ gh ∧ Aside (CutAt L i k) ∧ s11 = .int .i64 (k : Int) ∧ s12 = .int .i64 (Fr.en (lists L) k : Nat) ∧ wr = w4)
  case atStart => exact ⟨0, by omega, ⟨by omega, by rw [Fr.en_zero]; omega⟩, rfl, by rw [Fr.en_zero]; rfl, rfl⟩
  case round =>
    obtain ⟨k, hgh, C, rfl, rfl, rfl⟩ := hrel
    have hk := C.out.le
    have hp : k < L.length := by
      rcases Nat.lt_or_ge k L.length with h | h
      · exact h
      · exfalso
        have e : k = L.length := by omega
        have h1 := C.out.at_
        have h2 := TL.out
        rw [e] at h1
        omega
    obtain ⟨g, rfl, hcell⟩ := hce4.out k hp
    by_cases hx : Fr.en (lists L) (k + 1) ≤ i
    · have dx : decide (((Fr.en (lists L) (k + 1) : Nat) : Int) ≤ (i : Int)) = true := by simp; omega
      have C2 : Aside (CutAt L i (k + 1)) := ⟨hp, hx⟩
      clear C hbk hce4
      generalize hek : Fr.en (lists L) (k + 1) = ek at *
      have HE := asd hek
      clear hek
      generalize Fr.en (lists L) k = ej at *
      go_wp2
      go_roundg (L.length - (k + 1))
      case measure => omega
      case rel => exact ⟨k + 1, Nat.le_refl _, C2, by go_num, by rw [HE.out], rfl⟩
    · have dx : decide (((Fr.en (lists L) (k + 1) : Nat) : Int) ≤ (i : Int)) = false := by simp; omega
      have cf := RF.out k hp C.out.at_ (by omega) TN.out
      have ks : ∀ u : World, _ := fun u : World => split_any (bs ((Fr.mks (lists L)).set i (z))) u (by have := zD.out; omega)
      rw [LC.out, cf] at ks
      have KS := asd ks
      have em : ((lists L).take k).map bs = L.take k := by rw [List.map_take, bs_lists]
      obtain ⟨a', hsl, hst⟩ := HV.out.cut k hk hcp
      have KV : Aside (∀ u : World, Below w.heap.size w u → Strs u.heap.size (.slice a' k c) (L.take k) u) := fun u hu => (hst.later hu).wider hu.size
      have hlk : (L.take k).length ≤ 1000000 := by rw [List.length_take]; omega
      have hbk2 := hbk.out
      clear ks cf hce4 HV hst RF TN LC zD hbk TL hen
      have e1 : (((Fr.en (lists L) k : Nat) : Int) == ((Fr.en (lists L) k : Nat) : Int)) = true := by simp
      generalize bs ((Fr.mks (lists L)).set i (z)) = D at *
      generalize Fr.en (lists L) (k + 1) = ek at *
      generalize Fr.en (lists L) k = ej at *
      go_wp2_with (first
        | (go_at_call 12; refine (KS.out _).mono ?_; rintro e w3 h3; obtain ⟨v3, rfl, hs3, hb3⟩ := spl_strs h3; have B5 := asd (B4.out.trans (hb3.mono B4.out.size)); have K5 := asd (same_yes v3 (.slice a' k c) (L.take k) w3 (by rw [em] at hs3; exact hs3) (KV.out _ B5.out) hlk); clear hb3 h3 hs3 KS)
        | (go_at_call 13; refine K5.out.mono ?_; rintro e w5 ⟨rfl, hb5⟩; have B6 := asd (B5.out.trans (hb5.mono B5.out.size)); clear hb5))
      go_ret
      exact ⟨rfl, B6.out⟩
end Go.Proofs.Ytknobijonpdbbaa
