/-
  CrcBursts: for any text, place and bits the law answers true, and the arguments read behind the call as before. No condition.
-/
import Derived.Test.YtojcocbfgfgklaaT1
import Derived.Laws.IdiomStrings
namespace Go.Proofs.Ytojcocbfgfgklaa
open Go.ChangeShapes Go.WideShapes Go.ChangeAt Go.RowKit
open Go.ChangeMaps (open_string shut_string)

/-- A block's first cells are these bytes, and may be written. -/
def Row (w : World) (g : Nat) (l : List UInt8) : Prop :=
  ∀ j (h : j < l.length), w.cell? ⟨g, j, none⟩ = some (.int .u8 (l[j].toNat : Int)) ∧ w.frozen? ⟨g, j, none⟩ = false

theorem Row.new (w : World) (s : ByteArray) (cap : Nat) :
    Row (w.drew.alloc (.cells (bytesRow s cap) 5 ((bytesRow s cap).size, (bytesRow s cap).size + 1))) w.heap.size s.data.toList := by
  intro j hj
  have hj' : j < s.data.size := by simpa using hj
  have hb : j < (bytesRow s cap).size := by
    unfold bytesRow
    simp
    have : s.size = s.data.size := rfl
    omega
  constructor
  · have h1 : (w.drew.alloc (.cells (bytesRow s cap) 5 ((bytesRow s cap).size, (bytesRow s cap).size + 1))).cell? ⟨w.heap.size, j, none⟩ = (bytesRow s cap)[j]? := World.cell?_alloc_mark w.drew _ _ _ j
    rw [h1, bytesRow_at s cap j hj']
    simp
  · have h1 : (w.drew.alloc (.cells (bytesRow s cap) 5 ((bytesRow s cap).size, (bytesRow s cap).size + 1))).frozen? ⟨w.heap.size, j, none⟩ = (decide ((bytesRow s cap).size ≤ j) && decide (j < (bytesRow s cap).size + 1)) := World.frozen?_alloc_mark w.drew _ _ _ _ j
    rw [h1, decide_eq_false (by omega)]
    rfl

theorem Row.drew {w : World} {g : Nat} {l : List UInt8} (h : Row w g l) : Row w.drew g l := h

theorem Row.put {w : World} {g : Nat} {l : List UInt8} (h : Row w g l) (q : Nat) (hq : q < l.length) (c : UInt8) : Row (w.setCell ⟨g, q, none⟩ (.int .u8 (c.toNat : Int))) g (l.set q c) := by
  intro j hj
  have hj' : j < l.length := by simpa using hj
  refine ⟨?_, by rw [World.frozen?_setCell]; exact (h j hj').2⟩
  by_cases e : q = j
  · subst e
    rw [World.cell?_setCell_same _ _ _ (h q hq).1]
    simp
  · rw [World.cell?_setCell_other _ _ _ _ (fun h => e (Addr.mk.inj h).2.1), (h j hj').1]
    rw [List.getElem_set_ne e]

theorem Row.back {w : World} {g : Nat} {l : List UInt8} (h : Row w g l) (n cap : Nat) (hn : l.length = n) : (convert 30 9 (.slice (some ⟨g, 0, none⟩) n cap)).run Try.prog w = .ok (.string ⟨l.toArray⟩) w := by
  subst hn
  refine run_convert_bytes_back w 30 9 5 ⟨g, 0, none⟩ cap l Try.underlying30 Try.underlying5 Try.underlying9 fun j hj => ?_
  rw [add_plain, Nat.zero_add]
  exact (h j hj).1

theorem xor8 (a b : Nat) (ha : a < 256) (hb : b < 256) : bits BinOp.xor IntKind.u8 (a : Int) (b : Int) = ((a ^^^ b : Nat) : Int) := by
  have hx : a ^^^ b < 2 ^ 8 := Nat.xor_lt_two_pow (by omega) (by omega)
  have h1 : (BitVec.ofInt 8 (a : Int)).toNat = a := by
    rw [BitVec.ofInt_natCast, BitVec.toNat_ofNat]; exact Nat.mod_eq_of_lt (by omega)
  have h2 : (BitVec.ofInt 8 (b : Int)).toNat = b := by
    rw [BitVec.ofInt_natCast, BitVec.toNat_ofNat]; exact Nat.mod_eq_of_lt (by omega)
  show IntKind.u8.wrap ((BitVec.ofInt 8 (a : Int) ^^^ BitVec.ofInt 8 (b : Int)).toNat : Int) = _
  rw [BitVec.toNat_xor, h1, h2, IntKind.wrap_u8]
  omega

theorem pow_lt8 (r : Nat) (h : r < 8) : 2 ^ r < 256 := by
  have := Nat.pow_le_pow_right (n := 2) (by omega) (show r ≤ 7 by omega)
  omega

/-- A byte of which one bit is turned. -/
theorem turn8 (b : UInt8) (r : Nat) (h : r < 8) : ∃ c : UInt8, c.toNat = (b.toNat ^^^ 2 ^ r) ∧ bits BinOp.xor IntKind.u8 (b.toNat : Int) (2 ^ r % 256) = (c.toNat : Int) := by
  have hb := b.toNat_lt
  have hp := pow_lt8 r h
  have hx : b.toNat ^^^ 2 ^ r < 256 := Nat.xor_lt_two_pow (n := 8) (by omega) (by omega)
  have e : (UInt8.ofNat (b.toNat ^^^ 2 ^ r)).toNat = (b.toNat ^^^ 2 ^ r) := by
    rw [UInt8.toNat_ofNat', Nat.mod_eq_of_lt (by omega)]
  refine ⟨UInt8.ofNat (b.toNat ^^^ 2 ^ r), e, ?_⟩
  rw [e, ← xor8 _ _ (by omega) hp]
  congr 1
  have : ((2 : Int) ^ r) = ((2 ^ r : Nat) : Int) := by simp
  rw [this]
  exact Int.emod_eq_of_lt (Int.natCast_nonneg _) (Int.ofNat_lt.mpr hp)

theorem bit_is (x k : Nat) (hx : x < 4294967296) : bits BinOp.and IntKind.u32 ((x : Int) / 2 ^ k) 1 = ((x / 2 ^ k % 2 : Nat) : Int) := by
  have e : ((x : Int) / 2 ^ k) = ((x / 2 ^ k : Nat) : Int) := by simp
  rw [e]
  exact and1_32 _ (Nat.lt_of_le_of_lt (Nat.div_le_self _ _) hx)

/-- What holds at each round's head: so many bits were looked at, and those of a are turned. -/
def Turned (s : ByteArray) (f k : Nat) (t : Bool) (l : List UInt8) : Prop :=
  ∃ a : Nat, a < 2 ^ k ∧ (t = true ↔ a ≠ 0) ∧ Cr.st 4294967295 l = (Cr.st 4294967295 s.data.toList ^^^ Cr.gn (8 * s.size - f) a)

theorem Turned.zero (s : ByteArray) (f : Nat) : Turned s f 0 false s.data.toList :=
  ⟨0, by omega, by simp, by rw [Cr.gn_zero, Nat.xor_zero]⟩

theorem Turned.stay {s : ByteArray} {f k : Nat} {t : Bool} {l : List UInt8} (h : Turned s f k t l) : Turned s f (k + 1) t l := by
  obtain ⟨a, h1, h2, h3⟩ := h
  exact ⟨a, by rw [Nat.pow_succ]; omega, h2, h3⟩

theorem Turned.more {s : ByteArray} {f k : Nat} {t : Bool} {l : List UInt8} (h : Turned s f k t l) (hl : l.length = s.size) (hi : f + k < 8 * s.size) (b c : UInt8) (hb : l[(f + k) / 8]? = some b) (hc : c.toNat = (b.toNat ^^^ 2 ^ ((f + k) % 8))) :
    Turned s f (k + 1) true (l.set ((f + k) / 8) c) := by
  obtain ⟨a, h1, h2, h3⟩ := h
  refine ⟨a ^^^ 2 ^ k, Nat.xor_lt_two_pow (by rw [Nat.pow_succ]; omega) (by rw [Nat.pow_succ]; have := Nat.two_pow_pos k; omega), ?_, ?_⟩
  · simp only [true_iff]
    intro he
    have e := congrArg (fun y => y ^^^ 2 ^ k) he
    simp [Nat.xor_assoc] at e
    omega
  · rw [Cr.st_flip l 4294967295 (f + k) (by omega) b c hb hc, h3, hl, Cr.gn_xor, Cr.gn_pow_le k _ (by omega), Nat.xor_assoc]
    congr 3
    omega

theorem Turned.sum {s : ByteArray} {f : Nat} {t : Bool} {l : List UInt8} (h : Turned s f 32 t l) : (((Cr.sum l : Nat) : Int) != ((Cr.sum s.data.toList : Nat) : Int)) = t := by
  obtain ⟨a, h1, h2, h3⟩ := h
  have h4 := Cr.sum_turned s.data.toList l (8 * s.size - f) a (by omega) h3
  cases t with
  | true =>
    have : Cr.sum l ≠ Cr.sum s.data.toList := h4.mpr (h2.mp rfl)
    rw [bne_iff_ne]
    omega
  | false =>
    have : a = 0 := by
      rcases Nat.eq_zero_or_pos a with h | h
      · exact h
      · exact absurd (h2.mpr (by omega)) (by decide)
    have : Cr.sum l = Cr.sum s.data.toList := by
      rcases Nat.decEq (Cr.sum l) (Cr.sum s.data.toList) with h | h
      · exact absurd this (h4.mp h)
      · exact h
    rw [this]
    exact bne_self_eq_false _

set_option maxHeartbeats 1600000 in
set_option maxRecDepth 1000000 in
theorem bursts_in (s : ByteArray) (at_ x : Nat) (w : World) (hs : s.size ≤ 300) (h0 : 0 < s.size) (hc : at_ < 65536) (hx : x < 4294967296) (hx0 : 0 < x) (f : Nat) (hf : (at_ : Int) % (8 * (s.size : Int)) = (f : Int)) (hfl : f < 8 * s.size) :
    Calls Try.prog 4 #[.string s, .int .u16 (at_ : Int), .int .u32 (x : Int)] w fun e w' => e = .returned (.bool true) ∧ Below w.heap.size w w' := by
  have k0 := awake_any w
  have d1 : decide (300 < (s.size : Int)) = false := by simp; omega
  have d2 : ((s.size : Int) == 0) = false := by rw [beq_eq_false_iff_ne]; omega
  have d3 : ((x : Int) == 0) = false := by rw [beq_eq_false_iff_ne]; omega
  go_enter Try.func4, Try.ntmps4
  go_wp2_with (first
    | (go_at_call 6; refine k0.mono ?_; rintro e w1 ⟨rfl, hb1⟩; have hcv := run_bytes_of_string (P := Try.prog) w1 9 30 5 s Try.underlying9 Try.underlying30 Try.underlying5))
  clear hcv d1 d2 d3 hx0 k0
  have hR : Row (w1.alloc (.cells (bytesRow s (grownCap w1 s.size 0 5)) 5 ((bytesRow s (grownCap w1 s.size 0 5)).size, (bytesRow s (grownCap w1 s.size 0 5)).size + 1))).drew w1.heap.size s.data.toList := Row.new w1 s (grownCap w1 s.size 0 5)
  have hB := (hb1.alloc hb1.size (.cells (bytesRow s (grownCap w1 s.size 0 5)) 5 ((bytesRow s (grownCap w1 s.size 0 5)).size, (bytesRow s (grownCap w1 s.size 0 5)).size + 1))).drew
  have hg := hb1.size
  clear hb1
  rw [hf]
  generalize grownCap w1 s.size 0 5 = cap at *
  generalize w1.heap.size = g at *
  generalize (w1.alloc (.cells (bytesRow s cap) 5 ((bytesRow s cap).size, (bytesRow s cap).size + 1))).drew = W0 at *
  clear w1 hf
  have hT := Turned.zero s f
  go_loopg [9, 34] 32 (fun gh v9 v34 wr => ∃ (k : Nat) (t : Bool) (l : List UInt8), 32 - k ≤ gh ∧ k ≤ 32 ∧ l.length = s.size ∧ v9 = .bool t ∧ v34 = .int .i64 (k : Int) ∧ Turned s f k t l ∧ Row wr g l ∧ Below w.heap.size w wr)
  case atStart => exact ⟨0, false, s.data.toList, by omega, by omega, by simp, rfl, rfl, hT, hR, hB⟩
  case round =>
    clear hT hR hB W0
    obtain ⟨k, t, l, hgh, hk, hl, rfl, rfl, hst, hrow, hbel⟩ := hrel
    have H : Aside (Turned s f k t l ∧ Row wr g l ∧ Below w.heap.size w wr) := ⟨hst, hrow, hbel⟩
    clear hst hbel
    by_cases hlt : k < 32
    · have d1 : decide ((k : Int) < 32) = true := by simp; omega
      have hbi := bit_is x k hx
      by_cases hb1 : x / 2 ^ k % 2 = 1
      · have d2 : (bits BinOp.and IntKind.u32 ((x : Int) / 2 ^ k) 1 == 1) = true := by rw [hbi, hb1]; rfl
        clear hbi hb1
        by_cases hb2 : f + k < 8 * s.size
        · obtain ⟨q, hq⟩ : ∃ q, q = (f + k) / 8 := ⟨_, rfl⟩
          obtain ⟨r, hr⟩ : ∃ r, r = (f + k) % 8 := ⟨_, rfl⟩
          have hq1 : ((f : Int) + (k : Int)) / 8 = (q : Int) := by omega
          have hr1 : ((f : Int) + (k : Int)) % 8 = (r : Int) := by omega
          have d3 : decide ((f : Int) + (k : Int) < 8 * (s.size : Int)) = true := by simp; omega
          have hql : q < l.length := by omega
          have c1 := (hrow q hql).1
          have c2 := (hrow q hql).2
          have hr8 : r < 8 := by omega
          obtain ⟨c, hc1, hc2⟩ := turn8 l[q] r hr8
          have N : Aside (Turned s f (k + 1) true (l.set q c) ∧ Row (wr.setCell ⟨g, q, none⟩ (.int .u8 (c.toNat : Int))) g (l.set q c) ∧ Below w.heap.size w (wr.setCell ⟨g, q, none⟩ (.int .u8 (c.toNat : Int)))) := by
            refine ⟨?_, hrow.put q hql c, H.out.2.2.setCell (by exact hg) _⟩
            have h1 := H.out.1.more hl hb2 l[q] c (by rw [← hq]; exact List.getElem?_eq_getElem hql) (by rw [← hr]; exact hc1)
            rw [← hq] at h1
            exact h1
          clear hrow hq hr hb2 H hc1
          go_wp2_with fail
          go_region
          go_wp2
          go_roundg (32 - (k + 1))
          case measure => omega
          case rel =>
            obtain ⟨n1, n2, n3⟩ := N.out
            exact ⟨k + 1, true, l.set q c, Nat.le_refl _, by omega, by simpa using hl, rfl, by go_num, n1, n2.drew, n3.drew⟩
        · have d3 : decide ((f : Int) + (k : Int) < 8 * (s.size : Int)) = false := by simp; omega
          go_wp2
          go_roundg (32 - (k + 1))
          case measure => omega
          case rel => exact ⟨k + 1, t, l, Nat.le_refl _, by omega, hl, rfl, by go_num, H.out.1.stay, H.out.2.1, H.out.2.2⟩
      · have d2 : (bits BinOp.and IntKind.u32 ((x : Int) / 2 ^ k) 1 == 1) = false := by rw [hbi, beq_eq_false_iff_ne]; omega
        clear hbi hb1
        go_wp2
        go_roundg (32 - (k + 1))
        case measure => omega
        case rel => exact ⟨k + 1, t, l, Nat.le_refl _, by omega, hl, rfl, by go_num, H.out.1.stay, H.out.2.1, H.out.2.2⟩
    · obtain rfl : k = 32 := by omega
      have hback := hrow.back s.size cap hl
      have k1 : Aside (∀ u, Calls Try.prog 10 #[.string ⟨l.toArray⟩] u fun e w' => e = .returned (.int .u32 (Cr.sum l : Nat)) ∧ w' = u) := fun u => of_any ⟨l.toArray⟩ u (by show l.toArray.size ≤ _; simp; omega)
      have k2 : Aside (∀ u, Calls Try.prog 10 #[.string s] u fun e w' => e = .returned (.int .u32 (Cr.sum s.data.toList : Nat)) ∧ w' = u) := fun u => of_any s u (by omega)
      have e1 := H.out.1.sum
      clear hrow
      cases t with
      | true =>
        go_wp2_with (first
          | (go_at_call 10; refine (k1.out _).mono ?_; rintro e w2 ⟨rfl, rfl⟩; clear k1)
          | (go_at_call 10; refine (k2.out _).mono ?_; rintro e w3 ⟨rfl, rfl⟩))
        go_ret
        exact ⟨rfl, H.out.2.2⟩
      | false =>
        go_wp2_with (first
          | (go_at_call 10; refine (k1.out _).mono ?_; rintro e w2 ⟨rfl, rfl⟩; clear k1)
          | (go_at_call 10; refine (k2.out _).mono ?_; rintro e w3 ⟨rfl, rfl⟩))
        go_ret
        exact ⟨rfl, H.out.2.2⟩

theorem bursts_out (s : ByteArray) (at_ x : Nat) (w : World) (h : 300 < s.size ∨ s.size = 0 ∨ x = 0) :
    Calls Try.prog 4 #[.string s, .int .u16 (at_ : Int), .int .u32 (x : Int)] w fun e w' => e = .returned (.bool true) ∧ Below w.heap.size w w' := by
  have k0 := awake_any w
  by_cases h1 : 300 < s.size
  · have d1 : decide (300 < (s.size : Int)) = true := by simp; omega
    go_enter Try.func4, Try.ntmps4
    go_wp2_with (go_at_call 6; refine k0.mono ?_; rintro e w1 ⟨rfl, hb1⟩)
    go_ret
    exact ⟨rfl, hb1⟩
  · have d1 : decide (300 < (s.size : Int)) = false := by simp; omega
    by_cases h2 : s.size = 0
    · have d2 : ((s.size : Int) == 0) = true := by rw [h2]; rfl
      clear h2 h h1
      go_enter Try.func4, Try.ntmps4
      go_wp2_with (go_at_call 6; refine k0.mono ?_; rintro e w1 ⟨rfl, hb1⟩)
      go_ret
      exact ⟨rfl, hb1⟩
    · have d2 : ((s.size : Int) == 0) = false := by rw [beq_eq_false_iff_ne]; omega
      obtain rfl : x = 0 := by omega
      clear h2 h h1
      go_enter Try.func4, Try.ntmps4
      go_wp2_with (go_at_call 6; refine k0.mono ?_; rintro e w1 ⟨rfl, hb1⟩)
      go_ret
      exact ⟨rfl, hb1⟩

theorem bursts_any (s : ByteArray) (at_ x : Nat) (w : World) (hc : at_ < 65536) (hx : x < 4294967296) :
    Calls Try.prog 4 #[.string s, .int .u16 (at_ : Int), .int .u32 (x : Int)] w fun e w' => e = .returned (.bool true) ∧ Below w.heap.size w w' := by
  by_cases h : 300 < s.size ∨ s.size = 0 ∨ x = 0
  · exact bursts_out s at_ x w h
  · exact bursts_in s at_ x w (by omega) (by omega) hc hx (by omega) (at_ % (8 * s.size)) (by simp) (Nat.mod_lt _ (by omega))

set_option maxRecDepth 100000 in
theorem crcBursts_lifted (os : Os) (started : os.Started) (H : Type) (enc : TypeId × Value → H) :
    ReturnsInHanded {} Try.checked os 4 .any (Rows.crcBurstsSpec.pre6 enc Try.prog Try.f4 Rows.crcBurstsRow.domain false) (Rows.crcBurstsSpec.post enc Try.prog Try.f4 false true false false) := by
  refine returnsInHanded_of_change (C := Try.checked) own started (by kernel_rfl) Try.func4
    (ChangeSpec.witness6 (enc := enc) (C := Try.checked) false ⟨#[], #[.string ByteArray.empty, .int .u16 0, .int .u32 0], []⟩ 8 (by kernel_rfl) (by kernel_rfl) (by kernel_rfl) (by kernel_rfl)) ?_
  intro W base args ds gs before hval0 hW _ _
  have hval : ∀ (j : Nat) t v, Try.f4.params[j]? = some t → args[j]? = some v → Value.okWide Try.prog W .any base t v := hval0
  have hW' := hW
  obtain ⟨p, q, hA0, hV, rfl, hfz, hnd⟩ := hW
  have hA : DataW.TrodAll enc Try.prog W 0 (fun _ => true) true Try.f4.params.toList args.toList ds p := hA0
  rw [Try.params4] at hA hval
  obtain ⟨v0, vs0, d0, ds0, p0, q0, hargs, rfl, rfl, h0, r0⟩ := trodAll_cons hA
  obtain ⟨v1, vs1, d1, ds1, p1, q1, rfl, rfl, rfl, h1, r1⟩ := trodAll_cons r0
  obtain ⟨v2, vs2, d2, ds2, p2, q2, rfl, rfl, rfl, h2, r2⟩ := trodAll_cons r1
  obtain ⟨rfl, rfl, rfl⟩ := trodAll_nil r2
  obtain rfl : args = #[v0, v1, v2] := by cases args; simp_all
  obtain ⟨rfl, rfl⟩ := trodVars_none hV
  obtain ⟨s0, rfl, rfl, rfl, w0⟩ := open_string Try.underlying9 (hval 0 9 v0 rfl rfl) h0
  obtain ⟨a1, rfl, rfl, rfl, w1⟩ := open_int Try.underlying22 (hval 1 22 v1 rfl rfl) h1
  obtain ⟨a2, rfl, rfl, rfl, w2⟩ := open_int Try.underlying23 (hval 2 23 v2 rfl rfl) h2
  clear hA0 hval0
  obtain ⟨c, hc, rfl⟩ := u16_nat w1
  obtain ⟨x, hx, rfl⟩ := u32_nat w2
  refine (bursts_any s0 c x W hc hx).mono fun e W' ⟨he, bel⟩ => ?_
  subst he
  exact ⟨_, rfl, _, _, _, [], _, [], hW', trodAll_mk1 (shut_bool Try.underlying4 _), trodAll_cons_mk (shut_string Try.underlying9 w0) (trodAll_cons_mk (shut_int Try.underlying22 w1) (trodAll_cons_mk (shut_int Try.underlying23 w2) trodAll_mk0)), rfl, bel.frame _, fun h => by cases h⟩

theorem crcBursts_holds : Rows.CrcBurstsSaid :=
  OpenClaim.holds_of_wide 4 Try.f4 rfl rfl rfl rfl rfl rfl rfl ⟨rfl, rfl, rfl, rfl, rfl⟩ rfl rfl rfl rfl rfl (by kernel_rfl) Try.func4 (by kernel_rfl)
    (of_decide_eq_true (by kernel_rfl)) (by unfold Func.isWrapper; first | (rw [if_pos (by decide +kernel)]; kernel_rfl) | (rw [if_neg (by decide +kernel)]; exact ⟨rfl, rfl⟩))
    (fun os started H enc _ => crcBursts_lifted os started H enc)
#print axioms crcBursts_holds
end Go.Proofs.Ytojcocbfgfgklaa
