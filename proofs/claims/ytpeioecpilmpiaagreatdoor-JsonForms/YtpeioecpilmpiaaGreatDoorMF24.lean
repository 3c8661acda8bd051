/-
  YtpeioecpilmpiaaGreatDoor: the texts Q2, QZ, QY, Z0, one behind the other.
-/
import Derived.Test.YtpeioecpilmpiaaGreatDoorMF20
import Derived.Test.YtpeioecpilmpiaaGreatDoorMF23
import Derived.WalkSmall
import Derived.WalkKit
import Derived.WalkSpells
import Derived.WalkLawsBesides
import Derived.Deep.LoopGhost
import Derived.Laws.Externs
import Derived.Below
import Derived.BigQuiet
import Derived.Deep.RegionWith
import Derived.OwnWalk
import Derived.Maps.AppendAt
import Derived.ProofKit
import Derived.OpenShut
import Derived.Stop.Joined
import Derived.Lib.LaidTab
import Derived.Lib.LaidU8
import Derived.Lay
import Derived.MakeChecks
import Derived.Test.YtpeioecpilmpiaaGreatDoorMF10
/-
  JsonQuotes' walk.
-/
namespace Go.Proofs.YtpeioecpilmpiaaGreatDoor
open Go.RowKit
theorem zs_at {s : ByteArray} {k : Nat} (h : k < Si.Sg.len s) : (Si.zs (Si.Sg.sigs s)).getD k 0 = ((Si.Sg.rn s (Si.Sg.pa s k) : Nat) : Int) := by
  simp [Si.zs, List.getD, Si.Sg.sigs_at s k h]
theorem za_at {s : ByteArray} {k : Nat} (h : k < Si.Sg.len s) : (Si.zs (Si.Sg.ats s)).getD k 0 = ((Si.Sg.pa s k : Nat) : Int) := by
  simp [Si.zs, List.getD, Si.Sg.ats_at s k h]
/-- A sign at a place, as a piece of what is left. -/
theorem rn_at (s : ByteArray) (p : Nat) : Si.Sg.rn s p = (Lib.decodeL (L s p)).1 ∧ Si.Sg.wd s p = (Lib.decodeL (L s p)).2 := by
  have := dec_rest s p
  unfold Si.Sg.rn Si.Sg.wd L
  rw [this]
  exact ⟨rfl, rfl⟩
theorem three (l : Js.B) (hne : l ≠ []) (h : (Lib.decodeL l).1 = 65533) (h1 : (Lib.decodeL l).2 ≠ 1) : (Lib.decodeL l).2 = 3 := by
  have hk : okSign l = true := by
    unfold okSign
    rw [h, (right_iff l hne h).2 h1]
    decide
  have := (ok_step l [] hne hk).2.1
  rw [h] at this
  have h3 : Lib.runeLen ((65533 : Nat) : Int) = 3 := by decide
  rw [h3] at this
  omega

/-- Is the k-th sign right? -/
def gd (s : ByteArray) (k : Nat) : Bool := decide (Si.Sg.rn s (Si.Sg.pa s k) ≠ 65533) || decide (Si.Sg.wd s (Si.Sg.pa s k) = 3)
/-- Are the first k? -/
def gds (s : ByteArray) (k : Nat) : Bool := decide (s.size ≤ 400) && (List.range k).all (gd s)
theorem gds_succ (s : ByteArray) (k : Nat) : gds s (k + 1) = (gds s k && gd s k) := by
  unfold gds
  rw [List.range_succ, List.all_append]
  simp [Bool.and_assoc]
theorem validD_from (s : ByteArray) : ∀ (m k : Nat), Si.Sg.len s - k = m → k ≤ Si.Sg.len s → (Lib.validD (L s (Si.Sg.pa s k)) = true ↔ ∀ j, k ≤ j → j < Si.Sg.len s → gd s j = true)
  | 0, k, hm, hk => by
    have e : k = Si.Sg.len s := by omega
    rw [e, Si.Sg.pa_end, L_end s s.size (Nat.le_refl _), Lib.validD_nil]
    simp
    intro j h1 h2
    omega
  | m + 1, k, hm, hk => by
    have hlt := Si.Sg.pa_lt s k (by omega)
    have hne : L s (Si.Sg.pa s k) ≠ [] := by
      rw [L_cons s _ hlt]; simp
    obtain ⟨e1, e2⟩ := rn_at s (Si.Sg.pa s k)
    rw [Lib.validD_step _ hne, ← e1, ← e2, L_drop]
    have ih := validD_from s m (k + 1) (by omega) (by omega)
    have ep : Si.Sg.pa s (k + 1) = Si.Sg.pa s k + Si.Sg.wd s (Si.Sg.pa s k) := rfl
    rw [ep] at ih
    have h3 := three (L s (Si.Sg.pa s k)) hne
    rw [← e1, ← e2] at h3
    by_cases hb : Si.Sg.rn s (Si.Sg.pa s k) = 65533 ∧ Si.Sg.wd s (Si.Sg.pa s k) = 1
    · rw [if_pos hb]
      constructor
      · intro h; cases h
      · intro h
        have := h k (Nat.le_refl _) (by omega)
        unfold gd at this
        rw [hb.1, hb.2] at this
        simp at this
    · rw [if_neg hb, ih]
      have hg : gd s k = true := by
        unfold gd
        rw [Bool.or_eq_true, decide_eq_true_eq, decide_eq_true_eq]
        by_cases h65 : Si.Sg.rn s (Si.Sg.pa s k) = 65533
        · exact .inr (h3 h65 (fun h => hb ⟨h65, h⟩))
        · exact .inl h65
      constructor
      · intro h j h1 h2
        by_cases e : j = k
        · rw [e]; exact hg
        · exact h j (by omega) h2
      · intro h j h1 h2
        exact h j (by omega) h2
theorem gds_valid (s : ByteArray) : gds s (Si.Sg.len s) = (quoteP s.data.toList).2 := by
  have h := validD_from s (Si.Sg.len s) 0 (by omega) (by omega)
  have e0 : L s (Si.Sg.pa s 0) = s.data.toList := rfl
  rw [e0] at h
  have hl : s.data.toList.length = s.size := rfl
  unfold quoteP gds
  rw [hl, Bool.eq_iff_iff, Bool.and_eq_true, decide_eq_true_eq, List.all_eq_true]
  constructor
  · rintro ⟨h1, h2⟩
    rw [if_pos ⟨h1, h.2 (fun j _ hj => h2 j (List.mem_range.2 hj))⟩]
  · intro hh
    by_cases hc : s.size ≤ 400 ∧ Lib.validD s.data.toList = true
    · exact ⟨hc.1, fun j hj => h.1 hc.2 j (by omega) (List.mem_range.1 hj)⟩
    · rw [if_neg hc] at hh
      cases hh

theorem quotes_long (s : ByteArray) (w : World) (hs : 450 < s.size) (hV : Vars w) :
    Calls Tryz.prog 5 #[.string s] w fun e w' => e = .returned (.bool true) ∧ Below w.heap.size w w' := by
  have k0 := awake_any w hV
  have d1 : decide (450 < (s.size : Int)) = true := by simp; omega
  clear hV
  go_enter Tryz.func5, Tryz.ntmps5
  go_wp2_with (go_at_call 7; refine k0.mono ?_; rintro e w1 ⟨rfl, hb1⟩; clear k0)
  go_ret
  exact ⟨rfl, hb1⟩

set_option maxHeartbeats 4000000 in
set_option maxRecDepth 1000000 in
theorem quotes_short (s : ByteArray) (w : World) (hs : s.size ≤ 450) (hV : Vars w) (hU : Lib.Utf8Tabs 0 1 w) :
    Calls Tryz.prog 5 #[.string s] w fun e w' => e = .returned (.bool true) ∧ Below w.heap.size w w' := by
  have k0 := awake_any w hV
  have HV := asd hV
  have HU := asd hU
  have d1 : decide (450 < (s.size : Int)) = false := by simp; omega
  have kS := asd (fun u : World => Si.signs_any s u (by omega))
  have hls := Si.Sg.len_size s
  have e0 : decide (s.size ≤ 400) = gds s 0 := by unfold gds; simp
  have e0' : decide ((s.size : Int) ≤ 400) = gds s 0 := by rw [← e0]; rw [Bool.eq_iff_iff, decide_eq_true_eq, decide_eq_true_eq]; omega
  clear hV hU
  go_enter Tryz.func5, Tryz.ntmps5
  go_wp2_with (first
    | (go_at_call 7; refine k0.mono ?_; rintro e w1 ⟨rfl, hb1⟩; clear k0)
    | (go_at_call 17; refine (kS.out _).mono ?_; rintro e w2 ⟨v1, v2, rfl, hn1, hn2, hb2⟩; obtain ⟨a, c, rfl, hc⟩ := hn1.form; obtain ⟨a2, c2, rfl, hc2⟩ := hn2.form; rw [Si.zs_length, Si.Sg.sigs_length] at *; rw [Si.zs_length, Si.Sg.ats_length] at *; clear kS hn1 hn2))
  have B2 := asd (hb1.trans (hb2.mono hb1.size))
  clear hb1 hb2
  go_loopg [5, 29] (Si.Sg.len s) (fun gh s5 s29 wr => ∃ k : Nat, Si.Sg.len s - k ≤ gh ∧ k ≤ Si.Sg.len s ∧ s29 = .int .i64 (k : Int) ∧ s5 = .bool (gds s k) ∧ wr = w2)
  case atStart => exact ⟨0, by omega, by omega, rfl, by first | rfl | (rw [← e0]) | (rw [← e0'])  , rfl⟩
  case round =>
    obtain ⟨k, hgh, hk, rfl, rfl, rfl⟩ := hrel
    clear e0 e0'
    by_cases hp : k < Si.Sg.len s
    · have dk : decide (k < Si.Sg.len s) = true := by simpa using hp
      have hlt := Si.Sg.pa_lt s k hp
      have hwl := Si.Sg.wd_le s (Si.Sg.pa s k) hlt
      have NX := asd (gds_succ s k)
      have ep : Si.Sg.pa s (k + 1) = Si.Sg.pa s k + Si.Sg.wd s (Si.Sg.pa s k) := rfl
      have hgd : gd s k = (decide (Si.Sg.rn s (Si.Sg.pa s k) ≠ 65533) || decide (Si.Sg.wd s (Si.Sg.pa s k) = 3)) := rfl
      obtain ⟨g, o, rfl, hg, hcell⟩ := hc k hp
      obtain ⟨g2, o2, rfl, hg2, hcell2⟩ := hc2 k hp
      rw [zs_at hp] at hcell
      rw [za_at hp] at hcell2
      generalize gds s k = G at *
      by_cases hm : k + 1 < Si.Sg.len s
      · obtain ⟨g3, o3, e3, hg3, hcell3⟩ := hc2 (k + 1) hm
        rw [za_at hm, ep] at hcell3
        simp only [Option.some.injEq, Addr.mk.injEq] at e3
        obtain ⟨rfl, rfl, _⟩ := e3
        have dm : decide (k + 1 < Si.Sg.len s) = true := by simpa using hm
        clear hc hc2 ep
        generalize Si.Sg.rn s (Si.Sg.pa s k) = n at *
        generalize Si.Sg.wd s (Si.Sg.pa s k) = wd at *
        generalize Si.Sg.pa s k = p at *
        have dz : (((p : Int) + (wd : Int)) - (p : Int)) = (wd : Int) := by omega
        have dz2 : (((p + wd : Nat) : Int) - (p : Int)) = (wd : Int) := by omega
        cases G with
        | false =>
          have eg : gd s k = gd s k := rfl
          clear hgd
          go_wp2
          go_roundg (Si.Sg.len s - (k + 1))
          case measure => omega
          case rel => exact ⟨k + 1, Nat.le_refl _, by omega, by go_num, by rw [NX.out]; rfl, rfl⟩
        | true =>
          by_cases hn : n = 65533
          · have t1 : ((n : Int) != 65533) = false := by rw [bne_eq_false_iff_eq]; omega
            have t1' : ((n : Int) == 65533) = true := by rw [beq_iff_eq]; omega
            by_cases h3 : wd = 3
            · have t2 : ((wd : Int) == 3) = true := by rw [beq_iff_eq]; omega
              have eg : gd s k = true := by rw [hgd, hn, h3]; rfl
              clear hgd hn h3
              go_wp2
              go_roundg (Si.Sg.len s - (k + 1))
              case measure => omega
              case rel => exact ⟨k + 1, Nat.le_refl _, by omega, by go_num, by rw [NX.out, eg]; rfl, rfl⟩
            · have t2 : ((wd : Int) == 3) = false := by rw [beq_eq_false_iff_ne]; omega
              have eg : gd s k = false := by rw [hgd, hn]; simp [h3]
              clear hgd hn h3
              go_wp2
              go_roundg (Si.Sg.len s - (k + 1))
              case measure => omega
              case rel => exact ⟨k + 1, Nat.le_refl _, by omega, by go_num, by rw [NX.out, eg]; rfl, rfl⟩
          · have t1 : ((n : Int) != 65533) = true := by rw [bne_iff_ne]; omega
            have t1' : ((n : Int) == 65533) = false := by rw [beq_eq_false_iff_ne]; omega
            have t1'' : ¬ ((n : Int) = 65533) := by omega
            have eg : gd s k = true := by rw [hgd]; simp [hn]
            clear hgd hn
            go_wp2
            go_roundg (Si.Sg.len s - (k + 1))
            case measure => omega
            case rel => exact ⟨k + 1, Nat.le_refl _, by omega, by go_num, by rw [NX.out, eg]; rfl, rfl⟩
      · have hpe : Si.Sg.pa s k + Si.Sg.wd s (Si.Sg.pa s k) = s.size := by
          rw [← ep, show k + 1 = Si.Sg.len s by omega]
          exact Si.Sg.pa_end s
        have dm : decide (k + 1 < Si.Sg.len s) = false := by simpa using hm
        clear hc hc2 ep hwl
        generalize Si.Sg.rn s (Si.Sg.pa s k) = n at *
        generalize Si.Sg.wd s (Si.Sg.pa s k) = wd at *
        generalize Si.Sg.pa s k = p at *
        have dz : ((s.size : Int) - (p : Int)) = (wd : Int) := by omega
        clear hpe
        cases G with
        | false =>
          have eg : gd s k = gd s k := rfl
          clear hgd
          go_wp2
          go_roundg (Si.Sg.len s - (k + 1))
          case measure => omega
          case rel => exact ⟨k + 1, Nat.le_refl _, by omega, by go_num, by rw [NX.out]; rfl, rfl⟩
        | true =>
          by_cases hn : n = 65533
          · have t1 : ((n : Int) != 65533) = false := by rw [bne_eq_false_iff_eq]; omega
            have t1' : ((n : Int) == 65533) = true := by rw [beq_iff_eq]; omega
            by_cases h3 : wd = 3
            · have t2 : ((wd : Int) == 3) = true := by rw [beq_iff_eq]; omega
              have eg : gd s k = true := by rw [hgd, hn, h3]; rfl
              clear hgd hn h3
              go_wp2
              go_roundg (Si.Sg.len s - (k + 1))
              case measure => omega
              case rel => exact ⟨k + 1, Nat.le_refl _, by omega, by go_num, by rw [NX.out, eg]; rfl, rfl⟩
            · have t2 : ((wd : Int) == 3) = false := by rw [beq_eq_false_iff_ne]; omega
              have eg : gd s k = false := by rw [hgd, hn]; simp [h3]
              clear hgd hn h3
              go_wp2
              go_roundg (Si.Sg.len s - (k + 1))
              case measure => omega
              case rel => exact ⟨k + 1, Nat.le_refl _, by omega, by go_num, by rw [NX.out, eg]; rfl, rfl⟩
          · have t1 : ((n : Int) != 65533) = true := by rw [bne_iff_ne]; omega
            have t1' : ((n : Int) == 65533) = false := by rw [beq_eq_false_iff_ne]; omega
            have t1'' : ¬ ((n : Int) = 65533) := by omega
            have eg : gd s k = true := by rw [hgd]; simp [hn]
            clear hgd hn
            go_wp2
            go_roundg (Si.Sg.len s - (k + 1))
            case measure => omega
            case rel => exact ⟨k + 1, Nat.le_refl _, by omega, by go_num, by rw [NX.out, eg]; rfl, rfl⟩
    · obtain rfl : k = Si.Sg.len s := by omega
      have dk : decide (Si.Sg.len s < Si.Sg.len s) = false := by simp
      clear hc hc2
      have ev := gds_valid s
      have kQ := asd (fun (u : World) (hu : Vars u ∧ Lib.Utf8Tabs 0 1 u) => Quote_any s u (by omega) hu.1 hu.2)
      have VV := asd (fun (u : World) (hb : Below w.heap.size w u) => HV.out.below hb)
      have VU := asd (fun (u : World) (hb : Below w.heap.size w u) => And.intro (HV.out.below hb) (utf_below HU.out hb))
      by_cases hq : s.data.toList.length ≤ 400 ∧ Lib.validD s.data.toList = true
      · have eq1 : quoteP s.data.toList = (Js.quote s.data.toList, true) := by unfold quoteP; rw [if_pos hq]
        rw [eq1] at ev kQ
        have hql : (Js.quote s.data.toList).length ≤ 3000 := by
          have h1 : (Js.quote s.data.toList) = QF s s.size ++ [34] := (QF_all s).symm
          have h2 := QF_len s s.size (Nat.le_refl _)
          rw [h1, List.length_append]
          simp
          omega
        have zq : (bs (Js.quote s.data.toList)).size = (Js.quote s.data.toList).length := by
          show (bs _).data.size = _
          simp
        have kR := asd (fun u : World => dquote_any s u (by omega))
        have n1 : ((bs (Js.quote s.data.toList)).toList != (bs (Js.quote s.data.toList)).toList) = false := bne_self_eq_false _
        have n2 : ((bs (Js.quote s.data.toList)).toList == (bs (Js.quote s.data.toList)).toList) = true := beq_self_eq_true _
        have n3 : (s.toList == s.toList) = true := beq_self_eq_true _
        rw [ev]
        by_cases h4 : 400 < (Js.quote s.data.toList).length
        · have d4 : decide (400 < ((bs (Js.quote s.data.toList)).size : Int)) = true := by simp; omega
          clear hq ev eq1 hql
          generalize bs (Js.quote s.data.toList) = Q at *
          go_wp2_with (first
            | (go_at_call 18; refine (kQ.out _ (VU.out _ B2.out)).mono ?_; rintro e w3 ⟨rfl, hb3⟩; have B3 := asd (B2.out.trans (hb3.mono B2.out.size)); clear hb3)
            | (go_at_call 19; refine (kR.out _).mono ?_; rintro e w4 ⟨rfl, hb4⟩; have B4 := asd (B3.out.trans (hb4.mono B3.out.size)); clear hb4))
          go_ret
          exact ⟨rfl, B4.out⟩
        · have d4 : decide (400 < ((bs (Js.quote s.data.toList)).size : Int)) = false := by simp; omega
          have of1 := Js.of_quote s.data.toList hq.2 (by omega)
          have kT := asd (fun u : World => Text_any (bs (Js.quote s.data.toList)) u (by omega))
          have kF := asd (fun (u : World) (hu : Vars u) => Form_any (bs (Js.quote s.data.toList)) u (by omega) hu)
          have et : textP (bs (Js.quote s.data.toList)).data.toList = (s.data.toList, true) := by
            rw [bs_list]
            unfold textP
            rw [of1]
            rfl
          have ef : formP (bs (Js.quote s.data.toList)).data.toList = (Js.quote s.data.toList, 0) := by
            rw [bs_list]
            unfold formP
            rw [of1]
            rfl
          rw [et] at kT
          rw [ef] at kF
          have es : bs s.data.toList = s := by
            apply ByteArray.ext
            simp
          simp only [es] at kT
          clear hq ev eq1 hql et ef of1 es
          generalize bs (Js.quote s.data.toList) = Q at *
          go_wp2_with (first
            | (go_at_call 18; refine (kQ.out _ (VU.out _ B2.out)).mono ?_; rintro e w3 ⟨rfl, hb3⟩; have B3 := asd (B2.out.trans (hb3.mono B2.out.size)); clear hb3)
            | (go_at_call 19; refine (kR.out _).mono ?_; rintro e w4 ⟨rfl, hb4⟩; have B4 := asd (B3.out.trans (hb4.mono B3.out.size)); clear hb4)
            | (go_at_call 16; refine (kT.out _).mono ?_; rintro e w5 ⟨rfl, hb5⟩; have B5 := asd (B4.out.trans (hb5.mono B4.out.size)); clear hb5)
            | (go_at_call 8; refine (kF.out _ (VV.out _ B5.out)).mono ?_; rintro e w6 ⟨rfl, hb6⟩; have B6 := asd (B5.out.trans (hb6.mono B5.out.size)); clear hb6))
          go_ret
          exact ⟨rfl, B6.out⟩
      · have eq1 : quoteP s.data.toList = ([], false) := by unfold quoteP; rw [if_neg hq]
        rw [eq1] at ev kQ
        have be : bs [] = ⟨#[]⟩ := rfl
        simp only [be] at kQ
        rw [ev]
        clear hq ev eq1
        go_wp2_with (go_at_call 18; refine (kQ.out _ (VU.out _ B2.out)).mono ?_; rintro e w3 ⟨rfl, hb3⟩; have B3 := asd (B2.out.trans (hb3.mono B2.out.size)); clear hb3)
        go_ret
        exact ⟨rfl, B3.out⟩

theorem quotes_any (s : ByteArray) (w : World) (hV : Vars w) (hU : Lib.Utf8Tabs 0 1 w) :
    Calls Tryz.prog 5 #[.string s] w fun e w' => e = .returned (.bool true) ∧ Below w.heap.size w w' := by
  by_cases h : 450 < s.size
  · exact quotes_long s w h hV
  · exact quotes_short s w (by omega) hV hU
end Go.Proofs.YtpeioecpilmpiaaGreatDoor

/-
  The listed variables: what the condition gives; the world that meets it.
-/
namespace Go.Proofs.YtpeioecpilmpiaaGreatDoor
open Go.ChangeShapes Go.WideShapes Go.ChangeAt Go.RowKit
theorem own : ownKnob Tryz.prog.godebug = none := by kernel_rfl
theorem gTZ : Tryz.prog.globalNamed "math/bits.deBruijn64tab" = some 7 := by kernel_rfl
theorem tPow : (Tryz.prog.globals[3]?).map (·.type) = some 137 := by kernel_rfl
theorem tTZ : (Tryz.prog.globals[7]?).map (·.type) = some 157 := by kernel_rfl
theorem cells104 : Tryz.prog.cellsOf 104 = 1 := by kernel_rfl
theorem cells137 : Tryz.prog.cellsOf 137 = 20 := by kernel_rfl
theorem cells5 : Tryz.prog.cellsOf 5 = 1 := by kernel_rfl
theorem cells157 : Tryz.prog.cellsOf 157 = 64 := by kernel_rfl

def laid7 : List (String × DataW Unit) := [("math/bits.deBruijn32tab", Rows.laid_math_bits_deBruijn32tab), ("math/bits.deBruijn64tab", Rows.laid_math_bits_deBruijn64tab), ("internal/strconv.uint64pow10", Rows.laid_internal_strconv_uint64pow10), ("unicode/utf8.acceptRanges", Rows.laid_unicode_utf8_acceptRanges), ("strconv.ErrRange", Rows.laid_strconv_ErrRange), ("strconv.ErrSyntax", Rows.laid_strconv_ErrSyntax), ("unicode/utf8.first", Rows.laid_unicode_utf8_first)]

theorem pow_data : (Rows.laid_internal_strconv_uint64pow10 : DataW Unit) = Lib.tabData .u64 Lib.pow10Tab := by kernel_rfl
def tzTab : List Int := [0, 1, 56, 2, 57, 49, 28, 3, 61, 58, 42, 50, 38, 29, 17, 4, 62, 47, 59, 36, 45, 43, 51, 22, 53, 39, 33, 30, 24, 18, 12, 5, 63, 55, 48, 27, 60, 41, 37, 16, 46, 35, 44, 21, 52, 32, 23, 11, 54, 26, 40, 15, 34, 20, 31, 10, 25, 14, 19, 9, 13, 8, 7, 6]
theorem tz_data : (Rows.laid_math_bits_deBruijn64tab : DataW Unit) = Lib.tabData .u8 tzTab := by kernel_rfl
theorem acc_data : (Rows.laid_unicode_utf8_acceptRanges : DataW Unit) = Lib.acceptData := by kernel_rfl
theorem first_data : Rows.laid_unicode_utf8_first = Lib.firstData := by kernel_rfl

theorem plain7 : ∀ W, laidMetH Tryz.prog laid7 W ↔ laidMet Tryz.prog laid7 W := fun W => by
  rw [MakeChecks.laidMetH_plain _ _ _ (by kernel_rfl)]

theorem pow_of {W : World} {l : List (String × DataW Unit)} (h : laidMet Tryz.prog l W) (hm : ("internal/strconv.uint64pow10", (Rows.laid_internal_strconv_uint64pow10 : DataW Unit)) ∈ l) : Pow W := by
  obtain ⟨g, t, cs, fuel, p, hg, ht, hv, hd⟩ := Lib.laidMet.reads h (n := "internal/strconv.uint64pow10") (d := Rows.laid_internal_strconv_uint64pow10) hm
  obtain rfl := Option.some.inj (gPow.symm.trans hg)
  obtain rfl := Option.some.inj (tPow.symm.trans ht)
  rw [pow_data] at hd
  unfold Pow
  generalize Lib.pow10Tab = zs at *
  have e := Lib.cells_of_tab Tryz.underlying137 Tryz.underlying104 cells104 cells137 hd
  unfold Lib.TabIs
  rw [hv]
  exact congrArg some (Array.toList_inj.1 (by rw [e]))

theorem tz_of {W : World} {l : List (String × DataW Unit)} (h : laidMet Tryz.prog l W) (hm : ("math/bits.deBruijn64tab", (Rows.laid_math_bits_deBruijn64tab : DataW Unit)) ∈ l) : TZ W := by
  obtain ⟨g, t, cs, fuel, p, hg, ht, hv, hd⟩ := Lib.laidMet.reads h (n := "math/bits.deBruijn64tab") (d := Rows.laid_math_bits_deBruijn64tab) hm
  obtain rfl := Option.some.inj (gTZ.symm.trans hg)
  obtain rfl := Option.some.inj (tTZ.symm.trans ht)
  rw [tz_data] at hd
  have e := Lib.cells_of_tab Tryz.underlying157 Tryz.underlying5 cells5 cells157 hd
  unfold TZ
  rw [World.var?_cell gTZ hv, ← Array.getElem?_toList, e]
  rfl

theorem gF : Tryz.prog.globalNamed "unicode/utf8.first" = some 0 := by kernel_rfl
theorem gA : Tryz.prog.globalNamed "unicode/utf8.acceptRanges" = some 1 := by kernel_rfl
theorem tF : (Tryz.prog.globals[0]?).map (·.type) = some 86 := by kernel_rfl
theorem tA : (Tryz.prog.globals[1]?).map (·.type) = some 89 := by kernel_rfl
theorem cells86 : Tryz.prog.cellsOf 86 = 256 := by kernel_rfl
theorem cells88 : Tryz.prog.cellsOf 88 = 2 := by kernel_rfl

theorem first_of {W : World} (h : Lib.VarReads Tryz.prog W "unicode/utf8.first" Lib.firstData) : ∀ c, c < 256 → W.cell? ⟨0, c, none⟩ = some (.int .u8 (Lib.firstT c)) := fun c hc => by
  obtain ⟨g, t, cs, fuel, p, hg, ht, hv, hd⟩ := h
  obtain rfl := Option.some.inj (gF.symm.trans hg)
  obtain rfl := Option.some.inj (tF.symm.trans ht)
  have e := Lib.cells_of_tab Tryz.underlying86 Tryz.underlying5 cells5 cells86 hd
  rw [World.var?_cell gF hv c, ← Array.getElem?_toList, e]
  simp [Lib.firstTab, hc]
theorem acc_of {W : World} (h : Lib.VarReads Tryz.prog W "unicode/utf8.acceptRanges" Lib.acceptData) : ∀ i, i < 16 → W.cell? ⟨1, 2 * i, none⟩ = some (.int .u8 (Lib.accLo i)) ∧ W.cell? ⟨1, 2 * i + 1, none⟩ = some (.int .u8 (Lib.accHi i)) := fun i hi => by
  obtain ⟨g, t, cs, fuel, p, hg, ht, hv, hd⟩ := h
  obtain rfl := Option.some.inj (gA.symm.trans hg)
  obtain rfl := Option.some.inj (tA.symm.trans ht)
  obtain ⟨f1, d, q, h1, h2⟩ := Lib.array_elem Tryz.underlying89 hd i hi
  simp only [List.getElem?_map, List.getElem?_range hi, Option.map_some, Option.some.injEq] at h1
  subst h1
  rw [cells88] at h2
  have e := Lib.ints_of_struct Tryz.underlying88 (fun j f hj => by
    match j, hj with
    | 0, hj => simp at hj; subst hj; exact ⟨Tryz.underlying5, rfl, cells5⟩
    | 1, hj => simp at hj; subst hj; exact ⟨Tryz.underlying5, rfl, cells5⟩
    | j + 2, hj => simp at hj) (by rw [cells88]; rfl) h2
  have e0 := congrArg (fun l => l[0]?) e
  have e1 := congrArg (fun l => l[1]?) e
  simp only [List.getElem?_take, List.getElem?_drop] at e0 e1
  refine ⟨?_, ?_⟩
  · rw [World.var?_cell gA hv (2 * i), ← Array.getElem?_toList]
    simpa [Nat.mul_comm] using e0
  · rw [World.var?_cell gA hv (2 * i + 1), ← Array.getElem?_toList]
    simpa [Nat.mul_comm] using e1

set_option maxRecDepth 100000 in
theorem vars_of_laid {W : World} (h : laidMetH Tryz.prog laid7 W) : Vars W ∧ Lib.Utf8Tabs 0 1 W := by
  rw [plain7] at h
  refine ⟨⟨pow_of h (by simp [laid7]), tz_of h (by simp [laid7])⟩, ?_⟩
  have h3 := Lib.laidMet.reads h (n := "unicode/utf8.first") (d := Rows.laid_unicode_utf8_first) (by simp [laid7])
  have h4 := Lib.laidMet.reads h (n := "unicode/utf8.acceptRanges") (d := Rows.laid_unicode_utf8_acceptRanges) (by simp [laid7])
  rw [first_data] at h3
  rw [acc_data] at h4
  exact ⟨first_of h3, acc_of h4⟩

/-- The world in which the listed variables are laid meets the condition. -/
theorem door_met (os : Os) (args : Array Value) : laidMetH Tryz.prog laid7 ((World.laidAll Tryz.prog os laid7).forCall (fun _ _ => 0) ⟨#[], args, []⟩).memory := by
  rw [plain7]
  exact laidMet_laidAll _ (by kernel_rfl) (by kernel_rfl)

theorem laidOut : laidOutB Tryz.prog = true := by kernel_rfl
end Go.Proofs.YtpeioecpilmpiaaGreatDoor

/-
  The five listed variables of JsonForms, JsonParts and JsonOrder.
-/
namespace Go.Proofs.YtpeioecpilmpiaaGreatDoor
open Go.RowKit
open Go.ChangeShapes Go.WideShapes Go.ChangeAt
def laid5 : List (String × DataW Unit) := [("math/bits.deBruijn32tab", Rows.laid_math_bits_deBruijn32tab), ("math/bits.deBruijn64tab", Rows.laid_math_bits_deBruijn64tab), ("internal/strconv.uint64pow10", Rows.laid_internal_strconv_uint64pow10), ("strconv.ErrRange", Rows.laid_strconv_ErrRange), ("strconv.ErrSyntax", Rows.laid_strconv_ErrSyntax)]
theorem plain5 : ∀ W, laidMetH Tryz.prog laid5 W ↔ laidMet Tryz.prog laid5 W := fun W => by
  rw [MakeChecks.laidMetH_plain _ _ _ (by kernel_rfl)]
set_option maxRecDepth 100000 in
theorem vars_of_laid5 {W : World} (h : laidMetH Tryz.prog laid5 W) : Vars W := by
  rw [plain5] at h
  exact ⟨pow_of h (by simp [laid5]), tz_of h (by simp [laid5])⟩
/-- The world in which the listed variables are laid meets the condition. -/
theorem door_met5 (os : Os) (args : Array Value) : laidMetH Tryz.prog laid5 ((World.laidAll Tryz.prog os laid5).forCall (fun _ _ => 0) ⟨#[], args, []⟩).memory := by
  rw [plain5]
  exact laidMet_laidAll _ (by kernel_rfl) (by kernel_rfl)
end Go.Proofs.YtpeioecpilmpiaaGreatDoor

/-
  No fault is 0; what a value of each kind has not.
-/
namespace Go.Proofs.YtpeioecpilmpiaaGreatDoor
open Go.RowKit
namespace Js
/-- A fault is one of the document's numbers. -/
def Flt {α : Type} (x : Except Nat α) : Prop := ∀ e, x = .error e → 1 ≤ e ∧ e ≤ 10
theorem flt_ok {α : Type} (a : α) : Flt (.ok a : Except Nat α) := fun _ h => by cases h
theorem flt_err {α : Type} (e : Nat) (h1 : 1 ≤ e) (h2 : e ≤ 10) : Flt (.error e : Except Nat α) := fun e' h => by
  injection h with h
  omega
theorem flt_pass {α β : Type} {x : Except Nat α} {e : Nat} (h : Flt x) (hx : x = .error e) : Flt (.error e : Except Nat β) := flt_err e (h e hx).1 (h e hx).2
theorem li_ne (g : B → Ans) (hg : ∀ l, Flt (g l)) : ∀ (f : Nat) (l : B) (acc : List X), Flt (li g f l acc)
  | 0, _, _ => flt_err 3 (by decide) (by decide)
  | f + 1, l, acc => by
    unfold li
    split
    · rename_i e h
      exact flt_pass (hg l) h
    · split
      · exact li_ne g hg f _ _
      · exact flt_ok _
      · exact flt_err 3 (by decide) (by decide)
theorem ob_ne (g : B → Ans) (hg : ∀ l, Flt (g l)) : ∀ (f : Nat) (l : B) (acc : List (B × X)), Flt (ob g f l acc)
  | 0, _, _ => flt_err 3 (by decide) (by decide)
  | f + 1, l, acc => by
    unfold ob
    split
    · split
      · exact flt_err 3 (by decide) (by decide)
      · split
        · exact flt_err 7 (by decide) (by decide)
        · split
          · rename_i r1 _
            split
            · rename_i e h
              exact flt_pass (hg r1) h
            · split
              · exact ob_ne g hg f _ _
              · exact flt_ok _
              · exact flt_err 3 (by decide) (by decide)
          · exact flt_err 3 (by decide) (by decide)
    · exact flt_err 3 (by decide) (by decide)
theorem map_ne {α β : Type} (f : α → β) (x : Except Nat α) (h : Flt x) : Flt (x.map f) := by
  cases x with
  | error e => exact flt_err e (h e rfl).1 (h e rfl).2
  | ok a => exact flt_ok _
theorem word_ne (w l : B) (x : X) : Flt (word w l x) := by
  unfold word
  split
  · exact flt_ok _
  · exact flt_err 3 (by decide) (by decide)
theorem va_ne (sub : Option (B → Ans)) (hs : ∀ g, sub = some g → ∀ l, Flt (g l)) (l : B) : Flt (va sub l) := by
  unfold va
  split
  · exact flt_err 3 (by decide) (by decide)
  · split
    · exact word_ne _ _ _
    · split
      · exact word_ne _ _ _
      · split
        · exact word_ne _ _ _
        · split
          · split
            · exact flt_err 3 (by decide) (by decide)
            · exact flt_ok _
          · split
            · split
              · exact flt_err 10 (by decide) (by decide)
              · rename_i g
                split
                · exact flt_ok _
                · exact map_ne _ _ (li_ne g (hs g rfl) _ _ _)
            · split
              · split
                · exact flt_err 10 (by decide) (by decide)
                · rename_i g
                  split
                  · exact flt_ok _
                  · exact map_ne _ _ (ob_ne g (hs g rfl) _ _ _)
              · split
                · exact flt_err 3 (by decide) (by decide)
                · exact flt_ok _
theorem pv_ne : ∀ (n : Nat) (l : B), Flt (pv n l)
  | 0, l => va_ne none (fun _ h => by cases h) _
  | n + 1, l => va_ne (some (pv n)) (fun g h => by injection h with h; subst h; exact pv_ne n) _
theorem of_flt (b : B) : Flt (of b) := by
  unfold of
  split
  · exact flt_err 5 (by decide) (by decide)
  · split
    · rename_i e' h1
      exact flt_pass (pv_ne _ _) h1
    · split
      · exact flt_ok _
      · exact flt_err 3 (by decide) (by decide)
theorem of_ne {b : B} {e : Nat} (h : of b = .error e) : e ≠ 0 := by
  have := of_flt b e h
  omega
/-- What no member of a kind has. -/
theorem of_kind {b : B} {x : X} (h : of b = .ok x) : (x.kind ≠ 3 → x.num = 0) ∧ (x.kind ≠ 4 → x.text = []) ∧ (x.kind ≠ 6 → x.names = []) ∧ (x.kind = 6 → Rise x.names ∧ x.names.length = x.items.length) := by
  have hg := (of_bd b x h).2.2
  rcases hg with h | ⟨l, rfl, _⟩ | ⟨l, rfl, hr, _⟩
  · rcases h with rfl | ⟨_, rfl⟩ | ⟨_, _, rfl⟩ | ⟨_, _, rfl⟩
    · exact ⟨fun _ => rfl, fun _ => rfl, fun _ => rfl, fun h => by cases h⟩
    · exact ⟨fun _ => rfl, fun _ => rfl, fun _ => rfl, fun h => by cases h⟩
    · exact ⟨fun h => absurd rfl h, fun _ => rfl, fun _ => rfl, fun h => by cases h⟩
    · exact ⟨fun _ => rfl, fun h => absurd rfl h, fun _ => rfl, fun h => by cases h⟩
  · exact ⟨fun _ => rfl, fun _ => rfl, fun _ => rfl, fun h => by cases h⟩
  · exact ⟨fun _ => rfl, fun _ => rfl, fun h => absurd rfl h, fun _ => ⟨hr, by simp [mkObj]⟩⟩
end Js
end Go.Proofs.YtpeioecpilmpiaaGreatDoor
