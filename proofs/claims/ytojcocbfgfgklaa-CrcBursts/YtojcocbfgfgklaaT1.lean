/-
  CrcTexts: for any text, cut and number the law answers true, and the arguments read behind the call as before. No condition.
-/
import Derived.Test.YtojcocbfgfgklaaA1
namespace Go.Proofs.Ytojcocbfgfgklaa
open Go.ChangeShapes Go.WideShapes Go.ChangeAt Go.RowKit
open Go.ChangeMaps (open_string shut_string)

theorem texts_long (s : ByteArray) (c x : Int) (w : World) (hs : 300 < s.size) :
    Calls Try.prog 3 #[.string s, .int .u16 c, .int .u32 x] w fun e w' => e = .returned (.bool true) ∧ Below w.heap.size w w' := by
  have k0 := awake_any w
  have d1 : decide (300 < (s.size : Int)) = true := by simp; omega
  go_enter Try.func3, Try.ntmps3
  go_wp2_with (go_at_call 6; refine k0.mono ?_; rintro e w1 ⟨rfl, hb1⟩)
  go_ret
  exact ⟨rfl, hb1⟩

/-- The sum of a text that comes in two parts. -/
theorem next_parts (s : ByteArray) (k : Nat) (u : World) (hs : s.size ≤ 300) (hk : k ≤ s.size) :
    Calls Try.prog 11 #[.int .u32 (Cr.sum (s.extract 0 k).data.toList : Nat), .string (s.extract k s.size)] u fun e w' => e = .returned (.int .u32 (Cr.sum s.data.toList : Nat)) ∧ w' = u := by
  have h := next_any (Cr.sum (s.extract 0 k).data.toList) (s.extract k s.size) u (Cr.sum_lt _) (by simp; omega)
  have e : 4294967295 - Cr.st (4294967295 - Cr.sum (s.extract 0 k).data.toList) (s.extract k s.size).data.toList = Cr.sum s.data.toList := by
    have hl := Cr.st_lt (s.extract 0 k).data.toList (x := 4294967295) (by omega)
    have e1 : 4294967295 - Cr.sum (s.extract 0 k).data.toList = Cr.st 4294967295 (s.extract 0 k).data.toList := by
      unfold Cr.sum
      omega
    have e2 : (s.extract 0 k).data.toList ++ (s.extract k s.size).data.toList = s.data.toList := by
      rw [ByteArray.data_extract, ByteArray.data_extract, ← Array.toList_append, Array.extract_append_extract]
      have h1 : s.size = s.data.size := rfl
      rw [show min 0 k = 0 by omega, show max k s.size = s.data.size by omega, Array.extract_size]
    rw [e1, ← Cr.st_append, e2]
    rfl
  rw [e] at h
  exact h

set_option maxHeartbeats 1600000 in
theorem texts_core (s S r : ByteArray) (c x k n : Nat) (ob : Bool) (w : World) (hs : s.size ≤ 300) (_hc : c < 65536) (hx : x < 4294967296) (hk : (c : Int) % ((s.size : Int) + 1) = (k : Int)) (hks : k ≤ s.size)
    (k7 : Aside (∀ u, Calls Try.prog 7 #[.string s] u fun e w' => e = .returned (.int .u32 (n : Int)) ∧ w' = u))
    (k9 : Aside (∀ u, Calls Try.prog 9 #[.string s] u fun e w' => e = .returned (.string S) ∧ Below u.heap.size u w'))
    (k12 : Aside (∀ u, Calls Try.prog 12 #[.string s] u fun e w' => e = .returned (.string S) ∧ Below u.heap.size u w'))
    (k8 : Aside (∀ u, Calls Try.prog 8 #[.string S] u fun e w' => e = .returned (.tuple #[.string s, .bool true]) ∧ Below u.heap.size u w'))
    (k8b : Aside (∀ u, Calls Try.prog 8 #[.string (s ++ sb x)] u fun e w' => e = .returned (.tuple #[.string r, .bool ob]) ∧ Below u.heap.size u w'))
    (k10 : Aside (∀ (t : ByteArray) (u : World), t.size ≤ 300 → Calls Try.prog 10 #[.string t] u fun e w' => e = .returned (.int .u32 (Cr.sum t.data.toList : Nat)) ∧ w' = u))
    (k11 : Aside (∀ u, Calls Try.prog 11 #[.int .u32 (Cr.sum (s.data.toList.take k) : Nat), .string (s.extract k s.size)] u fun e w' => e = .returned (.int .u32 (n : Int)) ∧ w' = u))
    (e1 : ((Cr.sum s.data.toList : Int) == (n : Int)) = true) (e5 : ((x : Int) == (n : Int)) = ob) :
    Calls Try.prog 3 #[.string s, .int .u16 (c : Int), .int .u32 (x : Int)] w fun e w' => e = .returned (.bool true) ∧ Below w.heap.size w w' := by
  have k0 := awake_any w
  have d1 : decide (300 < (s.size : Int)) = false := by simp; omega
  have h3 := sb_size x
  have e3 : (S.toList == S.toList) = true := beq_self_eq_true _
  have e4 : (s.toList == s.toList) = true := beq_self_eq_true _
  go_enter Try.func3, Try.ntmps3
  go_wp2_with (first
    | (go_at_call 6; refine k0.mono ?_; rintro e w1 ⟨rfl, hb1⟩)
    | (go_at_call 7; refine (k7.out _).mono ?_; rintro e w2 ⟨rfl, rfl⟩)
    | (go_at_call 9; refine (k9.out _).mono ?_; rintro e w3 ⟨rfl, hb3⟩)
    | (go_at_call 8; refine (k8.out _).mono ?_; rintro e w4 ⟨rfl, hb4⟩; clear k8; have hcv := conv4 w4 ((x : Int) / 16777216) ((x : Int) / 65536 % 256) ((x : Int) / 256 % 256) ((x : Int) % 256); rw [sb_nums] at hcv)
    | (go_at_call 8; refine (k8b.out _).mono ?_; rintro e w5 ⟨rfl, hb5⟩))
  have B : Aside (Below w.heap.size w w5) := by
    have b3 := hb1.trans (hb3.mono hb1.size)
    have b4 := b3.trans (hb4.mono b3.size)
    have b5 := b4.alloc b4.size (.cells #[.int .u8 ((x : Int) / 16777216), .int .u8 ((x : Int) / 65536 % 256), .int .u8 ((x : Int) / 256 % 256), .int .u8 ((x : Int) % 256)] 5)
    exact b5.trans (hb5.mono b5.size)
  clear hb1 hb3 hb4 hb5 hcv k0
  have hne := later_some w5
  refine wp_region_later (by kernel_rfl) (by kernel_rfl) ?_
  repeat (go_big_quiet_step ((first
    | (go_at_call 10; exact (k10.out _ _ (by first | omega | (simp; omega))).mono (fun _ w' h => ⟨h.1, _, h.2⟩))
    | (go_at_call 11; exact (k11.out _).mono (fun _ w' h => ⟨h.1, _, h.2⟩))
    | (go_at_call 9; exact calls_later (k9.out _))
    | (go_at_call 12; exact calls_later (k12.out _)))))
  refine wpQuiet_nil ?_
  rintro _ ⟨q, rfl⟩
  have hq := q.bel
  clear hne
  go_wp2
  go_ret
  exact ⟨rfl, B.out.trans (hq.mono B.out.size)⟩

theorem texts_any (s : ByteArray) (c x : Nat) (w : World) (hc : c < 65536) (hx : x < 4294967296) :
    Calls Try.prog 3 #[.string s, .int .u16 (c : Int), .int .u32 (x : Int)] w fun e w' => e = .returned (.bool true) ∧ Below w.heap.size w w' := by
  by_cases hs : 300 < s.size
  · exact texts_long s c x w hs
  · have hs' : s.size ≤ 300 := by omega
    have hk : c % (s.size + 1) ≤ s.size := by
      have := Nat.mod_lt c (show 0 < s.size + 1 by omega)
      omega
    have k11 : ∀ u, Calls Try.prog 11 #[.int .u32 (Cr.sum (s.data.toList.take (c % (s.size + 1))) : Nat), .string (s.extract (c % (s.size + 1)) s.size)] u fun e w' => e = .returned (.int .u32 (Cr.sum s.data.toList : Nat)) ∧ w' = u := fun u => by
      have h := next_parts s (c % (s.size + 1)) u hs' hk
      have e : (s.extract 0 (c % (s.size + 1))).data.toList = s.data.toList.take (c % (s.size + 1)) := by simp
      rw [e] at h
      exact h
    have k8b : ∃ (r : ByteArray) (ob : Bool), ((x : Int) == (Cr.sum s.data.toList : Int)) = ob ∧ ∀ u, Calls Try.prog 8 #[.string (s ++ sb x)] u fun e w' => e = .returned (.tuple #[.string r, .bool ob]) ∧ Below u.heap.size u w' := by
      by_cases he : x = Cr.sum s.data.toList
      · refine ⟨s, true, by rw [he]; exact beq_self_eq_true _, fun u => ?_⟩
        rw [he]
        exact open_own s u (by omega)
      · refine ⟨⟨#[]⟩, false, by rw [beq_eq_false_iff_ne]; omega, fun u => open_other s x u (by omega) hx he⟩
    obtain ⟨r, ob, e5, k8b⟩ := k8b
    exact texts_core s (sealed s) r c x (c % (s.size + 1)) (Cr.sum s.data.toList) ob w hs' hc hx (by simp) hk (fun u => refOf_any s u (by omega)) (fun u => seal_any s u (by omega)) (fun u => refSeal_any s u (by omega))
      (fun u => open_own s u (by omega)) k8b (fun t u ht => of_any t u (by omega)) k11 (beq_self_eq_true _) e5

theorem u16_nat {a : Int} (h : (Lit.int .u16 a).wf = true) : ∃ n : Nat, n < 65536 ∧ a = (n : Int) := by
  simp [Lit.wf, IntKind.min, IntKind.max, IntKind.signed, IntKind.bits] at h
  exact ⟨a.toNat, by omega, by omega⟩

theorem u32_nat {a : Int} (h : (Lit.int .u32 a).wf = true) : ∃ n : Nat, n < 4294967296 ∧ a = (n : Int) := by
  simp [Lit.wf, IntKind.min, IntKind.max, IntKind.signed, IntKind.bits] at h
  exact ⟨a.toNat, by omega, by omega⟩

set_option maxRecDepth 100000 in
theorem crcTexts_lifted (os : Os) (started : os.Started) (H : Type) (enc : TypeId × Value → H) :
    ReturnsInHanded {} Try.checked os 3 .any (Rows.crcTextsSpec.pre6 enc Try.prog Try.f3 Rows.crcTextsRow.domain false) (Rows.crcTextsSpec.post enc Try.prog Try.f3 false true false false) := by
  refine returnsInHanded_of_change (C := Try.checked) own started (by kernel_rfl) Try.func3
    (ChangeSpec.witness6 (enc := enc) (C := Try.checked) false ⟨#[], #[.string ByteArray.empty, .int .u16 0, .int .u32 0], []⟩ 8 (by kernel_rfl) (by kernel_rfl) (by kernel_rfl) (by kernel_rfl)) ?_
  intro W base args ds gs before hval0 hW _ _
  have hval : ∀ (j : Nat) t v, Try.f3.params[j]? = some t → args[j]? = some v → Value.okWide Try.prog W .any base t v := hval0
  have hW' := hW
  obtain ⟨p, q, hA0, hV, rfl, hfz, hnd⟩ := hW
  have hA : DataW.TrodAll enc Try.prog W 0 (fun _ => true) true Try.f3.params.toList args.toList ds p := hA0
  rw [Try.params3] at hA hval
  obtain ⟨v0, vs0, d0, ds0, p0, q0, hargs, rfl, rfl, h0, r0⟩ := trodAll_cons hA
  obtain ⟨v1, vs1, d1, ds1, p1, q1, rfl, rfl, rfl, h1, r1⟩ := trodAll_cons r0
  obtain ⟨v2, vs2, d2, ds2, p2, q2, rfl, rfl, rfl, h2, r2⟩ := trodAll_cons r1
  obtain ⟨rfl, rfl, rfl⟩ := trodAll_nil r2
  obtain rfl : args = #[v0, v1, v2] := by cases args; simp_all
  obtain ⟨rfl, rfl⟩ := trodVars_none hV
  obtain ⟨s0, rfl, rfl, rfl, w0⟩ := open_string Try.underlying9 (hval 0 9 v0 rfl rfl) h0
  obtain ⟨a1, rfl, rfl, rfl, w1⟩ := open_int Try.underlying22 (hval 1 22 v1 rfl rfl) h1
  obtain ⟨a2, rfl, rfl, rfl, w2⟩ := open_int Try.underlying23 (hval 2 23 v2 rfl rfl) h2
  clear hA0 hval0
  obtain ⟨c, hc, rfl⟩ := u16_nat w1
  obtain ⟨x, hx, rfl⟩ := u32_nat w2
  refine (texts_any s0 c x W hc hx).mono fun e W' ⟨he, bel⟩ => ?_
  subst he
  exact ⟨_, rfl, _, _, _, [], _, [], hW', trodAll_mk1 (shut_bool Try.underlying4 _), trodAll_cons_mk (shut_string Try.underlying9 w0) (trodAll_cons_mk (shut_int Try.underlying22 w1) (trodAll_cons_mk (shut_int Try.underlying23 w2) trodAll_mk0)), rfl, bel.frame _, fun h => by cases h⟩

theorem crcTexts_holds : Rows.CrcTextsSaid :=
  OpenClaim.holds_of_wide 3 Try.f3 rfl rfl rfl rfl rfl rfl rfl ⟨rfl, rfl, rfl, rfl, rfl⟩ rfl rfl rfl rfl rfl (by kernel_rfl) Try.func3 (by kernel_rfl)
    (of_decide_eq_true (by kernel_rfl)) (by unfold Func.isWrapper; first | (rw [if_pos (by decide +kernel)]; kernel_rfl) | (rw [if_neg (by decide +kernel)]; exact ⟨rfl, rfl⟩))
    (fun os started H enc _ => crcTexts_lifted os started H enc)
#print axioms crcTexts_holds
end Go.Proofs.Ytojcocbfgfgklaa
