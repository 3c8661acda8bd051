/-
  CanonRequests, as the tied card: for any request the law answers true, and the request reads behind the call as before; the listed variables, the table of the digest's constants among them, are tied to the program's text. No other condition.
-/
import Derived.Test.YtkijglkjpgjdaaaDoorL1
import Derived.Test.YtkijglkjpgjdaaaDoorC20
import Derived.Test.YtkijglkjpgjdaaaDoorC21
namespace Go.Proofs.YtkijglkjpgjdaaaDoor
open Go.ChangeShapes Go.WideShapes Go.ChangeAt Go.RowKit
open Go.ChangeMaps (open_string shut_string)

theorem reqO_again {r q : Req} (h : reqO r = some q) : reqO q = some q := by
  unfold reqO at h
  cases hm : Cn.meth r.method.data.toList with
  | none => rw [hm] at h; cases h
  | some m =>
    cases hp : pathO r.path with
    | none => rw [hm, hp] at h; cases h
    | some p =>
      rw [hm, hp] at h
      dsimp only at h
      cases hr : restOK r with
      | false => rw [hr] at h; cases h
      | true =>
        rw [hr] at h
        simp only [if_true, Option.some.injEq] at h
        subst h
        have h1 : Cn.meth (txt m).data.toList = some m := Cn.meth_form _ _ hm
        have h2 : pathO (txt p) = some p := path_again hp
        have h3 : restOK (formed r m p) = true := hr
        exact reqO_is (formed r m p) m p h1 h2 h3

theorem requests_short (r : Req) (w : World) (hT : Ha.Tab w) (h1 : r.key.size ≤ 100) (h2 : r.method.size ≤ 100) (h3 : r.path.size ≤ 100) (h4 : r.body.size ≤ 100) :
    Calls Tryd.prog 6 #[.agg (rc r)] w fun e w' => e = .returned (.bool true) ∧ Below w.heap.size w w' := by
  have k0 : Aside (∀ u : World, Below w.heap.size w u → Calls Tryd.prog 7 #[] u fun e w' => e = .returned (.bool true) ∧ Below u.heap.size u w') := fun u hu => awake_any u (hT.later hu)
  have k1 : Aside (∀ u : World, Calls Tryd.prog 16 #[.agg (rc r)] u fun e w' => e = .returned (.tuple #[.agg (rc (optQ (reqO r))), .bool (reqO r).isSome]) ∧ Below u.heap.size u w') := fun u => by
    rw [← optR_is]
    exact request_any r u (by omega)
  have k2 : Aside (∀ u : World, Calls Tryd.prog 17 #[.agg (rc r)] u fun e w' => e = .returned (.tuple #[.agg (rc (optQ (reqO r))), .bool (reqO r).isSome]) ∧ Below u.heap.size u w') := fun u => by
    rw [← optR_is]
    exact refRequest_any r u
  have hz : (optQ (reqO r)).method.size ≤ 1000000 := by
    cases ho : reqO r with
    | none => exact Nat.zero_le _
    | some q =>
      have h5 := reqO_again ho
      unfold reqO at h5
      show q.method.size ≤ _
      cases hm : Cn.meth q.method.data.toList with
      | none => rw [hm] at h5; cases h5
      | some m =>
        have h6 : ¬ ¬ (1 ≤ q.method.data.toList.length ∧ q.method.data.toList.length ≤ 8) := fun h => by rw [meth_no _ h] at hm; cases hm
        have h7 : q.method.data.toList.length = q.method.size := rfl
        omega
  have k3 : Aside (∀ u : World, Calls Tryd.prog 16 #[.agg (rc (optQ (reqO r)))] u fun e w' => e = .returned (.tuple #[.agg (rc (optQ (reqO (optQ (reqO r))))), .bool (reqO (optQ (reqO r))).isSome]) ∧ Below u.heap.size u w') := fun u => by
    rw [← optR_is]
    exact request_any (optQ (reqO r)) u hz
  refine requests_core r _ _ _ _ w k0 k1 k2 k3 h1 h2 h3 h4 ?_
  cases ho : reqO r with
  | none => exact .inl rfl
  | some q =>
    right
    show q = optQ (reqO q) ∧ (reqO q).isSome = true
    rw [reqO_again ho]
    exact ⟨rfl, rfl⟩

set_option maxHeartbeats 1600000 in
theorem requests_long (r : Req) (w : World) (hT : Ha.Tab w) (h : 100 < r.key.size ∨ 100 < r.method.size ∨ 100 < r.path.size ∨ 100 < r.body.size) :
    Calls Tryd.prog 6 #[.agg (rc r)] w fun e w' => e = .returned (.bool true) ∧ Below w.heap.size w w' := by
  have b0 : Aside (Below w.heap.size w (w.alloc (.cells (rc r) 30))) := (Below.refl _ _).alloc (Nat.le_refl _) _
  have H0 : Aside (Ha.Blk (w.alloc (.cells (rc r) 30)) w.heap.size 30 (rc r)) := Ha.Blk.new w 30 (rc r)
  have k0 := awake_any _ (hT.later b0.out)
  by_cases h1 : 100 < r.key.size
  · have d1 : decide (100 < (r.key.size : Int)) = true := by simp; omega
    clear h
    go_enter Tryd.func6, Tryd.ntmps6
    go_wp2_with (go_at_call 7; refine k0.mono ?_; rintro e w1 ⟨rfl, hb1⟩; have H1 : Aside (Ha.Blk w1 w.heap.size 30 (rc r)) := H0.out.below hb1 H0.out.lt; have c3 := H1.out.cell (i := 3) (v := .string r.key) rfl; have c4 := H1.out.cell (i := 4) (v := .string r.method) rfl; have c5 := H1.out.cell (i := 5) (v := .string r.path) rfl; have c6 := H1.out.cell (i := 6) (v := .string r.body) rfl)
    go_ret
    exact ⟨rfl, b0.out.trans (hb1.mono b0.out.size)⟩
  · have d1 : decide (100 < (r.key.size : Int)) = false := by simp; omega
    by_cases h2 : 100 < r.method.size
    · have d2 : decide (100 < (r.method.size : Int)) = true := by simp; omega
      clear h
      go_enter Tryd.func6, Tryd.ntmps6
      go_wp2_with (go_at_call 7; refine k0.mono ?_; rintro e w1 ⟨rfl, hb1⟩; have H1 : Aside (Ha.Blk w1 w.heap.size 30 (rc r)) := H0.out.below hb1 H0.out.lt; have c3 := H1.out.cell (i := 3) (v := .string r.key) rfl; have c4 := H1.out.cell (i := 4) (v := .string r.method) rfl; have c5 := H1.out.cell (i := 5) (v := .string r.path) rfl; have c6 := H1.out.cell (i := 6) (v := .string r.body) rfl)
      go_ret
      exact ⟨rfl, b0.out.trans (hb1.mono b0.out.size)⟩
    · have d2 : decide (100 < (r.method.size : Int)) = false := by simp; omega
      by_cases h3 : 100 < r.path.size
      · have d3 : decide (100 < (r.path.size : Int)) = true := by simp; omega
        clear h
        go_enter Tryd.func6, Tryd.ntmps6
        go_wp2_with (go_at_call 7; refine k0.mono ?_; rintro e w1 ⟨rfl, hb1⟩; have H1 : Aside (Ha.Blk w1 w.heap.size 30 (rc r)) := H0.out.below hb1 H0.out.lt; have c3 := H1.out.cell (i := 3) (v := .string r.key) rfl; have c4 := H1.out.cell (i := 4) (v := .string r.method) rfl; have c5 := H1.out.cell (i := 5) (v := .string r.path) rfl; have c6 := H1.out.cell (i := 6) (v := .string r.body) rfl)
        go_ret
        exact ⟨rfl, b0.out.trans (hb1.mono b0.out.size)⟩
      · have d3 : decide (100 < (r.path.size : Int)) = false := by simp; omega
        have d4 : decide (100 < (r.body.size : Int)) = true := by simp; omega
        clear h
        go_enter Tryd.func6, Tryd.ntmps6
        go_wp2_with (go_at_call 7; refine k0.mono ?_; rintro e w1 ⟨rfl, hb1⟩; have H1 : Aside (Ha.Blk w1 w.heap.size 30 (rc r)) := H0.out.below hb1 H0.out.lt; have c3 := H1.out.cell (i := 3) (v := .string r.key) rfl; have c4 := H1.out.cell (i := 4) (v := .string r.method) rfl; have c5 := H1.out.cell (i := 5) (v := .string r.path) rfl; have c6 := H1.out.cell (i := 6) (v := .string r.body) rfl)
        go_ret
        exact ⟨rfl, b0.out.trans (hb1.mono b0.out.size)⟩

theorem requests_any (r : Req) (w : World) (hT : Ha.Tab w) :
    Calls Tryd.prog 6 #[.agg (rc r)] w fun e w' => e = .returned (.bool true) ∧ Below w.heap.size w w' := by
  by_cases h : 100 < r.key.size ∨ 100 < r.method.size ∨ 100 < r.path.size ∨ 100 < r.body.size
  · exact requests_long r w hT h
  · exact requests_short r w hT (by omega) (by omega) (by omega) (by omega)

theorem cells3 : Tryd.prog.cellsOf 3 = 1 := by kernel_rfl
theorem cells30 : Tryd.prog.cellsOf 30 = 7 := by kernel_rfl

theorem array7 {α : Type} {cs : Array α} (h : cs.size = 7) : ∃ c0 c1 c2 c3 c4 c5 c6, cs = #[c0, c1, c2, c3, c4, c5, c6] := by
  obtain ⟨l⟩ := cs
  match l, h with
  | [c0, c1, c2, c3, c4, c5, c6], _ => exact ⟨c0, c1, c2, c3, c4, c5, c6, rfl⟩

set_option maxRecDepth 100000 in
/-- A request that came in. -/
theorem open_req {H : Type} {enc : TypeId × Value → H} {W : World} {k : Nat} {v : Value} {d : DataW H} {p : List MemPlace} (hv : Value.okWide Tryd.prog W .any k 30 v) (h : DataW.Trod enc Tryd.prog W 0 (fun _ => true) true 30 v d p) : ∃ r : Req, v = .agg (rc r) := by
  obtain ⟨cs, rfl, hs⟩ := okWide_struct Tryd.underlying30 hv
  rw [cells30] at hs
  obtain ⟨c0, c1, c2, c3, c4, c5, c6, rfl⟩ := array7 hs
  obtain ⟨fuel, hf⟩ := h
  obtain ⟨xs, n, _, _, hl, hlen, hfs⟩ := DataW.trod_struct Tryd.underlying30 hf
  have hlen : xs.length = 7 := hlen
  match xs, hlen with
  | [y0, y1, y2, y3, y4, y5, y6], _ =>
    have f0 : DataW.trod enc Tryd.prog W 0 (fun _ => true) true n 3 (([c0, c1, c2, c3, c4, c5, c6].drop 0).take (Tryd.prog.cellsOf 3)) = some y0 := hfs 0 _ rfl
    rw [cells3] at f0
    have f1 : DataW.trod enc Tryd.prog W 0 (fun _ => true) true n 3 (([c0, c1, c2, c3, c4, c5, c6].drop 1).take (Tryd.prog.cellsOf 3)) = some y1 := hfs 1 _ rfl
    rw [cells3] at f1
    have f2 : DataW.trod enc Tryd.prog W 0 (fun _ => true) true n 3 (([c0, c1, c2, c3, c4, c5, c6].drop 2).take (Tryd.prog.cellsOf 3)) = some y2 := hfs 2 _ rfl
    rw [cells3] at f2
    have f3 : DataW.trod enc Tryd.prog W 0 (fun _ => true) true n 9 (([c0, c1, c2, c3, c4, c5, c6].drop 3).take (Tryd.prog.cellsOf 9)) = some y3 := hfs 3 _ rfl
    rw [cells9] at f3
    have f4 : DataW.trod enc Tryd.prog W 0 (fun _ => true) true n 9 (([c0, c1, c2, c3, c4, c5, c6].drop 4).take (Tryd.prog.cellsOf 9)) = some y4 := hfs 4 _ rfl
    rw [cells9] at f4
    have f5 : DataW.trod enc Tryd.prog W 0 (fun _ => true) true n 9 (([c0, c1, c2, c3, c4, c5, c6].drop 5).take (Tryd.prog.cellsOf 9)) = some y5 := hfs 5 _ rfl
    rw [cells9] at f5
    have f6 : DataW.trod enc Tryd.prog W 0 (fun _ => true) true n 9 (([c0, c1, c2, c3, c4, c5, c6].drop 6).take (Tryd.prog.cellsOf 9)) = some y6 := hfs 6 _ rfl
    rw [cells9] at f6
    obtain ⟨n0, e0, _, _⟩ := DataW.trod_int Tryd.underlying3 f0
    obtain ⟨n1, e1, _, _⟩ := DataW.trod_int Tryd.underlying3 f1
    obtain ⟨n2, e2, _, _⟩ := DataW.trod_int Tryd.underlying3 f2
    obtain ⟨s3, e3, _, _⟩ := DataW.trod_string Tryd.underlying9 f3
    obtain ⟨s4, e4, _, _⟩ := DataW.trod_string Tryd.underlying9 f4
    obtain ⟨s5, e5, _, _⟩ := DataW.trod_string Tryd.underlying9 f5
    obtain ⟨s6, e6, _, _⟩ := DataW.trod_string Tryd.underlying9 f6
    simp at e0 e1 e2 e3 e4 e5 e6
    subst e0 e1 e2 e3 e4 e5 e6
    exact ⟨⟨n0, n1, n2, s3, s4, s5, s6⟩, rfl⟩

set_option maxRecDepth 100000 in
theorem canonRequests_lifted (os : Os) (started : os.Started) (H : Type) (enc : TypeId × Value → H) :
    ReturnsInHanded {} Tryd.checked os 6 .any (fun w args => (Rows.canonRequestsSpec.pre enc Tryd.prog Tryd.f6 [] false w args ∧ laidMetH Tryd.prog laid4 w) ∧ sizedMet enc Tryd.prog Tryd.f6 (OpenSpec.ofChange Rows.canonRequestsSpec) false w args)
      (Rows.canonRequestsSpec.post enc Tryd.prog Tryd.f6 false true false false) := by
  refine returnsInHanded_of_change_and (C := Tryd.checked) (X := fun w _ => laidMetH Tryd.prog laid4 w) (fun _ _ _ hh h => h.of_heap hh) own started (by kernel_rfl) Tryd.func6
    (ChangeSpec.witness_shaped (enc := enc) (C := Tryd.checked) (os := os) (X := fun w _ => laidMetH Tryd.prog laid4 w) false (World.laidAll Tryd.prog os laid4) #[.agg (rc zeroR)] 8 (World.laidAll_os _ _ _) (World.shaped_of_ZipB (by kernel_rfl) (by kernel_rfl)) (by kernel_rfl) (by kernel_rfl) (by kernel_rfl) (door_met os _)) ?_
  intro W base args ds gs before hval0 hW _ _ hL _
  have hval : ∀ (j : Nat) t v, Tryd.f6.params[j]? = some t → args[j]? = some v → Value.okWide Tryd.prog W .any base t v := hval0
  have hW' := hW
  obtain ⟨p, q, hA0, hV, rfl, hfz, hnd⟩ := hW
  have hA : DataW.TrodAll enc Tryd.prog W 0 (fun _ => true) true Tryd.f6.params.toList args.toList ds p := hA0
  rw [Tryd.params6] at hA hval
  obtain ⟨v0, vs0, d0, ds0, p0, q0, hargs, rfl, rfl, h0, rr0⟩ := trodAll_cons hA
  obtain ⟨rfl, rfl, rfl⟩ := trodAll_nil rr0
  obtain rfl : args = #[v0] := by cases args; simp_all
  obtain ⟨rfl, rfl⟩ := trodVars_none hV
  obtain ⟨r0, rfl⟩ := open_req (hval 0 30 v0 rfl rfl) h0
  have lt0 : ∀ x ∈ p0, x.block < W.heap.size := by obtain ⟨m, hm⟩ := h0; exact DataW.trod_lt m _ _ _ hm
  clear hA0 hval0
  refine (requests_any r0 W (tab_of_laid hL)).mono fun e W' ⟨he, bel⟩ => ?_
  subst he
  exact ⟨_, rfl, _, _, _, [], _, [], hW', trodAll_mk1 (shut_bool Tryd.underlying4 _), trodAll_cons_mk (Below.trod laidOut (by kernel_rfl) (of_decide_eq_true (by kernel_rfl)) h0 bel lt0) trodAll_mk0, rfl, bel.frame _, fun h => by cases h⟩

theorem canonRequests_row : Rows.CanonRequestsSaid :=
  OpenClaim.holds_of_wide 6 Tryd.f6 rfl rfl rfl rfl rfl rfl rfl ⟨rfl, rfl, rfl, rfl, rfl⟩ rfl rfl rfl rfl rfl (by kernel_rfl) Tryd.func6 (by kernel_rfl)
    (of_decide_eq_true (by kernel_rfl)) (by unfold Func.isWrapper; first | (rw [if_pos (by decide +kernel)]; kernel_rfl) | (rw [if_neg (by decide +kernel)]; exact ⟨rfl, rfl⟩))
    (fun os started H enc _ => canonRequests_lifted os started H enc)

theorem canonRequests_holds : Rows.CanonRequestsCardSaid :=
  Claim7.holds_tied_plain_at .later [] [.data, .data, .pinned, .pinned] true (true, "2cdd596f11ff8d6560d73677dbb3e5c5173416df5e171f46a947bb3e065a17dc") false
    canonRequests_row (fun _ h => by cases h) (by kernel_rfl) (fun _ h => by cases h) canonRequests_row_tie rfl ⟨rfl, rfl⟩ (by kernel_rfl) rfl
    (fun f fn hf hfn => by
      obtain rfl : f = 6 := Option.some.inj ((show Tryd.prog.funcNamed "concierge/conciergelaw05.CanonRequests" = some 6 by kernel_rfl).symm.trans hf) |>.symm
      obtain rfl : fn = Tryd.f6 := (Option.some.inj (Tryd.func6.symm.trans hfn)).symm
      exact ⟨by kernel_rfl, fun j t ht => by
        rw [Tryd.params6] at ht
        have hm : t ∈ [30] := by simpa using Array.mem_of_getElem? ht
        have hall : ([30].all fun u => !Tryd.prog.wantsStandIn u) = true := by kernel_rfl
        exact (show Tryd.prog.wantsStandIn t = false by simpa using List.all_eq_true.1 hall t hm)⟩)
    (by kernel_rfl)
#print axioms canonRequests_holds
end Go.Proofs.YtkijglkjpgjdaaaDoor
