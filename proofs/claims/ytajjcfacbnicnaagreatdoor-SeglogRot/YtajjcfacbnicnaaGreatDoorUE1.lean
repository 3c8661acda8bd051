/-
  SeglogRot, as the tied card: for any list of texts, any limit and any place the law answers true, and all three read behind the call as before; the listed variables are tied to the program's text. No other condition.
-/
import Derived.Test.YtajjcfacbnicnaaGreatDoorU38
import Derived.Test.YtajjcfacbnicnaaGreatDoorU39
import Derived.Test.YtajjcfacbnicnaaGreatDoorU10
import Derived.Test.YtajjcfacbnicnaaGreatDoorCards
import Derived.Test.YtajjcfacbnicnaaGreatDoorTie
import Derived.SevenTiedAt
import Derived.Carry
import Derived.ShutString
import Derived.ChangeOld
import Derived.OpenShut
import Derived.WalkKit
import Derived.WalkSpells
import Derived.WalkLawsBesides
import Derived.Deep.LoopGhost
import Derived.Laws.Externs
import Derived.Below
import Derived.BigQuiet
import Derived.Deep.RegionWith
import Derived.OwnWalk
import Derived.Maps.AppendAt
import Derived.WalkSmall
namespace Go.Proofs.YtajjcfacbnicnaaGreatDoor
open Go.RowKit
open Go.ChangeShapes Go.WideShapes Go.ChangeAt
theorem byte_of {a : Int} (w : (Lit.int .u8 a).wf = true) : ∃ b : UInt8, a = (b.toNat : Int) := by
  have h := bounds_u8 w
  refine ⟨UInt8.ofNat a.toNat, ?_⟩
  rw [UInt8.toNat_ofNat']
  omega
theorem c3of : Tryz.prog.cellsOf 3 = 1 := by kernel_rfl
theorem c5of : Tryz.prog.cellsOf 5 = 1 := by kernel_rfl
theorem c55of : Tryz.prog.cellsOf 55 = 3 := by kernel_rfl
theorem array3 {α : Type} {cs : Array α} (h : cs.size = 3) : ∃ c0 c1 c2, cs = #[c0, c1, c2] := by
  obtain ⟨l⟩ := cs
  match l, h with
  | [c0, c1, c2], _ => exact ⟨c0, c1, c2, rfl⟩
set_option maxRecDepth 100000 in
/-- A place that came in. -/
theorem open_place {H : Type} {enc : TypeId × Value → H} {W : World} {k : Nat} {v : Value} {d : DataW H} {p : List MemPlace} (hv : Value.okWide Tryz.prog W .any k 55 v) (h : DataW.Trod enc Tryz.prog W 0 (fun _ => true) true 55 v d p) : ∃ (file at_ : Int) (y : UInt8), v = .agg #[.int .i64 file, .int .i64 at_, .int .u8 (y.toNat : Int)] := by
  obtain ⟨cs, rfl, hs⟩ := okWide_struct Tryz.underlying55 hv
  rw [c55of] at hs
  obtain ⟨c0, c1, c2, rfl⟩ := array3 hs
  obtain ⟨fuel, hf⟩ := h
  obtain ⟨xs, n, _, _, hl, hlen, hfs⟩ := DataW.trod_struct Tryz.underlying55 hf
  have hlen : xs.length = 3 := hlen
  match xs, hlen with
  | [y0, y1, y2], _ =>
    have f0 : DataW.trod enc Tryz.prog W 0 (fun _ => true) true n 3 (([c0, c1, c2].drop 0).take (Tryz.prog.cellsOf 3)) = some y0 := hfs 0 _ rfl
    rw [c3of] at f0
    have f1 : DataW.trod enc Tryz.prog W 0 (fun _ => true) true n 3 (([c0, c1, c2].drop 1).take (Tryz.prog.cellsOf 3)) = some y1 := hfs 1 _ rfl
    rw [c3of] at f1
    have f2 : DataW.trod enc Tryz.prog W 0 (fun _ => true) true n 5 (([c0, c1, c2].drop 2).take (Tryz.prog.cellsOf 5)) = some y2 := hfs 2 _ rfl
    rw [c5of] at f2
    obtain ⟨n0, e0, _, _⟩ := DataW.trod_int Tryz.underlying3 f0
    obtain ⟨n1, e1, _, _⟩ := DataW.trod_int Tryz.underlying3 f1
    obtain ⟨n2, e2, _, w2⟩ := DataW.trod_int Tryz.underlying5 f2
    simp at e0 e1 e2
    subst e0 e1 e2
    obtain ⟨b, rfl⟩ := byte_of w2
    exact ⟨n0, n1, b, rfl⟩
theorem rot_any (W : World) (hV : Vars W) (a : Option Addr) (n c : Nat) (hnc : n ≤ c) (L : List ByteArray) (hL : Fm.Strs W.heap.size (.slice a n c) L W) (lim file at_ : Int) (y : UInt8) :
    Calls Tryz.prog 5 #[.slice a n c, .int .i64 lim, .agg #[.int .i64 file, .int .i64 at_, .int .u8 (y.toNat : Int)]] W fun e w' => e = .returned (.bool true) ∧ Below W.heap.size W w' := by
  by_cases hn : 12 < n
  · exact rot_long W hV a n c lim file at_ y hn
  · by_cases hy : y = 0
    · exact rot_zero W hV a n c lim file at_ y hn hy
    · obtain ⟨a', c', e, _⟩ := id hL
      simp only [Value.slice.injEq] at e
      obtain ⟨rfl, rfl, rfl⟩ := e
      exact rot_main W hV a c L hL lim file at_ y (by omega) hy
set_option maxRecDepth 100000 in
theorem seglogRot_lifted (os : Os) (started : os.Started) (H : Type) (enc : TypeId × Value → H) :
    ReturnsInHanded {} Tryz.checked os 5 .any (fun w args => (Rows.seglogRotSpec.pre enc Tryz.prog Tryz.f5 [] false w args ∧ laidMetH Tryz.prog laid5 w) ∧ sizedMet enc Tryz.prog Tryz.f5 (OpenSpec.ofChange Rows.seglogRotSpec) false w args)
      (Rows.seglogRotSpec.post enc Tryz.prog Tryz.f5 false true false false) := by
  refine returnsInHanded_of_change_and (C := Tryz.checked) (X := fun w _ => laidMetH Tryz.prog laid5 w) (fun _ _ _ hh h => h.of_heap hh) own started (by kernel_rfl) Tryz.func5
    (ChangeSpec.witness_shaped (enc := enc) (C := Tryz.checked) (os := os) (X := fun w _ => laidMetH Tryz.prog laid5 w) false (World.laidAll Tryz.prog os laid5) #[.slice none 0 0, .int .i64 0, .agg #[.int .i64 0, .int .i64 0, .int .u8 0]] 8 (World.laidAll_os _ _ _) (World.shaped_of_ZipB (by kernel_rfl) (by kernel_rfl)) (by kernel_rfl) (by kernel_rfl) (by kernel_rfl) (door_met os _)) ?_
  intro W base args ds gs before hval0 hW _ _ hL _
  have hval : ∀ (j : Nat) t v, Tryz.f5.params[j]? = some t → args[j]? = some v → Value.okWide Tryz.prog W .any base t v := hval0
  have hW' := hW
  obtain ⟨p, q, hA0, hV, rfl, hfz, hnd⟩ := hW
  have hA : DataW.TrodAll enc Tryz.prog W 0 (fun _ => true) true Tryz.f5.params.toList args.toList ds p := hA0
  rw [Tryz.params5] at hA hval
  obtain ⟨v0, vs0, d0, ds0, p0, q0, hargs, rfl, rfl, h0, r0⟩ := trodAll_cons hA
  obtain ⟨v1, vs1, d1, ds1, p1, q1, rfl, rfl, rfl, h1, r1⟩ := trodAll_cons r0
  obtain ⟨v2, vs2, d2, ds2, p2, q2, rfl, rfl, rfl, h2, r2⟩ := trodAll_cons r1
  obtain ⟨rfl, rfl, rfl⟩ := trodAll_nil r2
  obtain rfl : args = #[v0, v1, v2] := by cases args; simp_all
  obtain ⟨rfl, rfl⟩ := trodVars_none hV
  obtain ⟨a0, len0, cap0, rfl⟩ := okWide_slice Tryz.underlying30 (hval 0 30 v0 rfl rfl)
  have lt0 : ∀ x ∈ p0, x.block < W.heap.size := by obtain ⟨m, hm⟩ := h0; exact DataW.trod_lt m _ _ _ hm
  obtain ⟨X0, hX0⟩ := Fm.open_names h0
  obtain ⟨a1, rfl, rfl, rfl, w1⟩ := open_int Tryz.underlying3 (hval 1 3 v1 rfl rfl) h1
  obtain ⟨file2, at2, y2, rfl⟩ := open_place (hval 2 55 v2 rfl rfl) h2
  have lt2 : ∀ x ∈ p2, x.block < W.heap.size := by obtain ⟨m, hm⟩ := h2; exact DataW.trod_lt m _ _ _ hm
  clear hA0 hval0
  refine (rot_any W (vars_of_laid hL) a0 len0 cap0 (Fm.open_cap h0) X0 hX0 a1 file2 at2 y2).mono fun e W' ⟨he, bel⟩ => ?_
  subst he
  exact ⟨_, rfl, _, _, _, [], _, [], hW', trodAll_mk1 (shut_bool Tryz.underlying4 _), trodAll_cons_mk (Below.trod laidOut (by kernel_rfl) (of_decide_eq_true (by kernel_rfl)) h0 bel lt0) (trodAll_cons_mk (shut_int Tryz.underlying3 w1) (trodAll_cons_mk (Below.trod laidOut (by kernel_rfl) (of_decide_eq_true (by kernel_rfl)) h2 bel lt2) trodAll_mk0)), rfl, bel.frame _, fun h => by cases h⟩

theorem seglogRot_row : Rows.SeglogRotSaid :=
  OpenClaim.holds_of_wide 5 Tryz.f5 rfl rfl rfl rfl rfl rfl rfl ⟨rfl, rfl, rfl, rfl, rfl⟩ rfl rfl rfl rfl rfl (by kernel_rfl) Tryz.func5 (by kernel_rfl)
    (of_decide_eq_true (by kernel_rfl)) (by unfold Func.isWrapper; first | (rw [if_pos (by decide +kernel)]; kernel_rfl) | (rw [if_neg (by decide +kernel)]; exact ⟨rfl, rfl⟩))
    (fun os started H enc _ => seglogRot_lifted os started H enc)

theorem seglogRot_holds : Rows.SeglogRotCardSaid :=
  Claim7.holds_tied_plain_at .later [] [.data, .data, .data, .sentinel, .sentinel] true (true, "09caeaa348e92a4c3eb7732b429f91c7013b9e2d4c23cbec9bc4ac7ce5c0a200") true
    seglogRot_row (fun _ h => by cases h) (by kernel_rfl) (fun _ h => by cases h) seglogRot_row_tie rfl ⟨rfl, rfl⟩ (by kernel_rfl) rfl
    (fun f fn hf hfn => by
      obtain rfl : f = 5 := Option.some.inj ((show Tryz.prog.funcNamed "concierge/conciergelaw11.SeglogRot" = some 5 by kernel_rfl).symm.trans hf) |>.symm
      obtain rfl : fn = Tryz.f5 := (Option.some.inj (Tryz.func5.symm.trans hfn)).symm
      exact ⟨by kernel_rfl, fun j t ht => by
        rw [Tryz.params5] at ht
        have hm : t ∈ [30, 3, 55] := by simpa using Array.mem_of_getElem? ht
        have hall : ([30, 3, 55].all fun u => !Tryz.prog.wantsStandIn u) = true := by kernel_rfl
        exact (show Tryz.prog.wantsStandIn t = false by simpa using List.all_eq_true.1 hall t hm)⟩)
    (by kernel_rfl)
#print axioms seglogRot_holds
end Go.Proofs.YtajjcfacbnicnaaGreatDoor
