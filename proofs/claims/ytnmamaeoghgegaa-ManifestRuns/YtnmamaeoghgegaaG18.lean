/-
  Ytnmamaeoghgegaa: the texts DP7, DX18, DP8, DP9, DP10, one behind the other.
-/
import Derived.Test.YtnmamaeoghgegaaG17
import Derived.Test.YtnmamaeoghgegaaG12
/-
  The document's disk: Append, whatever comes.
-/
namespace Go.Proofs.Ytnmamaeoghgegaa.Dk
open Go.RowKit
set_option maxRecDepth 100000

theorem rappend_early {w : World} {B b : Nat} {d : Rs} (h : RRep w B b d) (ok : ROk d.pl) (n x : ByteArray) (hns : n.size ≤ 1000) (hq : d.pl.power = false ∨ mayBe n = false) :
    Calls Try.prog 44 #[.pointer (some ⟨b, 0, none⟩), .string n, .string x] w fun e w' => e = .returned (.int .i64 (if d.pl.power then 1 else 12)) ∧ ∃ d', RRep w' B b d' ∧ d'.pl = d.pl.spent ∧ Step (d.foot b) (d'.foot b) w w' := by
  have kp := rpower_any h ok.left
  have km := right_any n (by omega)
  clear h ok
  cases hp : d.pl.power with
  | false =>
    rw [hp] at kp
    go_enter Try.func44, Try.ntmps44
    go_wp2_with (go_at_call 86; refine kp.mono ?_; rintro e w1 ⟨rfl, d1, h1, p1, f1, g1, s1⟩)
    go_ret
    exact ⟨rfl, d1, h1, p1, g1 ▸ s1⟩
  | true =>
    rw [hp] at kp hq
    rcases hq with hq | hq
    · cases hq
    · rw [hq] at km
      go_enter Try.func44, Try.ntmps44
      go_wp2_with (first
        | (go_at_call 86; refine kp.mono ?_; rintro e w1 ⟨rfl, d1, h1, p1, f1, g1, s1⟩)
        | (go_at_call 87; refine (km _).mono ?_; rintro e w1' ⟨rfl, rfl⟩))
      go_ret
      exact ⟨rfl, d1, h1, p1, g1 ▸ s1⟩

theorem rappend_any {w : World} {B b : Nat} {d : Rs} (h : RRep w B b d) (ok : ROk d.pl) (hr : Rising d.names) (n x : ByteArray) (hns : n.size ≤ 1000) (hxs : x.size ≤ 1000) (hcnt : d.count ≤ 900000) :
    Calls Try.prog 44 #[.pointer (some ⟨b, 0, none⟩), .string n, .string x] w fun e w' => e = .returned (.int .i64 (rAppend d.pl n x).1) ∧ ∃ d', RRep w' B b d' ∧ d'.pl = (rAppend d.pl n x).2 ∧ Step (d.foot b) (d'.foot b) w w' := by
  have hl : d.pl.files.length = d.files.length := by simp [Rs.pl]
  have hm0 : d.pl.most = d.most := rfl
  unfold rAppend RS.full
  rw [rnames_pl, hl, hm0]
  cases hp : d.pl.power with
  | false =>
    refine (rappend_early h ok n x hns (.inl hp)).mono ?_
    rintro e w' ⟨rfl, h1⟩
    rw [hp]
    exact ⟨rfl, h1⟩
  | true =>
    cases hm : mayBe n with
    | false =>
      refine (rappend_early h ok n x hns (.inr hm)).mono ?_
      rintro e w' ⟨rfl, h1⟩
      rw [hp]
      exact ⟨rfl, h1⟩
    | true =>
      simp only [if_true]
      by_cases hf : d.most < d.pl.used + x.size
      · have hc : ((!has d.names n && decide (16 ≤ d.files.length)) || decide (d.most < d.pl.used + x.size)) = true := by simp [hf]
        rw [hc]
        simp only [if_true]
        cases hh : has d.names n with
        | true => exact rappend_fullB h ok hr n x hns hxs hcnt hp hm hh hf
        | false =>
          by_cases hN : 16 ≤ d.files.length
          · exact rappend_fullC h ok hr n x hns hxs hcnt hp hm hh hN
          · exact rappend_fullE h ok hr n x hns hxs hcnt hp hm hh hN hf
      · cases hh : has d.names n with
        | true =>
          have hc : ((!true && decide (16 ≤ d.files.length)) || decide (d.most < d.pl.used + x.size)) = false := by simp [hf]
          rw [hc]
          simp only [Bool.false_eq_true, if_false]
          exact rappend_there h ok hr n x hns hxs hcnt hp hm hh hf
        | false =>
          by_cases hN : 16 ≤ d.files.length
          · have hc : ((!false && decide (16 ≤ d.files.length)) || decide (d.most < d.pl.used + x.size)) = true := by simp [hN]
            rw [hc]
            simp only [if_true]
            exact rappend_fullC h ok hr n x hns hxs hcnt hp hm hh hN
          · have hc : ((!false && decide (16 ≤ d.files.length)) || decide (d.most < d.pl.used + x.size)) = false := by simp [hf, hN]
            rw [hc]
            simp only [Bool.false_eq_true, if_false]
            exact rappend_new h ok hr n x hns hxs hcnt hp hm hh hN hf
end Go.Proofs.Ytnmamaeoghgegaa.Dk

/-
  Rot: bits of a sure byte are turned.
-/
namespace Go.Proofs.Ytnmamaeoghgegaa.Dk
open Go.RowKit
set_option maxRecDepth 100000

theorem rot_false {w : World} {B b : Nat} {d : Ds} (h : Rep w B b d) (ok : Ok d.pl) (file at_ by_ : Int) (hq : (opRot d.pl file at_ by_).1 = false) :
    Calls Try.prog 54 #[.pointer (some ⟨b, 0, none⟩), .int .i64 file, .int .i64 at_, .int .i64 by_] w fun e w' => e = .returned (.bool false) ∧ w' = w := by
  have c0 := h.c0
  obtain ⟨av, cv, ev⟩ := own_any h.tab
  rw [ev] at c0
  have hfew := ok.dfew
  by_cases h1 : file < 0
  · have d1 : decide (file < 0) = true := decide_eq_true h1
    go_enter Try.func54, Try.ntmps54
    go_wp2
    go_ret
    exact ⟨rfl, rfl⟩
  · have d1 : decide (file < 0) = false := decide_eq_false h1
    obtain ⟨i, rfl⟩ : ∃ i : Nat, file = i := ⟨file.toNat, by omega⟩
    by_cases h2 : d.files.length ≤ i
    · have d2 : decide ((d.files.length : Int) ≤ (i : Int)) = true := decide_eq_true (by omega)
      clear h ev hq
      generalize d.files.length = N at *
      go_enter Try.func54, Try.ntmps54
      go_wp2
      go_ret
      exact ⟨rfl, rfl⟩
    · have d2 : decide ((d.files.length : Int) ≤ (i : Int)) = false := decide_eq_false (by omega)
      by_cases h3 : at_ < 0
      · have d3 : decide (at_ < 0) = true := decide_eq_true h3
        clear h ev hq
        generalize d.files.length = N at *
        go_enter Try.func54, Try.ntmps54
        go_wp2
        go_ret
        exact ⟨rfl, rfl⟩
      · have d3 : decide (at_ < 0) = false := decide_eq_false h3
        have hf := getbang d.files i (by omega)
        obtain ⟨g, cap, ev2, _, _, hg⟩ := h.vf_form hf
        obtain ⟨_, _, e2⟩ := h.fcells hf hg
        have hsure : ¬ at_ < (d.files[i]!.sure : Int) := fun hlt => by
          unfold opRot at hq
          rw [if_pos ⟨by omega, by omega⟩, Int.toNat_natCast, pl_get hf] at hq
          simp only at hq
          rw [if_pos (show at_ < ((d.files[i]!).pl.sure : Int) from hlt)] at hq
          cases hq
        have d4 : decide (((d.files[i]!).sure : Int) ≤ at_) = true := decide_eq_true (by omega)
        rw [ev] at ev2
        injection ev2 with x1 x2 x3
        subst x1
        generalize d.files[i]! = f at *
        clear h ev hq hf hg x2 x3 hsure ok
        generalize d.files.length = N at *
        go_enter Try.func54, Try.ntmps54
        go_wp2
        go_ret
        exact ⟨rfl, rfl⟩

theorem xor_u8 (a b : Nat) (ha : a < 256) (hb : b < 256) : bits BinOp.xor IntKind.u8 (a : Int) (b : Int) = ((a ^^^ b : Nat) : Int) := by
  have hx : a ^^^ b < 2 ^ 8 := Nat.xor_lt_two_pow (by omega) (by omega)
  have h1 : (BitVec.ofInt 8 (a : Int)).toNat = a := by
    rw [BitVec.ofInt_natCast, BitVec.toNat_ofNat]; exact Nat.mod_eq_of_lt (by omega)
  have h2 : (BitVec.ofInt 8 (b : Int)).toNat = b := by
    rw [BitVec.ofInt_natCast, BitVec.toNat_ofNat]; exact Nat.mod_eq_of_lt (by omega)
  show IntKind.u8.wrap ((BitVec.ofInt 8 (a : Int) ^^^ BitVec.ofInt 8 (b : Int)).toNat : Int) = _
  rw [BitVec.toNat_xor, h1, h2, IntKind.wrap_u8]
  omega

/-- A byte is turned by a number. -/
theorem xor_by (x : UInt8) (n : Int) : bits BinOp.xor IntKind.u8 (x.toNat : Int) (n % 256) = ((x ^^^ UInt8.ofNat (n % 256).toNat).toNat : Int) := by
  have h0 : 0 ≤ n % 256 ∧ n % 256 < 256 := by omega
  have e : n % 256 = (((n % 256).toNat : Nat) : Int) := by omega
  have hx := x.toNat_lt
  rw [e, xor_u8 _ _ (by omega) (by omega)]
  congr 1
  rw [UInt8.toNat_xor]
  congr 1
  simp
  omega

theorem Rep.setByte {w : World} {B b gb i j : Nat} {d : Ds} {f : Fv} (h : Rep w B b d) (hf : d.files[i]? = some f) (hgb : f.v.ownBlock = some gb) (hj : j < f.bytes.length) (x : UInt8) :
    Rep (w.setCell ⟨gb, j, none⟩ (.int .u8 (x.toNat : Int))) B b { d with files := d.files.set i ⟨f.name, f.bytes.set j x, f.sure, f.v⟩ } ∧ Step (d.foot b) (Ds.foot b { d with files := d.files.set i ⟨f.name, f.bytes.set j x, f.sure, f.v⟩ }) w (w.setCell ⟨gb, j, none⟩ (.int .u8 (x.toNat : Int))) := by
  have hm : f ∈ d.files := List.mem_of_getElem? hf
  have keep : ∀ k, k ≠ gb → (w.setCell ⟨gb, j, none⟩ (.int .u8 (x.toNat : Int))).heap[k]? = w.heap[k]? := fun k hk => Below.heap_setCell w ⟨gb, j, none⟩ _ k hk
  have hfo : Ds.foot b { d with files := d.files.set i ⟨f.name, f.bytes.set j x, f.sure, f.v⟩ } = d.foot b := by
    unfold Ds.foot
    simp only
    rw [flatMap_set_same (fun f => ob f.v) d.files i f ⟨f.name, f.bytes.set j x, f.sure, f.v⟩ hf rfl]
  obtain ⟨A, C, e1, e2, _⟩ := split_at hf (⟨f.name, f.bytes.set j x, f.sure, f.v⟩ : Fv)
  have hn0 := h.nodup
  rw [show d.foot b = ([b] ++ ob d.vf ++ ob d.vp ++ A.flatMap (fun f => ob f.v)) ++ (ob f.v ++ C.flatMap fun f => ob f.v) by unfold Ds.foot; rw [e1]; simp] at hn0
  have hAC : ∀ y, y ∈ A ∨ y ∈ C → y.v.ownBlock ≠ some gb := by
    intro y hy hk
    rcases hy with hy | hy
    · exact (List.nodup_append.1 hn0).2.2 gb (List.mem_append_right _ (List.mem_flatMap.2 ⟨y, hy, mem_ob.2 hk⟩)) gb (List.mem_append_left _ (mem_ob.2 hgb)) rfl
    · exact app_ne (List.nodup_append.1 hn0).2.1 (mem_ob.2 hgb) (List.mem_flatMap.2 ⟨y, hy, mem_ob.2 hk⟩)
  have hin : ∀ y, y ∈ A ∨ y ∈ C → y ∈ d.files := fun y hy => by
    rw [e1]
    rcases hy with hy | hy
    · exact List.mem_append_left _ hy
    · exact List.mem_append_right _ (List.mem_cons_of_mem _ hy)
  refine ⟨⟨h.ge, (keep b (fun e => h.b_f hm hgb e.symm)).trans h.blk, ?_, own_frame h.pcs fun k hk => keep k (fun e => h.vp_f hm (e ▸ hk) hgb), ?_, by rw [hfo]; exact h.nodup⟩, ?_⟩
  · simp only [List.length_set]
    rw [flatMap_set_same Fv.cells d.files i f ⟨f.name, f.bytes.set j x, f.sure, f.v⟩ hf rfl]
    exact own_frame h.tab fun k hk => keep k (fun e => h.vf_f hm (e ▸ hk) hgb)
  · intro y hy
    simp only at hy
    rw [e2] at hy
    have : y = ⟨f.name, f.bytes.set j x, f.sure, f.v⟩ ∨ (y ∈ A ∨ y ∈ C) := by
      rcases List.mem_append.1 hy with hy | hy
      · exact .inr (.inl hy)
      · rcases List.mem_cons.1 hy with hy | hy
        · exact .inl hy
        · exact .inr (.inr hy)
    rcases this with rfl | hy
    · have := own_set (h.rows f hm) hgb j (by omega) (.int .u8 (x.toNat : Int))
      simp only [List.length_set]
      rw [show bcells (f.bytes.set j x) = (bcells f.bytes).set j (.int .u8 (x.toNat : Int)) by simp [bcells, List.map_set]]
      exact this
    · exact own_frame (h.rows y (hin y hy)) fun k hk => keep k (fun e => hAC y hy (e ▸ hk))
  · rw [hfo]
    exact Step.setb w (foot_f hm hgb) j _

theorem rot_any {w : World} {B b : Nat} {d : Ds} (h : Rep w B b d) (ok : Ok d.pl) (file at_ by_ : Int) :
    Calls Try.prog 54 #[.pointer (some ⟨b, 0, none⟩), .int .i64 file, .int .i64 at_, .int .i64 by_] w fun e w' => e = .returned (.bool (opRot d.pl file at_ by_).1) ∧ ∃ d', Rep w' B b d' ∧ d'.pl = (opRot d.pl file at_ by_).2 ∧ Step (d.foot b) (d'.foot b) w w' := by
  by_cases hq : (opRot d.pl file at_ by_).1 = false
  · have h2 : (opRot d.pl file at_ by_).2 = d.pl := by
      unfold opRot at hq ⊢
      split at hq
      · split at hq
        · split at hq
          · cases hq
          · rename_i h1 _ _ h3 h4
            rw [if_pos h1]
            rw [if_neg h4]
        · rename_i h1 _ h3
          rw [if_pos h1]
      · rename_i h1
        rw [if_neg h1]
    refine (rot_false h ok file at_ by_ hq).mono ?_
    rintro e w' ⟨rfl, rfl⟩
    exact ⟨by rw [hq], d, h, h2.symm, Step.refl _ _⟩
  · have hq' : (opRot d.pl file at_ by_).1 = true := by simpa using hq
    unfold opRot at hq' ⊢
    by_cases h1 : 0 ≤ file ∧ 0 ≤ at_
    · rw [if_pos h1] at hq' ⊢
      obtain ⟨i, rfl⟩ : ∃ i : Nat, file = i := ⟨file.toNat, by omega⟩
      obtain ⟨j, rfl⟩ : ∃ j : Nat, at_ = j := ⟨at_.toNat, by omega⟩
      rw [Int.toNat_natCast, Int.toNat_natCast] at hq' ⊢
      by_cases hi : i < d.files.length
      · have hf := getbang d.files i hi
        rw [pl_get hf] at hq' ⊢
        simp only at hq' ⊢
        by_cases hs : (j : Int) < ((d.files[i]!).pl.sure : Int)
        · rw [if_pos hs] at hq' ⊢
          have hs' : j < (d.files[i]!).sure := by have : ((d.files[i]!).pl.sure) = (d.files[i]!).sure := rfl; omega
          have hfm := List.mem_of_getElem? hf
          have hsl : (d.files[i]!).sure ≤ (d.files[i]!).bytes.length := ok.sure (f := (d.files[i]!).pl) (List.mem_map.2 ⟨_, hfm, rfl⟩)
          obtain ⟨g, cap, ev, hcap, _, hg⟩ := h.vf_form hf
          obtain ⟨_, y1, y2⟩ := h.fcells hf hg
          obtain ⟨gb, cb, eb, hcb, _, hgb⟩ := own_form (h.rows _ hfm) (by omega)
          have c0 := h.c0
          rw [ev] at c0
          rw [eb] at y1
          have hjl : j < (d.files[i]!).bytes.length := by omega
          have yb : w.cell? ⟨gb, j, none⟩ = some (.int .u8 (((d.files[i]!).bytes[j]!).toNat : Int)) := own_cell (h.rows _ hfm) hgb (by
            unfold bcells
            rw [List.getElem?_map, getbang _ j hjl]
            rfl)
          have yf := own_frozen (h.rows _ hfm) hgb j
          have SB : Aside _ := h.setByte hf hgb hjl (((d.files[i]!).bytes[j]!) ^^^ UInt8.ofNat (by_ % 256).toNat)
          have PL : Aside (∀ x : UInt8, Ds.pl { d with files := d.files.set i ⟨(d.files[i]!).name, (d.files[i]!).bytes.set j x, (d.files[i]!).sure, (d.files[i]!).v⟩ } = { d.pl with files := d.pl.files.set i ⟨(d.files[i]!).pl.name, (d.files[i]!).pl.bytes.set j x, (d.files[i]!).pl.sure⟩ }) := fun x => by
            simp only [Ds.pl, List.map_set]
            rfl
          have hx := xor_by ((d.files[i]!).bytes[j]!) by_
          have hfew := ok.dfew
          rw [← hx] at SB
          have d1 : decide (((i : Nat) : Int) < 0) = false := decide_eq_false (by omega)
          have d2 : decide ((d.files.length : Int) ≤ (i : Int)) = false := decide_eq_false (by omega)
          have d3 : decide (((j : Nat) : Int) < 0) = false := decide_eq_false (by omega)
          have d4 : decide (((d.files[i]!).sure : Int) ≤ (j : Int)) = false := decide_eq_false (by omega)
          have d2' : decide (d.files.length ≤ i) = false := decide_eq_false (by omega)
          have d4' : decide ((d.files[i]!).sure ≤ j) = false := decide_eq_false (by omega)
          have hpl : Ds.pl ({ d with files := d.files.set i ⟨(d.files[i]!).name, (d.files[i]!).bytes.set j ((d.files[i]!).bytes[j]! ^^^ UInt8.ofNat (by_ % 256).toNat), (d.files[i]!).sure, (d.files[i]!).v⟩ } : Ds) = { d.pl with files := d.pl.files.set i ⟨(d.files[i]!).pl.name, (d.files[i]!).pl.bytes.set j ((d.files[i]!).pl.bytes[j]! ^^^ UInt8.ofNat (by_ % 256).toNat), (d.files[i]!).pl.sure⟩ } := PL.out _
          rw [← hpl]
          obtain ⟨DD, hDD⟩ : ∃ DD : Ds, ({ d with files := d.files.set i ⟨(d.files[i]!).name, (d.files[i]!).bytes.set j ((d.files[i]!).bytes[j]! ^^^ UInt8.ofNat (by_ % 256).toNat), (d.files[i]!).sure, (d.files[i]!).v⟩ } : Ds) = DD := ⟨_, rfl⟩
          rw [hDD] at SB ⊢
          clear hq hq' h ev eb hgb hg hf hfm ok hsl hx hs h1 PL hpl hDD
          generalize d.files[i]! = f at *
          generalize f.bytes[j]! = y at *
          generalize hN : d.files.length = N at *
          go_enter Try.func54, Try.ntmps54
          go_wp2
          go_ret
          exact ⟨rfl, DD, SB.out.1, rfl, SB.out.2⟩
        · rw [if_neg hs] at hq'
          cases hq'
      · rw [List.getElem?_eq_none (by simp [Ds.pl]; omega)] at hq'
        cases hq'
    · rw [if_neg h1] at hq'
      cases hq'
end Go.Proofs.Ytnmamaeoghgegaa.Dk

/-
  The document's disk: Rot.
-/
namespace Go.Proofs.Ytnmamaeoghgegaa.Dk
open Go.RowKit
set_option maxRecDepth 100000

def rRot (s : RS) (file at_ by_ : Int) : Bool × RS :=
  if 0 ≤ file ∧ 0 ≤ at_ then match s.files[file.toNat]? with
    | some f => if at_ < (rSure s f.name : Int) then (true, { s with files := s.files.set file.toNat ⟨f.name, f.bytes.set at_.toNat (f.bytes[at_.toNat]! ^^^ UInt8.ofNat (by_ % 256).toNat), f.late⟩ }) else (false, s)
    | none => (false, s)
  else (false, s)

theorem rrot_false {w : World} {B b : Nat} {d : Rs} (h : RRep w B b d) (ok : ROk d.pl) (file at_ by_ : Int) (hq : (rRot d.pl file at_ by_).1 = false) :
    Calls Try.prog 55 #[.pointer (some ⟨b, 0, none⟩), .int .i64 file, .int .i64 at_, .int .i64 by_] w fun e w' => e = .returned (.bool false) ∧ w' = w := by
  have c0 := h.c0
  obtain ⟨av, cv, ev⟩ := own_any h.tab
  rw [ev] at c0
  have hfew := ok.dfew
  by_cases h1 : file < 0
  · have d1 : decide (file < 0) = true := decide_eq_true h1
    go_enter Try.func55, Try.ntmps55
    go_wp2
    go_ret
    exact ⟨rfl, rfl⟩
  · have d1 : decide (file < 0) = false := decide_eq_false h1
    obtain ⟨i, rfl⟩ : ∃ i : Nat, file = i := ⟨file.toNat, by omega⟩
    by_cases h2 : d.files.length ≤ i
    · have d2 : decide ((d.files.length : Int) ≤ (i : Int)) = true := decide_eq_true (by omega)
      clear h ev hq
      generalize d.files.length = N at *
      go_enter Try.func55, Try.ntmps55
      go_wp2
      go_ret
      exact ⟨rfl, rfl⟩
    · have d2 : decide ((d.files.length : Int) ≤ (i : Int)) = false := decide_eq_false (by omega)
      by_cases h3 : at_ < 0
      · have d3 : decide (at_ < 0) = true := decide_eq_true h3
        clear h ev hq
        generalize d.files.length = N at *
        go_enter Try.func55, Try.ntmps55
        go_wp2
        go_ret
        exact ⟨rfl, rfl⟩
      · have d3 : decide (at_ < 0) = false := decide_eq_false h3
        have hf := getbang d.files i (by omega)
        obtain ⟨g, cap, ev2, _, _, hg⟩ := h.vf_form hf
        obtain ⟨e0, _, _⟩ := h.fcells hf hg
        have ks := rsure_any h ok (d.files[i]!).name
        have hsure : ¬ at_ < (rSure d.pl (d.files[i]!).name : Int) := fun hlt => by
          unfold rRot at hq
          rw [if_pos ⟨by omega, by omega⟩, Int.toNat_natCast, rpl_get hf] at hq
          simp only at hq
          rw [if_pos (show at_ < (rSure d.pl (d.files[i]!).pl.name : Int) from hlt)] at hq
          cases hq
        have d4 : decide ((rSure d.pl (d.files[i]!).name : Int) ≤ at_) = true := decide_eq_true (by omega)
        rw [ev] at ev2
        injection ev2 with x1 x2 x3
        subst x1
        generalize d.files[i]! = f at *
        generalize rSure d.pl f.name = RSU at *
        clear h ev hq hf hg x2 x3 hsure ok
        generalize d.files.length = N at *
        go_enter Try.func55, Try.ntmps55
        go_wp2_with (go_at_call 59; refine ks.mono ?_; rintro e w1 ⟨rfl, rfl⟩)
        go_ret
        exact ⟨rfl, rfl⟩

/-- A copy of a row of bytes, of which one is another one, in a file's place. -/
theorem RRep.rotStep {u : World} {B b g i j : Nat} {d : Rs} {f : Gv} (h : RRep u B b d) (hf : d.files[i]? = some f) (hg : d.vf.ownBlock = some g) (hj : j < f.bytes.length) (hl : f.bytes.length ≤ 1000000) (x : UInt8) :
    ∃ gb c w2, (Builtin.append_ #[49, 49] 49 #[.slice (some ⟨u.heap.size, 0, none⟩) 0 0, f.vb]).run Try.prog (u.alloc (.cells #[] 5)) = .ok (.slice (some ⟨gb, 0, none⟩) f.bytes.length c) w2 ∧ w2.cell? ⟨gb, j, none⟩ = some (.int .u8 ((f.bytes[j]!).toNat : Int)) ∧ w2.frozen? ⟨gb, j, none⟩ = false ∧
      (w2.setCell ⟨gb, j, none⟩ (.int .u8 (x.toNat : Int))).cell? ⟨b, 0, none⟩ = some d.vf ∧ (w2.setCell ⟨gb, j, none⟩ (.int .u8 (x.toNat : Int))).cell? ⟨g, i * 3 + 1, none⟩ = some f.vb ∧ (w2.setCell ⟨gb, j, none⟩ (.int .u8 (x.toNat : Int))).frozen? ⟨g, i * 3 + 1, none⟩ = false ∧
      RRep ((w2.setCell ⟨gb, j, none⟩ (.int .u8 (x.toNat : Int))).setCell ⟨g, i * 3 + 1, none⟩ (.slice (some ⟨gb, 0, none⟩) f.bytes.length c)) B b { d with files := d.files.set i ⟨f.name, f.bytes.set j x, f.late, .slice (some ⟨gb, 0, none⟩) f.bytes.length c, f.vl⟩ } ∧ Step (d.foot b) (Rs.foot b { d with files := d.files.set i ⟨f.name, f.bytes.set j x, f.late, .slice (some ⟨gb, 0, none⟩) f.bytes.length c, f.vl⟩ }) u ((w2.setCell ⟨gb, j, none⟩ (.int .u8 (x.toNat : Int))).setCell ⟨g, i * 3 + 1, none⟩ (.slice (some ⟨gb, 0, none⟩) f.bytes.length c)) := by
  have hm : f ∈ d.files := List.mem_of_getElem? hf
  have hB : B ≤ u.heap.size := by have := h.lt b rfoot_b; omega
  obtain ⟨i0, hi0, hz0, hzs, hzb⟩ := info_parts info5
  have hE : (u.alloc (.cells #[] 5)).ownsRow B 5 1 (.slice (some ⟨u.heap.size, 0, none⟩) 0 0) 0 [] := World.ownsRow_made u #[] 0 hB (by unfold maxLen; omega) rfl
  have hb1 : Below u.heap.size u (u.alloc (.cells #[] 5)) := (Below.refl _ _).alloc (Nat.le_refl _) _
  obtain ⟨gf, cf, ef, _, _, hgf⟩ := own_form (h.rb f hm) (by omega)
  obtain ⟨v2, w2, hr, ho, hgr, _, hat⟩ := run_append_own_at (P := Try.prog) (u.alloc (.cells #[] 5)) B 49 49 5 i0 (.int .u8 0) 1 1 Try.underlying49 hi0 hz0 hzs hzb rfl (by omega) _ 0 [] hE ⟨gf, 0, none⟩ f.bytes.length cf (bcells f.bytes) (by rw [bcells_len]; omega) (fun k y hk => by
    rw [Addr.add_lit, Nat.zero_add]
    exact cell_below (own_cell (h.rb f hm) hgf hk) hb1) (fun y hy => by
      unfold bcells at hy
      obtain ⟨z, _, rfl⟩ := List.mem_map.1 hy
      rfl) (by unfold maxLen; omega) (by omega) (by simp; omega)
  rw [Nat.zero_add, List.nil_append] at ho
  obtain ⟨gb, c, e2, _, _, hgb⟩ := own_form ho (by omega)
  subst e2
  have hgbge : u.heap.size ≤ gb := by
    rcases hat with e | e
    · injection e with e
      have e' : gb = u.heap.size := e
      omega
    · injection e with e
      have e' : gb = (u.alloc (.cells #[] 5)).heap.size := e
      simp at e'
      omega
  have hkeep : ∀ k, k < u.heap.size → w2.heap[k]? = u.heap[k]? := fun k hk => (hgr.block k (by simp; omega) (fun e => by injection e with e; have e' : k = u.heap.size := e; omega)).trans (hb1.block k hk)
  have hs : u.heap.size ≤ w2.heap.size := Nat.le_trans hb1.size hgr.size
  have hgr1 : u.grownBy (w2.setCell ⟨gb, j, none⟩ (.int .u8 (x.toNat : Int))) f.vb.ownBlock := ⟨hgr.os.trans hb1.os, hgr.tape.trans hb1.tape, hgr.output.trans hb1.output, by simpa using hs, fun k hk _ => (Below.heap_setCell w2 ⟨gb, j, none⟩ _ k (fun e => by have e' : k = gb := e; omega)).trans (hkeep k hk)⟩
  have ho1 : (w2.setCell ⟨gb, j, none⟩ (.int .u8 (x.toNat : Int))).ownsRow B 5 1 (.slice (some ⟨gb, 0, none⟩) f.bytes.length c) (f.bytes.set j x).length (bcells (f.bytes.set j x)) := by
    rw [List.length_set, show bcells (f.bytes.set j x) = (bcells f.bytes).set j (.int .u8 (x.toNat : Int)) by simp [bcells, List.map_set]]
    exact own_set ho hgb j (by omega) _
  have hG := h.growB hf hg ho1 (.inr ⟨gb, rfl, hgbge⟩) hgr1
  refine ⟨gb, c, w2, by rw [ef]; exact hr, own_cell ho hgb (by unfold bcells; rw [List.getElem?_map, getbang _ j hj]; rfl), own_frozen ho hgb j, ?_, ?_, ?_, hG.1, hG.2⟩
  · exact hgr1.cell h.c0 (fun e => h.b_f hm (obs_b e.symm) rfl)
  · exact hgr1.cell (h.fcells hf hg).2.1 (fun e => h.vf_f hm hg (obs_b e.symm))
  · have e : (w2.setCell ⟨gb, j, none⟩ (.int .u8 (x.toNat : Int))).heap[g]? = u.heap[g]? := hgr1.block g (h.tab.lt g hg).2 (fun e => h.vf_f hm hg (obs_b e.symm))
    rw [World.frozen?_of_block (a := ⟨g, i * 3 + 1, none⟩) e]
    exact own_frozen h.tab hg _

theorem rsure_own {d : Rs} (hr : Rising d.names) {i : Nat} {f : Gv} (hf : d.files[i]? = some f) : rSure d.pl f.name = sureN f.late := by
  have hi : i < d.files.length := (List.getElem?_eq_some_iff.1 hf).1
  have hin : i < d.names.length := by simpa [Rs.names] using hi
  have hn : d.names[i]! = f.name := by
    rw [show d.names[i]! = d.files[i]!.name from gnames_get d.files i hi, getElem!_pos d.files i hi, (List.getElem?_eq_some_iff.1 hf).2]
  have hh : has d.names f.name = true := has_iff.2 (List.mem_map.2 ⟨f, List.mem_of_getElem? hf, rfl⟩)
  have hp : place d.names f.name = i := by
    have := place_at hr i hin
    rwa [hn] at this
  unfold rSure
  rw [rnames_pl, at_place hr, hh, hp]
  simp only [if_true, Int.toNat_natCast]
  rw [rpl_get hf]
  rfl

set_option maxHeartbeats 1600000 in
theorem rrot_true {w : World} {B b i j : Nat} {d : Rs} {f : Gv} (h : RRep w B b d) (ok : ROk d.pl) (hr : Rising d.names) (by_ : Int) (hf : d.files[i]? = some f) (hs : j < sureN f.late) :
    Calls Try.prog 55 #[.pointer (some ⟨b, 0, none⟩), .int .i64 (i : Int), .int .i64 (j : Int), .int .i64 by_] w fun e w' => e = .returned (.bool true) ∧ ∃ d', RRep w' B b d' ∧ d'.pl = { d.pl with files := d.pl.files.set i ⟨f.name, f.bytes.set j (f.bytes[j]! ^^^ UInt8.ofNat (by_ % 256).toNat), f.late⟩ } ∧ Step (d.foot b) (d'.foot b) w w' := by
  have hi : i < d.files.length := (List.getElem?_eq_some_iff.1 hf).1
  have hfm := List.mem_of_getElem? hf
  obtain ⟨hl1, hl2⟩ := ok.dlate hfm
  have hsl : sureN f.late ≤ f.late.length := List.countP_le_length
  have hfew := ok.dfew
  obtain ⟨g, cap, ev, hcap, _, hg⟩ := h.vf_form hf
  obtain ⟨y0, y1, y2⟩ := h.fcells hf hg
  obtain ⟨gf, cf, ef, _, _, hgf⟩ := own_form (h.rb f hfm) (by omega)
  have c0 := h.c0
  have ks := rsure_any h ok f.name
  rw [rsure_own hr hf] at ks
  obtain ⟨gb, c, w2, hr2, q1, q2, q3, q4, q5, R2, S2⟩ := h.rotStep hf hg (j := j) (by omega) (by omega) (f.bytes[j]! ^^^ UInt8.ofNat (by_ % 256).toNat)
  have hx := xor_by (f.bytes[j]!) by_
  rw [← hx] at q3 q4 q5 R2 S2
  have PL : Aside (Rs.pl ({ d with files := d.files.set i ⟨f.name, f.bytes.set j (f.bytes[j]! ^^^ UInt8.ofNat (by_ % 256).toNat), f.late, .slice (some ⟨gb, 0, none⟩) f.bytes.length c, f.vl⟩ } : Rs) = { d.pl with files := d.pl.files.set i ⟨f.name, f.bytes.set j (f.bytes[j]! ^^^ UInt8.ofNat (by_ % 256).toNat), f.late⟩ }) := by
    show _ = _
    simp only [Rs.pl, List.map_set]
    rfl
  rw [← PL.out]
  obtain ⟨DD, hDD⟩ : ∃ DD : Rs, ({ d with files := d.files.set i ⟨f.name, f.bytes.set j (f.bytes[j]! ^^^ UInt8.ofNat (by_ % 256).toNat), f.late, .slice (some ⟨gb, 0, none⟩) f.bytes.length c, f.vl⟩ } : Rs) = DD := ⟨_, rfl⟩
  have RA : Aside _ := And.intro R2 S2
  rw [hDD] at RA ⊢
  rw [ev] at c0 q3
  rw [ef] at y1 q4 hr2
  have hbl := h.b_lt
  have hgl := (h.tab.lt g hg).2
  have n1 : ¬ b = w.heap.size := by omega
  have n2 : ¬ w.heap.size = b := by omega
  have n3 : ¬ g = w.heap.size := by omega
  have n4 : ¬ w.heap.size = g := by omega
  have c0A : ∀ o : Obj, (w.alloc o).cell? ⟨b, 0, none⟩ = some (.slice (some ⟨g, 0, none⟩) d.files.length cap) := fun o => cell_below c0 ((Below.refl _ _).alloc (Nat.le_refl _) o)
  have y1A : ∀ o : Obj, (w.alloc o).cell? ⟨g, i * 3 + 1, none⟩ = some (.slice (some ⟨gf, 0, none⟩) f.bytes.length cf) := fun o => cell_below y1 ((Below.refl _ _).alloc (Nat.le_refl _) o)
  have d1 : decide (((i : Nat) : Int) < 0) = false := decide_eq_false (by omega)
  have d2 : decide ((d.files.length : Int) ≤ (i : Int)) = false := decide_eq_false (by omega)
  have d3 : decide (((j : Nat) : Int) < 0) = false := decide_eq_false (by omega)
  have d4 : decide ((sureN f.late : Int) ≤ (j : Int)) = false := decide_eq_false (by omega)
  have d2' : decide (d.files.length ≤ i) = false := decide_eq_false (by omega)
  have d4' : decide (sureN f.late ≤ j) = false := decide_eq_false (by omega)
  have hjl : j < f.bytes.length := by omega
  clear hDD PL R2 S2 h ok hr ev ef hf hfm hg hgf hl1 hsl hx y2
  generalize f.bytes[j]! = y at *
  generalize sureN f.late = SN at *
  generalize d.files.length = N at *
  go_enter Try.func55, Try.ntmps55
  go_wp2_with (first
    | (go_at_call 59; refine ks.mono ?_; rintro e w1 ⟨rfl, rfl⟩)
    | (at_builtin; refine Lib.wpList_append_run _ rfl _ _ _ _ rfl _ _ rfl rfl _ _ hr2 ?_))
  go_ret
  exact ⟨rfl, DD, RA.out.1, rfl, RA.out.2⟩

theorem rrot_any {w : World} {B b : Nat} {d : Rs} (h : RRep w B b d) (ok : ROk d.pl) (hr : Rising d.names) (file at_ by_ : Int) :
    Calls Try.prog 55 #[.pointer (some ⟨b, 0, none⟩), .int .i64 file, .int .i64 at_, .int .i64 by_] w fun e w' => e = .returned (.bool (rRot d.pl file at_ by_).1) ∧ ∃ d', RRep w' B b d' ∧ d'.pl = (rRot d.pl file at_ by_).2 ∧ Step (d.foot b) (d'.foot b) w w' := by
  by_cases hq : (rRot d.pl file at_ by_).1 = false
  · have h2 : (rRot d.pl file at_ by_).2 = d.pl := by
      unfold rRot at hq ⊢
      split at hq
      · split at hq
        · split at hq
          · cases hq
          · rename_i h1 _ _ h3 h4
            rw [if_pos h1]
            rw [if_neg h4]
        · rename_i h1 _ h3
          rw [if_pos h1]
      · rename_i h1
        rw [if_neg h1]
    refine (rrot_false h ok file at_ by_ hq).mono ?_
    rintro e w' ⟨rfl, rfl⟩
    exact ⟨by rw [hq], d, h, h2.symm, Step.refl _ _⟩
  · have hq' : (rRot d.pl file at_ by_).1 = true := by simpa using hq
    unfold rRot at hq' ⊢
    by_cases h1 : 0 ≤ file ∧ 0 ≤ at_
    · rw [if_pos h1] at hq' ⊢
      obtain ⟨i, rfl⟩ : ∃ i : Nat, file = i := ⟨file.toNat, by omega⟩
      obtain ⟨j, rfl⟩ : ∃ j : Nat, at_ = j := ⟨at_.toNat, by omega⟩
      rw [Int.toNat_natCast, Int.toNat_natCast] at hq' ⊢
      by_cases hi : i < d.files.length
      · have hf := getbang d.files i hi
        rw [rpl_get hf] at hq' ⊢
        simp only at hq' ⊢
        by_cases hs : (j : Int) < (rSure d.pl (d.files[i]!).pl.name : Int)
        · rw [if_pos hs]
          rw [show (d.files[i]!).pl.name = (d.files[i]!).name from rfl, rsure_own hr hf] at hs
          exact rrot_true h ok hr by_ hf (by omega)
        · rw [if_neg hs] at hq'
          cases hq'
      · rw [List.getElem?_eq_none (by simp [Rs.pl]; omega)] at hq'
        cases hq'
    · rw [if_neg h1] at hq'
      cases hq'
end Go.Proofs.Ytnmamaeoghgegaa.Dk

/-
  The document's disk: Rename, where nothing goes.
-/
namespace Go.Proofs.Ytnmamaeoghgegaa.Dk
open Go.RowKit
set_option maxRecDepth 100000

theorem rrename_early {w : World} {B b : Nat} {d : Rs} (h : RRep w B b d) (ok : ROk d.pl) (n t : ByteArray) (hts : t.size ≤ 1000) (hq : d.pl.power = false ∨ mayBe t = false) :
    Calls Try.prog 46 #[.pointer (some ⟨b, 0, none⟩), .string n, .string t] w fun e w' => e = .returned (.int .i64 (if d.pl.power then 1 else 12)) ∧ ∃ d', RRep w' B b d' ∧ d'.pl = d.pl.spent ∧ Step (d.foot b) (d'.foot b) w w' := by
  have kp := rpower_any h ok.left
  have km := right_any t (by omega)
  clear h ok
  cases hp : d.pl.power with
  | false =>
    rw [hp] at kp
    go_enter Try.func46, Try.ntmps46
    go_wp2_with (go_at_call 86; refine kp.mono ?_; rintro e w1 ⟨rfl, d1, h1, p1, f1, g1, s1⟩)
    go_ret
    exact ⟨rfl, d1, h1, p1, g1 ▸ s1⟩
  | true =>
    rw [hp] at kp hq
    rcases hq with hq | hq
    · cases hq
    · rw [hq] at km
      go_enter Try.func46, Try.ntmps46
      go_wp2_with (first
        | (go_at_call 86; refine kp.mono ?_; rintro e w1 ⟨rfl, d1, h1, p1, f1, g1, s1⟩)
        | (go_at_call 87; refine (km _).mono ?_; rintro e w1' ⟨rfl, rfl⟩))
      go_ret
      exact ⟨rfl, d1, h1, p1, g1 ▸ s1⟩

theorem rrename_none {w : World} {B b : Nat} {d : Rs} (h : RRep w B b d) (ok : ROk d.pl) (n t : ByteArray) (hts : t.size ≤ 1000) (hp : d.pl.power = true) (hm : mayBe t = true) (hh : has d.names n = false) :
    Calls Try.prog 46 #[.pointer (some ⟨b, 0, none⟩), .string n, .string t] w fun e w' => e = .returned (.int .i64 6) ∧ ∃ d', RRep w' B b d' ∧ d'.pl = d.pl.spent ∧ Step (d.foot b) (d'.foot b) w w' := by
  have kp := rpower_any h ok.left
  have km := right_any t (by omega)
  have hfew := ok.dfew
  rw [hp] at kp
  rw [hm] at km
  have KA : Aside (∀ (d1 : Rs) (u : World), RRep u B b d1 → d1.files = d.files → Calls Try.prog 48 #[.pointer (some ⟨b, 0, none⟩), .string n] u fun e w' => e = .returned (.int .i64 (atOf d.names n)) ∧ w' = u) := fun d1 u hu hf => by
    have := at_any hu (by rw [hf]; omega) n
    rwa [show d1.names = d.names by unfold Rs.names; rw [hf]] at this
  rw [at_none hh] at KA
  clear h ok
  go_enter Try.func46, Try.ntmps46
  go_wp2_with (first
    | (go_at_call 86; refine kp.mono ?_; rintro e w1 ⟨rfl, d1, h1, p1, f1, g1, s1⟩)
    | (go_at_call 87; refine (km _).mono ?_; rintro e w1' ⟨rfl, rfl⟩)
    | (go_at_call 48; refine (KA.out _ _ h1 f1).mono ?_; rintro e w2 ⟨rfl, rfl⟩))
  go_ret
  exact ⟨rfl, d1, h1, p1, g1 ▸ s1⟩

theorem ROk.spent {s : RS} (ok : ROk s) : ROk s.spent := ⟨ok.few, ok.most, by show (if 0 < s.left then s.left - 1 else s.left) ≤ _; have : s.left ≤ _ := ok.left; split <;> omega, ok.used, ok.lates, ok.count, ok.small⟩

set_option maxHeartbeats 2000000 in
theorem rrename_stay {w : World} {B b i : Nat} {d : Rs} {f : Gv} (h : RRep w B b d) (ok : ROk d.pl) (n t : ByteArray) (hts : t.size ≤ 1000) (hp : d.pl.power = true) (hm : mayBe t = true) (hat : atOf d.names n = (i : Int)) (hf : d.files[i]? = some f) (hc : rSure d.pl n < f.bytes.length ∨ cmp n t = 0) :
    Calls Try.prog 46 #[.pointer (some ⟨b, 0, none⟩), .string n, .string t] w fun e w' => e = .returned (.int .i64 (if rSure d.pl n < f.bytes.length then 8 else 0)) ∧ ∃ d', RRep w' B b d' ∧ d'.pl = d.pl.spent ∧ Step (d.foot b) (d'.foot b) w w' := by
  have kp := rpower_any h ok.left
  have km := right_any t (by omega)
  have hfew := ok.dfew
  rw [hp] at kp
  rw [hm] at km
  have KA : Aside (∀ (d1 : Rs) (u : World), RRep u B b d1 → d1.files = d.files → Calls Try.prog 48 #[.pointer (some ⟨b, 0, none⟩), .string n] u fun e w' => e = .returned (.int .i64 (i : Int)) ∧ w' = u) := fun d1 u hu hf => by
    have := at_any hu (by rw [hf]; omega) n
    rwa [show d1.names = d.names by unfold Rs.names; rw [hf], hat] at this
  have KS : Aside (∀ (d1 : Rs) (u : World), RRep u B b d1 → d1.pl = d.pl.spent → Calls Try.prog 59 #[.pointer (some ⟨b, 0, none⟩), .string n] u fun e w' => e = .returned (.int .i64 (rSure d.pl n : Nat)) ∧ w' = u) := fun d1 u hu e => by
    have := rsure_any hu (by rw [e]; exact ok.spent) n
    rw [e] at this
    exact this
  have hi : i < d.files.length := (List.getElem?_eq_some_iff.1 hf).1
  have HF : Aside (∀ (d1 : Rs) (u : World), RRep u B b d1 → d1.files = d.files → ∃ g cap av cv, u.cell? ⟨b, 0, none⟩ = some (.slice (some ⟨g, 0, none⟩) d.files.length cap) ∧ u.cell? ⟨g, i * 3 + 1, none⟩ = some (.slice av f.bytes.length cv)) := fun d1 u hu hd => by
    have hf1 : d1.files[i]? = some f := by rw [hd]; exact hf
    obtain ⟨g, cap, ev, _, _, hg⟩ := hu.vf_form hf1
    obtain ⟨av, cv, eav⟩ := own_any (hu.rb f (List.mem_of_getElem? hf1))
    refine ⟨g, cap, av, cv, ?_, ?_⟩
    · rw [hu.c0, ev, hd]
    · rw [(hu.fcells hf1 hg).2.1, eav]
  generalize rSure d.pl n = SU at *
  clear h ok hat hf
  generalize d.files.length = N at *
  by_cases hlt : SU < f.bytes.length
  · have d1' : decide ((SU : Int) < (f.bytes.length : Int)) = true := decide_eq_true (by omega)
    have d1'' : decide (SU < f.bytes.length) = true := decide_eq_true hlt
    rw [if_pos hlt]
    go_enter Try.func46, Try.ntmps46
    go_wp2_with (first
      | (go_at_call 86; refine kp.mono ?_; rintro e w1 ⟨rfl, d1, h1, p1, f1, g1, s1⟩)
      | (go_at_call 87; refine (km _).mono ?_; rintro e w1' ⟨rfl, rfl⟩)
      | (go_at_call 48; refine (KA.out _ _ h1 f1).mono ?_; rintro e w2 ⟨rfl, rfl⟩; obtain ⟨g, cap, av, cv, x0, x1⟩ := HF.out _ _ h1 f1))
    have K38 : Aside (∀ q : Later w2, Calls Try.prog 59 #[.pointer (some ⟨b, 0, none⟩), .string n] q.u fun e w' => e = .returned (.int .i64 (SU : Nat)) ∧ Below q.u.heap.size q.u w') := fun q => (KS.out d1 _ (h1.below q.bel) p1).mono fun _ _ ⟨a, b⟩ => ⟨a, b ▸ below_refl _⟩
    have x0q : ∀ q : Later w2, q.u.cell? ⟨b, 0, none⟩ = some (.slice (some ⟨g, 0, none⟩) N cap) := fun q => cell_below x0 q.bel
    have x1q : ∀ q : Later w2, q.u.cell? ⟨g, i * 3 + 1, none⟩ = some (.slice av f.bytes.length cv) := fun q => cell_below x1 q.bel
    have H2 : Aside _ := And.intro h1 (And.intro p1 (And.intro g1 s1))
    clear KA KS HF kp km h1 p1 g1 s1 x0 x1
    have hne := later_some w2
    refine wp_region_later (by kernel_rfl) (by kernel_rfl) ?_
    repeat (go_big_quiet_step ((go_at_call 59; exact calls_later (K38.out _))))
    refine wpQuiet_nil ?_
    rintro _ ⟨q, rfl⟩
    have hqb := q.bel
    clear hne x0q x1q K38
    go_wp2
    go_ret
    obtain ⟨h1, p1, g1, s1⟩ := H2.out
    exact ⟨rfl, d1, h1.below hqb, p1, (g1 ▸ s1 : Step (d.foot b) (d1.foot b) w _).trans (Step.ofBelow hqb)⟩
  · have d1' : decide ((SU : Int) < (f.bytes.length : Int)) = false := decide_eq_false (by omega)
    have d1'' : decide (SU < f.bytes.length) = false := decide_eq_false hlt
    have hc' := eq_bytes'' (hc.resolve_left hlt)
    rw [if_neg hlt]
    clear hc
    go_enter Try.func46, Try.ntmps46
    go_wp2_with (first
      | (go_at_call 86; refine kp.mono ?_; rintro e w1 ⟨rfl, d1, h1, p1, f1, g1, s1⟩)
      | (go_at_call 87; refine (km _).mono ?_; rintro e w1' ⟨rfl, rfl⟩)
      | (go_at_call 48; refine (KA.out _ _ h1 f1).mono ?_; rintro e w2 ⟨rfl, rfl⟩; obtain ⟨g, cap, av, cv, x0, x1⟩ := HF.out _ _ h1 f1))
    have K38 : Aside (∀ q : Later w2, Calls Try.prog 59 #[.pointer (some ⟨b, 0, none⟩), .string n] q.u fun e w' => e = .returned (.int .i64 (SU : Nat)) ∧ Below q.u.heap.size q.u w') := fun q => (KS.out d1 _ (h1.below q.bel) p1).mono fun _ _ ⟨a, b⟩ => ⟨a, b ▸ below_refl _⟩
    have x0q : ∀ q : Later w2, q.u.cell? ⟨b, 0, none⟩ = some (.slice (some ⟨g, 0, none⟩) N cap) := fun q => cell_below x0 q.bel
    have x1q : ∀ q : Later w2, q.u.cell? ⟨g, i * 3 + 1, none⟩ = some (.slice av f.bytes.length cv) := fun q => cell_below x1 q.bel
    have H2 : Aside _ := And.intro h1 (And.intro p1 (And.intro g1 s1))
    clear KA KS HF kp km h1 p1 g1 s1 x0 x1
    have hne := later_some w2
    refine wp_region_later (by kernel_rfl) (by kernel_rfl) ?_
    repeat (go_big_quiet_step ((go_at_call 59; exact calls_later (K38.out _))))
    refine wpQuiet_nil ?_
    rintro _ ⟨q, rfl⟩
    have hqb := q.bel
    clear hne x0q x1q K38
    go_wp2
    go_ret
    obtain ⟨h1, p1, g1, s1⟩ := H2.out
    exact ⟨rfl, d1, h1.below hqb, p1, (g1 ▸ s1 : Step (d.foot b) (d1.foot b) w _).trans (Step.ofBelow hqb)⟩
end Go.Proofs.Ytnmamaeoghgegaa.Dk

/-
  The document's disk: a file in hand, while it goes to another name.
-/
namespace Go.Proofs.Ytnmamaeoghgegaa.Dk
open Go.RowKit
set_option maxRecDepth 100000

structure RHand (w : World) (B b X : Nat) (d : Rs) (f : Gv) (n : ByteArray) : Prop where
  rep : RRep w B b d
  rb : w.ownsRow B 5 1 f.vb f.bytes.length (bcells f.bytes)
  rl : w.ownsRow B 3 1 f.vl f.late.length (lcells f.late)
  blk : w.heap[X]? = some (.cells #[.string n, f.vb, f.vl] 89 (0, 0))
  xb : X ≠ b
  fb : ∀ k ∈ f.obs, k ≠ b
  fresh : ∀ k ∈ f.obs, k ∉ d.foot b
  nd : f.obs.Nodup

theorem RHand.cells {w : World} {B b X : Nat} {d : Rs} {f : Gv} {n : ByteArray} (h : RHand w B b X d f n) : w.cell? ⟨X, 0, none⟩ = some (.string n) ∧ w.cell? ⟨X, 1, none⟩ = some f.vb ∧ w.cell? ⟨X, 2, none⟩ = some f.vl :=
  ⟨by rw [cell_of_row w X 0 _ _ _ h.blk]; rfl, by rw [cell_of_row w X 1 _ _ _ h.blk]; rfl, by rw [cell_of_row w X 2 _ _ _ h.blk]; rfl⟩

theorem rerase_fresh {w : World} {B b i : Nat} {d : Rs} {f : Gv} {v' : Value} (h : RRep w B b d) (hf : d.files[i]? = some f) (hv : ∀ k, v'.ownBlock = some k → k ∉ f.obs) {k : Nat} (hk : k ∈ f.obs) : k ∉ Rs.foot b { d with files := d.files.eraseIdx i, vf := v' } := by
  have hm : f ∈ d.files := List.mem_of_getElem? hf
  obtain ⟨A, C, e1, _, hA⟩ := split_at hf f
  have e2 : d.files.eraseIdx i = A ++ C := by
    rw [e1, List.eraseIdx_append_of_length_le (by omega), hA, Nat.sub_self]
    rfl
  have hn0 := h.nodup
  rw [show d.foot b = ([b] ++ ob d.vf ++ A.flatMap Gv.obs) ++ (f.obs ++ C.flatMap Gv.obs) by unfold Rs.foot; rw [e1]; simp] at hn0
  intro hmem
  rcases List.mem_cons.1 hmem with e | hmem
  · exact h.b_f hm hk e
  · rcases List.mem_append.1 hmem with e | e
    · exact hv k (mem_ob.1 e) hk
    · simp only at e
      rw [e2] at e
      obtain ⟨x, hx, hkx⟩ := List.mem_flatMap.1 e
      rcases List.mem_append.1 hx with hx | hx
      · exact (List.nodup_append.1 hn0).2.2 k (List.mem_append_right _ (List.mem_flatMap.2 ⟨x, hx, hkx⟩)) k (List.mem_append_left _ hk) rfl
      · exact app_ne (List.nodup_append.1 hn0).2.1 hk (List.mem_flatMap.2 ⟨x, hx, hkx⟩)

theorem RHand.lt {w : World} {B b X : Nat} {d : Rs} {f : Gv} {n : ByteArray} (h : RHand w B b X d f n) : ∀ k ∈ f.obs, k < w.heap.size := fun k hk => by
  rcases List.mem_append.1 hk with hk | hk
  · exact (h.rb.lt k (mem_ob.1 hk)).2
  · exact (h.rl.lt k (mem_ob.1 hk)).2

/-- Over a step that changes the disk's own block, and makes memory, alone. -/
theorem RHand.step {w w' : World} {B b X : Nat} {d d' : Rs} {f : Gv} {n : ByteArray} (h : RHand w B b X d f n) (hr : RRep w' B b d') (hs : Step (d.foot b) (d'.foot b) w w') (hk : ∀ k, k < w.heap.size → k ≠ b → w'.heap[k]? = w.heap[k]?) : RHand w' B b X d' f n := by
  refine ⟨hr, own_frame h.rb fun k hkk => hk k (h.rb.lt k hkk).2 (h.fb k (obs_b hkk)), own_frame h.rl fun k hkk => hk k (h.rl.lt k hkk).2 (h.fb k (obs_l hkk)), (hk X (Array.getElem?_eq_some_iff.1 h.blk).1 h.xb).trans h.blk, h.xb, h.fb, fun k hkk hm => ?_, h.nd⟩
  rcases hs.sub k hm with e | e
  · exact h.fresh k hkk e
  · have := h.lt k hkk
    omega

/-- The file is dropped, and stays in hand. -/
theorem RHand.taken {w w' : World} {B b X i : Nat} {d : Rs} {f : Gv} {v' : Value} {n : ByteArray} (h : RRep w B b d) (hX : w.heap[X]? = some (.cells #[.string n, f.vb, f.vl] 89 (0, 0))) (hxb : X ≠ b) (hf : d.files[i]? = some f)
    (hr : RRep w' B b { d with files := d.files.eraseIdx i, vf := v' }) (hv : ∀ k, v'.ownBlock = some k → w.heap.size ≤ k) (hk : ∀ k, k < w.heap.size → k ≠ b → w'.heap[k]? = w.heap[k]?) : RHand w' B b X { d with files := d.files.eraseIdx i, vf := v' } f n := by
  have hm : f ∈ d.files := List.mem_of_getElem? hf
  refine ⟨hr, own_frame (h.rb f hm) fun k hkk => hk k ((h.rb f hm).lt k hkk).2 (h.b_f hm (obs_b hkk)), own_frame (h.rl f hm) fun k hkk => hk k ((h.rl f hm).lt k hkk).2 (h.b_f hm (obs_l hkk)), (hk X (Array.getElem?_eq_some_iff.1 hX).1 hxb).trans hX, hxb, fun k hkk => h.b_f hm hkk, fun k hkk => rerase_fresh h hf (fun j hj hjf => ?_) hkk, h.nodup_f hm⟩
  have h1 := hv j hj
  rcases List.mem_append.1 hjf with e | e
  · have := ((h.rb f hm).lt j (mem_ob.1 e)).2
    omega
  · have := ((h.rl f hm).lt j (mem_ob.1 e)).2
    omega

end Go.Proofs.Ytnmamaeoghgegaa.Dk
