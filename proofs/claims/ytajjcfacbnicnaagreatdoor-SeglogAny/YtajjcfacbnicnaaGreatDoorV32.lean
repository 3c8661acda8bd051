/-
  YtajjcfacbnicnaaGreatDoor: the texts C8, B1, B2, K3, one behind the other.
-/
import Derived.Test.YtajjcfacbnicnaaGreatDoorV31
import Derived.Test.YtajjcfacbnicnaaGreatDoorV28
import Derived.Deep.DeepCutAuto
import Derived.WalkKit
import Derived.WalkSpells
import Derived.WalkLawsBesides
import Derived.Deep.LoopGhost
import Derived.Laws.Externs
import Derived.Below
import Derived.BigQuiet
import Derived.Deep.RegionWith
import Derived.OwnWalk
import Derived.Maps.AppendAt
import Derived.WalkSmall
import Derived.Test.YtajjcfacbnicnaaGreatDoorV23
import Derived.Deep.Slices
import Derived.ProofKit
import Derived.OpenShut
import Derived.Test.YtajjcfacbnicnaaGreatDoorV26
import Derived.Test.YtajjcfacbnicnaaGreatDoorV27
/-
  The document's log: Open.
-/
namespace Go.Proofs.YtajjcfacbnicnaaGreatDoor
open Go.RowKit
set_option maxRecDepth 100000
open Fm (cellsS)
theorem recs_names (s : Dk.St) : ∀ (L : List Int) (acc : List ByteArray), (recs s L acc).2.2.names = s.names
  | [], _ => rfl
  | n :: r, acc => by
    unfold recs
    split
    · split
      · exact names_cut _ _ _
      · exact names_cut _ _ _
    · split
      · exact recs_names s r _
      · rfl
theorem open_names (s : Dk.St) (f : Int) : (lOpen s f).2.names = s.names := by
  unfold lOpen
  split
  · rfl
  · split
    · rfl
    · split
      · exact recs_names _ _ _
      · exact recs_names _ _ _
/-- What is right of a log that was opened. -/
theorem open_right {s : Dk.St} {f : Int} {rs : List ByteArray} (h : (lOpen s f).1 = .ok rs) : 1 ≤ f ∧ f ≤ 99999 ∧ rowB f (nums (lOpen s f).2.names f) = true := by
  rw [open_names]
  unfold lOpen at h
  split at h
  · cases h
  · rename_i h0
    have h9 := Classical.not_not.1 fun hh => h0 (nmL_empty.2 hh)
    split at h
    · cases h
    · rename_i h1
      refine ⟨h9.1, h9.2, ?_⟩
      cases hr : rowB f (nums s.names f) with
      | true => rfl
      | false => exact absurd hr h1
/-- The document's log as it is opened, and the records that were read. -/
structure OJ (w : World) (Y c : Nat) (f la m : Int) (v : Value) (acc : List ByteArray) (u : World) : Prop where
  bel : Below w.heap.size w u
  lg : LrAt u Y c f la m
  own : u.ownsRow (Y + 1) 9 1 v acc.length (cellsS acc)
  le : w.heap.size ≤ Y
theorem OJ.later {w u u' : World} {Y c : Nat} {f la m : Int} {v : Value} {acc : List ByteArray} (h : OJ w Y c f la m v acc u) (hb : Below u.heap.size u u') : OJ w Y c f la m v acc u' :=
  ⟨h.bel.trans (hb.mono h.bel.size), h.lg.below hb, own_below h.own hb, h.le⟩
theorem OJ.push {w u : World} {Y c base2 : Nat} {f la m : Int} {v x : Value} {acc l : List ByteArray} (h : OJ w Y c f la m v acc u) (hx : u.ownsRow base2 9 1 x l.length (cellsS l)) (hl : acc.length + l.length ≤ 10000000) (k : Int) :
    ∃ v' w', (Builtin.append_ #[30, 30] 30 #[v, x]).run Tryz.prog u = .ok v' w' ∧ LrAt w' Y c f la m ∧ OJ w Y c f k m v' (acc ++ l) (w'.setCell ⟨Y, 2, none⟩ (.int .i64 k)) := by
  have hY := h.lg.lt
  obtain ⟨v', w', h1, h2, h3, h4⟩ := append_texts h.own hx (by omega) hl 30
  have hne : ∀ j, v.ownBlock = some j → w.heap.size ≤ j ∧ j ≠ Y := fun j hj => by
    have := (h.own.lt j hj).1
    have := h.le
    omega
  have hlg : LrAt w' Y c f la m := (h3.block Y hY (fun e => by
    have := (hne Y e.symm).2
    exact this rfl)).trans h.lg
  have hne' : ∀ j, v'.ownBlock = some j → j ≠ Y := fun j hj => by
    have := (h2.lt j hj).1
    omega
  have hb' : Below w.heap.size w w' := h.bel.grown h3 (by have := h.le; omega) (fun j hj => (hne j hj).1)
  refine ⟨v', w', h1, hlg, Dk.below_set hb' h.le 2 _, hlg.set k, ?_, h.le⟩
  exact Dk.own_frame h2 fun j hj => Below.heap_setCell w' ⟨Y, 2, none⟩ _ j (hne' j hj)
/-- What is handed on from round to round: what there is yet to read, or the rest of the last segment that isn't whole. -/
def RJ (s : Dk.St) (f : Int) (L : List Int) (R : List ByteArray × Int × Dk.St) (k : Nat) (acc : List ByteArray) (rest : Int) : Prop :=
  (rest = -1 ∧ recs s (L.drop k) acc = R) ∨ (k = L.length ∧ 0 < k ∧ rest = ((spl s (f + (k : Int) - 1)).2.1 : Nat) ∧ (spl s (f + (k : Int) - 1)).2.2 = 3 ∧ ∃ acc0, recs s [f + (k : Int) - 1] acc0 = R ∧ acc = acc0 ++ (spl s (f + (k : Int) - 1)).1.map Fm.bs)
/-- What the document's Open leaves. -/
def ROpen (w : World) (B c : Nat) (d : Dk.Ds) (r : Dk.Rs) (f lim : Int) (e : Ending) (w' : World) : Prop :=
  ∃ r', Dk.RRep w' B c r' ∧ (∃ T, Dk.Rel (lOpen d.pl f).2 r'.pl T) ∧ r'.count = r.count ∧ Dk.Step (r.foot c) (r'.foot c) w w' ∧
    ((∃ E, (lOpen d.pl f).1 = .error E ∧ e = .returned (.tuple #[.pointer none, .slice none 0 0, .int .i64 E])) ∨
      ∃ rs y rv, (lOpen d.pl f).1 = .ok rs ∧ e = .returned (.tuple #[.pointer (some ⟨y, 0, none⟩), rv, .int .i64 0]) ∧ LrAt w' y c f (lLast (lOpen d.pl f).2 f) (wi lim) ∧ w.heap.size ≤ y ∧ y ∉ r'.foot c ∧ w'.ownsRow w.heap.size 9 1 rv rs.length (cellsS rs) ∧ ∀ j, rv.ownBlock = some j → j ≠ y ∧ j ∉ r'.foot c)
theorem ropen_err {w w' : World} {B c : Nat} {d : Dk.Ds} {r : Dk.Rs} {f lim E : Int} (h : Rb w B c d r) (hE : lOpen d.pl f = (.error E, d.pl)) (hb : Below w.heap.size w w') : ROpen w B c d r f lim (.returned (.tuple #[.pointer none, .slice none 0 0, .int .i64 E])) w' :=
  ⟨r, h.rrep.below hb, by rw [hE]; exact h.rel, rfl, Dk.Step.ofBelow hb, .inl ⟨E, by rw [hE], rfl⟩⟩
theorem open_bad {s : Dk.St} {f : Int} (h : ¬ (1 ≤ f ∧ f ≤ 99999)) : lOpen s f = (.error 1, s) := by unfold lOpen; rw [if_pos (nmL_empty.2 h)]
theorem open_gap {s : Dk.St} {f : Int} (h1 : 1 ≤ f) (h2 : f ≤ 99999) (h : rowB f (nums s.names f) = false) : lOpen s f = (.error 6, s) := by unfold lOpen; rw [if_neg (fun h => nmL_empty.1 h ⟨h1, h2⟩), h, if_pos rfl]
theorem open_read {s : Dk.St} {f : Int} (h1 : 1 ≤ f) (h2 : f ≤ 99999) (h : rowB f (nums s.names f) = true) {R : List ByteArray × Int × Dk.St} (hR : recs s (nums s.names f) [] = R) : lOpen s f = if R.2.1 = 0 then (.ok R.1, R.2.2) else (.error R.2.1, R.2.2) := by
  unfold lOpen
  rw [if_neg (fun h => nmL_empty.1 h ⟨h1, h2⟩), h, if_neg (by decide), hR]
theorem count_is {w : World} {B c : Nat} {d : Dk.Ds} {r : Dk.Rs} (h : Rb w B c d r) (hc : r.count ≤ 1000000) (hsz : ∀ t ∈ d.pl.names, t.size ≤ 1000) {f : Int} (h1 : 1 ≤ f) (h2 : f ≤ 99999) :
    Calls Tryz.prog 41 #[.pointer (some ⟨c, 0, none⟩), .int .i64 f] w fun e w' => e = .returned (.tuple #[.int .i64 ((nums d.pl.names f).length : Nat), .bool (rowB f (nums d.pl.names f))]) ∧ Below w.heap.size w w' := by
  have hnm : r.names = d.pl.names := by
    obtain ⟨T, hT⟩ := h.rel
    rw [← Dk.rnames_pl, hT.nm]
  have := rcount_any h hc (by rw [hnm]; exact hsz) f h1 h2
  rw [hnm, rok_row h.ok h1, rCnt_nums _ h1] at this
  exact this
theorem split_is' {d : Dk.Ds} (ok : Dk.Ok d.pl) (n : Int) (u : World) : Calls Tryz.prog 43 #[.string (tx d.pl n)] u fun e w' => ∃ v, e = .returned (.tuple #[v, .int .i64 ((spl d.pl n).2.1 : Nat), .int .i64 ((spl d.pl n).2.2 : Nat)]) ∧ w'.ownsRow u.heap.size 9 1 v ((spl d.pl n).1.map Fm.bs).length (cellsS ((spl d.pl n).1.map Fm.bs)) ∧ Below u.heap.size u w' := by
  refine (Fm.refSplit_any (tx d.pl n) u (by have := lg_text_len ok n; omega)).mono ?_
  rintro e w' ⟨v, h1, h2, h3⟩
  exact ⟨v, h1, by rw [List.length_map]; exact h2, h3⟩
set_option maxHeartbeats 16000000 in
/-- The document's Open. -/
theorem rlopen_any {w : World} {B c : Nat} {d : Dk.Ds} {r : Dk.Rs} (h : Rb w B c d r) (hc : r.count ≤ 1000000) (hsz : ∀ t ∈ d.pl.names, t.size ≤ 1000) (f lim : Int) :
    Calls Tryz.prog 12 #[.pointer (some ⟨c, 0, none⟩), .int .i64 f, .int .i64 lim] w fun e w' => ROpen w B c d r f lim e w' := by
  have H := asd h
  have BAD := asd (fun (hf : ¬ (1 ≤ f ∧ f ≤ 99999)) => ropen_err (lim := lim) H.out (open_bad hf) (Below.refl _ _))
  by_cases hf1 : f < 1
  · have p1 : decide (f < 1) = true := decide_eq_true hf1
    have BB := asd (BAD.out (by omega))
    clear h BAD
    go_enter Tryz.func12, Tryz.ntmps12
    go_wp2
    go_ret3
    exact BB.out
  have p1 : decide (f < 1) = false := decide_eq_false hf1
  by_cases hf2 : 99999 < f
  · have p2 : decide (99999 < f) = true := decide_eq_true hf2
    have BB := asd (BAD.out (by omega))
    clear h BAD
    go_enter Tryz.func12, Tryz.ntmps12
    go_wp2
    go_ret3
    exact BB.out
  have p2 : decide (99999 < f) = false := decide_eq_false hf2
  have KC := asd (count_is h hc hsz (f := f) (by omega) (by omega))
  clear BAD
  cases hr : rowB f (nums d.pl.names f) with
  | false =>
    rw [hr] at KC
    have GAP := asd (open_gap (by omega) (by omega) hr)
    clear h hr
    generalize (nums d.pl.names f).length = Z at *
    go_enter Tryz.func12, Tryz.ntmps12
    go_wp2_with (go_at_call 41; refine KC.out.mono ?_; rintro e w1 ⟨rfl, b1⟩)
    go_ret3
    exact ropen_err H.out GAP.out b1
  | true =>
    rw [hr] at KC
    generalize hR : recs d.pl (nums d.pl.names f) [] = R
    have RD := asd (open_read (by omega) (by omega) hr hR)
    have RW := asd (row_map hr)
    have LL := asd (llast_row h.ok (by omega) hr)
    have hn16 : (nums d.pl.names f).length ≤ 16 := nums_le (by have := h.ok.few; simpa [Dk.St.names] using this)
    have J0 : Aside (RJ d.pl f (nums d.pl.names f) R 0 [] (-1)) := .inl ⟨rfl, hR⟩
    have K42 := asd (fun (n : Int) (u : World) (hu : Below w.heap.size w u) => rbytes_any (H.out.below hu) hc n)
    have K43 := asd (fun (n : Int) (u : World) => split_is' H.out.ok n u)
    have KN := asd (fun (n : Int) (u : World) => refName_any LG n u)
    have KX := asd (fun (n : ByteArray) (k : Int) (u : World) (hu : Below w.heap.size w u) => rb_cut (H.out.below hu) hc n k)
    have XL := asd (fun n => spl_len h.ok n)
    have ON := asd (open_names d.pl f)
    have HC := asd hc
    have HLT := asd (fun k hk => (h.rrep.lt k hk).2)
    clear h hr hR hsz hc
    generalize nums d.pl.names f = L at *
    have HWL : Aside (wi lim = min (max lim 0) 1073741824) := (rfl : wi lim = _)
    generalize hWI : wi lim = WI at *
    have HWI := asd hWI
    clear hWI
    go_enter Tryz.func12, Tryz.ntmps12
    go_upto_if 36 with (go_at_call 41; refine KC.out.mono ?_; rintro e w1 ⟨rfl, b1⟩)
    go_cut [2] (fun s2 wx => s2 = .int .i64 (max lim 0) ∧ w1 = wx)
    case first =>
      go_wp2_with fail
      all_goals (go_meet; exact ⟨congrArg (Value.int .i64) (by omega), rfl⟩)
    case rest =>
    obtain ⟨rfl, rfl⟩ := hcut
    go_upto_if 38 with fail
    go_cut [2] (fun s2 wx => s2 = .int .i64 WI ∧ w1 = wx)
    case first =>
      go_wp2_with fail
      all_goals (go_meet; exact ⟨congrArg (Value.int .i64) (by have := HWL.out; omega), rfl⟩)
    case rest =>
    obtain ⟨rfl, rfl⟩ := hcut
    go_upto_region 13 with fail
    have ba : Below w1.heap.size w1 (w1.alloc (.cells #[.pointer (some ⟨c, 0, none⟩), .int .i64 f, .int .i64 f, .int .i64 WI] 51)) := (Below.refl _ _).alloc (Nat.le_refl _) _
    have OJ0 : Aside (OJ w w1.heap.size c f f WI (.slice none 0 0) [] (w1.alloc (.cells #[.pointer (some ⟨c, 0, none⟩), .int .i64 f, .int .i64 f, .int .i64 WI] 51))) := ⟨b1.trans (ba.mono b1.size), heap_alloc_new w1 _, World.ownsRow_nil _ _ _ _, b1.size⟩
    clear ba KC HWL
    have HY := asd b1.size
    generalize hYY : w1.heap.size = Y at *
    generalize w1.alloc (.cells #[.pointer (some ⟨c, 0, none⟩), .int .i64 f, .int .i64 f, .int .i64 WI] 51) = w2 at *
    clear hYY b1
    go_wp2
    go_loopg [14, 12, 13, 15, 16, 17, 18, 19] L.length (fun gh s14 s12 s13 _ _ _ _ _ wr => ∃ (k : Nat) (acc : List ByteArray) (rest : Int), L.length - k ≤ gh ∧ k ≤ L.length ∧ s14 = .int .i64 (k : Int) ∧ s13 = .int .i64 rest ∧ acc.length ≤ 60000 * k ∧ Aside (RJ d.pl f L R k acc rest) ∧ Aside (OJ w Y c f (if k = 0 then f else f + (k : Int) - 1) WI s12 acc wr))
    case atStart => exact ⟨0, [], -1, by omega, by omega, rfl, rfl, by simp, J0, OJ0⟩
    case round =>
      obtain ⟨k, acc, rest, hgh, hk, rfl, rfl, hacc, J, O⟩ := hrel
      clear J0 OJ0
      obtain ⟨a12, c12, rfl⟩ := Dk.own_any O.out.own
      by_cases hlt : k < L.length
      · have dk : decide (k < L.length) = true := decide_eq_true hlt
        have RE : Aside (rest = -1 ∧ recs d.pl (L[k] :: L.drop (k + 1)) acc = R) := by
          rcases J.out with ⟨e1, e2⟩ | ⟨e1, _⟩
          · rw [List.drop_eq_getElem_cons hlt] at e2
            exact ⟨e1, e2⟩
          · omega
        have hLk : L[k] = f + (k : Int) := by
          have := RW.out
          have h2 : L[k]? = some (f + (k : Int)) := by
            rw [this, List.getElem?_map, List.getElem?_range hlt]
            rfl
          rw [List.getElem?_eq_getElem hlt] at h2
          exact Option.some.inj h2
        rw [hLk] at RE
        clear J hLk
        obtain ⟨rfl, RE1⟩ := RE.out
        have RE2 := asd RE1
        clear RE RE1
        have KB := K42.out (f + (k : Int)) _ O.out.bel
        have KS := K43.out (f + (k : Int))
        have hxl := XL.out (f + (k : Int))
        by_cases h0 : (spl d.pl (f + (k : Int))).2.2 = 0
        · have RG : Aside (RJ d.pl f L R (k + 1) (acc ++ (spl d.pl (f + (k : Int))).1.map Fm.bs) (-1)) := .inl ⟨rfl, by rw [← recs_go h0]; exact RE2.out⟩
          rw [h0] at KS
          clear h0 RE2
          generalize (spl d.pl (f + (k : Int))).2.1 = P at *
          generalize (spl d.pl (f + (k : Int))).1.map Fm.bs = X at *
          generalize tx d.pl (f + (k : Int)) = T at *
          generalize th d.pl (f + (k : Int)) = TH at *
          go_wp2_with (first
            | (go_at_call 42; refine KB.mono ?_; rintro e w3 ⟨rfl, b3⟩; have O3 := asd (O.out.later b3))
            | (go_at_call 43; refine (KS _).mono ?_; rintro e w4 ⟨v9, rfl, o9, b4⟩; obtain ⟨a9, c9, rfl⟩ := Dk.own_any o9; obtain ⟨v10, w10, ha, hg, ho⟩ := (O3.out.later b4).push o9 (by omega) (f + (k : Int)); have cf := hg.fz 2; obtain ⟨x0, x1, x2, x3⟩ := hg.cells; have OO := asd ho; clear hg ho o9 b3 b4)
            | (at_builtin; refine wpList_append_eq rfl (.tmp 80) (.tmp 81) 30 rfl _ _ rfl rfl v10 w10 ha ?_))
          go_roundg (L.length - (k + 1))
          case measure => omega
          case rel => exact ⟨k + 1, acc ++ X, -1, Nat.le_refl _, by omega, by go_num, rfl, by rw [List.length_append]; omega, RG, by have := OO.out; rw [if_neg (by omega), show f + ((k + 1 : Nat) : Int) - 1 = f + (k : Int) by omega]; exact this⟩
        · have hF := Fm.Fr.spx_e (l := (tx d.pl (f + (k : Int))).data.toList) (acc := []) (pos := 0)
          have f0 : (((spl d.pl (f + (k : Int))).2.2 : Int) != 0) = true := by rw [bne_iff_ne]; omega
          have f0' : (((spl d.pl (f + (k : Int))).2.2 : Int) == 0) = false := by rw [beq_eq_false_iff_ne]; omega
          have f0'' : ¬ ((spl d.pl (f + (k : Int))).2.2 : Int) = 0 := by omega
          by_cases h3 : (spl d.pl (f + (k : Int))).2.2 = 3 ∧ k + 1 = L.length
          · obtain ⟨h3, h4⟩ := h3
            have RG : Aside (RJ d.pl f L R (k + 1) (acc ++ (spl d.pl (f + (k : Int))).1.map Fm.bs) ((spl d.pl (f + (k : Int))).2.1 : Nat)) := by
              refine .inr ⟨h4, by omega, ?_, ?_, acc, ?_, ?_⟩
              · rw [show f + ((k + 1 : Nat) : Int) - 1 = f + (k : Int) by omega]
              · rw [show f + ((k + 1 : Nat) : Int) - 1 = f + (k : Int) by omega]
                exact h3
              · rw [show f + ((k + 1 : Nat) : Int) - 1 = f + (k : Int) by omega]
                have := RE2.out
                rw [List.drop_eq_nil_of_le (show L.length ≤ k + 1 by omega)] at this
                exact this
              · rw [show f + ((k + 1 : Nat) : Int) - 1 = f + (k : Int) by omega]
            have q1 : decide ((k : Int) < (L.length : Int) - 1) = false := decide_eq_false (by omega)
            rw [h3] at KS
            clear h0 h3 RE2 f0 f0' f0'' hF
            generalize (spl d.pl (f + (k : Int))).2.1 = P at *
            generalize (spl d.pl (f + (k : Int))).1.map Fm.bs = X at *
            generalize tx d.pl (f + (k : Int)) = T at *
            generalize th d.pl (f + (k : Int)) = TH at *
            go_wp2_with (first
              | (go_at_call 42; refine KB.mono ?_; rintro e w3 ⟨rfl, b3⟩; have O3 := asd (O.out.later b3))
              | (go_at_call 43; refine (KS _).mono ?_; rintro e w4 ⟨v9, rfl, o9, b4⟩; obtain ⟨a9, c9, rfl⟩ := Dk.own_any o9; obtain ⟨v10, w10, ha, hg, ho⟩ := (O3.out.later b4).push o9 (by omega) (f + (k : Int)); have cf := hg.fz 2; obtain ⟨x0, x1, x2, x3⟩ := hg.cells; have OO := asd ho; clear hg ho o9 b3 b4)
              | (at_builtin; refine wpList_append_eq rfl (.tmp 80) (.tmp 81) 30 rfl _ _ rfl rfl v10 w10 ha ?_))
            go_roundg (L.length - (k + 1))
            case measure => omega
            case rel => exact ⟨k + 1, acc ++ X, (P : Int), Nat.le_refl _, by omega, by go_num, rfl, by rw [List.length_append]; omega, RG, by have := OO.out; rw [if_neg (by omega), show f + ((k + 1 : Nat) : Int) - 1 = f + (k : Int) by omega]; exact this⟩
          · have EN : Aside (lOpen d.pl f = (.error ((spl d.pl (f + (k : Int))).2.2 : Nat), d.pl)) := by
              have e1 := RE2.out
              rw [recs_bad h0 (fun hh => h3 ⟨hh.1, by have := List.length_eq_zero_iff.2 hh.2; rw [List.length_drop] at this; omega⟩)] at e1
              have e2 := RD.out
              rw [← e1, if_neg f0''] at e2
              exact e2
            by_cases h4 : (spl d.pl (f + (k : Int))).2.2 = 3
            · have q1 : decide ((k : Int) < (L.length : Int) - 1) = true := decide_eq_true (by omega)
              rw [h4] at KS EN
              clear h0 h3 h4 RE2 f0 f0' f0'' hF
              generalize (spl d.pl (f + (k : Int))).2.1 = P at *
              generalize (spl d.pl (f + (k : Int))).1.map Fm.bs = X at *
              generalize tx d.pl (f + (k : Int)) = T at *
              generalize th d.pl (f + (k : Int)) = TH at *
              go_wp2_with (first
                | (go_at_call 42; refine KB.mono ?_; rintro e w3 ⟨rfl, b3⟩; have O3 := asd (O.out.later b3))
                | (go_at_call 43; refine (KS _).mono ?_; rintro e w4 ⟨v9, rfl, o9, b4⟩; have O4 := asd (O3.out.later b4); clear o9 b3 b4))
              go_ret3
              exact ropen_err H.out EN.out O4.out.bel
            · have q2 : (((spl d.pl (f + (k : Int))).2.2 : Int) != 3) = true := by rw [bne_iff_ne]; omega
              have q3 : (((spl d.pl (f + (k : Int))).2.2 : Int) == 3) = false := by rw [beq_eq_false_iff_ne]; omega
              clear h0 h3 h4 RE2 hF f0''
              generalize (spl d.pl (f + (k : Int))).2.2 = E at *
              generalize (spl d.pl (f + (k : Int))).2.1 = P at *
              generalize (spl d.pl (f + (k : Int))).1.map Fm.bs = X at *
              generalize tx d.pl (f + (k : Int)) = T at *
              generalize th d.pl (f + (k : Int)) = TH at *
              go_wp2_with (first
                | (go_at_call 42; refine KB.mono ?_; rintro e w3 ⟨rfl, b3⟩; have O3 := asd (O.out.later b3))
                | (go_at_call 43; refine (KS _).mono ?_; rintro e w4 ⟨v9, rfl, o9, b4⟩; have O4 := asd (O3.out.later b4); clear o9 b3 b4))
              go_ret3
              exact ropen_err H.out EN.out O4.out.bel
      · obtain rfl : k = L.length := by omega
        have dk : decide (L.length < L.length) = false := by simp
        rcases J.out with ⟨rfl, e2⟩ | ⟨_, e1, rfl, e3, acc0, e4, rfl⟩
        · rw [List.drop_length] at e2
          have EN : Aside (lOpen d.pl f = (.ok acc, d.pl)) := by
            have e5 := RD.out
            rw [← e2] at e5
            exact e5
          have FIN : Aside (ROpen w B c d r f lim (.returned (.tuple #[.pointer (some ⟨Y, 0, none⟩), .slice a12 acc.length c12, .int .i64 0])) _) := ⟨r, H.out.rrep.below O.out.bel, by rw [EN.out]; exact H.out.rel, rfl, Dk.Step.ofBelow O.out.bel, .inr ⟨acc, Y, _, by rw [EN.out], rfl, by rw [EN.out]; show LrAt _ _ _ _ (lLast d.pl f) _; rw [LL.out, HWI.out]; exact O.out.lg, HY.out, fun hm => by have := HLT.out _ hm; have := HY.out; omega, own_base' O.out.own (by have := HY.out; omega), fun j hj => ⟨fun e => by have := (O.out.own.lt j hj).1; omega, fun hm => by have := (O.out.own.lt j hj).1; have := HLT.out j hm; have := HY.out; omega⟩⟩⟩
          clear J e2
          go_wp2
          go_ret3
          exact FIN.out
        · have hk0 : ¬ L.length = 0 := by omega
          obtain ⟨z0, z1, z2, z3⟩ := O.out.lg.cells
          rw [if_neg hk0] at z2
          have E3 := asd e3
          have E4 := asd e4
          clear J e3 e4
          generalize hnn : f + (L.length : Int) - 1 = n at *
          have KC2 := asd (fun (u : World) (hu : Below w.heap.size w u) => KX.out (nmL n) ((spl d.pl n).2.1 : Nat) u hu)
          have p5 : decide ((0 : Int) ≤ ((spl d.pl n).2.1 : Int)) = true := decide_eq_true (by omega)
          have hfoot : Aside (∀ r' : Dk.Rs, ∀ u u' : World, Below w.heap.size w u → Dk.Step (r.foot c) (r'.foot c) u u' → ∀ j, Y ≤ j → j < u.heap.size → j ∉ r'.foot c) := fun r' u u' hb st j hj1 hj2 hm => by
            rcases st.sub j hm with e | e
            · have := HLT.out j e
              have := HY.out
              omega
            · omega
          by_cases hc2 : (Dk.opCut d.pl (nmL n) ((spl d.pl n).2.1 : Nat)).1 = 0
          · have EN : Aside (lOpen d.pl f = (.ok (acc0 ++ (spl d.pl n).1.map Fm.bs), (Dk.opCut d.pl (nmL n) ((spl d.pl n).2.1 : Nat)).2)) := by
              have e5 := RD.out
              rw [← E4.out, recs_cut E3.out hc2] at e5
              exact e5
            rw [hc2] at KC2
            clear hc2 E3 E4
            generalize (spl d.pl n).1.map Fm.bs = X at *
            generalize (spl d.pl n).2.1 = P at *
            have FIN := asd (fun (u u' : World) (hu : OJ w Y c f n WI (.slice a12 (acc0 ++ X).length c12) (acc0 ++ X) u) (r' : Dk.Rs) (R' : Dk.RRep u' B c r') (T' : ∃ T, Dk.Rel (Dk.opCut d.pl (nmL n) (P : Nat)).2 r'.pl T) (n' : r'.count = r.count) (st : Dk.Step (r.foot c) (r'.foot c) u u') => (show ROpen w B c d r f lim (.returned (.tuple #[.pointer (some ⟨Y, 0, none⟩), .slice a12 (acc0 ++ X).length c12, .int .i64 0])) u' from by
              have hnf : ∀ j, Y ≤ j → j ∉ r.foot c := fun j hj hm => by
                have := HLT.out j hm
                have := HY.out
                omega
              have hlg := hu.lg.step st (hnf Y (Nat.le_refl _))
              have hown := Dk.own_frame hu.own fun j hj => st.block j (hu.own.lt j hj).2 (hnf j (by have := (hu.own.lt j hj).1; omega))
              refine ⟨r', R', by rw [EN.out]; exact T', n', (Dk.Step.ofBelow hu.bel).trans st, .inr ⟨_, Y, _, by rw [EN.out], rfl, ?_, HY.out, hfoot.out r' u u' hu.bel st Y (Nat.le_refl _) hu.lg.lt, own_base' hown (by have := HY.out; omega), fun j hj => ⟨fun e => by have := (hu.own.lt j hj).1; omega, hfoot.out r' u u' hu.bel st j (by have := (hu.own.lt j hj).1; omega) (hu.own.lt j hj).2⟩⟩⟩
              have e6 : lLast (lOpen d.pl f).2 f = n := by
                rw [(names_alike ON.out f).2, LL.out, if_neg hk0]
              rw [e6, HWI.out]
              exact hlg))
            have OA : Aside (OJ w Y c f n WI (.slice a12 (acc0 ++ X).length c12) (acc0 ++ X) wr) := by
              have := O.out
              rw [if_neg hk0] at this
              exact this
            clear EN ON RD RW LL hfoot
            go_wp2_with (first
              | (go_at_call 32; refine (KN.out n _).mono ?_; rintro e w3 ⟨rfl, b3⟩; have O3 := asd (OA.out.later b3))
              | (go_at_call 44; refine (KC2.out _ O3.out.bel).mono ?_; rintro e w4 ⟨rfl, r4, R4, T4, n4, st4⟩; have FF := asd (FIN.out _ _ O3.out r4 R4 T4 n4 st4); clear R4 T4 n4 st4))
            go_ret3
            have FF2 := FF.out
            rw [List.length_append] at FF2
            exact FF2
          · have EN : Aside (lOpen d.pl f = (.error (Dk.opCut d.pl (nmL n) ((spl d.pl n).2.1 : Nat)).1, (Dk.opCut d.pl (nmL n) ((spl d.pl n).2.1 : Nat)).2)) := by
              have e5 := RD.out
              rw [← E4.out, recs_dead E3.out hc2, if_neg hc2] at e5
              exact e5
            have q1 : ((Dk.opCut d.pl (nmL n) ((spl d.pl n).2.1 : Nat)).1 != 0) = true := by rw [bne_iff_ne]; exact hc2
            have q2 : ((Dk.opCut d.pl (nmL n) ((spl d.pl n).2.1 : Nat)).1 == 0) = false := by rw [beq_eq_false_iff_ne]; exact hc2
            clear hc2 E3 E4
            generalize (spl d.pl n).1.map Fm.bs = X at *
            generalize (spl d.pl n).2.1 = P at *
            have FIN := asd (fun (u u' : World) (hu : Below w.heap.size w u) (r' : Dk.Rs) (R' : Dk.RRep u' B c r') (T' : ∃ T, Dk.Rel (Dk.opCut d.pl (nmL n) (P : Nat)).2 r'.pl T) (n' : r'.count = r.count) (st : Dk.Step (r.foot c) (r'.foot c) u u') => (show ROpen w B c d r f lim (.returned (.tuple #[.pointer none, .slice none 0 0, .int .i64 (Dk.opCut d.pl (nmL n) (P : Nat)).1])) u' from
              ⟨r', R', by rw [EN.out]; exact T', n', (Dk.Step.ofBelow hu).trans st, .inl ⟨_, by rw [EN.out], rfl⟩⟩))
            have OA := asd O.out.bel
            clear EN ON RD RW LL hfoot
            generalize (Dk.opCut d.pl (nmL n) (P : Nat)).1 = CE at *
            go_wp2_with (first
              | (go_at_call 32; refine (KN.out n _).mono ?_; rintro e w3 ⟨rfl, b3⟩; have O3 := asd (OA.out.trans (b3.mono OA.out.size)))
              | (go_at_call 44; refine (KC2.out _ O3.out).mono ?_; rintro e w4 ⟨rfl, r4, R4, T4, n4, st4⟩; have FF := asd (FIN.out _ _ O3.out r4 R4 T4 n4 st4); clear R4 T4 n4 st4))
            go_ret3
            exact FF.out
end Go.Proofs.YtajjcfacbnicnaaGreatDoor

/-
  Deeds that came in; few, of short texts.
-/
namespace Go.Proofs.YtajjcfacbnicnaaGreatDoor
open Go.RowKit
set_option maxRecDepth 100000
open Go.ChangeShapes Go.WideShapes Go.ChangeAt
/-- A deed. -/
structure Sd where
  kind : Int
  s : ByteArray
  n : Int
  m : Int
  by_ : Int
def Sd.cells (d : Sd) : Array Value := #[.int .u8 d.kind, .string d.s, .int .i64 d.n, .int .i64 d.m, .int .i64 d.by_]
instance : Inhabited Sd := ⟨⟨0, ⟨#[]⟩, 0, 0, 0⟩⟩
structure Sd.Fit (d : Sd) : Prop where
  k0 : 0 ≤ d.kind
  k1 : d.kind ≤ 255
  n : d.n ≤ 9223372036854775807
  m : d.m ≤ 9223372036854775807
  by_ : d.by_ ≤ 9223372036854775807
/-- A row of deeds in memory. -/
def Sds (w : World) (ad : Option Addr) (n : Nat) (X : Nat → Sd) : Prop := n = 0 ∨ ∃ g o, ad = some ⟨g, o, none⟩ ∧ ∀ i, i < n → (w.cell? ⟨g, o + i * 5, none⟩ = some (.int .u8 (X i).kind) ∧ w.cell? ⟨g, o + i * 5 + 1, none⟩ = some (.string (X i).s) ∧ w.cell? ⟨g, o + i * 5 + 2, none⟩ = some (.int .i64 (X i).n) ∧ w.cell? ⟨g, o + i * 5 + 3, none⟩ = some (.int .i64 (X i).m) ∧ w.cell? ⟨g, o + i * 5 + 4, none⟩ = some (.int .i64 (X i).by_)) ∧ (X i).Fit
theorem Sds.below {w w' : World} {ad : Option Addr} {n : Nat} {X : Nat → Sd} (h : Sds w ad n X) (hb : Below w.heap.size w w') : Sds w' ad n X := by
  rcases h with h | ⟨g, o, e, h⟩
  · exact .inl h
  · refine .inr ⟨g, o, e, fun i hi => ?_⟩
    obtain ⟨⟨a0, a1, a2, a3, a4⟩, r⟩ := h i hi
    exact ⟨⟨Dk.cell_below a0 hb, Dk.cell_below a1 hb, Dk.cell_below a2 hb, Dk.cell_below a3 hb, Dk.cell_below a4 hb⟩, r⟩
theorem c38of : Tryz.prog.cellsOf 38 = 5 := by kernel_rfl
theorem c3of' : Tryz.prog.cellsOf 3 = 1 := by kernel_rfl
theorem c5of' : Tryz.prog.cellsOf 5 = 1 := by kernel_rfl
theorem c9of' : Tryz.prog.cellsOf 9 = 1 := by kernel_rfl
theorem wf8 {z : Int} (h : (Lit.int .u8 z).wf = true) : 0 ≤ z ∧ z ≤ 255 := by
  have h' : (decide (IntKind.u8.min ≤ z) && decide (z ≤ IntKind.u8.max)) = true := h
  rw [Bool.and_eq_true, decide_eq_true_eq, decide_eq_true_eq] at h'
  exact h'
theorem wf64 {z : Int} (h : (Lit.int .i64 z).wf = true) : z ≤ 9223372036854775807 := by
  have h' : (decide (IntKind.i64.min ≤ z) && decide (z ≤ IntKind.i64.max)) = true := h
  rw [Bool.and_eq_true, decide_eq_true_eq, decide_eq_true_eq] at h'
  exact h'.2
theorem open_sd {H : Type} {enc : TypeId × Value → H} {W : World} {n : Nat} {cs : List Value} {x : DataW H × List MemPlace} (h : DataW.trod enc Tryz.prog W 0 (fun _ => true) true n 38 cs = some x) : ∃ d : Sd, cs = d.cells.toList ∧ d.Fit := by
  obtain ⟨xs, m, _, _, hl, hlen, hfs⟩ := DataW.trod_struct Tryz.underlying38 h
  rw [c38of] at hl
  have hlen : xs.length = 5 := hlen
  match xs, hlen, cs, hl with
  | [y0, y1, y2, y3, y4], _, [c0, c1, c2, c3, c4], _ =>
    have f0 : DataW.trod enc Tryz.prog W 0 (fun _ => true) true m 5 (([c0, c1, c2, c3, c4].drop 0).take (Tryz.prog.cellsOf 5)) = some y0 := hfs 0 _ rfl
    rw [c5of'] at f0
    have f1 : DataW.trod enc Tryz.prog W 0 (fun _ => true) true m 9 (([c0, c1, c2, c3, c4].drop 1).take (Tryz.prog.cellsOf 9)) = some y1 := hfs 1 _ rfl
    rw [c9of'] at f1
    have f2 : DataW.trod enc Tryz.prog W 0 (fun _ => true) true m 3 (([c0, c1, c2, c3, c4].drop 2).take (Tryz.prog.cellsOf 3)) = some y2 := hfs 2 _ rfl
    rw [c3of'] at f2
    have f3 : DataW.trod enc Tryz.prog W 0 (fun _ => true) true m 3 (([c0, c1, c2, c3, c4].drop 3).take (Tryz.prog.cellsOf 3)) = some y3 := hfs 3 _ rfl
    rw [c3of'] at f3
    have f4 : DataW.trod enc Tryz.prog W 0 (fun _ => true) true m 3 (([c0, c1, c2, c3, c4].drop 4).take (Tryz.prog.cellsOf 3)) = some y4 := hfs 4 _ rfl
    rw [c3of'] at f4
    obtain ⟨n0, e0, _, w0⟩ := DataW.trod_int Tryz.underlying5 f0
    obtain ⟨s1, e1, _, _⟩ := DataW.trod_string Tryz.underlying9 f1
    obtain ⟨n2, e2, _, w2⟩ := DataW.trod_int Tryz.underlying3 f2
    obtain ⟨n3, e3, _, w3⟩ := DataW.trod_int Tryz.underlying3 f3
    obtain ⟨n4, e4, _, w4⟩ := DataW.trod_int Tryz.underlying3 f4
    simp at e0 e1 e2 e3 e4
    subst e0 e1 e2 e3 e4
    exact ⟨⟨n0, s1, n2, n3, n4⟩, rfl, (wf8 w0).1, (wf8 w0).2, wf64 w2, wf64 w3, wf64 w4⟩
theorem open_sds {H : Type} {enc : TypeId × Value → H} {W : World} {ad : Option Addr} {n cap : Nat} {d : DataW H} {p : List MemPlace} (h : DataW.Trod enc Tryz.prog W 0 (fun _ => true) true 22 (.slice ad n cap) d p) : ∃ X, Sds W ad n X := by
  obtain ⟨fuel, hf⟩ := h
  rcases Deep.open_slice Tryz.underlying22 hf with ⟨hcs, _⟩ | ⟨a, len, cap', m, k, D, Pl, hcs, _, hl, _, hm, _, hx⟩
  · simp [Value.cells] at hcs
    obtain ⟨rfl, rfl, rfl⟩ := hcs
    exact ⟨fun _ => default, .inl rfl⟩
  · simp [Value.cells] at hcs
    obtain ⟨rfl, rfl, rfl⟩ := hcs
    have hm' : m = cap := by simpa using hm
    subst hm'
    rw [c38of] at hx
    rcases Nat.eq_zero_or_pos n with h0 | hp
    · exact ⟨fun _ => default, .inl h0⟩
    · have each : ∀ i, i < n → ∃ x : Sd, W.cells? 0 (a.add (i * 5)) 5 = some x.cells.toList ∧ x.Fit := fun i hi => by
        obtain ⟨cs', h1, h2⟩ := hx i (by omega)
        obtain ⟨x, e, r⟩ := open_sd h2
        exact ⟨x, by rw [h1, e], r⟩
      obtain ⟨X, hX⟩ := Deep.choose_lt each
      refine ⟨X, .inr ?_⟩
      obtain ⟨g, o, spot⟩ := a
      have hc : ∀ i, i < n → ∀ j, j < 5 → W.cell? ((⟨g, o, spot⟩ : Addr).add (i * 5 + j)) = (X i).cells.toList[j]? := fun i hi j hj => by
        obtain ⟨_, hlen, hcell⟩ := World.cells?_some (hX i hi).1
        have := hcell j hj
        rw [Deep.add_add] at this
        exact this
      have h00 := hc 0 hp 0 (by omega)
      have hspot : spot = none := by simpa [Addr.add] using World.cell?_spot (h00.trans rfl)
      subst hspot
      have hadd : ∀ k, (⟨g, o, none⟩ : Addr).add k = ⟨g, o + k, none⟩ := fun k => by
        unfold Addr.add
        split
        · rename_i e; rw [e]; rfl
        · rfl
      refine ⟨g, o, rfl, fun i hi => ⟨?_, (hX i hi).2⟩⟩
      have e0 := hc i hi 0 (by omega)
      have e1 := hc i hi 1 (by omega)
      have e2 := hc i hi 2 (by omega)
      have e3 := hc i hi 3 (by omega)
      have e4 := hc i hi 4 (by omega)
      rw [hadd] at e0 e1 e2 e3 e4
      exact ⟨e0, e1, e2, e3, e4⟩
def sdShort (x : Sd) : Bool := decide (x.s.size ≤ 300)
def smallOf (n : Nat) (X : Nat → Sd) : Bool := decide (n ≤ 60) && (List.range n).all fun i => sdShort (X i)
theorem small_iff {n : Nat} {X : Nat → Sd} : smallOf n X = true ↔ n ≤ 60 ∧ ∀ i, i < n → (X i).s.size ≤ 300 := by
  simp [smallOf, sdShort, List.all_eq_true]
set_option maxHeartbeats 1600000 in
theorem small_any (ad : Option Addr) (n cap : Nat) (X : Nat → Sd) (w : World) (h : Sds w ad n X) :
    Calls Tryz.prog 8 #[.slice ad n cap] w fun e w' => e = .returned (.bool (smallOf n X)) ∧ Below w.heap.size w w' := by
  by_cases h80 : 60 < n
  · have d1 : decide (60 < (n : Int)) = true := by simp; omega
    have e1 : smallOf n X = false := by unfold smallOf; rw [decide_eq_false (by omega)]; rfl
    rw [e1]
    go_enter Tryz.func8, Tryz.ntmps8
    go_wp2
    go_ret
    exact ⟨rfl, Below.refl _ _⟩
  · have d1 : decide (60 < (n : Int)) = false := by simp; omega
    have H := asd h
    have T1 : Aside ((∀ i, i < n → sdShort (X i) = true) → smallOf n X = true) := fun hh => by
      unfold smallOf
      rw [decide_eq_true (show n ≤ 60 by omega), Bool.true_and, List.all_eq_true]
      exact fun i hi => hh i (List.mem_range.1 hi)
    have T2 : Aside (∀ i, i < n → sdShort (X i) = false → smallOf n X = false) := fun i hi hs => by
      unfold smallOf
      have : (List.range n).all (fun i => sdShort (X i)) = false := by
        rw [List.all_eq_false]
        exact ⟨i, List.mem_range.2 hi, by rw [hs]; simp⟩
      rw [this, Bool.and_false]
    clear h
    go_enter Tryz.func8, Tryz.ntmps8
    go_wp2
    go_loopg [10, 4] n (fun gh s10 _ wr => ∃ k : Nat, n - k ≤ gh ∧ k ≤ n ∧ s10 = .int .i64 (k : Int) ∧ Below w.heap.size w wr ∧ Aside (∀ i, i < k → sdShort (X i) = true))
    case atStart => exact ⟨0, by omega, by omega, rfl, Below.refl _ _, (fun i hi => absurd hi (Nat.not_lt_zero _) : ∀ i, i < 0 → sdShort (X i) = true)⟩
    case round =>
      obtain ⟨k, hgh, hk, rfl, hb, I⟩ := hrel
      by_cases hlt : k < n
      · have q3 : decide (k < n) = true := by simpa using hlt
        rcases H.out with h0 | ⟨g, o, rfl, hc⟩
        · omega
        obtain ⟨⟨a0, a1, a2, a3, a4⟩, _⟩ := hc k hlt
        have b0 := Dk.cell_below a0 hb
        have b1 := Dk.cell_below a1 hb
        have b2 := Dk.cell_below a2 hb
        have b3 := Dk.cell_below a3 hb
        have b4 := Dk.cell_below a4 hb
        have hB := hb.alloc hb.size (.cells (X k).cells 38)
        unfold Sd.cells at hB
        clear a0 a1 a2 a3 a4 hc
        by_cases h1 : 300 < (X k).s.size
        · have q4 : decide (300 < ((X k).s.size : Int)) = true := by simp; omega
          have F : Aside (smallOf n X = false) := T2.out k hlt (by unfold sdShort; rw [decide_eq_false (by omega)])
          generalize X k = x at *
          go_wp2
          go_ret
          exact ⟨by rw [F.out]; rfl, hB⟩
        · have q4 : decide (300 < ((X k).s.size : Int)) = false := by simp; omega
          have I2 : Aside (∀ i, i < k + 1 → sdShort (X i) = true) := fun i hi => by
            by_cases e : i = k
            · subst e
              unfold sdShort
              rw [decide_eq_true (by omega)]
            · exact I.out i (by omega)
          clear I
          generalize X k = x at *
          go_wp2
          go_roundg (n - (k + 1))
          case measure => omega
          case rel => exact ⟨k + 1, Nat.le_refl _, by omega, by go_num, hB, I2⟩
      · obtain rfl : k = n := by omega
        have q3 : decide (k < k) = false := by simp
        have F : Aside (smallOf k X = true) := T1.out I.out
        clear I
        go_wp2
        go_ret
        exact ⟨by rw [F.out]; rfl, hb⟩
end Go.Proofs.YtajjcfacbnicnaaGreatDoor

/-
  The same texts.
-/
namespace Go.Proofs.YtajjcfacbnicnaaGreatDoor
open Go.RowKit
set_option maxRecDepth 100000
set_option maxHeartbeats 1600000 in
theorem same_yes (v1 v2 : Value) (l : List ByteArray) (w : World) (h1 : Fm.Strs w.heap.size v1 l w) (h2 : Fm.Strs w.heap.size v2 l w) (hl : l.length ≤ 1000000) :
    Calls Tryz.prog 19 #[v1, v2] w fun e w' => e = .returned (.bool true) ∧ Below w.heap.size w w' := by
  obtain ⟨a1, c1, rfl, hc1⟩ := h1
  obtain ⟨a2, c2, rfl, hc2⟩ := h2
  go_enter Tryz.func19, Tryz.ntmps19
  go_wp2
  go_loopg [13, 5] l.length (fun gh s13 _ wr => ∃ k : Nat, l.length - k ≤ gh ∧ k ≤ l.length ∧ s13 = .int .i64 (k : Int) ∧ Below w.heap.size w wr)
  case atStart => exact ⟨0, by omega, by omega, rfl, Below.refl _ _⟩
  case round =>
    obtain ⟨k, hgh, hk, rfl, hbw⟩ := hrel
    by_cases hp : k < l.length
    · obtain ⟨g1, o1, rfl, hg1, hcell1⟩ := hc1 k hp
      obtain ⟨g2, o2, rfl, hg2, hcell2⟩ := hc2 k hp
      rw [← hbw.cell (by exact hg1)] at hcell1
      rw [← hbw.cell (by exact hg2)] at hcell2
      have dk : decide (k < l.length) = true := by simpa using hp
      generalize l.getD k ⟨#[]⟩ = X at *
      clear hc1 hc2
      go_wp2
      go_quiet (fail)
      go_wp2
      go_roundg (l.length - (k + 1))
      case measure => omega
      case rel => exact ⟨k + 1, Nat.le_refl _, by omega, by go_num, hbw.trans ((drewN_below _ _).mono hbw.size)⟩
    · obtain rfl : k = l.length := by omega
      have dk : decide (l.length < l.length) = false := by simp
      clear hc1 hc2
      go_wp2
      go_ret
      exact ⟨rfl, hbw⟩
/-- A row that is owned, as texts. -/
theorem Fm.Strs.of_row {w : World} {base : Nat} {v : Value} {l : List ByteArray} (h : w.ownsRow base 9 1 v l.length (Fm.cellsS l)) : Fm.Strs w.heap.size v l w := Fm.Strs.of_own h
/-- The first so many texts. -/
theorem strs_take {B : Nat} {a : Option Addr} {n c : Nat} {l : List ByteArray} {w : World} (h : Fm.Strs B (.slice a n c) l w) {k : Nat} (hk : k ≤ l.length) (c' : Nat) : Fm.Strs B (.slice a k c') (l.take k) w := by
  obtain ⟨a', c2, e, hc⟩ := h
  injection e with e1 e2 e3
  subst e1
  have hl : (l.take k).length = k := by rw [List.length_take]; omega
  refine ⟨a, c', by rw [hl], fun j hj => ?_⟩
  rw [hl] at hj
  obtain ⟨g, o, h1, h2, h3⟩ := hc j (by omega)
  refine ⟨g, o, h1, h2, ?_⟩
  rw [h3, List.getD_eq_getElem?_getD, List.getD_eq_getElem?_getD, List.getElem?_take, if_pos hj]
end Go.Proofs.YtajjcfacbnicnaaGreatDoor

/-
  What a record more, and Sync, leave of the segments.
-/
namespace Go.Proofs.YtajjcfacbnicnaaGreatDoor
open Go.RowKit
set_option maxRecDepth 100000
theorem fr_list {x : ByteArray} (h : x.size ≤ 2000) : (fr x).data.toList = Fm.Fr.mk x.data.toList := by
  unfold fr Fm.mkS
  rw [if_neg (by omega)]
  rfl
theorem Inv.sureAll {s : Dk.St} {G : List Seg} (h : Inv s G) (hl : ∀ f ∈ s.files, f.name = nmL (G.length : Int) → f.sure = f.bytes.length) : ∀ f ∈ s.files, f.sure = f.bytes.length := fun f hf => by
  obtain ⟨i, hi, e⟩ := (h.names f.name).1 (mem_names hf)
  by_cases h1 : i + 1 < G.length
  · obtain ⟨g, h2, h3, _, h4⟩ := h.file i hi
    rw [file_uniq h.ok.rising.nodup hf h2 (by rw [e, h3])]
    exact h4 h1
  · refine hl f hf ?_
    rw [e, show (G.length : Int) = (i : Int) + 1 by omega]
/-- A new segment. -/
theorem Inv.new {s : Dk.St} {G : List Seg} (h : Inv s G) (hp : s.power = true) (hs : ∀ f ∈ s.files, f.sure = f.bytes.length) {x : ByteArray} (hx : x.size ≤ 2000) (hG : G.length ≤ 15) (hr : s.total + (x.size + 10) ≤ s.room) :
    (Dk.opAppend s (nmL ((G.length : Int) + 1)) (fr x)).1 = 0 ∧ Inv (Dk.opAppend s (nmL ((G.length : Int) + 1)) (fr x)).2 (G ++ [[x.data.toList]]) ∧ (Dk.opAppend s (nmL ((G.length : Int) + 1)) (fr x)).2.total = s.total + (x.size + 10) ∧
    (Dk.opAppend s (nmL ((G.length : Int) + 1)) (fr x)).2.room = s.room ∧ (Dk.opAppend s (nmL ((G.length : Int) + 1)) (fr x)).2.down = false ∧ (Dk.opAppend s (nmL ((G.length : Int) + 1)) (fr x)).2.fused = s.fused := by
  have hz := fr_size hx
  have hno : nmL ((G.length : Int) + 1) ∉ s.names := fun hh => by
    have := (h.has (by omega) (by omega)).1 hh
    omega
  have hfull : s.full (nmL ((G.length : Int) + 1)) (fr x) = false := by
    unfold Dk.St.full
    rw [hz]
    have := h.cnt
    simp
    omega
  obtain ⟨a1, a2, a3, a4, a5, a6, a7, a8, a9, a10⟩ := app_files h.ok hp (nmL_may (by omega) (by omega)) hfull (by omega)
  rw [hz] at a6
  have e1 := a4 hno
  refine ⟨a1, ⟨h.ok.opAppend _ _, fun t => ?_, fun i hi => ?_, fun g hg y hy => ?_, ?_⟩, a6, a8, a9, a10⟩
  · rw [a5, h.names]
    constructor
    · rintro (⟨i, hi, rfl⟩ | rfl)
      · exact ⟨i, by rw [List.length_append]; omega, rfl⟩
      · exact ⟨G.length, by simp, rfl⟩
    · rintro ⟨i, hi, rfl⟩
      rw [List.length_append] at hi
      simp at hi
      by_cases h1 : i < G.length
      · exact .inl ⟨i, h1, rfl⟩
      · rw [show i = G.length by omega]
        exact .inr rfl
  · rw [List.length_append] at hi
    simp at hi
    by_cases h1 : i < G.length
    · obtain ⟨f, h2, h3, h4, _⟩ := h.file i h1
      refine ⟨f, a2 f h2 (fun e => hno (by rw [← e]; exact mem_names h2)), h3, ?_, fun _ => hs f h2⟩
      rw [List.getElem_append_left h1]
      exact h4
    · obtain rfl : i = G.length := by omega
      refine ⟨_, e1, rfl, ?_, fun hh => ?_⟩
      · rw [List.getElem_append_right (Nat.le_refl _)]
        simp only [Nat.sub_self, List.getElem_cons_zero, Fm.Fr.mks_one]
        exact fr_list hx
      · rw [List.length_append] at hh
        simp at hh
  · rcases List.mem_append.1 hg with hg | hg
    · exact h.short g hg y hy
    · rw [List.mem_singleton.1 hg] at hy
      rw [List.mem_singleton.1 hy]
      exact hx
  · rw [a7, Dk.has_not.2 hno, List.length_append, h.cnt]
    rfl
/-- One record more in the last segment. -/
theorem Inv.more {s : Dk.St} {D : List Seg} {g : Seg} (h : Inv s (D ++ [g])) (hp : s.power = true) {x : ByteArray} (hx : x.size ≤ 2000) (hr : s.total + (x.size + 10) ≤ s.room) :
    (Dk.opAppend s (nmL ((D.length : Int) + 1)) (fr x)).1 = 0 ∧ Inv (Dk.opAppend s (nmL ((D.length : Int) + 1)) (fr x)).2 (D ++ [g ++ [x.data.toList]]) ∧ (Dk.opAppend s (nmL ((D.length : Int) + 1)) (fr x)).2.total = s.total + (x.size + 10) ∧
    (Dk.opAppend s (nmL ((D.length : Int) + 1)) (fr x)).2.room = s.room ∧ (Dk.opAppend s (nmL ((D.length : Int) + 1)) (fr x)).2.down = false ∧ (Dk.opAppend s (nmL ((D.length : Int) + 1)) (fr x)).2.fused = s.fused := by
  have hz := fr_size hx
  have hlen : (D ++ [g]).length = D.length + 1 := by simp
  have hD : D.length < (D ++ [g]).length := by omega
  have hfew := h.few
  obtain ⟨f, h2, h3, h4, _⟩ := h.file D.length hD
  rw [List.getElem_append_right (Nat.le_refl _)] at h4
  simp only [Nat.sub_self, List.getElem_cons_zero] at h4
  have hin : nmL ((D.length : Int) + 1) ∈ s.names := by rw [← h3]; exact mem_names h2
  have hfull : s.full (nmL ((D.length : Int) + 1)) (fr x) = false := by
    unfold Dk.St.full
    rw [hz, Dk.has_iff.2 hin]
    simp
    omega
  obtain ⟨a1, a2, a3, a4, a5, a6, a7, a8, a9, a10⟩ := app_files h.ok hp (nmL_may (by omega) (by omega)) hfull (by omega)
  rw [hz] at a6
  refine ⟨a1, ⟨h.ok.opAppend _ _, fun t => ?_, fun i hi => ?_, fun y hy z hz => ?_, ?_⟩, a6, a8, a9, a10⟩
  · rw [a5, h.names]
    have hl2 : (D ++ [g ++ [x.data.toList]]).length = (D ++ [g]).length := by simp
    rw [hl2]
    constructor
    · rintro (h1 | rfl)
      · exact h1
      · exact ⟨D.length, hD, rfl⟩
    · exact .inl
  · have hi2 : i < (D ++ [g]).length := by simpa using hi
    by_cases h1 : i < D.length
    · obtain ⟨f', k2, k3, k4, k5⟩ := h.file i hi2
      refine ⟨f', a2 f' k2 (fun e => ?_), k3, ?_, fun _ => k5 (by omega)⟩
      · have := nmL_inj (k3.symm.trans e) (by omega) (by omega)
        omega
      · rw [List.getElem_append_left h1] at k4 ⊢
        exact k4
    · obtain rfl : i = D.length := by omega
      refine ⟨_, a3 f h2 h3, rfl, ?_, fun hh => ?_⟩
      · rw [List.getElem_append_right (Nat.le_refl _)]
        simp only [Nat.sub_self, List.getElem_cons_zero, Fm.Fr.mks_app, Fm.Fr.mks_one]
        rw [h4, fr_list hx]
      · simp at hh
  · rcases List.mem_append.1 hy with hy | hy
    · exact h.short y (List.mem_append_left _ hy) z hz
    · rw [List.mem_singleton.1 hy] at hz
      rcases List.mem_append.1 hz with hz | hz
      · exact h.short g (by simp) z hz
      · rw [List.mem_singleton.1 hz]
        exact hx
  · rw [a7, Dk.has_iff.2 hin, h.cnt]
    simp
/-- The last segment is sure. -/
theorem Inv.sync {s : Dk.St} {D : List Seg} {g : Seg} (h : Inv s (D ++ [g])) (hp : s.power = true) :
    (Dk.opSync s (nmL ((D.length : Int) + 1))).1 = 0 ∧ Inv (Dk.opSync s (nmL ((D.length : Int) + 1))).2 (D ++ [g]) ∧ (∀ f ∈ (Dk.opSync s (nmL ((D.length : Int) + 1))).2.files, f.sure = f.bytes.length) ∧ (Dk.opSync s (nmL ((D.length : Int) + 1))).2.total = s.total ∧
    (Dk.opSync s (nmL ((D.length : Int) + 1))).2.room = s.room ∧ (Dk.opSync s (nmL ((D.length : Int) + 1))).2.down = false ∧ (Dk.opSync s (nmL ((D.length : Int) + 1))).2.fused = s.fused := by
  have hlen : (D ++ [g]).length = D.length + 1 := by simp
  have hD : D.length < (D ++ [g]).length := by omega
  have hfew := h.few
  obtain ⟨f, h2, h3, h4, _⟩ := h.file D.length hD
  obtain ⟨a1, a2, a3, a4, a5, a6, a7, a8⟩ := syn_files h.ok hp h2 h3
  have hnm := names_sync s (nmL ((D.length : Int) + 1))
  have I : Inv (Dk.opSync s (nmL ((D.length : Int) + 1))).2 (D ++ [g]) := by
    refine ⟨h.ok.opSync _, fun t => by rw [hnm]; exact h.names t, fun i hi => ?_, h.short, by rw [a5, h.cnt]⟩
    by_cases h1 : i < D.length
    · obtain ⟨f', k2, k3, k4, k5⟩ := h.file i hi
      refine ⟨f', a2 f' k2 (fun e => ?_), k3, k4, k5⟩
      have := nmL_inj (k3.symm.trans e) (by omega) (by omega)
      omega
    · obtain rfl : i = D.length := by omega
      exact ⟨_, a3, rfl, h4, fun _ => rfl⟩
  refine ⟨a1, I, I.sureAll fun f' hf' hn' => ?_, a4, a6, a7, a8⟩
  rw [hlen] at hn'
  rw [file_uniq I.ok.rising.nodup hf' a3 (by rw [hn']; push_cast; rfl)]
end Go.Proofs.YtajjcfacbnicnaaGreatDoor
